import PyProof.Rows.All
import Wide.All
import OpenK.AllK
import Wide.FinOn
import HandS.ForMost
import HandS.IsInst
import HandS.TupAny
import HandS.TupMul
import HandS.CallLocal
import HandS.Conv
import HandS.Zip
import HandS.Style
import HandS.Deep
import HandS.Exc
import HandS.TryOnly
import HandS.WordsExc
import HandS.Lambda
import KE.GoesMore
import KE.GoesEnum
import KE.KNestM
import HandS.EndTab
import HandS.SortInts
import KE.KSortedM
import HandS.ExcInit
import HandS.ExcOwn
import HandS.ExcField
import HandS.ExcIs
import KE.KExcIs
import HandS.FStr
import HandS.RaiseMore
import HandS.Gcd
import HandS.Struct
import HandS.Nested
import HandS.TupSets
import HandS.SetFor
import HandS.SortKw
import KE.DataMinMax
import HandS.Dict
import PyProof.AutoSeq1
import PyProof.ListRange
import HandS.Sort
import KE.KTurns
import HandS.Wide
import HandS.Iter
import HandS.Small
import HandS.More
import HandS.WordsDict
import HandS.SetKeys
import HandS.NoneIn
import HandS.RepeatKit
import HandS.Strs
import KE.RegKIsAll
import PySem.Challenge.RW_chipfloor_k76_whole_counts_of_slicing_or
set_option Elab.async false
set_option linter.all false
set_option maxRecDepth 100000
set_option autoImplicit false
/-! The layer of data: values without addresses, mutable lists as numbered cells of a store, a program's defs as Lean functions of data. -/
namespace DL
open PySem PySem.Spec PyProof.Rows L2

/-- a value without addresses; fn: a def of the module, by its name -/
inductive D where
  | non | bl (b : Bool) | int (i : Int) | str (x : Str) | tup (ds : List D) | lst (ds : List D) | rol (ds : List D) | fn (n : Str) | rng (lo hi : Int) | ptp (ds : List D) | dck (ks : List L2.Key) (vs : List D) | dct (ks : List (List L2.Key)) (vs : List D)
/-- an exception: its class's name, its one field -/
structure Exn where
  cls : Str
  arg : Option (Str × D)
/-- what a slot holds: a value, a cell of the store (a list that is changed), a caught exception -/
inductive EV where
  | v (d : D) | cel (n : Nat) | exn (x : Exn)
  /-- a lambda handed over, what its captured cells hold -/
  | lam (ws : List (Option V)) (ds : List (Option D))
  /-- a list that never changes, of cells that do -/
  | cls (ns : List Nat)
inductive Cell where
  | lst (ds : List D)
  /-- a dict of ints and texts -/
  | dk (kvs : List (L2.Key × D))
  /-- a dict whose keys are tuples of ints -/
  | dt (kvs : List (List L2.Key × D))
abbrev Env := List (Option EV)
abbrev Store := List (Option Cell)
inductive Out (α : Type) where
  | ok (a : α) (S : Store) | ex (x : Exn) (S : Store) | bad
def Out.bind {α β : Type} (o : Out α) (k : α → Store → Out β) : Out β := match o with
  | .ok a S => k a S
  | .ex x S => .ex x S
  | .bad => .bad
inductive Ctl where
  | nx | rt (d : D) | bk | ct | ex (x : Exn)
abbrev DEn := Env → Store → Out D
abbrev DTn := Env → Store → Out Bool
abbrev DAn := Env → Store → Out (List EV)
abbrev DSn := Env → Store → Out (Ctl × Env)
abbrev Den := List EV → Store → Out D

/-- the written part and the module's names -/
structure Gd where
  K : PySem.W.Frag
  mg : Str → Option Value
  xi : Option (Addr × Value × Option Addr)
/-- a tuple as the heap tells it itself (not by way of a known object), or a constant of the program -/
def SqE (K : PySem.W.Frag) (H : Hp) (a : Addr) (xs : List V) : Prop := Rd H a (.tup xs) ∨ ∃ (o : Obj) (its : Array Value) (n : Nat), K.lookup a = some o ∧ o.cls = .type "tuple" ∧ o.data = .seq its n ∧ its.size ≤ sizeLine ∧ Vals xs its.toList
theorem SqE.of {K : PySem.W.Frag} {H : Hp} {a : Addr} {xs : List V} (h : H a = some (.tup xs)) : SqE K H a xs := .inl (.inl h)
theorem SqE.sqT {K : PySem.W.Frag} {H : Hp} {a : Addr} {xs : List V} (h : SqE K H a xs) : SqT K H a xs := by
  rcases h with h | h
  · exact .inl h
  · exact .inr h
/-- an instance: its class, its attributes' names (told as the keys of D.dct) -/
def strsK : List (List L2.Key) → Option (List Str)
  | [] => some []
  | [.inr n] :: r => (strsK r).map (n :: ·)
  | _ => none
def insN : List (List L2.Key) → Option (Str × List Str)
  | [.inr x] :: r => (strsK r).map fun ns => (x, ns)
  | _ => none
mutual
inductive Rep (G : Gd) (HF : Hp) : V → D → Prop
  | non : Rep G HF .non .non
  | bl (b : Bool) : Rep G HF (.bl b) (.bl b)
  | int (i : Int) : Rep G HF (.int i) (.int i)
  | str (x : Str) : Rep G HF (.str x) (.str x)
  | tup {a : Addr} {xs : List V} {ds : List D} : SqE G.K HF a xs → Reps G HF xs ds → Rep G HF (.ref a) (.tup ds)
  | lst {a : Addr} {xs : List V} {ds : List D} : HF a = some (.lst xs) → Reps G HF xs ds → Rep G HF (.ref a) (.lst ds)
  | rol {a : Addr} {xs : List V} {ds : List D} : SqL G.K HF a xs → Reps G HF xs ds → Rep G HF (.ref a) (.rol ds)
  | fn {a : Addr} {n : Str} : G.mg n = some (.ref a) → Rep G HF (.ref a) (.fn n)
  | rng {a : Addr} {lo hi : Int} : HF a = some (.rng lo hi) → Rep G HF (.ref a) (.rng lo hi)
  | ptp {a : Addr} {o : Obj} {xs : List V} {ds : List D} : HF a = some (.frz o (.tup xs)) → o.dict = none → Reps G HF xs ds → Rep G HF (.ref a) (.ptp ds)
  | dck {a : Addr} {od : Obj} {us : List (L2.Key × V)} {ks : List L2.Key} {vs : List V} {ds : List D} : HF a = some (.frz od (.dK us)) → us.map (·.1) = ks → us.map (·.2) = vs → Reps G HF vs ds → Rep G HF (.ref a) (.dck ks ds)
  | dct {a C dx : Addr} {x : Str} {ns : List Str} {ks : List (List L2.Key)} {vs : List V} {ds : List D} : insN ks = some (x, ns) → HF a = some (.ins C dx (ns.zip vs)) → G.mg x = some (.ref C) → vs.length = ns.length → Reps G HF vs ds → Rep G HF (.ref a) (.dct ks ds)
inductive Reps (G : Gd) (HF : Hp) : List V → List D → Prop
  | nil : Reps G HF [] []
  | cons {v : V} {vs : List V} {d : D} {ds : List D} : Rep G HF v d → Reps G HF vs ds → Reps G HF (v :: vs) (d :: ds)
end
theorem Rd.mono {H H' : Hp} {a : Addr} {u : HO} (e : Same H H') (h : Rd H a u) : Rd H' a u := by
  rcases h with h | ⟨o, h⟩
  · exact .inl (e _ _ h)
  · exact .inr ⟨o, e _ _ h⟩
theorem SqE.mono {K : PySem.W.Frag} {H H' : Hp} {a : Addr} {xs : List V} (e : Same H H') (h : SqE K H a xs) : SqE K H' a xs := by
  rcases h with h | h
  · exact .inl (Rd.mono e h)
  · exact .inr h
theorem SqT.mono {K : PySem.W.Frag} {H H' : Hp} {a : Addr} {xs : List V} (e : Same H H') (h : SqE K H a xs) : SqT K H' a xs := (SqE.mono e h).sqT
mutual
theorem Rep.mono {G : Gd} {H H' : Hp} (e : Same H H') : ∀ {d : D} {v : V}, Rep G H v d → Rep G H' v d
  | .non, _, h => by cases h; exact .non
  | .bl _, _, h => by cases h; exact .bl _
  | .int _, _, h => by cases h; exact .int _
  | .str _, _, h => by cases h; exact .str _
  | .tup ds, _, h => by
    cases h with
    | tup hs hr => exact .tup (SqE.mono e hs) (Reps.mono e hr)
  | .lst ds, _, h => by
    cases h with
    | lst hs hr => exact .lst (e _ _ hs) (Reps.mono e hr)
  | .rol ds, _, h => by
    cases h with
    | rol hs hr => exact .rol (e.seq hs) (Reps.mono e hr)
  | .fn _, _, h => by
    cases h with
    | fn hs => exact .fn hs
  | .rng _ _, _, h => by
    cases h with
    | rng hs => exact .rng (e _ _ hs)
  | .ptp ds, _, h => by
    cases h with
    | ptp h1 h2 h3 => exact .ptp (e _ _ h1) h2 (Reps.mono e h3)
  | .dck _ ds, _, h => by
    cases h with
    | dck h1 h2 h3 h4 => exact .dck (e _ _ h1) h2 h3 (Reps.mono e h4)
  | .dct _ ds, _, h => by
    cases h with
    | dct h1 h2 h3 h4 h5 => exact .dct h1 (e _ _ h2) h3 h4 (Reps.mono e h5)
theorem Reps.mono {G : Gd} {H H' : Hp} (e : Same H H') : ∀ {ds : List D} {vs : List V}, Reps G H vs ds → Reps G H' vs ds
  | [], _, h => by cases h; exact .nil
  | d :: ds, _, h => by
    cases h with
    | cons h1 h2 => exact .cons (Rep.mono e h1) (Reps.mono e h2)
end
section
variable {G : Gd} {H : Hp}
theorem Reps.length : ∀ {ds : List D} {vs : List V}, Reps G H vs ds → vs.length = ds.length
  | [], _, h => by cases h; rfl
  | d :: ds, _, h => by
    cases h with
    | cons h1 h2 => simp [Reps.length h2]
theorem Reps.get : ∀ {ds : List D} {vs : List V} {i : Nat} {d : D}, Reps G H vs ds → ds[i]? = some d → ∃ v, vs[i]? = some v ∧ Rep G H v d
  | [], _, _, _, _, e => by simp at e
  | d :: ds, _, 0, _, h, e => by
    cases h with
    | cons h1 h2 => simp at e; subst e; exact ⟨_, rfl, h1⟩
  | d :: ds, _, i + 1, _, h, e => by
    cases h with
    | cons h1 h2 =>
      obtain ⟨v, e1, r⟩ := Reps.get (i := i) h2 (by simpa using e)
      exact ⟨v, by simpa using e1, r⟩
theorem Reps.get' : ∀ {ds : List D} {vs : List V} {i : Nat} {v : V}, Reps G H vs ds → vs[i]? = some v → ∃ d, ds[i]? = some d ∧ Rep G H v d := by
  intro ds vs i v h e
  have hl := h.length
  have hi : i < ds.length := by rw [← hl]; exact (List.getElem?_eq_some_iff.mp e).1
  obtain ⟨v', e', r⟩ := h.get (List.getElem?_eq_getElem hi)
  rw [e] at e'; cases e'
  exact ⟨_, List.getElem?_eq_getElem hi, r⟩
theorem Reps.append : ∀ {ds es : List D} {vs ws : List V}, Reps G H vs ds → Reps G H ws es → Reps G H (vs ++ ws) (ds ++ es)
  | [], _, _, _, h, k => by cases h; exact k
  | d :: ds, _, _, _, h, k => by
    cases h with
    | cons h1 h2 => exact .cons h1 (Reps.append h2 k)
theorem Reps.take : ∀ {ds : List D} {vs : List V} (n : Nat), Reps G H vs ds → Reps G H (vs.take n) (ds.take n)
  | _, _, 0, _ => .nil
  | [], _, n + 1, h => by cases h; exact .nil
  | d :: ds, _, n + 1, h => by
    cases h with
    | cons h1 h2 => exact .cons h1 (Reps.take n h2)
theorem Reps.drop : ∀ {ds : List D} {vs : List V} (n : Nat), Reps G H vs ds → Reps G H (vs.drop n) (ds.drop n)
  | _, _, 0, h => h
  | [], _, n + 1, h => by cases h; exact .nil
  | d :: ds, _, n + 1, h => by
    cases h with
    | cons h1 h2 => exact Reps.drop n h2
theorem Reps.set : ∀ {ds : List D} {vs : List V} {v : V} {d : D} (n : Nat), Reps G H vs ds → Rep G H v d → Reps G H (vs.set n v) (ds.set n d)
  | [], _, _, _, _, h, _ => by cases h; exact .nil
  | d :: ds, _, _, _, 0, h, r => by
    cases h with
    | cons h1 h2 => exact .cons r h2
  | d :: ds, _, _, _, n + 1, h, r => by
    cases h with
    | cons h1 h2 => exact .cons h1 (Reps.set n h2 r)
theorem Reps.erase : ∀ {ds : List D} {vs : List V} (n : Nat), Reps G H vs ds → Reps G H (vs.eraseIdx n) (ds.eraseIdx n)
  | [], _, _, h => by cases h; exact .nil
  | d :: ds, _, 0, h => by
    cases h with
    | cons h1 h2 => exact h2
  | d :: ds, _, n + 1, h => by
    cases h with
    | cons h1 h2 => exact .cons h1 (Reps.erase n h2)
theorem Reps.reverse : ∀ {ds : List D} {vs : List V}, Reps G H vs ds → Reps G H vs.reverse ds.reverse
  | [], _, h => by cases h; exact .nil
  | d :: ds, _, h => by
    cases h with
    | cons h1 h2 =>
      simp only [List.reverse_cons]
      exact Reps.append (Reps.reverse h2) (.cons h1 .nil)
theorem Reps.dropLast {ds : List D} {vs : List V} (h : Reps G H vs ds) : Reps G H vs.dropLast ds.dropLast := by
  rw [List.dropLast_eq_take, List.dropLast_eq_take, h.length]
  exact h.take _
end

/-- an exception in the heap: its class, its dict -/
def ExRep (G : Gd) (x : Exn) (HF : Hp) (cls : Value) (dd : Option Addr) : Prop :=
  ∃ C, G.mg x.cls = some (.ref C) ∧ cls = .ref C ∧ match x.arg with
    | none => dd = none
    | some (f, d) => ∃ a v, dd = some a ∧ HF a = some (.xd [(f, v)]) ∧ Rep G HF v d
theorem ExRep.mono {G : Gd} {H H' : Hp} {x : Exn} {cls : Value} {dd : Option Addr} (e : Same H H') (h : ExRep G x H cls dd) : ExRep G x H' cls dd := by
  obtain ⟨C, h1, h2, h3⟩ := h
  refine ⟨C, h1, h2, ?_⟩
  cases q : x.arg with
  | none => rw [q] at h3; exact h3
  | some p =>
    rw [q] at h3
    obtain ⟨a, v, k1, k2, k3⟩ := h3
    exact ⟨a, v, k1, e _ _ k2, Rep.mono e k3⟩
def CellAt (G : Gd) (H HF : Hp) (a : Addr) : Cell → Prop
  | .lst ds => ∃ vs, H a = some (.lst vs) ∧ Reps G HF vs ds
  | .dk kvs => ∃ us : List (L2.Key × V), H a = some (.dK us) ∧ us.map (·.1) = kvs.map (·.1) ∧ Reps G HF (us.map (·.2)) (kvs.map (·.2))
  | .dt kvs => ∃ us : List (List L2.Key × V), H a = some (.dT us) ∧ us.map (·.1) = kvs.map (·.1) ∧ Reps G HF (us.map (·.2)) (kvs.map (·.2))
theorem CellAt.up {G : Gd} {H HF H' HF' : Hp} {a : Addr} {c : Cell} (h : CellAt G H HF a c) (ha : H' a = H a) (hf : Same HF HF') : CellAt G H' HF' a c := by
  cases c with
  | lst ds =>
    obtain ⟨vs, q3, q4⟩ := h
    exact ⟨vs, by rw [ha]; exact q3, q4.mono hf⟩
  | dk kvs =>
    obtain ⟨us, q3, q5, q4⟩ := h
    exact ⟨us, by rw [ha]; exact q3, q5, q4.mono hf⟩
  | dt kvs =>
    obtain ⟨us, q3, q5, q4⟩ := h
    exact ⟨us, by rw [ha]; exact q3, q5, q4.mono hf⟩
/-- no table of code objects -/
def Nt (o : HO) : Prop := ∀ ps, o ≠ .tbl ps
/-- the kinds of objects that a numbered cell may be -/
def HMut : HO → Prop
  | .lst _ => True
  | .dK _ => True
  | .dT _ => True
  | .frz _ (.dK _) => True
  | _ => False
theorem HMut.nt {o : HO} (h : HMut o) : Nt o := fun ps e => by subst e; exact h
/-- how the law's lambdas are called -/
def lamq : Str := "law.<locals>.<lambda>"
/-- the defs whose lambdas the layer serves: how their lambdas are called -/
def makers : List (Str × Str) := [("law", lamq), ("check_nets", "check_nets.<locals>.<lambda>"), ("check_rules", "check_rules.<locals>.<lambda>"), ("check_circuit", "check_circuit.<locals>.<lambda>"), ("tight_row", "tight_row.<locals>.<lambda>"), ("better_side", "better_side.<locals>.<lambda>"), ("pushing_row", "pushing_row.<locals>.<lambda>"), ("pusher_of", "pusher_of.<locals>.<lambda>"), ("best_bush", "best_bush.<locals>.<lambda>"), ("bush_upon", "bush_upon.<locals>.<lambda>"), ("host_of", "host_of.<locals>.<lambda>"), ("spread", "spread.<locals>.<lambda>"), ("floor_options", "floor_options.<locals>.lone"), ("placed_floor", "placed_floor.<locals>.lone"), ("least_option", "least_option.<locals>.<lambda>"), ("best_word", "best_word.<locals>.<lambda>"), ("best_topology", "best_topology.<locals>.<lambda>"), ("names_for", "names_for.<locals>.<lambda>"), ("least_length", "least_length.<locals>.<lambda>"), ("least_width", "least_width.<locals>.<lambda>"), ("fewest_bends", "fewest_bends.<locals>.<lambda>"), ("two_layers", "two_layers.<locals>.<lambda>")]
/-- the tables of their code objects -/
def tabsOf (K : PySem.W.Frag) : List (Addr × Str) := makers.filterMap fun m => (PySem.W.tabIn K m.1).map fun t => (t.2, m.2)
theorem tabsOf_mem {K : PySem.W.Frag} {x q : Str} {c P : Addr} (hm : (x, q) ∈ makers) (et : PySem.W.tabIn K x = some (c, P)) : (P, q) ∈ tabsOf K :=
  List.mem_filterMap.mpr ⟨(x, q), hm, by rw [et]; rfl⟩
theorem tabsOf_of {K : PySem.W.Frag} {p : Addr × Str} (h : p ∈ tabsOf K) : ∃ x c, (x, p.2) ∈ makers ∧ PySem.W.tabIn K x = some (c, p.1) := by
  obtain ⟨m, hm, e⟩ := List.mem_filterMap.mp h
  cases q : PySem.W.tabIn K m.1 with
  | none => rw [q] at e; cases e
  | some t =>
    rw [q] at e
    cases e
    exact ⟨m.1, t.1, hm, q⟩
/-- no two of them have one table -/
def tabsOk (K : PySem.W.Frag) : Bool := (tabsOf K).all fun p => (tabsOf K).all fun q => !(p.1 == q.1) || (p.2 == q.2)
theorem tabsOk_of {K : PySem.W.Frag} (h : tabsOk K = true) {p q : Addr × Str} (hp : p ∈ tabsOf K) (hq : q ∈ tabsOf K) (e : p.1 = q.1) : p.2 = q.2 := by
  have h1 := List.all_eq_true.mp (List.all_eq_true.mp h p hp) q hq
  rw [e] at h1
  simpa using h1
/-- the tables tell code objects of lambdas alone -/
def TabG (G : Gd) (H HF : Hp) : Prop := ∀ p ∈ tabsOf G.K, ∃ ps : Array Value, H p.1 = some (.tbl ps) ∧ TriplesOk ps.toList ∧ ∀ (pos : Pos) (cv : Value), codeAmong pos ps.toList = some cv → ∃ c, cv = .ref c ∧ HF c = some (LamX.CodeO c p.2)
theorem TabG.up {G : Gd} {H HF H' HF' : Hp} (h : TabG G H HF) (ha : ∀ b ps, H b = some (.tbl ps) → H' b = some (.tbl ps)) (hf : Same HF HF') : TabG G H' HF' := fun p hp => by
  obtain ⟨ps, q1, q2, q3⟩ := h p hp
  refine ⟨ps, ha _ _ q1, q2, fun pos cv hc => ?_⟩
  obtain ⟨c, e1, e2⟩ := q3 pos cv hc
  exact ⟨c, e1, hf _ _ e2⟩
def RepE (G : Gd) (HF : Hp) (L : List Addr) (v : V) : EV → Prop
  | .v d => Rep G HF v d
  | .cel n => ∃ a, L[n]? = some a ∧ v = .ref a
  | .exn x => ∃ a cls dd, G.xi = some (a, cls, dd) ∧ v = .ref a ∧ ExRep G x HF cls dd
  | .lam ws ds => ∃ f q t c, G.xi = some (f, .str q t, some c) ∧ v = .ref f ∧ HF c = some (LamX.CodeO c q) ∧ ws.length = ds.length ∧ ∀ (j : Nat) (d : D), ds[j]? = some (some d) → ∃ u : V, ws[j]? = some (some u) ∧ Rep G HF u d
  | .cls ns => ∃ a xs, v = .ref a ∧ HF a = some (.lst xs) ∧ ∀ (j n : Nat), ns[j]? = some n → ∃ x, xs[j]? = some (.ref x) ∧ L[n]? = some x
/-- the heap H, its part HF that never changes, the cells at L, the slots -/
structure Rel (G : Gd) (H HF : Hp) (L : List Addr) (σ : L2.St) (ρ : Env) (S : Store) : Prop where
  sub : Same HF H
  nd : L.Nodup
  sl : S.length = L.length
  liv : ∀ a ∈ L, ∃ o, H a = some o ∧ HMut o
  tab : TabG G H HF
  nft : ∀ b ps, HF b ≠ some (.tbl ps)
  cell : ∀ (n : Nat) (a : Addr) (c : Cell), L[n]? = some a → S[n]? = some (some c) → HF a = none ∧ CellAt G H HF a c
  el : σ.length = ρ.length
  env : ∀ (i : Nat) (e : EV), ρ[i]? = some (some e) → ∃ v, σ[i]? = some (some v) ∧ RepE G HF L v e
structure Step (H HF : Hp) (L : List Addr) (H' HF' : Hp) (L' : List Addr) : Prop where
  keep : ∀ b o, b ∉ L → Nt o → H b = some o → H' b = some o
  nn : ∀ b o, Nt o → H b = some o → ∃ o', Nt o' ∧ H' b = some o'
  fro : Same HF HF'
  new : ∀ a o, a ∉ L → HF a = none → HMut o → H a = some o → HF' a = none
  ext : ∃ M, L' = L ++ M ∧ ∀ a ∈ M, ∀ o, Nt o → H a ≠ some o
theorem Step.refl {H HF : Hp} {L : List Addr} : Step H HF L H HF L := ⟨fun _ _ _ _ e => e, fun _ o n e => ⟨o, n, e⟩, Same.refl _, fun _ _ _ e _ _ => e, [], by simp, by simp⟩
theorem Step.trans {H HF H1 HF1 H2 HF2 : Hp} {L L1 L2 : List Addr} (a : Step H HF L H1 HF1 L1) (b : Step H1 HF1 L1 H2 HF2 L2) : Step H HF L H2 HF2 L2 := by
  obtain ⟨M1, e1, n1⟩ := a.ext
  obtain ⟨M2, e2, n2⟩ := b.ext
  have out : ∀ c o, c ∉ L → Nt o → H c = some o → c ∉ L1 := fun c o hc nt hn hm => by
    rw [e1] at hm
    rcases List.mem_append.mp hm with z | z
    · exact hc z
    · exact n1 c z o nt hn
  refine ⟨fun c o hc nt e => ?_, fun c o nt e => (let ⟨o1, nt1, e1⟩ := a.nn c o nt e; b.nn c o1 nt1 e1), a.fro.trans b.fro, fun c o hc e nt n => ?_, M1 ++ M2, by rw [e2, e1, List.append_assoc], fun c hc o nt => ?_⟩
  · exact b.keep c o (out c o hc nt e) nt (a.keep c o hc nt e)
  · exact b.new c o (out c o hc nt.nt n) (a.new c o hc e nt n) nt (a.keep c o hc nt.nt n)
  · rcases List.mem_append.mp hc with z | z
    · exact n1 c z o nt
    · intro q
      obtain ⟨o1, nt1, q1⟩ := a.nn c o nt q
      exact n2 c z o1 nt1 q1
theorem Step.lget {H HF H' HF' : Hp} {L L' : List Addr} (a : Step H HF L H' HF' L') {n : Nat} {x : Addr} (h : L[n]? = some x) : L'[n]? = some x := by
  obtain ⟨M, e, _⟩ := a.ext
  rw [e, List.getElem?_append_left (List.getElem?_eq_some_iff.mp h).1]
  exact h
theorem RepLam.mono {G : Gd} {HF HF' : Hp} {L L' : List Addr} (e : Same HF HF') {ws : List (Option V)} {ds : List (Option D)} {v : V} (h : RepE G HF L v (.lam ws ds)) : RepE G HF' L' v (.lam ws ds) := by
  obtain ⟨f, q, t, c, h1, h2, h3, h4, h5⟩ := h
  refine ⟨f, q, t, c, h1, h2, e _ _ h3, h4, fun j d hd => ?_⟩
  obtain ⟨u, k1, k2⟩ := h5 j d hd
  exact ⟨u, k1, Rep.mono e k2⟩
theorem RepCls.mono {G : Gd} {HF HF' : Hp} {L : List Addr} (e : Same HF HF') {ns : List Nat} {v : V} (h : RepE G HF L v (.cls ns)) : RepE G HF' L v (.cls ns) := by
  obtain ⟨b, xs, h1, h2, h3⟩ := h
  exact ⟨b, xs, h1, e _ _ h2, h3⟩
theorem RepCls.app {G : Gd} {HF : Hp} {L M : List Addr} {ns : List Nat} {v : V} (h : RepE G HF L v (.cls ns)) : RepE G HF (L ++ M) v (.cls ns) := by
  obtain ⟨b, xs, h1, h2, h3⟩ := h
  refine ⟨b, xs, h1, h2, fun j n hj => ?_⟩
  obtain ⟨x, g1, g2⟩ := h3 j n hj
  exact ⟨x, g1, by rw [List.getElem?_append_left (List.getElem?_eq_some_iff.mp g2).1]; exact g2⟩
theorem RepE.mono {G : Gd} {H HF H' HF' : Hp} {L L' : List Addr} (a : Step H HF L H' HF' L') : ∀ {e : EV} {v : V}, RepE G HF L v e → RepE G HF' L' v e
  | .v _, _, h => Rep.mono a.fro h
  | .cel _, _, ⟨x, h1, h2⟩ => ⟨x, a.lget h1, h2⟩
  | .exn _, _, ⟨b, cls, dd, h1, h2, h3⟩ => ⟨b, cls, dd, h1, h2, h3.mono a.fro⟩
  | .lam _ _, _, h => RepLam.mono a.fro h
  | .cls _, _, ⟨b, xs, h1, h2, h3⟩ => ⟨b, xs, h1, a.fro _ _ h2, fun j n hj => (let ⟨x, k1, k2⟩ := h3 j n hj; ⟨x, k1, a.lget k2⟩)⟩
/-- the argument list's representation -/
inductive RepEs (G : Gd) (HF : Hp) (L : List Addr) : List V → List EV → Prop
  | nil : RepEs G HF L [] []
  | cons {v : V} {vs : List V} {d : EV} {ds : List EV} : RepE G HF L v d → RepEs G HF L vs ds → RepEs G HF L (v :: vs) (d :: ds)
theorem RepEs.mono {G : Gd} {H HF H' HF' : Hp} {L L' : List Addr} (a : Step H HF L H' HF' L') : ∀ {es : List EV} {vs : List V}, RepEs G HF L vs es → RepEs G HF' L' vs es
  | [], _, h => by cases h; exact .nil
  | e :: es, _, h => by
    cases h with
    | cons h1 h2 => exact .cons (RepE.mono a h1) (RepEs.mono a h2)
theorem RepEs.length {G : Gd} {HF : Hp} {L : List Addr} : ∀ {es : List EV} {vs : List V}, RepEs G HF L vs es → vs.length = es.length
  | [], _, h => by cases h; rfl
  | d :: ds, _, h => by
    cases h with
    | cons h1 h2 => simp [RepEs.length h2]

section
variable {G : Gd} {H HF : Hp} {L : List Addr} {σ : L2.St} {ρ : Env} {S : Store}
theorem Rel.live (R : Rel G H HF L σ ρ S) {a : Addr} (ha : a ∈ L) : H a ≠ none := by
  obtain ⟨o, e, _⟩ := R.liv a ha
  rw [e]; simp
theorem Rel.out (R : Rel G H HF L σ ρ S) {p : Addr} (hp : H p = none) : p ∉ L := fun z => R.live z hp
theorem nft_upd {HF : Hp} {p : Addr} {o : HO} (h : ∀ b ps, HF b ≠ some (.tbl ps)) (ho : Nt o) : ∀ b ps, upd HF p o b ≠ some (.tbl ps) := fun b ps e => by
  by_cases hb : b = p
  · subst hb; rw [upd_same] at e; cases e; exact ho _ rfl
  · rw [upd_ne hb] at e; exact h b ps e
theorem nt_new {p : Addr} {o : HO} (hp : H p = none) : ∀ b ps, H b = some (.tbl ps) → upd H p o b = some (.tbl ps) := fun b ps e => by rw [upd_ne (ne_of_none e hp)]; exact e
theorem nt_upd {p : Addr} {o u : HO} (hp : H p = some u) (hn : Nt u) : ∀ b ps, H b = some (.tbl ps) → upd H p o b = some (.tbl ps) := fun b ps e => by
  have ne : b ≠ p := fun z => by rw [z, hp] at e; cases e; exact hn _ rfl
  rw [upd_ne ne]; exact e
theorem nn_upd {p : Addr} {o : HO} (ho : Nt o) : ∀ b u, Nt u → H b = some u → ∃ o', Nt o' ∧ upd H p o b = some o' := fun b u nu e => by
  by_cases hb : b = p
  · subst hb; exact ⟨o, ho, upd_same⟩
  · exact ⟨u, nu, by rw [upd_ne hb]; exact e⟩
theorem Rel.hf (R : Rel G H HF L σ ρ S) {p : Addr} (hp : H p = none) : HF p = none := by
  cases q : HF p with
  | none => rfl
  | some o => rw [R.sub p o q] at hp; cases hp
theorem same_upd {p : Addr} {o : HO} (hp : H p = none) : Same H (upd H p o) := fun b u e => by rw [upd_ne (ne_of_none e hp)]; exact e
/-- a new object that never changes -/
theorem Rel.frozen (R : Rel G H HF L σ ρ S) {p : Addr} {o : HO} (hp : H p = none) (ho : Nt o := by intro _ h; cases h) : Rel G (upd H p o) (upd HF p o) L σ ρ S ∧ Step H HF L (upd H p o) (upd HF p o) L := by
  have hL := R.out hp
  have hF := R.hf hp
  have e : ∀ {n : Nat} {a : Addr}, L[n]? = some a → a ≠ p := fun h z => hL (by rw [← z]; exact List.mem_of_getElem? h)
  refine ⟨⟨fun b u q => ?_, R.nd, R.sl, fun a ha => ?_, R.tab.up (nt_new hp) (same_upd hF), nft_upd R.nft ho, fun n a c h1 h2 => ?_, R.el, fun i x h => ?_⟩, ⟨fun b u _ _ q => same_upd hp b u q, nn_upd ho, same_upd hF, fun a u _ q _ n => ?_, [], by simp, by simp⟩⟩
  · by_cases hb : b = p
    · subst hb; rw [upd_same] at q ⊢; exact q
    · rw [upd_ne hb] at q ⊢; exact R.sub b u q
  · rw [upd_ne (fun z => hL (by rw [← z]; exact ha))]; exact R.liv a ha
  · obtain ⟨q1, q2⟩ := R.cell n a c h1 h2
    have ne := e h1
    exact ⟨by rw [upd_ne ne]; exact q1, q2.up (upd_ne ne) (same_upd hF)⟩
  · obtain ⟨v, q1, q2⟩ := R.env i x h
    refine ⟨v, q1, ?_⟩
    cases x with
    | v d => exact Rep.mono (same_upd hF) q2
    | cel n => exact q2
    | exn x =>
      obtain ⟨b, cls, dd, k1, k2, k3⟩ := q2
      exact ⟨b, cls, dd, k1, k2, k3.mono (same_upd hF)⟩
    | lam ws ds => exact RepLam.mono (same_upd hF) q2
    | cls ns => exact RepCls.mono (same_upd hF) q2
  · rw [upd_ne (ne_of_none n hp)]; exact q
/-- a new list that will be changed -/
theorem Rel.fresh (R : Rel G H HF L σ ρ S) {p : Addr} {vs : List V} {ds : List D} (hp : H p = none) (hr : Reps G HF vs ds) :
    Rel G (upd H p (.lst vs)) HF (L ++ [p]) σ ρ (S ++ [some (.lst ds)]) ∧ Step H HF L (upd H p (.lst vs)) HF (L ++ [p]) := by
  have hL := R.out hp
  have hF := R.hf hp
  have e : ∀ {n : Nat} {a : Addr}, L[n]? = some a → a ≠ p := fun h z => hL (by rw [← z]; exact List.mem_of_getElem? h)
  refine ⟨⟨R.sub.trans (same_upd hp), ?_, by simp [R.sl], fun a ha => ?_, R.tab.up (nt_new hp) (Same.refl _), R.nft, fun n a c h1 h2 => ?_, R.el, fun i x h => ?_⟩, ⟨fun b u _ _ q => same_upd hp b u q, nn_upd (fun _ h => by cases h), Same.refl _, fun a _ _ q _ _ => q, [p], rfl, fun a ha o _ => by (have : a = p := by simpa using ha); subst this; rw [hp]; simp⟩⟩
  · rw [List.nodup_append]
    refine ⟨R.nd, by simp, fun a ha b hb => ?_⟩
    have : b = p := by simpa using hb
    subst this
    exact fun z => hL (z ▸ ha)
  · rcases List.mem_append.mp ha with z | z
    · rw [upd_ne (fun q => hL (by rw [← q]; exact z))]; exact R.liv a z
    · have : a = p := by simpa using z
      subst this; exact ⟨_, upd_same, trivial⟩
  · by_cases hn : n < L.length
    · rw [List.getElem?_append_left hn] at h1
      rw [List.getElem?_append_left (by rw [R.sl]; exact hn)] at h2
      obtain ⟨q1, q2⟩ := R.cell n a c h1 h2
      exact ⟨q1, q2.up (upd_ne (e h1)) (Same.refl _)⟩
    · have hn' : n = L.length := by
        have := (List.getElem?_eq_some_iff.mp h1).1
        simp at this; omega
      subst hn'
      rw [List.getElem?_append_right (Nat.le_refl _)] at h1
      rw [List.getElem?_append_right (by rw [R.sl]; exact Nat.le_refl _), R.sl] at h2
      simp at h1 h2
      subst h1; subst h2
      exact ⟨hF, vs, upd_same, hr⟩
  · obtain ⟨v, q1, q2⟩ := R.env i x h
    refine ⟨v, q1, ?_⟩
    cases x with
    | v d => exact q2
    | cel n =>
      obtain ⟨a, q3, q4⟩ := q2
      exact ⟨a, by rw [List.getElem?_append_left (List.getElem?_eq_some_iff.mp q3).1]; exact q3, q4⟩
    | exn x => exact q2
    | lam ws ds => exact q2
    | cls ns => exact RepCls.app q2
theorem nodup_get {α : Type} {l : List α} (hN : l.Nodup) {i j : Nat} {x : α} (a : l[i]? = some x) (b : l[j]? = some x) : i = j := nd_ix hN a b
/-- a cell is written -/
theorem Rel.write (R : Rel G H HF L σ ρ S) {n : Nat} {a : Addr} {c : Cell} {vs : List V} {ds : List D} (h1 : L[n]? = some a) (h2 : S[n]? = some (some c)) (hr : Reps G HF vs ds) :
    Rel G (upd H a (.lst vs)) HF L σ ρ (S.set n (some (.lst ds))) ∧ Step H HF L (upd H a (.lst vs)) HF L := by
  have hm : a ∈ L := List.mem_of_getElem? h1
  have hn : n < L.length := (List.getElem?_eq_some_iff.mp h1).1
  obtain ⟨hF, _⟩ := R.cell n a c h1 h2
  obtain ⟨u0, hu0, hm0⟩ := R.liv a hm
  refine ⟨⟨fun b u q => ?_, R.nd, by simpa using R.sl, fun b hb => ?_, R.tab.up (nt_upd hu0 hm0.nt) (Same.refl _), R.nft, fun k b c' k1 k2 => ?_, R.el, R.env⟩, ⟨fun b u hb _ q => ?_, nn_upd (fun _ h => by cases h), Same.refl _, fun _ _ _ q _ _ => q, [], by simp, by simp⟩⟩
  · rw [upd_ne (ne_of_none q hF)]; exact R.sub b u q
  · by_cases hba : b = a
    · subst hba; exact ⟨_, upd_same, trivial⟩
    · rw [upd_ne hba]; exact R.liv b hb
  · by_cases hk : k = n
    · subst hk
      rw [h1] at k1; cases k1
      rw [List.getElem?_set_self (by rw [R.sl]; exact hn)] at k2
      cases k2
      exact ⟨hF, vs, upd_same, hr⟩
    · rw [List.getElem?_set_ne (Ne.symm hk)] at k2
      obtain ⟨q1, q2⟩ := R.cell k b c' k1 k2
      exact ⟨q1, q2.up (upd_ne (fun z => hk (nodup_get R.nd (by rw [← z]; exact k1) h1))) (Same.refl _)⟩
  · rw [upd_ne (fun z => hb (by rw [z]; exact hm))]; exact q
/-- a cell is given up: from now on it never changes -/
theorem Rel.freeze (R : Rel G H HF L σ ρ S) {n : Nat} {a : Addr} {ds : List D} (h1 : L[n]? = some a) (h2 : S[n]? = some (some (.lst ds))) :
    ∃ HF', Rel G H HF' L σ ρ (S.set n none) ∧ Step H HF L H HF' L ∧ Rep G HF' (.ref a) (.lst ds) := by
  have hm : a ∈ L := List.mem_of_getElem? h1
  have hn : n < L.length := (List.getElem?_eq_some_iff.mp h1).1
  obtain ⟨hF, vs, hv, hr⟩ := R.cell n a _ h1 h2
  refine ⟨upd HF a (.lst vs), ⟨fun b u q => ?_, R.nd, by simpa using R.sl, R.liv, R.tab.up (fun _ _ e => e) (same_upd hF), nft_upd R.nft (fun _ h => by cases h), fun k b c' k1 k2 => ?_, R.el, fun i x h => ?_⟩, ⟨fun _ _ _ _ q => q, fun _ o n q => ⟨o, n, q⟩, same_upd hF, fun b o hb q _ _ => ?_, [], by simp, by simp⟩, .lst upd_same (hr.mono (same_upd hF))⟩
  · by_cases hb : b = a
    · subst hb; rw [upd_same] at q; cases q; exact hv
    · rw [upd_ne hb] at q; exact R.sub b u q
  · by_cases hk : k = n
    · subst hk
      rw [List.getElem?_set_self (by rw [R.sl]; exact hn)] at k2
      cases k2
    · rw [List.getElem?_set_ne (Ne.symm hk)] at k2
      obtain ⟨q1, q2⟩ := R.cell k b c' k1 k2
      have ne : b ≠ a := fun z => hk (nodup_get R.nd (by rw [← z]; exact k1) h1)
      exact ⟨by rw [upd_ne ne]; exact q1, q2.up rfl (same_upd hF)⟩
  · obtain ⟨v, q1, q2⟩ := R.env i x h
    refine ⟨v, q1, ?_⟩
    cases x with
    | v d => exact Rep.mono (same_upd hF) q2
    | cel n => exact q2
    | exn x =>
      obtain ⟨b, cls, dd, k1, k2, k3⟩ := q2
      exact ⟨b, cls, dd, k1, k2, k3.mono (same_upd hF)⟩
    | lam ws ds => exact RepLam.mono (same_upd hF) q2
    | cls ns => exact RepCls.mono (same_upd hF) q2
  · rw [upd_ne (fun z => hb (by rw [z]; exact hm))]; exact q
/-- the list that grows, set aside -/
theorem Step.keepL {H1 HF1 : Hp} {L1 : List Addr} (st : Step H HF L H1 HF1 L1) {Dl : Addr} {o : HO} (hL : Dl ∉ L) (h : H Dl = some o) (ho : Nt o := by intro _ h; cases h) : Dl ∉ L1 := fun z => by
  obtain ⟨M, eM, nM⟩ := st.ext
  rw [eM] at z
  rcases List.mem_append.mp z with z | z
  · exact hL z
  · exact nM _ z o ho h
theorem Step.put {H1 HF1 : Hp} {L1 : List Addr} (st : Step H HF L H1 HF1 L1) {Dl : Addr} {o : HO} (hD : H Dl = none) (ho : Nt o := by intro _ h; cases h) : Step H HF L (upd H1 Dl o) HF1 L1 :=
  ⟨fun b o hb nt e => by rw [upd_ne (ne_of_none e hD)]; exact st.keep b o hb nt e, fun b u nu e => by
    obtain ⟨o1, n1, e1⟩ := st.nn b u nu e
    exact ⟨o1, n1, by rw [upd_ne (ne_of_none e hD)]; exact e1⟩, st.fro, st.new, st.ext⟩
/-- a slot is stored -/
theorem Rel.store (R : Rel G H HF L σ ρ S) {v : V} {e : EV} (r : RepE G HF L v e) (i : Nat) : Rel G H HF L (σ.set i (some v)) (ρ.set i (some e)) S := by
  refine ⟨R.sub, R.nd, R.sl, R.liv, R.tab, R.nft, R.cell, by simpa using R.el, fun j x h => ?_⟩
  by_cases hj : j = i
  · subst hj
    by_cases hl : j < ρ.length
    · rw [List.getElem?_set_self hl] at h
      cases h
      exact ⟨v, by rw [List.getElem?_set_self (by rw [R.el]; exact hl)], r⟩
    · rw [List.getElem?_eq_none (by simpa using hl)] at h; cases h
  · rw [List.getElem?_set_ne (Ne.symm hj)] at h ⊢
    exact R.env j x h
end

/-! ### what is wanted behind a piece -/
structure WD where
  w : Value → Option Addr → L2.St → Hp → Prop
  xi : Option (Addr × Value × Option Addr)
/-- the same, but nothing may be raised -/
def WD.z (W : WD) : WD := ⟨fun _ _ _ _ => False, W.xi⟩
/-- the same for every kind of answer: P says what the answer's representation is -/
def Post {α β : Type} (G : Gd) (W : WD) (σ : L2.St) (ρ : Env) (H HF : Hp) (L : List Addr) (P : Hp → List Addr → β → α → Prop) (Q : β → Hp → Prop) : Out α → Prop
  | .ok d S' => ∀ v H' HF' L', Step H HF L H' HF' L' → Rel G H' HF' L' σ ρ S' → P HF' L' v d → Q v H'
  | .ex x S' => ∀ cls dd H' HF' L', Step H HF L H' HF' L' → Rel G H' HF' L' σ ρ S' → ExRep G x HF' cls dd → W.w cls dd σ H'
  | .bad => False
theorem Post.step {α β : Type} {G : Gd} {W : WD} {σ : L2.St} {ρ : Env} {H HF H1 HF1 : Hp} {L L1 : List Addr} {P : Hp → List Addr → β → α → Prop} {Q : β → Hp → Prop} (st : Step H HF L H1 HF1 L1) :
    ∀ {o : Out α}, Post G W σ ρ H HF L P Q o → Post G W σ ρ H1 HF1 L1 P Q o
  | .ok d S', h => fun v H' HF' L' s2 => h v H' HF' L' (st.trans s2)
  | .ex x S', h => fun cls dd H' HF' L' s2 => h cls dd H' HF' L' (st.trans s2)
  | .bad, h => h
/-- from a piece to what follows it -/
theorem Post.bind {α β γ δ : Type} {G : Gd} {W : WD} {σ : L2.St} {ρ : Env} {H HF : Hp} {L : List Addr} {P : Hp → List Addr → β → α → Prop} {P2 : Hp → List Addr → δ → γ → Prop} {Q : δ → Hp → Prop} {Q1 : β → Hp → Prop} {k : α → Store → Out γ} :
    ∀ {o : Out α}, Post G W σ ρ H HF L P2 Q (o.bind k) →
      (∀ d S' v H' HF' L', o = .ok d S' → Step H HF L H' HF' L' → Rel G H' HF' L' σ ρ S' → P HF' L' v d → Post G W σ ρ H' HF' L' P2 Q (k d S') → Q1 v H') → Post G W σ ρ H HF L P Q1 o
  | .ok d S', h, f => fun v H' HF' L' st R r => f d S' v H' HF' L' rfl st R r (Post.step st h)
  | .ex x S', h, _ => h
  | .bad, h, _ => h
def RepB (HF : Hp) (L : List Addr) (b c : Bool) : Prop := b = c
def tD (G : Gd) (W : WD) (f : DEn) : TE := fun σ H Q => ∃ HF L ρ S, Rel G H HF L σ ρ S ∧ Post G W σ ρ H HF L (fun HF' _ v d => Rep G HF' v d) Q (f ρ S)
def tT (G : Gd) (W : WD) (f : DTn) : TT := fun σ H Q => ∃ HF L ρ S, Rel G H HF L σ ρ S ∧ Post G W σ ρ H HF L RepB Q (f ρ S)
def tA (G : Gd) (W : WD) (f : DAn) : TA := fun σ H Q => ∃ HF L ρ S, Rel G H HF L σ ρ S ∧ Post G W σ ρ H HF L (fun HF' L' vs es => RepEs G HF' L' vs es) Q (f ρ S)
def EndsD (G : Gd) (W : WD) (D : Ends) (HF' : Hp) (σ' : L2.St) (H' : Hp) : Ctl → Prop
  | .nx => D.nx σ' H'
  | .bk => D.bk σ' H'
  | .ct => D.ct σ' H'
  | .rt d => ∀ v, Rep G HF' v d → D.rt v H'
  | .ex x => ∀ cls dd, ExRep G x HF' cls dd → W.w cls dd σ' H'
def PostS (G : Gd) (W : WD) (H HF : Hp) (L : List Addr) (D : Ends) : Out (Ctl × DL.Env) → Prop
  | .ok cr S' => ∀ σ' H' HF' L', Step H HF L H' HF' L' → Rel G H' HF' L' σ' cr.2 S' → EndsD G W D HF' σ' H' cr.1
  | .ex _ _ => False
  | .bad => False
def tS (G : Gd) (W : WD) (f : DSn) : TS := fun D σ H => ∃ HF L ρ S, Rel G H HF L σ ρ S ∧ PostS G W H HF L D (f ρ S)
end DL

namespace DL
open PySem L2

abbrev gd (X : Cx) (W : WD) : Gd := ⟨X.K, X.mg, W.xi⟩
abbrev W0 : WD := ⟨fun _ _ _ _ => False, none⟩
theorem PE.imp {X : Cx} {e : Expr} {t t' : TE} (h : PE X e t) (k : ∀ σ H Q, t' σ H Q → t σ H Q) : PE X e t' := ⟨fun pins s σ H Q I q => h.run pins s σ H Q I (k σ H Q q)⟩
theorem PT.imp {X : Cx} {e : Expr} {t t' : TT} (h : PT X e t) (k : ∀ σ H Q, t' σ H Q → t σ H Q) : PT X e t' := ⟨fun pins s σ H Q I q => h.run pins s σ H Q I (k σ H Q q)⟩
theorem PW.imp {X : Cx} {e : Expr} {t t' : TT} (h : PW X e t) (k : ∀ σ H Q, t' σ H Q → t σ H Q) : PW X e t' := ⟨fun wh pins s σ H Q I q => h.run wh pins s σ H Q I (k σ H Q q)⟩
theorem PA.imp {X : Cx} {e : List Expr} {t t' : TA} (h : PA X e t) (k : ∀ σ H Q, t' σ H Q → t σ H Q) : PA X e t' := ⟨fun pos pins s σ H Q I q => h.run pos pins s σ H Q I (k σ H Q q)⟩
theorem PS.imp {X : Cx} {e : Stmt} {t t' : TS} (h : PS X e t) (k : ∀ D σ H, t' D σ H → t D σ H) : PS X e t' := ⟨fun pins s σ H D I q => h.run pins s σ H D I (k D σ H q)⟩
theorem PSs.imp {X : Cx} {e : List Stmt} {t t' : TS} (h : PSs X e t) (k : ∀ D σ H, t' D σ H → t D σ H) : PSs X e t' := ⟨fun pins s σ H D I q => h.run pins s σ H D I (k D σ H q)⟩
theorem OpR.or {X : Cx} {f : Value → Value → Sem Value} {r r' : R2} (h : OpR X f r) (h' : OpR X f r') : OpR X f (fun x y H Q => r x y H Q ∨ r' x y H Q) := by
  intro pins s σ H x y v u Q I rx ry q
  rcases q with q | q
  · exact h pins s σ H x y v u Q I rx ry q
  · exact h' pins s σ H x y v u Q I rx ry q
theorem SlR.or {X : Cx} {r r' : V → Option Int → Option Int → Hp → VK → Prop} (h : SlR X r) (h' : SlR X r') : SlR X (fun x l u H Q => r x l u H Q ∨ r' x l u H Q) := by
  intro pins s σ H x v vl vu lo hi sl Q I rx hs pl pu q
  rcases q with q | q
  · exact h pins s σ H x v vl vu lo hi sl Q I rx hs pl pu q
  · exact h' pins s σ H x v vl vu lo hi sl Q I rx hs pl pu q
theorem CallR.or {X : Cx} {f : Value} {r r' : List V → Hp → VK → Prop} (h : CallR X f r) (h' : CallR X f r') : CallR X f (fun xs H Q => r xs H Q ∨ r' xs H Q) := by
  intro pins s σ H xs us Q I rx q
  rcases q with q | q
  · exact h pins s σ H xs us Q I rx q
  · exact h' pins s σ H xs us Q I rx q

/-! ### what an operation may do to the heap: nothing, or one new object that never changes -/
inductive Al (H HF : Hp) : Hp → Hp → Prop
  | no : Al H HF H HF
  | new {p : Addr} {o : HO} (hp : H p = none) (ho : Nt o := by intro _ h; cases h) : Al H HF (upd H p o) (upd HF p o)
section
variable {G : Gd} {H HF H' HF' : Hp} {L : List Addr} {σ : L2.St} {ρ : Env} {S : Store}
theorem Rel.al (R : Rel G H HF L σ ρ S) (a : Al H HF H' HF') : Rel G H' HF' L σ ρ S ∧ Step H HF L H' HF' L := by
  cases a with
  | no => exact ⟨R, .refl⟩
  | new hp ho => exact R.frozen hp ho
end
def lift {α : Type} (o : Option α) (S : Store) : Out α := match o with
  | some d => .ok d S
  | none => .bad
theorem Post.lift {α β : Type} {G : Gd} {W : WD} {σ : L2.St} {ρ : Env} {H HF : Hp} {L : List Addr} {P : Hp → List Addr → β → α → Prop} {Q : β → Hp → Prop} {o : Option α} {S : Store} (h : Post G W σ ρ H HF L P Q (lift o S)) :
    ∃ d, o = some d ∧ Post G W σ ρ H HF L P Q (.ok d S) := by
  cases o with
  | none => exact h.elim
  | some d => exact ⟨d, rfl, h⟩
/-- the end of an operation: its answer in the heap behind it -/
theorem Post.done {α β : Type} {G : Gd} {W : WD} {σ : L2.St} {ρ : Env} {H HF H' HF' : Hp} {L : List Addr} {P : Hp → List Addr → β → α → Prop} {Q : β → Hp → Prop} {d : α} {S : Store} {v : β} (h : Post G W σ ρ H HF L P Q (.ok d S)) (R : Rel G H HF L σ ρ S)
    (a : Al H HF H' HF') (r : P HF' L v d) : Q v H' := h v H' HF' L (R.al a).2 (R.al a).1 r

/-! ### expressions: names, constants -/
section
variable {X : Cx} {W : WD} {pos : Pos}
abbrev DE (X : Cx) (W : WD) (e : Expr) (f : DEn) : Prop := PE X e (tD (gd X W) W f)
abbrev DT (X : Cx) (W : WD) (e : Expr) (f : DTn) : Prop := PT X e (tT (gd X W) W f)
abbrev DPW (X : Cx) (W : WD) (e : Expr) (f : DTn) : Prop := PW X e (tT (gd X W) W f)

def mVar (i : Nat) : DEn := fun ρ S => match ρ[i]? with
  | some (some (.v d)) => .ok d S
  | _ => .bad
theorem xv (i : Nat) {x : Str} (hN : X.N[i]? = some x := by rfl) (hv : Vis X.env.scope x := by first | exact Or.inl rfl | exact Or.inr (Or.inl rfl) | exact Or.inr (Or.inr rfl)) (hd : (x == ("__debug__" : Str)) = false := by decide)
    (hcd : (x == ("__classdict__" : Str)) = false := by decide) : DE X W (.Name x pos) (mVar i) := by
  refine PE.imp (pe_var (i := i) hN hv hd hcd) fun σ H Q ⟨HF, L, ρ, S, R, p⟩ => ?_
  unfold mVar at p
  split at p
  · rename_i d e
    obtain ⟨v, h1, h2⟩ := R.env i _ e
    exact ⟨v, h1, p.done R .no h2⟩
  · exact p.elim
def mC (d : D) : DEn := fun _ S => .ok d S
theorem xC {e : Expr} {v : V} {d : D} (h : PE X e (tC v)) (r : ∀ HF, Rep (gd X W) HF v d) : DE X W e (mC d) := PE.imp h fun σ H Q ⟨HF, L, ρ, S, R, p⟩ => p.done R .no (r HF)
theorem xint {i j} : DE X W (.Constant (.int i) j pos) (mC (.int i)) := xC pe_int fun _ => .int i
theorem xbl {b j} : DE X W (.Constant (.bool b) j pos) (mC (.bl b)) := xC pe_bl fun _ => .bl b
theorem xnon {j} : DE X W (.Constant .none j pos) (mC .non) := xC pe_non fun _ => .non
theorem xstr {x j} : DE X W (.Constant (.str x) j pos) (mC (.str x)) := xC pe_str fun _ => .str x
/-- a def's name as a value -/
theorem xfn {x : Str} {a : Addr} (hg : Gl X x) (hm : X.mg x = some (.ref a)) (hd : (x == ("__debug__" : Str)) = false := by decide) : DE X W (.Name x pos) (mC (.fn x)) := xC (pe_glob (v := .ref a) hg hm rfl hd) fun _ => .fn hm
/-- a module's constant -/
structure Kon (G : Gd) (x : Str) (d : D) : Prop where
  is : ∃ (v : V) (u : Value), G.mg x = some u ∧ RelV v u ∧ ∀ HF, Rep G HF v d
theorem xk {x : Str} {d : D} (k : Kon (gd X W) x d) (hg : Gl X x := by rfl) (hd : (x == ("__debug__" : Str)) = false := by decide) : DE X W (.Name x pos) (mC d) := by
  obtain ⟨v, u, h1, h2, h3⟩ := k.is
  exact xC (pe_glob hg h1 h2 hd) h3

/-! ### operations on two values -/
def mOp (g : D → D → Option D) (fa fb : DEn) : DEn := fun ρ S => (fa ρ S).bind fun x S1 => (fb ρ S1).bind fun y S2 => lift (g x y) S2
def OpS (G : Gd) (r : R2) (g : D → D → Option D) : Prop := ∀ (x y : D) (v w : V) (H HF : Hp) (d : D) (Q : VK), Same HF H → Rep G HF v x → Rep G HF w y → g x y = some d →
  (∀ u H' HF', Al H HF H' HF' → Rep G HF' u d → Q u H') → r v w H Q
variable {a b c : Expr} {fa fb fc : DEn}
/-- two operands, then what follows -/
theorem tD.two {r : R2} {g : D → D → Store → Out D} {σ : L2.St} {H : Hp} {Q : VK} (h : tD (gd X W) W (fun ρ S => (fa ρ S).bind fun x S1 => (fb ρ S1).bind fun y S2 => g x y S2) σ H Q)
    (k : ∀ x y v w H HF L ρ S, Rel (gd X W) H HF L σ ρ S → Rep (gd X W) HF v x → Rep (gd X W) HF w y → Post (gd X W) W σ ρ H HF L (fun HF' _ v d => Rep (gd X W) HF' v d) Q (g x y S) → r v w H Q) :
    tOp r (tD (gd X W) W fa) (tD (gd X W) W fb) σ H Q := by
  obtain ⟨HF, L, ρ, S, R, p⟩ := h
  refine ⟨HF, L, ρ, S, R, Post.bind p fun x S1 v H1 HF1 L1 e1 st1 R1 r1 p1 => ?_⟩
  refine ⟨HF1, L1, ρ, S1, R1, Post.bind p1 fun y S2 w H2 HF2 L2 e2 st2 R2 r2 p2 => ?_⟩
  exact k x y v w H2 HF2 L2 ρ S2 R2 (Rep.mono st2.fro r1) r2 p2
theorem tD.op {r : R2} {g : D → D → Option D} (hs : OpS (gd X W) r g) {σ : L2.St} {H : Hp} {Q : VK} (h : tD (gd X W) W (mOp g fa fb) σ H Q) : tOp r (tD (gd X W) W fa) (tD (gd X W) W fb) σ H Q :=
  tD.two h fun x y v w H HF L ρ S R rx ry p => by
    obtain ⟨d, e, p⟩ := p.lift
    exact hs x y v w H HF d Q R.sub rx ry e fun u H' HF' al r => p.done R al r
structure BOp (X : Cx) (W : WD) (op : Operator) (g : D → D → Option D) : Prop where
  has : ∃ r : R2, OpR X (binaryOp op) r ∧ OpS (gd X W) r g
theorem xop {op : Operator} {g : D → D → Option D} (o : BOp X W op g) (ha : DE X W a fa) (hb : DE X W b fb) : DE X W (.BinOp a op b pos) (mOp g fa fb) := by
  obtain ⟨r, h1, h2⟩ := o.has
  exact PE.imp (pe_op h1 ha hb) fun σ H Q h => tD.op h2 h

def lim : Nat := 1000000
theorem lim_le : lim ≤ sizeLine := by rw [sizeLine_eq]; decide
def gAdd : D → D → Option D
  | .int i, .int j => some (.int (i + j))
  | .tup a, .tup b => if a.length + b.length ≤ lim then some (.tup (a ++ b)) else none
  | .lst a, .lst b => if a.length + b.length ≤ lim then some (.lst (a ++ b)) else none
  | _, _ => none
theorem bAdd : BOp X W .Add gAdd := by
  refine ⟨_, OpR.or op_add (OpR.or (op_catA (X := X)) op_cat), fun x y v w H HF d Q sub rx ry e q => ?_⟩
  unfold gAdd at e
  split at e
  · cases rx; cases ry; cases e
    exact .inl ⟨_, _, rfl, rfl, q _ _ _ .no (.int _)⟩
  · split at e
    · rename_i a b hz
      cases e
      cases rx with
      | tup h1 r1 =>
        cases ry with
        | tup h2 r2 =>
          refine .inr (.inl ⟨_, _, _, _, rfl, rfl, SqT.mono sub h1, SqT.mono sub h2, ?_, fun e0 => ?_, fun _ e1 => ?_, fun _ _ p hp => ?_⟩)
          · rw [r1.length, r2.length]; exact Nat.le_trans hz lim_le
          · subst e0
            cases r1
            exact q _ _ _ .no (.tup h2 r2)
          · subst e1
            cases r2
            rw [List.append_nil] at *
            exact q _ _ _ .no (.tup h1 r1)
          · have hF : HF p = none := by
              cases z : HF p with
              | none => rfl
              | some o => rw [sub p o z] at hp; cases hp
            exact q _ _ _ (.new hp) (.tup (SqE.of upd_same) ((r1.append r2).mono (same_upd hF)))
    · cases e
  · split at e
    · rename_i a b hz
      cases e
      cases rx with
      | lst h1 r1 =>
        cases ry with
        | lst h2 r2 =>
          refine .inr (.inr ⟨_, _, _, _, rfl, rfl, sub _ _ h1, sub _ _ h2, ?_, fun p hp => ?_⟩)
          · rw [r1.length, r2.length]; exact Nat.le_trans hz lim_le
          · have hF : HF p = none := by
              cases z : HF p with
              | none => rfl
              | some o => rw [sub p o z] at hp; cases hp
            exact q _ _ _ (.new hp) (.lst upd_same ((r1.append r2).mono (same_upd hF)))
    · cases e
  · cases e
def gSub : D → D → Option D
  | .int i, .int j => some (.int (i - j))
  | _, _ => none
theorem bSub : BOp X W .Sub gSub := by
  refine ⟨_, op_sub, fun x y v w H HF d Q sub rx ry e q => ?_⟩
  unfold gSub at e
  split at e
  · cases rx; cases ry; cases e
    exact ⟨_, _, rfl, rfl, q _ _ _ .no (.int _)⟩
  · cases e
theorem free_of {H HF : Hp} (sub : Same HF H) {p : Addr} (hp : H p = none) : HF p = none := by
  cases z : HF p with
  | none => rfl
  | some o => rw [sub p o z] at hp; cases hp
theorem Reps.rep {G : Gd} {H : Hp} {vs : List V} {ds : List D} (r : Reps G H vs ds) : ∀ n : Nat, Reps G H (List.replicate n vs).flatten (List.replicate n ds).flatten
  | 0 => .nil
  | n + 1 => by
    rw [List.replicate_succ, List.replicate_succ, List.flatten_cons, List.flatten_cons]
    exact r.append (Reps.rep r n)
def gMul : D → D → Option D
  | .int i, .int j => if i.natAbs < 18446744073709551616 ∨ j.natAbs < 18446744073709551616 then some (.int (i * j)) else none
  | .tup a, .int k => if a ≠ [] ∧ 2 ≤ k ∧ k ≤ 1000 ∧ a.length ≤ 1000 then some (.tup (List.replicate k.toNat a).flatten) else none
  | .lst a, .int k => if k ≤ 1000 ∧ -1000 ≤ k ∧ a.length ≤ 1000 then some (.lst (List.replicate k.toNat a).flatten) else none
  | _, _ => none
theorem bMul : BOp X W .Mult gMul := by
  refine ⟨_, OpR.or op_mul (OpR.or (op_repT (X := X)) op_rep), fun x y v w H HF d Q sub rx ry e q => ?_⟩
  unfold gMul at e
  split at e
  · split at e
    · rename_i i j hz
      cases rx; cases ry; cases e
      refine .inl ⟨_, _, rfl, rfl, ?_, q _ _ _ .no (.int _)⟩
      rcases hz with hz | hz
      · exact .inl ⟨by omega, by omega⟩
      · exact .inr ⟨by omega, by omega⟩
    · cases e
  · split at e
    · rename_i a k hz
      cases e
      cases ry
      cases rx with
      | tup h1 r1 =>
        refine .inr (.inl ⟨_, _, _, rfl, rfl, SqT.mono sub h1, fun z => ?_, hz.2.1, hz.2.2.1, by rw [r1.length]; exact hz.2.2.2, fun p hp => ?_⟩)
        · subst z; cases r1; exact hz.1 rfl
        · exact q _ _ _ (.new hp) (.tup (SqE.of upd_same) ((r1.rep _).mono (same_upd (free_of sub hp))))
    · cases e
  · split at e
    · rename_i a k hz
      cases e
      cases ry
      cases rx with
      | lst h1 r1 =>
        refine .inr (.inr ⟨_, _, _, rfl, rfl, sub _ _ h1, by omega, by omega, ?_, fun p hp => ?_⟩)
        · rw [r1.length]
          have h0 : a.length * k.toNat ≤ 1000 * 1000 := Nat.mul_le_mul hz.2.2 (by omega)
          exact Nat.le_trans h0 lim_le
        · exact q _ _ _ (.new hp) (.lst upd_same ((r1.rep _).mono (same_upd (free_of sub hp))))
    · cases e
  · cases e
def gMod : D → D → Option D
  | .int i, .int j => if 0 < j then some (.int (i % j)) else none
  | _, _ => none
theorem bMod : BOp X W .Mod gMod := by
  refine ⟨_, op_mod, fun x y v w H HF d Q sub rx ry e q => ?_⟩
  unfold gMod at e
  split at e
  · split at e
    · cases rx; cases ry; cases e
      exact ⟨_, _, rfl, rfl, by assumption, q _ _ _ .no (.int _)⟩
    · cases e
  · cases e
def gDiv : D → D → Option D
  | .int i, .int j => if 0 < j ∧ j < 1073741824 then some (.int (i / j)) else none
  | _, _ => none
theorem bDiv : BOp X W .FloorDiv gDiv := by
  refine ⟨_, op_fdiv, fun x y v w H HF d Q sub rx ry e q => ?_⟩
  unfold gDiv at e
  split at e
  · split at e
    · cases rx; cases ry; cases e
      exact ⟨_, _, rfl, rfl, by assumption, q _ _ _ .no (.int _)⟩
    · cases e
  · cases e
def gPow : D → D → Option D
  | .int i, .int j => if 0 ≤ j ∧ j ≤ 1000000 ∧ i.natAbs < 18446744073709551616 then some (.int (i ^ j.toNat)) else none
  | _, _ => none
theorem bPow : BOp X W .Pow gPow := by
  refine ⟨_, op_pow, fun x y v w H HF d Q sub rx ry e q => ?_⟩
  unfold gPow at e
  split at e
  · split at e
    · rename_i i j hz
      cases rx; cases ry; cases e
      exact ⟨_, _, rfl, rfl, ⟨hz.1, hz.2.1, by omega⟩, q _ _ _ .no (.int _)⟩
    · cases e
  · cases e

/-! ### comparisons -/
def mCmp (g : D → D → Option Bool) (fa fb : DEn) : DTn := fun ρ S => (fa ρ S).bind fun x S1 => (fb ρ S1).bind fun y S2 => lift (g x y) S2
def mB (f : DTn) : DEn := fun ρ S => (f ρ S).bind fun b S1 => .ok (.bl b) S1
def CmS (G : Gd) (r : R2) (g : D → D → Option Bool) : Prop := ∀ (x y : D) (v w : V) (H HF : Hp) (b : Bool) (Q : VK), Same HF H → Rep G HF v x → Rep G HF w y → g x y = some b → Q (.bl b) H → r v w H Q
structure CmpO (X : Cx) (W : WD) (op : CmpOp) (g : D → D → Option Bool) : Prop where
  has : ∃ r : R2, OpR X (compareOp op) r ∧ CmS (gd X W) r g
/-- an expression of a bool, as the value of a test's answer -/
theorem tT.two {r : R2} {g : D → D → Option Bool} (hs : CmS (gd X W) r g) {σ : L2.St} {H : Hp} {Q : Bool → Hp → Prop} {Qv : VK} (h : tT (gd X W) W (mCmp g fa fb) σ H Q) (hq : ∀ b H', Q b H' → Qv (.bl b) H') :
    tOp r (tD (gd X W) W fa) (tD (gd X W) W fb) σ H Qv := by
  obtain ⟨HF, L, ρ, S, R, p⟩ := h
  refine ⟨HF, L, ρ, S, R, Post.bind p fun x S1 v H1 HF1 L1 e1 st1 R1 r1 p1 => ?_⟩
  refine ⟨HF1, L1, ρ, S1, R1, Post.bind p1 fun y S2 w H2 HF2 L2 e2 st2 R2 r2 p2 => ?_⟩
  obtain ⟨b, e, p⟩ := p2.lift
  exact hs x y v w H2 HF2 b Qv R2.sub (Rep.mono st2.fro r1) r2 e (hq b H2 (p.done R2 .no rfl))
theorem Post.mB {σ : L2.St} {ρ : DL.Env} {H HF : Hp} {L : List Addr} {Q : VK} : ∀ {o : Out Bool}, Post (gd X W) W σ ρ H HF L (fun HF' _ v d => Rep (gd X W) HF' v d) Q (o.bind fun b S1 => .ok (.bl b) S1) → Post (gd X W) W σ ρ H HF L RepB (fun b H' => Q (.bl b) H') o
  | .ok b S, h => fun c H' HF' L' st R e => h _ H' HF' L' st R (by cases e; exact .bl _)
  | .ex x S, h => h
  | .bad, h => h
theorem tD.mB {f : DTn} {σ : L2.St} {H : Hp} {Q : VK} (h : tD (gd X W) W (mB f) σ H Q) : tT (gd X W) W f σ H (fun b H' => Q (.bl b) H') := by
  obtain ⟨HF, L, ρ, S, R, p⟩ := h
  exact ⟨HF, L, ρ, S, R, Post.mB p⟩
theorem xcmp {op : CmpOp} {g : D → D → Option Bool} (o : CmpO X W op g) (ha : DE X W a fa) (hb : DE X W b fb) (hm : behindInMarks op b = false := by first | rfl | exact nomark _) : DE X W (.Compare a [op] [b] pos) (mB (mCmp g fa fb)) := by
  obtain ⟨r, h1, h2⟩ := o.has
  exact PE.imp (pe_cmpR h1 ha hb hm) fun σ H Q h => tT.two h2 (tD.mB h) fun _ _ q => q
theorem ycmp {op : CmpOp} {g : D → D → Option Bool} (o : CmpO X W op g) (ha : DE X W a fa) (hb : DE X W b fb) (hm : behindInMarks op b = false := by first | rfl | exact nomark _) : DT X W (.Compare a [op] [b] pos) (mCmp g fa fb) := by
  obtain ⟨r, h1, h2⟩ := o.has
  exact PT.imp (pt_cmpR h1 ha hb hm) fun σ H Q h => tT.two h2 h fun b _ q => ⟨b, rfl, q⟩
def gI (p : Int → Int → Bool) : D → D → Option Bool
  | .int i, .int j => some (p i j)
  | _, _ => none
theorem cmI {op : CmpOp} {p : Int → Int → Bool} (h : OpR X (compareOp op) (rI0 fun i j => .bl (p i j))) : CmpO X W op (gI p) := by
  refine ⟨_, h, fun x y v w H HF b Q sub rx ry e q => ?_⟩
  unfold gI at e
  split at e
  · cases rx; cases ry; cases e
    exact ⟨_, _, rfl, rfl, q⟩
  · cases e
abbrev gLt := gI fun i j => decide (i < j)
abbrev gLe := gI fun i j => decide (i ≤ j)
abbrev gGt := gI fun i j => decide (j < i)
abbrev gGe := gI fun i j => decide (j ≤ i)
theorem cLt : CmpO X W .Lt gLt := cmI op_lt
theorem cLe : CmpO X W .LtE gLe := cmI op_le
theorem cGt : CmpO X W .Gt gGt := cmI op_gt
theorem cGe : CmpO X W .GtE gGe := cmI op_ge
mutual
def D.py : D → PyData
  | .non => .none
  | .bl b => .bool b
  | .int i => .int i
  | .str x => .str x
  | .tup ds => .tuple (D.pys ds)
  | .lst ds => .list (D.pys ds)
  | .rol _ => .dict []
  | .fn _ => .dict []
  | .rng _ _ => .dict []
  | .ptp ds => .tuple (D.pys ds)
  | .dck _ _ => .dict []
  | .dct _ _ => .dict []
def D.pys : List D → List PyData
  | [] => []
  | d :: ds => d.py :: D.pys ds
end
theorem D.pys_map : ∀ ds : List D, D.pys ds = ds.map D.py
  | [] => rfl
  | d :: ds => by rw [D.pys, D.pys_map ds]; rfl
mutual
theorem Rep.dp {G : Gd} {H : Hp} : ∀ (d : D) {v : V}, Rep G H v d → PyData.canLay0 d.py = true → Dp G.K H v d.py
  | .non, _, h, _ => by cases h; exact .non
  | .bl _, _, h, _ => by cases h; exact .bl _
  | .int _, _, h, _ => by cases h; exact .int _
  | .str _, _, h, _ => by cases h; exact .str _
  | .tup ds, _, h, c => by
    cases h with
    | tup hs hr => exact .tup hs.sqT (Reps.dp ds hr c)
  | .lst ds, _, h, c => by
    cases h with
    | lst hs hr => exact .lst (SqL.of hs) (Reps.dp ds hr c)
  | .rol _, _, _, c => by exact absurd c Bool.false_ne_true
  | .fn _, _, _, c => by exact absurd c Bool.false_ne_true
  | .rng _ _, _, _, c => by exact absurd c Bool.false_ne_true
  | .ptp ds, _, h, c => by
    cases h with
    | ptp h1 h2 hr => exact .tup (.inl (.inr ⟨_, h1⟩)) (Reps.dp ds hr c)
  | .dck _ _, _, _, c => by exact absurd c Bool.false_ne_true
  | .dct _ _, _, _, c => by exact absurd c Bool.false_ne_true
theorem Reps.dp {G : Gd} {H : Hp} : ∀ (ds : List D) {vs : List V}, Reps G H vs ds → PyData.canLayAll0 (D.pys ds) = true → DpAll G.K H vs (D.pys ds)
  | [], _, h, _ => by cases h; exact .nil
  | d :: ds, _, h, c => by
    cases h with
    | cons h1 h2 =>
      have c' : (PyData.canLay0 d.py && PyData.canLayAll0 (D.pys ds)) = true := c
      rw [Bool.and_eq_true] at c'
      exact .cons (Rep.dp d h1 c'.1) (Reps.dp ds h2 c'.2)
end
def D.okd (d : D) : Bool := SeqAt.shaped d.py
theorem Rep.dps {G : Gd} {H HF : Hp} {d : D} {v : V} (sub : Same HF H) (r : Rep G HF v d) (c : d.okd = true) : Dp G.K H v d.py := Rep.dp d (Rep.mono sub r) (Bool.and_eq_true_iff.mp c).1
def deq (d e : D) : Bool := PyData.eqv d.py e.py
def gEq : D → D → Option Bool := fun d e => if d.okd = true ∧ e.okd = true then some (deq d e) else none
def gNe : D → D → Option Bool := fun d e => if d.okd = true ∧ e.okd = true then some (!deq d e) else none
theorem cEq (hu : X.A.units + 64 < cLine) : CmpO X W .Eq gEq := by
  refine ⟨_, op_eqD hu, fun x y v w H HF b Q sub rx ry e q => ?_⟩
  unfold gEq at e
  split at e
  · rename_i hc
    cases e
    exact ⟨x.py, y.py, rx.dps sub hc.1, ry.dps sub hc.2, hc.1, hc.2, q⟩
  · cases e
theorem cNe (hu : X.A.units + 64 < cLine) : CmpO X W .NotEq gNe := by
  refine ⟨_, op_neD hu, fun x y v w H HF b Q sub rx ry e q => ?_⟩
  unfold gNe at e
  split at e
  · rename_i hc
    cases e
    exact ⟨x.py, y.py, rx.dps sub hc.1, ry.dps sub hc.2, hc.1, hc.2, q⟩
  · cases e
def gIsN : D → D → Option Bool
  | .non, .non => some true
  | _, .non => some false
  | _, _ => none
def gNotN : D → D → Option Bool := fun x y => (gIsN x y).map (!·)
theorem isN_of {G : Gd} {HF : Hp} {x y : D} {v w : V} {b : Bool} (rx : Rep G HF v x) (ry : Rep G HF w y) (e : gIsN x y = some b) : w = .non ∧ b = decide (v = .non) := by
  cases y with
  | non =>
    cases ry
    refine ⟨rfl, ?_⟩
    cases x with
    | non => cases rx; cases e; rfl
    | bl _ => cases rx; cases e; rfl
    | int _ => cases rx; cases e; rfl
    | str _ => cases rx; cases e; rfl
    | tup _ => cases rx; cases e; rfl
    | lst _ => cases rx; cases e; rfl
    | rol _ => cases rx; cases e; rfl
    | fn _ => cases rx; cases e; rfl
    | rng _ _ => cases rx; cases e; rfl
    | ptp _ => cases rx; cases e; rfl
    | dck _ _ => cases rx; cases e; rfl
    | dct _ _ => cases rx; cases e; rfl
  | bl _ => cases x <;> cases e
  | int _ => cases x <;> cases e
  | str _ => cases x <;> cases e
  | tup _ => cases x <;> cases e
  | lst _ => cases x <;> cases e
  | rol _ => cases x <;> cases e
  | fn _ => cases x <;> cases e
  | rng _ _ => cases x <;> cases e
  | ptp _ => cases x <;> cases e
  | dck _ _ => cases x <;> cases e
  | dct _ _ => cases x <;> cases e
theorem cIs : CmpO X W .Is gIsN := by
  refine ⟨_, op_isN, fun x y v w H HF b Q sub rx ry e q => ?_⟩
  obtain ⟨h1, h2⟩ := isN_of rx ry e
  exact ⟨h1, by rw [← h2]; exact q⟩
theorem cIsNot : CmpO X W .IsNot gNotN := by
  refine ⟨_, op_notN, fun x y v w H HF b Q sub rx ry e q => ?_⟩
  unfold gNotN at e
  cases e' : gIsN x y with
  | none => rw [e'] at e; cases e
  | some c =>
    rw [e'] at e
    cases e
    obtain ⟨h1, h2⟩ := isN_of rx ry e'
    exact ⟨h1, by rw [← h2]; exact q⟩
/-! ### in -/
def D.flat : D → Bool
  | .non => true
  | .bl _ => true
  | .int _ => true
  | .str _ => true
  | _ => false
theorem Rep.flatV {G : Gd} {HF : Hp} {d : D} {v : V} (r : Rep G HF v d) (c : d.flat = true) : flatV v = true := by
  cases d with
  | non => cases r; rfl
  | bl _ => cases r; rfl
  | int _ => cases r; rfl
  | str _ => cases r; rfl
  | _ => cases c
theorem Rep.eqV {G : Gd} {HF : Hp} {d e : D} {v w : V} (r : Rep G HF v d) (r' : Rep G HF w e) (c : d.flat = true) (c' : e.flat = true) : eqV v w = deq d e := by
  cases d with
  | non =>
    cases r
    cases e with
    | non => cases r'; rfl
    | bl _ => cases r'; rfl
    | int _ => cases r'; rfl
    | str _ => cases r'; rfl
    | _ => cases c'
  | bl _ =>
    cases r
    cases e with
    | non => cases r'; rfl
    | bl _ => cases r'; rfl
    | int _ => cases r'; rfl
    | str _ => cases r'; rfl
    | _ => cases c'
  | int _ =>
    cases r
    cases e with
    | non => cases r'; rfl
    | bl _ => cases r'; rfl
    | int _ => cases r'; rfl
    | str _ => cases r'; rfl
    | _ => cases c'
  | str _ =>
    cases r
    cases e with
    | non => cases r'; rfl
    | bl _ => cases r'; rfl
    | int _ => cases r'; rfl
    | str _ => cases r'; rfl
    | _ => cases c'
  | _ => cases c
theorem Reps.flatV {G : Gd} {HF : Hp} : ∀ {ds : List D} {vs : List V}, Reps G HF vs ds → ds.all D.flat = true → vs.all L2.flatV = true
  | [], _, h, _ => by cases h; rfl
  | d :: ds, _, h, c => by
    cases h with
    | cons h1 h2 =>
      rw [List.all_cons, Bool.and_eq_true] at c ⊢
      exact ⟨Rep.flatV h1 c.1, Reps.flatV h2 c.2⟩
theorem Reps.inV {G : Gd} {HF : Hp} {x : D} {v : V} (r : Rep G HF v x) (c : x.flat = true) : ∀ {ds : List D} {vs : List V}, Reps G HF vs ds → ds.all D.flat = true → inV v vs = ds.any fun z => deq z x
  | [], _, h, _ => by cases h; rfl
  | d :: ds, _, h, k => by
    cases h with
    | cons h1 h2 =>
      rw [List.all_cons, Bool.and_eq_true] at k
      have ih := Reps.inV r c h2 k.2
      unfold L2.inV at ih ⊢
      rw [List.any_cons, List.any_cons, Rep.eqV h1 r k.1 c, ih]
def gIn : D → D → Option Bool
  | x, .tup ds => if x.flat = true ∧ ds.all D.flat = true then some (ds.any fun z => deq z x) else none
  | x, .lst ds => if x.okd = true ∧ (D.lst ds).okd = true then some (ds.any fun z => deq z x) else none
  | _, _ => none
def gNotIn : D → D → Option Bool := fun x y => (gIn x y).map (!·)
theorem pys_any (x : D) : ∀ ds : List D, ((D.pys ds).any fun z => PyData.eqv z x.py) = ds.any fun z => deq z x
  | [] => rfl
  | d :: ds => by rw [D.pys, List.any_cons, List.any_cons, pys_any x ds]; rfl
theorem cIn (hu : X.A.units + 65 < cLine) : CmpO X W .In gIn := by
  refine ⟨_, OpR.or op_in_seq (op_inD hu), fun x y v w H HF b Q sub rx ry e q => ?_⟩
  cases y with
  | tup ds =>
    have e : (if x.flat = true ∧ ds.all D.flat = true then some (ds.any fun z => deq z x) else none) = some b := e
    split at e
    · rename_i hc
      cases e
      cases ry with
      | tup h1 r1 => exact .inl ⟨_, _, rfl, .inr (SqT.mono sub h1), rx.flatV hc.1, r1.flatV hc.2, by show Q (.bl (L2.inV _ _)) H; rw [Reps.inV rx hc.1 r1 hc.2]; exact q⟩
    · cases e
  | lst ds =>
    have e : (if x.okd = true ∧ (D.lst ds).okd = true then some (ds.any fun z => deq z x) else none) = some b := e
    split at e
    · rename_i hc
      cases e
      exact .inr ⟨x.py, D.pys ds, rx.dps sub hc.1, ry.dps sub hc.2, hc.1, hc.2, by rw [pys_any]; exact q⟩
    · cases e
  | _ => cases e
theorem cNotIn (hu : X.A.units + 65 < cLine) : CmpO X W .NotIn gNotIn := by
  refine ⟨_, OpR.or op_notIn_seq (op_notInD hu), fun x y v w H HF b Q sub rx ry e q => ?_⟩
  cases y with
  | tup ds =>
    have e : ((if x.flat = true ∧ ds.all D.flat = true then some (ds.any fun z => deq z x) else none).map (!·)) = some b := e
    split at e
    · rename_i hc
      cases e
      cases ry with
      | tup h1 r1 => exact .inl ⟨_, _, rfl, .inr (SqT.mono sub h1), rx.flatV hc.1, r1.flatV hc.2, by show Q (.bl (!L2.inV _ _)) H; rw [Reps.inV rx hc.1 r1 hc.2]; exact q⟩
    · cases e
  | lst ds =>
    have e : ((if x.okd = true ∧ (D.lst ds).okd = true then some (ds.any fun z => deq z x) else none).map (!·)) = some b := e
    split at e
    · rename_i hc
      cases e
      exact .inr ⟨x.py, D.pys ds, rx.dps sub hc.1, ry.dps sub hc.2, hc.1, hc.2, by rw [pys_any]; exact q⟩
    · cases e
  | _ => cases e
end
end DL

namespace DL
open PySem L2
section
variable {X : Cx} {W : WD} {pos : Pos} {a b c : Expr} {fa fb fc : DEn} {es : List Expr}
/-! ### chains, and, or, not, a if t else b -/
def mChain (g g' : D → D → Option Bool) (fa fb fc : DEn) : DTn := fun ρ S => (fa ρ S).bind fun x S1 => (fb ρ S1).bind fun y S2 => (lift (g x y) S2).bind fun k S3 =>
  if k = true then (fc ρ S3).bind fun z S4 => lift (g' y z) S4 else .ok false S3
theorem tT.chain {r r' : R2} {g g' : D → D → Option Bool} (hs : CmS (gd X W) r g) (hs' : CmS (gd X W) r' g') {σ : L2.St} {H : Hp} {Q : Bool → Hp → Prop} {Qv : VK} (h : tT (gd X W) W (mChain g g' fa fb fc) σ H Q) (hq : ∀ b H', Q b H' → Qv (.bl b) H') :
    tChain r r' (tD (gd X W) W fa) (tD (gd X W) W fb) (tD (gd X W) W fc) σ H Qv := by
  obtain ⟨HF, L, ρ, S, R, p⟩ := h
  refine ⟨HF, L, ρ, S, R, Post.bind p fun x S1 v H1 HF1 L1 e1 st1 R1 r1 p1 => ?_⟩
  refine ⟨HF1, L1, ρ, S1, R1, Post.bind p1 fun y S2 w H2 HF2 L2 e2 st2 R2 r2 p2 => ?_⟩
  cases eg : g x y with
  | none => rw [eg] at p2; exact p2.elim
  | some k =>
    rw [eg] at p2
    refine hs x y v w H2 HF2 k _ R2.sub (Rep.mono st2.fro r1) r2 eg ⟨k, rfl, ?_⟩
    cases k with
    | true =>
      rw [if_pos rfl]
      refine ⟨HF2, L2, ρ, S2, R2, Post.bind p2 fun z S4 u H4 HF4 L4 e4 st4 R4 r4 p4 => ?_⟩
      obtain ⟨b, e, p⟩ := p4.lift
      exact hs' y z w u H4 HF4 b Qv R4.sub (Rep.mono st4.fro r2) r4 e (hq b H4 (p.done R4 .no rfl))
    | false =>
      rw [if_neg Bool.false_ne_true]
      exact hq false H2 (Post.done (α := Bool) (P := RepB) p2 R2 .no rfl)
theorem xchain {op op' : CmpOp} {g g' : D → D → Option Bool} (o : CmpO X W op g) (o' : CmpO X W op' g') (ha : DE X W a fa) (hb : DE X W b fb) (hc : DE X W c fc) (hm : lastMarks [op, op'] [b, c] = false := by with_unfolding_all rfl) :
    DE X W (.Compare a [op, op'] [b, c] pos) (mB (mChain g g' fa fb fc)) := by
  obtain ⟨r, h1, h2⟩ := o.has
  obtain ⟨r', h1', h2'⟩ := o'.has
  exact PE.imp (pe_chain h1 h1' ha hb hc hm) fun σ H Q h => tT.chain h2 h2' (tD.mB h) fun _ _ q => q
theorem ychain {op op' : CmpOp} {g g' : D → D → Option Bool} (o : CmpO X W op g) (o' : CmpO X W op' g') (ha : DE X W a fa) (hb : DE X W b fb) (hc : DE X W c fc) (hm : lastMarks [op, op'] [b, c] = false := by with_unfolding_all rfl) :
    DT X W (.Compare a [op, op'] [b, c] pos) (mChain g g' fa fb fc) := by
  obtain ⟨r, h1, h2⟩ := o.has
  obtain ⟨r', h1', h2'⟩ := o'.has
  refine PT.imp (pt_chain h1 h1' ha hb hc hm) fun σ H Q h => ?_
  exact tT.chain h2 h2' h fun b _ q => ⟨b, rfl, q⟩
/-- bools alone -/
def D.isB : D → Option Bool
  | .bl b => some b
  | _ => none
theorem Rep.isB {G : Gd} {HF : Hp} {v : V} {d : D} {k : Bool} (r : Rep G HF v d) (e : d.isB = some k) : v = .bl k := by
  cases d with
  | bl _ => cases r; cases e; rfl
  | _ => cases e
def mAnd (fa fb : DEn) : DEn := fun ρ S => (fa ρ S).bind fun x S1 => (lift x.isB S1).bind fun k S2 => if k = true then fb ρ S2 else .ok (.bl false) S2
def mOr (fa fb : DEn) : DEn := fun ρ S => (fa ρ S).bind fun x S1 => (lift x.isB S1).bind fun k S2 => if k = true then .ok (.bl true) S2 else fb ρ S2
def mNot (fa : DEn) : DEn := fun ρ S => (fa ρ S).bind fun x S1 => (lift x.isB S1).bind fun k S2 => .ok (.bl (!k)) S2
theorem lift_bind {α β : Type} {o : Option α} {S : Store} {k : α → Store → Out β} : (∃ d, o = some d ∧ (lift o S).bind k = k d S) ∨ (o = none ∧ (lift o S).bind k = .bad) := by
  cases o with
  | none => exact .inr ⟨rfl, rfl⟩
  | some d => exact .inl ⟨d, rfl, rfl⟩
theorem Post.liftB {α β γ : Type} {G : Gd} {σ : L2.St} {ρ : DL.Env} {H HF : Hp} {L : List Addr} {P : Hp → List Addr → β → γ → Prop} {Q : β → Hp → Prop} {o : Option α} {S : Store} {k : α → Store → Out γ} (h : Post G W σ ρ H HF L P Q ((DL.lift o S).bind k)) :
    ∃ d, o = some d ∧ Post G W σ ρ H HF L P Q (k d S) := by
  rcases lift_bind (o := o) (S := S) (k := k) with ⟨d, e1, e2⟩ | ⟨e1, e2⟩
  · rw [e2] at h; exact ⟨d, e1, h⟩
  · rw [e2] at h; exact h.elim
theorem xand {rest : List Expr} (ha : DE X W a fa) (hb : DE X W (.BoolOp .And (b :: rest) pos) fb) : DE X W (.BoolOp .And (a :: b :: rest) pos) (mAnd fa fb) :=
  PE.imp (pe_and ha hb) fun σ H Q ⟨HF, L, ρ, S, R, p⟩ => ⟨HF, L, ρ, S, R, Post.bind p fun x S1 v H1 HF1 L1 e1 st1 R1 r1 p1 => by
    obtain ⟨k, ek, p2⟩ := Post.liftB p1
    refine ⟨k, r1.isB ek, ?_⟩
    cases k with
    | true => rw [if_pos rfl] at p2 ⊢; exact ⟨HF1, L1, ρ, S1, R1, p2⟩
    | false => rw [if_neg Bool.false_ne_true] at p2 ⊢; exact p2.done R1 .no (.bl false)⟩
theorem xor {rest : List Expr} (ha : DE X W a fa) (hb : DE X W (.BoolOp .Or (b :: rest) pos) fb) : DE X W (.BoolOp .Or (a :: b :: rest) pos) (mOr fa fb) :=
  PE.imp (pe_or ha hb) fun σ H Q ⟨HF, L, ρ, S, R, p⟩ => ⟨HF, L, ρ, S, R, Post.bind p fun x S1 v H1 HF1 L1 e1 st1 R1 r1 p1 => by
    obtain ⟨k, ek, p2⟩ := Post.liftB p1
    refine ⟨k, r1.isB ek, ?_⟩
    cases k with
    | true => rw [if_pos rfl] at p2 ⊢; exact p2.done R1 .no (.bl true)
    | false => rw [if_neg Bool.false_ne_true] at p2 ⊢; exact ⟨HF1, L1, ρ, S1, R1, p2⟩⟩
theorem xone {op} (ha : DE X W a fa) : DE X W (.BoolOp op [a] pos) fa := pe_one ha
theorem xnot (ha : DE X W a fa) : DE X W (.UnaryOp .Not a pos) (mNot fa) :=
  PE.imp (pe_not ha) fun σ H Q ⟨HF, L, ρ, S, R, p⟩ => ⟨HF, L, ρ, S, R, Post.bind p fun x S1 v H1 HF1 L1 e1 st1 R1 r1 p1 => by
    obtain ⟨k, ek, p2⟩ := Post.liftB p1
    exact ⟨k, r1.isB ek, p2.done R1 .no (.bl _)⟩⟩
variable {ta tb : DTn}
def mAndT (ta tb : DTn) : DTn := fun ρ S => (ta ρ S).bind fun k S1 => if k = true then tb ρ S1 else .ok false S1
def mOrT (ta tb : DTn) : DTn := fun ρ S => (ta ρ S).bind fun k S1 => if k = true then .ok true S1 else tb ρ S1
def mNotT (ta : DTn) : DTn := fun ρ S => (ta ρ S).bind fun k S1 => .ok (!k) S1
theorem wand {rest : List Expr} (ha : DT X W a ta) (hb : DPW X W (.BoolOp .And (b :: rest) pos) tb) : DPW X W (.BoolOp .And (a :: b :: rest) pos) (mAndT ta tb) :=
  PW.imp (pw_and ha hb) fun σ H Q ⟨HF, L, ρ, S, R, p⟩ => ⟨HF, L, ρ, S, R, Post.bind p fun k S1 k' H1 HF1 L1 e1 st1 R1 r1 p1 => by
    cases r1
    cases k with
    | true => rw [if_pos rfl] at p1 ⊢; exact ⟨HF1, L1, ρ, S1, R1, p1⟩
    | false => rw [if_neg Bool.false_ne_true] at p1 ⊢; exact p1.done R1 .no rfl⟩
theorem wor {rest : List Expr} (ha : DT X W a ta) (hb : DPW X W (.BoolOp .Or (b :: rest) pos) tb) : DPW X W (.BoolOp .Or (a :: b :: rest) pos) (mOrT ta tb) :=
  PW.imp (pw_or ha hb) fun σ H Q ⟨HF, L, ρ, S, R, p⟩ => ⟨HF, L, ρ, S, R, Post.bind p fun k S1 k' H1 HF1 L1 e1 st1 R1 r1 p1 => by
    cases r1
    cases k with
    | true => rw [if_pos rfl] at p1 ⊢; exact p1.done R1 .no rfl
    | false => rw [if_neg Bool.false_ne_true] at p1 ⊢; exact ⟨HF1, L1, ρ, S1, R1, p1⟩⟩
theorem wand1 (ha : DT X W a ta) : DPW X W (.BoolOp .And [a] pos) ta := pw_and1 ha
theorem wor1 (ha : DT X W a ta) : DPW X W (.BoolOp .Or [a] pos) ta := pw_or1 ha
theorem ynot (ha : DT X W a ta) : DT X W (.UnaryOp .Not a pos) (mNotT ta) :=
  PT.imp (pt_not ha) fun σ H Q ⟨HF, L, ρ, S, R, p⟩ => ⟨HF, L, ρ, S, R, Post.bind p fun k S1 k' H1 HF1 L1 e1 st1 R1 r1 p1 => by
    cases r1
    exact p1.done R1 .no rfl⟩
/-- an expression of any kind as a test -/
def D.tru : D → Option Bool
  | .non => some false
  | .bl b => some b
  | .int i => some (i != 0)
  | .tup ds => some (!ds.isEmpty)
  | .lst ds => some (!ds.isEmpty)
  | _ => none
theorem Reps.empty {G : Gd} {HF : Hp} {vs : List V} {ds : List D} (r : Reps G HF vs ds) : vs.isEmpty = ds.isEmpty := by cases r <;> rfl
theorem Rep.tru {G : Gd} {HF H : Hp} {v : V} {d : D} {k : Bool} (sub : Same HF H) (r : Rep G HF v d) (e : d.tru = some k) : TruV G.K v H k := by
  cases d with
  | non => cases r; cases e; rfl
  | bl b => cases r; cases e; rfl
  | int i => cases r; cases e; rfl
  | tup ds => cases r with
    | tup h1 h2 => cases e; exact .inr (.inl ⟨_, SqT.mono sub h1, by rw [h2.empty]⟩)
  | lst ds => cases r with
    | lst h1 h2 => cases e; exact .inl ⟨_, SqL.of (sub _ _ h1), by rw [h2.empty]⟩
  | _ => cases e
def mTru (fa : DEn) : DTn := fun ρ S => (fa ρ S).bind fun x S1 => lift x.tru S1
theorem ytru (ha : DE X W a fa) (he : ∀ whole, isTrue a X.env whole = (do let v ← whole; standAt a.pos; holding [v] (truthy v)) := by intro _; rfl) : DT X W a (mTru fa) :=
  PT.imp (pt_truth ha he) fun σ H Q ⟨HF, L, ρ, S, R, p⟩ => ⟨HF, L, ρ, S, R, Post.bind p fun x S1 v H1 HF1 L1 e1 st1 R1 r1 p1 => by
    obtain ⟨k, ek, p2⟩ := p1.lift
    exact ⟨k, r1.tru R1.sub ek, p2.done R1 .no rfl⟩⟩
/-- a cell as a test -/
def mTruC (i : Nat) : DTn := fun ρ S => match ρ[i]? with
  | some (some (.cel n)) => match S[n]? with
    | some (some (.lst ds)) => .ok (!ds.isEmpty) S
    | _ => .bad
  | _ => .bad
theorem Rel.celAt {G : Gd} {H HF : Hp} {L : List Addr} {σ : L2.St} {ρ : DL.Env} {S : Store} (R : Rel G H HF L σ ρ S) {i n : Nat} {ds : List D} (h1 : ρ[i]? = some (some (.cel n))) (h2 : S[n]? = some (some (.lst ds))) :
    ∃ (p : Addr) (vs : List V), σ[i]? = some (some (.ref p)) ∧ L[n]? = some p ∧ H p = some (.lst vs) ∧ Reps G HF vs ds ∧ HF p = none := by
  obtain ⟨v, e1, p, e2, e3⟩ := R.env i _ h1
  subst e3
  obtain ⟨q1, vs, q2, q3⟩ := R.cell n p _ e2 h2
  exact ⟨p, vs, e1, e2, q2, q3, q1⟩
theorem ytruC (i : Nat) {x : Str} (hN : X.N[i]? = some x := by rfl) (hv : Vis X.env.scope x := by first | exact Or.inl rfl | exact Or.inr (Or.inl rfl) | exact Or.inr (Or.inr rfl)) (hd : (x == ("__debug__" : Str)) = false := by decide)
    (hcd : (x == ("__classdict__" : Str)) = false := by decide) : DT X W (.Name x pos) (mTruC i) := by
  refine PT.imp (pt_truth (pe_var (i := i) hN hv hd hcd) (by intro _; rfl)) fun σ H Q ⟨HF, L, ρ, S, R, p⟩ => ?_
  unfold mTruC at p
  split at p
  · rename_i n e
    split at p
    · rename_i ds e2
      obtain ⟨q, vs, h1, h2, h3, h4, h5⟩ := R.celAt e e2
      exact ⟨_, h1, _, .inl ⟨vs, SqL.of h3, rfl⟩, by rw [h4.empty]; exact p.done R .no rfl⟩
    · exact p.elim
  · exact p.elim
def mIf (t : DTn) (fa fb : DEn) : DEn := fun ρ S => (t ρ S).bind fun k S1 => if k = true then fa ρ S1 else fb ρ S1
theorem xif {t : Expr} {tt : DTn} (ht : DT X W t tt) (ha : DE X W a fa) (hb : DE X W b fb) : DE X W (.IfExp t a b pos) (mIf tt fa fb) :=
  PE.imp (pe_ifExp ht ha hb) fun σ H Q ⟨HF, L, ρ, S, R, p⟩ => ⟨HF, L, ρ, S, R, Post.bind p fun k S1 k' H1 HF1 L1 e1 st1 R1 r1 p1 => by
    cases r1
    cases k with
    | true => rw [if_pos rfl] at p1 ⊢; exact ⟨HF1, L1, ρ, S1, R1, p1⟩
    | false => rw [if_neg Bool.false_ne_true] at p1 ⊢; exact ⟨HF1, L1, ρ, S1, R1, p1⟩⟩

/-! ### rows of values: displays, arguments of built-ins -/
abbrev DDn := DL.Env → Store → Out (List D)
def tDs (G : Gd) (W : WD) (f : DDn) : TA := fun σ H Q => ∃ HF L ρ S, Rel G H HF L σ ρ S ∧ Post G W σ ρ H HF L (fun HF' _ vs ds => Reps G HF' vs ds) Q (f ρ S)
abbrev DA (X : Cx) (W : WD) (es : List Expr) (f : DDn) : Prop := PA X es (tDs (gd X W) W f)
def mNil : DDn := fun _ S => .ok [] S
def mCons (fa : DEn) (fs : DDn) : DDn := fun ρ S => (fa ρ S).bind fun x S1 => (fs ρ S1).bind fun xs S2 => .ok (x :: xs) S2
theorem a0 : DA X W [] mNil := PA.imp pa_nil fun σ H Q ⟨HF, L, ρ, S, R, p⟩ => p.done R .no .nil
variable {fs : DDn}
theorem a1 (ha : DE X W a fa) (hs : DA X W es fs) (he : starEach (a :: es) X.env = (false, eval a X.env) :: starEach es X.env := by rfl) : DA X W (a :: es) (mCons fa fs) :=
  PA.imp (pa_cons ha hs he) fun σ H Q ⟨HF, L, ρ, S, R, p⟩ => ⟨HF, L, ρ, S, R, Post.bind p fun x S1 v H1 HF1 L1 e1 st1 R1 r1 p1 =>
    ⟨HF1, L1, ρ, S1, R1, Post.bind p1 fun xs S2 vs H2 HF2 L2 e2 st2 R2 r2 p2 => p2.done R2 .no (.cons (Rep.mono st2.fro r1) r2)⟩⟩
def mTup (fs : DDn) : DEn := fun ρ S => (fs ρ S).bind fun xs S1 => if xs.length ≤ lim then .ok (.tup xs) S1 else .bad
def mLst (fs : DDn) : DEn := fun ρ S => (fs ρ S).bind fun xs S1 => if xs.length ≤ lim then .ok (.lst xs) S1 else .bad
theorem xtup {x1} (hs : DA X W es fs) : DE X W (.Tuple es x1 pos) (mTup fs) :=
  PE.imp (pe_tup hs) fun σ H Q ⟨HF, L, ρ, S, R, p⟩ => ⟨HF, L, ρ, S, R, Post.bind p fun xs S1 vs H1 HF1 L1 e1 st1 R1 r1 p1 => by
    split at p1
    · rename_i hz
      refine ⟨by rw [r1.length]; exact Nat.le_trans hz lim_le, fun q hq => ?_⟩
      exact p1.done R1 (.new hq) (.tup (SqE.of upd_same) (r1.mono (same_upd (R1.hf hq))))
    · exact p1.elim⟩
theorem xlst (hs : DA X W es fs) : DE X W (.List es pos) (mLst fs) :=
  PE.imp (pe_lst hs) fun σ H Q ⟨HF, L, ρ, S, R, p⟩ => ⟨HF, L, ρ, S, R, Post.bind p fun xs S1 vs H1 HF1 L1 e1 st1 R1 r1 p1 => by
    split at p1
    · rename_i hz
      refine ⟨by rw [r1.length]; exact Nat.le_trans hz lim_le, fun q hq => ?_⟩
      exact p1.done R1 (.new hq) (.lst upd_same (r1.mono (same_upd (R1.hf hq))))
    · exact p1.elim⟩

/-! ### subscripts, slices -/
def gIx : D → D → Option D
  | .tup ds, .int i => atI ds i
  | .lst ds, .int i => atI ds i
  | .rol ds, .int i => atI ds i
  | _, _ => none
theorem Reps.atI {G : Gd} {HF : Hp} {vs : List V} {ds : List D} {i : Int} {d : D} (r : Reps G HF vs ds) (e : atI ds i = some d) : ∃ v, atI vs i = some v ∧ Rep G HF v d := by
  unfold L2.atI at e ⊢
  rw [r.length]
  cases q : ixN ds.length i with
  | none => rw [q] at e; cases e
  | some j =>
    rw [q] at e
    exact r.get (i := j) e
theorem sIx : OpS (gd X W) (rIx X.K) gIx := fun x y v w H HF d Q sub rx ry e q => by
  unfold gIx at e
  split at e
  · cases ry
    cases rx with
    | tup h1 r1 =>
      obtain ⟨u, e1, e2⟩ := r1.atI e
      exact .inr (.inl ⟨_, _, _, _, rfl, rfl, SqT.mono sub h1, e1, q _ _ _ .no e2⟩)
  · cases ry
    cases rx with
    | lst h1 r1 =>
      obtain ⟨u, e1, e2⟩ := r1.atI e
      exact .inl ⟨_, _, _, _, rfl, rfl, SqL.of (sub _ _ h1), e1, q _ _ _ .no e2⟩
  · cases ry
    cases rx with
    | rol h1 r1 =>
      obtain ⟨u, e1, e2⟩ := r1.atI e
      exact .inl ⟨_, _, _, _, rfl, rfl, sub.seq h1, e1, q _ _ _ .no e2⟩
  · cases e
theorem xix (ha : DE X W a fa) (hb : DE X W b fb) (hs : PlainIx b := by exact fun _ _ => rfl) : DE X W (.Subscript a b pos) (mOp gIx fa fb) :=
  PE.imp (pe_ix ix_seq ha hb hs) fun σ H Q h => tD.op sIx h
/-- a cell's item -/
def mIxC (i : Nat) (fb : DEn) : DEn := fun ρ S => match ρ[i]? with
  | some (some (.cel n)) => (fb ρ S).bind fun y S1 => match y, S1[n]? with
    | .int k, some (some (.lst ds)) => lift (atI ds k) S1
    | _, _ => .bad
  | _ => .bad
theorem xixC (i : Nat) {x : Str} {px : Pos} (hb : DE X W b fb) (hs : PlainIx b := by exact fun _ _ => rfl) (hN : X.N[i]? = some x := by rfl) (hv : Vis X.env.scope x := by first | exact Or.inl rfl | exact Or.inr (Or.inl rfl) | exact Or.inr (Or.inr rfl)) (hd : (x == ("__debug__" : Str)) = false := by decide)
    (hcd : (x == ("__classdict__" : Str)) = false := by decide) : DE X W (.Subscript (.Name x px) b pos) (mIxC i fb) := by
  refine PE.imp (pe_ix ix_seq (pe_var (i := i) hN hv hd hcd) hb hs) fun σ H Q ⟨HF, L, ρ, S, R, p⟩ => ?_
  unfold mIxC at p
  split at p
  · rename_i n hn
    obtain ⟨v, hv1, pa, hp1, hp2⟩ := R.env i _ hn
    subst hp2
    refine ⟨_, hv1, HF, L, ρ, S, R, Post.bind p fun y S1 w H1 HF1 L1 e1 st1 R1 r1 p1 => ?_⟩
    split at p1
    · rename_i k ds hS
      cases r1
      obtain ⟨d, ed, p2⟩ := p1.lift
      obtain ⟨q1, vs, q2, q3⟩ := R1.cell n pa _ (st1.lget hp1) hS
      obtain ⟨u, e2, e3⟩ := q3.atI ed
      exact .inl ⟨_, _, _, _, rfl, rfl, SqL.of q2, e2, p2.done R1 .no e3⟩
    · exact p1.elim
  · exact p.elim
/-- a slice -/
abbrev DOn := DL.Env → Store → Out (Option Int)
def mNoPart : DOn := fun _ S => .ok none S
def mPart (f : DEn) : DOn := fun ρ S => (f ρ S).bind fun x S1 => match x with
  | .int i => .ok (some i) S1
  | _ => .bad
def tO (G : Gd) (W : WD) (f : DOn) : TO := fun σ H Q => ∃ HF L ρ S, Rel G H HF L σ ρ S ∧ Post G W σ ρ H HF L (fun _ _ v d => v = d) Q (f ρ S)
abbrev DO (X : Cx) (W : WD) (e : Option Expr) (f : DOn) : Prop := PO X e (tO (gd X W) W f)
theorem o0 : DO X W none mNoPart := ⟨fun pins s σ H Q I ⟨HF, L, ρ, S, R, p⟩ => po_none.run pins s σ H Q I (p.done R .no rfl)⟩
theorem o1 (h : DE X W a fa) : DO X W (some a) (mPart fa) := ⟨fun pins s σ H Q I ⟨HF, L, ρ, S, R, p⟩ => (po_some h).run pins s σ H Q I ⟨HF, L, ρ, S, R, Post.bind p fun x S1 v H1 HF1 L1 e1 st1 R1 r1 p1 => by
  split at p1
  · cases r1
    exact ⟨_, rfl, p1.done R1 .no rfl⟩
  · exact p1.elim⟩⟩
def cutD (xs : List D) (lo hi : Option Int) : List D := (xs.drop (HT.sIx xs.length 0 lo)).take (HT.sIx xs.length xs.length hi - HT.sIx xs.length 0 lo)
theorem Reps.cut {G : Gd} {HF : Hp} {vs : List V} {ds : List D} (r : Reps G HF vs ds) (lo hi : Option Int) : Reps G HF (cutV vs lo hi) (cutD ds lo hi) := by
  unfold cutV cutD
  rw [r.length]
  exact (r.drop _).take _
def gSl : D → Option Int → Option Int → Option D
  | .tup ds, lo, hi => some (.tup (cutD ds lo hi))
  | .lst ds, lo, hi => some (.lst (cutD ds lo hi))
  | _, _, _ => none
def mSl (fa : DEn) (fl fh : DOn) : DEn := fun ρ S => (fa ρ S).bind fun x S1 => (fl ρ S1).bind fun l S2 => (fh ρ S2).bind fun h S3 => lift (gSl x l h) S3
theorem xsl {lo hi : Option Expr} {fl fh : DOn} {p2 : Pos} (ha : DE X W a fa) (hl : DO X W lo fl) (hh : DO X W hi fh) : DE X W (.Subscript a (.Slice lo hi none p2) pos) (mSl fa fl fh) :=
  PE.imp (pe_slice (SlR.or sl_list (sl_tupA (X := X))) ha hl hh) fun σ H Q ⟨HF, L, ρ, S, R, p⟩ => ⟨HF, L, ρ, S, R, Post.bind p fun x S1 v H1 HF1 L1 e1 st1 R1 r1 p1 =>
    ⟨HF1, L1, ρ, S1, R1, Post.bind p1 fun l S2 l' H2 HF2 L2 e2 st2 R2 r2 p2 => ⟨HF2, L2, ρ, S2, R2, Post.bind p2 fun h S3 h' H3 HF3 L3 e3 st3 R3 r3 p3 => by
      cases r2
      cases r3
      obtain ⟨d, ed, p4⟩ := p3.lift
      have r1' := Rep.mono st3.fro (Rep.mono st2.fro r1)
      cases x with
      | tup ds =>
        cases ed
        cases r1' with
        | tup h1 h2 =>
          refine .inr ⟨_, _, rfl, SqT.mono R3.sub h1, fun z => ?_, fun _ q hq => p4.done R3 (.new hq) (.tup (SqE.of upd_same) ((h2.cut _ _).mono (same_upd (R3.hf hq))))⟩
          have e : ∀ {α : Type} (xs : List α), (xs.drop 0).take (xs.length - 0) = xs := fun xs => by simp
          have e2 : cutD ds l h = ds := by
            unfold cutD
            rw [← h2.length, z.1, z.2, h2.length]
            exact e ds
          refine p4.done R3 .no (.tup h1 ?_)
          rw [e2]
          exact h2
      | lst ds =>
        cases ed
        cases r1' with
        | lst h1 h2 => exact .inl ⟨_, _, rfl, SqL.of (R3.sub _ _ h1), fun q hq => p4.done R3 (.new hq) (.lst upd_same ((h2.cut _ _).mono (same_upd (R3.hf hq))))⟩
      | _ => cases ed⟩⟩⟩

/-! ### built-ins by their names -/
def CaS (G : Gd) (r : List V → Hp → VK → Prop) (g : List D → Option D) : Prop := ∀ (xs : List D) (vs : List V) (H HF : Hp) (d : D) (Q : VK), Same HF H → Reps G HF vs xs → g xs = some d →
  (∀ u H' HF', Al H HF H' HF' → Rep G HF' u d → Q u H') → r vs H Q
structure BiO (X : Cx) (W : WD) (f : Value) (g : List D → Option D) : Prop where
  has : ∃ r, CallR X f r ∧ CaS (gd X W) r g
def mBi (g : List D → Option D) (fs : DDn) : DEn := fun ρ S => (fs ρ S).bind fun xs S1 => lift (g xs) S1
theorem tD.bi {r : List V → Hp → VK → Prop} {g : List D → Option D} (hs : CaS (gd X W) r g) {σ : L2.St} {H : Hp} {Q : VK} (h : tD (gd X W) W (mBi g fs) σ H Q) : tCB r (tDs (gd X W) W fs) σ H Q := by
  obtain ⟨HF, L, ρ, S, R, p⟩ := h
  refine ⟨HF, L, ρ, S, R, Post.bind p fun xs S1 vs H1 HF1 L1 e1 st1 R1 r1 p1 => ?_⟩
  obtain ⟨d, e, p2⟩ := p1.lift
  exact hs xs vs H1 HF1 d Q R1.sub r1 e fun u H' HF' al r => p2.done R1 al r
theorem xbi {x : Str} {id : String} {p : Pos} {g : List D → Option D} (o : BiO X W (.builtin id) g) (hm : X.mg x = none) (hv : bootBuiltins x = some (.builtin id)) (ha : DA X W (a :: es) fs) (hg : Gl X x := by rfl) (hn : x ≠ "__name__" := by decide) (hdb : (x == ("__debug__" : Str)) = false := by decide)
    (he : starEach (a :: es) X.env = (false, eval a X.env) :: starEach es X.env := by rfl) (hpl : (backTo pos (starEach es X.env)).any (·.1) = false := by rfl) : DE X W (.Call (.Name x p) (a :: es) [] pos) (mBi g fs) := by
  obtain ⟨r, h1, h2⟩ := o.has
  exact PE.imp (pe_callB h1 hg hm hv ha hn hdb he hpl) fun σ H Q h => tD.bi h2 h
theorem xbt {x : Str} {T : String} {p : Pos} {g : List D → Option D} (o : BiO X W (.type T) g) (hm : X.mg x = none) (hv : bootBuiltins x = some (.type T)) (ha : DA X W (a :: es) fs) (hg : Gl X x := by rfl) (hn : x ≠ "__name__" := by decide) (hdb : (x == ("__debug__" : Str)) = false := by decide)
    (he : starEach (a :: es) X.env = (false, eval a X.env) :: starEach es X.env := by rfl) (hpl : (backTo pos (starEach es X.env)).any (·.1) = false := by rfl) : DE X W (.Call (.Name x p) (a :: es) [] pos) (mBi g fs) := by
  obtain ⟨r, h1, h2⟩ := o.has
  exact PE.imp (pe_callTy h1 hg hm hv ha hn hdb he hpl) fun σ H Q h => tD.bi h2 h
theorem Reps.one {G : Gd} {HF : Hp} {vs : List V} {d : D} (r : Reps G HF vs [d]) : ∃ v, vs = [v] ∧ Rep G HF v d := by
  cases r with
  | cons h1 h2 => cases h2; exact ⟨_, rfl, h1⟩
theorem Reps.two {G : Gd} {HF : Hp} {vs : List V} {d e : D} (r : Reps G HF vs [d, e]) : ∃ v w, vs = [v, w] ∧ Rep G HF v d ∧ Rep G HF w e := by
  cases r with
  | cons h1 h2 =>
    obtain ⟨w, rfl, h3⟩ := h2.one
    exact ⟨_, w, rfl, h1, h3⟩
def gLen : List D → Option D
  | [.tup ds] => some (.int ds.length)
  | [.lst ds] => some (.int ds.length)
  | [.rol ds] => some (.int ds.length)
  | _ => none
theorem biLen : BiO X W (.builtin "len") gLen := by
  refine ⟨_, call_len_seq, fun xs vs H HF d Q sub r e q => ?_⟩
  unfold gLen at e
  split at e
  · cases e
    obtain ⟨v, rfl, h⟩ := r.one
    cases h with
    | tup h1 h2 => exact ⟨_, _, rfl, .inr (SqT.mono sub h1), by rw [h2.length]; exact q _ _ _ .no (.int _)⟩
  · cases e
    obtain ⟨v, rfl, h⟩ := r.one
    cases h with
    | lst h1 h2 => exact ⟨_, _, rfl, .inl (SqL.of (sub _ _ h1)), by rw [h2.length]; exact q _ _ _ .no (.int _)⟩
  · cases e
    obtain ⟨v, rfl, h⟩ := r.one
    cases h with
    | rol h1 h2 => exact ⟨_, _, rfl, .inl (sub.seq h1), by rw [h2.length]; exact q _ _ _ .no (.int _)⟩
  · cases e
def gInt : List D → Option D
  | [.int i] => some (.int i)
  | [.bl b] => some (.int (if b then 1 else 0))
  | _ => none
theorem biInt : BiO X W (.type "int") gInt := by
  refine ⟨_, call_int1, fun xs vs H HF d Q sub r e q => ?_⟩
  unfold gInt at e
  split at e
  · cases e
    obtain ⟨v, rfl, h⟩ := r.one
    cases h
    exact .inl ⟨_, rfl, q _ _ _ .no (.int _)⟩
  · cases e
    obtain ⟨v, rfl, h⟩ := r.one
    cases h
    exact .inr ⟨_, rfl, q _ _ _ .no (.int _)⟩
  · cases e
def gList : List D → Option D
  | [.tup ds] => some (.lst ds)
  | [.lst ds] => some (.lst ds)
  | [.rol ds] => some (.lst ds)
  | _ => none
theorem biList : BiO X W (.type "list") gList := by
  refine ⟨_, call_list_of, fun xs vs H HF d Q sub r e q => ?_⟩
  unfold gList at e
  split at e
  · cases e
    obtain ⟨v, rfl, h⟩ := r.one
    cases h with
    | tup h1 h2 => exact ⟨_, _, rfl, .inr (SqT.mono sub h1), fun l hl => q _ _ _ (.new hl) (.lst upd_same (h2.mono (same_upd (free_of sub hl))))⟩
  · cases e
    obtain ⟨v, rfl, h⟩ := r.one
    cases h with
    | lst h1 h2 => exact ⟨_, _, rfl, .inl (SqL.of (sub _ _ h1)), fun l hl => q _ _ _ (.new hl) (.lst upd_same (h2.mono (same_upd (free_of sub hl))))⟩
  · cases e
    obtain ⟨v, rfl, h⟩ := r.one
    cases h with
    | rol h1 h2 => exact ⟨_, _, rfl, .inl (sub.seq h1), fun l hl => q _ _ _ (.new hl) (.lst upd_same (h2.mono (same_upd (free_of sub hl))))⟩
  · cases e
def gTuple : List D → Option D
  | [.tup ds] => some (.tup ds)
  | [.lst ds] => some (.tup ds)
  | _ => none
theorem biTuple : BiO X W (.type "tuple") gTuple := by
  refine ⟨_, call_tuple_of, fun xs vs H HF d Q sub r e q => ?_⟩
  unfold gTuple at e
  split at e
  · cases e
    obtain ⟨v, rfl, h⟩ := r.one
    cases h with
    | tup h1 h2 => exact ⟨_, _, rfl, .inr ⟨SqT.mono sub h1, q _ _ _ .no (.tup h1 h2)⟩⟩
  · cases e
    obtain ⟨v, rfl, h⟩ := r.one
    cases h with
    | lst h1 h2 => exact ⟨_, _, rfl, .inl ⟨SqL.of (sub _ _ h1), fun l hl => q _ _ _ (.new hl) (.tup (SqE.of upd_same) (h2.mono (same_upd (free_of sub hl))))⟩⟩
  · cases e
def bools : List D → Option (List Bool)
  | [] => some []
  | .bl b :: r => (bools r).map (b :: ·)
  | _ => none
theorem Reps.bools {G : Gd} {HF : Hp} : ∀ {ds : List D} {vs : List V} {bs : List Bool}, Reps G HF vs ds → DL.bools ds = some bs → vs = bs.map V.bl
  | [], _, _, h, e => by cases h; cases e; rfl
  | .bl b :: ds, _, bs, h, e => by
    cases h with
    | cons h1 h2 =>
      cases h1
      have e : (DL.bools ds).map (b :: ·) = some bs := e
      cases q : DL.bools ds with
      | none => rw [q] at e; cases e
      | some bs' =>
        rw [q] at e
        cases e
        rw [Reps.bools h2 q]
        rfl
  | .non :: ds, _, _, _, e => by cases e
  | .int _ :: ds, _, _, _, e => by cases e
  | .str _ :: ds, _, _, _, e => by cases e
  | .tup _ :: ds, _, _, _, e => by cases e
  | .lst _ :: ds, _, _, _, e => by cases e
  | .rol _ :: ds, _, _, _, e => by cases e
  | .fn _ :: ds, _, _, _, e => by cases e
def gAny : List D → Option D
  | [.lst ds] => (bools ds).map fun bs => .bl (bs.any id)
  | _ => none
theorem biAny (hc : X.calm = true) : BiO X W (.builtin "any") gAny := by
  refine ⟨_, cr_any hc, fun xs vs H HF d Q sub r e q => ?_⟩
  unfold gAny at e
  split at e
  · rename_i ds
    obtain ⟨v, rfl, h⟩ := r.one
    cases h with
    | lst h1 h2 =>
      cases eb : bools ds with
      | none => rw [eb] at e; cases e
      | some bs =>
        rw [eb] at e
        cases e
        have ev := h2.bools eb
        subst ev
        exact ⟨_, bs, rfl, SqL.of (sub _ _ h1), q _ _ _ .no (.bl _)⟩
  · cases e
def gAll : List D → Option D
  | [.lst ds] => (bools ds).map fun bs => .bl (bs.all id)
  | _ => none
theorem biAll (hc : X.calm = true) : BiO X W (.builtin "all") gAll := by
  refine ⟨_, cr_all hc, fun xs vs H HF d Q sub r e q => ?_⟩
  unfold gAll at e
  split at e
  · rename_i ds
    obtain ⟨v, rfl, h⟩ := r.one
    cases h with
    | lst h1 h2 =>
      cases eb : bools ds with
      | none => rw [eb] at e; cases e
      | some bs =>
        rw [eb] at e
        cases e
        have ev := h2.bools eb
        subst ev
        exact ⟨_, bs, rfl, SqL.of (sub _ _ h1), q _ _ _ .no (.bl _)⟩
  · cases e
/-- list(range(n)), list(range(a, b)) -/
def rgD (a b : Int) : List D := (List.range (b - a).toNat).map fun i => D.int (a + (i : Nat))
theorem rgD_reps {G : Gd} {HF : Hp} (a b : Int) : Reps G HF (rgV a b) (rgD a b) := by
  unfold rgV rgD
  induction List.range (b - a).toNat with
  | nil => exact .nil
  | cons i r ih => exact .cons (.int _) ih
def mListRg (fa : DEn) : DEn := fun ρ S => (fa ρ S).bind fun x S1 => match x with
  | .int n => if n ≤ 1000000 ∧ -1000000 ≤ n then .ok (.lst (rgD 0 n)) S1 else .bad
  | _ => .bad
theorem xlistRg {p p2 pos2 : Pos} (hc : X.calm = true) (hm : X.mg "list" = none) (hm2 : X.mg "range" = none) (ha : DE X W a fa) (hg : Gl X "list" := by rfl) (hg2 : Gl X "range" := by rfl)
    (na : starEach [a] X.env = (false, eval a X.env) :: starEach [] X.env := by rfl) (na2 : starEach [Expr.Call (.Name "range" p2) [a] [] pos2] X.env = (false, eval (.Call (.Name "range" p2) [a] [] pos2) X.env) :: starEach [] X.env := by rfl) :
    DE X W (.Call (.Name "list" p) [.Call (.Name "range" p2) [a] [] pos2] [] pos) (mListRg fa) :=
  PE.imp (pe_listRg hc hg hm (prg_1 hg2 hm2 ha na) na2) fun σ H Q ⟨HF, L, ρ, S, R, p⟩ => ⟨HF, L, ρ, S, R, Post.bind p fun x S1 v H1 HF1 L1 e1 st1 R1 r1 p1 => by
    split at p1
    · rename_i n
      cases r1
      split at p1
      · rename_i hz
        refine ⟨n, rfl, ⟨by omega, by omega, by omega, by omega, by omega⟩, fun q hq => p1.done R1 (.new hq) (.lst upd_same (rgD_reps 0 n))⟩
      · exact p1.elim
    · exact p1.elim⟩

/-! ### isinstance -/
def D.ty : D → Option String
  | .non => some "NoneType"
  | .bl _ => some "bool"
  | .int _ => some "int"
  | .str _ => some "str"
  | .tup _ => some "tuple"
  | .lst _ => some "list"
  | _ => none
theorem TyX.of_sqT {K : PySem.W.Frag} {H : Hp} {a : Addr} {xs : List V} (h : SqT K H a xs) : TyX K H (.ref a) (.type "tuple") := by
  rcases h with (h | ⟨o, h⟩) | ⟨o, its, n, h1, h2, _⟩
  · exact .base (.tup h)
  · exact .fTuple h
  · exact .kTuple h1 h2
theorem Rep.ty {G : Gd} {H HF : Hp} {v : V} {d : D} {t : String} (sub : Same HF H) (r : Rep G HF v d) (e : d.ty = some t) : TyX G.K H v (.type t) := by
  cases d with
  | non => cases r; cases e; exact .base .non
  | bl _ => cases r; cases e; exact .base (.bl _)
  | int _ => cases r; cases e; exact .base (.int _)
  | str _ => cases r; cases e; exact .base (.str _)
  | tup _ => cases r with
    | tup h1 h2 => cases e; exact TyX.of_sqT (SqT.mono sub h1)
  | lst _ => cases r with
    | lst h1 h2 => cases e; exact .base (.lst (sub _ _ h1))
  | _ => cases e
/-- isinstance(x, T), T a built-in class by its name: the answer by a table -/
def isTy (d : D) (T : String) : Option Bool := d.ty.bind fun t => kitB t T
def mIsT (T : String) (fa : DEn) : DEn := fun ρ S => (fa ρ S).bind fun x S1 => lift ((isTy x T).map D.bl) S1
theorem isinst_args {t : Str} {T : String} {pt : Pos} (ha : DE X W a fa) (hmT : X.mg t = none) (hvT : bootBuiltins t = some (.type T)) (hgT : Gl X t) (hnT : t ≠ "__name__") (hdT : (t == ("__debug__" : Str)) = false)
    (he : starEach [a, .Name t pt] X.env = (false, eval a X.env) :: starEach [.Name t pt] X.env) (he2 : starEach [.Name t pt] X.env = (false, eval (.Name t pt) X.env) :: starEach [] X.env) :
    PA X [a, .Name t pt] (tCons (tD (gd X W) W fa) (tCons (tC (.ty T)) tNil)) := pa_cons ha (pa_cons (pe_bltn (v := .ty T) hgT hmT hvT rfl hnT hdT) pa_nil he2) he
theorem xisT {t : Str} {T : String} {p pt : Pos} (hm : X.mg "isinstance" = none) (hmT : X.mg t = none) (hvT : bootBuiltins t = some (.type T)) (ha : DE X W a fa) (hg : Gl X "isinstance" := by rfl) (hgT : Gl X t := by rfl) (hnT : t ≠ "__name__" := by decide) (hdT : (t == ("__debug__" : Str)) = false := by decide)
    (he : starEach [a, .Name t pt] X.env = (false, eval a X.env) :: starEach [.Name t pt] X.env := by rfl) (he2 : starEach [.Name t pt] X.env = (false, eval (.Name t pt) X.env) :: starEach [] X.env := by rfl) (hpl : (backTo pos (starEach [.Name t pt] X.env)).any (·.1) = false := by rfl) :
    DE X W (.Call (.Name "isinstance" p) [a, .Name t pt] [] pos) (mIsT T fa) :=
  PE.imp (pe_callB call_isi hg hm PyProof.Rows.boot_isinstance (isinst_args ha hmT hvT hgT hnT hdT he he2) (by decide) (by decide) he hpl) fun σ H Q ⟨HF, L, ρ, S, R, p⟩ => ⟨HF, L, ρ, S, R, Post.bind p fun x S1 v H1 HF1 L1 e1 st1 R1 r1 p1 => by
    obtain ⟨d, ed, p2⟩ := p1.lift
    cases et : x.ty with
    | none => unfold isTy at ed; rw [et] at ed; cases ed
    | some tt =>
      cases ek : kitB tt T with
      | none => unfold isTy at ed; rw [et] at ed; simp only [Option.bind_some, ek] at ed; cases ed
      | some k =>
        have e2 : d = .bl k := by
          unfold isTy at ed; rw [et] at ed; simp only [Option.bind_some, ek] at ed; cases ed; rfl
        subst e2
        exact ⟨v, .ty T, .type tt, .type T, k, rfl, .ty T, r1.ty R1.sub et, kit_ty ek, p2.done R1 .no (.bl k)⟩⟩
end
end DL

namespace PySem
open Sem (wp)
set_option maxHeartbeats 1000000 in
theorem dl_enumerate_new1 {v : Value} {o : Obj} {H : Heap → Prop} (B : Begins v o H) :
    Meets (Builtin.«enumerate.__new__» ⟨[.type "enumerate", v], []⟩) (fun _ R s => H s.heap ∧
      R (.ok (.ret (.ref (s.heap.push o).objs.size))) { s with heap := (s.heap.push o).push { cls := .type "enumerate", data := .fields #[.none, .bool false, .ref s.heap.objs.size, rawInt 0, .none, .none] } }) :=
  .of_wp fun prog w A R s h => by
    obtain ⟨hp, g, d, tk, os⟩ := s; obtain ⟨h1, h⟩ := h
    have hsub := sub_enumerate
    have q1 : ∀ {A' : Around} {E : Value → Shared → Prop} {Q : Value → Shared → Prop}, Q (.ref hp.objs.size) ⟨hp.push o, g, d, tk, os⟩ → wpAny (model prog w) A' (pyIter v) Q E ⟨hp, g, d, tk, os⟩ :=
      fun q => B.iter prog w _ _ ⟨hp, g, d, tk, os⟩ _ h1 q
    wp_walk using q1
    refine wpAny_stack_any fun st => wpAny_pure ?_
    split
    · rename_i c _ _ _ _ _
      cases (c == Value.type "enumerate")
      · wp_walk using q1
        exact ⟨_, rfl, h⟩
      · wp_walk using q1
        exact ⟨_, rfl, h⟩
    · wp_walk using q1
      exact ⟨_, rfl, h⟩
theorem dl_call_enumerate {prog : Program} {w : World} {A : Around} {E : Value → Shared → Prop} {s : Shared} {v : Value} {o : Obj} {H : Heap → Prop} {Q : Value → Shared → Prop} (B : Begins v o H) (h1 : H s.heap)
    (h : ∀ h', IsEnum h' (s.heap.objs.size + 1) s.heap.objs.size 0 .none → h'.get? s.heap.objs.size = some o → h'.objs.size = s.heap.objs.size + 2 →
      (∀ b o, s.heap.get? b = some o → h'.get? b = some o) → Q (.ref (s.heap.objs.size + 1)) { s with heap := h' }) :
    wpAny (model prog w) A (call (.type "enumerate") [v]) Q E s := by
  refine callType_new F.called_enumerate (by decide) (F.typeCall_enumerate_1 _) (F.newCall_enumerate_1 _) (fun obj => F.args_object_init_2 obj _) F.entry_enumerate_new
    (dl_enumerate_new1 B) ⟨h1, ?_⟩
  have hz : (s.heap.push o).objs.size = s.heap.objs.size + 1 := Heap.size_push ..
  show _ ∧ _
  rw [hz]
  have he : IsEnum ((s.heap.push o).push { cls := .type "enumerate", data := .fields #[.none, .bool false, .ref s.heap.objs.size, rawInt 0, .none, .none] }) (s.heap.objs.size + 1) s.heap.objs.size 0 .none := by
    have := Heap.get?_push_size (s.heap.push o) (o := { cls := .type "enumerate", data := .fields #[.none, .bool false, .ref s.heap.objs.size, rawInt 0, .none, .none] }) rfl
    rw [hz] at this; exact this
  refine ⟨⟨_, he, rfl⟩, h _ he (Heap.get?_push_of_some _ (Heap.get?_push_size _ B.free)) (by rw [Heap.size_push, hz]) fun b o x => Heap.get?_push_of_some _ (Heap.get?_push_of_some _ x)⟩
end PySem
namespace DL
open PySem L2
/-- the tuple at a, each item in a new pair -/
def IteT (K : PySem.W.Frag) (a : Addr) : It :=
  ⟨fun i H => ∃ (xs : List V) (x : V), SqT K H a xs ∧ xs[i]? = some x, fun i H v H' => ∃ T x, v = .ref T ∧ H T = none ∧ H' = upd H T (.tup [.int (i : Nat), x]) ∧ ∀ xs, SqT K H a xs → xs[i]? = some x, fun i H => ∃ xs : List V, SqT K H a xs ∧ xs.length ≤ i⟩
theorem turn_enumT {P : Program} {w : World} {K : PySem.W.Frag} {elts : List Expr} {kk : Nat} {tpos : Pos} (a e it : Addr) (ha : a ≠ it) :
    Turn P w K (.Tuple elts kk tpos) (IteT K a) [e, it] e (fun i h => (∃ old, IsEnum h e it ((i : Nat) : Int) old) ∧ h.IsTupleIter it a i ∧ e ≠ it ∧ a ≠ e) where
  mem := by simp
  obj := fun i h st b hb => by
    obtain ⟨⟨old, he⟩, ⟨o, ho, hc, hd⟩, _⟩ := st
    have e' : b = e ∨ b = it := by simpa using hb
    rcases e' with z | z
    · rw [z]; exact ⟨_, he, fun v q => nomatch q⟩
    · rw [z]; exact ⟨o, ho, fun v q => by rw [hd] at q; cases q⟩
  keep := fun i h h' st k => let ⟨⟨old, he⟩, hi, hne⟩ := st; ⟨⟨old, k e (by simp) _ he⟩, hi.at fun o q => k it (by simp) o q, hne⟩
  item := by
    intro X hP hw hK hc i pins s σ H E I hf st hg
    subst hP hw hK
    obtain ⟨⟨old, he⟩, hit, hne, hae⟩ := st
    obtain ⟨xs, x, hq, hx⟩ := hg
    obtain ⟨its, rv, p, hz⟩ := I.tuple hq
    obtain ⟨u, hu, ru⟩ := rv.get hx
    have hel : e < s.heap.objs.size := Heap.lt_size he
    have hil : it < s.heap.objs.size := by obtain ⟨_, q, _⟩ := hit; exact Heap.lt_size q
    have D := Draws.tuple (prog := X.prog) (w := X.w) (A := X.A.in1) (I.ok.hd hc) it a ha its.toArray
    have hlt : i < its.toArray.size := by
      have := (List.getElem?_eq_some_iff.mp hu).1
      simpa using this
    refine wpAny_pyNext_enum_itemD D he ⟨hit, show s.heap.IsTuple a its.toArray from p⟩ hlt hne (by simp [hne]; exact fun z => hae z.symm) fun y h' tk hy ho hst' hT hsz hk => ?_
    have hyu : y = u := by
      have e1 : its[i]? = some y := by simpa using hy
      rw [hu] at e1
      exact (Option.some.inj e1).symm
    subst hyu
    refine ⟨_, rfl, wpAny_letOwnedTupleGo_enum (s := { s with heap := h', toks := tk + 1 }) ho fun h'' he' sb => ?_⟩
    have hT2 : h''.get? s.heap.objs.size = some { cls := .type "tuple", data := .seq #[.int i tk, y] } := (sb.2 _ (Nat.ne_of_gt hel)).trans hT
    have new : ObjOk X.prog X.w (upd H s.heap.objs.size (.tup [.int (i : Nat), x])) h'' s.heap.objs.size (.tup [.int (i : Nat), x]) :=
      ⟨by show 2 ≤ sizeLine; decide, [.int i tk, y], .cons ⟨_, rfl⟩ (.cons ru .nil), ⟨_, hT2, rfl, _, rfl⟩⟩
    have I1 : Inv X pins σ (upd H s.heap.objs.size (.tup [.int (i : Nat), x])) { s with heap := h'', toks := tk + 1 } :=
      I.turnedNew (ch := [e, it]) (fun b ob hb q => (sb.2 b (fun z => hb (by simp [z]))).trans (hk b ob (fun z => hb (by simp [z])) (fun z => hb (by simp [z])) q)) hf (Nat.le_refl _) new
    refine ⟨.ref s.heap.objs.size, _, I1, rfl, ⟨_, x, rfl, I.hok.fresh (Nat.le_refl _), rfl, fun ys hy => by rw [I.tuple_inj hy hq]; exact hx⟩, ⟨⟨y, ?_⟩, hst'.1.at fun o q => (sb.2 it (Ne.symm hne)).trans q, hne, hae⟩, fun b hb => ?_⟩
    · have e1 : ((i + 1 : Nat) : Int) = (i : Int) + 1 := by omega
      rw [e1]; exact he'
    · have hb' : b < s.heap.objs.size := by
        have e' : b = e ∨ b = it := by simpa using hb
        rcases e' with z | z
        · rw [z]; exact hel
        · rw [z]; exact hil
      rw [upd_ne (Nat.ne_of_lt hb')]
      exact (hf b hb).1
  done := by
    intro X hP hw hK hc i pins s σ H E I hf st hg
    subst hP hw hK
    obtain ⟨⟨old, he⟩, hit, hne, hae⟩ := st
    obtain ⟨xs, hq, hx⟩ := hg
    obtain ⟨its, rv, p, hz⟩ := I.tuple hq
    obtain ⟨f0, f1, f2, f3, f4, f5⟩ := hf it (by simp)
    have hl := rv.length
    have p' : s.heap.IsTuple a its.toArray := p
    have hT : s.TypeIs (.ref e) "enumerate" := ⟨_, he, rfl⟩
    unfold pyNext
    refine wpAny_bind (wpAny_attempt (wpAny_callSpecial?_slot (name := Str.ofString "__next__") hT F.slot_enumerate_next
      (wpAny_call_entry F.slot_enumerate_next hT F.entry_enumerate_next ?_ (F.args_enumerate_next_1 _))))
    show wpAny _ _ (field (.ref e) 2 >>= _) _ _ _
    refine wpAny_bind (wpAny_field he rfl (x := .ref it) rfl ?_)
    refine wpAny_bind (wpAny_nextOf_tuple_end (A := X.A.in1) (I.ok.hd hc) hit p' (by simp; omega) fun h' x he' hx' => ?_)
    obtain ⟨o, ho, hc'⟩ := hx'
    refine wpAny_bind (wpAny_isInstance (T := "StopIteration") (b := true) ⟨o, ho, hc'⟩ isSubtype_stop ?_)
    exact wpAny_pure ⟨rfl, I.turned (t' := s.toks) (fun b o hb q => he' b o hb q) f0 f1 f3 f4 f5⟩
  self := fun A i s Q E st h => let ⟨⟨_, he⟩, _⟩ := st; wpAny_pyIter_enum he h
def iEnumT (K : PySem.W.Frag) (ta : TA) : TI := fun σ H R => ta σ H fun vs H1 => ∃ a xs, vs = [.ref a] ∧ ((SqL K H1 a xs ∧ R (Ite K a) H1) ∨ (SqT K H1 a xs ∧ R (IteT K a) H1))
open PyProof.Rows in
theorem pi_enumT {X : Cx} {e : Expr} {ta : TA} {p pos tpos : Pos} {elts : List Expr} {kk : Nat} (hg : Gl X "enumerate") (hm : X.mg "enumerate" = none) (ha : PA X [e] ta) (hs : starEach [e] X.env = [(false, eval e X.env)] := by rfl) :
    PI X (.Tuple elts kk tpos) (.Call (.Name "enumerate" p) [e] [] pos) (iEnumT X.K ta) := by
  refine ⟨fun pins s σ H R I h => ?_⟩
  refine Call_ (ld_blt I hg hm boot_enumerate (PyProof.Rows.callWith_type1 (thn (ha.run pos pins s σ H _ I h) fun us s1 ⟨vs, H1, I1, r1, q1⟩ => ?_) hs rfl))
  obtain ⟨a, xs, ex, q1⟩ := q1
  subst ex
  cases r1 with
  | cons r rr =>
    cases rr
    cases r
    have key : ∀ b, b ∈ [s1.heap.objs.size + 1, s1.heap.objs.size] → FpOk X pins H1 b := fun b hb => by
      have e' : b = s1.heap.objs.size + 1 ∨ b = s1.heap.objs.size := by simpa using hb
      have hle : s1.heap.objs.size ≤ b := by
        rcases e' with z | z
        · rw [z]; exact Nat.le_add_right _ _
        · rw [z]; exact Nat.le_refl _
      exact I1.fpOk hle (I1.hok.fresh hle)
    rcases q1 with ⟨hq, q⟩ | ⟨hq, q⟩
    · obtain ⟨its, rv, p', hz⟩ := I1.list hq
      refine call_enumerate_list p'.isList fun h' he hit hsz hk => wpAny_pyIter_enum he ?_
      have I2 : Inv X pins σ H1 { s1 with heap := h' } := I1.kept (t' := s1.toks) hk
      exact ⟨s1.heap.objs.size + 1, [s1.heap.objs.size + 1, s1.heap.objs.size], _, _, H1, rfl, I2, turn_enum a (s1.heap.objs.size + 1) s1.heap.objs.size, ⟨⟨.none, he⟩, hit, Nat.succ_ne_self _⟩, key, q⟩
    · obtain ⟨its, rv, p', hz⟩ := I1.tuple hq
      have p2 : s1.heap.IsTuple a its.toArray := p'
      obtain ⟨oa, hoa, _⟩ := id p'
      have hal := Heap.lt_size hoa
      refine dl_call_enumerate (begins_tuple a its.toArray) p2 fun h' he hit hsz hk => wpAny_pyIter_enum he ?_
      have I2 : Inv X pins σ H1 { s1 with heap := h' } := I1.kept (t' := s1.toks) hk
      exact ⟨s1.heap.objs.size + 1, [s1.heap.objs.size + 1, s1.heap.objs.size], _, _, H1, rfl, I2, turn_enumT a (s1.heap.objs.size + 1) s1.heap.objs.size (Nat.ne_of_lt hal), ⟨⟨.none, he⟩, ⟨_, hit, rfl, rfl⟩, Nat.succ_ne_self _, Nat.ne_of_lt (Nat.lt_succ_of_lt hal)⟩, key, q⟩
end DL

namespace DL
open PySem L2
section
variable {X : Cx} {W : WD} {pos : Pos} {a b c : Expr} {fa fb fc : DEn} {es : List Expr}
/-! ### expressions that give a cell -/
abbrev DVn := DL.Env → Store → Out EV
def tV (G : Gd) (W : WD) (f : DVn) : TE := fun σ H Q => ∃ HF L ρ S, Rel G H HF L σ ρ S ∧ Post G W σ ρ H HF L (fun HF' L' v e => RepE G HF' L' v e) Q (f ρ S)
abbrev DV (X : Cx) (W : WD) (e : Expr) (f : DVn) : Prop := PE X e (tV (gd X W) W f)
abbrev DAE (X : Cx) (W : WD) (es : List Expr) (f : DAn) : Prop := PA X es (tA (gd X W) W f)
def mV (fa : DEn) : DVn := fun ρ S => (fa ρ S).bind fun d S1 => .ok (.v d) S1
theorem v1 (ha : DE X W a fa) : DV X W a (mV fa) := PE.imp ha fun σ H Q ⟨HF, L, ρ, S, R, p⟩ => ⟨HF, L, ρ, S, R, Post.bind p fun d S1 v H1 HF1 L1 e1 st1 R1 r1 p1 => p1.done R1 .no r1⟩
def mCel (i : Nat) : DVn := fun ρ S => match ρ[i]? with
  | some (some (.cel n)) => .ok (.cel n) S
  | _ => .bad
theorem vc (i : Nat) {x : Str} (hN : X.N[i]? = some x := by rfl) (hv : Vis X.env.scope x := by first | exact Or.inl rfl | exact Or.inr (Or.inl rfl) | exact Or.inr (Or.inr rfl)) (hd : (x == ("__debug__" : Str)) = false := by decide)
    (hcd : (x == ("__classdict__" : Str)) = false := by decide) : DV X W (.Name x pos) (mCel i) := by
  refine PE.imp (pe_var (i := i) hN hv hd hcd) fun σ H Q ⟨HF, L, ρ, S, R, p⟩ => ?_
  unfold mCel at p
  split at p
  · rename_i n e
    obtain ⟨v, h1, h2⟩ := R.env i _ e
    exact ⟨v, h1, p.done R .no h2⟩
  · exact p.elim
/-- a new cell, its content just laid at p -/
theorem Post.fresh {α : Type} {σ : L2.St} {ρ : DL.Env} {H HF : Hp} {L : List Addr} {S : Store} {Q : VK} {ds : List D} {vs : List V} {p : Addr} (R : Rel (gd X W) H HF L σ ρ S) (hp : H p = none) (r : Reps (gd X W) HF vs ds)
    (h : Post (gd X W) W σ ρ H HF L (fun HF' L' v e => RepE (gd X W) HF' L' v e) Q (.ok (.cel S.length) (S ++ [some (.lst ds)]))) : Q (.ref p) (upd H p (.lst vs)) := by
  obtain ⟨R', st⟩ := R.fresh hp r
  exact h _ _ _ _ st R' ⟨p, by rw [R.sl, List.getElem?_append_right (Nat.le_refl _)]; simp, rfl⟩
variable {fs : DDn}
def mNew (fs : DDn) : DVn := fun ρ S => (fs ρ S).bind fun xs S1 => if xs.length ≤ lim then .ok (.cel S1.length) (S1 ++ [some (.lst xs)]) else .bad
theorem vlst (hs : DA X W es fs) : DV X W (.List es pos) (mNew fs) :=
  PE.imp (pe_lst hs) fun σ H Q ⟨HF, L, ρ, S, R, p⟩ => ⟨HF, L, ρ, S, R, Post.bind p fun xs S1 vs H1 HF1 L1 e1 st1 R1 r1 p1 => by
    split at p1
    · rename_i hz
      exact ⟨by rw [r1.length]; exact Nat.le_trans hz lim_le, fun q hq => Post.fresh (α := EV) R1 hq r1 p1⟩
    · exact p1.elim⟩
/-- list(x) as a new cell -/
def mNewOf (fa : DEn) : DVn := fun ρ S => (fa ρ S).bind fun x S1 => match gList [x] with
  | some (.lst xs) => .ok (.cel S1.length) (S1 ++ [some (.lst xs)])
  | _ => .bad
theorem vlist {p : Pos} (hm : X.mg "list" = none) (ha : DE X W a fa) (hg : Gl X "list" := by rfl) (he : starEach (a :: []) X.env = (false, eval a X.env) :: starEach [] X.env := by rfl) (hpl : (backTo pos (starEach [] X.env)).any (·.1) = false := by rfl) :
    DV X W (.Call (.Name "list" p) [a] [] pos) (mNewOf fa) :=
  PE.imp (pe_callTy call_list_of hg hm PyProof.Rows.boot_list (pa_cons ha pa_nil he) (by decide) (by decide) he hpl) fun σ H Q ⟨HF, L, ρ, S, R, p⟩ => ⟨HF, L, ρ, S, R, Post.bind p fun x S1 v H1 HF1 L1 e1 st1 R1 r1 p1 => by
    cases x with
    | tup ds => cases r1 with
      | tup h1 h2 => exact ⟨_, _, rfl, .inr (SqT.mono R1.sub h1), fun l hl => Post.fresh (α := EV) R1 hl h2 p1⟩
    | lst ds => cases r1 with
      | lst h1 h2 => exact ⟨_, _, rfl, .inl (SqL.of (R1.sub _ _ h1)), fun l hl => Post.fresh (α := EV) R1 hl h2 p1⟩
    | rol ds => cases r1 with
      | rol h1 h2 => exact ⟨_, _, rfl, .inl (R1.sub.seq h1), fun l hl => Post.fresh (α := EV) R1 hl h2 p1⟩
    | _ => exact p1.elim⟩
def mNewRg (fa : DEn) : DVn := fun ρ S => (fa ρ S).bind fun x S1 => match x with
  | .int n => if n ≤ 1000000 ∧ -1000000 ≤ n then .ok (.cel S1.length) (S1 ++ [some (.lst (rgD 0 n))]) else .bad
  | _ => .bad
theorem vlistRg {p p2 pos2 : Pos} (hc : X.calm = true) (hm : X.mg "list" = none) (hm2 : X.mg "range" = none) (ha : DE X W a fa) (hg : Gl X "list" := by rfl) (hg2 : Gl X "range" := by rfl)
    (na : starEach [a] X.env = (false, eval a X.env) :: starEach [] X.env := by rfl) (na2 : starEach [Expr.Call (.Name "range" p2) [a] [] pos2] X.env = (false, eval (.Call (.Name "range" p2) [a] [] pos2) X.env) :: starEach [] X.env := by rfl) :
    DV X W (.Call (.Name "list" p) [.Call (.Name "range" p2) [a] [] pos2] [] pos) (mNewRg fa) :=
  PE.imp (pe_listRg hc hg hm (prg_1 hg2 hm2 ha na) na2) fun σ H Q ⟨HF, L, ρ, S, R, p⟩ => ⟨HF, L, ρ, S, R, Post.bind p fun x S1 v H1 HF1 L1 e1 st1 R1 r1 p1 => by
    split at p1
    · rename_i n
      cases r1
      split at p1
      · rename_i hz
        exact ⟨n, rfl, ⟨by omega, by omega, by omega, by omega, by omega⟩, fun q hq => Post.fresh (α := EV) R1 hq (rgD_reps 0 n) p1⟩
      · exact p1.elim
    · exact p1.elim⟩
/-- a cell given up: its value from now on -/
def mFrz (i : Nat) : DEn := fun ρ S => match ρ[i]? with
  | some (some (.cel n)) => match S[n]? with
    | some (some (.lst ds)) => .ok (.lst ds) (S.set n none)
    | _ => .bad
  | _ => .bad
theorem xfrz (i : Nat) {x : Str} (hN : X.N[i]? = some x := by rfl) (hv : Vis X.env.scope x := by first | exact Or.inl rfl | exact Or.inr (Or.inl rfl) | exact Or.inr (Or.inr rfl)) (hd : (x == ("__debug__" : Str)) = false := by decide)
    (hcd : (x == ("__classdict__" : Str)) = false := by decide) : DE X W (.Name x pos) (mFrz i) := by
  refine PE.imp (pe_var (i := i) hN hv hd hcd) fun σ H Q ⟨HF, L, ρ, S, R, p⟩ => ?_
  unfold mFrz at p
  split at p
  · rename_i n e
    split at p
    · rename_i ds e2
      obtain ⟨v, h1, pa, h2, h3⟩ := R.env i _ e
      subst h3
      obtain ⟨HF', R', st, r⟩ := R.freeze h2 e2
      exact ⟨_, h1, p _ _ _ _ st R' r⟩
    · exact p.elim
  · exact p.elim

/-! ### operations on a cell -/
/-- the cell's content for an operation whose answer is flat: op(cell, b), op(a, cell), f(cell) -/
def mCmpL (i : Nat) (g : D → D → Option Bool) (fb : DEn) : DTn := fun ρ S => match ρ[i]? with
  | some (some (.cel n)) => (fb ρ S).bind fun y S1 => match S1[n]? with
    | some (some (.lst ds)) => lift (g (.lst ds) y) S1
    | _ => .bad
  | _ => .bad
/-- lend a cell's content -/
theorem lend {G : Gd} {H HF : Hp} {L : List Addr} {σ : L2.St} {ρ : DL.Env} {S : Store} (R : Rel G H HF L σ ρ S) {n : Nat} {q : Addr} {ds : List D} (h1 : L[n]? = some q) (h2 : S[n]? = some (some (.lst ds))) :
    ∃ HB, Same HB H ∧ Same HF HB ∧ Rep G HB (.ref q) (.lst ds) := by
  obtain ⟨HB, R', st, r⟩ := R.freeze h1 h2
  exact ⟨HB, R'.sub, st.fro, r⟩
theorem tT.celL {i : Nat} {r : R2} {g : D → D → Option Bool} (hs : CmS (gd X W) r g) {σ : L2.St} {H : Hp} {Q : Bool → Hp → Prop} {Qv : VK} (h : tT (gd X W) W (mCmpL i g fb) σ H Q) (hq : ∀ b H', Q b H' → Qv (.bl b) H') :
    tOp r (tVar i) (tD (gd X W) W fb) σ H Qv := by
  obtain ⟨HF, L, ρ, S, R, p⟩ := h
  unfold mCmpL at p
  split at p
  · rename_i n hn
    obtain ⟨v, hv1, pa, hp1, hp2⟩ := R.env i _ hn
    subst hp2
    refine ⟨_, hv1, HF, L, ρ, S, R, Post.bind p fun y S1 w H1 HF1 L1 e1 st1 R1 r1 p1 => ?_⟩
    split at p1
    · rename_i ds hS
      obtain ⟨b, eb, p2⟩ := p1.lift
      obtain ⟨HB, s1, s2, rb⟩ := lend R1 (st1.lget hp1) hS
      exact hs (.lst ds) y (.ref pa) w H1 HB b Qv s1 rb (Rep.mono s2 r1) eb (hq b H1 (p2.done R1 .no rfl))
    · exact p1.elim
  · exact p.elim
theorem xcmpL {op : CmpOp} (i : Nat) {x : Str} {px : Pos} {g : D → D → Option Bool} (o : CmpO X W op g) (hb : DE X W b fb) (hm : behindInMarks op b = false := by first | rfl | exact nomark _) (hN : X.N[i]? = some x := by rfl) (hv : Vis X.env.scope x := by first | exact Or.inl rfl | exact Or.inr (Or.inl rfl) | exact Or.inr (Or.inr rfl)) (hd : (x == ("__debug__" : Str)) = false := by decide)
    (hcd : (x == ("__classdict__" : Str)) = false := by decide) : DE X W (.Compare (.Name x px) [op] [b] pos) (mB (mCmpL i g fb)) := by
  obtain ⟨r, h1, h2⟩ := o.has
  exact PE.imp (pe_cmpR h1 (pe_var (i := i) hN hv hd hcd) hb hm) fun σ H Q h => tT.celL h2 (tD.mB h) fun _ _ q => q
theorem ycmpL {op : CmpOp} (i : Nat) {x : Str} {px : Pos} {g : D → D → Option Bool} (o : CmpO X W op g) (hb : DE X W b fb) (hm : behindInMarks op b = false := by first | rfl | exact nomark _) (hN : X.N[i]? = some x := by rfl) (hv : Vis X.env.scope x := by first | exact Or.inl rfl | exact Or.inr (Or.inl rfl) | exact Or.inr (Or.inr rfl)) (hd : (x == ("__debug__" : Str)) = false := by decide)
    (hcd : (x == ("__classdict__" : Str)) = false := by decide) : DT X W (.Compare (.Name x px) [op] [b] pos) (mCmpL i g fb) := by
  obtain ⟨r, h1, h2⟩ := o.has
  exact PT.imp (pt_cmpR h1 (pe_var (i := i) hN hv hd hcd) hb hm) fun σ H Q h => tT.celL h2 h fun b _ q => ⟨b, rfl, q⟩
/-- f(cell), the answer flat -/
def mBiC (i : Nat) (g : List D → Option D) : DEn := fun ρ S => match ρ[i]? with
  | some (some (.cel n)) => match S[n]? with
    | some (some (.lst ds)) => match g [.lst ds] with
      | some d => if d.flat = true then .ok d S else .bad
      | none => .bad
    | _ => .bad
  | _ => .bad
theorem Rep.flatten {G : Gd} {HF HF' : Hp} {v : V} {d : D} (r : Rep G HF v d) (c : d.flat = true) : Rep G HF' v d := by
  cases d with
  | non => cases r; exact .non
  | bl _ => cases r; exact .bl _
  | int _ => cases r; exact .int _
  | str _ => cases r; exact .str _
  | _ => cases c
theorem Al.back {H HF H' HF' : Hp} (a : Al H HF H' HF') (HG : Hp) : ∃ HG', Al H HG H' HG' := by
  cases a with
  | no => exact ⟨_, .no⟩
  | new h ho => exact ⟨_, .new h ho⟩
theorem tD.biC {i : Nat} {r : List V → Hp → VK → Prop} {g : List D → Option D} (hs : CaS (gd X W) r g) {σ : L2.St} {H : Hp} {Q : VK} (h : tD (gd X W) W (mBiC i g) σ H Q) : tCB r (tCons (tVar i) tNil) σ H Q := by
  obtain ⟨HF, L, ρ, S, R, p⟩ := h
  unfold mBiC at p
  split at p
  · rename_i n hn
    split at p
    · rename_i ds hS
      split at p
      · rename_i d ed
        split at p
        · rename_i hf
          obtain ⟨v, hv1, pa, hp1, hp2⟩ := R.env i _ hn
          subst hp2
          obtain ⟨HB, s1, s2, rb⟩ := lend R hp1 hS
          refine ⟨_, hv1, hs [.lst ds] [.ref pa] H HB d Q s1 (.cons rb .nil) ed fun u H' HB' al ru => ?_⟩
          obtain ⟨HF', al'⟩ := al.back HF
          exact p.done R al' (ru.flatten hf)
        · exact p.elim
      · exact p.elim
    · exact p.elim
  · exact p.elim
theorem xbiC (i : Nat) {x f : Str} {id : String} {p px : Pos} {g : List D → Option D} (o : BiO X W (.builtin id) g) (hm : X.mg f = none) (hv : bootBuiltins f = some (.builtin id)) (hg : Gl X f := by rfl) (hn : f ≠ "__name__" := by decide) (hdb : (f == ("__debug__" : Str)) = false := by decide)
    (hN : X.N[i]? = some x := by rfl) (hvi : Vis X.env.scope x := by first | exact Or.inl rfl | exact Or.inr (Or.inl rfl) | exact Or.inr (Or.inr rfl)) (hd : (x == ("__debug__" : Str)) = false := by decide) (hcd : (x == ("__classdict__" : Str)) = false := by decide)
    (he : starEach [Expr.Name x px] X.env = (false, eval (.Name x px) X.env) :: starEach [] X.env := by rfl) (hpl : (backTo pos (starEach [] X.env)).any (·.1) = false := by rfl) : DE X W (.Call (.Name f p) [.Name x px] [] pos) (mBiC i g) := by
  obtain ⟨r, h1, h2⟩ := o.has
  exact PE.imp (pe_callB h1 hg hm hv (pa_cons (pe_var (i := i) hN hvi hd hcd) pa_nil he) hn hdb he hpl) fun σ H Q h => tD.biC h2 h
/-- tuple(cell): a tuple of its content -/
def mTupC (i : Nat) : DEn := fun ρ S => match ρ[i]? with
  | some (some (.cel n)) => match S[n]? with
    | some (some (.lst ds)) => .ok (.tup ds) S
    | _ => .bad
  | _ => .bad
theorem xtupC (i : Nat) {x : Str} {p px : Pos} (hm : X.mg "tuple" = none) (hg : Gl X "tuple" := by rfl) (hN : X.N[i]? = some x := by rfl) (hvi : Vis X.env.scope x := by first | exact Or.inl rfl | exact Or.inr (Or.inl rfl) | exact Or.inr (Or.inr rfl)) (hd : (x == ("__debug__" : Str)) = false := by decide) (hcd : (x == ("__classdict__" : Str)) = false := by decide)
    (he : starEach [Expr.Name x px] X.env = (false, eval (.Name x px) X.env) :: starEach [] X.env := by rfl) (hpl : (backTo pos (starEach [] X.env)).any (·.1) = false := by rfl) : DE X W (.Call (.Name "tuple" p) [.Name x px] [] pos) (mTupC i) := by
  refine PE.imp (pe_callTy call_tuple_of hg hm PyProof.Rows.boot_tuple (pa_cons (pe_var (i := i) hN hvi hd hcd) pa_nil he) (by decide) (by decide) he hpl) fun σ H Q ⟨HF, L, ρ, S, R, p⟩ => ?_
  unfold mTupC at p
  split at p
  · rename_i n hn
    split at p
    · rename_i ds hS
      obtain ⟨q, vs, h1, h2, h3, h4, h5⟩ := R.celAt hn hS
      exact ⟨_, h1, _, _, rfl, .inl ⟨SqL.of h3, fun l hl => p.done R (.new hl) (.tup (SqE.of upd_same) (h4.mono (same_upd (R.hf hl))))⟩⟩
    · exact p.elim
  · exact p.elim
/-- a method of a cell: what it does to the content, what it answers -/
theorem tyV_cel {K : PySem.W.Frag} {H : Hp} {q : Addr} {vs : List V} (h : H q = some (.lst vs)) : tyV K "list" (.ref q) H := .inl ⟨rfl, _, SqL.of h⟩
def mMet (i : Nat) (g : List D → List D → Option (List D × D)) (fs : DDn) : DEn := fun ρ S => match ρ[i]? with
  | some (some (.cel n)) => match S[n]? with
    | some (some (.lst _)) => (fs ρ S).bind fun ys S1 => match S1[n]? with
      | some (some (.lst ds)) => match g ds ys with
        | some (ds', d) => .ok d (S1.set n (some (.lst ds')))
        | none => .bad
      | _ => .bad
    | _ => .bad
  | _ => .bad
/-- r, by values, does what g says -/
def MeS (G : Gd) (r : V → List V → Hp → VK → Prop) (g : List D → List D → Option (List D × D)) : Prop := ∀ (q : Addr) (ds ys ds' : List D) (d : D) (vs ws : List V) (H HF : Hp) (Q : VK), H q = some (.lst vs) → Reps G HF vs ds → Reps G HF ws ys → Same HF H → g ds ys = some (ds', d) →
  (∀ u vs', Reps G HF vs' ds' → Rep G HF u d → Q u (upd H q (.lst vs'))) → r (.ref q) ws H Q
structure MeO (X : Cx) (W : WD) (name : Str) (id : String) (g : List D → List D → Option (List D × D)) : Prop where
  has : ∃ r, PlainAttrs "list" ∧ Slot "list" name id ∧ typeOf (.builtin id) = pure (.type "method_descriptor") ∧ MtR X id r ∧ MeS (gd X W) r g
theorem xmet (i : Nat) {x name : Str} {id : String} {g : List D → List D → Option (List D × D)} {px apos : Pos} {fs : DDn} (o : MeO X W name id g) (ha : DA X W (a :: es) fs) (hN : X.N[i]? = some x := by rfl) (hvi : Vis X.env.scope x := by first | exact Or.inl rfl | exact Or.inr (Or.inl rfl) | exact Or.inr (Or.inr rfl)) (hd : (x == ("__debug__" : Str)) = false := by decide) (hcd : (x == ("__classdict__" : Str)) = false := by decide)
    (hbase : attributeBase (.Name x px) name X.env (eval (.Name x px) X.env) = eval (.Name x px) X.env := by rfl)
    (hfew : ((backTo pos (starEach (a :: es) X.env)).all (fun x => !x.1) && (backToKw pos (keywordEach [] X.env)).all (fun x => x.1.isSome) && decide ((a :: es).length + ([] : List Keyword).length + (if ([] : List Keyword).isEmpty then 0 else 1) < 30)) = true := by rfl)
    (hline : (apos.endLine == pos.line) = true := by rfl) (hs : starEach (a :: es) X.env = (false, eval a X.env) :: starEach es X.env := by rfl) (hplain : (backTo pos (starEach es X.env)).any (·.1) = false := by rfl) :
    DE X W (.Call (.Attribute (.Name x px) name apos) (a :: es) [] pos) (mMet i g fs) := by
  obtain ⟨r, o1, o2, o3, o4, o5⟩ := o.has
  refine PE.imp (pe_bm o1 o2 o3 o4 (pe_var (i := i) hN hvi hd hcd) ha hbase hfew hline hs hplain) fun σ H Q ⟨HF, L, ρ, S, R, p⟩ => ?_
  unfold mMet at p
  split at p
  · rename_i n hn
    split at p
    · rename_i ds0 hS0
      obtain ⟨v, hv1, pa, hp1, hp2⟩ := R.env i _ hn
      subst hp2
      obtain ⟨q1, vs0, q2, q3⟩ := R.cell n pa _ hp1 hS0
      refine ⟨_, hv1, tyV_cel q2, HF, L, ρ, S, R, Post.bind p fun ys S1 ws H1 HF1 L1 e1 st1 R1 r1 p1 => ?_⟩
      split at p1
      · rename_i ds hS
        split at p1
        · rename_i ds' d eg
          have hp1' := st1.lget hp1
          obtain ⟨q4, vs, q5, q6⟩ := R1.cell n pa _ hp1' hS
          refine o5 pa ds ys ds' d vs ws H1 HF1 Q q5 q6 r1 R1.sub eg fun u vs' rv ru => ?_
          obtain ⟨R2, st2⟩ := R1.write hp1' hS rv
          exact p1 _ _ _ _ st2 R2 ru
        · exact p1.elim
      · exact p1.elim
    · exact p.elim
  · exact p.elim
/-- .. without arguments -/
theorem xmet0 (i : Nat) {x name : Str} {id : String} {g : List D → List D → Option (List D × D)} {px apos : Pos} (o : MeO X W name id g) (hN : X.N[i]? = some x := by rfl) (hvi : Vis X.env.scope x := by first | exact Or.inl rfl | exact Or.inr (Or.inl rfl) | exact Or.inr (Or.inr rfl)) (hd : (x == ("__debug__" : Str)) = false := by decide) (hcd : (x == ("__classdict__" : Str)) = false := by decide)
    (hbase : attributeBase (.Name x px) name X.env (eval (.Name x px) X.env) = eval (.Name x px) X.env := by rfl) (hline : (apos.endLine == pos.line) = true := by rfl) :
    DE X W (.Call (.Attribute (.Name x px) name apos) [] [] pos) (mMet i g mNil) := by
  obtain ⟨r, o1, o2, o3, o4, o5⟩ := o.has
  refine PE.imp (pe_bm0 o1 o2 o3 o4 (pe_var (i := i) hN hvi hd hcd) hbase hline) fun σ H Q ⟨HF, L, ρ, S, R, p⟩ => ?_
  unfold mMet at p
  split at p
  · rename_i n hn
    split at p
    · rename_i ds0 hS0
      obtain ⟨v, hv1, pa, hp1, hp2⟩ := R.env i _ hn
      subst hp2
      obtain ⟨q1, vs0, q2, q3⟩ := R.cell n pa _ hp1 hS0
      refine ⟨_, hv1, tyV_cel q2, ?_⟩
      have p : Post (gd X W) W σ ρ H HF L (fun HF' _ v d => Rep (gd X W) HF' v d) Q (match S[n]? with
        | some (some (.lst ds)) => match g ds [] with
          | some (ds', d) => .ok d (S.set n (some (.lst ds')))
          | none => .bad
        | _ => .bad) := p
      split at p
      · rename_i ds hS
        split at p
        · rename_i ds' d eg
          obtain ⟨q4, vs, q5, q6⟩ := R.cell n pa _ hp1 hS
          refine o5 pa ds [] ds' d vs [] H HF Q q5 q6 .nil R.sub eg fun u vs' rv ru => ?_
          obtain ⟨R2, st2⟩ := R.write hp1 hS rv
          exact p _ _ _ _ st2 R2 ru
        · exact p.elim
      · exact p.elim
    · exact p.elim
  · exact p.elim
def gApp : List D → List D → Option (List D × D)
  | ds, [y] => if ds.length < lim then some (ds ++ [y], .non) else none
  | _, _ => none
theorem meApp : MeO X W "append" "list.append" gApp := by
  refine ⟨rAppend, PySem.F.plainAttrs_list, PySem.F.slot_list_append, PySem.F.type_list_append, mt_append, fun q ds ys ds' d vs ws H HF Q hq r1 r2 sub e k => ?_⟩
  unfold gApp at e
  split at e
  · split at e
    · rename_i y hz
      cases e
      obtain ⟨w, rfl, rw'⟩ := r2.one
      exact ⟨q, vs, w, rfl, rfl, hq, by rw [r1.length]; exact Nat.lt_of_lt_of_le hz lim_le, k _ _ (r1.append (.cons rw' .nil)) .non⟩
    · cases e
  · cases e
def gPop : List D → List D → Option (List D × D)
  | ds, [] => (ds[ds.length - 1]?).map fun d => (ds.dropLast, d)
  | _, _ => none
theorem mePop : MeO X W "pop" "list.pop" gPop := by
  refine ⟨rPop, PySem.F.plainAttrs_list, PySem.F.slot_list_pop, PySem.F.type_list_pop, mt_pop, fun q ds ys ds' d vs ws H HF Q hq r1 r2 sub e k => ?_⟩
  unfold gPop at e
  split at e
  · cases h : ds[ds.length - 1]? with
    | none => rw [h] at e; cases e
    | some y =>
      rw [h] at e
      cases e
      cases r2
      obtain ⟨v, e1, e2⟩ := r1.get h
      exact ⟨q, vs, v, rfl, rfl, hq, by rw [r1.length]; exact e1, k _ _ r1.dropLast e2⟩
  · cases e
def gPopAt : List D → List D → Option (List D × D)
  | ds, [.int i] => if ds.length ≤ lim then (ixN ds.length i).bind fun k => (ds[k]?).map fun d => (ds.eraseIdx k, d) else none
  | _, _ => none
theorem mePopAt : MeO X W "pop" "list.pop" gPopAt := by
  refine ⟨rPopAt, PySem.F.plainAttrs_list, PySem.F.slot_list_pop, PySem.F.type_list_pop, mt_popAt, fun q ds ys ds' d vs ws H HF Q hq r1 r2 sub e k => ?_⟩
  unfold gPopAt at e
  split at e
  · rename_i i
    split at e
    · rename_i hz
      cases h : ixN ds.length i with
      | none => rw [h] at e; cases e
      | some j =>
        rw [h] at e
        cases h2 : ds[j]? with
        | none => simp only [Option.bind_some, h2] at e; cases e
        | some y =>
          simp only [Option.bind_some, h2, Option.map_some, Option.some.injEq, Prod.mk.injEq] at e
          obtain ⟨e1, e2⟩ := e
          subst e1; subst e2
          obtain ⟨w, rfl, rw'⟩ := r2.one
          cases rw'
          obtain ⟨v, g1, g2⟩ := r1.get h2
          obtain ⟨s1, s2, s3, s4⟩ := ixN_seq h
          have hz' : ds.length ≤ 1000000 := hz
          exact ⟨q, vs, i, j, v, rfl, rfl, hq, by omega, by omega, by rw [r1.length]; exact s1, g1, k _ _ (r1.erase j) g2⟩
    · cases e
  · cases e
end
end DL

namespace DL
open PySem PySem.Spec PyProof.Rows L2
/-! ### calls of the program's own defs -/
def cels : List EV → List Nat
  | [] => []
  | .v _ :: r => cels r
  | .cel n :: r => n :: cels r
  | .exn _ :: r => cels r
  | .lam _ _ :: r => cels r
  | .cls _ :: r => cels r
def renum : Nat → List EV → List EV
  | _, [] => []
  | k, .v d :: r => .v d :: renum k r
  | k, .cel _ :: r => .cel k :: renum (k + 1) r
  | k, .exn x :: r => .exn x :: renum k r
  | k, .lam ws ds :: r => .lam ws ds :: renum k r
  | k, .cls _ :: r => .cls [] :: renum k r
def getCs (S : Store) : List Nat → Option (List (Option Cell))
  | [] => some []
  | n :: ns => match S[n]? with
    | some (some c) => (getCs S ns).map (some c :: ·)
    | _ => none
def putCs (S : Store) : List Nat → List (Option Cell) → Store
  | n :: ns, c :: cs => putCs (S.set n c) ns cs
  | _, _ => S
def callD (f : Den) (es : List EV) (S : Store) : Out D :=
  if (cels es).Nodup then match getCs S (cels es) with
    | some cs => match f (renum 0 es) cs with
      | .ok d S' => if S'.length = (cels es).length then .ok d (putCs S (cels es) S') else .bad
      | .ex x S' => if S'.length = (cels es).length then .ex x (putCs S (cels es) S') else .bad
      | .bad => .bad
    | none => .bad
  else .bad
theorem putCs_length : ∀ (ns : List Nat) (S : Store) (cs : List (Option Cell)), (putCs S ns cs).length = S.length
  | [], _, _ => by unfold putCs; rfl
  | n :: ns, S, [] => by unfold putCs; rfl
  | n :: ns, S, c :: cs => by
    show (putCs (S.set n c) ns cs).length = S.length
    rw [putCs_length ns, List.length_set]
theorem putCs_not : ∀ (ns : List Nat) (S : Store) (cs : List (Option Cell)) {n : Nat}, n ∉ ns → (putCs S ns cs)[n]? = S[n]?
  | [], _, _, _, _ => by unfold putCs; rfl
  | m :: ns, S, [], _, _ => by unfold putCs; rfl
  | m :: ns, S, c :: cs, n, h => by
    show (putCs (S.set m c) ns cs)[n]? = S[n]?
    rw [putCs_not ns _ cs (fun z => h (List.mem_cons_of_mem _ z)), List.getElem?_set_ne (fun z => h (by rw [← z]; exact List.mem_cons_self))]
theorem putCs_mem : ∀ (ns : List Nat) (S : Store) (cs : List (Option Cell)) {k n : Nat}, ns.Nodup → cs.length = ns.length → ns[k]? = some n → n < S.length → (putCs S ns cs)[n]? = cs[k]?
  | [], _, _, _, _, _, _, h, _ => by simp at h
  | m :: ns, S, [], _, _, _, h, _, _ => by simp at h
  | m :: ns, S, c :: cs, 0, n, nd, hl, h, hn => by
    simp at h; subst h
    show (putCs (S.set m c) ns cs)[m]? = _
    rw [putCs_not ns _ cs (List.nodup_cons.mp nd).1, List.getElem?_set_self hn]
    rfl
  | m :: ns, S, c :: cs, k + 1, n, nd, hl, h, hn => by
    show (putCs (S.set m c) ns cs)[n]? = _
    rw [putCs_mem ns (S.set m c) cs (k := k) (List.nodup_cons.mp nd).2 (by simpa using hl) (by simpa using h) (by simpa using hn)]
    simp
theorem getCs_length {S : Store} : ∀ {ns : List Nat} {cs : List (Option Cell)}, getCs S ns = some cs → cs.length = ns.length
  | [], cs, h => by cases h; rfl
  | n :: ns, cs, h => by
    unfold getCs at h
    split at h
    · cases q : getCs S ns with
      | none => rw [q] at h; cases h
      | some cs' =>
        rw [q] at h; cases h
        simp [getCs_length q]
    · cases h
theorem getCs_get {S : Store} : ∀ {ns : List Nat} {cs : List (Option Cell)} {k n : Nat}, getCs S ns = some cs → ns[k]? = some n → S[n]? = cs[k]? ∧ n < S.length
  | [], _, _, _, _, h => by simp at h
  | m :: ns, cs, k, n, h, e => by
    unfold getCs at h
    split at h
    · rename_i c hc
      cases q : getCs S ns with
      | none => rw [q] at h; cases h
      | some cs' =>
        rw [q] at h; cases h
        cases k with
        | zero =>
          simp at e; subst e
          exact ⟨by rw [hc]; rfl, (List.getElem?_eq_some_iff.mp hc).1⟩
        | succ k =>
          obtain ⟨h1, h2⟩ := getCs_get q (k := k) (n := n) (by simpa using e)
          exact ⟨by rw [h1]; simp, h2⟩
    · cases h
def pick (L : List Addr) (ns : List Nat) : List Addr := ns.map fun n => L[n]?.getD 0
theorem pick_get {L : List Addr} {ns : List Nat} {k n : Nat} {a : Addr} (h : ns[k]? = some n) (e : L[n]? = some a) : (pick L ns)[k]? = some a := by
  unfold pick
  rw [List.getElem?_map, h]
  show some (L[n]?.getD 0) = some a
  rw [e]; rfl
section
variable {G : Gd} {H HF : Hp} {L : List Addr} {σ : L2.St} {ρ : DL.Env} {S : Store}
theorem renum_reps {HF : Hp} {L : List Addr} {M : List Addr} : ∀ {es : List EV} {vs : List V} {k : Nat}, RepEs G HF L vs es → (∀ j n a, (cels es)[j]? = some n → L[n]? = some a → M[k + j]? = some a) → RepEs G HF M vs (renum k es)
  | [], _, _, h, _ => by cases h; exact .nil
  | .v d :: es, _, k, h, f => by
    cases h with
    | cons h1 h2 => exact .cons h1 (renum_reps h2 f)
  | .exn x :: es, _, k, h, f => by
    cases h with
    | cons h1 h2 => exact .cons h1 (renum_reps h2 f)
  | .lam ws ds :: es, _, k, h, f => by
    cases h with
    | cons h1 h2 => exact .cons h1 (renum_reps h2 f)
  | .cls ns :: es, _, k, h, f => by
    cases h with
    | cons h1 h2 =>
      obtain ⟨b, xs, g1, g2, _⟩ := h1
      exact .cons ⟨b, xs, g1, g2, fun j n hj => by simp at hj⟩ (renum_reps h2 f)
  | .cel n :: es, _, k, h, f => by
    cases h with
    | cons h1 h2 =>
      obtain ⟨a, e1, e2⟩ := h1
      exact .cons ⟨a, f 0 n a rfl e1, e2⟩ (renum_reps (k := k + 1) h2 fun j m b q1 q2 => by
        have := f (j + 1) m b (by simpa [cels] using q1) q2
        rw [show k + (j + 1) = k + 1 + j by omega] at this
        exact this)
theorem cels_get {es : List EV} {vs : List V} (r : RepEs G HF L vs es) : ∀ {k n : Nat}, (cels es)[k]? = some n → ∃ a, L[n]? = some a := by
  induction r with
  | nil => intro k n h; simp [cels] at h
  | @cons v vs d ds h1 h2 ih =>
    cases d with
    | v d => exact fun h => ih h
    | exn x => exact fun h => ih h
    | lam ws ds => exact fun h => ih h
    | cls ns => exact fun h => ih h
    | cel m =>
      intro k n h
      cases k with
      | zero =>
        simp [cels] at h; subst h
        obtain ⟨a, e1, _⟩ := h1
        exact ⟨a, e1⟩
      | succ k => exact ih (k := k) (by simpa [cels] using h)
theorem pick_at {es : List EV} {vs : List V} (r : RepEs G HF L vs es) {k : Nat} {a : Addr} (h : (pick L (cels es))[k]? = some a) : ∃ n, (cels es)[k]? = some n ∧ L[n]? = some a := by
  unfold pick at h
  rw [List.getElem?_map] at h
  cases q : (cels es)[k]? with
  | none => rw [q] at h; cases h
  | some n =>
    rw [q] at h
    obtain ⟨b, e⟩ := cels_get r q
    have h' : some (L[n]?.getD 0) = some a := h
    rw [e] at h'
    cases h'
    exact ⟨n, rfl, e⟩
/-- the callee's view -/
theorem Rel.enter (R : Rel G H HF L σ ρ S) {es : List EV} {vs : List V} {cs : List (Option Cell)} (r : RepEs G HF L vs es) (nd : (cels es).Nodup) (hc : getCs S (cels es) = some cs) :
    Rel G H HF (pick L (cels es)) [] [] cs ∧ RepEs G HF (pick L (cels es)) vs (renum 0 es) := by
  refine ⟨⟨R.sub, ?_, ?_, fun a ha => ?_, R.tab, R.nft, fun k a c h1 h2 => ?_, rfl, fun i e h => by simp at h⟩, renum_reps r fun j n a q1 q2 => by rw [Nat.zero_add]; exact pick_get q1 q2⟩
  · refine List.pairwise_iff_getElem.mpr fun i j hi hj hij e => ?_
    obtain ⟨n, n1, n2⟩ := pick_at r (List.getElem?_eq_getElem hj)
    obtain ⟨m, m1, m2⟩ := pick_at r ((List.getElem?_eq_getElem hi).trans (congrArg some e))
    have hnm : n = m := nodup_get R.nd n2 m2
    subst hnm
    have := nodup_get nd m1 n1
    omega
  · rw [getCs_length hc]; unfold pick; simp
  · obtain ⟨k, hk⟩ := List.mem_iff_getElem?.mp ha
    obtain ⟨n, _, n2⟩ := pick_at r hk
    exact R.liv a (List.mem_of_getElem? n2)
  · obtain ⟨n, n1, n2⟩ := pick_at r h1
    obtain ⟨e1, _⟩ := getCs_get hc n1
    exact R.cell n a c n2 (by rw [e1]; exact h2)
/-- back in the caller -/
theorem Rel.back (R : Rel G H HF L σ ρ S) {es : List EV} {vs : List V} {cs cs' : List (Option Cell)} {H' HF' : Hp} (r : RepEs G HF L vs es) (nd : (cels es).Nodup) (hc : getCs S (cels es) = some cs)
    (st : Step H HF (pick L (cels es)) H' HF' (pick L (cels es))) (R' : Rel G H' HF' (pick L (cels es)) [] [] cs') (hl : cs'.length = (cels es).length) :
    Rel G H' HF' L σ ρ (putCs S (cels es) cs') ∧ Step H HF L H' HF' L := by
  have sub : ∀ a, a ∈ pick L (cels es) → a ∈ L := fun a ha => by
    obtain ⟨k, hk⟩ := List.mem_iff_getElem?.mp ha
    obtain ⟨n, _, n2⟩ := pick_at r hk
    exact List.mem_of_getElem? n2
  refine ⟨⟨R'.sub, R.nd, by rw [putCs_length]; exact R.sl, fun a ha => ?_, R'.tab, R'.nft, fun n a c h1 h2 => ?_, R.el, fun i e h => ?_⟩,
    ⟨fun b o hb nt q => st.keep b o (fun z => hb (sub b z)) nt q, st.nn, st.fro, fun a o ha q nt z => st.new a o (fun y => ha (sub a y)) q nt z, [], by simp, by simp⟩⟩
  · by_cases hp : a ∈ pick L (cels es)
    · exact R'.liv a hp
    · obtain ⟨o, e, hm⟩ := R.liv a ha
      exact ⟨o, st.keep a o hp hm.nt e, hm⟩
  · by_cases hn : n ∈ cels es
    · obtain ⟨k, hk⟩ := List.mem_iff_getElem?.mp hn
      obtain ⟨_, hlt⟩ := getCs_get hc hk
      rw [putCs_mem _ _ _ nd hl hk hlt] at h2
      exact R'.cell k a c (pick_get hk h1) h2
    · rw [putCs_not _ _ _ hn] at h2
      obtain ⟨q1, q2⟩ := R.cell n a c h1 h2
      have na : a ∉ pick L (cels es) := fun z => by
        obtain ⟨k, hk⟩ := List.mem_iff_getElem?.mp z
        obtain ⟨m, m1, m2⟩ := pick_at r hk
        have := nodup_get R.nd h1 m2
        subst this
        exact hn (List.mem_of_getElem? m1)
      obtain ⟨o, e, hm⟩ := R.liv a (List.mem_of_getElem? h1)
      refine ⟨st.new a o na q1 hm e, q2.up ?_ st.fro⟩
      rw [e]
      exact st.keep a o na hm.nt e
  · obtain ⟨v, e1, e2⟩ := R.env i e h
    refine ⟨v, e1, ?_⟩
    cases e with
    | v d => exact Rep.mono st.fro e2
    | cel n => exact e2
    | exn x =>
      obtain ⟨b, cls, dd, k1, k2, k3⟩ := e2
      exact ⟨b, cls, dd, k1, k2, k3.mono st.fro⟩
    | lam ws ds => exact RepLam.mono st.fro e2
    | cls ns => exact RepCls.mono st.fro e2
end
def PostF (G : Gd) (H HF : Hp) (L : List Addr) (Q : VK) (E : XK) : Out D → Prop
  | .ok d S' => ∀ v H' HF', Step H HF L H' HF' L → Rel G H' HF' L [] [] S' → Rep G HF' v d → Q v H'
  | .ex x S' => ∀ cls dd H' HF', Step H HF L H' HF' L → Rel G H' HF' L [] [] S' → ExRep G x HF' cls dd → E cls dd H'
  | .bad => False
/-- a def does what f says -/
def spD (G : Gd) (n : Nat) (f : Den) : Sp := fun vs H Q E => vs.length = n ∧ ∃ HF L es S, Rel G H HF L [] [] S ∧ RepEs G HF L vs es ∧ PostF G H HF L Q E (f es S)
theorem PostF.of {X : Cx} {W : WD} {σ : L2.St} {ρ : DL.Env} {H HF : Hp} {L : List Addr} {S : Store} {Q : VK} {f : Den} {es : List EV} {vs : List V} (R : Rel (gd X W) H HF L σ ρ S) (r : RepEs (gd X W) HF L vs es)
    (p : Post (gd X W) W σ ρ H HF L (fun HF' _ v d => Rep (gd X W) HF' v d) Q (callD f es S)) : spD (gd X W) vs.length f vs H Q (WE W.w σ) := by
  unfold callD at p
  split at p
  · rename_i nd
    split at p
    · rename_i cs hc
      obtain ⟨R1, r1⟩ := R.enter r nd hc
      refine ⟨rfl, HF, _, _, cs, R1, r1, ?_⟩
      cases q : f (renum 0 es) cs with
      | ok d S' =>
        rw [q] at p
        have p : Post (gd X W) W σ ρ H HF L (fun HF' _ v d => Rep (gd X W) HF' v d) Q (if S'.length = (cels es).length then .ok d (putCs S (cels es) S') else .bad) := p
        split at p
        · rename_i hl
          intro v H' HF' st R' rv
          obtain ⟨R2, st2⟩ := R.back r nd hc st R' hl
          exact p v H' HF' L st2 R2 rv
        · exact p.elim
      | ex x S' =>
        rw [q] at p
        have p : Post (gd X W) W σ ρ H HF L (fun HF' _ v d => Rep (gd X W) HF' v d) Q (if S'.length = (cels es).length then .ex x (putCs S (cels es) S') else .bad) := p
        split at p
        · rename_i hl
          intro cls dd H' HF' st R' rv
          obtain ⟨R2, st2⟩ := R.back r nd hc st R' hl
          exact p cls dd H' HF' L st2 R2 rv
        · exact p.elim
      | bad => rw [q] at p; exact p.elim
    · exact p.elim
  · exact p.elim
/-- a def of the text, by its name: it does what f says, at level k -/
structure Dfn (P : Program) (w : World) (G : Gd) (base : Heap) (k : Nat) (x : Str) (n : Nat) (f : Den) : Prop where
  has : ∃ (a : Addr) (fd : FuncData) (ps : List Str), G.mg x = some (.ref a) ∧ PySem.W.keepIn G.K (.ref a) = true ∧ Binds G.K fd ps [] ∧ ps.length = n ∧ FnOk P w G.K G.mg base (L2.CX P w) k a fd ps (spD G n f)
theorem Dfn.mono {P : Program} {w : World} {G : Gd} {base : Heap} {j k : Nat} {x : Str} {n : Nat} {f : Den} (d : Dfn P w G base j x n f) (h : j ≤ k) : Dfn P w G base k x n f := by
  obtain ⟨a, fd, ps, h1, h2, h3, h4, h5⟩ := d.has
  exact ⟨a, fd, ps, h1, h2, h3, h4, h5.mono h⟩
section
variable {X : Cx} {W : WD} {pos : Pos} {a b c : Expr} {fa fb fc : DEn} {es : List Expr}
def mNilE : DAn := fun _ S => .ok [] S
def mConsE (fa : DVn) (fs : DAn) : DAn := fun ρ S => (fa ρ S).bind fun x S1 => (fs ρ S1).bind fun xs S2 => .ok (x :: xs) S2
theorem e0 : DAE X W [] mNilE := PA.imp pa_nil fun σ H Q ⟨HF, L, ρ, S, R, p⟩ => p.done R .no .nil
theorem e1 {fv : DVn} {fs : DAn} (ha : DV X W a fv) (hs : DAE X W es fs) (he : starEach (a :: es) X.env = (false, eval a X.env) :: starEach es X.env := by rfl) : DAE X W (a :: es) (mConsE fv fs) :=
  PA.imp (pa_cons ha hs he) fun σ H Q ⟨HF, L, ρ, S, R, p⟩ => ⟨HF, L, ρ, S, R, Post.bind p fun x S1 v H1 HF1 L1 e1 st1 R1 r1 p1 =>
    ⟨HF1, L1, ρ, S1, R1, Post.bind p1 fun xs S2 vs H2 HF2 L2 e2 st2 R2 r2 p2 => p2.done R2 .no (.cons (RepE.mono st2 r1) r2)⟩⟩
def mCall (f : Den) (n : Nat) (fs : DAn) : DEn := fun ρ S => (fs ρ S).bind fun xs S1 => if xs.length = n then callD f xs S1 else .bad
theorem xcall {x : Str} {p : Pos} {k n : Nat} {f : Den} {fs : DAn} (d : Dfn X.prog X.w (gd X W) X.base k x n f) (hr : Room k X.A) (tk : Takes X W.w) (ha : DAE X W (a :: es) fs) (hg : Gl X x := by rfl) (hdb : (x == ("__debug__" : Str)) = false := by decide)
    (he : starEach (a :: es) X.env = (false, eval a X.env) :: starEach es X.env := by rfl) (hpl : (backTo pos (starEach es X.env)).any (·.1) = false := by rfl) : DE X W (.Call (.Name x p) (a :: es) [] pos) (mCall f n fs) := by
  obtain ⟨ad, fd, ps, h1, h2, h3, h4, h5⟩ := d.has
  refine PE.imp (pe_callS h5 hr hg h1 h2 h3 (fun σ => passAt tk σ) ha hdb he hpl) fun σ H Q ⟨HF, L, ρ, S, R, p⟩ => ⟨HF, L, ρ, S, R, Post.bind p fun xs S1 vs H1 HF1 L1 e1 st1 R1 r1 p1 => ?_⟩
  split at p1
  · rename_i hl
    have e : vs.length = n := by rw [r1.length]; exact hl
    have := PostF.of R1 r1 p1
    rw [e] at this
    exact this
  · exact p1.elim
/-- a call of a parameter that holds a def: T tells what the defs' names mean -/
def mCallL (i : Nat) (T : Str → Option (Nat × Den)) (fs : DAn) : DEn := fun ρ S => match ρ[i]? with
  | some (some (.v (.fn x))) => match T x with
    | some (n, f) => (fs ρ S).bind fun xs S1 => if xs.length = n then callD f xs S1 else .bad
    | none => .bad
  | _ => .bad
theorem xcallL (i : Nat) {y : Str} {p : Pos} {k : Nat} {T : Str → Option (Nat × Den)} {fs : DAn} (d : ∀ x n f, T x = some (n, f) → Dfn X.prog X.w (gd X W) X.base k x n f) (hr : Room k X.A) (tk : Takes X W.w) (ha : DAE X W (a :: es) fs)
    (hN : X.N[i]? = some y := by rfl) (hvi : Vis X.env.scope y := by first | exact Or.inl rfl | exact Or.inr (Or.inl rfl) | exact Or.inr (Or.inr rfl)) (hdb : (y == ("__debug__" : Str)) = false := by decide) (hcd : (y == ("__classdict__" : Str)) = false := by decide)
    (he : starEach (a :: es) X.env = (false, eval a X.env) :: starEach es X.env := by rfl) (hpl : (backTo pos (starEach es X.env)).any (·.1) = false := by rfl) : DE X W (.Call (.Name y p) (a :: es) [] pos) (mCallL i T fs) := by
  refine ⟨fun pins s σ H Q I ⟨HF, L, ρ, S, R, h⟩ => ?_⟩
  unfold mCallL at h
  split at h
  · rename_i x hx
    split at h
    · rename_i n f hT
      obtain ⟨ad, fd, ps, h1, h2, h3, h4, h5⟩ := (d x n f hT).has
      obtain ⟨v, hv1, hv2⟩ := R.env i _ hx
      have hv2 : Rep (gd X W) HF v (.fn x) := hv2
      cases hv2 with
      | @fn a' n' hm' =>
        have e : a' = ad := by
          have z : some (Value.ref a') = some (Value.ref ad) := hm'.symm.trans h1
          cases z; rfl
        subst e
        refine wpAny_Call_Name_kw (thn ((pe_var (pos := p) hN hvi hdb hcd).run pins s σ H (fun v H1 => v = .ref a' ∧ H1 = H) I ⟨.ref a', hv1, rfl, rfl⟩) fun u s1 ⟨v, H1, I1, r1, q1⟩ => ?_)
        obtain ⟨rfl, rfl⟩ := q1
        cases r1
        have ht : tA (gd X W) W fs σ H1 (fun vs H2 => spD (gd X W) n f vs H2 Q (WE W.w σ)) := ⟨HF, L, ρ, S, R, Post.bind h fun xs S1 vs H2 HF2 L2 e2 st2 R2 r2 p2 => by
          split at p2
          · rename_i hl
            have e : vs.length = n := by rw [r2.length]; exact hl
            have := PostF.of R2 r2 p2
            rw [e] at this
            exact this
          · exact p2.elim⟩
        refine PySem.W.callWith_K (h₀ := X.base) I.ok.mod.kin h2 (thn (ha.run pos pins s1 σ _ _ I1 ht) fun us s2 ⟨vs, H2, I2, r, q⟩ => ⟨I2.kIn, ?_⟩) he hpl
        exact run_fnS h5 hr h3 (passAt tk σ) I2 r q
    · exact h.elim
  · exact h.elim
end
end DL

namespace DL
open PySem PySem.Spec PyProof.Rows L2
/-! ### what a loop's or a comprehension's turn stores: names, tuples of them -/
inductive Tg where
  | nm (i : Nat) | tp (ts : List Tg)
mutual
def tgG (K : PySem.W.Frag) : Tg → TG
  | .nm i => gName i
  | .tp ts => gTup K ts.length (tgGs K ts)
def tgGs (K : PySem.W.Frag) : List Tg → TGs
  | [] => gNil
  | t :: ts => gCons (tgG K t) (tgGs K ts)
end
mutual
def Tg.slots : Tg → List Nat
  | .nm i => [i]
  | .tp ts => slotsL ts
def slotsL : List Tg → List Nat
  | [] => []
  | t :: ts => t.slots ++ slotsL ts
end
mutual
def asg : Tg → D → DL.Env → Option DL.Env
  | .nm i, d, ρ => some (ρ.set i (some (.v d)))
  | .tp ts, .tup ds, ρ => asgs ts ds ρ
  | .tp _, _, _ => none
def asgs : List Tg → List D → DL.Env → Option DL.Env
  | [], [], ρ => some ρ
  | t :: ts, d :: ds, ρ => (asg t d ρ).bind fun ρ' => asgs ts ds ρ'
  | _, _, _ => none
end
def sets (σ : L2.St) (ws : List (Nat × V)) : L2.St := ws.foldl (fun s w => s.set w.1 (some w.2)) σ
theorem asgs_len : ∀ {ts : List Tg} {ds : List D} {ρ ρ' : DL.Env}, asgs ts ds ρ = some ρ' → ds.length = ts.length
  | [], [], _, _, _ => rfl
  | [], _ :: _, _, _, e => by cases e
  | _ :: _, [], _, _, e => by cases e
  | t :: ts, d :: ds, ρ, ρ', e => by
    have e : (asg t d ρ).bind (fun ρ1 => asgs ts ds ρ1) = some ρ' := e
    cases q : asg t d ρ with
    | none => rw [q] at e; cases e
    | some ρ1 =>
      rw [q] at e
      have := asgs_len (ρ := ρ1) (ρ' := ρ') e
      simp [this]
section
variable {G : Gd} {H HF : Hp} {L : List Addr} {S : Store}
mutual
theorem tgG_ok : ∀ (t : Tg) {Q : L2.St → Hp → Prop} {d : D} {v : V} {σ : L2.St} {ρ ρ' : DL.Env}, Rel G H HF L σ ρ S → Rep G HF v d → asg t d ρ = some ρ' → (∀ ws : List (Nat × V), (∀ p ∈ ws, p.1 ∈ t.slots) → Rel G H HF L (sets σ ws) ρ' S → Q (sets σ ws) H) → tgG G.K t v σ H Q
  | .nm i, Q, d, v, σ, ρ, ρ', R, r, e, k => by
    cases e
    exact k [(i, v)] (by simp [Tg.slots]) (R.store (e := .v d) r i)
  | .tp ts, Q, d, v, σ, ρ, ρ', R, r, e, k => by
    cases d with
    | tup ds =>
      have e : asgs ts ds ρ = some ρ' := e
      cases r with
      | @tup a xs ds hs hr => exact ⟨a, xs, rfl, SqT.mono R.sub hs, by rw [hr.length]; exact asgs_len e, tgGs_ok ts R hr e k⟩
    | _ => cases e
theorem tgGs_ok : ∀ (ts : List Tg) {Q : L2.St → Hp → Prop} {ds : List D} {vs : List V} {σ : L2.St} {ρ ρ' : DL.Env}, Rel G H HF L σ ρ S → Reps G HF vs ds → asgs ts ds ρ = some ρ' → (∀ ws : List (Nat × V), (∀ p ∈ ws, p.1 ∈ slotsL ts) → Rel G H HF L (sets σ ws) ρ' S → Q (sets σ ws) H) → tgGs G.K ts vs σ H Q
  | [], Q, ds, vs, σ, ρ, ρ', R, r, e, k => by
    cases ds with
    | nil =>
      cases r
      cases e
      exact ⟨rfl, k [] (by simp) R⟩
    | cons _ _ => cases e
  | t :: ts, Q, ds, vs, σ, ρ, ρ', R, r, e, k => by
    cases ds with
    | nil => cases e
    | cons d ds =>
      cases r with
      | cons r1 r2 =>
        have e : (asg t d ρ).bind (fun ρ1 => asgs ts ds ρ1) = some ρ' := e
        cases q : asg t d ρ with
        | none => rw [q] at e; cases e
        | some ρ1 =>
          rw [q] at e
          refine ⟨_, _, rfl, tgG_ok t R r1 q fun ws hw R1 => tgGs_ok ts R1 r2 e fun us hu R2 => ?_⟩
          have e3 : sets (sets σ ws) us = sets σ (ws ++ us) := by unfold sets; rw [List.foldl_append]
          rw [e3] at R2 ⊢
          refine k (ws ++ us) (fun p hp => ?_) R2
          rcases List.mem_append.mp hp with z | z
          · exact List.mem_append_left _ (hw p z)
          · exact List.mem_append_right _ (hu p z)
end
end
section
variable {X : Cx} {W : WD} {pos : Pos}
theorem q1 {i : Nat} {x : Str} (hN : X.N.Nodup) (hi : X.N[i]? = some x := by rfl) (hx : Loc X.env.scope x := by first | exact Or.inl rfl | exact Or.inr rfl) (hf : X.fn x = true ∨ X.env.scope.names.lookup x = some .local := by first | exact .inl rfl | exact .inr rfl | assumption) : PG X (.Name x pos) (tgG X.K (.nm i)) := pg_name hN hi hx hf
theorem qs0 : PGs X [] (tgGs X.K []) := pgs_nil
theorem qs1 {e : Expr} {es : List Expr} {t : Tg} {ts : List Tg} (h1 : PG X e (tgG X.K t)) (h2 : PGs X es (tgGs X.K ts)) (hs : (assignEach (e :: es) X.env).map (·.2) = assign e X.env :: (assignEach es X.env).map (·.2) := by rfl) : PGs X (e :: es) (tgGs X.K (t :: ts)) := pgs_cons h1 h2 hs
theorem qt {es : List Expr} {k : Nat} {ts : List Tg} (hc : X.calm = true) (h : PGs X es (tgGs X.K ts)) (hn : (assignEach es X.env).length = ts.length := by rfl) (hst : (assignEach es X.env).findIdx? (·.1) = none := by rfl) : PG X (.Tuple es k pos) (tgG X.K (.tp ts)) := pg_tup hc h hn hst
end

/-! ### what is walked -/
structure ItD (G : Gd) (J : It) (HF : Hp) (ds : List D) : Prop where
  go : ∀ (i : Nat) (H1 HF1 : Hp), Same HF HF1 → Same HF1 H1 → i < ds.length → J.go i H1
  yld : ∀ (i : Nat) (x : V) (H1 HF1 H2 : Hp) (d : D), Same HF HF1 → Same HF1 H1 → ds[i]? = some d → J.yld i H1 x H2 → ∃ HF2, Al H1 HF1 H2 HF2 ∧ Rep G HF2 x d
  stop : ∀ (i : Nat) (H1 HF1 : Hp), Same HF HF1 → Same HF1 H1 → ds.length ≤ i → J.stop i H1
def tI (G : Gd) (W : WD) (f : DDn) : TI := fun σ H R => ∃ HF L ρ S, Rel G H HF L σ ρ S ∧ Post G W σ ρ H HF L (fun HF' _ J ds => ItD G J HF' ds) R (f ρ S)
abbrev DI (X : Cx) (W : WD) (tg e : Expr) (f : DDn) : Prop := PI X tg e (tI (gd X W) W f)
theorem PI.imp {X : Cx} {tg e : Expr} {t t' : TI} (h : PI X tg e t) (k : ∀ σ H R, t' σ H R → t σ H R) : PI X tg e t' := ⟨fun pins s σ H R I q => h.run pins s σ H R I (k σ H R q)⟩
theorem itd_list {G : Gd} {HF : Hp} {a : Addr} {xs : List V} {ds : List D} (h : SqL G.K HF a xs) (r : Reps G HF xs ds) : ItD G (Itl G.K a) HF ds where
  go := fun i H1 HF1 s1 s2 hi => ⟨xs, xs[i]'(by rw [r.length]; exact hi), (s1.trans s2).seq h, by simp⟩
  yld := fun i x H1 HF1 H2 d s1 s2 hd ⟨e, hx⟩ => by
    subst e
    obtain ⟨v, e1, e2⟩ := r.get hd
    have e3 := hx xs ((s1.trans s2).seq h)
    rw [e1] at e3; cases e3
    exact ⟨HF1, .no, Rep.mono s1 e2⟩
  stop := fun i H1 HF1 s1 s2 hi => ⟨xs, (s1.trans s2).seq h, by rw [r.length]; exact hi⟩
theorem itd_tup {G : Gd} {HF : Hp} {a : Addr} {xs : List V} {ds : List D} (h : SqE G.K HF a xs) (r : Reps G HF xs ds) : ItD G (Itt G.K a) HF ds where
  go := fun i H1 HF1 s1 s2 hi => ⟨xs, xs[i]'(by rw [r.length]; exact hi), SqT.mono (s1.trans s2) h, by simp⟩
  yld := fun i x H1 HF1 H2 d s1 s2 hd ⟨e, hx⟩ => by
    subst e
    obtain ⟨v, e1, e2⟩ := r.get hd
    have e3 := hx xs (SqT.mono (s1.trans s2) h)
    rw [e1] at e3; cases e3
    exact ⟨HF1, .no, Rep.mono s1 e2⟩
  stop := fun i H1 HF1 s1 s2 hi => ⟨xs, SqT.mono (s1.trans s2) h, by rw [r.length]; exact hi⟩
/-- a list or a tuple, as the value is -/
def iSeq (K : PySem.W.Frag) (tl : TE) : TI := fun σ H R => tl σ H fun x H1 => ∃ a, x = .ref a ∧ (((∃ xs, SqL K H1 a xs) ∧ R (Itl K a) H1) ∨ ((∃ xs, SqT K H1 a xs) ∧ R (Itt K a) H1))
theorem pi_seq {X : Cx} {tg l : Expr} {tl : TE} (hl : PE X l tl) : PI X tg l (iSeq X.K tl) := by
  refine ⟨fun pins s σ H R I h => ?_⟩
  refine thn (hl.run pins s σ H _ I h) fun v s1 ⟨x, H1, I1, r1, q1⟩ => ?_
  obtain ⟨a, e, q⟩ := q1
  subst e
  have r1' : v = Value.ref a := r1
  subst r1'
  rcases q with ⟨⟨xs, hq⟩, q⟩ | ⟨⟨xs, hq⟩, q⟩
  · obtain ⟨its, rv, p, hz⟩ := I1.list hq
    refine wpAny_pyIter_list p.isList ?_
    refine ⟨s1.heap.objs.size, [s1.heap.objs.size], _, _, H1, rfl, I1.kept (t' := s1.toks) fun b o e => Heap.get?_push_of_some _ e, turn_list a _, ⟨_, Heap.get?_push_size _ rfl, rfl, rfl⟩, fun b hb => ?_, q⟩
    have e : b = s1.heap.objs.size := by simpa using hb
    subst e
    exact I1.fpOk (Nat.le_refl _) (I1.hok.fresh (Nat.le_refl _))
  · obtain ⟨its, rv, p, hz⟩ := I1.tuple hq
    refine wpAny_pyIter_tuple (show s1.heap.IsTuple a its.toArray from p) ?_
    refine ⟨s1.heap.objs.size, [s1.heap.objs.size], _, _, H1, rfl, I1.kept (t' := s1.toks) fun b o e => Heap.get?_push_of_some _ e, turn_tuple a _, ⟨_, Heap.get?_push_size _ rfl, rfl, rfl⟩, fun b hb => ?_, q⟩
    have e : b = s1.heap.objs.size := by simpa using hb
    subst e
    exact I1.fpOk (Nat.le_refl _) (I1.hok.fresh (Nat.le_refl _))
section
variable {X : Cx} {W : WD} {pos : Pos} {a b c : Expr} {fa fb fc : DEn} {es : List Expr} {tg : Expr}
def D.items : D → Option (List D)
  | .tup ds => some ds
  | .lst ds => some ds
  | .rol ds => some ds
  | _ => none
def mIt (fa : DEn) : DDn := fun ρ S => (fa ρ S).bind fun x S1 => lift x.items S1
theorem i1 (ha : DE X W a fa) : DI X W tg a (mIt fa) :=
  PI.imp (pi_seq ha) fun σ H R ⟨HF, L, ρ, S, RR, p⟩ => ⟨HF, L, ρ, S, RR, Post.bind p fun x S1 v H1 HF1 L1 e1 st1 R1 r1 p1 => by
    obtain ⟨ds, ed, p2⟩ := p1.lift
    cases x with
    | tup ds' => cases ed; cases r1 with
      | tup h1 h2 => exact ⟨_, rfl, .inr ⟨⟨_, SqT.mono R1.sub h1⟩, p2.done R1 .no (itd_tup h1 h2)⟩⟩
    | lst ds' => cases ed; cases r1 with
      | lst h1 h2 => exact ⟨_, rfl, .inl ⟨⟨_, SqL.of (R1.sub _ _ h1)⟩, p2.done R1 .no (itd_list (SqL.of h1) h2)⟩⟩
    | rol ds' => cases ed; cases r1 with
      | rol h1 h2 => exact ⟨_, rfl, .inl ⟨⟨_, R1.sub.seq h1⟩, p2.done R1 .no (itd_list h1 h2)⟩⟩
    | _ => cases ed⟩
theorem itd_range {G : Gd} {HF : Hp} (lo : Int) (n : Nat) : ItD G (Itr lo n) HF ((List.range n).map fun i => D.int (lo + (i : Nat))) where
  go := fun i H1 HF1 s1 s2 hi => by show i < n; simpa using hi
  yld := fun i x H1 HF1 H2 d s1 s2 hd ⟨e, hx⟩ => by
    subst e; subst hx
    rw [List.getElem?_map] at hd
    cases q : (List.range n)[i]? with
    | none => rw [q] at hd; cases hd
    | some j =>
      rw [q] at hd
      cases hd
      obtain ⟨h1, h2⟩ := List.getElem?_eq_some_iff.mp q
      simp at h2
      subst h2
      exact ⟨HF1, .no, .int _⟩
  stop := fun i H1 HF1 s1 s2 hi => by show n ≤ i; simpa using hi
def mRg1 (fa : DEn) : DDn := fun ρ S => (fa ρ S).bind fun x S1 => match x with
  | .int n => if n ≤ 1000000000 ∧ -1000000000 ≤ n then .ok (rgD 0 n) S1 else .bad
  | _ => .bad
theorem i_range1 {p : Pos} (hm : X.mg "range" = none) (ha : DE X W a fa) (hg : Gl X "range" := by rfl) (hs : starEach [a] X.env = [(false, eval a X.env)] := by rfl) : DI X W tg (.Call (.Name "range" p) [a] [] pos) (mRg1 fa) :=
  PI.imp (pi_range1 hg hm (pa_cons ha pa_nil hs) hs) fun σ H R ⟨HF, L, ρ, S, RR, p⟩ => ⟨HF, L, ρ, S, RR, Post.bind p fun x S1 v H1 HF1 L1 e1 st1 R1 r1 p1 => by
    split at p1
    · rename_i n
      split at p1
      · rename_i hz
        cases r1
        refine ⟨n, rfl, by omega, by omega, p1.done R1 .no ?_⟩
        have := itd_range (G := gd X W) (HF := HF1) 0 n.toNat
        unfold rgD
        rw [show n - 0 = n by omega]
        exact this
      · exact p1.elim
    · exact p1.elim⟩
def mRg2 (fa fb : DEn) : DDn := fun ρ S => (fa ρ S).bind fun x S1 => (fb ρ S1).bind fun y S2 => match x, y with
  | .int m, .int n => if (m ≤ 1000000000 ∧ -1000000000 ≤ m) ∧ (n ≤ 1000000000 ∧ -1000000000 ≤ n) then .ok (rgD m n) S2 else .bad
  | _, _ => .bad
theorem i_range2 {p : Pos} (hm : X.mg "range" = none) (ha : DE X W a fa) (hb : DE X W b fb) (hg : Gl X "range" := by rfl) (hs : starEach [a, b] X.env = [(false, eval a X.env), (false, eval b X.env)] := by rfl) (hs2 : starEach [b] X.env = [(false, eval b X.env)] := by rfl) :
    DI X W tg (.Call (.Name "range" p) [a, b] [] pos) (mRg2 fa fb) :=
  PI.imp (pi_range2 hg hm (pa_cons ha (pa_cons hb pa_nil hs2) (hs.trans (by rw [hs2]))) hs hs2) fun σ H R ⟨HF, L, ρ, S, RR, p⟩ => ⟨HF, L, ρ, S, RR, Post.bind p fun x S1 v H1 HF1 L1 e1 st1 R1 r1 p1 => ⟨HF1, L1, ρ, S1, R1, Post.bind p1 fun y S2 w H2 HF2 L2 e2 st2 R2 r2 p2 => by
    split at p2
    · rename_i m n
      split at p2
      · rename_i hz
        cases r1; cases r2
        exact ⟨m, n, rfl, ⟨by omega, by omega, by omega, by omega⟩, p2.done R2 .no (itd_range m (n - m).toNat)⟩
      · exact p2.elim
    · exact p2.elim⟩⟩
/-- enumerate -/
def enumD (k : Nat) : List D → List D
  | [] => []
  | d :: ds => .tup [.int k, d] :: enumD (k + 1) ds
theorem enumD_get : ∀ (ds : List D) (k i : Nat), (enumD k ds)[i]? = (ds[i]?).map fun d => D.tup [.int ((k + i : Nat) : Int), d]
  | [], _, _ => by simp [enumD]
  | d :: ds, k, 0 => by simp [enumD]
  | d :: ds, k, i + 1 => by
    have := enumD_get ds (k + 1) i
    simp only [enumD, List.getElem?_cons_succ]
    rw [this, show k + 1 + i = k + (i + 1) by omega]
theorem enumD_length : ∀ (ds : List D) (k : Nat), (enumD k ds).length = ds.length
  | [], _ => rfl
  | d :: ds, k => by simp [enumD, enumD_length ds]
theorem itd_enumL {G : Gd} {HF : Hp} {a : Addr} {xs : List V} {ds : List D} (h : SqL G.K HF a xs) (r : Reps G HF xs ds) : ItD G (Ite G.K a) HF (enumD 0 ds) where
  go := fun i H1 HF1 s1 s2 hi => ⟨xs, xs[i]'(by rw [r.length]; rw [enumD_length] at hi; exact hi), (s1.trans s2).seq h, by simp⟩
  yld := fun i x H1 HF1 H2 d s1 s2 hd ⟨T, y, e1, e2, e3, e4⟩ => by
    subst e1; subst e3
    rw [enumD_get] at hd
    cases q : ds[i]? with
    | none => rw [q] at hd; cases hd
    | some d' =>
      rw [q] at hd
      cases hd
      obtain ⟨v, g1, g2⟩ := r.get q
      have e5 := e4 xs ((s1.trans s2).seq h)
      rw [g1] at e5; cases e5
      refine ⟨_, .new e2, .tup (SqE.of upd_same) (.cons ?_ (.cons (Rep.mono (s1.trans (same_upd (free_of s2 e2))) g2) .nil))⟩
      rw [Nat.zero_add]
      exact .int _
  stop := fun i H1 HF1 s1 s2 hi => ⟨xs, (s1.trans s2).seq h, by rw [r.length]; rw [enumD_length] at hi; exact hi⟩
theorem itd_enumT {G : Gd} {HF : Hp} {a : Addr} {xs : List V} {ds : List D} (h : SqE G.K HF a xs) (r : Reps G HF xs ds) : ItD G (IteT G.K a) HF (enumD 0 ds) where
  go := fun i H1 HF1 s1 s2 hi => ⟨xs, xs[i]'(by rw [r.length]; rw [enumD_length] at hi; exact hi), SqT.mono (s1.trans s2) h, by simp⟩
  yld := fun i x H1 HF1 H2 d s1 s2 hd ⟨T, y, e1, e2, e3, e4⟩ => by
    subst e1; subst e3
    rw [enumD_get] at hd
    cases q : ds[i]? with
    | none => rw [q] at hd; cases hd
    | some d' =>
      rw [q] at hd
      cases hd
      obtain ⟨v, g1, g2⟩ := r.get q
      have e5 := e4 xs (SqT.mono (s1.trans s2) h)
      rw [g1] at e5; cases e5
      refine ⟨_, .new e2, .tup (SqE.of upd_same) (.cons ?_ (.cons (Rep.mono (s1.trans (same_upd (free_of s2 e2))) g2) .nil))⟩
      rw [Nat.zero_add]
      exact .int _
  stop := fun i H1 HF1 s1 s2 hi => ⟨xs, SqT.mono (s1.trans s2) h, by rw [r.length]; rw [enumD_length] at hi; exact hi⟩
def mEnum (fa : DEn) : DDn := fun ρ S => (fa ρ S).bind fun x S1 => (lift x.items S1).bind fun ds S2 => .ok (enumD 0 ds) S2
theorem i_enum {p tpos : Pos} {elts : List Expr} {kk : Nat} (hm : X.mg "enumerate" = none) (ha : DE X W a fa) (hg : Gl X "enumerate" := by rfl) (hs : starEach [a] X.env = [(false, eval a X.env)] := by rfl) : DI X W (.Tuple elts kk tpos) (.Call (.Name "enumerate" p) [a] [] pos) (mEnum fa) :=
  PI.imp (pi_enumT hg hm (pa_cons ha pa_nil hs) hs) fun σ H R ⟨HF, L, ρ, S, RR, p⟩ => ⟨HF, L, ρ, S, RR, Post.bind p fun x S1 v H1 HF1 L1 e1 st1 R1 r1 p1 => by
    obtain ⟨ds, ed, p2⟩ := Post.liftB p1
    cases x with
    | tup ds' => cases ed; cases r1 with
      | tup h1 h2 => exact ⟨_, _, rfl, .inr ⟨SqT.mono R1.sub h1, p2.done R1 .no (itd_enumT h1 h2)⟩⟩
    | lst ds' => cases ed; cases r1 with
      | lst h1 h2 => exact ⟨_, _, rfl, .inl ⟨SqL.of (R1.sub _ _ h1), p2.done R1 .no (itd_enumL (SqL.of h1) h2)⟩⟩
    | rol ds' => cases ed; cases r1 with
      | rol h1 h2 => exact ⟨_, _, rfl, .inl ⟨R1.sub.seq h1, p2.done R1 .no (itd_enumL h1 h2)⟩⟩
    | _ => cases ed⟩
/-- zip of two tuples, of two lists -/
def zipD : List D → List D → List D
  | a :: r, b :: s => .tup [a, b] :: zipD r s
  | _, _ => []
theorem zipD_get : ∀ (xs ys : List D) (i : Nat) {d : D}, (zipD xs ys)[i]? = some d → ∃ a b, xs[i]? = some a ∧ ys[i]? = some b ∧ d = .tup [a, b]
  | [], _, _, _, h => by simp [zipD] at h
  | _ :: _, [], _, _, h => by simp [zipD] at h
  | a :: r, b :: s, 0, _, h => by simp [zipD] at h; exact ⟨a, b, rfl, rfl, h.symm⟩
  | a :: r, b :: s, i + 1, _, h => by
    obtain ⟨x, y, h1, h2, h3⟩ := zipD_get r s i (by simpa [zipD] using h)
    exact ⟨x, y, by simpa using h1, by simpa using h2, h3⟩
theorem zipD_length : ∀ (xs ys : List D), (zipD xs ys).length = min xs.length ys.length
  | [], _ => by simp [zipD]
  | _ :: _, [] => by simp [zipD]
  | a :: r, b :: s => by simp [zipD, zipD_length r s]
theorem itd_zipT {G : Gd} {HF : Hp} {a b : Addr} {xs ys : List V} {ds es : List D} (h : SqE G.K HF a xs) (k : SqE G.K HF b ys) (r : Reps G HF xs ds) (r' : Reps G HF ys es) : ItD G (RZ.ItzT G.K a b) HF (zipD ds es) where
  go := fun i H1 HF1 s1 s2 hi => by
    rw [zipD_length, ← r.length, ← r'.length] at hi
    exact ⟨xs, ys, xs[i]'(by omega), ys[i]'(by omega), SqT.mono (s1.trans s2) h, SqT.mono (s1.trans s2) k, by simp, by simp⟩
  yld := fun i x H1 HF1 H2 d s1 s2 hd ⟨T, u, v, e1, e2, e3, e4, e5⟩ => by
    subst e1; subst e3
    obtain ⟨p, q, q1, q2, q3⟩ := zipD_get _ _ _ hd
    subst q3
    obtain ⟨w1, g1, g2⟩ := r.get q1
    obtain ⟨w2, k1, k2⟩ := r'.get q2
    have z1 := e4 xs (SqT.mono (s1.trans s2) h)
    have z2 := e5 ys (SqT.mono (s1.trans s2) k)
    rw [g1] at z1; cases z1
    rw [k1] at z2; cases z2
    have m := s1.trans (same_upd (p := T) (o := .tup [u, v]) (free_of s2 e2))
    exact ⟨_, .new e2, .tup (SqE.of upd_same) (.cons (Rep.mono m g2) (.cons (Rep.mono m k2) .nil))⟩
  stop := fun i H1 HF1 s1 s2 hi => by
    rw [zipD_length, ← r.length, ← r'.length] at hi
    exact ⟨xs, ys, SqT.mono (s1.trans s2) h, SqT.mono (s1.trans s2) k, by omega⟩
theorem itd_zipL {G : Gd} {HF : Hp} {a b : Addr} {xs ys : List V} {ds es : List D} (h : SqL G.K HF a xs) (k : SqL G.K HF b ys) (r : Reps G HF xs ds) (r' : Reps G HF ys es) : ItD G (Itz G.K a b) HF (zipD ds es) where
  go := fun i H1 HF1 s1 s2 hi => by
    rw [zipD_length, ← r.length, ← r'.length] at hi
    exact ⟨xs, ys, xs[i]'(by omega), ys[i]'(by omega), (s1.trans s2).seq h, (s1.trans s2).seq k, by simp, by simp⟩
  yld := fun i x H1 HF1 H2 d s1 s2 hd ⟨T, u, v, e1, e2, e3, e4, e5⟩ => by
    subst e1; subst e3
    obtain ⟨p, q, q1, q2, q3⟩ := zipD_get _ _ _ hd
    subst q3
    obtain ⟨w1, g1, g2⟩ := r.get q1
    obtain ⟨w2, k1, k2⟩ := r'.get q2
    have z1 := e4 xs ((s1.trans s2).seq h)
    have z2 := e5 ys ((s1.trans s2).seq k)
    rw [g1] at z1; cases z1
    rw [k1] at z2; cases z2
    have m := s1.trans (same_upd (p := T) (o := .tup [u, v]) (free_of s2 e2))
    exact ⟨_, .new e2, .tup (SqE.of upd_same) (.cons (Rep.mono m g2) (.cons (Rep.mono m k2) .nil))⟩
  stop := fun i H1 HF1 s1 s2 hi => by
    rw [zipD_length, ← r.length, ← r'.length] at hi
    exact ⟨xs, ys, (s1.trans s2).seq h, (s1.trans s2).seq k, by omega⟩
def gZip : D → D → Option (List D)
  | .tup a, .tup b => some (zipD a b)
  | .lst a, .lst b => some (zipD a b)
  | _, _ => none
def mZip (fa fb : DEn) : DDn := fun ρ S => (fa ρ S).bind fun x S1 => (fb ρ S1).bind fun y S2 => lift (gZip x y) S2
theorem i_zip {p tpos : Pos} {elts : List Expr} {kk : Nat} (hm : X.mg "zip" = none) (ha : DE X W a fa) (hb : DE X W b fb) (hg : Gl X "zip" := by rfl) (hs : starEach [a, b] X.env = (false, eval a X.env) :: starEach [b] X.env := by rfl) (hs2 : starEach [b] X.env = (false, eval b X.env) :: starEach [] X.env := by rfl)
    (hpl : (backTo pos (starEach [b] X.env)).any (·.1) = false := by rfl) : DI X W (.Tuple elts kk tpos) (.Call (.Name "zip" p) [a, b] [] pos) (mZip fa fb) :=
  PI.imp (RZ.pi_zipA hg hm (pa_cons ha (pa_cons hb pa_nil hs2) hs) hs hpl) fun σ H R ⟨HF, L, ρ, S, RR, p⟩ => ⟨HF, L, ρ, S, RR, Post.bind p fun x S1 v H1 HF1 L1 e1 st1 R1 r1 p1 => ⟨HF1, L1, ρ, S1, R1, Post.bind p1 fun y S2 w H2 HF2 L2 e2 st2 R2 r2 p2 => by
    obtain ⟨ds, ed, p3⟩ := p2.lift
    have r1' := Rep.mono st2.fro r1
    unfold gZip at ed
    split at ed
    · cases ed
      cases r1' with
      | tup h1 h2 => cases r2 with
        | tup h3 h4 => exact ⟨_, _, _, _, rfl, .inr ⟨SqT.mono R2.sub h1, SqT.mono R2.sub h3, p3.done R2 .no (itd_zipT h1 h3 h2 h4)⟩⟩
    · cases ed
      cases r1' with
      | lst h1 h2 => cases r2 with
        | lst h3 h4 => exact ⟨_, _, _, _, rfl, .inl ⟨SqL.of (R2.sub _ _ h1), SqL.of (R2.sub _ _ h3), p3.done R2 .no (itd_zipL (SqL.of h1) (SqL.of h3) h2 h4)⟩⟩
    · cases ed⟩⟩
end
end DL

namespace DL
open PySem PySem.Spec PyProof.Rows L2
/-! ### slots -/
def wipeE (ρ : DL.Env) : List Nat → DL.Env
  | [] => ρ
  | v :: vs => (wipeE ρ vs).set v none
theorem wipeE_length (ρ : DL.Env) : ∀ vs : List Nat, (wipeE ρ vs).length = ρ.length
  | [] => rfl
  | v :: vs => by unfold wipeE; rw [List.length_set, wipeE_length ρ vs]
section
variable {G : Gd} {H HF H' HF' : Hp} {L L' : List Addr} {σ σ' : L2.St} {ρ ρ' : DL.Env} {S S' : Store}
theorem wipe_get : ∀ (vs : List Nat) {i : Nat} {e : EV} {v : V}, (wipeE ρ vs)[i]? = some (some e) → σ[i]? = some (some v) → (wipe σ vs)[i]? = some (some v) ∧ ρ[i]? = some (some e)
  | [], _, _, _, h1, h2 => ⟨h2, h1⟩
  | w :: vs, i, e, v, h1, h2 => by
    unfold wipeE at h1
    by_cases hi : w = i
    · subst hi
      by_cases hl : w < (wipeE ρ vs).length
      · rw [List.getElem?_set_self hl] at h1; cases h1
      · rw [List.getElem?_eq_none (by simpa using hl)] at h1; cases h1
    · rw [List.getElem?_set_ne hi] at h1
      obtain ⟨g1, g2⟩ := wipe_get vs h1 h2
      unfold wipe
      rw [List.getElem?_set_ne hi]
      exact ⟨g1, g2⟩
theorem wipeE_some : ∀ (vs : List Nat) {i : Nat} {e : EV}, (wipeE ρ vs)[i]? = some (some e) → ρ[i]? = some (some e)
  | [], _, _, h1 => h1
  | w :: vs, i, e, h1 => by
    unfold wipeE at h1
    by_cases hi : w = i
    · subst hi
      by_cases hl : w < (wipeE ρ vs).length
      · rw [List.getElem?_set_self hl] at h1; cases h1
      · rw [List.getElem?_eq_none (by simpa using hl)] at h1; cases h1
    · rw [List.getElem?_set_ne hi] at h1
      exact wipeE_some vs h1
theorem Rel.wipe (R : Rel G H HF L σ ρ S) (vs : List Nat) : Rel G H HF L (L2.wipe σ vs) (wipeE ρ vs) S :=
  ⟨R.sub, R.nd, R.sl, R.liv, R.tab, R.nft, R.cell, by rw [wipe_length, wipeE_length]; exact R.el, fun i e h => by
    obtain ⟨v, h1, h2⟩ := R.env i e (wipeE_some vs h)
    exact ⟨v, (wipe_get vs h h1).1, h2⟩⟩
/-- the slots of before, the heap of now -/
theorem Rel.reenv (R : Rel G H HF L σ ρ S) (st : Step H HF L H' HF' L') (R' : Rel G H' HF' L' σ' ρ' S') : Rel G H' HF' L' σ ρ S' :=
  ⟨R'.sub, R'.nd, R'.sl, R'.liv, R'.tab, R'.nft, R'.cell, R.el, fun i e h => by
    obtain ⟨v, h1, h2⟩ := R.env i e h
    exact ⟨v, h1, RepE.mono st h2⟩⟩
theorem wipe_set (σ : L2.St) (vs : List Nat) {i : Nat} (v : V) (hi : i ∈ vs) : L2.wipe (σ.set i (some v)) vs = L2.wipe σ vs := by
  induction vs with
  | nil => cases hi
  | cons w vs ih =>
    unfold L2.wipe
    by_cases hw : i ∈ vs
    · rw [ih hw]
    · have e : i = w := by
        rcases List.mem_cons.mp hi with z | z
        · exact z
        · exact absurd z hw
      subst e
      have out : ∀ (us : List Nat), i ∉ us → L2.wipe (σ.set i (some v)) us = (L2.wipe σ us).set i (some v) := by
        intro us hu
        induction us with
        | nil => rfl
        | cons u us ihu =>
          unfold L2.wipe
          rw [ihu (fun z => hu (List.mem_cons_of_mem _ z)), List.set_comm _ _ (fun z => hu (by rw [z]; exact List.mem_cons_self))]
      rw [out vs hw, List.set_set]
theorem wipe_wipe (σ : L2.St) (vs : List Nat) : L2.wipe (L2.wipe σ vs) vs = L2.wipe σ vs := by
  have set_wipe : ∀ (us : List Nat) (τ : L2.St) (i : Nat), L2.wipe (τ.set i none) us = (L2.wipe τ us).set i none := by
    intro us
    induction us with
    | nil => intro τ i; rfl
    | cons u us ih =>
      intro τ i
      unfold L2.wipe
      rw [ih]
      by_cases h : i = u
      · subst h; rfl
      · rw [List.set_comm _ _ h]
  induction vs with
  | nil => rfl
  | cons v vs ih =>
    show ((L2.wipe ((L2.wipe σ vs).set v none) vs).set v none) = (L2.wipe σ vs).set v none
    rw [set_wipe, ih, List.set_set]
theorem wipe_sets (vs : List Nat) : ∀ (ws : List (Nat × V)) (σ : L2.St), (∀ p ∈ ws, p.1 ∈ vs) → L2.wipe (sets σ ws) vs = L2.wipe σ vs
  | [], _, _ => rfl
  | w :: ws, σ, h => by
    show L2.wipe (sets (σ.set w.1 (some w.2)) ws) vs = _
    rw [wipe_sets vs ws _ fun p hp => h p (List.mem_cons_of_mem _ hp), wipe_set σ vs w.2 (h w List.mem_cons_self)]
/-- an object that is neither a cell nor said to stay: written -/
theorem Rel.aside (R : Rel G H HF L σ ρ S) {q : Addr} {o : HO} (hL : q ∉ L) (hF : HF q = none) (ht : ∀ ps, H q ≠ some (.tbl ps)) : Rel G (upd H q o) HF L σ ρ S := by
  have e : ∀ {n : Nat} {a : Addr}, L[n]? = some a → a ≠ q := fun h z => hL (by rw [← z]; exact List.mem_of_getElem? h)
  refine ⟨fun b u k => ?_, R.nd, R.sl, fun a ha => ?_, R.tab.up (fun b ps z => by rw [upd_ne (fun y => ht ps (by rw [← y]; exact z))]; exact z) (Same.refl _), R.nft, fun n a c h1 h2 => ?_, R.el, R.env⟩
  · rw [upd_ne (ne_of_none k hF)]; exact R.sub b u k
  · rw [upd_ne (fun z => hL (by rw [← z]; exact ha))]; exact R.liv a ha
  · obtain ⟨q1, q2⟩ := R.cell n a c h1 h2
    exact ⟨q1, q2.up (upd_ne (e h1)) (Same.refl _)⟩
/-- .. from now on it stays -/
theorem Rel.adopt (R : Rel G H HF L σ ρ S) {q : Addr} {o : HO} (hL : q ∉ L) (hF : HF q = none) (hH : H q = some o) (ho : Nt o := by intro _ h; cases h) : Rel G H (upd HF q o) L σ ρ S := by
  have e : ∀ {n : Nat} {a : Addr}, L[n]? = some a → a ≠ q := fun h z => hL (by rw [← z]; exact List.mem_of_getElem? h)
  refine ⟨fun b u k => ?_, R.nd, R.sl, R.liv, R.tab.up (fun _ _ z => z) (same_upd hF), nft_upd R.nft ho, fun n a c h1 h2 => ?_, R.el, fun i x h => ?_⟩
  · by_cases hb : b = q
    · subst hb; rw [upd_same] at k; cases k; exact hH
    · rw [upd_ne hb] at k; exact R.sub b u k
  · obtain ⟨q1, q2⟩ := R.cell n a c h1 h2
    exact ⟨by rw [upd_ne (e h1)]; exact q1, q2.up rfl (same_upd hF)⟩
  · obtain ⟨v, q1, q2⟩ := R.env i x h
    refine ⟨v, q1, ?_⟩
    cases x with
    | v d => exact Rep.mono (same_upd hF) q2
    | cel n => exact q2
    | exn x =>
      obtain ⟨b, cls, dd, k1, k2, k3⟩ := q2
      exact ⟨b, cls, dd, k1, k2, k3.mono (same_upd hF)⟩
    | lam ws ds => exact RepLam.mono (same_upd hF) q2
    | cls ns => exact RepCls.mono (same_upd hF) q2
end

/-! ### comprehensions of one clause -/
/-- as bind, but nothing may be raised -/
def Out.bd {α β : Type} (o : Out α) (k : α → Store → Out β) : Out β := match o with
  | .ok a S => k a S
  | _ => .bad
def lcL (t : Tg) (tt : DTn) (fe : DEn) (ρ : DL.Env) : List D → Store → List D → Out (List D)
  | [], S, acc => .ok acc S
  | d :: ds, S, acc => match asg t d ρ with
    | none => .bad
    | some ρ1 => (tt ρ1 S).bd fun b S1 => if b = true then (fe ρ1 S1).bd fun y S2 => if acc.length < lim then lcL t tt fe ρ ds S2 (acc ++ [y]) else .bad else lcL t tt fe ρ ds S1 acc
def mLc (fi : DDn) (t : Tg) (tt : DTn) (fe : DEn) (vs : List Nat) : DEn := fun ρ S => (fi ρ S).bind fun ds S1 => (lcL t tt fe (wipeE ρ vs) ds S1 []).bind fun ys S2 => .ok (.lst ys) S2
section
variable {X : Cx} {W : WD} {pos : Pos} {a b c : Expr} {fa fb fc : DEn} {es : List Expr} {tg : Expr}
/-- the ends of a comprehension: what its list at D leads to -/
theorem lc_read {fi : DDn} {t : Tg} {tt : DTn} {fe : DEn} {vs : List Nat} (hsl : ∀ i ∈ t.slots, i ∈ vs) {σ : L2.St} {H : Hp} {Q : VK} (h : tD (gd X W) W (mLc fi t tt fe vs) σ H Q) :
    tLc (tI (gd X W) W fi) (tgG X.K t) (tT (gd X W) W.z tt) (tD (gd X W) W.z fe) vs σ H Q := by
  obtain ⟨HF, L, ρ, S, R, p⟩ := h
  refine ⟨HF, L, ρ, S, R, Post.bind p fun ds S1 J H1 HF1 L1 e1 st1 R1 rJ p1 => fun Dl hD => ?_⟩
  have hDL := R1.out hD
  have hDF := R1.hf hD
  -- the invariant
  refine ⟨fun i m Hh => m = ds.length - i ∧ i ≤ ds.length ∧ ∃ HFh Lh Sh acc vacc, Rel (gd X W) Hh HFh Lh σ ρ Sh ∧ Step H1 HF1 L1 Hh HFh Lh ∧ Hh Dl = some (.lst vacc) ∧ HFh Dl = none ∧ Dl ∉ Lh ∧ Reps (gd X W) HFh vacc acc ∧
    Post (gd X W) W σ ρ H1 HF1 L1 (fun HF' _ v d => Rep (gd X W) HF' v d) Q ((lcL t tt fe (wipeE ρ vs) (ds.drop i) Sh acc).bind fun ys S2 => .ok (.lst ys) S2), ⟨ds.length, by simp, Nat.zero_le _, HF1, L1, S1, [], [], R1.aside hDL hDF (by rw [hD]; simp), Step.put Step.refl hD, upd_same, hDF, hDL, .nil, by simpa using p1⟩, ?_⟩
  rintro i m Hh ⟨rfl, hi, HFh, Lh, Sh, acc, vacc, Rh, sth, hv, hFv, hLv, ra, ph⟩
  have s01 : Same HF1 HFh := sth.fro
  by_cases hlt : i < ds.length
  · refine .inr ⟨rJ.go i Hh HFh s01 Rh.sub hlt, fun H' => (ds.length - (i + 1)) = ds.length - (i + 1) ∧ i + 1 ≤ ds.length ∧ ∃ HFh Lh Sh acc vacc, Rel (gd X W) H' HFh Lh σ ρ Sh ∧ Step H1 HF1 L1 H' HFh Lh ∧ H' Dl = some (.lst vacc) ∧ HFh Dl = none ∧ Dl ∉ Lh ∧ Reps (gd X W) HFh vacc acc ∧
      Post (gd X W) W σ ρ H1 HF1 L1 (fun HF' _ v d => Rep (gd X W) HF' v d) Q ((lcL t tt fe (wipeE ρ vs) (ds.drop (i + 1)) Sh acc).bind fun ys S2 => .ok (.lst ys) S2), fun H' hw => ⟨_, by omega, hw⟩, fun x H2 hy => ?_⟩
    have ed : ds.drop i = ds[i] :: ds.drop (i + 1) := List.drop_eq_getElem_cons hlt
    rw [ed] at ph
    obtain ⟨HF2, al, rx⟩ := rJ.yld i x Hh HFh H2 ds[i] s01 Rh.sub (List.getElem?_eq_getElem hlt) hy
    obtain ⟨R2, st2⟩ := Rh.al al
    have nl : ∀ xs, Nt (.lst xs) := fun _ _ h => by cases h
    have hv2 := st2.keep Dl _ hLv (nl _) hv
    have hF2 := st2.new Dl _ hLv hFv (by trivial) hv
    have Rw := R2.wipe vs
    have ph : Post (gd X W) W σ ρ H1 HF1 L1 (fun HF' _ v d => Rep (gd X W) HF' v d) Q (Out.bind (match asg t ds[i] (wipeE ρ vs) with
      | none => .bad
      | some ρ1 => (tt ρ1 Sh).bd fun b S1 => if b = true then (fe ρ1 S1).bd fun y S2 => if acc.length < lim then lcL t tt fe (wipeE ρ vs) (ds.drop (i + 1)) S2 (acc ++ [y]) else .bad else lcL t tt fe (wipeE ρ vs) (ds.drop (i + 1)) S1 acc) fun ys S2 => .ok (.lst ys) S2) := ph
    cases ea : asg t ds[i] (wipeE ρ vs) with
    | none => rw [ea] at ph; exact ph.elim
    | some ρ1 =>
      rw [ea] at ph
      dsimp only at ph
      refine tgG_ok (G := gd X W) t Rw rx ea fun ws hws R3 => ⟨?_, ?_⟩
      · rw [wipe_sets vs ws _ fun p hp => hsl _ (hws p hp), wipe_wipe]
      -- the test
      refine ⟨HF2, Lh, ρ1, Sh, R3, ?_⟩
      cases et : tt ρ1 Sh with
      | bad => rw [et] at ph; exact ph.elim
      | ex x S' => rw [et] at ph; exact ph.elim
      | ok bb S3 =>
        rw [et] at ph
        intro b' H3 HF3 L3 st3 R4 eb
        cases eb
        have hv3 := st3.keep Dl _ hLv (nl _) hv2
        have hF3 := st3.new Dl _ hLv hF2 (by trivial) hv2
        have hL3 : Dl ∉ L3 := st3.keepL hLv hv2
        cases bb with
        | false =>
          rw [if_neg Bool.false_ne_true]
          exact ⟨rfl, hlt, HF3, L3, S3, acc, vacc, R2.reenv st3 R4, sth.trans (st2.trans st3), hv3, hF3, hL3, ra.mono (st2.fro.trans st3.fro), ph⟩
        | true =>
          rw [if_pos rfl]
          refine ⟨HF3, L3, ρ1, S3, R4, ?_⟩
          have ph : Post (gd X W) W σ ρ H1 HF1 L1 (fun HF' _ v d => Rep (gd X W) HF' v d) Q (Out.bind ((fe ρ1 S3).bd fun y S2 => if acc.length < lim then lcL t tt fe (wipeE ρ vs) (ds.drop (i + 1)) S2 (acc ++ [y]) else .bad) fun ys S2 => .ok (.lst ys) S2) := ph
          cases ef : fe ρ1 S3 with
          | bad => rw [ef] at ph; exact ph.elim
          | ex x S' => rw [ef] at ph; exact ph.elim
          | ok y S4 =>
            rw [ef] at ph
            have ph : Post (gd X W) W σ ρ H1 HF1 L1 (fun HF' _ v d => Rep (gd X W) HF' v d) Q (Out.bind (if acc.length < lim then lcL t tt fe (wipeE ρ vs) (ds.drop (i + 1)) S4 (acc ++ [y]) else .bad) fun ys S2 => .ok (.lst ys) S2) := ph
            intro v H4 HF4 L4 st4 R5 ry
            split at ph
            · rename_i hz
              have hv4 := st4.keep Dl _ hL3 (nl _) hv3
              have hF4 := st4.new Dl _ hL3 hF3 (by trivial) hv3
              have hL4 : Dl ∉ L4 := st4.keepL hL3 hv3
              refine ⟨vacc, hv4, by rw [ra.length]; exact Nat.lt_of_lt_of_le hz lim_le, rfl, hlt, HF4, L4, S4, acc ++ [y], vacc ++ [v], ?_, ?_, upd_same, hF4, hL4, (ra.mono (st2.fro.trans (st3.fro.trans st4.fro))).append (.cons ry .nil), ph⟩
              · exact ((R2.reenv st3 R4).reenv st4 R5).aside hL4 hF4 (by rw [hv4]; simp)
              · exact Step.put (sth.trans (st2.trans (st3.trans st4))) hD
            · exact ph.elim
  · have e : i = ds.length := by omega
    subst e
    refine .inl ⟨rJ.stop _ Hh HFh s01 Rh.sub (Nat.le_refl _), ?_⟩
    rw [List.drop_length] at ph
    have ph : Post (gd X W) W σ ρ H1 HF1 L1 (fun HF' _ v d => Rep (gd X W) HF' v d) Q (.ok (.lst acc) Sh) := ph
    refine ph (.ref Dl) Hh (upd HFh Dl (.lst vacc)) Lh ?_ (Rh.adopt hLv hFv hv) (.lst upd_same (ra.mono (same_upd hFv)))
    refine ⟨sth.keep, sth.nn, sth.fro.trans (same_upd hFv), fun b o hb e nt n => ?_, sth.ext⟩
    rw [upd_ne (fun z => by rw [z, hD] at n; cases n)]
    exact sth.new b o hb e nt n
end
end DL

namespace DL
open PySem PySem.Spec PyProof.Rows L2
section
variable {X : Cx} {W : WD} {pos : Pos} {a b c : Expr} {fa fb fc : DEn} {es : List Expr} {tg : Expr}
abbrev DTs (X : Cx) (W : WD) (ifs : List Expr) (f : DTn) : Prop := PTs X ifs (tT (gd X W) W f)
def mYes : DTn := fun _ S => .ok true S
theorem t0 : DTs X W [] mYes := ⟨fun pins s σ H Q I ⟨HF, L, ρ, S, R, p⟩ => pts_nil.run pins s σ H Q I (p.done R .no rfl)⟩
theorem t1 {tt : DTn} (h : DT X W a tt) : DTs X W [a] tt := ⟨fun pins s σ H Q I q => (pts_one h).run pins s σ H Q I q⟩
/-- [elt for target in iter if ..] -/
theorem xlc {elt iter : Expr} {ifs : List Expr} {scope : Scope} {own : List (Str × Nat)} {fi : DDn} {t : Tg} {tt : DTn} {fe : DEn} (hc : X.calm = true) (hN : X.N.Nodup) (hi : DI X W tg iter fi) (ok : BlkOk X.N X.env.scope scope own)
    (hg : ∀ (s : Shared) (H : Hp) (C : Addr) (cl : List (Str × Addr)) (fp : List Addr), PG (X.blk s H scope (compEnvC scope cl C X.env) fp) tg (tgG (X.blk s H scope (compEnvC scope cl C X.env) fp).K t))
    (ht : ∀ (s : Shared) (H : Hp) (C : Addr) (cl : List (Str × Addr)) (fp : List Addr), DTs (X.blk s H scope (compEnvC scope cl C X.env) fp) W.z ifs tt)
    (he : ∀ (s : Shared) (H : Hp) (C : Addr) (cl : List (Str × Addr)) (fp : List Addr), DE (X.blk s H scope (compEnvC scope cl C X.env) fp) W.z elt fe)
    (hsl : ∀ i ∈ t.slots, i ∈ own.map (·.2) := by decide) (hs : ∀ x, foldedSetIterable iter X.env x = pure x := by intro _; rfl) : DE X W (.ListComp elt [⟨tg, iter, ifs, 0⟩] scope pos) (mLc fi t tt fe (own.map (·.2))) :=
  PE.imp (pe_lc hc hN hi ok hg ht he hs) fun σ H Q h => lc_read hsl h

/-! ### statements -/
abbrev DS (X : Cx) (W : WD) (st : Stmt) (f : DSn) : Prop := PS X st (tS (gd X W) W f)
abbrev DSs (X : Cx) (W : WD) (st : List Stmt) (f : DSn) : Prop := PSs X st (tS (gd X W) W f)
def bindS {α : Type} (o : Out α) (ρ : DL.Env) (k : α → Store → Out (Ctl × DL.Env)) : Out (Ctl × DL.Env) := match o with
  | .ok a S => k a S
  | .ex x S => .ok (.ex x, ρ) S
  | .bad => .bad
theorem PostS.step {G : Gd} {D : Ends} {H HF H1 HF1 : Hp} {L L1 : List Addr} (st : Step H HF L H1 HF1 L1) : ∀ {o : Out (Ctl × DL.Env)}, PostS G W H HF L D o → PostS G W H1 HF1 L1 D o
  | .ok _ _, h => fun σ' H' HF' L' s2 => h σ' H' HF' L' (st.trans s2)
  | .ex _ _, h => h
  | .bad, h => h
theorem PostS.bind {α β : Type} {G : Gd} {D : Ends} {σ : L2.St} {ρ : DL.Env} {H HF : Hp} {L : List Addr} {P : Hp → List Addr → β → α → Prop} {Q : β → Hp → Prop} {k : α → Store → Out (Ctl × DL.Env)} :
    ∀ {o : Out α}, PostS G W H HF L D (bindS o ρ k) → (∀ d S' v H' HF' L', o = .ok d S' → Step H HF L H' HF' L' → Rel G H' HF' L' σ ρ S' → P HF' L' v d → PostS G W H' HF' L' D (k d S') → Q v H') → Post G W σ ρ H HF L P Q o
  | .ok d S', h, f => fun v H' HF' L' st R r => f d S' v H' HF' L' rfl st R r (PostS.step st h)
  | .ex x S', h, _ => fun cls dd H' HF' L' st R e => h σ H' HF' L' st R cls dd e
  | .bad, h, _ => h
theorem PostS.done {G : Gd} {D : Ends} {σ : L2.St} {ρ : DL.Env} {H HF : Hp} {L : List Addr} {c : Ctl} {S : Store} (h : PostS G W H HF L D (.ok (c, ρ) S)) (R : Rel G H HF L σ ρ S) : EndsD G W D HF σ H c := h σ H HF L .refl R
def mSkip : DSn := fun ρ S => .ok (.nx, ρ) S
def mSeq (f g : DSn) : DSn := fun ρ S => match f ρ S with
  | .ok (.nx, ρ1) S1 => g ρ1 S1
  | o => o
theorem s0 : DSs X W [] mSkip := PSs.imp pss_nil fun D σ H ⟨HF, L, ρ, S, R, p⟩ => p.done R
theorem PostS.seq {G : Gd} {D : Ends} {H HF : Hp} {L : List Addr} {f g : DSn} {ρ : DL.Env} {S : Store} (h : PostS G W H HF L D (mSeq f g ρ S)) : PostS G W H HF L { D with nx := tS G W g D } (f ρ S) := by
  unfold mSeq at h
  cases q : f ρ S with
  | bad => rw [q] at h; exact h
  | ex x S1 => rw [q] at h; exact h
  | ok cr S1 =>
    obtain ⟨c, ρ1⟩ := cr
    rw [q] at h
    cases c with
    | nx => exact fun σ' H' HF' L' st R => ⟨HF', L', ρ1, S1, R, PostS.step st h⟩
    | rt d => exact h
    | bk => exact h
    | ct => exact h
    | ex x => exact h
theorem s1 {st : Stmt} {rest : List Stmt} {f g : DSn} (h1 : DS X W st f) (h2 : DSs X W rest g) : DSs X W (st :: rest) (mSeq f g) :=
  PSs.imp (pss_cons h1 h2) fun D σ H ⟨HF, L, ρ, S, R, p⟩ => ⟨HF, L, ρ, S, R, PostS.seq p⟩
theorem sl {st : Stmt} {f : DSn} (h1 : DS X W st f) : DSs X W [st] f := pss_one h1
def mNever : DSn := fun _ _ => .bad
theorem snever {st : Stmt} : DS X W st mNever := PS.imp ps_never fun D σ H ⟨HF, L, ρ, S, R, p⟩ => p
theorem ssnever {st : List Stmt} : DSs X W st mNever := PSs.imp pss_never fun D σ H ⟨HF, L, ρ, S, R, p⟩ => p
theorem spass : DS X W (.Pass pos) mSkip := PS.imp ps_pass fun D σ H ⟨HF, L, ρ, S, R, p⟩ => p.done R
def mBreak : DSn := fun ρ S => .ok (.bk, ρ) S
def mCont : DSn := fun ρ S => .ok (.ct, ρ) S
theorem sbreak : DS X W (.Break pos) mBreak := PS.imp ps_break fun D σ H ⟨HF, L, ρ, S, R, p⟩ => p.done R
theorem scont : DS X W (.Continue pos) mCont := PS.imp ps_continue fun D σ H ⟨HF, L, ρ, S, R, p⟩ => p.done R
theorem sdoc {x j pos'} : DS X W (.Expr (.Constant (.str x) j pos) pos') mSkip := PS.imp ps_doc fun D σ H ⟨HF, L, ρ, S, R, p⟩ => p.done R
def mDrop (fa : DEn) : DSn := fun ρ S => bindS (fa ρ S) ρ fun _ S1 => .ok (.nx, ρ) S1
theorem sexpr (ha : DE X W a fa) (hs : swapsWith a none pos.line X.env = pure false := by rfl) : DS X W (.Expr a pos) (mDrop fa) :=
  PS.imp (ps_expr ha hs) fun D σ H ⟨HF, L, ρ, S, R, p⟩ => ⟨HF, L, ρ, S, R, PostS.bind p fun d S1 v H1 HF1 L1 e1 st1 R1 r1 p1 => p1.done R1⟩
def mRet (fa : DEn) : DSn := fun ρ S => bindS (fa ρ S) ρ fun d S1 => .ok (.rt d, ρ) S1
theorem sret (ha : DE X W a fa) : DS X W (.Return (some a) pos) (mRet fa) :=
  PS.imp (ps_ret ha) fun D σ H ⟨HF, L, ρ, S, R, p⟩ => ⟨HF, L, ρ, S, R, PostS.bind p fun d S1 v H1 HF1 L1 e1 st1 R1 r1 p1 => p1.done R1 v r1⟩
def mRetN : DSn := fun ρ S => .ok (.rt .non, ρ) S
theorem sretN : DS X W (.Return none pos) mRetN := PS.imp ps_retN fun D σ H ⟨HF, L, ρ, S, R, p⟩ => p.done R .non .non
def mIfS (t : DTn) (f g : DSn) : DSn := fun ρ S => bindS (t ρ S) ρ fun k S1 => if k = true then f ρ S1 else g ρ S1
theorem sif {tt : DTn} {u v : List Stmt} {f g : DSn} (ht : DT X W a tt) (hf : DSs X W u f) (hg : DSs X W v g) : DS X W (.If a u v pos) (mIfS tt f g) :=
  PS.imp (ps_if ht hf hg) fun D σ H ⟨HF, L, ρ, S, R, p⟩ => ⟨HF, L, ρ, S, R, PostS.bind p fun k S1 k' H1 HF1 L1 e1 st1 R1 r1 p1 => by
    cases r1
    cases k with
    | true => rw [if_pos rfl] at p1 ⊢; exact ⟨HF1, L1, ρ, S1, R1, p1⟩
    | false => rw [if_neg Bool.false_ne_true] at p1 ⊢; exact ⟨HF1, L1, ρ, S1, R1, p1⟩⟩
/-- x = e -/
def mSet (i : Nat) (fv : DVn) : DSn := fun ρ S => bindS (fv ρ S) ρ fun e S1 => .ok (.nx, ρ.set i (some e)) S1
theorem sset (i : Nat) {x : Str} {px : Pos} {fv : DVn} (hN : X.N.Nodup) (he : DV X W a fv) (hi : X.N[i]? = some x := by rfl) (hx : Loc X.env.scope x := by first | exact Or.inl rfl | exact Or.inr rfl) (hs : swapsWith a (some (.Name x px)) pos.line X.env = pure false := by rfl) (hf : X.fn x = true ∨ X.env.scope.names.lookup x = some .local := by first | exact .inl rfl | exact .inr rfl | assumption) :
    DS X W (.Assign [.Name x px] a pos) (mSet i fv) :=
  PS.imp (ps_set hN hi hx he hs hf) fun D σ H ⟨HF, L, ρ, S, R, p⟩ => ⟨HF, L, ρ, S, R, PostS.bind p fun d S1 v H1 HF1 L1 e1 st1 R1 r1 p1 => p1.done (R1.store r1 i)⟩
/-- x = [.. for ..] -/
def mSetLc (i : Nat) (f : DEn) : DSn := fun ρ S => bindS (f ρ S) ρ fun d S1 => .ok (.nx, ρ.set i (some (.v d))) S1
theorem ssetLc (i : Nat) {y : Str} {py : Pos} {elt iter : Expr} {ifs : List Expr} {scope : Scope} {own : List (Str × Nat)} {cpos : Pos} {fi : DDn} {t : Tg} {tt : DTn} {fe : DEn} (hc : X.calm = true) (hN : X.N.Nodup) (hi : DI X W tg iter fi) (ok : BlkOk X.N X.env.scope scope own)
    (hg : ∀ (s : Shared) (H : Hp) (C : Addr) (cl : List (Str × Addr)) (fp : List Addr), PG (X.blk s H scope (compEnvC scope cl C X.env) fp) tg (tgG (X.blk s H scope (compEnvC scope cl C X.env) fp).K t))
    (ht : ∀ (s : Shared) (H : Hp) (C : Addr) (cl : List (Str × Addr)) (fp : List Addr), DTs (X.blk s H scope (compEnvC scope cl C X.env) fp) W.z ifs tt)
    (he : ∀ (s : Shared) (H : Hp) (C : Addr) (cl : List (Str × Addr)) (fp : List Addr), DE (X.blk s H scope (compEnvC scope cl C X.env) fp) W.z elt fe)
    (hy : X.N[i]? = some y := by rfl) (hyl : X.env.scope.names.lookup y = some .local := by rfl) (hsw : swapsWith (.ListComp elt [⟨tg, iter, ifs, 0⟩] scope cpos) (some (.Name y py)) pos.line X.env = pure true := by exact sw_true rfl rfl rfl (by decide +kernel))
    (hsl : ∀ i ∈ t.slots, i ∈ own.map (·.2) := by decide) (hs : ∀ x, foldedSetIterable iter X.env x = pure x := by intro _; rfl) : DS X W (.Assign [.Name y py] (.ListComp elt [⟨tg, iter, ifs, 0⟩] scope cpos) pos) (mSetLc i (mLc fi t tt fe (own.map (·.2)))) :=
  PS.imp (ps_setLc (i := i) hc hN hy hyl hsw hi ok hg ht he hs) fun D σ H ⟨HF, L, ρ, S, R, p⟩ => lc_read hsl ⟨HF, L, ρ, S, R, PostS.bind p fun d S1 v H1 HF1 L1 e1 st1 R1 r1 p1 => p1.done (R1.store (e := .v d) r1 i)⟩
/-- x, y = a, b -/
def mPar2 (i j : Nat) (fs : DAn) : DSn := fun ρ S => bindS (fs ρ S) ρ fun es S1 => match es with
  | [u, v] => .ok (.nx, (ρ.set i (some u)).set j (some v)) S1
  | _ => .bad
theorem spar2 (i j : Nat) {x y : Str} {px py pt pt2 : Pos} {kt k2 : Nat} {fs : DAn} (hc : X.calm = true) (hN : X.N.Nodup) (ha : DAE X W [a, b] fs) (hij : i ≠ j := by decide) (hi : X.N[i]? = some x := by rfl) (hj : X.N[j]? = some y := by rfl) (hx : X.env.scope.names.lookup x = some .local := by rfl) (hy : X.env.scope.names.lookup y = some .local := by rfl)
    (hw : swappedStores [.Tuple [.Name x px, .Name y py] kt pt] (.Tuple [a, b] k2 pt2) X.env = pure (some [x, y]) := by rfl) (hs : swapsWithSole [.Tuple [.Name x px, .Name y py] kt pt] (.Tuple [a, b] k2 pt2) pos.line X.env = pure false := by rfl) :
    DS X W (.Assign [.Tuple [.Name x px, .Name y py] kt pt] (.Tuple [a, b] k2 pt2) pos) (mPar2 i j fs) :=
  PS.imp (ps_par hc hN hi hj hij hx hy ha hw hs) fun D σ H ⟨HF, L, ρ, S, R, p⟩ => ⟨HF, L, ρ, S, R, PostS.bind p fun es S1 vs H1 HF1 L1 e1 st1 R1 r1 p1 => by
    split at p1
    · cases r1 with
      | cons h1 h2 => cases h2 with
        | cons h3 h4 =>
          cases h4
          exact ⟨_, _, rfl, p1.done ((R1.store h1 i).store h3 j)⟩
    · exact p1.elim⟩
def mPar3 (i j l : Nat) (fs : DAn) : DSn := fun ρ S => bindS (fs ρ S) ρ fun es S1 => match es with
  | [u, v, w] => .ok (.nx, ((ρ.set i (some u)).set j (some v)).set l (some w)) S1
  | _ => .bad
theorem spar3 (i j l : Nat) {x y z : Str} {px py pz pt pt2 : Pos} {kt k2 : Nat} {fs : DAn} (hc : X.calm = true) (hN : X.N.Nodup) (ha : DAE X W [a, b, c] fs) (hij : i ≠ j := by decide) (hil : i ≠ l := by decide) (hjl : j ≠ l := by decide) (hi : X.N[i]? = some x := by rfl) (hj : X.N[j]? = some y := by rfl) (hl : X.N[l]? = some z := by rfl)
    (hx : X.env.scope.names.lookup x = some .local := by rfl) (hy : X.env.scope.names.lookup y = some .local := by rfl) (hz : X.env.scope.names.lookup z = some .local := by rfl)
    (hw : swappedStores [.Tuple [.Name x px, .Name y py, .Name z pz] kt pt] (.Tuple [a, b, c] k2 pt2) X.env = pure (some [x, y, z]) := by rfl) (hs : swapsWithSole [.Tuple [.Name x px, .Name y py, .Name z pz] kt pt] (.Tuple [a, b, c] k2 pt2) pos.line X.env = pure false := by rfl) :
    DS X W (.Assign [.Tuple [.Name x px, .Name y py, .Name z pz] kt pt] (.Tuple [a, b, c] k2 pt2) pos) (mPar3 i j l fs) :=
  PS.imp (ps_par3 hc hN hi hj hl hij hil hjl hx hy hz ha hw hs) fun D σ H ⟨HF, L, ρ, S, R, p⟩ => ⟨HF, L, ρ, S, R, PostS.bind p fun es S1 vs H1 HF1 L1 e1 st1 R1 r1 p1 => by
    split at p1
    · cases r1 with
      | cons h1 h2 => cases h2 with
        | cons h3 h4 => cases h4 with
          | cons h5 h6 =>
            cases h6
            exact ⟨_, _, _, rfl, p1.done (((R1.store h1 i).store h3 j).store h5 l)⟩
    · exact p1.elim⟩
/-- x += e and its like, of ints -/
def mAug (i : Nat) (g : Int → Int → Int) (fa : DEn) : DSn := fun ρ S => match ρ[i]? with
  | some (some (.v (.int m))) => bindS (fa ρ S) ρ fun d S1 => match d with
    | .int n => .ok (.nx, ρ.set i (some (.v (.int (g m n))))) S1
    | _ => .bad
  | _ => .bad
theorem saug (i : Nat) {x : Str} {px : Pos} {op : Operator} {g : Int → Int → Int} (hN : X.N.Nodup) (ho : PIp X op (ipI g)) (ha : DE X W a fa) (hi : X.N[i]? = some x := by rfl) (hx : Loc X.env.scope x := by first | exact Or.inl rfl | exact Or.inr rfl) (hf : X.fn x = true ∨ X.env.scope.names.lookup x = some .local := by first | exact .inl rfl | exact .inr rfl | assumption) :
    DS X W (.AugAssign (.Name x px) op a pos) (mAug i g fa) :=
  PS.imp (ps_aug hN hi hx ha ho hf) fun D σ H ⟨HF, L, ρ, S, R, p⟩ => by
    unfold mAug at p
    split at p
    · rename_i m hm
      obtain ⟨v, e1, e2⟩ := R.env i _ hm
      have e2 : Rep (gd X W) HF v (.int m) := e2
      cases e2
      refine ⟨_, e1, HF, L, ρ, S, R, PostS.bind p fun d S1 w H1 HF1 L1 e1 st1 R1 r1 p1 => ?_⟩
      split at p1
      · cases r1
        exact ⟨_, _, rfl, rfl, p1.done (R1.store (e := .v (.int _)) (.int _) i)⟩
      · exact p1.elim
    · exact p.elim
/-- targets of every kind: names, items of cells, tuples of these -/
abbrev DGn := D → DL.Env → Store → Out DL.Env
def PostG (G : Gd) (H HF : Hp) (L : List Addr) (Q : L2.St → Hp → Prop) : Out DL.Env → Prop
  | .ok ρ' S' => ∀ σ' H' HF' L', Step H HF L H' HF' L' → Rel G H' HF' L' σ' ρ' S' → Q σ' H'
  | _ => False
def tGt (G : Gd) (g : DGn) : TG := fun v σ H Q => ∃ HF L ρ S d, Rel G H HF L σ ρ S ∧ Rep G HF v d ∧ PostG G H HF L Q (g d ρ S)
def tGts (G : Gd) (g : List D → DL.Env → Store → Out DL.Env) : TGs := fun vs σ H Q => ∃ HF L ρ S ds, Rel G H HF L σ ρ S ∧ Reps G HF vs ds ∧ PostG G H HF L Q (g ds ρ S)
theorem PG.imp {t t' : TG} (h : PG X tg t) (k : ∀ v σ H Q, t' v σ H Q → t v σ H Q) : PG X tg t' := ⟨fun pins s σ H v u Q I r q => h.run pins s σ H v u Q I r (k v σ H Q q)⟩
theorem PGs.imp {t t' : TGs} (h : PGs X es t) (k : ∀ v σ H Q, t' v σ H Q → t v σ H Q) : PGs X es t' := ⟨fun pins s σ H v u Q I r q => h.run pins s σ H v u Q I r (k v σ H Q q)⟩
abbrev DG (X : Cx) (W : WD) (tg : Expr) (g : DGn) : Prop := PG X tg (tGt (gd X W) g)
abbrev DGs (X : Cx) (W : WD) (es : List Expr) (g : List D → DL.Env → Store → Out DL.Env) : Prop := PGs X es (tGts (gd X W) g)
def gNm (i : Nat) : DGn := fun d ρ S => .ok (ρ.set i (some (.v d))) S
theorem gname (i : Nat) {x : Str} (hN : X.N.Nodup) (hi : X.N[i]? = some x := by rfl) (hx : Loc X.env.scope x := by first | exact Or.inl rfl | exact Or.inr rfl) (hf : X.fn x = true ∨ X.env.scope.names.lookup x = some .local := by first | exact .inl rfl | exact .inr rfl | assumption) : DG X W (.Name x pos) (gNm i) :=
  PG.imp (pg_name hN hi hx hf) fun v σ H Q ⟨HF, L, ρ, S, d, R, r, p⟩ => p _ _ _ _ .refl (R.store (e := .v d) r i)
def gNil : List D → DL.Env → Store → Out DL.Env := fun ds ρ S => match ds with
  | [] => .ok ρ S
  | _ => .bad
def gCons (g : DGn) (gs : List D → DL.Env → Store → Out DL.Env) : List D → DL.Env → Store → Out DL.Env := fun ds ρ S => match ds with
  | d :: ds => (g d ρ S).bind fun ρ1 S1 => gs ds ρ1 S1
  | _ => .bad
theorem gs0 : DGs X W [] DL.gNil := PGs.imp pgs_nil fun vs σ H Q ⟨HF, L, ρ, S, ds, R, r, p⟩ => by
  cases ds with
  | nil => cases r; exact ⟨rfl, p _ _ _ _ .refl R⟩
  | cons _ _ => exact p.elim
theorem PostG.bind {G : Gd} {H HF : Hp} {L : List Addr} {Q Q1 : L2.St → Hp → Prop} {k : DL.Env → Store → Out DL.Env} : ∀ {o : Out DL.Env}, PostG G H HF L Q (o.bind k) →
    (∀ ρ1 S1 σ1 H1 HF1 L1, Step H HF L H1 HF1 L1 → Rel G H1 HF1 L1 σ1 ρ1 S1 → PostG G H1 HF1 L1 Q (k ρ1 S1) → Q1 σ1 H1) → PostG G H HF L Q1 o
  | .ok ρ1 S1, h, f => fun σ1 H1 HF1 L1 st R => f ρ1 S1 σ1 H1 HF1 L1 st R (by
    have h : PostG G H HF L Q (k ρ1 S1) := h
    cases q : k ρ1 S1 with
    | ok ρ2 S2 => rw [q] at h; exact fun σ' H' HF' L' s2 => h σ' H' HF' L' (st.trans s2)
    | ex x S2 => rw [q] at h; exact h
    | bad => rw [q] at h; exact h)
  | .ex _ _, h, _ => h
  | .bad, h, _ => h
theorem gs1 {g : DGn} {gs : List D → DL.Env → Store → Out DL.Env} (h1 : DG X W a g) (h2 : DGs X W es gs) (hs : (assignEach (a :: es) X.env).map (·.2) = assign a X.env :: (assignEach es X.env).map (·.2) := by rfl) : DGs X W (a :: es) (DL.gCons g gs) :=
  PGs.imp (pgs_cons h1 h2 hs) fun vs σ H Q ⟨HF, L, ρ, S, ds, R, r, p⟩ => by
    cases ds with
    | nil => exact p.elim
    | cons d ds =>
      cases r with
      | cons r1 r2 => exact ⟨_, _, rfl, HF, L, ρ, S, d, R, r1, PostG.bind p fun ρ1 S1 σ1 H1 HF1 L1 st R1 p1 => ⟨HF1, L1, ρ1, S1, ds, R1, r2.mono st.fro, p1⟩⟩
def gTp (gs : List D → DL.Env → Store → Out DL.Env) (n : Nat) : DGn := fun d ρ S => match d with
  | .tup ds => if ds.length = n then gs ds ρ S else .bad
  | _ => .bad
theorem gtup {k n : Nat} {gs : List D → DL.Env → Store → Out DL.Env} (hc : X.calm = true) (h : DGs X W es gs) (hn : (assignEach es X.env).length = n := by rfl) (hst : (assignEach es X.env).findIdx? (·.1) = none := by rfl) : DG X W (.Tuple es k pos) (gTp gs n) :=
  PG.imp (pg_tup hc h hn hst) fun v σ H Q ⟨HF, L, ρ, S, d, R, r, p⟩ => by
    cases d with
    | tup ds =>
      have p : PostG (gd X W) H HF L Q (if ds.length = n then gs ds ρ S else .bad) := p
      split at p
      · rename_i hl
        cases r with
        | tup h1 h2 => exact ⟨_, _, rfl, SqT.mono R.sub h1, by rw [h2.length]; exact hl, HF, L, ρ, S, ds, R, h2, p⟩
      · exact p.elim
    | _ => exact p.elim
/-- cell[i] = .. -/
def gIt (i : Nat) (fi : DEn) : DGn := fun d ρ S => match ρ[i]? with
  | some (some (.cel n)) => (fi ρ S).bd fun x S1 => match x, S1[n]? with
    | .int k, some (some (.lst ds)) => match ixN ds.length k with
      | some j => .ok ρ (S1.set n (some (.lst (ds.set j d))))
      | none => .bad
    | _, _ => .bad
  | _ => .bad
theorem gitem (i : Nat) {x : Str} {px : Pos} {fi : DEn} (hi : DE X W.z b fi) (hN : X.N[i]? = some x := by rfl) (hv : Vis X.env.scope x := by first | exact Or.inl rfl | exact Or.inr (Or.inl rfl) | exact Or.inr (Or.inr rfl)) (hd : (x == ("__debug__" : Str)) = false := by decide) (hcd : (x == ("__classdict__" : Str)) = false := by decide)
    (ha : ∀ v, assign (.Subscript (.Name x px) b pos) X.env v = (do
      let ov ← holding [v] (eval (.Name x px) X.env)
      let iv ← holding [v, ov] (eval b X.env)
      standAt pos
      holding [v, ov, iv] (setItem ov iv v)
      release [v, ov, iv] []) := by intro _; rfl) : DG X W (.Subscript (.Name x px) b pos) (gIt i fi) :=
  PG.imp (pg_sub (pe_var (i := i) hN hv hd hcd) hi set_list ha) fun v σ H Q ⟨HF, L, ρ, S, d, R, r, p⟩ => by
    unfold gIt at p
    split at p
    · rename_i n hn
      obtain ⟨w, hw1, pa, hp1, hp2⟩ := R.env i _ hn
      subst hp2
      refine ⟨_, hw1, HF, L, ρ, S, R, ?_⟩
      cases q : fi ρ S with
      | bad => rw [q] at p; exact p.elim
      | ex x S1 => rw [q] at p; exact p.elim
      | ok y S1 =>
        rw [q] at p
        replace p : PostG (gd X W) H HF L Q (match (generalizing := false) y, S1[n]? with
          | .int k, some (some (.lst ds)) => match (generalizing := false) ixN ds.length k with
            | some j => .ok ρ (S1.set n (some (.lst (ds.set j d))))
            | none => .bad
          | _, _ => .bad) := p
        intro u H1 HF1 L1 st1 R1 ru
        split at p
        · rename_i k ds hS
          cases ru
          split at p
          · rename_i j hj
            have hp1' := st1.lget hp1
            obtain ⟨q4, vs, q5, q6⟩ := R1.cell n pa _ hp1' hS
            obtain ⟨R2, st2⟩ := R1.write hp1' hS (q6.set j (Rep.mono st1.fro r))
            exact ⟨pa, vs, k, j, rfl, rfl, q5, by rw [q6.length]; exact hj, p _ _ _ _ (st1.trans st2) R2⟩
          · exact p.elim
        · exact p.elim
    · exact p.elim
def mAsg (fa : DEn) (g : DGn) : DSn := fun ρ S => bindS (fa ρ S) ρ fun d S1 => match g d ρ S1 with
  | .ok ρ' S2 => .ok (.nx, ρ') S2
  | _ => .bad
theorem sasg {g : DGn} (ha : DE X W a fa) (hg : DG X W tg g) (hs : swapsWithSole [tg] a pos.line X.env = pure false := by rfl) (hw : swappedStores [tg] a X.env = pure none := by rfl) (h1 : (assignEach [tg] X.env).map (·.2) = [assign tg X.env] := by rfl) : DS X W (.Assign [tg] a pos) (mAsg fa g) :=
  PS.imp (ps_asg ha hg hs hw h1) fun D σ H ⟨HF, L, ρ, S, R, p⟩ => ⟨HF, L, ρ, S, R, PostS.bind p fun d S1 v H1 HF1 L1 e1 st1 R1 r1 p1 => ⟨HF1, L1, ρ, S1, d, R1, r1, by
    cases q : g d ρ S1 with
    | ok ρ' S2 =>
      rw [q] at p1
      exact fun σ' H' HF' L' st2 R2 => p1 σ' H' HF' L' st2 R2
    | ex x S2 => rw [q] at p1; exact p1.elim
    | bad => rw [q] at p1; exact p1.elim⟩⟩
/-! ### loops -/
def forL (t : Tg) (body : DSn) : List D → DSn
  | [], ρ, S => .ok (.nx, ρ) S
  | d :: ds, ρ, S => match asg t d ρ with
    | none => .bad
    | some ρ1 => match body ρ1 S with
      | .ok (.nx, ρ2) S2 => forL t body ds ρ2 S2
      | .ok (.ct, ρ2) S2 => forL t body ds ρ2 S2
      | .ok (.bk, ρ2) S2 => .ok (.nx, ρ2) S2
      | .ok (.rt r, ρ2) S2 => .ok (.rt r, ρ2) S2
      | .ok (.ex x, ρ2) S2 => .ok (.ex x, ρ2) S2
      | _ => .bad
def mFor (fi : DDn) (t : Tg) (body : DSn) : DSn := fun ρ S => bindS (fi ρ S) ρ fun ds S1 => forL t body ds ρ S1
theorem sfor {iter : Expr} {fi : DDn} {t : Tg} {body : List Stmt} {fb : DSn} (hp : PassesOwn (model X.prog X.w) X.A X.env X.xe) (hc : X.calm = true) (hi : DI X W tg iter fi) (hg : PG X tg (tgG X.K t)) (hb : DSs X W body fb) (hs : ∀ x, foldedSetIterable iter X.env x = pure x := by intro _; rfl) :
    DS X W (.For tg iter body [] pos) (mFor fi t fb) := by
  refine PS.imp (ps_for hp hc hi hg hb hs) fun D σ H ⟨HF, L, ρ, S, R, p⟩ => ⟨HF, L, ρ, S, R, PostS.bind p fun ds S1 J H1 HF1 L1 e1 st1 R1 rJ p1 => ?_⟩
  refine ⟨fun i m σh Hh => m = ds.length - i ∧ i ≤ ds.length ∧ ∃ HFh Lh ρh Sh, Rel (gd X W) Hh HFh Lh σh ρh Sh ∧ Same HF1 HFh ∧ PostS (gd X W) W Hh HFh Lh D (forL t fb (ds.drop i) ρh Sh), ⟨ds.length, by simp, Nat.zero_le _, HF1, L1, ρ, S1, R1, Same.refl _, by simpa using p1⟩, ?_⟩
  rintro i m σh Hh ⟨rfl, hle, HFh, Lh, ρh, Sh, Rh, sm, ph⟩
  by_cases hlt : i < ds.length
  · refine .inr ⟨rJ.go i Hh HFh sm Rh.sub hlt, fun σ' H' => ∃ HFh Lh ρh Sh, Rel (gd X W) H' HFh Lh σ' ρh Sh ∧ Same HF1 HFh ∧ PostS (gd X W) W H' HFh Lh D (forL t fb (ds.drop (i + 1)) ρh Sh), fun σ' H' h => ⟨ds.length - (i + 1), by omega, rfl, hlt, h⟩, fun x H2 hy => ?_⟩
    have ed : ds.drop i = ds[i] :: ds.drop (i + 1) := List.drop_eq_getElem_cons hlt
    rw [ed] at ph
    obtain ⟨HF2, al, rx⟩ := rJ.yld i x Hh HFh H2 ds[i] sm Rh.sub (List.getElem?_eq_getElem hlt) hy
    obtain ⟨R2, st2⟩ := Rh.al al
    have ph : PostS (gd X W) W Hh HFh Lh D (match asg t ds[i] ρh with
      | none => .bad
      | some ρ1 => match fb ρ1 Sh with
        | .ok (.nx, ρ2) S2 => forL t fb (ds.drop (i + 1)) ρ2 S2
        | .ok (.ct, ρ2) S2 => forL t fb (ds.drop (i + 1)) ρ2 S2
        | .ok (.bk, ρ2) S2 => .ok (.nx, ρ2) S2
        | .ok (.rt r, ρ2) S2 => .ok (.rt r, ρ2) S2
        | .ok (.ex x, ρ2) S2 => .ok (.ex x, ρ2) S2
        | _ => .bad) := ph
    cases ea : asg t ds[i] ρh with
    | none => rw [ea] at ph; exact ph.elim
    | some ρ1 =>
      rw [ea] at ph
      dsimp only at ph
      refine tgG_ok (G := gd X W) t R2 rx ea fun ws hws R3 => ⟨HF2, Lh, ρ1, Sh, R3, ?_⟩
      cases q : fb ρ1 Sh with
      | bad => rw [q] at ph; exact ph.elim
      | ex x S2 => rw [q] at ph; exact ph.elim
      | ok cr S2 =>
        obtain ⟨c, ρ2⟩ := cr
        rw [q] at ph
        intro σ' H' HF' L' st3 R4
        cases c with
        | nx => exact ⟨HF', L', ρ2, S2, R4, sm.trans (st2.fro.trans st3.fro), PostS.step (st2.trans st3) ph⟩
        | ct => exact ⟨HF', L', ρ2, S2, R4, sm.trans (st2.fro.trans st3.fro), PostS.step (st2.trans st3) ph⟩
        | bk => exact ph σ' H' HF' L' (st2.trans st3) R4
        | rt r => exact ph σ' H' HF' L' (st2.trans st3) R4
        | ex x => exact ph σ' H' HF' L' (st2.trans st3) R4
  · have e : i = ds.length := by omega
    subst e
    rw [List.drop_length] at ph
    exact .inl ⟨rJ.stop _ Hh HFh sm Rh.sub (Nat.le_refl _), PostS.done (c := .nx) ph Rh⟩
def whileL (t : DTn) (body : DSn) : Nat → DSn
  | 0, _, _ => .bad
  | n + 1, ρ, S => bindS (t ρ S) ρ fun k S1 => if k = true then match body ρ S1 with
      | .ok (.nx, ρ2) S2 => whileL t body n ρ2 S2
      | .ok (.ct, ρ2) S2 => whileL t body n ρ2 S2
      | .ok (.bk, ρ2) S2 => .ok (.nx, ρ2) S2
      | .ok (.rt r, ρ2) S2 => .ok (.rt r, ρ2) S2
      | .ok (.ex x, ρ2) S2 => .ok (.ex x, ρ2) S2
      | _ => .bad
    else .ok (.nx, ρ) S1
theorem swhile (fuel : Nat) {tt : DTn} {body : List Stmt} {fb : DSn} (hp : PassesOwn (model X.prog X.w) X.A X.env X.xe) (ht : DT X W a tt) (hb : DSs X W body fb) : DS X W (.While a body [] pos) (whileL tt fb fuel) := by
  refine PS.imp (ps_while hp ht hb) fun D σ H ⟨HF, L, ρ, S, R, p⟩ => ?_
  refine ⟨fun m σh Hh => ∃ HFh Lh ρh Sh, Rel (gd X W) Hh HFh Lh σh ρh Sh ∧ PostS (gd X W) W Hh HFh Lh D (whileL tt fb m ρh Sh), ⟨fuel, HF, L, ρ, S, R, p⟩, ?_⟩
  rintro m σh Hh ⟨HFh, Lh, ρh, Sh, Rh, ph⟩
  cases m with
  | zero => exact ph.elim
  | succ n =>
    refine ⟨HFh, Lh, ρh, Sh, Rh, PostS.bind ph fun k S1 k' H1 HF1 L1 e1 st1 R1 r1 p1 => ?_⟩
    cases r1
    cases k with
    | false =>
      rw [if_neg Bool.false_ne_true] at p1 ⊢
      exact PostS.done (c := .nx) p1 R1
    | true =>
      rw [if_pos rfl] at p1 ⊢
      refine ⟨fun σ' H' => ∃ HFh Lh ρh Sh, Rel (gd X W) H' HFh Lh σ' ρh Sh ∧ PostS (gd X W) W H' HFh Lh D (whileL tt fb n ρh Sh), fun σ' H' h => ⟨n, Nat.lt_succ_self n, h⟩, HF1, L1, ρh, S1, R1, ?_⟩
      cases q : fb ρh S1 with
      | bad => rw [q] at p1; exact p1.elim
      | ex x S2 => rw [q] at p1; exact p1.elim
      | ok cr S2 =>
        obtain ⟨c, ρ2⟩ := cr
        rw [q] at p1
        intro σ' H' HF' L' st3 R4
        cases c with
        | nx => exact ⟨HF', L', ρ2, S2, R4, PostS.step st3 p1⟩
        | ct => exact ⟨HF', L', ρ2, S2, R4, PostS.step st3 p1⟩
        | bk => exact p1 σ' H' HF' L' st3 R4
        | rt r => exact p1 σ' H' HF' L' st3 R4
        | ex x => exact p1 σ' H' HF' L' st3 R4
end
/-! ### a def, by its body -/
def denB (N : Nat) (body : DSn) : Den := fun es S => match body (es.map some ++ List.replicate (N - es.length) none) S with
  | .ok (.rt d, _) S' => .ok d (S'.take S.length)
  | .ok (.nx, _) S' => .ok .non (S'.take S.length)
  | .ok (.ex x, _) S' => .ex x (S'.take S.length)
  | _ => .bad
section
variable {G : Gd} {H HF H' HF' : Hp} {L L' : List Addr} {σ : L2.St} {ρ : DL.Env} {S S' : Store}
theorem Rel.leave (R : Rel G H HF L [] [] S) (st : Step H HF L H' HF' L') (R' : Rel G H' HF' L' σ ρ S') : Step H HF L H' HF' L ∧ Rel G H' HF' L [] [] (S'.take S.length) := by
  obtain ⟨M, eM, nM⟩ := st.ext
  refine ⟨⟨st.keep, st.nn, st.fro, st.new, [], by simp, by simp⟩, ⟨R'.sub, R.nd, ?_, fun a ha => R'.liv a (by rw [eM]; exact List.mem_append_left _ ha), R'.tab, R'.nft, fun n a c h1 h2 => ?_, rfl, fun i e h => by simp at h⟩⟩
  · rw [List.length_take, R'.sl, R.sl, eM, List.length_append]
    omega
  · have hn : n < S.length := by rw [R.sl]; exact (List.getElem?_eq_some_iff.mp h1).1
    rw [List.getElem?_take_of_lt hn] at h2
    exact R'.cell n a c (st.lget h1) h2
theorem start_env {vs : List V} {es : List EV} {N : List Str} (r : RepEs G HF L vs es) : ∀ (i : Nat) (e : EV), (es.map some ++ List.replicate (N.length - es.length) none)[i]? = some (some e) → ∃ v, (L2.start N vs)[i]? = some (some v) ∧ RepE G HF L v e := by
  intro i e h
  have hi : i < es.length := by
    by_cases hi : i < es.length
    · exact hi
    · rw [List.getElem?_append_right (by simpa using hi), List.getElem?_replicate] at h
      split at h <;> cases h
  rw [List.getElem?_append_left (by simpa using hi), List.getElem?_map] at h
  have key : ∀ {es : List EV} {vs : List V} {i : Nat} {e : EV}, RepEs G HF L vs es → es[i]? = some e → ∃ v, vs[i]? = some v ∧ RepE G HF L v e := by
    intro es
    induction es with
    | nil => intro vs i e _ h; simp at h
    | cons x es ih =>
      intro vs i e r h
      cases r with
      | cons r1 r2 =>
        cases i with
        | zero => simp at h; subst h; exact ⟨_, rfl, r1⟩
        | succ i =>
          obtain ⟨v, g1, g2⟩ := ih r2 (i := i) (by simpa using h)
          exact ⟨v, by simpa using g1, g2⟩
  cases q : es[i]? with
  | none => rw [q] at h; cases h
  | some e' =>
    rw [q] at h
    cases h
    obtain ⟨v, g1, g2⟩ := key r q
    refine ⟨v, ?_, g2⟩
    unfold L2.start
    rw [List.getElem?_append_left (by rw [List.length_map, r.length]; exact hi), List.getElem?_map, g1]
    rfl
end
/-- the wish of a def's body about exceptions -/
abbrev WF (E : XK) : WD := ⟨fun cls d _ H => E cls d H, none⟩
theorem fnd_of {P : Program} {w : World} {G : Gd} {base : Heap} {x qual : Str} {st : Stmt} {f : Addr} {fd : FuncData} {N ps : List Str} {k n : Nat} {body : DSn} (F : Fun G.K x qual st f fd) (Sc : FnScope N ps (defScope st)) (hn : ps.length = n) (hnN : n ≤ N.length) (hG : G.xi = none := by rfl)
    (hbody : ∀ (cdv : Value) (A : Around) (outer : List PySem.Env) (s : Shared) (H : Hp) (E : XK), Room k (A.deeper (envOfC qual (defScope st) s.heap.objs.size f cdv)) →
      DSs (cxOf (L2.CX P w) P w G.K G.mg base N qual (defScope st) f cdv A outer s H E) (WF E) (defBody st) body) : FnOk P w G.K G.mg base (L2.CX P w) (k + 1) f fd ps (spD G n (denB N.length body)) := by
  obtain ⟨K, mg, xi⟩ := G
  obtain rfl : xi = none := hG
  refine F.okX Sc (fun vs H Q E h => h.1.trans hn.symm) fun cdv A outer s H vs Q E hr h => ⟨_, hbody cdv A outer s H E hr, ?_⟩
  obtain ⟨hl, HF, L, es, S, R, r, p⟩ := h
  have hle : es.length = n := by rw [← r.length]; exact hl
  refine ⟨HF, L, _, S, ⟨R.sub, R.nd, R.sl, R.liv, R.tab, R.nft, R.cell, ?_, start_env (N := N) r⟩, ?_⟩
  · unfold L2.start
    rw [List.length_append, List.length_append, List.length_map, List.length_map, List.length_replicate, List.length_replicate, r.length]
  · unfold denB at p
    cases q : body (es.map some ++ List.replicate (N.length - es.length) none) S with
    | bad => rw [q] at p; exact p.elim
    | ex x S' => rw [q] at p; exact p.elim
    | ok cr S' =>
      obtain ⟨c, ρ'⟩ := cr
      rw [q] at p
      intro σ' H' HF' L' st' R'
      obtain ⟨st2, R2⟩ := R.leave st' R'
      cases c with
      | nx => exact p .non H' HF' st2 R2 .non
      | rt d => exact fun v rv => p v H' HF' st2 R2 rv
      | ex x => exact fun cls dd ex => p cls dd H' HF' st2 R2 ex
      | bk => exact p.elim
      | ct => exact p.elim
theorem dfn_of {P : Program} {w : World} {G : Gd} {base : Heap} {x qual : Str} {st : Stmt} {f : Addr} {fd : FuncData} {N ps : List Str} {k n : Nat} {body : DSn} (F : Fun G.K x qual st f fd) (Sc : FnScope N ps (defScope st)) (hm : G.mg x = some (.ref f)) (hb : Binds G.K fd ps []) (hn : ps.length = n) (hnN : n ≤ N.length) (hG : G.xi = none)
    (hbody : ∀ (cdv : Value) (A : Around) (outer : List PySem.Env) (s : Shared) (H : Hp) (E : XK), Room k (A.deeper (envOfC qual (defScope st) s.heap.objs.size f cdv)) →
      DSs (cxOf (L2.CX P w) P w G.K G.mg base N qual (defScope st) f cdv A outer s H E) (WF E) (defBody st) body) : Dfn P w G base (k + 1) x n (denB N.length body) :=
  ⟨f, fd, ps, hm, F.kp, hb, hn, fnd_of F Sc hn hnN hG hbody⟩
end DL

namespace DL
open PySem PySem.Spec PyProof.Rows L2
theorem units65 {A : Around} {k : Nat} (hr : Room k A) : A.units + 65 < cLine := by have := hr.un; omega
theorem boot_len : bootBuiltins "len" = some (.builtin "len") := by decide +kernel
theorem boot_any : bootBuiltins "any" = some (.builtin "any") := by decide +kernel
theorem boot_all : bootBuiltins "all" = some (.builtin "all") := by decide +kernel
theorem boot_sorted : bootBuiltins "sorted" = some (.builtin "sorted") := by decide +kernel
theorem boot_max : bootBuiltins "max" = some (.builtin "max") := by decide +kernel
theorem boot_min : bootBuiltins "min" = some (.builtin "min") := by decide +kernel
theorem boot_sum : bootBuiltins "sum" = some (.builtin "sum") := by decide +kernel
theorem boot_abs : bootBuiltins "abs" = some (.builtin "abs") := by decide +kernel
theorem boot_int : bootBuiltins "int" = some (.type "int") := by decide +kernel
theorem boot_str : bootBuiltins "str" = some (.type "str") := by decide +kernel
theorem boot_bool : bootBuiltins "bool" = some (.type "bool") := by decide +kernel
theorem boot_tuple : bootBuiltins "tuple" = some (.type "tuple") := by decide +kernel
theorem boot_list : bootBuiltins "list" = some (.type "list") := by decide +kernel
theorem boot_dict : bootBuiltins "dict" = some (.type "dict") := by decide +kernel
section
variable {X : Cx} {W : WD} {pos : Pos} {a b c : Expr} {fa fb fc : DEn} {es : List Expr} {fs : DDn}
theorem xfnD {x : Str} {k n : Nat} {f : Den} (d : Dfn X.prog X.w (gd X W) X.base k x n f) (hg : Gl X x := by rfl) (hd : (x == ("__debug__" : Str)) = false := by decide) : DE X W (.Name x pos) (mC (.fn x)) := by
  obtain ⟨ad, fd, ps, h1, _⟩ := d.has
  exact xfn hg h1 hd
/-- a written negative number -/
theorem xneg {k : Nat} {i : Int} {p : Pos} : DE X W (.UnaryOp .USub (.Constant (.int i) k p) pos) (mC (.int (-i))) :=
  PE.imp (pe_un un_neg pe_int) fun σ H Q ⟨HF, L, ρ, S, R, p⟩ => ⟨_, rfl, p.done R .no (.int _)⟩
def mUSub (fa : DEn) : DEn := fun ρ S => (fa ρ S).bind fun x S1 => match x with
  | .int i => .ok (.int (-i)) S1
  | _ => .bad
theorem xusub (ha : DE X W a fa) : DE X W (.UnaryOp .USub a pos) (mUSub fa) :=
  PE.imp (pe_un un_neg ha) fun σ H Q ⟨HF, L, ρ, S, R, p⟩ => ⟨HF, L, ρ, S, R, Post.bind p fun x S1 v H1 HF1 L1 e1 st1 R1 r1 p1 => by
    split at p1
    · cases r1
      exact ⟨_, rfl, p1.done R1 .no (.int _)⟩
    · exact p1.elim⟩
/-- isinstance(x, (A, B)) -/
def isTy2 (d : D) (T U : String) : Option Bool := (isTy d T).bind fun k => if k = true then some true else isTy d U
def mIsT2 (T U : String) (fa : DEn) : DEn := fun ρ S => (fa ρ S).bind fun x S1 => lift ((isTy2 x T U).map D.bl) S1
theorem xisT2 {t u : Str} {T U : String} {p pt pu pp : Pos} {kk : Nat} (hm : X.mg "isinstance" = none) (hmT : X.mg t = none) (hvT : bootBuiltins t = some (.type T)) (hmU : X.mg u = none) (hvU : bootBuiltins u = some (.type U)) (ha : DE X W a fa) (hg : Gl X "isinstance" := by rfl)
    (hgT : Gl X t := by rfl) (hnT : t ≠ "__name__" := by decide) (hdT : (t == ("__debug__" : Str)) = false := by decide) (hgU : Gl X u := by rfl) (hnU : u ≠ "__name__" := by decide) (hdU : (u == ("__debug__" : Str)) = false := by decide)
    (he : starEach [a, .Tuple [.Name t pt, .Name u pu] kk pp] X.env = (false, eval a X.env) :: starEach [.Tuple [.Name t pt, .Name u pu] kk pp] X.env := by rfl) (he2 : starEach [.Tuple [.Name t pt, .Name u pu] kk pp] X.env = (false, eval (.Tuple [.Name t pt, .Name u pu] kk pp) X.env) :: starEach [] X.env := by rfl)
    (he3 : starEach [Expr.Name t pt, .Name u pu] X.env = (false, eval (.Name t pt) X.env) :: starEach [.Name u pu] X.env := by rfl) (he4 : starEach [Expr.Name u pu] X.env = (false, eval (.Name u pu) X.env) :: starEach [] X.env := by rfl)
    (hpl : (backTo pos (starEach [.Tuple [.Name t pt, .Name u pu] kk pp] X.env)).any (·.1) = false := by rfl) :
    DE X W (.Call (.Name "isinstance" p) [a, .Tuple [.Name t pt, .Name u pu] kk pp] [] pos) (mIsT2 T U fa) :=
  PE.imp (pe_callB call_isiT hg hm PyProof.Rows.boot_isinstance (pa_cons ha (pa_cons (pe_tup (pa_cons (pe_bltn (v := .ty T) hgT hmT hvT rfl hnT hdT) (pa_cons (pe_bltn (v := .ty U) hgU hmU hvU rfl hnU hdU) pa_nil he4) he3)) pa_nil he2) he) (by decide) (by decide) he hpl) fun σ H Q ⟨HF, L, ρ, S, R, p⟩ => ⟨HF, L, ρ, S, R, Post.bind p fun x S1 v H1 HF1 L1 e1 st1 R1 r1 p1 => by
    obtain ⟨d, ed, p2⟩ := p1.lift
    refine ⟨by show 2 ≤ sizeLine; decide, fun q hq => ?_⟩
    have R2 := (R1.frozen (o := .tup [.ty T, .ty U]) hq).1
    have ru := Rep.mono (same_upd (o := .tup [.ty T, .ty U]) (R1.hf hq)) r1
    cases et : x.ty with
    | none => unfold isTy2 isTy at ed; rw [et] at ed; cases ed
    | some tt =>
      cases ek : kitB tt T with
      | none => unfold isTy2 isTy at ed; rw [et] at ed; simp only [Option.bind_some, ek, Option.bind_none] at ed; cases ed
      | some k =>
        cases k with
        | true =>
          have e2 : d = .bl true := by
            unfold isTy2 isTy at ed; rw [et] at ed; simp only [Option.bind_some, ek, if_pos rfl] at ed; cases ed; rfl
          subst e2
          exact ⟨v, q, [.ty T, .ty U], .type tt, [.type T, .type U], true, rfl, upd_same, .cons (.ty T) (.cons (.ty U) .nil), ru.ty R2.sub et, kitAny_cons (kit_ty ek) (fun z => nomatch z) (fun _ => rfl), p2.done R1 (.new hq) (.bl true)⟩
        | false =>
          cases ek2 : kitB tt U with
          | none => unfold isTy2 isTy at ed; rw [et] at ed; simp only [Option.bind_some, ek, ek2, if_neg Bool.false_ne_true] at ed; cases ed
          | some k2 =>
            have e2 : d = .bl k2 := by
              unfold isTy2 isTy at ed; rw [et] at ed; simp only [Option.bind_some, ek, ek2, if_neg Bool.false_ne_true] at ed; cases ed; rfl
            subst e2
            exact ⟨v, q, [.ty T, .ty U], .type tt, [.type T, .type U], k2, rfl, upd_same, .cons (.ty T) (.cons (.ty U) .nil), ru.ty R2.sub et, kitAny_cons (kit_ty ek) (fun _ => kitAny_cons (kit_ty ek2) (fun e => by rw [e]; rfl) (fun e => e)) (fun z => nomatch z), p2.done R1 (.new hq) (.bl k2)⟩⟩
/-- x in cell, and its like -/
def mCmpR (i : Nat) (g : D → D → Option Bool) (fa : DEn) : DTn := fun ρ S => (fa ρ S).bind fun y S1 => match ρ[i]? with
  | some (some (.cel n)) => match S1[n]? with
    | some (some (.lst ds)) => lift (g y (.lst ds)) S1
    | _ => .bad
  | _ => .bad
theorem tT.celR {i : Nat} {r : R2} {g : D → D → Option Bool} (hs : CmS (gd X W) r g) {σ : L2.St} {H : Hp} {Q : Bool → Hp → Prop} {Qv : VK} (h : tT (gd X W) W (mCmpR i g fa) σ H Q) (hq : ∀ b H', Q b H' → Qv (.bl b) H') :
    tOp r (tD (gd X W) W fa) (tVar i) σ H Qv := by
  obtain ⟨HF, L, ρ, S, R, p⟩ := h
  refine ⟨HF, L, ρ, S, R, Post.bind p fun y S1 w H1 HF1 L1 e1 st1 R1 r1 p1 => ?_⟩
  split at p1
  · rename_i n hn
    split at p1
    · rename_i ds hS
      obtain ⟨b, eb, p2⟩ := p1.lift
      obtain ⟨v, hv1, pa, hp1, hp2⟩ := R1.env i _ hn
      subst hp2
      obtain ⟨HB, s1, s2, rb⟩ := lend R1 hp1 hS
      exact ⟨_, hv1, hs y (.lst ds) w (.ref pa) H1 HB b Qv s1 (Rep.mono s2 r1) rb eb (hq b H1 (p2.done R1 .no rfl))⟩
    · exact p1.elim
  · exact p1.elim
theorem xcmpR {op : CmpOp} (i : Nat) {x : Str} {px : Pos} {g : D → D → Option Bool} (o : CmpO X W op g) (ha : DE X W a fa) (hm : behindInMarks op (.Name x px) = false := by first | rfl | exact nomark _) (hN : X.N[i]? = some x := by rfl) (hv : Vis X.env.scope x := by first | exact Or.inl rfl | exact Or.inr (Or.inl rfl) | exact Or.inr (Or.inr rfl)) (hd : (x == ("__debug__" : Str)) = false := by decide)
    (hcd : (x == ("__classdict__" : Str)) = false := by decide) : DE X W (.Compare a [op] [.Name x px] pos) (mB (mCmpR i g fa)) := by
  obtain ⟨r, h1, h2⟩ := o.has
  exact PE.imp (pe_cmpR h1 ha (pe_var (i := i) hN hv hd hcd) hm) fun σ H Q h => tT.celR h2 (tD.mB h) fun _ _ q => q
theorem ycmpR {op : CmpOp} (i : Nat) {x : Str} {px : Pos} {g : D → D → Option Bool} (o : CmpO X W op g) (ha : DE X W a fa) (hm : behindInMarks op (.Name x px) = false := by first | rfl | exact nomark _) (hN : X.N[i]? = some x := by rfl) (hv : Vis X.env.scope x := by first | exact Or.inl rfl | exact Or.inr (Or.inl rfl) | exact Or.inr (Or.inr rfl)) (hd : (x == ("__debug__" : Str)) = false := by decide)
    (hcd : (x == ("__classdict__" : Str)) = false := by decide) : DT X W (.Compare a [op] [.Name x px] pos) (mCmpR i g fa) := by
  obtain ⟨r, h1, h2⟩ := o.has
  exact PT.imp (pt_cmpR h1 ha (pe_var (i := i) hN hv hd hcd) hm) fun σ H Q h => tT.celR h2 h fun b _ q => ⟨b, rfl, q⟩
/-- sorted of a list of intsOf -/
def insI (x : Int) : List Int → List Int
  | [] => [x]
  | y :: r => if x ≤ y then x :: y :: r else y :: insI x r
def sortI : List Int → List Int
  | [] => []
  | x :: r => insI x (sortI r)
theorem insI_perm (x : Int) : ∀ r : List Int, (insI x r).Perm (x :: r)
  | [] => .refl _
  | y :: r => by
    unfold insI
    split
    · exact .refl _
    · exact (List.Perm.cons y (insI_perm x r)).trans (.swap x y r)
theorem sortI_perm : ∀ r : List Int, (sortI r).Perm r
  | [] => .refl _
  | x :: r => (insI_perm x _).trans (.cons x (sortI_perm r))
theorem insI_sorted {x : Int} : ∀ {r : List Int}, r.Pairwise (· ≤ ·) → (insI x r).Pairwise (· ≤ ·)
  | [], _ => by simp [insI]
  | y :: r, h => by
    obtain ⟨h1, h2⟩ := List.pairwise_cons.mp h
    unfold insI
    split
    · rename_i hc
      refine List.pairwise_cons.mpr ⟨fun z hz => ?_, h⟩
      rcases List.mem_cons.mp hz with e | hz
      · rw [e]; exact hc
      · exact Int.le_trans hc (h1 z hz)
    · rename_i hc
      refine List.pairwise_cons.mpr ⟨fun z hz => ?_, insI_sorted h2⟩
      rcases List.mem_cons.mp ((insI_perm x r).mem_iff.mp hz) with e | hz
      · rw [e]; omega
      · exact h1 z hz
theorem sortI_sorted : ∀ r : List Int, (sortI r).Pairwise (· ≤ ·)
  | [] => .nil
  | x :: r => insI_sorted (sortI_sorted r)
def intsOf : List D → Option (List Int)
  | [] => some []
  | .int i :: r => (intsOf r).map (i :: ·)
  | _ => none
theorem Reps.intsOf {G : Gd} {HF : Hp} : ∀ {ds : List D} {vs : List V} {is : List Int}, Reps G HF vs ds → DL.intsOf ds = some is → vs = is.map V.int
  | [], _, _, h, e => by cases h; cases e; rfl
  | .int i :: ds, _, is, h, e => by
    cases h with
    | cons h1 h2 =>
      cases h1
      have e : (DL.intsOf ds).map (i :: ·) = some is := e
      cases q : DL.intsOf ds with
      | none => rw [q] at e; cases e
      | some is' =>
        rw [q] at e
        cases e
        rw [Reps.intsOf h2 q]
        rfl
  | .non :: ds, _, _, _, e => by cases e
  | .bl _ :: ds, _, _, _, e => by cases e
  | .str _ :: ds, _, _, _, e => by cases e
  | .tup _ :: ds, _, _, _, e => by cases e
  | .lst _ :: ds, _, _, _, e => by cases e
  | .rol _ :: ds, _, _, _, e => by cases e
  | .fn _ :: ds, _, _, _, e => by cases e
theorem reps_ints {G : Gd} {HF : Hp} : ∀ is : List Int, Reps G HF (is.map V.int) (is.map D.int)
  | [] => .nil
  | i :: is => .cons (.int i) (reps_ints is)
def gSorted : List D → Option D
  | [.lst ds] => (intsOf ds).map fun is => .lst ((sortI is).map D.int)
  | _ => none
theorem biSorted : BiO X W (.builtin "sorted") gSorted := by
  refine ⟨_, cr_sortedI, fun xs vs H HF d Q sub r e q => ?_⟩
  unfold gSorted at e
  split at e
  · rename_i ds
    obtain ⟨v, rfl, h⟩ := r.one
    cases h with
    | lst h1 h2 =>
      cases eb : intsOf ds with
      | none => rw [eb] at e; cases e
      | some is =>
        rw [eb] at e
        cases e
        have ev := h2.intsOf eb
        subst ev
        refine ⟨_, is, rfl, SqL.of (sub _ _ h1), fun ns' p hp hs hn => ?_⟩
        have en : ns' = sortI is := PySem.W.ksm_same (hp.trans (sortI_perm is).symm) hs (sortI_sorted is)
        subst en
        exact q _ _ _ (.new hn) (.lst upd_same (reps_ints _))
  · cases e
end
/-! ### constants of the module -/
theorem kon_int {G : Gd} {x : Str} {i : Int} {t : Tok} (h : G.mg x = some (.int i t)) : Kon G x (.int i) := ⟨.int i, _, h, ⟨t, rfl⟩, fun _ => .int i⟩
theorem kon_tup {G : Gd} {x : Str} {ad : Addr} {dd : Option Addr} {us : List Value} {vs : List V} {ds : List D} {n : Nat} {sl : Array (Option Value)} (h : G.mg x = some (.ref ad)) (l : G.K.lookup ad = some ⟨.type "tuple", dd, .seq us.toArray n, sl⟩)
    (hv : Vals vs us) (hl : us.length ≤ lim) (r : ∀ HF, Reps G HF vs ds) : Kon G x (.tup ds) :=
  ⟨.ref ad, _, h, rfl, fun HF => .tup (.inr ⟨_, us.toArray, n, l, rfl, rfl, by rw [List.size_toArray]; exact Nat.le_trans hl lim_le, by simpa using hv⟩) (r HF)⟩
/-! ### a law -/
def spLaw (K : PySem.W.Frag) : Sp := fun vs H Q _ => ∃ (a : Addr) (ns : List Int), vs = [.ref a] ∧ SqL K H a (ns.map V.int) ∧ ns.length ≤ 63 ∧ (∀ p ∈ tabsOf K, H p.1 = some (.tbl #[])) ∧ ∀ H', Q (.bl true) H'
def noTbl (H : Hp) : Hp := fun b => match H b with
  | some (.tbl _) => none
  | o => o
theorem noTbl_of {H : Hp} {b : Addr} {o : HO} (h : H b = some o) (ho : Nt o) : noTbl H b = some o := by
  unfold noTbl
  rw [h]
  split
  · rename_i e; cases e; exact absurd rfl (ho _)
  · rfl
theorem noTbl_rd {H : Hp} {a : Addr} {u : HO} (h : Rd H a u) (hu : Nt u) : Rd (noTbl H) a u := by
  rcases h with h | ⟨o, h⟩
  · exact .inl (noTbl_of h hu)
  · exact .inr ⟨o, noTbl_of h (fun _ z => by cases z)⟩
theorem law_fn {P : Program} {w : World} {G : Gd} {base : Heap} {k : Nat} {f : Den} {fa : Addr} {fd : FuncData} {ps : List Str} (h5 : FnOk P w G.K G.mg base (L2.CX P w) k fa fd ps (spD G 1 f))
    (hlaw : ∀ ns : List Int, ns.length ≤ 63 → ∃ S', f [.v (.rol (ns.map D.int))] [] = .ok (.bl true) S') : FnOk P w G.K G.mg base (L2.CX P w) k fa fd ps (spLaw G.K) := by
  refine h5.imp fun vs H Q E ⟨ad, ns, e1, e2, e3, hP, e4⟩ => ?_
  subst e1
  obtain ⟨S', hS⟩ := hlaw ns e3
  have tab : TabG G H (noTbl H) := fun p hp => ⟨#[], hP p hp, True.intro, fun pos cv hc => by
    have z : codeAmong pos [] = some cv := hc
    simp [codeAmong] at z⟩
  have s0 : Same (noTbl H) H := fun b o e => by
    unfold noTbl at e
    split at e
    · cases e
    · exact e
  have e2' : SqL G.K (noTbl H) ad (ns.map V.int) := by
    rcases e2 with h | h
    · exact .inl (noTbl_rd h (fun _ z => by cases z))
    · exact .inr h
  refine ⟨rfl, noTbl H, [], [.v (.rol (ns.map D.int))], [], ⟨s0, by simp, rfl, by simp, tab, fun b ps e => ?_, fun n a c h => by simp at h, rfl, fun i e h => by simp at h⟩, .cons (.rol e2' (reps_ints ns)) .nil, ?_⟩
  · unfold noTbl at e
    split at e
    · cases e
    · rename_i h; exact h _ e
  rw [hS]
  intro v H' HF' st R r
  have r : Rep G HF' v (.bl true) := r
  cases r
  exact e4 H'
theorem noCX {P : Program} {w : World} (H : Hp) (s : Shared) (e : Value) (s' : Shared) (h : L2.CX P w [] H s (fun _ _ _ => False) e s') : False := by
  obtain ⟨_, _, _, _, _, _, _, _, _, _, _, _, z⟩ := h
  exact z
end DL
namespace DL
open PySem PySem.Spec PyProof.Rows L2
/-- another maker than the law: its code object is written, its table among those that stay empty through the top -/
def mkOk (K : PySem.W.Frag) (ts : List Addr) (x : Str) : Bool := match PySem.W.tabIn K x with
  | some (c, P) => PySem.W.codeHdIn K c P && ts.contains P
  | none => true
theorem walk {ts : List Addr} {l : PySem.W.OpenLaw} {q : Program} {loose : List Str} {XP : (Str → Option Value) → Heap → Prop} {YP : World → Heap → Prop} {d d' : DefRec} {K : Params → PySem.W.Frag} {k : Nat} (hn : l.most = some 63) (hdf : d.params.defaults = []) (hr : Room k callerA)
    (hY : ∀ (w : World) (h : Heap), YP w h → (K w.params).In h) (hYt : ∀ (w : World) (h : Heap), YP w h → ∀ P ∈ ts, h.get? P = some (PySem.W.tabObj #[])) (hq : (recsOf q).find? (fun e => e.name == ("law" : Str)) = some d')
    (F : ∀ (w : World) (mg : Str → Option Value) (fa : Addr) (h : Heap), (K w.params).In h → h.Ns mainGlobals mg → mg d.name = some (.ref fa) →
      ∃ fd : FuncData, (∀ m ∈ makers, m.1 = "law" ∨ mkOk (K w.params) ts m.1 = true) ∧ PySem.W.noTabs (K w.params) = true ∧ (∀ (s : Shared) (u : Value), BindsTo s fd ⟨[u], []⟩ [("script", u)]) ∧ ∀ base : Heap, (K w.params).In base → base.Ns mainGlobals mg → (∀ m ∈ makers, ∀ c P, PySem.W.tabIn (K w.params) m.1 = some (c, P) → LamX.TabB base mg c P) → FnOk l.prog w (K w.params) mg base (L2.CX l.prog w) k fa fd ["script"] (spLaw (K w.params))) :
    PySem.W.WalkO q loose XP YP l.row.toRowW d [] (fun f vs => PySem.call f vs) := by
  refine Att.attach_callB hn hdf fun w s₀ s₁ mg mb fa o pm cd doc a vs ns G Y ho hd hcd hmg hobj hints hlen hbits hg => ?_
  have KX := hY w _ Y
  obtain ⟨fd, hms, hK, hb, hF⟩ := F w mg fa _ KX G.T.g hmg
  let cs : List (Addr × Addr) := makers.filterMap fun m => PySem.W.tabIn (K w.params) m.1
  have all : ∀ p ∈ cs, PySem.W.CodeHd s₁.heap p.1 p.2 ∧ s₁.heap.get? p.2 = some (PySem.W.tabObj #[]) := fun p hp => by
    obtain ⟨m, hm, e⟩ := List.mem_filterMap.mp hp
    rcases hms m hm with h | h
    · rw [h] at e
      exact PySem.W.tab_of G.T KX hq e
    · unfold mkOk at h
      rw [e] at h
      obtain ⟨h1, h2⟩ := Bool.and_eq_true_iff.mp h
      exact ⟨PySem.W.codeHd_of_K KX h1, hYt w _ Y _ (by simpa using h2)⟩
  have nT : ∀ p ∈ cs, (K w.params).lookup p.2 = none := fun p hp => by
    cases e : (K w.params).lookup p.2 with
    | none => rfl
    | some u =>
      have e1 := KX p.2 u e
      rw [(all p hp).2] at e1
      cases e1
      have h2 := List.all_eq_true.mp hK (p.2, _) (PySem.W.mem_of_lookupK e)
      exact absurd (show false = true from h2) Bool.false_ne_true
  refine LamX.law_callTs (cs := cs) KX G.T.g G.T.b G.T.builtins G.T.nolimit hg (fun p hp => (all p hp).2) nT (fun p hp => (all p hp).1) G.T.bmain hobj hints (Nat.le_trans hlen (by decide)) hr
    (fun base h1 h2 h3 => hF base h1 h2 fun m hm c P e => h3 (c, P) (List.mem_filterMap.mpr ⟨m, hm, e⟩)) hb (fun H hH hS => ⟨a, ns, rfl, hS, hlen, fun p hp => ?_, fun _ => rfl⟩) fun H e s' => noCX H s₁ e s'
  obtain ⟨x, c, hx, e⟩ := tabsOf_of hp
  exact hH (c, p.1) (List.mem_filterMap.mpr ⟨_, hx, e⟩)
end DL

/-! the layer of data: what the pieces are worth, one row a piece (for simp) -/
namespace DL
open PySem L2
section
variable {α β : Type} {a : α} {S : Store} {x : Exn} {k : α → Store → Out β} {ρ : DL.Env} {ks : α → Store → Out (Ctl × DL.Env)}
@[simp] theorem ev_bind_ok : (Out.ok a S).bind k = k a S := rfl
@[simp] theorem ev_bind_ex : (Out.ex x S : Out α).bind k = .ex x S := rfl
@[simp] theorem ev_bind_bad : (Out.bad : Out α).bind k = .bad := rfl
@[simp] theorem ev_bd_ok : (Out.ok a S).bd k = k a S := rfl
@[simp] theorem ev_lift_some : lift (some a) S = .ok a S := rfl
@[simp] theorem ev_lift_none : lift (none : Option α) S = .bad := rfl
@[simp] theorem ev_bindS_ok : bindS (.ok a S) ρ ks = ks a S := rfl
@[simp] theorem ev_bindS_ex : bindS (.ex x S : Out α) ρ ks = .ok (.ex x, ρ) S := rfl
end
section
variable {ρ : DL.Env} {S : Store} {fa fb fc : DEn} {ta tb : DTn} {fs : DDn} {i j l : Nat} {d : D} {g g' : D → D → Option D} {c c' : D → D → Option Bool}
theorem ev_var (h : ρ[i]? = some (some (.v d))) : mVar i ρ S = .ok d S := by unfold mVar; rw [h]
@[simp] theorem ev_var0 {r : DL.Env} : mVar 0 (some (.v d) :: r) S = .ok d S := rfl
@[simp] theorem ev_varS {r : DL.Env} {o : Option EV} : mVar (i + 1) (o :: r) S = mVar i r S := rfl
@[simp] theorem ev_C : mC d ρ S = .ok d S := rfl
@[simp] theorem ev_Op : mOp g fa fb ρ S = (fa ρ S).bind fun x S1 => (fb ρ S1).bind fun y S2 => lift (g x y) S2 := rfl
@[simp] theorem ev_Cmp : mCmp c fa fb ρ S = (fa ρ S).bind fun x S1 => (fb ρ S1).bind fun y S2 => lift (c x y) S2 := rfl
@[simp] theorem ev_B : mB ta ρ S = (ta ρ S).bind fun b S1 => .ok (.bl b) S1 := rfl
@[simp] theorem ev_Chain : mChain c c' fa fb fc ρ S = (fa ρ S).bind fun x S1 => (fb ρ S1).bind fun y S2 => (lift (c x y) S2).bind fun k S3 => if k = true then (fc ρ S3).bind fun z S4 => lift (c' y z) S4 else .ok false S3 := rfl
@[simp] theorem ev_And : mAnd fa fb ρ S = (fa ρ S).bind fun x S1 => (lift x.isB S1).bind fun k S2 => if k = true then fb ρ S2 else .ok (.bl false) S2 := rfl
@[simp] theorem ev_Or : mOr fa fb ρ S = (fa ρ S).bind fun x S1 => (lift x.isB S1).bind fun k S2 => if k = true then .ok (.bl true) S2 else fb ρ S2 := rfl
@[simp] theorem ev_Not : mNot fa ρ S = (fa ρ S).bind fun x S1 => (lift x.isB S1).bind fun k S2 => .ok (.bl (!k)) S2 := rfl
@[simp] theorem ev_isB {b : Bool} : D.isB (.bl b) = some b := rfl
@[simp] theorem ev_AndT : mAndT ta tb ρ S = (ta ρ S).bind fun k S1 => if k = true then tb ρ S1 else .ok false S1 := rfl
@[simp] theorem ev_OrT : mOrT ta tb ρ S = (ta ρ S).bind fun k S1 => if k = true then .ok true S1 else tb ρ S1 := rfl
@[simp] theorem ev_NotT : mNotT ta ρ S = (ta ρ S).bind fun k S1 => .ok (!k) S1 := rfl
@[simp] theorem ev_Tru : mTru fa ρ S = (fa ρ S).bind fun x S1 => lift x.tru S1 := rfl
@[simp] theorem ev_truB {b : Bool} : D.tru (.bl b) = some b := rfl
@[simp] theorem ev_If : mIf ta fa fb ρ S = (ta ρ S).bind fun k S1 => if k = true then fa ρ S1 else fb ρ S1 := rfl
@[simp] theorem ev_Nil : mNil ρ S = .ok [] S := rfl
@[simp] theorem ev_Cons : mCons fa fs ρ S = (fa ρ S).bind fun x S1 => (fs ρ S1).bind fun xs S2 => .ok (x :: xs) S2 := rfl
@[simp] theorem ev_Tup : mTup fs ρ S = (fs ρ S).bind fun xs S1 => if xs.length ≤ lim then .ok (.tup xs) S1 else .bad := rfl
@[simp] theorem ev_Lst : mLst fs ρ S = (fs ρ S).bind fun xs S1 => if xs.length ≤ lim then .ok (.lst xs) S1 else .bad := rfl
@[simp] theorem ev_Bi {gg : List D → Option D} : mBi gg fs ρ S = (fs ρ S).bind fun xs S1 => lift (gg xs) S1 := rfl
@[simp] theorem ev_Sl {fl fh : DOn} : mSl fa fl fh ρ S = (fa ρ S).bind fun x S1 => (fl ρ S1).bind fun l S2 => (fh ρ S2).bind fun h S3 => lift (gSl x l h) S3 := rfl
@[simp] theorem ev_NoPart : mNoPart ρ S = .ok none S := rfl
theorem ev_Part : mPart fa ρ S = (fa ρ S).bind fun x S1 => match x with
  | .int i => .ok (some i) S1
  | _ => .bad := rfl
@[simp] theorem ev_PartC {n : Int} : mPart (mC (.int n)) ρ S = .ok (some n) S := rfl
@[simp] theorem ev_IsT {T : String} : mIsT T fa ρ S = (fa ρ S).bind fun x S1 => lift ((isTy x T).map D.bl) S1 := rfl
@[simp] theorem ev_IsT2 {T U : String} : mIsT2 T U fa ρ S = (fa ρ S).bind fun x S1 => lift ((isTy2 x T U).map D.bl) S1 := rfl
/-! types -/
theorem kb_is : kitB "int" "str" = some false := by decide +kernel
theorem kb_ii : kitB "int" "int" = some true := by decide +kernel
theorem kb_ib : kitB "int" "bool" = some false := by decide +kernel
theorem kb_it : kitB "int" "tuple" = some false := by decide +kernel
theorem kb_il : kitB "int" "list" = some false := by decide +kernel
theorem kb_ss : kitB "str" "str" = some true := by decide +kernel
theorem kb_si : kitB "str" "int" = some false := by decide +kernel
theorem kb_sb : kitB "str" "bool" = some false := by decide +kernel
theorem kb_st : kitB "str" "tuple" = some false := by decide +kernel
theorem kb_sl : kitB "str" "list" = some false := by decide +kernel
theorem kb_bs : kitB "bool" "str" = some false := by decide +kernel
theorem kb_bi : kitB "bool" "int" = some true := by decide +kernel
theorem kb_bb : kitB "bool" "bool" = some true := by decide +kernel
theorem kb_bt : kitB "bool" "tuple" = some false := by decide +kernel
theorem kb_bl : kitB "bool" "list" = some false := by decide +kernel
theorem kb_ts : kitB "tuple" "str" = some false := by decide +kernel
theorem kb_ti : kitB "tuple" "int" = some false := by decide +kernel
theorem kb_tb : kitB "tuple" "bool" = some false := by decide +kernel
theorem kb_tt : kitB "tuple" "tuple" = some true := by decide +kernel
theorem kb_tl : kitB "tuple" "list" = some false := by decide +kernel
theorem kb_ls : kitB "list" "str" = some false := by decide +kernel
theorem kb_li : kitB "list" "int" = some false := by decide +kernel
theorem kb_lb : kitB "list" "bool" = some false := by decide +kernel
theorem kb_lt : kitB "list" "tuple" = some false := by decide +kernel
theorem kb_ll : kitB "list" "list" = some true := by decide +kernel
theorem kb_ns : kitB "NoneType" "str" = some false := by decide +kernel
theorem kb_ni : kitB "NoneType" "int" = some false := by decide +kernel
theorem kb_nb : kitB "NoneType" "bool" = some false := by decide +kernel
theorem kb_nt : kitB "NoneType" "tuple" = some false := by decide +kernel
theorem kb_nl : kitB "NoneType" "list" = some false := by decide +kernel
variable {n : Int} {z : Str} {b : Bool} {ds : List D}
@[simp] theorem ty_is : isTy (.int n) "str" = some false := kb_is
@[simp] theorem ty_ii : isTy (.int n) "int" = some true := kb_ii
@[simp] theorem ty_ib : isTy (.int n) "bool" = some false := kb_ib
@[simp] theorem ty_it : isTy (.int n) "tuple" = some false := kb_it
@[simp] theorem ty_il : isTy (.int n) "list" = some false := kb_il
@[simp] theorem ty_ss : isTy (.str z) "str" = some true := kb_ss
@[simp] theorem ty_si : isTy (.str z) "int" = some false := kb_si
@[simp] theorem ty_sb : isTy (.str z) "bool" = some false := kb_sb
@[simp] theorem ty_st : isTy (.str z) "tuple" = some false := kb_st
@[simp] theorem ty_sl : isTy (.str z) "list" = some false := kb_sl
@[simp] theorem ty_bs : isTy (.bl b) "str" = some false := kb_bs
@[simp] theorem ty_bi : isTy (.bl b) "int" = some true := kb_bi
@[simp] theorem ty_bb : isTy (.bl b) "bool" = some true := kb_bb
@[simp] theorem ty_bt : isTy (.bl b) "tuple" = some false := kb_bt
@[simp] theorem ty_bl : isTy (.bl b) "list" = some false := kb_bl
@[simp] theorem ty_ts : isTy (.tup ds) "str" = some false := kb_ts
@[simp] theorem ty_ti : isTy (.tup ds) "int" = some false := kb_ti
@[simp] theorem ty_tb : isTy (.tup ds) "bool" = some false := kb_tb
@[simp] theorem ty_tt : isTy (.tup ds) "tuple" = some true := kb_tt
@[simp] theorem ty_tl : isTy (.tup ds) "list" = some false := kb_tl
@[simp] theorem ty_ls : isTy (.lst ds) "str" = some false := kb_ls
@[simp] theorem ty_li : isTy (.lst ds) "int" = some false := kb_li
@[simp] theorem ty_lb : isTy (.lst ds) "bool" = some false := kb_lb
@[simp] theorem ty_lt : isTy (.lst ds) "tuple" = some false := kb_lt
@[simp] theorem ty_ll : isTy (.lst ds) "list" = some true := kb_ll
@[simp] theorem ty_ns : isTy .non "str" = some false := kb_ns
@[simp] theorem ty_ni : isTy .non "int" = some false := kb_ni
@[simp] theorem ty_nb : isTy .non "bool" = some false := kb_nb
@[simp] theorem ty_nt : isTy .non "tuple" = some false := kb_nt
@[simp] theorem ty_nl : isTy .non "list" = some false := kb_nl
/-! operations -/
variable {m k : Int} {xs ys : List D} {u v : Str}
@[simp] theorem g_add : gAdd (.int m) (.int n) = some (.int (m + n)) := rfl
@[simp] theorem g_sub : gSub (.int m) (.int n) = some (.int (m - n)) := rfl
theorem g_mod (h : 0 < n) : gMod (.int m) (.int n) = some (.int (m % n)) := if_pos h
theorem g_div (h : 0 < n ∧ n < 1073741824) : gDiv (.int m) (.int n) = some (.int (m / n)) := if_pos h
theorem g_mul (h : n.natAbs < 18446744073709551616) : gMul (.int m) (.int n) = some (.int (m * n)) := if_pos (.inr h)
theorem g_mulL (h : m.natAbs < 18446744073709551616) : gMul (.int m) (.int n) = some (.int (m * n)) := if_pos (.inl h)
theorem g_addT (h : xs.length + ys.length ≤ lim) : gAdd (.tup xs) (.tup ys) = some (.tup (xs ++ ys)) := if_pos h
theorem g_addL (h : xs.length + ys.length ≤ lim) : gAdd (.lst xs) (.lst ys) = some (.lst (xs ++ ys)) := if_pos h
@[simp] theorem g_i {p : Int → Int → Bool} : gI p (.int m) (.int n) = some (p m n) := rfl
@[simp] theorem g_ixT : gIx (.tup ds) (.int n) = atI ds n := rfl
@[simp] theorem g_ixL : gIx (.lst ds) (.int n) = atI ds n := rfl
@[simp] theorem g_ixR : gIx (.rol ds) (.int n) = atI ds n := rfl
@[simp] theorem g_lenT : gLen [.tup ds] = some (.int ds.length) := rfl
@[simp] theorem g_lenL : gLen [.lst ds] = some (.int ds.length) := rfl
@[simp] theorem g_lenR : gLen [.rol ds] = some (.int ds.length) := rfl
@[simp] theorem g_int : gInt [.int n] = some (.int n) := rfl
@[simp] theorem g_itemsT : D.items (.tup ds) = some ds := rfl
@[simp] theorem g_itemsL : D.items (.lst ds) = some ds := rfl
@[simp] theorem g_itemsR : D.items (.rol ds) = some ds := rfl
@[simp] theorem g_tupT : gTuple [.tup ds] = some (.tup ds) := rfl
@[simp] theorem g_tupL : gTuple [.lst ds] = some (.tup ds) := rfl
@[simp] theorem g_slT {lo hi : Option Int} : gSl (.tup ds) lo hi = some (.tup (cutD ds lo hi)) := rfl
@[simp] theorem g_slL {lo hi : Option Int} : gSl (.lst ds) lo hi = some (.lst (cutD ds lo hi)) := rfl
@[simp] theorem g_zipT : gZip (.tup xs) (.tup ys) = some (zipD xs ys) := rfl
/-! == -/
@[simp] theorem deq_ii : deq (.int m) (.int n) = (m == n) := rfl
@[simp] theorem deq_ss : deq (.str u) (.str v) = (u == v) := rfl
@[simp] theorem deq_is : deq (.int m) (.str v) = false := rfl
@[simp] theorem deq_si : deq (.str u) (.int m) = false := rfl
@[simp] theorem flat_i : D.flat (.int n) = true := rfl
@[simp] theorem flat_s : D.flat (.str u) = true := rfl
theorem okd_i : D.okd (.int n) = true := rfl
theorem deqs : ∀ (xs ys : List D), PyData.eqvAll (D.pys xs) (D.pys ys) = (decide (xs.length = ys.length) && (List.zipWith deq xs ys).all id)
  | [], [] => rfl
  | [], y :: ys => rfl
  | x :: xs, [] => rfl
  | x :: xs, y :: ys => by
    show (deq x y && PyData.eqvAll (D.pys xs) (D.pys ys)) = _
    rw [deqs xs ys]
    simp only [List.length_cons, List.zipWith_cons_cons, List.all_cons, id]
    rw [show (decide (xs.length + 1 = ys.length + 1)) = decide (xs.length = ys.length) by simp]
    cases deq x y <;> cases decide (xs.length = ys.length) <;> rfl
theorem deq_tt : deq (.tup xs) (.tup ys) = (decide (xs.length = ys.length) && (List.zipWith deq xs ys).all id) := deqs xs ys
theorem deq_ll : deq (.lst xs) (.lst ys) = (decide (xs.length = ys.length) && (List.zipWith deq xs ys).all id) := deqs xs ys
end
/-! statements -/
section
variable {ρ : DL.Env} {S : Store} {fa fb : DEn} {fv : DVn} {f g : DSn} {t : DTn} {i j : Nat} {d : D} {fs : DAn} {fi : DDn}
@[simp] theorem ev_Skip : mSkip ρ S = .ok (.nx, ρ) S := rfl
@[simp] theorem ev_Ret : mRet fa ρ S = bindS (fa ρ S) ρ fun d S1 => .ok (.rt d, ρ) S1 := rfl
@[simp] theorem ev_RetN : mRetN ρ S = .ok (.rt .non, ρ) S := rfl
@[simp] theorem ev_Drop : mDrop fa ρ S = bindS (fa ρ S) ρ fun _ S1 => .ok (.nx, ρ) S1 := rfl
@[simp] theorem ev_IfS : mIfS t f g ρ S = bindS (t ρ S) ρ fun k S1 => if k = true then f ρ S1 else g ρ S1 := rfl
@[simp] theorem ev_Set : mSet i fv ρ S = bindS (fv ρ S) ρ fun e S1 => .ok (.nx, ρ.set i (some e)) S1 := rfl
@[simp] theorem ev_SetLc : mSetLc i fa ρ S = bindS (fa ρ S) ρ fun d S1 => .ok (.nx, ρ.set i (some (.v d))) S1 := rfl
@[simp] theorem ev_V : mV fa ρ S = (fa ρ S).bind fun d S1 => .ok (.v d) S1 := rfl
@[simp] theorem ev_NilE : mNilE ρ S = .ok [] S := rfl
@[simp] theorem ev_ConsE : mConsE fv fs ρ S = (fv ρ S).bind fun x S1 => (fs ρ S1).bind fun xs S2 => .ok (x :: xs) S2 := rfl
@[simp] theorem ev_Call {F : Den} {n : Nat} : mCall F n fs ρ S = (fs ρ S).bind fun xs S1 => if xs.length = n then callD F xs S1 else .bad := rfl
@[simp] theorem ev_It : mIt fa ρ S = (fa ρ S).bind fun x S1 => lift x.items S1 := rfl
@[simp] theorem ev_Enum : mEnum fa ρ S = (fa ρ S).bind fun x S1 => (lift x.items S1).bind fun ds S2 => .ok (enumD 0 ds) S2 := rfl
@[simp] theorem ev_Zip : mZip fa fb ρ S = (fa ρ S).bind fun x S1 => (fb ρ S1).bind fun y S2 => lift (gZip x y) S2 := rfl
@[simp] theorem ev_For {tg : Tg} : mFor fi tg f ρ S = bindS (fi ρ S) ρ fun ds S1 => forL tg f ds ρ S1 := rfl
@[simp] theorem ev_Lc {tg : Tg} {vs : List Nat} : mLc fi tg t fa vs ρ S = (fi ρ S).bind fun ds S1 => (lcL tg t fa (wipeE ρ vs) ds S1 []).bind fun ys S2 => .ok (.lst ys) S2 := rfl
theorem seq_nx {ρ1 : DL.Env} {S1 : Store} (h : f ρ S = .ok (.nx, ρ1) S1) : mSeq f g ρ S = g ρ1 S1 := by unfold mSeq; rw [h]
theorem seq_rt {ρ1 : DL.Env} {S1 : Store} (h : f ρ S = .ok (.rt d, ρ1) S1) : mSeq f g ρ S = .ok (.rt d, ρ1) S1 := by unfold mSeq; rw [h]
theorem ev_Seq : mSeq f g ρ S = match f ρ S with
  | .ok (.nx, ρ1) S1 => g ρ1 S1
  | o => o := rfl
theorem denB_rt {N : Nat} {es : List EV} {ρ1 : DL.Env} {S1 : Store} (h : f (es.map some ++ List.replicate (N - es.length) none) S = .ok (.rt d, ρ1) S1) : denB N f es S = .ok d (S1.take S.length) := by unfold denB; rw [h]
theorem denB_nx {N : Nat} {es : List EV} {ρ1 : DL.Env} {S1 : Store} (h : f (es.map some ++ List.replicate (N - es.length) none) S = .ok (.nx, ρ1) S1) : denB N f es S = .ok .non (S1.take S.length) := by unfold denB; rw [h]
/-! calls without cells, with one cell ahead -/
theorem call1 {F : Den} {a r : D} (h : F [.v a] [] = .ok r []) : callD F [.v a] S = .ok r S := by
  unfold callD; simp [cels, getCs, renum, h, putCs]
theorem call2 {F : Den} {a b r : D} (h : F [.v a, .v b] [] = .ok r []) : callD F [.v a, .v b] S = .ok r S := by
  unfold callD; simp [cels, getCs, renum, h, putCs]
theorem call3 {F : Den} {a b c r : D} (h : F [.v a, .v b, .v c] [] = .ok r []) : callD F [.v a, .v b, .v c] S = .ok r S := by
  unfold callD; simp [cels, getCs, renum, h, putCs]
theorem call4 {F : Den} {a b c e r : D} (h : F [.v a, .v b, .v c, .v e] [] = .ok r []) : callD F [.v a, .v b, .v c, .v e] S = .ok r S := by
  unfold callD; simp [cels, getCs, renum, h, putCs]
theorem callC1 {F : Den} {n : Nat} {c c' : Cell} {r : D} (hs : S[n]? = some (some c)) (h : F [.cel 0] [some c] = .ok r [some c']) : callD F [.cel n] S = .ok r (S.set n (some c')) := by
  unfold callD; simp [cels, getCs, renum, h, putCs, hs]
theorem callC2 {F : Den} {n : Nat} {c c' : Cell} {a r : D} (hs : S[n]? = some (some c)) (h : F [.cel 0, .v a] [some c] = .ok r [some c']) : callD F [.cel n, .v a] S = .ok r (S.set n (some c')) := by
  unfold callD; simp [cels, getCs, renum, h, putCs, hs]
theorem callC3 {F : Den} {n : Nat} {c c' : Cell} {a b r : D} (hs : S[n]? = some (some c)) (h : F [.cel 0, .v a, .v b] [some c] = .ok r [some c']) : callD F [.cel n, .v a, .v b] S = .ok r (S.set n (some c')) := by
  unfold callD; simp [cels, getCs, renum, h, putCs, hs]
end
end DL

/-! the laws' common helpers as functions of data: the draws, a drawn word -/
namespace DL
open PySem L2
@[simp] theorem ev_IxC0 {n : Nat} {r : DL.Env} {S : Store} {fb : DEn} : mIxC 0 fb (some (.cel n) :: r) S = (fb (some (.cel n) :: r) S).bind fun y S1 => match y, S1[n]? with
    | .int k, some (some (.lst ds)) => lift (atI ds k) S1
    | _, _ => .bad := rfl
@[simp] theorem ev_It0 {n : Nat} {r : DL.Env} {S : Store} {fi : DEn} {d : D} : gIt 0 fi d (some (.cel n) :: r) S = (fi (some (.cel n) :: r) S).bd fun x S1 => match x, S1[n]? with
    | .int k, some (some (.lst ds)) => match ixN ds.length k with
      | some j => .ok (some (.cel n) :: r) (S1.set n (some (.lst (ds.set j d))))
      | none => .bad
    | _, _ => .bad := rfl
@[simp] theorem ev_Cel0 {n : Nat} {r : DL.Env} {S : Store} : mCel 0 (some (.cel n) :: r) S = .ok (.cel n) S := rfl
theorem ev_Asg {fa : DEn} {g : DGn} {ρ : DL.Env} {S : Store} : mAsg fa g ρ S = bindS (fa ρ S) ρ fun d S1 => match g d ρ S1 with
  | .ok ρ' S2 => .ok (.nx, ρ') S2
  | _ => .bad := rfl
def cb_taken : DSn :=
  (mSeq (mIfS (mCmp gGt (mIxC 0 (mC (.int 3))) (mC (.int 0))) (mSeq (mSet 3 (mV (mOp gMod (mBi gInt (mCons (mIxC 0 (mC (.int 3))) mNil)) (mVar 1))))
  (mSeq (mAsg (mOp gDiv (mIxC 0 (mC (.int 3))) (mVar 1)) (gIt 0 (mC (.int 3))))
  (mRet (mVar 3)))) mSkip)
  (mSeq (mAsg (mOp gAdd (mIxC 0 (mC (.int 1))) (mC (.int 1))) (gIt 0 (mC (.int 1))))
  (mSeq (mIfS (mCmp gGt (mIxC 0 (mC (.int 1))) (mBi gLen (mCons (mIxC 0 (mC (.int 0))) mNil))) (mSeq (mAsg (mOp gMod (mBi gInt (mCons (mOp gAdd (mOp gMul (mIxC 0 (mC (.int 2))) (mC (.int 48271))) (mC (.int 11))) mNil)) (mC (.int 2147483647))) (gIt 0 (mC (.int 2))))
  (mRet (mOp gMod (mBi gInt (mCons (mOp gDiv (mIxC 0 (mC (.int 2))) (mC (.int 7))) mNil)) (mVar 1)))) mSkip)
  (mSeq (mSet 2 (mV (mOp gIx (mIxC 0 (mC (.int 0))) (mOp gSub (mIxC 0 (mC (.int 1))) (mC (.int 1))))))
  (mSeq (mAsg (mOp gMod (mBi gInt (mCons (mOp gAdd (mOp gAdd (mOp gMul (mIxC 0 (mC (.int 2))) (mC (.int 48271))) (mVar 2)) (mC (.int 11))) mNil)) (mC (.int 2147483647))) (gIt 0 (mC (.int 2))))
  (mSeq (mIfS (mCmp gGe (mVar 2) (mOp gPow (mC (.int 10)) (mC (.int 18)))) (mAsg (mOp gDiv (mVar 2) (mVar 1)) (gIt 0 (mC (.int 3)))) mSkip)
  (mRet (mOp gMod (mBi gInt (mCons (mVar 2) mNil)) (mVar 1)))))))))
def cd_taken : Den := denB 4 cb_taken
/-- the row of draws: the script, the place, the seed, what is left of a great number -/
def row (ns : List Int) (p s r : Int) : Cell := .lst [.rol (ns.map D.int), .int p, .int s, .int r]
def RowOk (c : Cell) : Prop := ∃ ns p s r, c = row ns p s r ∧ 0 ≤ p
theorem pow18 : gPow (.int 10) (.int 18) = some (.int 1000000000000000000) := by
  have h : (if (0 : Int) ≤ 18 ∧ (18 : Int) ≤ 1000000 ∧ (10 : Int).natAbs < 18446744073709551616 then some (D.int ((10 : Int) ^ (18 : Int).toNat)) else none) = some (.int 1000000000000000000) := by
    rw [if_pos (by decide)]
    rfl
  exact h
theorem at0 {a b c d : D} : atI [a, b, c, d] 0 = some a := rfl
theorem at1 {a b c d : D} : atI [a, b, c, d] 1 = some b := rfl
theorem at2 {a b c d : D} : atI [a, b, c, d] 2 = some c := rfl
theorem at3 {a b c d : D} : atI [a, b, c, d] 3 = some d := rfl
theorem ix1 : ixN 4 1 = some 1 := rfl
theorem ix2 : ixN 4 2 = some 2 := rfl
theorem ix3 : ixN 4 3 = some 3 := rfl
theorem atI_ints {ns : List Int} {p : Int} (h0 : 0 ≤ p) (h1 : p < ns.length) : ∃ c, atI (ns.map D.int) p = some (.int c) := by
  obtain ⟨j, rfl⟩ : ∃ j : Nat, p = (j : Int) := ⟨p.toNat, by omega⟩
  have hj : j < ns.length := by omega
  exact ⟨ns[j], atI_nat (by rw [List.getElem?_map, List.getElem?_eq_getElem hj]; rfl)⟩
theorem taken {c : Cell} (h : RowOk c) {m : Int} (h0 : 0 < m) (h1 : m < 1073741824) : ∃ v c', 0 ≤ v ∧ v < m ∧ RowOk c' ∧ cd_taken [.cel 0, .v (.int m)] [some c] = .ok (.int v) [some c'] := by
  obtain ⟨ns, p, s, r, rfl, hp⟩ := h
  have mm : ∀ x : Int, 0 ≤ x % m ∧ x % m < m := fun x => ⟨Int.emod_nonneg x (by omega), Int.emod_lt_of_pos x h0⟩
  by_cases hr : 0 < r
  · refine ⟨r % m, row ns p s (r / m), (mm r).1, (mm r).2, ⟨ns, p, s, r / m, rfl, hp⟩, ?_⟩
    refine denB_rt (ρ1 := [some (.cel 0), some (.v (.int m)), none, some (.v (.int (r % m)))]) (S1 := [some (row ns p s (r / m))]) ?_
    simp [cb_taken, ev_Seq, row, at0, at1, at2, at3, hr, g_mod h0, g_div ⟨h0, h1⟩, ev_Asg, ix3]
  · by_cases hl : (ns.length : Int) < p + 1
    · refine ⟨((s * 48271 + 11) % 2147483647 / 7) % m, row ns (p + 1) ((s * 48271 + 11) % 2147483647) r, (mm _).1, (mm _).2, ⟨ns, _, _, _, rfl, by omega⟩, ?_⟩
      refine denB_rt (ρ1 := [some (.cel 0), some (.v (.int m)), none, none]) (S1 := [some (row ns (p + 1) ((s * 48271 + 11) % 2147483647) r)]) ?_
      simp [cb_taken, ev_Seq, row, at0, at1, at2, at3, hr, hl, g_mod, g_mod h0, g_div, g_mul, ev_Asg, ix1, ix2]
    · obtain ⟨v, hv⟩ := atI_ints (ns := ns) (p := p) hp (by omega)
      by_cases hb : 1000000000000000000 ≤ v
      · refine ⟨v % m, row ns (p + 1) ((s * 48271 + v + 11) % 2147483647) (v / m), (mm _).1, (mm _).2, ⟨ns, _, _, _, rfl, by omega⟩, ?_⟩
        refine denB_rt (ρ1 := [some (.cel 0), some (.v (.int m)), some (.v (.int v)), none]) (S1 := [some (row ns (p + 1) ((s * 48271 + v + 11) % 2147483647) (v / m))]) ?_
        simp [cb_taken, ev_Seq, row, at0, at1, at2, at3, hr, hl, hv, hb, pow18, g_mod, g_mod h0, g_div ⟨h0, h1⟩, g_mul, ev_Asg, ix1, ix2, ix3]
      · refine ⟨v % m, row ns (p + 1) ((s * 48271 + v + 11) % 2147483647) r, (mm _).1, (mm _).2, ⟨ns, _, _, _, rfl, by omega⟩, ?_⟩
        refine denB_rt (ρ1 := [some (.cel 0), some (.v (.int m)), some (.v (.int v)), none]) (S1 := [some (row ns (p + 1) ((s * 48271 + v + 11) % 2147483647) r)]) ?_
        simp [cb_taken, ev_Seq, row, at0, at1, at2, at3, hr, hl, hv, hb, pow18, g_mod, g_mod h0, g_mul, ev_Asg, ix1, ix2]
/-! ### loops -/
theorem forL_nx {tg : Tg} {body : DSn} : ∀ {ds : List D} (I : Nat → DL.Env → Store → Prop) (_ : ∀ i d ρ S, ds[i]? = some d → I i ρ S → ∃ ρ1 ρ2 S2, asg tg d ρ = some ρ1 ∧ body ρ1 S = .ok (.nx, ρ2) S2 ∧ I (i + 1) ρ2 S2) (ρ : DL.Env) (S : Store), I 0 ρ S → ∃ ρ' S', forL tg body ds ρ S = .ok (.nx, ρ') S' ∧ I ds.length ρ' S'
  | [], I, _, ρ, S, h0 => ⟨ρ, S, rfl, h0⟩
  | d :: ds, I, h, ρ, S, h0 => by
    obtain ⟨ρ1, ρ2, S2, e1, e2, h2⟩ := h 0 d ρ S rfl h0
    obtain ⟨ρ', S', e3, h3⟩ := forL_nx (fun i => I (i + 1)) (fun i d' ρ S hd hi => h (i + 1) d' ρ S (by simpa using hd) hi) ρ2 S2 h2
    refine ⟨ρ', S', ?_, h3⟩
    unfold forL
    rw [e1]
    dsimp only
    rw [e2]
    exact e3
theorem rgD_length (a b : Int) : (rgD a b).length = (b - a).toNat := by unfold rgD; simp
theorem rgD_get {a b : Int} {i : Nat} {d : D} (h : (rgD a b)[i]? = some d) : d = .int (a + i) := by
  unfold rgD at h
  rw [List.getElem?_map] at h
  cases q : (List.range (b - a).toNat)[i]? with
  | none => rw [q] at h; cases h
  | some j =>
    rw [q] at h
    cases h
    obtain ⟨h1, h2⟩ := List.getElem?_eq_some_iff.mp q
    simp at h2
    rw [h2]
/-! ### picks -/
def cb_pick : DSn := (mRet (mOp gIx (mVar 1) (mCall cd_taken 2 (mConsE (mCel 0) (mConsE (mV (mBi gLen (mCons (mVar 1) mNil))) mNilE)))))
def cd_pick : Den := denB 2 cb_pick
theorem atI_of {ds : List D} {v : Int} (h0 : 0 ≤ v) (h1 : v < ds.length) : ∃ i d, ds[i]? = some d ∧ v = (i : Nat) ∧ atI ds v = some d := by
  obtain ⟨j, rfl⟩ : ∃ j : Nat, v = (j : Int) := ⟨v.toNat, by omega⟩
  have hj : j < ds.length := by omega
  exact ⟨j, ds[j], List.getElem?_eq_getElem hj, rfl, atI_nat (List.getElem?_eq_getElem hj)⟩
theorem pick_spec {c : Cell} (h : RowOk c) {ds : List D} (h0 : ds ≠ []) (h1 : ds.length < 1073741824) : ∃ (i : Nat) (d : D) (c' : Cell), ds[i]? = some d ∧ RowOk c' ∧ cd_pick [.cel 0, .v (.lst ds)] [some c] = .ok d [some c'] := by
  have hp : 0 < ds.length := List.length_pos_iff.mpr h0
  obtain ⟨v, c', v0, v1, hc, e⟩ := taken h (m := ds.length) (by omega) (by omega)
  obtain ⟨i, d, e1, e2, e3⟩ := atI_of v0 v1
  refine ⟨i, d, c', e1, hc, denB_rt (ρ1 := [some (.cel 0), some (.v (.lst ds))]) (S1 := [some c']) ?_⟩
  have ec := callC2 (S := [some c]) (n := 0) (a := .int ds.length) rfl e
  simp [cb_pick, ec, e3]
/-! ### words -/
inductive Tk where
  | b (n : Nat) | l (h : Bool)
  deriving DecidableEq
def sH : D := .str "H"
def sV : D := .str "V"
def Tk.d : Tk → D
  | .b n => .int n
  | .l true => sH
  | .l false => sV
def wd (w : List Tk) : D := .tup (w.map Tk.d)
def dep : List Tk → Nat → Option Nat
  | [], k => some k
  | .b _ :: r, k => dep r (k + 1)
  | .l _ :: r, k => if 2 ≤ k then dep r (k - 1) else none
def nums : List Tk → List Nat
  | [] => []
  | .b n :: r => n :: nums r
  | .l _ :: r => nums r
theorem dep_append : ∀ (u v : List Tk) (k : Nat), dep (u ++ v) k = (dep u k).bind (dep v)
  | [], _, _ => rfl
  | .b _ :: r, v, k => by simp [dep, dep_append r v]
  | .l _ :: r, v, k => by
    simp only [List.cons_append, dep]
    split
    · exact dep_append r v _
    · rfl
theorem nums_append : ∀ (u v : List Tk), nums (u ++ v) = nums u ++ nums v
  | [], _ => rfl
  | .b _ :: r, v => by simp [nums, nums_append r v]
  | .l _ :: r, v => by simp [nums, nums_append r v]
theorem nums_le : ∀ (u : List Tk), (nums u).length ≤ u.length
  | [] => Nat.le_refl _
  | .b _ :: r => by simp [nums, nums_le r]
  | .l _ :: r => by simp only [nums, List.length_cons]; exact Nat.le_succ_of_le (nums_le r)
theorem dep_count : ∀ (u : List Tk) (k j : Nat), dep u k = some j → j + u.length = k + 2 * (nums u).length
  | [], k, j, h => by cases h; simp [nums]
  | .b _ :: r, k, j, h => by
    have := dep_count r (k + 1) j h
    simp [nums]; omega
  | .l _ :: r, k, j, h => by
    simp only [dep] at h
    split at h
    · have := dep_count r (k - 1) j h
      simp [nums]; omega
    · cases h
/-- a slicing word of so many blocks -/
structure Word (m : Nat) (w : List Tk) : Prop where
  pos : 1 ≤ m
  dep : dep w 0 = some 1
  nd : (nums w).Nodup
  lt : ∀ n ∈ nums w, n < m
  len : w.length = 2 * m - 1
theorem Word.nums {m : Nat} {w : List Tk} (h : Word m w) : (DL.nums w).length = m := by
  have := dep_count w 0 1 h.dep
  have := h.len
  have := h.pos
  omega
theorem okd_ints : ∀ (L : List Nat), (D.lst (L.map fun n : Nat => D.int (n : Int))).okd = true := by
  intro L
  have h1 : PyData.canLayAll0 (D.pys (L.map fun n : Nat => D.int (n : Int))) = true := by
    induction L with
    | nil => rfl
    | cons n L ih => exact ih
  have h2 : PyData.depthAll (D.pys (L.map fun n : Nat => D.int (n : Int))) = 0 := by
    induction L with
    | nil => rfl
    | cons n L ih =>
      have h1' : PyData.canLayAll0 (D.pys (L.map fun n : Nat => D.int (n : Int))) = true := h1
      show max 0 (PyData.depthAll (D.pys (L.map fun n : Nat => D.int (n : Int)))) = 0
      rw [ih h1']
      rfl
  show (PyData.canLayAll0 (D.pys (L.map fun n : Nat => D.int (n : Int))) && decide (PyData.depthAll (D.pys (L.map fun n : Nat => D.int (n : Int))) + 1 ≤ 64)) = true
  rw [h1, h2]
  rfl

def cb_word : DSn :=
  (mSeq (mSet 2 (mV (mOp gAdd (mC (.int 1)) (mCall cd_taken 2 (mConsE (mCel 0) (mConsE (mV (mVar 1)) mNilE))))))
  (mSeq (mPar3 4 5 6 (mConsE (mNewRg (mVar 2)) (mConsE (mV (mTup mNil)) (mConsE (mV (mC (.int 0))) mNilE))))
  (mSeq (mFor (mRg1 (mOp gSub (mOp gMul (mC (.int 2)) (mVar 2)) (mC (.int 1)))) (.nm 3) (mIfS (mAndT (mCmpL 4 gNe (mLst mNil)) (mOrT (mCmp gLt (mVar 6) (mC (.int 2))) (mCmp gEq (mCall cd_taken 2 (mConsE (mCel 0) (mConsE (mV (mC (.int 2))) mNilE))) (mC (.int 0))))) (mPar2 5 6 (mConsE (mV (mOp gAdd (mVar 5) (mTup (mCons (mMet 4 gPopAt (mCons (mCall cd_taken 2 (mConsE (mCel 0) (mConsE (mV (mBiC 4 gLen)) mNilE))) mNil)) mNil)))) (mConsE (mV (mOp gAdd (mVar 6) (mC (.int 1)))) mNilE))) (mPar2 5 6 (mConsE (mV (mOp gAdd (mVar 5) (mTup (mCons (mCall cd_pick 2 (mConsE (mCel 0) (mConsE (mV (mLst (mCons (mC (.str "H")) (mCons (mC (.str "V")) mNil)))) mNilE))) mNil)))) (mConsE (mV (mOp gSub (mVar 6) (mC (.int 1)))) mNilE)))))
  (mRet (mVar 5)))))
def cd_word : Den := denB 7 cb_word
def cb_turn : DSn := (mIfS (mAndT (mCmpL 4 gNe (mLst mNil)) (mOrT (mCmp gLt (mVar 6) (mC (.int 2))) (mCmp gEq (mCall cd_taken 2 (mConsE (mCel 0) (mConsE (mV (mC (.int 2))) mNilE))) (mC (.int 0))))) (mPar2 5 6 (mConsE (mV (mOp gAdd (mVar 5) (mTup (mCons (mMet 4 gPopAt (mCons (mCall cd_taken 2 (mConsE (mCel 0) (mConsE (mV (mBiC 4 gLen)) mNilE))) mNil)) mNil)))) (mConsE (mV (mOp gAdd (mVar 6) (mC (.int 1)))) mNilE))) (mPar2 5 6 (mConsE (mV (mOp gAdd (mVar 5) (mTup (mCons (mCall cd_pick 2 (mConsE (mCel 0) (mConsE (mV (mLst (mCons (mC (.str "H")) (mCons (mC (.str "V")) mNil)))) mNilE))) mNil)))) (mConsE (mV (mOp gSub (mVar 6) (mC (.int 1)))) mNilE))))
theorem turn_eq (ρ : DL.Env) (S : Store) : cb_turn ρ S = bindS (mAndT (mCmpL 4 gNe (mLst mNil)) (mOrT (mCmp gLt (mVar 6) (mC (.int 2))) (mCmp gEq (mCall cd_taken 2 (mConsE (mCel 0) (mConsE (mV (mC (.int 2))) mNilE))) (mC (.int 0)))) ρ S) ρ fun k S1 => if k = true then (mPar2 5 6 (mConsE (mV (mOp gAdd (mVar 5) (mTup (mCons (mMet 4 gPopAt (mCons (mCall cd_taken 2 (mConsE (mCel 0) (mConsE (mV (mBiC 4 gLen)) mNilE))) mNil)) mNil)))) (mConsE (mV (mOp gAdd (mVar 6) (mC (.int 1)))) mNilE))) ρ S1 else (mPar2 5 6 (mConsE (mV (mOp gAdd (mVar 5) (mTup (mCons (mCall cd_pick 2 (mConsE (mCel 0) (mConsE (mV (mLst (mCons (mC (.str "H")) (mCons (mC (.str "V")) mNil)))) mNilE))) mNil)))) (mConsE (mV (mOp gSub (mVar 6) (mC (.int 1)))) mNilE))) ρ S1 := rfl
@[simp] theorem ev_Par2 {i j : Nat} {fs : DAn} {ρ : DL.Env} {S : Store} : mPar2 i j fs ρ S = bindS (fs ρ S) ρ fun es S1 => match es with
  | [u, v] => .ok (.nx, (ρ.set i (some u)).set j (some v)) S1
  | _ => .bad := rfl
@[simp] theorem ev_Par3 {i j l : Nat} {fs : DAn} {ρ : DL.Env} {S : Store} : mPar3 i j l fs ρ S = bindS (fs ρ S) ρ fun es S1 => match es with
  | [u, v, w] => .ok (.nx, ((ρ.set i (some u)).set j (some v)).set l (some w)) S1
  | _ => .bad := rfl
/-- the slots in a turn -/
def eW (most many t : D) (u : List Tk) (k : Nat) : DL.Env := [some (.cel 0), some (.v most), some (.v many), some (.v t), some (.cel 1), some (.v (wd u)), some (.v (.int k))]
def cL (L : List Nat) : Cell := .lst (L.map fun n : Nat => D.int (n : Int))
theorem gNe_nil (L : List Nat) : gNe (.lst (L.map fun n : Nat => D.int (n : Int))) (.lst []) = some (decide (L ≠ [])) := by
  have e : gNe (.lst (L.map fun n : Nat => D.int (n : Int))) (.lst []) = some (!deq (.lst (L.map fun n : Nat => D.int (n : Int))) (.lst [])) := if_pos ⟨okd_ints L, okd_ints []⟩
  rw [e, deq_ll]
  cases L with
  | nil => rfl
  | cons n L => simp
theorem gEq_ii (m n : Int) : gEq (.int m) (.int n) = some (m == n) := rfl
theorem wd_len (u : List Tk) : (u.map Tk.d).length = u.length := List.length_map _
theorem add1 {u : List Tk} {t : Tk} (h : u.length + 1 ≤ lim) : gAdd (wd u) (.tup [t.d]) = some (wd (u ++ [t])) := by
  have e : gAdd (.tup (u.map Tk.d)) (.tup [t.d]) = some (.tup (u.map Tk.d ++ [t.d])) := g_addT (by simpa using h)
  unfold wd
  rw [e]
  simp
theorem lim_is : lim = 1000000 := rfl
theorem ixN_nat {n j : Nat} (h : j < n) : ixN n (j : Int) = some j := by
  unfold ixN
  rw [if_pos (by omega), if_pos (by omega)]
  simp
theorem erase_map {α β : Type} (f : α → β) : ∀ (L : List α) (j : Nat), (L.map f).eraseIdx j = (L.eraseIdx j).map f
  | [], _ => rfl
  | _ :: _, 0 => rfl
  | x :: L, j + 1 => by
    show f x :: (L.map f).eraseIdx j = f x :: (L.eraseIdx j).map f
    rw [erase_map f L j]
theorem erase_perm {α : Type} : ∀ {L : List α} {j : Nat} {n : α}, L[j]? = some n → L.Perm (n :: L.eraseIdx j)
  | [], _, _, h => by simp at h
  | x :: L, 0, n, h => by simp at h; subst h; exact .refl _
  | x :: L, j + 1, n, h => (List.Perm.cons x (erase_perm (L := L) (j := j) (by simpa using h))).trans (.swap n x _)
theorem pop_ok {L : List Nat} {v : Int} (h0 : 0 ≤ v) (h1 : v < L.length) (hl : L.length ≤ lim) : ∃ (j n : Nat), L[j]? = some n ∧ gPopAt (L.map fun n : Nat => D.int (n : Int)) [.int v] = some ((L.eraseIdx j).map fun n : Nat => D.int (n : Int), .int n) := by
  obtain ⟨j, rfl⟩ : ∃ j : Nat, v = (j : Int) := ⟨v.toNat, by omega⟩
  have hj : j < L.length := by omega
  refine ⟨j, L[j], List.getElem?_eq_getElem hj, ?_⟩
  have e : gPopAt (L.map fun n : Nat => D.int (n : Int)) [.int (j : Int)] = (ixN (L.map fun n : Nat => D.int (n : Int)).length j).bind fun k => ((L.map fun n : Nat => D.int (n : Int))[k]?).map fun d => ((L.map fun n : Nat => D.int (n : Int)).eraseIdx k, d) := if_pos (by simpa using hl)
  rw [e, ixN_nat (by simpa using hj)]
  simp [hj, erase_map]
/-- one turn -/
theorem turn_ok {most many t : D} {u : List Tk} {k m i : Nat} {L : List Nat} {c : Cell} (hc : RowOk c) (hd : dep u 0 = some k) (hp : (nums u ++ L).Perm (List.range m)) (hu : u.length = i) (hi : i < 2 * m - 1) (hm : m ≤ 100) :
    ∃ u' k' L' c', cb_turn (eW most many t u k) [some c, some (cL L)] = .ok (.nx, eW most many t u' k') [some c', some (cL L')] ∧ RowOk c' ∧ dep u' 0 = some k' ∧ (nums u' ++ L').Perm (List.range m) ∧ u'.length = i + 1 := by
  have hcnt := dep_count u 0 k hd
  have hlen : (nums u).length + L.length = m := by
    have := hp.length_eq
    simpa using this
  have hz : u.length + 1 ≤ lim := by rw [lim_is]; omega
  have letter : ∀ c, RowOk c → 2 ≤ k → (∀ ks, cb_turn (eW most many t u k) [some c, some (cL L)] = ks → ks = ks) → ∃ (b : Bool) (c' : Cell), RowOk c' ∧ (mPar2 5 6 (mConsE (mV (mOp gAdd (mVar 5) (mTup (mCons (mCall cd_pick 2 (mConsE (mCel 0) (mConsE (mV (mLst (mCons (mC (.str "H")) (mCons (mC (.str "V")) mNil)))) mNilE))) mNil)))) (mConsE (mV (mOp gSub (mVar 6) (mC (.int 1)))) mNilE))) (eW most many t u k) [some c, some (cL L)] = .ok (.nx, eW most many t (u ++ [.l b]) (k - 1)) [some c', some (cL L)] := by
    intro c hc hk _
    obtain ⟨j, d, c', e1, hc', e2⟩ := pick_spec hc (ds := [.str "H", .str "V"]) (by simp) (by decide)
    have ec := callC2 (S := [some c, some (cL L)]) (n := 0) rfl e2
    have hb : ∃ b : Bool, d = (Tk.l b).d := by
      match j, e1 with
      | 0, e1 => exact ⟨true, (Option.some.inj e1).symm⟩
      | 1, e1 => exact ⟨false, (Option.some.inj e1).symm⟩
      | j + 2, e1 => simp at e1
    obtain ⟨b, rfl⟩ := hb
    refine ⟨b, c', hc', ?_⟩
    have ek : (k : Int) - 1 = ((k - 1 : Nat) : Int) := by omega
    simp [eW, ec, add1 hz, lim_is, ek]
  have number : ∀ c, RowOk c → L ≠ [] → ∃ (n : Nat) (L' : List Nat) (c' : Cell), RowOk c' ∧ L.Perm (n :: L') ∧ (mPar2 5 6 (mConsE (mV (mOp gAdd (mVar 5) (mTup (mCons (mMet 4 gPopAt (mCons (mCall cd_taken 2 (mConsE (mCel 0) (mConsE (mV (mBiC 4 gLen)) mNilE))) mNil)) mNil)))) (mConsE (mV (mOp gAdd (mVar 6) (mC (.int 1)))) mNilE))) (eW most many t u k) [some c, some (cL L)] = .ok (.nx, eW most many t (u ++ [.b n]) (k + 1)) [some c', some (cL L')] := by
    intro c hc hL
    have hp1 : 0 < L.length := List.length_pos_iff.mpr hL
    obtain ⟨v, c', v0, v1, hc', e2⟩ := taken hc (m := L.length) (by omega) (by omega)
    obtain ⟨j, n, ej, ep⟩ := pop_ok v0 v1 (by rw [lim_is]; omega)
    have ec := callC2 (S := [some c, some (cL L)]) (n := 0) rfl e2
    refine ⟨n, L.eraseIdx j, c', hc', ?_, ?_⟩
    · exact erase_perm ej
    · have ad : gAdd (wd u) (.tup [.int (n : Int)]) = some (wd (u ++ [.b n])) := add1 (t := .b n) hz
      simp only [cL] at ec
      simp [eW, mMet, mBiC, cL, ec, ep, ad, lim_is]
  have useL : ∀ c, RowOk c → 2 ≤ k → ∃ u' k' L' c', (mPar2 5 6 (mConsE (mV (mOp gAdd (mVar 5) (mTup (mCons (mCall cd_pick 2 (mConsE (mCel 0) (mConsE (mV (mLst (mCons (mC (.str "H")) (mCons (mC (.str "V")) mNil)))) mNilE))) mNil)))) (mConsE (mV (mOp gSub (mVar 6) (mC (.int 1)))) mNilE))) (eW most many t u k) [some c, some (cL L)] = .ok (.nx, eW most many t u' k') [some c', some (cL L')] ∧ RowOk c' ∧ dep u' 0 = some k' ∧ (nums u' ++ L').Perm (List.range m) ∧ u'.length = i + 1 := by
    intro c hc hk
    obtain ⟨b, c', hc', e⟩ := letter c hc hk (fun _ _ => rfl)
    refine ⟨u ++ [.l b], k - 1, L, c', e, hc', ?_, ?_, by simp [hu]⟩
    · rw [dep_append, hd]
      show (if 2 ≤ k then dep [] (k - 1) else none) = _
      rw [if_pos hk]
      rfl
    · rw [nums_append]
      simpa [nums] using hp
  have useN : ∀ c, RowOk c → L ≠ [] → ∃ u' k' L' c', (mPar2 5 6 (mConsE (mV (mOp gAdd (mVar 5) (mTup (mCons (mMet 4 gPopAt (mCons (mCall cd_taken 2 (mConsE (mCel 0) (mConsE (mV (mBiC 4 gLen)) mNilE))) mNil)) mNil)))) (mConsE (mV (mOp gAdd (mVar 6) (mC (.int 1)))) mNilE))) (eW most many t u k) [some c, some (cL L)] = .ok (.nx, eW most many t u' k') [some c', some (cL L')] ∧ RowOk c' ∧ dep u' 0 = some k' ∧ (nums u' ++ L').Perm (List.range m) ∧ u'.length = i + 1 := by
    intro c hc hL
    obtain ⟨n, L', c', hc', hperm, e⟩ := number c hc hL
    refine ⟨u ++ [.b n], k + 1, L', c', e, hc', ?_, ?_, by simp [hu]⟩
    · rw [dep_append, hd]
      rfl
    · rw [nums_append]
      refine List.Perm.trans ?_ hp
      simp only [nums, List.append_assoc, List.singleton_append]
      exact List.Perm.append_left _ hperm.symm
  by_cases hL : L = []
  · have hk : 2 ≤ k := by
      subst hL
      simp at hlen
      omega
    obtain ⟨u', k', L', c', e, r⟩ := useL c hc hk
    refine ⟨u', k', L', c', ?_, r⟩
    rw [← e]
    have g := gNe_nil []
    subst hL
    have ht : mAndT (mCmpL 4 gNe (mLst mNil)) (mOrT (mCmp gLt (mVar 6) (mC (.int 2))) (mCmp gEq (mCall cd_taken 2 (mConsE (mCel 0) (mConsE (mV (mC (.int 2))) mNilE))) (mC (.int 0)))) (eW most many t u k) [some c, some (cL [])] = .ok false [some c, some (cL [])] := by
      simp only [cL, List.map_nil] at g ⊢
      simp [eW, mCmpL, g]
    rw [turn_eq, ht]
    rfl
  · have g := gNe_nil L
    rw [decide_eq_true hL] at g
    have ht : ∀ (tb : DTn), mAndT (mCmpL 4 gNe (mLst mNil)) tb (eW most many t u k) [some c, some (cL L)] = tb (eW most many t u k) [some c, some (cL L)] := by
      intro tb
      simp [eW, mCmpL, cL, g]
    rw [turn_eq, ht]
    by_cases hk : k < 2
    · have h2 : (mOrT (mCmp gLt (mVar 6) (mC (.int 2))) (mCmp gEq (mCall cd_taken 2 (mConsE (mCel 0) (mConsE (mV (mC (.int 2))) mNilE))) (mC (.int 0)))) (eW most many t u k) [some c, some (cL L)] = .ok true [some c, some (cL L)] := by
        have hk' : ((k : Int) < 2) := by omega
        simp [eW, hk']
      rw [h2]
      obtain ⟨u', k', L', c', e, r⟩ := useN c hc hL
      exact ⟨u', k', L', c', e, r⟩
    · obtain ⟨v, c1, v0, v1, hc1, e2⟩ := taken hc (m := 2) (by omega) (by omega)
      have ec := callC2 (S := [some c, some (cL L)]) (n := 0) rfl e2
      have h2 : (mOrT (mCmp gLt (mVar 6) (mC (.int 2))) (mCmp gEq (mCall cd_taken 2 (mConsE (mCel 0) (mConsE (mV (mC (.int 2))) mNilE))) (mC (.int 0)))) (eW most many t u k) [some c, some (cL L)] = .ok (v == 0) [some c1, some (cL L)] := by
        have hk' : ¬ ((k : Int) < 2) := by omega
        simp [eW, hk', ec, gEq_ii]
      rw [h2]
      by_cases hv : v = 0
      · obtain ⟨u', k', L', c', e, r⟩ := useN c1 hc1 hL
        refine ⟨u', k', L', c', ?_, r⟩
        rw [← e]
        subst hv
        rfl
      · obtain ⟨u', k', L', c', e, r⟩ := useL c1 hc1 (by omega)
        refine ⟨u', k', L', c', ?_, r⟩
        rw [← e]
        have : (v == 0) = false := by simpa using hv
        rw [this]
        rfl
theorem rg_nat (m : Nat) : rgD 0 m = (List.range m).map fun n : Nat => D.int (n : Int) := by
  unfold rgD
  simp
/-- a drawn word -/
theorem word_spec {c : Cell} (hc : RowOk c) {most : Nat} (h0 : 1 ≤ most) (h1 : most ≤ 100) : ∃ (m : Nat) (w : List Tk) (c' : Cell), m ≤ most ∧ Word m w ∧ RowOk c' ∧ cd_word [.cel 0, .v (.int most)] [some c] = .ok (wd w) [some c'] := by
  obtain ⟨v, c1, v0, v1, hc1, e1⟩ := taken hc (m := most) (by omega) (by omega)
  obtain ⟨m, em⟩ : ∃ m : Nat, 1 + v = (m : Int) := ⟨(1 + v).toNat, by omega⟩
  have hm1 : 1 ≤ m := by omega
  have hm2 : m ≤ most := by omega
  have ec := callC2 (S := [some c]) (n := 0) rfl e1
  let I : Nat → DL.Env → Store → Prop := fun i ρ S => ∃ (t : Option EV) (u : List Tk) (k : Nat) (L : List Nat) (c : Cell), ρ = [some (.cel 0), some (.v (.int most)), some (.v (.int m)), t, some (.cel 1), some (.v (wd u)), some (.v (.int k))] ∧ S = [some c, some (cL L)] ∧ RowOk c ∧ dep u 0 = some k ∧ (nums u ++ L).Perm (List.range m) ∧ u.length = i ∧ i ≤ 2 * m - 1
  have hI : ∀ i d ρ S, (rgD 0 (2 * (m : Int) - 1))[i]? = some d → I i ρ S → ∃ ρ1 ρ2 S2, asg (.nm 3) d ρ = some ρ1 ∧ cb_turn ρ1 S = .ok (.nx, ρ2) S2 ∧ I (i + 1) ρ2 S2 := by
    rintro i d ρ S hd ⟨t, u, k, L, c, rfl, rfl, hc, hk, hp, hu, hi⟩
    have hi' : i < 2 * m - 1 := by
      have := (List.getElem?_eq_some_iff.mp hd).1
      rw [rgD_length] at this
      omega
    obtain ⟨u', k', L', c', e, a1, a2, a3, a4⟩ := turn_ok (most := .int most) (many := .int m) (t := d) hc hk hp hu hi' (by omega)
    exact ⟨_, _, _, rfl, e, some (.v d), u', k', L', c', rfl, rfl, a1, a2, a3, a4, by omega⟩
  obtain ⟨ρ', S', e3, t, u, k, L, c', rfl, rfl, hc', hk, hp, hu, _⟩ := forL_nx I hI [some (.cel 0), some (.v (.int most)), some (.v (.int m)), none, some (.cel 1), some (.v (wd [])), some (.v (.int 0))] [some c1, some (cL (List.range m))] ⟨none, [], 0, List.range m, c1, rfl, rfl, hc1, rfl, by simp [nums], rfl, by omega⟩
  rw [rgD_length] at hu
  have hcnt := dep_count u 0 k hk
  have hlen : (nums u).length + L.length = m := by
    have := hp.length_eq
    simpa using this
  have hnil : L = [] := by
    have : (nums u).length ≤ m := by omega
    cases L with
    | nil => rfl
    | cons x L => simp at hlen; omega
  subst hnil
  rw [List.append_nil] at hp
  have hk1 : k = 1 := by simp at hlen; omega
  subst hk1
  refine ⟨m, u, c', hm2, ⟨hm1, hk, hp.nodup_iff.mpr List.nodup_range, fun n hn => by simpa using hp.mem_iff.mp hn, by omega⟩, hc', ?_⟩
  have er : mRg1 (mOp gSub (mOp gMul (mC (.int 2)) (mVar 2)) (mC (.int 1))) [some (.cel 0), some (.v (.int most)), some (.v (.int m)), none, some (.cel 1), some (.v (wd [])), some (.v (.int 0))] [some c1, some (cL (List.range m))] = .ok (rgD 0 (2 * (m : Int) - 1)) [some c1, some (cL (List.range m))] := by
    have h1 : (2 * (m : Int) - 1 ≤ 1000000000 ∧ -1000000000 ≤ 2 * (m : Int) - 1) := by omega
    simp [mRg1, g_mulL, h1]
  refine denB_rt (ρ1 := [some (.cel 0), some (.v (.int most)), some (.v (.int m)), t, some (.cel 1), some (.v (wd u)), some (.v (.int (1 : Nat)))]) (S1 := [some c', some (cL [])]) ?_
  refine (seq_nx (ρ1 := [some (.cel 0), some (.v (.int most)), some (.v (.int m)), none, none, none, none]) (S1 := [some c1]) ?_).trans ?_
  · simp [ec, em]
  refine (seq_nx (ρ1 := [some (.cel 0), some (.v (.int most)), some (.v (.int m)), none, some (.cel 1), some (.v (wd [])), some (.v (.int 0))]) (S1 := [some c1, some (cL (List.range m))]) ?_).trans ?_
  · have h1 : ((m : Int) ≤ 1000000 ∧ -1000000 ≤ (m : Int)) := by omega
    simp [mNewRg, h1, rg_nat, cL, wd, lim_is]
  refine (seq_nx (ρ1 := [some (.cel 0), some (.v (.int most)), some (.v (.int m)), t, some (.cel 1), some (.v (wd u)), some (.v (.int (1 : Nat)))]) (S1 := [some c', some (cL [])]) ?_).trans rfl
  rw [ev_For, er]
  exact e3
end DL

/-! the layer of data: exceptions of the program's own classes, raised -/
namespace DL
open PySem L2
theorem Reps.one1 {G : Gd} {HF : Hp} {vs : List V} {d : D} (r : Reps G HF vs [d]) : ∃ v, vs = [v] ∧ Rep G HF v d := by
  cases r with
  | cons h1 h2 => cases h2; exact ⟨_, rfl, h1⟩
/-- what __init__(self, f): self.f = f does with a fresh exception -/
def spInit (K : PySem.W.Frag) (f : Str) : Sp := fun vs H Q _ => ∃ (a C : Addr) (v : V), vs = [.ref a, v] ∧ OexC K C ∧ PySem.W.findIn K (.ref C) f = some none ∧ H a = some (exo a C none) ∧
  ∀ dx, H dx = none → dx ≠ a → Q .non (upd (upd H dx (exd dx [(f, v)])) a (exo a C (some dx)))
/-- a class of the program with such an __init__ -/
structure OwnE (P : Program) (w : World) (G : Gd) (base : Heap) (k : Nat) (x f : Str) : Prop where
  has : ∃ (C fI : Addr) (fd : FuncData) (ps : List Str), G.mg x = some (.ref C) ∧ OexC G.K C ∧ PySem.W.findIn G.K (.ref C) f = some none ∧ PySem.W.findIn G.K (.ref C) "__init__" = some (some (.ref fI)) ∧ PySem.W.typeIn G.K (.ref fI) = some (.type "function") ∧
    Binds G.K fd ps [] ∧ FnOk P w G.K G.mg base (L2.CX P w) k fI fd ps (spInit G.K f)
theorem OwnE.mono {P : Program} {w : World} {G : Gd} {base : Heap} {j k : Nat} {x f : Str} (o : OwnE P w G base j x f) (h : j ≤ k) : OwnE P w G base k x f := by
  obtain ⟨C, fI, fd, ps, h1, h2, h3, h4, h5, h6, h7⟩ := o.has
  exact ⟨C, fI, fd, ps, h1, h2, h3, h4, h5, h6, h7.mono h⟩
section
variable {X : Cx} {W : WD} {pos pos' p p2 : Pos} {a : Expr} {fa : DEn}
def mRaise1 (x f : Str) (fa : DEn) : DSn := fun ρ S => bindS (mCons fa mNil ρ S) ρ fun ds S1 => match ds with
  | [d] => .ok (.ex ⟨x, some (f, d)⟩, ρ) S1
  | _ => .bad
theorem passes0 : Passes (L2.CX X.prog X.w) X (fun _ _ _ => False) := fun _ _ _ _ _ _ _ ⟨_, _, _, _, _, _, _, _, _, _, _, _, h⟩ => h.elim
theorem heap_same {H1 : Hp} {a C dx : Addr} {u : HO} {fs : List (Str × V)} (ha : H1 a = none) (ne : dx ≠ a) : upd (del (upd (upd (upd H1 a (exo a C none)) dx u) a (exo a C (some dx))) a) dx (.xd fs) = upd H1 dx (.xd fs) := by
  funext b
  by_cases hb : b = dx
  · subst hb; rw [upd_same, upd_same]
  · rw [upd_ne hb, upd_ne hb]
    by_cases hc : b = a
    · subst hc; rw [del_same, ha]
    · rw [del_ne hc, upd_ne hc, upd_ne hb, upd_ne hc]
theorem sraise1 {x f : Str} {k : Nat} (o : OwnE X.prog X.w (gd X W) X.base k x f) (hr : Room (k + 1) X.A) (hc : X.calm = true) (tk : Takes X W.w) (ha : DE X W a fa) (hg : Gl X x := by rfl) (hdb : (x == ("__debug__" : Str)) = false := by decide)
    (he : starEach (a :: []) X.env = (false, eval a X.env) :: starEach [] X.env := by rfl) (hpl : (backTo pos' (starEach [] X.env)).any (·.1) = false := by rfl) :
    DS X W (.Raise (some (.Call (.Name x p) [a] [] pos')) none pos) (mRaise1 x f fa) := by
  obtain ⟨C, fI, fd, ps, gC, T, hno, iC, tI, hb, F⟩ := o.has
  refine PS.imp (ps_raise hc tk (pmk_oex (dvs := []) T iC tI F hr hb .nil passes0 hg gC (a1 ha a0 he) hdb he hpl)) fun D σ H ⟨HF, L, ρ, S, R, p⟩ => ⟨HF, L, ρ, S, R, PostS.bind p fun ds S1 vs H1 HF1 L1 e1 st1 R1 r1 p1 => ?_⟩
  split at p1
  · rename_i d
    obtain ⟨v, rfl, rv⟩ := Reps.one1 r1
    refine ⟨by simp, fun a ha => ?_⟩
    refine ⟨a, C, v, rfl, T, hno, upd_same, fun dx hdx ne => ⟨rfl, dx, [(f, v)], upd_same, ?_, ?_, ?_⟩⟩
    · rw [upd_ne ne, upd_same]
    · rw [upd_ne ne] at hdx; exact hdx
    · rw [upd_ne ne] at hdx
      rw [heap_same ha ne]
      obtain ⟨R2, st2⟩ := R1.frozen (o := .xd [(f, v)]) hdx
      exact p1 σ _ _ _ st2 R2 _ _ ⟨C, gC, rfl, dx, v, rfl, upd_same, Rep.mono (same_upd (R1.hf hdx)) rv⟩
  · exact p1.elim
/-- __init__(self, f): self.f = f keeps it -/
theorem fn_init {P : Program} {w : World} {G : Gd} {base : Heap} {f qual : Str} {st : Stmt} {fI : Addr} {fd : FuncData} {k : Nat} {q1 q2 q3 q4 : Pos} (F : Fun G.K "__init__" qual st fI fd) (Sc : FnScope ["self", f] ["self", f] (defScope st))
    (hb : defBody st = [.Assign [.Attribute (.Name "self" q1) f q2] (.Name f q3) q4]) (h0 : (f == ("__debug__" : Str)) = false := by decide) (h1 : (f == ("__classdict__" : Str)) = false := by decide)
    (hv0 : Vis (defScope st) "self" := by first | exact Or.inl rfl | exact Or.inr (Or.inl rfl) | exact Or.inr (Or.inr rfl)) (hv1 : Vis (defScope st) f := by first | exact Or.inl rfl | exact Or.inr (Or.inl rfl) | exact Or.inr (Or.inr rfl)) :
    FnOk P w G.K G.mg base (L2.CX P w) (k + 1) fI fd ["self", f] (spInit G.K f) := by
  refine F.okX Sc (fun vs H Q E ⟨a, C, v, e, _⟩ => by rw [e]; rfl) fun cdv A outer s H vs Q E hr h => ⟨tOst G.K f (tVar 0) (tVar 1), ?_, ?_⟩
  · rw [hb]
    exact pss_one (ps_ost (pe_var (i := 0) rfl hv0) (pe_var (i := 1) rfl hv1 h0 h1) rfl)
  · obtain ⟨a, C, v, rfl, T, hno, ha, hq⟩ := h
    refine ⟨v, rfl, .ref a, rfl, a, C, rfl, T, hno, .inl ⟨ha, fun dx n ne => hq dx n ne⟩⟩
/-- raise X('..'), X without an own __init__ -/
def mRaise0 (x : Str) : DSn := fun ρ S => .ok (.ex ⟨x, none⟩, ρ) S
structure OwnP (G : Gd) (x : Str) : Prop where
  has : ∃ (C : Addr) (bmB : List Value) (B newId initId : String), G.mg x = some (.ref C) ∧ ExcBaseFacts B newId initId bmB ∧ PySem.W.excIn G.K C bmB newId = true ∧ PySem.W.keepIn G.K (.ref C) = true ∧ PySem.W.subIn G.K (.ref C) (.type "BaseException") = some true ∧ PySem.W.typeIn G.K (.ref C) = some (.type "type")
theorem sraise0 {x m : Str} {j : Nat} (o : OwnP (gd X W) x) (hc : X.calm = true) (tk : Takes X W.w) (hg : Gl X x := by rfl) (hdb : (x == ("__debug__" : Str)) = false := by decide) :
    DS X W (.Raise (some (.Call (.Name x p) [.Constant (.str m) j p2] [] pos')) none pos) (mRaise0 x) := by
  obtain ⟨C, bmB, B, nw, ini, gC, F, q, kC, h1, h2⟩ := o.has
  refine PS.imp (ps_raise hc tk (pmk_own F q gC kC (raises_own h1 h2) hg hdb)) fun D σ H ⟨HF, L, ρ, S, R, p⟩ => ?_
  exact p.done R _ _ ⟨C, gC, rfl, rfl⟩
end
end DL
namespace DL
open PySem
/-- the statements of a class's text -/
def clsBody : Stmt → List Stmt
  | .ClassDef _ _ _ b _ _ _ _ _ _ _ => b
  | _ => []
end DL

/-! the layer of data: try: .. except X as e: .. -/
namespace DL
open PySem L2
/-! ### the caught exception's place in the representation -/
section
variable {K : PySem.W.Frag} {mg : Str → Option Value} {xi xj : Option (Addr × Value × Option Addr)} {HF : Hp}
theorem Rep.cx : ∀ {d : D} {v : V}, Rep ⟨K, mg, xi⟩ HF v d → Rep ⟨K, mg, xj⟩ HF v d := by
  intro d v h
  refine Rep.rec (motive_1 := fun v d _ => Rep ⟨K, mg, xj⟩ HF v d) (motive_2 := fun vs ds _ => Reps ⟨K, mg, xj⟩ HF vs ds) ?_ ?_ ?_ ?_ ?_ ?_ ?_ ?_ ?_ ?_ ?_ ?_ ?_ ?_ h
  · exact .non
  · exact fun b => .bl b
  · exact fun i => .int i
  · exact fun x => .str x
  · exact fun h1 _ h2 => .tup h1 h2
  · exact fun h1 _ h2 => .lst h1 h2
  · exact fun h1 _ h2 => .rol h1 h2
  · exact fun h1 => .fn h1
  · exact fun h1 => .rng h1
  · exact fun h1 h2 _ h3 => .ptp h1 h2 h3
  · exact fun h1 h2 h3 _ h4 => .dck h1 h2 h3 h4
  · exact fun h1 h2 h3 h4 _ h5 => .dct h1 h2 h3 h4 h5
  · exact .nil
  · exact fun _ _ h1 h2 => .cons h1 h2
theorem Reps.cx : ∀ {ds : List D} {vs : List V}, Reps ⟨K, mg, xi⟩ HF vs ds → Reps ⟨K, mg, xj⟩ HF vs ds
  | [], _, h => by cases h; exact .nil
  | d :: ds, _, h => by
    cases h with
    | cons h1 h2 => exact .cons (Rep.cx h1) (Reps.cx h2)
theorem ExRep.cx {x : Exn} {cls : Value} {dd : Option Addr} (h : ExRep ⟨K, mg, xi⟩ x HF cls dd) : ExRep ⟨K, mg, xj⟩ x HF cls dd := by
  obtain ⟨C, h1, h2, h3⟩ := h
  refine ⟨C, h1, h2, ?_⟩
  cases q : x.arg with
  | none => rw [q] at h3; exact h3
  | some p =>
    rw [q] at h3
    obtain ⟨a, v, k1, k2, k3⟩ := h3
    exact ⟨a, v, k1, k2, Rep.cx k3⟩
def noex (ρ : DL.Env) : DL.Env := ρ.map fun o => match o with
  | some (.exn _) => none
  | some (.lam _ _) => none
  | o => o
variable {H : Hp} {L : List Addr} {σ : L2.St} {ρ : DL.Env} {S : Store}
theorem Rel.intoX (R : Rel ⟨K, mg, none⟩ H HF L σ ρ S) : Rel ⟨K, mg, xj⟩ H HF L σ ρ S := by
  refine ⟨R.sub, R.nd, R.sl, R.liv, R.tab, R.nft, fun n a c h1 h2 => ?_, R.el, fun i e h => ?_⟩
  · obtain ⟨q1, q2⟩ := R.cell n a c h1 h2
    refine ⟨q1, ?_⟩
    cases c with
    | lst ds =>
      obtain ⟨us, q3, q4⟩ := q2
      exact ⟨us, q3, (Reps.cx q4)⟩
    | dk kvs =>
      obtain ⟨us, q3, q5, q4⟩ := q2
      exact ⟨us, q3, q5, (Reps.cx q4)⟩
    | dt kvs =>
      obtain ⟨us, q3, q5, q4⟩ := q2
      exact ⟨us, q3, q5, (Reps.cx q4)⟩
  · obtain ⟨v, q1, q2⟩ := R.env i e h
    refine ⟨v, q1, ?_⟩
    cases e with
    | v d => exact Rep.cx q2
    | cel n => exact q2
    | exn x => obtain ⟨_, _, _, z, _⟩ := q2; cases z
    | lam ws ds => obtain ⟨_, _, _, _, z, _⟩ := q2; cases z
    | cls ns => exact q2
theorem Rel.outX (R : Rel ⟨K, mg, xj⟩ H HF L σ ρ S) (i : Nat) : Rel ⟨K, mg, none⟩ H HF L (σ.set i none) ((noex ρ).set i none) S := by
  refine ⟨R.sub, R.nd, R.sl, R.liv, R.tab, R.nft, fun n a c h1 h2 => ?_, ?_, fun j e h => ?_⟩
  · obtain ⟨q1, q2⟩ := R.cell n a c h1 h2
    refine ⟨q1, ?_⟩
    cases c with
    | lst ds =>
      obtain ⟨us, q3, q4⟩ := q2
      exact ⟨us, q3, (Reps.cx q4)⟩
    | dk kvs =>
      obtain ⟨us, q3, q5, q4⟩ := q2
      exact ⟨us, q3, q5, (Reps.cx q4)⟩
    | dt kvs =>
      obtain ⟨us, q3, q5, q4⟩ := q2
      exact ⟨us, q3, q5, (Reps.cx q4)⟩
  · unfold noex
    simpa using R.el
  · by_cases hj : j = i
    · subst hj
      by_cases hl : j < (noex ρ).length
      · rw [List.getElem?_set_self hl] at h; cases h
      · rw [List.getElem?_eq_none (by simpa using hl)] at h; cases h
    · rw [List.getElem?_set_ne (Ne.symm hj)] at h ⊢
      unfold noex at h
      rw [List.getElem?_map] at h
      cases q : ρ[j]? with
      | none => rw [q] at h; cases h
      | some o =>
        rw [q] at h
        cases o with
        | none => cases h
        | some e' =>
          cases e' with
          | v d =>
            cases h
            obtain ⟨v, q1, q2⟩ := R.env j _ q
            exact ⟨v, q1, Rep.cx q2⟩
          | cel n =>
            cases h
            exact R.env j _ q
          | exn x => cases h
          | lam ws ds => cases h
          | cls ns =>
            cases h
            exact R.env j _ q
end
/-! ### the clause -/
/-- what an except clause does with an end of the body -/
def mTry (i : Nat) (c : Str → Option Bool) (fb fs : DSn) : DSn := fun ρ S => match fb ρ S with
  | .ok (.ex x, ρ1) S1 => match c x.cls with
    | some true => match fs (ρ1.set i (some (.exn x))) S1 with
      | .ok (.nx, ρ2) S2 => .ok (.nx, (noex ρ2).set i none) S2
      | .ok (.bk, ρ2) S2 => .ok (.bk, (noex ρ2).set i none) S2
      | .ok (.ct, ρ2) S2 => .ok (.ct, (noex ρ2).set i none) S2
      | .ok (.rt d, ρ2) S2 => .ok (.rt d, (noex ρ2).set i none) S2
      | _ => .bad
    | some false => .ok (.ex x, ρ1) S1
    | none => .bad
  | o => o
section
variable {X : Cx} {W : WD} {pos pos' np : Pos} {x n : Str} {i : Nat} {body suite : List Stmt} {b₀ : Stmt} {fb fs : DSn} {cat : Str → Option Bool} {Cx0 : Addr}
theorem stry (hxi : W.xi = none) (hs : X.stack = X.env :: X.outer) (hf : X.env.frame = some X.env.locals) (hN : X.N.Nodup) (hi : X.N[i]? = some n) (hln : X.env.kindOf n = some .local) (hc : Names X x (.ref Cx0)) (tk : Takes X W.w)
    (hcat : ∀ y b C, cat y = some b → X.mg y = some (.ref C) → PySem.W.exmOne X.K (.ref C) (.ref Cx0) = some b)
    (hb : ∀ (W' : WX) (pn : List (Addr × Obj)) (xe : Value → Shared → Prop), Takes (X.tr pn xe) W' → PassesOwn (model X.prog X.w) X.A X.env xe → DSs (X.tr pn xe) ⟨W', none⟩ body fb)
    (hsu : ∀ (a : Addr) (oe : Obj) (cls : Value) (d : Option Addr) (pn : List (Addr × Obj)), Zc cls d oe → (∃ vs, oe.data = .fields vs) → DSs (X.suite a ((a, oe) :: pn)) ⟨fun _ _ _ _ => False, some (a, cls, d)⟩ (b₀ :: suite) fs) :
    DS X W (.Try body [.ExceptHandler (some (.Name x np)) (some n) (b₀ :: suite) pos'] [] [] pos) (mTry i cat fb fs) := by
  obtain ⟨Ww, Wx⟩ := W
  obtain rfl : Wx = none := hxi
  refine PS.imp (ps_try_as (i := i) (tb := fun W' => tS (gd X ⟨W', none⟩) ⟨W', none⟩ fb) (ts := fun a cls d => tS (gd X ⟨fun _ _ _ _ => False, some (a, cls, d)⟩) ⟨fun _ _ _ _ => False, some (a, cls, d)⟩ fs) hs hf hN hi hln hc tk hb hsu) fun D σ H ⟨HF, L, ρ, S, R, p⟩ => ⟨HF, L, ρ, S, R, ?_⟩
  unfold mTry at p
  cases q : fb ρ S with
  | bad => rw [q] at p; exact p.elim
  | ex y S1 => rw [q] at p; exact p.elim
  | ok cr S1 =>
    obtain ⟨c, ρ1⟩ := cr
    rw [q] at p
    intro σ1 H1 HF1 L1 st1 R1
    cases c with
    | nx => exact p σ1 H1 HF1 L1 st1 R1
    | bk => exact p σ1 H1 HF1 L1 st1 R1
    | ct => exact p σ1 H1 HF1 L1 st1 R1
    | rt d => exact p σ1 H1 HF1 L1 st1 R1
    | ex y =>
      intro cls dd ex
      obtain ⟨C, gC, eC, _⟩ := id ex
      dsimp only at p
      cases hq : cat y.cls with
      | none => rw [hq] at p; exact p.elim
      | some b =>
        rw [hq] at p
        subst eC
        refine ⟨b, hcat _ _ _ hq gC, fun e a ha => ?_, fun e => ?_⟩
        · subst e
          dsimp only at p
          refine ⟨HF1, L1, ρ1.set i (some (.exn y)), S1, (R1.intoX (xj := some (a, .ref C, dd))).store (e := .exn y) ⟨a, .ref C, dd, rfl, rfl, ExRep.cx ex⟩ i, ?_⟩
          cases qs : fs (ρ1.set i (some (.exn y))) S1 with
          | bad => rw [qs] at p; exact p.elim
          | ex z S2 => rw [qs] at p; exact p.elim
          | ok cr S2 =>
            obtain ⟨c, ρ2⟩ := cr
            rw [qs] at p
            intro σ2 H2 HF2 L2 st2 R2
            cases c with
            | nx => exact p _ _ _ _ (st1.trans st2) (R2.outX i)
            | bk => exact p _ _ _ _ (st1.trans st2) (R2.outX i)
            | ct => exact p _ _ _ _ (st1.trans st2) (R2.outX i)
            | rt d => exact fun v rv => p _ _ _ _ (st1.trans st2) (R2.outX i) v (Rep.cx rv)
            | ex z => exact p.elim
        · subst e
          exact p σ1 H1 HF1 L1 st1 R1 _ _ ex
end
/-! ### isinstance(e, X), e.f -/
/-- isinstance(e, c), e the exception that the suite holds, with a dict or without -/
def rIsX (K : PySem.W.Frag) (cls : Value) (dd : Option Addr) (a : Addr) : List V → Hp → VK → Prop := fun xs H Q => ∃ (c : V) (cv : Value) (b : Bool) (C : Addr), xs = [.ref a, c] ∧ cls = .ref C ∧ ExcC K C ∧ (dd = none ∨ ∃ da fs, dd = some da ∧ H da = some (.xd fs)) ∧
  (∀ u, RelV c u → u = cv) ∧ PySem.W.kitOne K (.ref C) cv = some b ∧ Q (.bl b) H
theorem call_isX {X : Cx} {a : Addr} {oe : Obj} {cls : Value} {dd : Option Addr} {pn : List (Addr × Obj)} (hz : Zc cls dd oe) (hf : ∃ vs, oe.data = .fields vs) : CallR (X.suite a ((a, oe) :: pn)) (.builtin "isinstance") (rIsX X.K cls dd a) := by
  intro pn0 s σ H xs us Q I rv hx0
  obtain ⟨c, cv, b, C, rfl, eC, XC, hd, hcv, e, q⟩ := hx0
  subst eC
  cases rv with
  | cons rx rr =>
    cases rr with
    | cons rt rr =>
      cases rr
      cases rx
      have ec := hcv _ rt
      subst ec
      have hpin := (I.pin (a, oe) (List.mem_append.mpr (Or.inl List.mem_cons_self))).1
      obtain ⟨vs, hv⟩ := hf
      obtain ⟨od, J⟩ : ∃ od, PySem.W.InstAt s.heap a oe C od := by
        rcases hd with hd | ⟨da, fs, hd, ea⟩
        · refine ⟨none, ?_⟩
          subst hd
          obtain ⟨g1, g2, g3, g4⟩ := oe
          obtain ⟨h1, h2⟩ := hz
          dsimp only at h1 h2 hv
          subst h1 h2 hv
          exact ⟨hpin, rfl, rfl, trivial⟩
        · subst hd
          have hx : ObjOk X.prog X.w H s.heap da (.xd fs) := I.hok da _ ea
          obtain ⟨mA, hns, hr⟩ := hx
          obtain ⟨ob, hob, hlo⟩ := lookIn_ns hns
          exact ⟨some ob, hpin, hz.1, by unfold PySem.W.notCls; rw [hv] <;> rfl, by rw [hz.2]; exact hob⟩
      have hcl : (PySem.W.clsIn X.K C).isSome = true := by
        obtain ⟨cd, hc, _⟩ := PySem.W.any_some XC.hd
        rw [hc]; rfl
      exact PySem.W.kia_one (PySem.W.kitx_exc hcl XC.hg XC.hk XC.hs XC.ha XC.hn XC.ht XC.hm) I.kIn J e (fun z => nomatch z) fun tk => ⟨.bl b, H, I.kept (t' := tk) fun _ _ z => z, rfl, q⟩
/-- which classes' exceptions are of which classes -/
structure XTab (K : PySem.W.Frag) (mg : Str → Option Value) (tab : Str → Str → Option Bool) : Prop where
  is : ∀ y t b, tab y t = some b → ∀ C, mg y = some (.ref C) → ExcC K C ∧ ∃ CT, mg t = some (.ref CT) ∧ PySem.W.kitOne K (.ref C) (.ref CT) = some b
def mIsE (i : Nat) (tab : Str → Str → Option Bool) (t : Str) : DEn := fun ρ S => match ρ[i]? with
  | some (some (.exn x)) => lift ((tab x.cls t).map D.bl) S
  | _ => .bad
/-- which classes' exceptions have which field -/
structure XFld (K : PySem.W.Frag) (mg : Str → Option Value) (fl : Str → Str → Bool) : Prop where
  is : ∀ y f, fl y f = true → ∀ C, mg y = some (.ref C) → XfC K C ∧ PySem.W.findIn K (.ref C) f = some none
def mXf (i : Nat) (fl : Str → Str → Bool) (f : Str) : DEn := fun ρ S => match ρ[i]? with
  | some (some (.exn x)) => match x.arg with
    | some (g, d) => if fl x.cls f = true ∧ g = f then .ok d S else .bad
    | none => .bad
  | _ => .bad
section
variable {X : Cx} {pos p pe pt : Pos} {n t f : Str} {i : Nat} {tab : Str → Str → Option Bool} {a : Addr} {oe : Obj} {cls : Value} {dd : Option Addr} {pn : List (Addr × Obj)} {Ww : Value → Option Addr → L2.St → Hp → Prop}
theorem xisE (i : Nat) (T : XTab X.K X.mg tab) (CT : Addr) (gT : X.mg t = some (.ref CT)) (hz : Zc cls dd oe) (hf : ∃ vs, oe.data = .fields vs) (hm : X.mg "isinstance" = none) (hN : X.N[i]? = some n := by rfl)
    (hv : Vis X.env.scope n := by first | exact Or.inl rfl | exact Or.inr (Or.inl rfl) | exact Or.inr (Or.inr rfl)) (hg : Gl X "isinstance" := by rfl) (hgT : Gl X t := by rfl) (hd : (n == ("__debug__" : Str)) = false := by decide) (hcd : (n == ("__classdict__" : Str)) = false := by decide) (hdT : (t == ("__debug__" : Str)) = false := by decide)
    (he : starEach [Expr.Name n pe, .Name t pt] X.env = (false, eval (.Name n pe) X.env) :: starEach [.Name t pt] X.env := by rfl) (he2 : starEach [.Name t pt] X.env = (false, eval (.Name t pt) X.env) :: starEach [] X.env := by rfl) (hpl : (backTo pos (starEach [.Name t pt] X.env)).any (·.1) = false := by rfl) :
    DE (X.suite a ((a, oe) :: pn)) ⟨Ww, some (a, cls, dd)⟩ (.Call (.Name "isinstance" p) [.Name n pe, .Name t pt] [] pos) (mIsE i tab t) := by
  refine PE.imp (pe_callB (X := X.suite a ((a, oe) :: pn)) (call_isX (X := X) hz hf) hg hm PyProof.Rows.boot_isinstance (pa_cons (X := X.suite a ((a, oe) :: pn)) (pe_var (X := X.suite a ((a, oe) :: pn)) (i := i) hN hv hd hcd) (pa_cons (X := X.suite a ((a, oe) :: pn)) (pe_glob (X := X.suite a ((a, oe) :: pn)) (v := .ref CT) hgT gT rfl hdT) pa_nil he2) he) (by decide) (by decide) he hpl) fun σ H Q ⟨HF, L, ρ, S, R, q⟩ => ?_
  unfold mIsE at q
  split at q
  · rename_i x e
    obtain ⟨v, h1, a', cls', dd', h2, h3, h4⟩ := R.env i _ e
    cases h2
    obtain ⟨d, ed, q2⟩ := q.lift
    cases et : tab x.cls t with
    | none => rw [et] at ed; cases ed
    | some b =>
      rw [et] at ed
      cases ed
      obtain ⟨C, gC, eC, harg⟩ := h4
      obtain ⟨XC, CT', gT', hk⟩ := T.is _ _ _ et C gC
      have : CT' = CT := by rw [gT] at gT'; cases gT'; rfl
      subst this
      refine ⟨v, h1, ?_⟩
      subst h3
      refine ⟨.ref CT', .ref CT', b, C, rfl, eC, XC, ?_, fun u hu => hu, hk, q2.done R .no (.bl b)⟩
      cases qx : x.arg with
      | none => rw [qx] at harg; exact .inl harg
      | some g =>
        rw [qx] at harg
        obtain ⟨da, w, k1, k2, _⟩ := harg
        exact .inr ⟨da, _, k1, R.sub _ _ k2⟩
  · exact q.elim
theorem xxf {fl : Str → Str → Bool} (i : Nat) (T : XFld X.K X.mg fl) (hz : Zc cls dd oe) (hf : ∃ vs, oe.data = .fields vs) (hN : X.N[i]? = some n := by rfl)
    (hv : Vis X.env.scope n := by first | exact Or.inl rfl | exact Or.inr (Or.inl rfl) | exact Or.inr (Or.inr rfl)) (hd : (n == ("__debug__" : Str)) = false := by decide) (hcd : (n == ("__classdict__" : Str)) = false := by decide)
    (hb : attributeBase (.Name n pe) f X.env (eval (.Name n pe) X.env) = eval (.Name n pe) X.env := by rfl) :
    DE (X.suite a ((a, oe) :: pn)) ⟨Ww, some (a, cls, dd)⟩ (.Attribute (.Name n pe) f pos) (mXf i fl f) := by
  have key : ∀ {σ : L2.St} {H : Hp} {Q : VK}, tD (gd (X.suite a ((a, oe) :: pn)) ⟨Ww, some (a, cls, dd)⟩) ⟨Ww, some (a, cls, dd)⟩ (mXf i fl f) σ H Q →
      ∃ C, cls = .ref C ∧ (XfC X.K C ∧ PySem.W.findIn X.K (.ref C) f = some none) ∧ tXf a cls dd C f (tVar i) σ H Q := by
    intro σ H Q ⟨HF, L, ρ, S, R, q⟩
    unfold mXf at q
    split at q
    · rename_i x e
      obtain ⟨v, h1, a', cls', dd', h2, h3, h4⟩ := R.env i _ e
      cases h2
      obtain ⟨C, gC, eC, harg⟩ := h4
      cases qx : x.arg with
      | none => rw [qx] at q; exact q.elim
      | some p =>
        obtain ⟨g, d⟩ := p
        rw [qx] at q harg
        dsimp only at q harg
        split at q
        · rename_i hh
          obtain ⟨hfl, rfl⟩ := hh
          obtain ⟨da, w, k1, k2, k3⟩ := harg
          refine ⟨C, eC, T.is _ _ hfl C gC, v, h1, h3, eC, da, _, w, k1, R.sub _ _ k2, ?_, q.done R .no k3⟩
          simp
        · exact q.elim
    · exact q.elim
  by_cases hC : ∃ C, cls = .ref C ∧ (XfC X.K C ∧ PySem.W.findIn X.K (.ref C) f = some none)
  · obtain ⟨C, eC, h1, h2⟩ := hC
    refine PE.imp (pe_xf (X := X) h1 h2 hz hf (pe_var (X := X.suite a ((a, oe) :: pn)) (i := i) hN hv hd hcd) hb) fun σ H Q h => ?_
    obtain ⟨C', eC', _, k⟩ := key h
    rw [eC] at eC'
    cases eC'
    exact k
  · refine ⟨fun pins s σ H Q I h => ?_⟩
    obtain ⟨C', eC', h1, _⟩ := key h
    exact absurd ⟨C', eC', h1⟩ hC
end
end DL

/-! the layer of data: comprehensions of two clauses -/
namespace DL
open PySem PySem.Spec PyProof.Rows L2
def lcL2 (t : Tg) (tt : DTn) (fi : DDn) (vs1 : List Nat) (t1 : Tg) (tt1 : DTn) (fe : DEn) (ρ : DL.Env) : List D → Store → List D → Out (List D)
  | [], S, acc => .ok acc S
  | d :: ds, S, acc => match asg t d ρ with
    | none => .bad
    | some ρ1 => (tt ρ1 S).bd fun b S1 => if b = true then (fi ρ1 S1).bd fun es S2 => (lcL t1 tt1 fe (wipeE ρ1 vs1) es S2 acc).bd fun acc2 S3 => lcL2 t tt fi vs1 t1 tt1 fe ρ ds S3 acc2 else lcL2 t tt fi vs1 t1 tt1 fe ρ ds S1 acc
def mLc2 (fi : DDn) (t : Tg) (tt : DTn) (fi1 : DDn) (vs1 : List Nat) (t1 : Tg) (tt1 : DTn) (fe : DEn) (vs : List Nat) : DEn := fun ρ S => (fi ρ S).bind fun ds S1 => (lcL2 t tt fi1 vs1 t1 tt1 fe (wipeE ρ vs) ds S1 []).bind fun ys S2 => .ok (.lst ys) S2
section
variable {X : Cx} {W : WD} {pos : Pos} {a b c : Expr} {fa fb fc : DEn} {es : List Expr} {tg tg1 : Expr}
theorem lc2_read {fi fi1 : DDn} {t t1 : Tg} {tt tt1 : DTn} {fe : DEn} {vs vs1 : List Nat} (hsl : ∀ i ∈ t.slots, i ∈ vs) (hsl1 : ∀ i ∈ t1.slots, i ∈ vs1) {σ : L2.St} {H : Hp} {Q : VK} (h : tD (gd X W) W (mLc2 fi t tt fi1 vs1 t1 tt1 fe vs) σ H Q) :
    tLc2 (tI (gd X W) W fi) (tgG X.K t) (tT (gd X W) W.z tt) (tI (gd X W) W.z fi1) (tgG X.K t1) (tT (gd X W) W.z tt1) (tD (gd X W) W.z fe) vs vs1 σ H Q := by
  obtain ⟨HF, L, ρ, S, R, p⟩ := h
  refine ⟨HF, L, ρ, S, R, Post.bind p fun ds S1 J H1 HF1 L1 e1 st1 R1 rJ p1 => fun Dl hD => ?_⟩
  have hDL := R1.out hD
  have hDF := R1.hf hD
  refine ⟨fun i m Hh => m = ds.length - i ∧ i ≤ ds.length ∧ ∃ HFh Lh Sh acc vacc, Rel (gd X W) Hh HFh Lh σ ρ Sh ∧ Step H1 HF1 L1 Hh HFh Lh ∧ Hh Dl = some (.lst vacc) ∧ HFh Dl = none ∧ Dl ∉ Lh ∧ Reps (gd X W) HFh vacc acc ∧
    Post (gd X W) W σ ρ H1 HF1 L1 (fun HF' _ v d => Rep (gd X W) HF' v d) Q ((lcL2 t tt fi1 vs1 t1 tt1 fe (wipeE ρ vs) (ds.drop i) Sh acc).bind fun ys S2 => .ok (.lst ys) S2), ⟨ds.length, by simp, Nat.zero_le _, HF1, L1, S1, [], [], R1.aside hDL hDF (by rw [hD]; simp), Step.put Step.refl hD, upd_same, hDF, hDL, .nil, by simpa using p1⟩, ?_⟩
  rintro i m Hh ⟨rfl, hi, HFh, Lh, Sh, acc, vacc, Rh, sth, hv, hFv, hLv, ra, ph⟩
  have s01 : Same HF1 HFh := sth.fro
  by_cases hlt : i < ds.length
  · refine .inr ⟨rJ.go i Hh HFh s01 Rh.sub hlt, fun H' => (ds.length - (i + 1)) = ds.length - (i + 1) ∧ i + 1 ≤ ds.length ∧ ∃ HFh Lh Sh acc vacc, Rel (gd X W) H' HFh Lh σ ρ Sh ∧ Step H1 HF1 L1 H' HFh Lh ∧ H' Dl = some (.lst vacc) ∧ HFh Dl = none ∧ Dl ∉ Lh ∧ Reps (gd X W) HFh vacc acc ∧
      Post (gd X W) W σ ρ H1 HF1 L1 (fun HF' _ v d => Rep (gd X W) HF' v d) Q ((lcL2 t tt fi1 vs1 t1 tt1 fe (wipeE ρ vs) (ds.drop (i + 1)) Sh acc).bind fun ys S2 => .ok (.lst ys) S2), fun H' hw => ⟨_, by omega, hw⟩, fun x H2 hy => ?_⟩
    have ed : ds.drop i = ds[i] :: ds.drop (i + 1) := List.drop_eq_getElem_cons hlt
    rw [ed] at ph
    obtain ⟨HF2, al, rx⟩ := rJ.yld i x Hh HFh H2 ds[i] s01 Rh.sub (List.getElem?_eq_getElem hlt) hy
    obtain ⟨R2, st2⟩ := Rh.al al
    have nl : ∀ xs, Nt (.lst xs) := fun _ _ h => by cases h
    have hv2 : H2 Dl = some (.lst vacc) := st2.keep Dl _ hLv (nl _) hv
    have hF2 := st2.new Dl _ hLv hFv (by trivial) hv
    have Rw := R2.wipe vs
    have ph : Post (gd X W) W σ ρ H1 HF1 L1 (fun HF' _ v d => Rep (gd X W) HF' v d) Q (Out.bind (match asg t ds[i] (wipeE ρ vs) with
      | none => .bad
      | some ρ1 => (tt ρ1 Sh).bd fun b S1 => if b = true then (fi1 ρ1 S1).bd fun es S2 => (lcL t1 tt1 fe (wipeE ρ1 vs1) es S2 acc).bd fun acc2 S3 => lcL2 t tt fi1 vs1 t1 tt1 fe (wipeE ρ vs) (ds.drop (i + 1)) S3 acc2 else lcL2 t tt fi1 vs1 t1 tt1 fe (wipeE ρ vs) (ds.drop (i + 1)) S1 acc) fun ys S2 => .ok (.lst ys) S2) := ph
    cases ea : asg t ds[i] (wipeE ρ vs) with
    | none => rw [ea] at ph; exact ph.elim
    | some ρ1 =>
      rw [ea] at ph
      dsimp only at ph
      refine tgG_ok (G := gd X W) t Rw rx ea fun ws hws R3 => ⟨?_, ?_⟩
      · rw [wipe_sets vs ws _ fun p hp => hsl _ (hws p hp), wipe_wipe]
      generalize sets (L2.wipe σ vs) ws = σ2 at R3 ⊢
      refine ⟨HF2, Lh, ρ1, Sh, R3, ?_⟩
      cases et : tt ρ1 Sh with
      | bad => rw [et] at ph; exact ph.elim
      | ex x S' => rw [et] at ph; exact ph.elim
      | ok bb S3 =>
        rw [et] at ph
        intro b' H3 HF3 L3 st3 R4 eb
        cases eb
        have hv3 := st3.keep Dl _ hLv (nl _) hv2
        have hF3 := st3.new Dl _ hLv hF2 (by trivial) hv2
        have hL3 : Dl ∉ L3 := st3.keepL hLv hv2
        cases bb with
        | false =>
          rw [if_neg Bool.false_ne_true]
          exact ⟨rfl, hlt, HF3, L3, S3, acc, vacc, R2.reenv st3 R4, sth.trans (st2.trans st3), hv3, hF3, hL3, ra.mono (st2.fro.trans st3.fro), ph⟩
        | true =>
          rw [if_pos rfl]
          refine ⟨HF3, L3, ρ1, S3, R4, ?_⟩
          have ph : Post (gd X W) W σ ρ H1 HF1 L1 (fun HF' _ v d => Rep (gd X W) HF' v d) Q (Out.bind ((fi1 ρ1 S3).bd fun es S2 => (lcL t1 tt1 fe (wipeE ρ1 vs1) es S2 acc).bd fun acc2 S3 => lcL2 t tt fi1 vs1 t1 tt1 fe (wipeE ρ vs) (ds.drop (i + 1)) S3 acc2) fun ys S2 => .ok (.lst ys) S2) := ph
          cases ef : fi1 ρ1 S3 with
          | bad => rw [ef] at ph; exact ph.elim
          | ex x S' => rw [ef] at ph; exact ph.elim
          | ok es4 S4 =>
            rw [ef] at ph
            intro J1 H4 HF4 L4 st4 R5 rJ1
            have ph : Post (gd X W) W σ ρ H1 HF1 L1 (fun HF' _ v d => Rep (gd X W) HF' v d) Q (Out.bind ((lcL t1 tt1 fe (wipeE ρ1 vs1) es4 S4 acc).bd fun acc2 S3 => lcL2 t tt fi1 vs1 t1 tt1 fe (wipeE ρ vs) (ds.drop (i + 1)) S3 acc2) fun ys S2 => .ok (.lst ys) S2) := ph
            have hv4 := st4.keep Dl _ hL3 (nl _) hv3
            have hF4 := st4.new Dl _ hL3 hF3 (by trivial) hv3
            have hL4 : Dl ∉ L4 := st4.keepL hL3 hv3
            have Ro4 := (R2.reenv st3 R4).reenv st4 R5
            have sth4 := sth.trans (st2.trans (st3.trans st4))
            have ra4 := ra.mono (st2.fro.trans (st3.fro.trans st4.fro))
            refine ⟨fun j k Hh => k = es4.length - j ∧ j ≤ es4.length ∧ ∃ HFh Lh Sh acc vacc, Rel (gd X W) Hh HFh Lh σ ρ Sh ∧ Rel (gd X W) Hh HFh Lh σ2 ρ1 Sh ∧ Same HF4 HFh ∧ Step H1 HF1 L1 Hh HFh Lh ∧ Hh Dl = some (.lst vacc) ∧ HFh Dl = none ∧ Dl ∉ Lh ∧ Reps (gd X W) HFh vacc acc ∧
              Post (gd X W) W σ ρ H1 HF1 L1 (fun HF' _ v d => Rep (gd X W) HF' v d) Q (Out.bind ((lcL t1 tt1 fe (wipeE ρ1 vs1) (es4.drop j) Sh acc).bd fun acc2 S3 => lcL2 t tt fi1 vs1 t1 tt1 fe (wipeE ρ vs) (ds.drop (i + 1)) S3 acc2) fun ys S2 => .ok (.lst ys) S2),
              ⟨es4.length, by simp, Nat.zero_le _, HF4, L4, S4, acc, vacc, Ro4, R5, Same.refl _, sth4, hv4, hF4, hL4, ra4, by simpa using ph⟩, ?_⟩
            clear ph hv4 hF4 hL4 Ro4 sth4 ra4
            rintro j k Hk ⟨rfl, hj, HFk, Lk, Sk, acck, vacck, Rok, Rk, s4k, stk, hvk, hFk, hLk, rak, phk⟩
            by_cases hjl : j < es4.length
            · refine .inr ⟨rJ1.go j Hk HFk s4k Rk.sub hjl, fun H' => ∃ HFh Lh Sh acc vacc, Rel (gd X W) H' HFh Lh σ ρ Sh ∧ Rel (gd X W) H' HFh Lh σ2 ρ1 Sh ∧ Same HF4 HFh ∧ Step H1 HF1 L1 H' HFh Lh ∧ H' Dl = some (.lst vacc) ∧ HFh Dl = none ∧ Dl ∉ Lh ∧ Reps (gd X W) HFh vacc acc ∧
                Post (gd X W) W σ ρ H1 HF1 L1 (fun HF' _ v d => Rep (gd X W) HF' v d) Q (Out.bind ((lcL t1 tt1 fe (wipeE ρ1 vs1) (es4.drop (j + 1)) Sh acc).bd fun acc2 S3 => lcL2 t tt fi1 vs1 t1 tt1 fe (wipeE ρ vs) (ds.drop (i + 1)) S3 acc2) fun ys S2 => .ok (.lst ys) S2), fun H' hw => ⟨es4.length - (j + 1), by omega, rfl, hjl, hw⟩, fun x5 H5 hy5 => ?_⟩
              have ed1 : es4.drop j = es4[j] :: es4.drop (j + 1) := List.drop_eq_getElem_cons hjl
              rw [ed1] at phk
              obtain ⟨HF5, al5, rx5⟩ := rJ1.yld j x5 Hk HFk H5 es4[j] s4k Rk.sub (List.getElem?_eq_getElem hjl) hy5
              obtain ⟨R6, st6⟩ := Rk.al al5
              have Ro6 := Rok.reenv st6 R6
              have hv6 := st6.keep Dl _ hLk (nl _) hvk
              have hF6 := st6.new Dl _ hLk hFk (by trivial) hvk
              have Rw6 := R6.wipe vs1
              have phk : Post (gd X W) W σ ρ H1 HF1 L1 (fun HF' _ v d => Rep (gd X W) HF' v d) Q (Out.bind (Out.bd (match asg t1 es4[j] (wipeE ρ1 vs1) with
                | none => .bad
                | some ρ1 => (tt1 ρ1 Sk).bd fun b S1 => if b = true then (fe ρ1 S1).bd fun y S2 => if acck.length < lim then lcL t1 tt1 fe (wipeE _ vs1) (es4.drop (j + 1)) S2 (acck ++ [y]) else .bad else lcL t1 tt1 fe (wipeE _ vs1) (es4.drop (j + 1)) S1 acck) fun acc2 S3 => lcL2 t tt fi1 vs1 t1 tt1 fe (wipeE ρ vs) (ds.drop (i + 1)) S3 acc2) fun ys S2 => .ok (.lst ys) S2) := phk
              cases ea1 : asg t1 es4[j] (wipeE ρ1 vs1) with
              | none => rw [ea1] at phk; exact phk.elim
              | some ρ2 =>
                rw [ea1] at phk
                dsimp only at phk
                refine tgG_ok (G := gd X W) t1 Rw6 rx5 ea1 fun ws1 hws1 R7 => ⟨?_, ?_⟩
                · rw [wipe_sets vs1 ws1 _ fun p hp => hsl1 _ (hws1 p hp), wipe_wipe]
                refine ⟨HF5, Lk, ρ2, Sk, R7, ?_⟩
                cases et1 : tt1 ρ2 Sk with
                | bad => rw [et1] at phk; exact phk.elim
                | ex x S' => rw [et1] at phk; exact phk.elim
                | ok bb S8 =>
                  rw [et1] at phk
                  intro b' H8 HF8 L8 st8 R8 eb
                  cases eb
                  have hv8 := st8.keep Dl _ hLk (nl _) hv6
                  have hF8 := st8.new Dl _ hLk hF6 (by trivial) hv6
                  have hL8 : Dl ∉ L8 := st8.keepL hLk hv6
                  cases bb with
                  | false =>
                    rw [if_neg Bool.false_ne_true]
                    exact ⟨HF8, L8, S8, acck, vacck, Ro6.reenv st8 R8, R6.reenv st8 R8, s4k.trans (st6.fro.trans st8.fro), stk.trans (st6.trans st8), hv8, hF8, hL8, rak.mono (st6.fro.trans st8.fro), phk⟩
                  | true =>
                    rw [if_pos rfl]
                    refine ⟨HF8, L8, ρ2, S8, R8, ?_⟩
                    have phk : Post (gd X W) W σ ρ H1 HF1 L1 (fun HF' _ v d => Rep (gd X W) HF' v d) Q (Out.bind (Out.bd ((fe ρ2 S8).bd fun y S2 => if acck.length < lim then lcL t1 tt1 fe (wipeE ρ1 vs1) (es4.drop (j + 1)) S2 (acck ++ [y]) else .bad) fun acc2 S3 => lcL2 t tt fi1 vs1 t1 tt1 fe (wipeE ρ vs) (ds.drop (i + 1)) S3 acc2) fun ys S2 => .ok (.lst ys) S2) := phk
                    cases ee : fe ρ2 S8 with
                    | bad => rw [ee] at phk; exact phk.elim
                    | ex x S' => rw [ee] at phk; exact phk.elim
                    | ok y S9 =>
                      rw [ee] at phk
                      have phk : Post (gd X W) W σ ρ H1 HF1 L1 (fun HF' _ v d => Rep (gd X W) HF' v d) Q (Out.bind (Out.bd (if acck.length < lim then lcL t1 tt1 fe (wipeE ρ1 vs1) (es4.drop (j + 1)) S9 (acck ++ [y]) else .bad) fun acc2 S3 => lcL2 t tt fi1 vs1 t1 tt1 fe (wipeE ρ vs) (ds.drop (i + 1)) S3 acc2) fun ys S2 => .ok (.lst ys) S2) := phk
                      intro v H9 HF9 L9 st9 R9 ry
                      split at phk
                      · rename_i hz
                        have hv9 := st9.keep Dl _ hL8 (nl _) hv8
                        have hF9 := st9.new Dl _ hL8 hF8 (by trivial) hv8
                        have hL9 : Dl ∉ L9 := st9.keepL hL8 hv8
                        refine ⟨vacck, hv9, by rw [rak.length]; exact Nat.lt_of_lt_of_le hz lim_le, HF9, L9, S9, acck ++ [y], vacck ++ [v], ((Ro6.reenv st8 R8).reenv st9 R9).aside hL9 hF9 (by rw [hv9]; simp), ((R6.reenv st8 R8).reenv st9 R9).aside hL9 hF9 (by rw [hv9]; simp), s4k.trans (st6.fro.trans (st8.fro.trans st9.fro)), ?_, upd_same, hF9, hL9, (rak.mono (st6.fro.trans (st8.fro.trans st9.fro))).append (.cons ry .nil), phk⟩
                        exact Step.put (stk.trans (st6.trans (st8.trans st9))) hD
                      · exact phk.elim
            · have e : j = es4.length := by omega
              subst e
              refine .inl ⟨rJ1.stop _ Hk HFk s4k Rk.sub (Nat.le_refl _), rfl, hlt, HFk, Lk, Sk, acck, vacck, Rok, stk, hvk, hFk, hLk, rak, ?_⟩
              rw [List.drop_length] at phk
              exact phk
  · have e : i = ds.length := by omega
    subst e
    refine .inl ⟨rJ.stop _ Hh HFh s01 Rh.sub (Nat.le_refl _), ?_⟩
    rw [List.drop_length] at ph
    have ph : Post (gd X W) W σ ρ H1 HF1 L1 (fun HF' _ v d => Rep (gd X W) HF' v d) Q (.ok (.lst acc) Sh) := ph
    refine ph (.ref Dl) Hh (upd HFh Dl (.lst vacc)) Lh ?_ (Rh.adopt hLv hFv hv) (.lst upd_same (ra.mono (same_upd hFv)))
    refine ⟨sth.keep, sth.nn, sth.fro.trans (same_upd hFv), fun b o hb e nt n => ?_, sth.ext⟩
    rw [upd_ne (fun z => by rw [z, hD] at n; cases n)]
    exact sth.new b o hb e nt n
/-- [elt for target in iter if .. for target1 in iter1 if ..] -/
theorem xlc2 {elt iter iter1 : Expr} {ifs ifs1 : List Expr} {scope : Scope} {own : List (Str × Nat)} {vs1 : List Nat} {fi fi1 : DDn} {t t1 : Tg} {tt tt1 : DTn} {fe : DEn} (hc : X.calm = true) (hN : X.N.Nodup) (hi : DI X W tg iter fi) (ok : BlkOk X.N X.env.scope scope own)
    (hg : ∀ (s : Shared) (H : Hp) (C : Addr) (cl : List (Str × Addr)) (fp : List Addr), PG (X.blk s H scope (compEnvC scope cl C X.env) fp) tg (tgG (X.blk s H scope (compEnvC scope cl C X.env) fp).K t))
    (ht : ∀ (s : Shared) (H : Hp) (C : Addr) (cl : List (Str × Addr)) (fp : List Addr), DTs (X.blk s H scope (compEnvC scope cl C X.env) fp) W.z ifs tt)
    (hi1 : ∀ (s : Shared) (H : Hp) (C : Addr) (cl : List (Str × Addr)) (fp : List Addr), DI (X.blk s H scope (compEnvC scope cl C X.env) fp) W.z tg1 iter1 fi1)
    (hg1 : ∀ (s : Shared) (H : Hp) (C : Addr) (cl : List (Str × Addr)) (fp : List Addr), PG (X.blk s H scope (compEnvC scope cl C X.env) fp) tg1 (tgG (X.blk s H scope (compEnvC scope cl C X.env) fp).K t1))
    (ht1 : ∀ (s : Shared) (H : Hp) (C : Addr) (cl : List (Str × Addr)) (fp : List Addr), DTs (X.blk s H scope (compEnvC scope cl C X.env) fp) W.z ifs1 tt1)
    (he : ∀ (s : Shared) (H : Hp) (C : Addr) (cl : List (Str × Addr)) (fp : List Addr), DE (X.blk s H scope (compEnvC scope cl C X.env) fp) W.z elt fe)
    (hv : ∀ i ∈ vs1, i ∈ own.map (·.2) := by decide) (hsl : ∀ i ∈ t.slots, i ∈ own.map (·.2) := by decide) (hsl1 : ∀ i ∈ t1.slots, i ∈ vs1 := by decide) (hs : ∀ x, foldedSetIterable iter X.env x = pure x := by intro _; rfl) (hs1 : ∀ env x, foldedSetIterable iter1 env x = pure x := by intro _ _; rfl) :
    DE X W (.ListComp elt [⟨tg, iter, ifs, 0⟩, ⟨tg1, iter1, ifs1, 0⟩] scope pos) (mLc2 fi t tt fi1 vs1 t1 tt1 fe (own.map (·.2))) :=
  PE.imp (pe_lc2 hc hN hi ok hv hg ht hi1 hg1 ht1 he hs hs1) fun σ H Q h => lc2_read hsl hsl1 h
theorem ssetLc2 (i : Nat) {y : Str} {py : Pos} {elt iter iter1 : Expr} {ifs ifs1 : List Expr} {scope : Scope} {own : List (Str × Nat)} {vs1 : List Nat} {cpos : Pos} {fi fi1 : DDn} {t t1 : Tg} {tt tt1 : DTn} {fe : DEn} (hc : X.calm = true) (hN : X.N.Nodup) (hi : DI X W tg iter fi) (ok : BlkOk X.N X.env.scope scope own)
    (hg : ∀ (s : Shared) (H : Hp) (C : Addr) (cl : List (Str × Addr)) (fp : List Addr), PG (X.blk s H scope (compEnvC scope cl C X.env) fp) tg (tgG (X.blk s H scope (compEnvC scope cl C X.env) fp).K t))
    (ht : ∀ (s : Shared) (H : Hp) (C : Addr) (cl : List (Str × Addr)) (fp : List Addr), DTs (X.blk s H scope (compEnvC scope cl C X.env) fp) W.z ifs tt)
    (hi1 : ∀ (s : Shared) (H : Hp) (C : Addr) (cl : List (Str × Addr)) (fp : List Addr), DI (X.blk s H scope (compEnvC scope cl C X.env) fp) W.z tg1 iter1 fi1)
    (hg1 : ∀ (s : Shared) (H : Hp) (C : Addr) (cl : List (Str × Addr)) (fp : List Addr), PG (X.blk s H scope (compEnvC scope cl C X.env) fp) tg1 (tgG (X.blk s H scope (compEnvC scope cl C X.env) fp).K t1))
    (ht1 : ∀ (s : Shared) (H : Hp) (C : Addr) (cl : List (Str × Addr)) (fp : List Addr), DTs (X.blk s H scope (compEnvC scope cl C X.env) fp) W.z ifs1 tt1)
    (he : ∀ (s : Shared) (H : Hp) (C : Addr) (cl : List (Str × Addr)) (fp : List Addr), DE (X.blk s H scope (compEnvC scope cl C X.env) fp) W.z elt fe)
    (hy : X.N[i]? = some y := by rfl) (hyl : X.env.scope.names.lookup y = some .local := by rfl) (hsw : swapsWith (.ListComp elt [⟨tg, iter, ifs, 0⟩, ⟨tg1, iter1, ifs1, 0⟩] scope cpos) (some (.Name y py)) pos.line X.env = pure true := by exact sw_true rfl rfl rfl (by decide +kernel))
    (hv : ∀ i ∈ vs1, i ∈ own.map (·.2) := by decide) (hsl : ∀ i ∈ t.slots, i ∈ own.map (·.2) := by decide) (hsl1 : ∀ i ∈ t1.slots, i ∈ vs1 := by decide) (hs : ∀ x, foldedSetIterable iter X.env x = pure x := by intro _; rfl) (hs1 : ∀ env x, foldedSetIterable iter1 env x = pure x := by intro _ _; rfl) :
    DS X W (.Assign [.Name y py] (.ListComp elt [⟨tg, iter, ifs, 0⟩, ⟨tg1, iter1, ifs1, 0⟩] scope cpos) pos) (mSetLc i (mLc2 fi t tt fi1 vs1 t1 tt1 fe (own.map (·.2)))) :=
  PS.imp (ps_setLc2 (i := i) hc hN hy hyl hsw hi ok hv hg ht hi1 hg1 ht1 he hs hs1) fun D σ H ⟨HF, L, ρ, S, R, p⟩ => lc2_read hsl hsl1 ⟨HF, L, ρ, S, R, PostS.bind p fun d S1 v H1 HF1 L1 e1 st1 R1 r1 p1 => p1.done (R1.store (e := .v d) r1 i)⟩
end
end DL

/-! the layer of data: what is never reached; isinstance of a caught exception and a built-in class; raise X(f".."); x(lambda: ..) -/
namespace DL
open PySem PySem.Spec PyProof.Rows L2
section
variable {X : Cx} {W : WD} {pos : Pos}
/-! ### what is never reached -/
def mBadE : DEn := fun _ _ => .bad
def mBadT : DTn := fun _ _ => .bad
theorem xbad {e : Expr} : DE X W e mBadE := ⟨fun pins s σ H Q I ⟨HF, L, ρ, S, R, p⟩ => p.elim⟩
theorem ybad {e : Expr} : DT X W e mBadT := ⟨fun pins s σ H Q I ⟨HF, L, ρ, S, R, p⟩ => p.elim⟩
theorem sbad {st : Stmt} : DS X W st (fun _ _ => .bad) := ⟨fun pins s σ H D I ⟨HF, L, ρ, S, R, p⟩ => p.elim⟩
end
/-! ### isinstance(e, C), C a built-in class -/
structure XTabB (K : PySem.W.Frag) (mg : Str → Option Value) (tab : Str → String → Option Bool) : Prop where
  is : ∀ y t b, tab y t = some b → ∀ C, mg y = some (.ref C) → ExcC K C ∧ PySem.W.kitOne K (.ref C) (.type t) = some b
def mIsEB (i : Nat) (tab : Str → String → Option Bool) (t : String) : DEn := fun ρ S => match ρ[i]? with
  | some (some (.exn x)) => lift ((tab x.cls t).map D.bl) S
  | _ => .bad
section
variable {X : Cx} {pos p pe pt : Pos} {n t f : Str} {T : String} {i : Nat} {tab : Str → String → Option Bool} {a : Addr} {oe : Obj} {cls : Value} {dd : Option Addr} {pn : List (Addr × Obj)} {Ww : Value → Option Addr → L2.St → Hp → Prop}
theorem xisEB (i : Nat) (TB : XTabB X.K X.mg tab) (hz : Zc cls dd oe) (hf : ∃ vs, oe.data = .fields vs) (hm : X.mg "isinstance" = none) (hmT : X.mg t = none) (hvT : bootBuiltins t = some (.type T)) (hN : X.N[i]? = some n := by rfl)
    (hv : Vis X.env.scope n := by first | exact Or.inl rfl | exact Or.inr (Or.inl rfl) | exact Or.inr (Or.inr rfl)) (hg : Gl X "isinstance" := by rfl) (hgT : Gl X t := by rfl) (hnT : t ≠ "__name__" := by decide) (hd : (n == ("__debug__" : Str)) = false := by decide) (hcd : (n == ("__classdict__" : Str)) = false := by decide) (hdT : (t == ("__debug__" : Str)) = false := by decide)
    (he : starEach [Expr.Name n pe, .Name t pt] X.env = (false, eval (.Name n pe) X.env) :: starEach [.Name t pt] X.env := by rfl) (he2 : starEach [.Name t pt] X.env = (false, eval (.Name t pt) X.env) :: starEach [] X.env := by rfl) (hpl : (backTo pos (starEach [.Name t pt] X.env)).any (·.1) = false := by rfl) :
    DE (X.suite a ((a, oe) :: pn)) ⟨Ww, some (a, cls, dd)⟩ (.Call (.Name "isinstance" p) [.Name n pe, .Name t pt] [] pos) (mIsEB i tab T) := by
  refine PE.imp (pe_callB (X := X.suite a ((a, oe) :: pn)) (call_isX (X := X) hz hf) hg hm PyProof.Rows.boot_isinstance (pa_cons (X := X.suite a ((a, oe) :: pn)) (pe_var (X := X.suite a ((a, oe) :: pn)) (i := i) hN hv hd hcd) (pa_cons (X := X.suite a ((a, oe) :: pn)) (pe_bltn (X := X.suite a ((a, oe) :: pn)) (v := .ty T) hgT hmT hvT rfl hnT hdT) pa_nil he2) he) (by decide) (by decide) he hpl) fun σ H Q ⟨HF, L, ρ, S, R, q⟩ => ?_
  unfold mIsEB at q
  split at q
  · rename_i x e
    obtain ⟨v, h1, a', cls', dd', h2, h3, h4⟩ := R.env i _ e
    cases h2
    obtain ⟨d, ed, q2⟩ := q.lift
    cases et : tab x.cls T with
    | none => rw [et] at ed; cases ed
    | some b =>
      rw [et] at ed
      cases ed
      obtain ⟨C, gC, eC, harg⟩ := h4
      obtain ⟨XC, hk⟩ := TB.is _ _ _ et C gC
      refine ⟨v, h1, ?_⟩
      subst h3
      refine ⟨.ty T, .type T, b, C, rfl, eC, XC, ?_, fun u hu => hu, hk, q2.done R .no (.bl b)⟩
      cases qx : x.arg with
      | none => rw [qx] at harg; exact .inl harg
      | some g =>
        rw [qx] at harg
        obtain ⟨da, w, k1, k2, _⟩ := harg
        exact .inr ⟨da, _, k1, R.sub _ _ k2⟩
  · exact q.elim
end
/-! ### raise X(f'..') -/
theorem int_len : ∀ n : Nat, n < 1000 → (toString (n : Int) : Str).length ≤ 4 ∧ (toString (-(n : Int)) : Str).length ≤ 4 := by decide +kernel
theorem int_len' {i : Int} (h : i.natAbs < 1000 ∨ i = 2000) : (toString i : Str).length ≤ 4 := by
  rcases h with h | rfl
  rotate_left
  · decide +kernel
  rcases Int.natAbs_eq i with e | e
  · rw [e]; exact (int_len _ h).1
  · rw [e]; exact (int_len _ h).2
/-- the parts of a text, one behind the other: only how long it gets -/
def fJ : List DEn → Nat → DL.Env → Store → Out Unit
  | [], _, _, S => .ok () S
  | f :: fs, n, ρ, S => (f ρ S).bind fun d S1 => match d with
    | .str y => if n + y.length ≤ 1000000 then fJ fs (n + y.length) ρ S1 else .bad
    | .int i => if (i.natAbs < 1000 ∨ i = 2000) ∧ n + 4 ≤ 1000000 then fJ fs (n + 4) ρ S1 else .bad
    | _ => .bad
section
variable {X : Cx} {W : WD} {pos pos' p p2 : Pos}
inductive DJ (X : Cx) (W : WD) : List Expr → List DEn → Prop
  | nil : DJ X W [] []
  | str {m : Str} {j : Nat} {p : Pos} {es : List Expr} {fs : List DEn} : DJ X W es fs → DJ X W (.Constant (.str m) j p :: es) (mC (.str m) :: fs)
  | fmt {e : Expr} {f : DEn} {p : Pos} {es : List Expr} {fs : List DEn} : DE X W e f → DJ X W es fs → DJ X W (.FormattedValue e (-1) none p :: es) (f :: fs)
theorem str_app (x y : Str) : (x ++ y).length = x.length + y.length := Str.length_append x y
theorem fits6 {n : Nat} (h : n ≤ 1000000) : n ≤ sizeLine := Nat.le_trans h (by decide)
theorem DJ.run {es : List Expr} {fs : List DEn} (h : DJ X W es fs) : ∃ ts, PJ X es ts ∧ ∀ (acc : Str) (n : Nat) (σ : L2.St) (H : Hp) (Q : Hp → Prop), acc.length ≤ n → n ≤ 1000000 →
    (∃ HF L ρ S, Rel (gd X W) H HF L σ ρ S ∧ Post (gd X W) W σ ρ H HF L (fun _ _ (_ : Unit) (_ : Unit) => True) (fun _ H1 => Q H1) (fJ fs n ρ S)) → tJs ts acc σ H (fun _ H1 => Q H1) := by
  induction h with
  | nil => exact ⟨[], .nil, fun acc n σ H Q _ _ ⟨HF, L, ρ, S, R, q⟩ => q () H HF L .refl R trivial⟩
  | @str m j p es fs h ih =>
    obtain ⟨ts, h1, h2⟩ := ih
    refine ⟨_ :: ts, .cons (xstr (X := X) (W := W)) h1, fun acc n σ H Q ha hn ⟨HF, L, ρ, S, R, q⟩ => ⟨HF, L, ρ, S, R, Post.bind q fun d S1 v H1 HF1 L1 e1 st1 R1 r1 q1 => ?_⟩⟩
    cases e1
    cases r1
    have q1 : Post (gd X W) W σ ρ H1 HF1 L1 (fun _ _ (_ : Unit) (_ : Unit) => True) (fun _ H1 => Q H1) (if n + m.length ≤ 1000000 then fJ fs (n + m.length) ρ S else .bad) := q1
    split at q1
    · rename_i hz
      refine ⟨m, rfl, ?_, h2 _ _ _ _ _ (by rw [str_app]; omega) hz ⟨HF1, L1, ρ, S, R1, q1⟩⟩
      exact fits6 (by rw [str_app]; omega)
    · exact q1.elim
  | @fmt e f p es fs he h ih =>
    obtain ⟨ts, h1, h2⟩ := ih
    refine ⟨_ :: ts, .cons (pe_fmt he) h1, fun acc n σ H Q ha hn ⟨HF, L, ρ, S, R, q⟩ => ⟨HF, L, ρ, S, R, Post.bind q fun d S1 v H1 HF1 L1 e1 st1 R1 r1 q1 => ?_⟩⟩
    cases d with
    | str y =>
      cases r1
      have q1 : Post (gd X W) W σ ρ H1 HF1 L1 (fun _ _ (_ : Unit) (_ : Unit) => True) (fun _ H1 => Q H1) (if n + y.length ≤ 1000000 then fJ fs (n + y.length) ρ S1 else .bad) := q1
      split at q1
      · rename_i hz
        exact .inl ⟨y, rfl, fits6 (by omega), y, rfl, fits6 (by rw [str_app]; omega), h2 _ _ _ _ _ (by rw [str_app]; omega) hz ⟨HF1, L1, ρ, S1, R1, q1⟩⟩
      · exact q1.elim
    | int i =>
      cases r1
      have q1 : Post (gd X W) W σ ρ H1 HF1 L1 (fun _ _ (_ : Unit) (_ : Unit) => True) (fun _ H1 => Q H1) (if (i.natAbs < 1000 ∨ i = 2000) ∧ n + 4 ≤ 1000000 then fJ fs (n + 4) ρ S1 else .bad) := q1
      split at q1
      · rename_i hz
        have hl := int_len' hz.1
        refine .inr ⟨i, rfl, ?_, toString i, rfl, fits6 (by rw [str_app]; omega), h2 _ _ _ _ _ (by rw [str_app]; omega) hz.2 ⟨HF1, L1, ρ, S1, R1, q1⟩⟩
        by_cases h0 : i.natAbs = 0
        · rw [h0]; decide
        · have := (Nat.log2_lt h0 (k := 11)).mpr (by omega)
          omega
      · exact q1.elim
    | _ => exact q1.elim
def mRaiseF (x : Str) (fs : List DEn) : DSn := fun ρ S => bindS (fJ fs 0 ρ S) ρ fun _ S1 => .ok (.ex ⟨x, none⟩, ρ) S1
theorem sraiseF {x : Str} {v1 v2 : Expr} {rest : List Expr} {fs : List DEn} (o : OwnP (gd X W) x) (hc : X.calm = true) (tk : Takes X W.w) (h : DJ X W (v1 :: v2 :: rest) fs) (hg : Gl X x := by rfl) (hdb : (x == ("__debug__" : Str)) = false := by decide)
    (hs : starEach [Expr.JoinedStr (v1 :: v2 :: rest) p2] X.env = (false, eval (.JoinedStr (v1 :: v2 :: rest) p2) X.env) :: starEach [] X.env := by rfl) :
    DS X W (.Raise (some (.Call (.Name x p) [.JoinedStr (v1 :: v2 :: rest) p2] [] pos')) none pos) (mRaiseF x fs) := by
  obtain ⟨C, bmB, B, nw, ini, gC, F, q, kC, h1, h2⟩ := o.has
  obtain ⟨ts, j1, j2⟩ := h.run
  refine PS.imp (ps_raise hc tk (SkE.pmk_own1 F q gC kC (raises_own h1 h2) hg (pe_joined j1) hs hdb)) fun D σ H ⟨HF, L, ρ, S, R, p⟩ => ?_
  refine j2 Str.empty 0 σ H _ (Nat.le_refl _) (by decide) ⟨HF, L, ρ, S, R, ?_⟩
  refine PostS.bind p fun d S1 v H1 HF1 L1 e1 st1 R1 r1 p1 => ?_
  exact p1.done R1 _ _ ⟨C, gC, rfl, rfl⟩
end
end DL

/-! the layer of data: x(lambda: ..), x being a def that calls what it gets within a try -/
namespace DL
open PySem PySem.Spec PyProof.Rows L2 LamX
theorem takes_len {X : Cx} {W : WX} (tk : Takes X W) : Takes X (fun cls d σ H => σ.length = X.N.length → W cls d σ H) := fun u s' ⟨a, B, sI, pins, σ, H, cls, d, e, I, nb, up, sky, na, os, ag, w⟩ =>
  tk u s' ⟨a, B, sI, pins, σ, H, cls, d, e, I, nb, up, sky, na, os, ag, w I.len⟩
/-- what the def makes of the end of what it called -/
def lamEnd (N i : Nat) (cat : Str → Option Bool) (fs fr : DSn) : Out D → Out D
  | .ok _ S1 => match fr (List.replicate N none) S1 with
    | .ok (.rt d, _) S2 => .ok d S2
    | _ => .bad
  | .ex x S1 => match cat x.cls with
    | some true => match fs ((List.replicate N none).set i (some (.exn x))) S1 with
      | .ok (.rt d, _) S2 => .ok d S2
      | _ => .bad
    | _ => .bad
  | .bad => .bad
def mLam (N i : Nat) (cat : Str → Option Bool) (fs fr : DSn) (fb : DEn) : DEn := fun ρ S => lamEnd N i cat fs fr (fb ρ S)
section
variable {G : Gd} {H HF : Hp} {L : List Addr} {σ : L2.St} {ρ : DL.Env} {S : Store}
theorem Rel.plain (R : Rel G H HF L σ ρ S) {σ' : L2.St} {N : Nat} (hl : σ'.length = N) : Rel G H HF L σ' (List.replicate N none) S :=
  ⟨R.sub, R.nd, R.sl, R.liv, R.tab, R.nft, R.cell, by simp [hl], fun i e h => by
    rw [List.getElem?_replicate] at h
    split at h <;> cases h⟩
theorem Rel.tabs (R : Rel G H HF L σ ρ S) : Tabs (tabsOf G.K) H := fun p hp => by
  obtain ⟨ps, q1, q2, q3⟩ := R.tab p hp
  exact ⟨ps, q1, q2, fun pos cv hc => (let ⟨c, e1, e2⟩ := q3 pos cv hc; ⟨c, e1, R.sub _ _ e2⟩)⟩
open Classical in
/-- a lambda is made: its code object stays from then on -/
theorem Rel.lam (R : Rel G H HF L σ ρ S) {H1 : Hp} (eN : ExtN H H1) (T1 : Tabs (tabsOf G.K) H1) : ∃ HF1, Rel G H1 HF1 L σ ρ S ∧ Step H HF L H1 HF1 L ∧ ∀ c q, H1 c = some (CodeO c q) → HF1 c = some (CodeO c q) := by
  let HF1 : Hp := fun b => match HF b with
    | some o => some o
    | none => if ∃ q, H1 b = some (CodeO b q) then H1 b else none
  have some1 : ∀ {b o}, HF b = some o → HF1 b = some o := fun {b o} e => by show (match HF b with | some o => some o | none => _) = _; rw [e]
  have none1 : ∀ {b o}, HF b = none → HMut o → H b = some o → HF1 b = none := fun {b o} e hm eo => by
    show (match HF b with | some o => some o | none => if ∃ q, H1 b = some (CodeO b q) then H1 b else none) = _
    rw [e]
    refine if_neg fun ⟨q, z⟩ => ?_
    rw [eN _ _ eo hm.nt] at z
    cases z
    exact hm
  have fro : Same HF HF1 := fun b o e => some1 e
  have code : ∀ c q, H1 c = some (CodeO c q) → HF c = none → HF1 c = some (CodeO c q) := fun c q e z => by
    show (match HF c with | some o => some o | none => if ∃ q, H1 c = some (CodeO c q) then H1 c else none) = _
    rw [z]
    dsimp only
    rw [if_pos ⟨q, e⟩, e]
  have sub1 : Same HF1 H1 := fun b o e => by
    cases q : HF b with
    | some u =>
      rw [some1 q] at e
      cases e
      exact eN _ _ (R.sub _ _ q) (fun ps z => R.nft b ps (by rw [q, z]))
    | none =>
      have e : (match HF b with | some o => some o | none => if ∃ q, H1 b = some (CodeO b q) then H1 b else none) = some o := e
      rw [q] at e
      dsimp only at e
      split at e
      · exact e
      · cases e
  have allc : ∀ c q, H1 c = some (CodeO c q) → HF1 c = some (CodeO c q) := fun c q e => by
    cases z : HF c with
    | some u =>
      have y := sub1 c u (some1 z)
      rw [e] at y
      cases y
      exact some1 z
    | none => exact code c q e z
  refine ⟨HF1, ⟨sub1, R.nd, R.sl, fun a ha => ?_, fun p hp => ?_, fun b ps e => ?_, fun n a c h1 h2 => ?_, R.el, fun i x h => ?_⟩, ⟨fun b o _ nt e => eN _ _ e nt, fun b o nt e => ⟨o, nt, eN _ _ e nt⟩, fro, fun a o _ e hm eo => none1 e hm eo, [], by simp, by simp⟩, allc⟩
  · obtain ⟨o, e, hm⟩ := R.liv a ha
    exact ⟨o, eN _ _ e hm.nt, hm⟩
  · obtain ⟨ps, q1, q2, q3⟩ := T1 p hp
    refine ⟨ps, q1, q2, fun pos cv hc => ?_⟩
    obtain ⟨c', e1, e2⟩ := q3 pos cv hc
    exact ⟨c', e1, allc _ _ e2⟩
  · cases q : HF b with
    | some u => rw [some1 q] at e; cases e; exact R.nft b ps q
    | none =>
      have e : (match HF b with | some o => some o | none => if ∃ q, H1 b = some (CodeO b q) then H1 b else none) = some (.tbl ps) := e
      rw [q] at e
      dsimp only at e
      split at e
      · rename_i z
        obtain ⟨q', z⟩ := z
        rw [z] at e
        cases e
      · cases e
  · obtain ⟨q1, q2⟩ := R.cell n a c h1 h2
    obtain ⟨o, e, hm⟩ := R.liv a (List.mem_of_getElem? h1)
    exact ⟨none1 q1 hm e, q2.up (by rw [e]; exact eN _ _ e hm.nt) fro⟩
  · obtain ⟨v, h1, h2⟩ := R.env i x h
    refine ⟨v, h1, ?_⟩
    cases x with
    | v d => exact Rep.mono fro h2
    | cel n => exact h2
    | exn x =>
      obtain ⟨b, cls, dd, k1, k2, k3⟩ := h2
      exact ⟨b, cls, dd, k1, k2, k3.mono fro⟩
    | lam ws ds => exact RepLam.mono fro h2
    | cls ns => exact RepCls.mono fro h2
end
section
variable {X : Cx}
abbrev zcx (X : Cx) (Ng : List Str) (x : Str) (sg : Scope) (g : Addr) (cdg : Value) (s : Shared) (H : Hp) : Cx := (cxOf C8.CX0 X.prog X.w X.K X.mg X.base Ng x sg g cdg X.A X.stack s H C8.E0).nox
abbrev Wz : WD := ⟨fun _ _ _ _ => False, none⟩
def dq (Q : VK) : Ends := { nx := fun _ H' => Q .non H', rt := Q }
def d1 (X : Cx) (fr : DSn) (Q : VK) : Ends := { dq Q with nx := fun σ' H' => tS ⟨X.K, X.mg, none⟩ Wz fr (dq Q) σ' H' }
def eLam (X : Cx) (CS : Addr) (N i : Nat) (fs fr : DSn) (Q : VK) : XK := fun cls d H' => ∃ b, PySem.W.exmOne X.K cls (.ref CS) = some b ∧
  (b = true → ∀ σ' : L2.St, σ'.length = N → ∀ a, H' a = none → tS ⟨X.K, X.mg, some (a, cls, d)⟩ ⟨fun _ _ _ _ => False, some (a, cls, d)⟩ fs { nx := fun σ'' H'' => (d1 X fr Q).nx (σ''.set i none) H'', rt := Q, bk := fun σ'' H'' => (d1 X fr Q).bk (σ''.set i none) H'', ct := fun σ'' H'' => (d1 X fr Q).ct (σ''.set i none) H'' } (σ'.set i (some (.ref a))) H') ∧ (b = false → False)
def TTd (X : Cx) (CS : Addr) (N i : Nat) (fs fr : DSn) : (XK → Hp → VK → Prop) → Hp → VK → Prop := fun tl H Q => ∀ σg : L2.St, σg.length = N → tl (eLam X CS N i fs fr Q) H (fun _ H' => (d1 X fr Q).nx σg H')
theorem gives_try {Ng : List Str} {x a ex n q : Str} {sg : Scope} {g CS : Addr} {cdg : Value} {i : Nat} {b₀ : Stmt} {suite rest : List Stmt} {p1 p2 p3 np pos' pos : Pos} {fs fr : DSn} (hge : sg.names.lookup ex = some .globalImplicit) (hme : X.mg ex = some (.ref CS)) (hde : (ex == ("__debug__" : Str)) = false)
    (hN : Ng.Nodup) (hi : Ng[i]? = some n) (h1 : 1 ≤ Ng.length) (hln : ∀ s : Shared, (envOfC x sg s.heap.objs.size g cdg).kindOf n = some .local)
    (hsu : ∀ (s : Shared) (H : Hp) (a : Addr) (oe : Obj) (cls : Value) (d : Option Addr) (pn : List (Addr × Obj)), Zc cls d oe → (∃ vs, oe.data = .fields vs) → DSs ((zcx X Ng x sg g cdg s H).suite a ((a, oe) :: pn)) ⟨fun _ _ _ _ => False, some (a, cls, d)⟩ (b₀ :: suite) fs)
    (hre : ∀ (s : Shared) (H : Hp), DSs (zcx X Ng x sg g cdg s H) Wz rest fr) :
    GivesTo X Ng x sg g cdg (.Try [.Expr (.Call (.Name a p1) [] [] p2) p3] [.ExceptHandler (some (.Name ex np)) (some n) (b₀ :: suite) pos'] [] [] pos :: rest) a q (TTd X CS Ng.length i fs fr) := by
  intro f c' s H Q tl act hc h
  have hgl : Gl (zcx X Ng x sg g cdg s H) ex := hge
  refine ⟨_, pss_cons (ps_try_as (X := zcx X Ng x sg g cdg s H) (c := .ref CS) (i := i) (Wout := fun _ _ _ _ => False) (ts := fun a cls d => tS ⟨X.K, X.mg, some (a, cls, d)⟩ ⟨fun _ _ _ _ => False, some (a, cls, d)⟩ fs)
      (tb := fun W D σ H => ∃ Ech : XK, (∀ cls d σ' H', Ech cls d H' → σ'.length = Ng.length → W cls d σ' H') ∧ σ[0]? = some (some (.ref f)) ∧ H c' = some (CodeO c' q) ∧ tl Ech H (fun _ H' => D.nx σ H'))
      rfl rfl hN hi (hln s) ⟨hgl, hde, .inl hme⟩ LamX.takes0 (fun W pn xe tk _ => ?_) (fun a oe cls d pn hz hf => hsu s H a oe cls d pn hz hf)) (hre s H), ?_⟩
  · refine ⟨fun pins s' σ H' D I h' => ?_⟩
    obtain ⟨Ech, hW, h1, h2, h3⟩ := h'
    have hp := act _ pn xe Ech p1 p2 (takes_len tk) hW
    have hq := pss_one (ps_expr (pos := p3) hp rfl)
    exact hq.run pins s' σ H' D I ⟨h1, h2, h3⟩
  · have hlen : (L2.start Ng [V.ref f]).length = Ng.length := by
      unfold L2.start
      simp
      omega
    refine ⟨eLam X CS Ng.length i fs fr Q, fun cls d σ' H' ⟨b, e1, e2, e3⟩ hl => ⟨b, e1, fun hb a ha => e2 hb σ' hl a ha, fun hb => (e3 hb)⟩, rfl, hc, h _ hlen⟩
end
section
variable {X : Cx} {W : WD}
theorem tlam_of {cat : Str → Option Bool} {CS : Addr} {N i : Nat} {fs fr : DSn} {fb : DEn} (hxi : W.xi = none)
    (hcat : ∀ y b C, cat y = some b → X.mg y = some (.ref C) → PySem.W.exmOne X.K (.ref C) (.ref CS) = some b) {σ : L2.St} {H : Hp} {Q : VK} (h : tD (gd X W) W (mLam N i cat fs fr fb) σ H Q) :
    tLam (tabsOf X.K) (TTd X CS N i fs fr) (fun E => tD ⟨X.K, X.mg, none⟩ (WF E) fb) σ H Q := by
  obtain ⟨Ww, Wx⟩ := W
  obtain rfl : Wx = none := hxi
  obtain ⟨HF, L, ρ, S, R, p⟩ := h
  refine ⟨R.tabs, fun H1 eN T1 σg hg => ?_⟩
  obtain ⟨HF1, R1, st1, _⟩ := R.lam eN T1
  refine ⟨HF1, L, ρ, S, R1, ?_⟩
  unfold mLam at p
  cases e : fb ρ S with
  | bad => rw [e] at p; exact p.elim
  | ok d S1 =>
    rw [e] at p
    intro v H2 HF2 L2 st2 R2 _
    refine ⟨HF2, L2, List.replicate N none, S1, R2.plain hg, ?_⟩
    unfold lamEnd at p
    dsimp only at p
    cases q : fr (List.replicate N none) S1 with
    | bad => rw [q] at p; exact p.elim
    | ex x S2 => rw [q] at p; exact p.elim
    | ok cr S2 =>
      obtain ⟨cc, ρ3⟩ := cr
      rw [q] at p
      cases cc with
      | rt d' =>
        intro σ' H3 HF3 L3 st3 R3 v' rv
        have st := st1.trans (st2.trans st3)
        exact p v' H3 HF3 L3 st (R.reenv st R3) rv
      | nx => exact p.elim
      | bk => exact p.elim
      | ct => exact p.elim
      | ex x => exact p.elim
  | ex x S1 =>
    rw [e] at p
    intro cls dd H2 HF2 L2 st2 R2 ex
    unfold lamEnd at p
    dsimp only at p
    cases hq : cat x.cls with
    | none => rw [hq] at p; exact p.elim
    | some b =>
      rw [hq] at p
      cases b with
      | false => exact p.elim
      | true =>
        obtain ⟨C, gC, eC, _⟩ := id ex
        subst eC
        refine ⟨true, hcat _ _ _ hq gC, fun _ σ' hl a ha => ?_, fun z => by cases z⟩
        have R2' := R2.plain (σ' := σ') (N := N) hl
        refine ⟨HF2, L2, (List.replicate N none).set i (some (.exn x)), S1, (R2'.intoX (xj := some (a, .ref C, dd))).store (e := .exn x) ⟨a, .ref C, dd, rfl, rfl, ExRep.cx ex⟩ i, ?_⟩
        dsimp only at p
        cases q : fs ((List.replicate N none).set i (some (.exn x))) S1 with
        | bad => rw [q] at p; exact p.elim
        | ex x S2 => rw [q] at p; exact p.elim
        | ok cr S2 =>
          obtain ⟨cc, ρ3⟩ := cr
          rw [q] at p
          cases cc with
          | rt d' =>
            intro σ3 H3 HF3 L3 st3 R3 v' rv
            have st := st1.trans (st2.trans st3)
            have R4 := R3.outX i
            exact p v' H3 HF3 L3 st (R.reenv st R4) (Rep.cx rv)
          | nx => exact p.elim
          | bk => exact p.elim
          | ct => exact p.elim
          | ex x => exact p.elim
/-- x(lambda: body) in the law -/
theorem xlam {x a ex n : Str} {st : Stmt} {g CS c P : Addr} {fd : FuncData} {k i : Nat} {Ng : List Str} {params : Arguments} {body : Expr} {scope : Scope} {b₀ : Stmt} {suite rest : List Stmt} {p lpos pos p1 p2 p3 np pos' pos2 : Pos} {fb : DEn} {fs fr : DSn} {cat : Str → Option Bool}
    (hxi : W.xi = none) (F : Fun X.K x x st g fd) (hm : X.mg x = some (.ref g)) (hb : L2.Binds X.K fd [a] []) (Sg : FnScope Ng [a] (defScope st)) (hst : defBody st = .Try [.Expr (.Call (.Name a p1) [] [] p2) p3] [.ExceptHandler (some (.Name ex np)) (some n) (b₀ :: suite) pos'] [] [] pos2 :: rest)
    (hge : (defScope st).names.lookup ex = some .globalImplicit) (hme : X.mg ex = some (.ref CS)) (hi : Ng[i]? = some n) (hln : ∀ (cdg : Value) (s : Shared), (envOfC x (defScope st) s.heap.objs.size g cdg).kindOf n = some .local)
    (hcat : ∀ y b C, cat y = some b → X.mg y = some (.ref C) → PySem.W.exmOne X.K (.ref C) (.ref CS) = some b)
    (hsu : ∀ (cdg : Value) (s : Shared) (H : Hp) (a : Addr) (oe : Obj) (cls : Value) (d : Option Addr) (pn : List (Addr × Obj)), Zc cls d oe → (∃ vs, oe.data = .fields vs) → DSs ((zcx X Ng x (defScope st) g cdg s H).suite a ((a, oe) :: pn)) ⟨fun _ _ _ _ => False, some (a, cls, d)⟩ (b₀ :: suite) fs)
    (hre : ∀ (cdg : Value) (s : Shared) (H : Hp), DSs (zcx X Ng x (defScope st) g cdg s H) Wz rest fr)
    (TB : TabB X.base X.mg c P) (hcode : X.env.code = .ref c) (et : PySem.W.tabIn X.K "law" = some (c, P)) (hok : tabsOk X.K = true) (hr : Room (k + 2) X.A) (L : LamS X.env.scope scope)
    (hbody : ∀ (A : Around) (outer : List PySem.Env) (s : Shared) (H : Hp) (E : XK) (f c' : Addr), Room k (A.deeper (lamEnv X scope s.heap.objs.size f c')) → DE (lamCx X A outer s H E scope f c') (WF E) body fb)
    (hq : X.env.qual ++ "<lambda>" = lamq := by rfl) (hdef : defaultsOf params X.env = ([], []) := by rfl)
    (hbind : ∀ (q : Str) (cl : List (Str × Addr)) (pm cv ctv : Value), bindArgs (PySem.W.kla_fn "<lambda>" q params body scope cl pm cv ctv) ⟨[], []⟩ = pure [] := by intros; rfl)
    (hg : Gl X x := by rfl) (hNg : Ng[0]? = some a := by rfl) (hva : Vis (defScope st) a := by first | exact Or.inl rfl | exact Or.inr (Or.inl rfl) | exact Or.inr (Or.inr rfl))
    (hde : (ex == ("__debug__" : Str)) = false := by decide) (hdb : (x == ("__debug__" : Str)) = false := by decide) (hd : (a == ("__debug__" : Str)) = false := by decide) (hcd : (a == ("__classdict__" : Str)) = false := by decide) :
    DE X W (.Call (.Name x p) [.Lambda params body scope lpos] [] pos) (mLam Ng.length i cat fs fr fb) := by
  obtain ⟨oc, od, kV, doc, pm, an, cdv, ct, osl, rfl, lk, hcd2⟩ := F.ex
  have h1 : 1 ≤ Ng.length := by
    cases Ng with
    | nil => cases hNg
    | cons _ _ => simp
  refine PE.imp (pe_lamcall (T := tabsOf X.K) (TT := TTd X CS Ng.length i fs fr) (t := fun E => tD ⟨X.K, X.mg, none⟩ (WF E) fb) hg hm F.kp lk hcd2 hb Sg hNg hva ?_ TB hcode ?_ ?_ hr L hdef hbind hbody hdb hd hcd) fun σ H Q h => tlam_of hxi hcat h
  · rw [hst, hq]
    exact gives_try hge hme hde Sg.nd hi h1 (hln cdv) (hsu cdv) (hre cdv)
  · rw [hq]; exact tabsOf_mem (x := "law") List.mem_cons_self et
  · intro p hp e
    rw [hq]
    exact tabsOk_of hok hp (tabsOf_mem (x := "law") List.mem_cons_self et) e
end
end DL
namespace DL
open PySem PySem.Spec PyProof.Rows L2 LamX
theorem lam_takes {X : Cx} {A : Around} {outer : List PySem.Env} {s : Shared} {H : Hp} {E : XK} {scope : Scope} {f c' : Addr} : Takes (lamCx X A outer s H E scope f c') (fun cls d _ H => E cls d H) :=
  takes_of (X := lamCx X A outer s H E scope f c') rfl rfl rfl rfl
/-- a def whose code object is known -/
theorem fnd_ofC {P : Program} {w : World} {G : Gd} {base : Heap} {x qual : Str} {st : Stmt} {f : Addr} {N ps : List Str} {k n : Nat} {body : DSn} {oc kV doc pm cdv ct : Value} {od an : Option Addr} {osl : Array (Option Value)}
    (lk : G.K.lookup f = some ⟨oc, od, .func (PySem.W.fnOf x qual (defArgs st) (defBody st) (defScope st) .none kV doc pm an cdv ct), osl⟩) (hcd : PySem.W.codeIn G.K cdv qual = true) (Sc : FnScope N ps (defScope st)) (hn : ps.length = n) (hnN : n ≤ N.length) (hG : G.xi = none := by rfl)
    (hbody : ∀ (A : Around) (outer : List PySem.Env) (s : Shared) (H : Hp) (E : XK), Room k (A.deeper (envOfC qual (defScope st) s.heap.objs.size f cdv)) →
      DSs (cxOf (L2.CX P w) P w G.K G.mg base N qual (defScope st) f cdv A outer s H E) (WF E) (defBody st) body) : FnOk P w G.K G.mg base (L2.CX P w) (k + 1) f (PySem.W.fnOf x qual (defArgs st) (defBody st) (defScope st) .none kV doc pm an cdv ct) ps (spD G n (denB N.length body)) := by
  obtain ⟨K, mg, xi⟩ := G
  obtain rfl : xi = none := hG
  refine fn_of lk hcd Sc (fun vs H Q E h => h.1.trans hn.symm) fun A outer s H vs Q E hr h => ⟨_, hbody A outer s H E hr, ?_⟩
  obtain ⟨hl, HF, L, es, S, R, r, p⟩ := h
  have hle : es.length = n := by rw [← r.length]; exact hl
  refine ⟨HF, L, _, S, ⟨R.sub, R.nd, R.sl, R.liv, R.tab, R.nft, R.cell, ?_, start_env (N := N) r⟩, ?_⟩
  · unfold L2.start
    rw [List.length_append, List.length_append, List.length_map, List.length_map, List.length_replicate, List.length_replicate, r.length]
  · unfold denB at p
    cases q : body (es.map some ++ List.replicate (N.length - es.length) none) S with
    | bad => rw [q] at p; exact p.elim
    | ex x S' => rw [q] at p; exact p.elim
    | ok cr S' =>
      obtain ⟨c, ρ'⟩ := cr
      rw [q] at p
      intro σ' H' HF' L' st' R'
      obtain ⟨st2, R2⟩ := R.leave st' R'
      cases c with
      | nx => exact p .non H' HF' st2 R2 .non
      | rt d => exact fun v rv => p v H' HF' st2 R2 rv
      | ex x => exact fun cls dd ex => p cls dd H' HF' st2 R2 ex
      | bk => exact p.elim
      | ct => exact p.elim
end DL

/-! the layer of data: t[::-1] of a tuple -/
namespace DL
open PySem PySem.Spec PyProof.Rows L2 HT
section
variable {prog : Program} {w : World} {A : Around} {E : Value → Shared → Prop} {s : Shared}
theorem back_parts (n : Nat) : Builtin.Slice.sliceAdjust none none (-1) (n : Int) = ((n : Int) - 1, -1) := rfl
theorem back_places (n : Nat) : Builtin.Slice.slicePlaces ((n : Int) - 1) (-1) (-1) = n := by
  unfold Builtin.Slice.slicePlaces
  rw [if_neg (by decide)]
  by_cases h : (n : Int) - 1 > -1
  · rw [if_pos h]
    have e : ((n : Int) - 1 - -1 - 1) / (- -1) = (n : Int) - 1 := by
      rw [show (- -1 : Int) = 1 by decide, Int.ediv_one]; omega
    rw [e]; omega
  · rw [if_neg h]; omega
theorem fm_congr {α β : Type} {f g : α → Option β} : ∀ (l : List α), (∀ m ∈ l, f m = g m) → l.filterMap f = l.filterMap g
  | [], _ => rfl
  | x :: l, h => by
    rw [List.filterMap_cons, List.filterMap_cons, h x List.mem_cons_self, fm_congr l fun m hm => h m (List.mem_cons_of_mem _ hm)]
theorem back_pick (xs : Array Value) : ((List.range xs.size).filterMap fun (m : Nat) => xs[((xs.size : Int) - 1 + (m : Int) * (-1)).toNat]?).toArray = xs.toList.reverse.toArray := by
  congr 1
  have e : ∀ m ∈ List.range xs.size, xs[((xs.size : Int) - 1 + (m : Int) * (-1)).toNat]? = xs.toList.reverse[m]? := fun m hm => by
    have hm := List.mem_range.mp hm
    have e1 : ((xs.size : Int) - 1 + (m : Int) * (-1)).toNat = xs.size - 1 - m := by omega
    rw [e1, List.getElem?_reverse (by simpa using hm)]
    simp
  rw [fm_congr _ e]
  have key : ∀ (l : List Value), (List.range l.length).filterMap (fun m => l[m]?) = l := by
    intro l
    induction l with
    | nil => rfl
    | cons x l ih =>
      rw [List.length_cons, List.range_succ_eq_map, List.filterMap_cons]
      simp only [List.getElem?_cons_zero, List.filterMap_map]
      congr 1
  have := key xs.toList.reverse
  simpa using this
theorem back_applied {sl : Addr} {vl vu vs : Value} {n : Nat} {Q : Int × Int × Nat → Shared → Prop} (hs : s.heap.IsSliceOf sl vl vu vs) (pl : IsPart vl none) (pu : IsPart vu none) (pt : IsPart vs (some (-1)))
    (h : Q ((n : Int) - 1, -1, n) s) : wpAny (model prog w) A (Builtin.Slice.sliceApplied (.ref sl) (pure (n : Int))) Q E s := by
  obtain ⟨oo, g1, g2, g3⟩ := id hs
  unfold Builtin.Slice.sliceApplied Builtin.Slice.sliceFields
  refine wpAny_bind (wpAny_bind (wpAny_field g1 g3 (x := vl) rfl (wpAny_bind (wpAny_field g1 g3 (x := vu) rfl (wpAny_bind (wpAny_field g1 g3 (x := vs) rfl (wpAny_pure ?_)))))))
  refine wpAny_bind (slicePart_ pt ?_)
  show wpAny _ _ (if ((-1 : Int) == 0) = true then _ else _) _ _ s
  rw [if_neg (by decide)]
  refine wpAny_bind (slicePart_ pl (wpAny_bind (slicePart_ pu (wpAny_bind (wpAny_pure ?_)))))
  show wpAny _ _ (match Builtin.Slice.sliceAdjust none none (-1) (n : Int) with | (lo, hi) => pure (lo, (-1 : Int), Builtin.Slice.slicePlaces lo hi (-1))) _ _ s
  rw [back_parts n]
  show wpAny _ _ (pure ((n : Int) - 1, (-1 : Int), Builtin.Slice.slicePlaces ((n : Int) - 1) (-1) (-1))) _ _ s
  rw [back_places]
  exact wpAny_pure h
theorem back_item {t sl : Addr} {items : Array Value} {vl vu vs : Value} {Q : Value → Shared → Prop} (ht : IsTup s.heap t items) (hs : s.heap.IsSliceOf sl vl vu vs) (pl : IsPart vl none) (pu : IsPart vu none) (pt : IsPart vs (some (-1)))
    (h : Q (.ref s.heap.objs.size) { s with heap := s.heap.push { cls := .type "tuple", data := .seq items.toList.reverse.toArray } }) (hz : items.size ≤ sizeLine) : wpAny (model prog w) A (getItem (.ref t) (.ref sl)) Q E s := by
  have hk : sizeOk (.seq items.toList.reverse.toArray) := by
    show items.toList.reverse.toArray.size ≤ sizeLine
    simpa using hz
  obtain ⟨oo, g1, g2, g3⟩ := id hs
  have hT : s.TypeIs (.ref sl) "slice" := ⟨oo, g1, g2⟩
  unfold getItem
  try with_reducible refine wpAny_holding ?_
  first | refine wpAny_bind (wpAny_pure ?_) | skip
  refine wpAny_bind (wpAny_sequenceKey ht.typeIs (by decide) ?_)
  refine wpAny_bind (wpAny_callSpecial?_slot (name := Str.ofString "__getitem__") ht.typeIs PyProof.Rows.slot_tuple_getitem (wpAny_call_entry PyProof.Rows.slot_tuple_getitem ht.typeIs entry_tuple_getitem ?_ (args_tuple_getitem _ _)))
  show wpAny _ _ (Builtin.Tuple.tupleItemsOf (.ref t) >>= _) _ _ s
  refine wpAny_bind (tupleItemsOf_ ht ?_)
  refine wpAny_bind (wpAny_typeOf hT ?_)
  rw [if_pos (by decide)]
  refine wpAny_bind (back_applied hs pl pu pt ?_)
  have hno : ¬ ((((items.size : Int) - 1) == 0 && (-1 : Int) == 1 && items.size == items.size) = true) := by
    intro q
    rw [Bool.and_eq_true, Bool.and_eq_true] at q
    exact absurd q.1.2 (by decide)
  show wpAny _ _ (if (((items.size : Int) - 1) == 0 && (-1 : Int) == 1 && items.size == items.size) = true then _ else _) _ _ s
  rw [if_neg hno, back_pick]
  first
    | exact wpAny_bind (m := Builtin.Tuple.tupleExact _) (wpAny_newObj_type (wpAny_pure ⟨_, rfl, wpAny_pure h⟩) hk)
    | exact wpAny_bind (m := Builtin.Tuple.tupleExact _) (wpAny_newObj_type (wpAny_bind (wpAny_pure (wpAny_pure ⟨_, rfl, wpAny_pure h⟩))) hk)
    | exact wpAny_bind (wpAny_bind (m := Builtin.Tuple.tupleExact _) (wpAny_newObj_type (wpAny_pure (wpAny_pure ⟨_, rfl, wpAny_pure h⟩)) hk))
    | exact wpAny_bind (wpAny_bind (m := Builtin.Tuple.tupleExact _) (wpAny_newObj_type (wpAny_pure ⟨_, rfl, wpAny_pure h⟩) hk))
end
section
variable {X : Cx}
def tRevA (K : PySem.W.Frag) (te : TE) : TE := fun σ H Q => te σ H fun x H1 => ∃ a xs, x = .ref a ∧ ((SqL K H1 a xs ∧ ∀ p, H1 p = none → Q (.ref p) (upd H1 p (.lst xs.reverse))) ∨ (SqT K H1 a xs ∧ ∀ p, H1 p = none → Q (.ref p) (upd H1 p (.tup xs.reverse))))
theorem pe_revA {e : Expr} {te : TE} {k : Nat} {p1 p2 p3 pos : Pos} (he : PE X e te) : PE X (.Subscript e (.Slice none none (some (.UnaryOp .USub (.Constant (.int 1) k p1) p2)) p3) pos) (tRevA X.K te) := by
  refine ⟨fun pins s σ H Q I h => ?_⟩
  refine Subscript_ (thn (he.run pins s σ H _ I h) fun v s1 ⟨x, H1, I1, r1, q1⟩ => ?_)
  obtain ⟨a, xs, ex, q⟩ := q1
  subst ex
  cases r1
  have pst : PO X (some (.UnaryOp .USub (.Constant (.int 1) k p1) p2)) (tPart (tUn (rU fun i => .int (-i)) (tC (.int 1)))) := po_some (pe_un un_neg pe_int)
  refine wpAny_Slice (thn (po_none.run pins s1 σ H1 (fun o G => o = none ∧ G = H1) I1 ⟨rfl, rfl⟩) fun vl s2 ⟨l, H2, I2, pl, el, e2⟩ => ?_)
  subst el e2
  refine thn (po_none.run pins s2 σ H2 (fun o G => o = none ∧ G = H2) I2 ⟨rfl, rfl⟩) fun vu s3 ⟨u, H3, I3, pu, eu, e3⟩ => ?_
  subst eu e3
  refine thn (pst.run pins s3 σ H3 (fun o G => o = some (-1) ∧ G = H3) I3 ⟨1, rfl, -1, rfl, rfl, rfl⟩) fun vs s4 ⟨o, H4, I4, ps, eo, e4⟩ => ?_
  subst eo e4
  have I5 : Inv X pins σ H4 { s4 with heap := s4.heap.push { cls := .type "slice", data := .fields #[vl, vu, vs] } } := I4.kept (t' := s4.toks) fun b ob q => Heap.get?_push_of_some _ q
  show wpAny (model X.prog X.w) X.A (subscriptTail e (.Slice none none (some (.UnaryOp .USub (.Constant (.int 1) k p1) p2)) p3) (.ref a) (.ref s4.heap.objs.size)) (EP X pins σ Q) X.xe { s4 with heap := s4.heap.push { cls := .type "slice", data := .fields #[vl, vu, vs] } }
  rcases q with ⟨hx, q⟩ | ⟨hx, q⟩
  · obtain ⟨its, r, ht, hz⟩ := I5.list hx
    have hlen := r.length
    refine tail_any (ops := [.ref a, .ref s4.heap.objs.size]) ht.isList.typeIs (PySem.slot_list_getitem.lookup) ?_ (by with_unfolding_all rfl)
    refine wpAny_getItem_list_slice ht.isList (Heap.IsSliceOf.new _ vl vu vs) pl pu ps (by decide) ?_ (by rw [List.size_toArray]; omega)
    rw [PySem.W.krv_pick]
    refine ⟨.ref _, _, I5.laid (t' := s4.toks) (o := .lst xs.reverse) (fun b ob q => Heap.get?_push_of_some _ q) (Nat.le_refl _) ?_, rfl, q _ (I5.hok.fresh (Nat.le_refl _))⟩
    exact ⟨by rw [List.length_reverse]; exact hz, _, 0, r.reverse, Heap.get?_push_size _ rfl⟩
  · obtain ⟨its, r, ht, hz⟩ := I5.tuple hx
    have hlen := r.length
    refine tail_any (ops := [.ref a, .ref s4.heap.objs.size]) ht.typeIs (PyProof.Rows.slot_tuple_getitem.lookup) ?_ (by with_unfolding_all rfl)
    refine back_item ht (Heap.IsSliceOf.new _ vl vu vs) pl pu ps ?_ (by rw [List.size_toArray]; omega)
    refine ⟨.ref _, _, I5.laid (t' := s4.toks) (o := .tup xs.reverse) (fun b ob q => Heap.get?_push_of_some _ q) (Nat.le_refl _) ?_, rfl, q _ (I5.hok.fresh (Nat.le_refl _))⟩
    exact ⟨by rw [List.length_reverse]; exact hz, _, r.reverse, IsTup.new _ _⟩
end
section
variable {X : Cx} {W : WD} {a : Expr} {fa : DEn}
def gRev : D → Option D
  | .tup ds => some (.tup ds.reverse)
  | .lst ds => some (.lst ds.reverse)
  | .rol ds => some (.lst ds.reverse)
  | _ => none
def mRev (fa : DEn) : DEn := fun ρ S => (fa ρ S).bind fun d S1 => lift (gRev d) S1
theorem xrev {k : Nat} {p1 p2 p3 pos : Pos} (ha : DE X W a fa) : DE X W (.Subscript a (.Slice none none (some (.UnaryOp .USub (.Constant (.int 1) k p1) p2)) p3) pos) (mRev fa) :=
  PE.imp (pe_revA ha) fun σ H Q ⟨HF, L, ρ, S, R, p⟩ => ⟨HF, L, ρ, S, R, Post.bind p fun d S1 v H1 HF1 L1 e1 st1 R1 r1 p1 => by
    obtain ⟨d', ed, p2⟩ := p1.lift
    cases d with
    | tup ds =>
      cases ed
      cases r1 with
      | tup h1 h2 => exact ⟨_, _, rfl, .inr ⟨SqT.mono R1.sub h1, fun q hq => p2.done R1 (.new hq) (.tup (SqE.of upd_same) (h2.reverse.mono (same_upd (R1.hf hq))))⟩⟩
    | lst ds =>
      cases ed
      cases r1 with
      | lst h1 h2 => exact ⟨_, _, rfl, .inl ⟨SqL.of (R1.sub _ _ h1), fun q hq => p2.done R1 (.new hq) (.lst upd_same (h2.reverse.mono (same_upd (R1.hf hq))))⟩⟩
    | rol ds =>
      cases ed
      cases r1 with
      | rol h1 h2 => exact ⟨_, _, rfl, .inl ⟨R1.sub.seq h1, fun q hq => p2.done R1 (.new hq) (.lst upd_same (h2.reverse.mono (same_upd (R1.hf hq))))⟩⟩
    | _ => cases ed⟩
end
end DL

/-! the layer of data: max, min, sum, abs, math.gcd -/
namespace DL
open PySem PySem.Spec PyProof.Rows L2
section
variable {prog : Program} {w : World} {A : Around} {E : Value → Shared → Prop} {s : Shared} {l : Addr} {xs : Array (Int × Tok)}
theorem iter_intTup {Q : Value → Shared → Prop} (hl : s.heap.IsTuple l (intItems xs))
    (h : ∀ s₂ : Shared, s₂ = { s with heap := s.heap.push { cls := .type "tuple_iterator", data := .fields #[.ref l, .int 0 0] } } →
      (s₂.heap.IsTupleIter s.heap.objs.size l 0 ∧ s₂.heap.IsTuple l (intItems xs)) → (∀ b ∈ [s.heap.objs.size, l], b < s₂.heap.objs.size) → l ≠ s.heap.objs.size → Q (.ref s.heap.objs.size) s₂) :
    wpAny (model prog w) A (pyIter (.ref l)) Q E s := by
  have hlt : l < s.heap.objs.size := by obtain ⟨_, e, _⟩ := hl; exact Heap.lt_size e
  refine wpAny_pyIter_tuple hl (h _ rfl ⟨⟨_, Heap.get?_push_size _ rfl, rfl, rfl⟩, hl.push _⟩ (fun b hb => ?_) (Nat.ne_of_lt hlt))
  show b < (s.heap.push _).objs.size
  rw [Heap.size_push]
  rcases List.mem_cons.mp hb with rfl | hb
  · exact Nat.lt_succ_self _
  · rcases List.mem_cons.mp hb with rfl | hb
    · exact Nat.lt_succ_of_lt hlt
    · cases hb
theorem old_keptT {h' : Heap} (hk : ∀ b o, b ∉ [s.heap.objs.size] → (s.heap.push { cls := .type "tuple_iterator", data := .fields #[.ref l, .int 0 0] }).get? b = some o → h'.get? b = some o) :
    ∀ b o, s.heap.get? b = some o → h'.get? b = some o := fun b o e => by
  refine hk b o (fun hm => ?_) (Heap.get?_push_of_some _ e)
  rcases List.mem_cons.mp hm with e1 | hm
  · exact absurd (e1 ▸ Heap.lt_size e) (Nat.lt_irrefl _)
  · cases hm
theorem max_intTup {Q : Value → Shared → Prop} (hh : A.handled = none) (hl : s.heap.IsTuple l (intItems xs)) (hne : 0 < xs.size)
    (h : ∀ v h' tk, (intItems xs)[argBest (fun i j => decide (numAt xs i > numAt xs j)) (xs.size - 1)]? = some v → (∀ b o, s.heap.get? b = some o → h'.get? b = some o) → Q v { s with heap := h', toks := tk }) :
    wpAny (model prog w) A (call (.builtin "max") [.ref l]) Q E s := by
  refine call_max_walk (iter_intTup hl fun s₂ e st hfp hlI => ?_)
  subst e
  refine ⟨_, _, _, _, _, _, _, rfl, Walks.tuple (A := A.in1) hh _ l hlI (intItems xs), st, hfp, by simpa [intItems] using hne, CmpOf.ints_gt (numAt xs) (fun _ _ => intItems_at), fun v h' tk hP hk => ?_⟩
  exact h v h' tk (by simpa [intItems] using hP) (old_keptT hk)
theorem min_intTup {Q : Value → Shared → Prop} (hh : A.handled = none) (hl : s.heap.IsTuple l (intItems xs)) (hne : 0 < xs.size)
    (h : ∀ v h' tk, (intItems xs)[argBest (fun i j => decide (numAt xs i < numAt xs j)) (xs.size - 1)]? = some v → (∀ b o, s.heap.get? b = some o → h'.get? b = some o) → Q v { s with heap := h', toks := tk }) :
    wpAny (model prog w) A (call (.builtin "min") [.ref l]) Q E s := by
  refine call_min_walk (iter_intTup hl fun s₂ e st hfp hlI => ?_)
  subst e
  refine ⟨_, _, _, _, _, _, _, rfl, Walks.tuple (A := A.in1) hh _ l hlI (intItems xs), st, hfp, by simpa [intItems] using hne, CmpOf.ints_lt (numAt xs) (fun _ _ => intItems_at), fun v h' tk hP hk => ?_⟩
  exact h v h' tk (by simpa [intItems] using hP) (old_keptT hk)
end
section
variable {prog : Program} {w : World} {A : Around} {E : Value → Shared → Prop} {s : Shared} {l : Addr} {its : List Value} {ns : List Int} {Q : Value → Shared → Prop}
theorem sum_intTup {xs : Array (Int × Tok)} (hh : A.handled = none) (hl : s.heap.IsTuple l (intItems xs))
    (h : ∀ h' tk t', (∀ b o, s.heap.get? b = some o → h'.get? b = some o) → Q (.int (preSum (numAt xs) xs.size) t') { s with heap := h', toks := tk }) :
    wpAny (model prog w) A (call (.builtin "sum") [.ref l]) Q E s := by
  refine call_sum_walkG (iter_intTup hl fun s₂ e st hfp hlI => ?_)
  subst e
  refine ⟨_, _, _, _, _, _, numAt xs, rfl, Walks.tuple (A := A.in1) hh _ l hlI (intItems xs), st, hfp, (fun _ _ => intItems_at), fun h' tk t' hk => ?_⟩
  have := h h' tk t' (old_keptT hk)
  simpa [intItems] using this
theorem sum_rawT (hh : A.handled = none) (hl : s.heap.IsTuple l its.toArray) (hi : IntsAre its ns)
    (h : ∀ h' tk t', (∀ b o, s.heap.get? b = some o → h'.get? b = some o) → Q (.int ns.sum t') { s with heap := h', toks := tk }) : wpAny (model prog w) A (call (.builtin "sum") [.ref l]) Q E s := by
  obtain ⟨xs, e⟩ := hi.allInts.items
  have hn : numsOf (intItems xs).toList = ns := by rw [← e]; exact hi.numsOf
  rw [nums_intItems] at hn
  rw [e] at hl
  refine sum_intTup hh hl fun h' tk t' hk => ?_
  have := h h' tk t' hk
  rw [preSum_eq, List.take_of_length_le (by simp), hn]; exact this
theorem max_rawT (hh : A.handled = none) (hl : s.heap.IsTuple l its.toArray) (hi : IntsAre its ns) (hne : 0 < ns.length)
    (h : ∀ h' tk M t', (∀ b o, s.heap.get? b = some o → h'.get? b = some o) → M ∈ ns → (∀ a, a ∈ ns → a ≤ M) → Q (.int M t') { s with heap := h', toks := tk }) : wpAny (model prog w) A (call (.builtin "max") [.ref l]) Q E s := by
  obtain ⟨xs, e⟩ := hi.allInts.items
  have hn : numsOf (intItems xs).toList = ns := by rw [← e]; exact hi.numsOf
  rw [nums_intItems] at hn
  subst hn
  rw [e] at hl
  have hsz : 0 < xs.size := by simpa using hne
  refine max_intTup hh hl hsz fun v h' tk hv hk => ?_
  obtain ⟨t, rfl⟩ := intItems_at hv
  obtain ⟨h1, h2⟩ := argBest_gt (numAt xs) (xs.size - 1)
  refine h h' tk _ t hk ?_ fun a ha => ?_
  · rw [numAt_eq]; exact PySem.getD_mem (by rw [List.length_map, Array.length_toList]; omega)
  · obtain ⟨j, hj, rfl⟩ := mem_getD ha
    rw [List.length_map, Array.length_toList] at hj
    rw [← numAt_eq]; exact h2 j (by omega)
theorem min_rawT (hh : A.handled = none) (hl : s.heap.IsTuple l its.toArray) (hi : IntsAre its ns) (hne : 0 < ns.length)
    (h : ∀ h' tk M t', (∀ b o, s.heap.get? b = some o → h'.get? b = some o) → M ∈ ns → (∀ a, a ∈ ns → M ≤ a) → Q (.int M t') { s with heap := h', toks := tk }) : wpAny (model prog w) A (call (.builtin "min") [.ref l]) Q E s := by
  obtain ⟨xs, e⟩ := hi.allInts.items
  have hn : numsOf (intItems xs).toList = ns := by rw [← e]; exact hi.numsOf
  rw [nums_intItems] at hn
  subst hn
  rw [e] at hl
  have hsz : 0 < xs.size := by simpa using hne
  refine min_intTup hh hl hsz fun v h' tk hv hk => ?_
  obtain ⟨t, rfl⟩ := intItems_at hv
  obtain ⟨h1, h2⟩ := argBest_lt (numAt xs) (xs.size - 1)
  refine h h' tk _ t hk ?_ fun a ha => ?_
  · rw [numAt_eq]; exact PySem.getD_mem (by rw [List.length_map, Array.length_toList]; omega)
  · obtain ⟨j, hj, rfl⟩ := mem_getD ha
    rw [List.length_map, Array.length_toList] at hj
    rw [← numAt_eq]; exact h2 j (by omega)
end
section
variable {X : Cx} {W : WD}
def rSumT (K : PySem.W.Frag) : List V → Hp → VK → Prop := fun vs H Q => ∃ (a : Addr) (ns : List Int), vs = [V.ref a] ∧ SqT K H a (ns.map V.int) ∧ Q (.int ns.sum) H
theorem cr_sumT (hc : X.calm = true) : CallR X (.builtin "sum") (rSumT X.K) := by
  intro pins s σ H vs us Q I r h
  obtain ⟨a, ns, rfl, hs, q⟩ := h
  obtain ⟨its, rv, hl, _⟩ := I.tuple hs
  rw [Vals.ref1 r]
  exact sum_rawT (I.ok.hd hc) hl rv.ints fun h' tk t' hk => ⟨.int _, H, I.kept hk, ⟨_, rfl⟩, q⟩
def rMaxT (K : PySem.W.Frag) : List V → Hp → VK → Prop := fun vs H Q => ∃ (a : Addr) (ns : List Int), vs = [V.ref a] ∧ SqT K H a (ns.map V.int) ∧ 0 < ns.length ∧ ∀ m, m ∈ ns → (∀ y, y ∈ ns → y ≤ m) → Q (.int m) H
def rMinT (K : PySem.W.Frag) : List V → Hp → VK → Prop := fun vs H Q => ∃ (a : Addr) (ns : List Int), vs = [V.ref a] ∧ SqT K H a (ns.map V.int) ∧ 0 < ns.length ∧ ∀ m, m ∈ ns → (∀ y, y ∈ ns → m ≤ y) → Q (.int m) H
theorem cr_maxT (hc : X.calm = true) : CallR X (.builtin "max") (rMaxT X.K) := by
  intro pins s σ H vs us Q I r h
  obtain ⟨a, ns, rfl, hs, hne, q⟩ := h
  obtain ⟨its, rv, hl, _⟩ := I.tuple hs
  rw [Vals.ref1 r]
  exact max_rawT (I.ok.hd hc) hl rv.ints hne fun h' tk m t' hk h1 h2 => ⟨.int _, H, I.kept hk, ⟨_, rfl⟩, q m h1 h2⟩
theorem cr_minT (hc : X.calm = true) : CallR X (.builtin "min") (rMinT X.K) := by
  intro pins s σ H vs us Q I r h
  obtain ⟨a, ns, rfl, hs, hne, q⟩ := h
  obtain ⟨its, rv, hl, _⟩ := I.tuple hs
  rw [Vals.ref1 r]
  exact min_rawT (I.ok.hd hc) hl rv.ints hne fun h' tk m t' hk h1 h2 => ⟨.int _, H, I.kept hk, ⟨_, rfl⟩, q m h1 h2⟩
end
section
variable {X : Cx} {W : WD}
def gMax2 : List D → Option D
  | [.int i, .int j] => some (.int (if j > i then j else i))
  | _ => none
def gMin2 : List D → Option D
  | [.int i, .int j] => some (.int (if j < i then j else i))
  | _ => none
theorem two_ints {G : Gd} {HF : Hp} {vs : List V} {i j : Int} (r : Reps G HF vs [.int i, .int j]) : vs = [.int i, .int j] := by
  cases r with
  | cons h1 h2 =>
    cases h2 with
    | cons h2 h3 =>
      cases h3
      cases h1
      cases h2
      rfl
theorem biMax2 (hc : X.calm = true) : BiO X W (.builtin "max") gMax2 := by
  refine ⟨_, call_max2 hc, fun xs vs H HF d Q sub r e q => ?_⟩
  unfold gMax2 at e
  split at e
  · cases e
    rw [two_ints r]
    exact ⟨_, _, rfl, q _ _ _ .no (.int _)⟩
  · cases e
theorem biMin2 (hc : X.calm = true) : BiO X W (.builtin "min") gMin2 := by
  refine ⟨_, call_min2 hc, fun xs vs H HF d Q sub r e q => ?_⟩
  unfold gMin2 at e
  split at e
  · cases e
    rw [two_ints r]
    exact ⟨_, _, rfl, q _ _ _ .no (.int _)⟩
  · cases e
def gAbs : List D → Option D
  | [.int i] => some (.int (if i < 0 then -i else i))
  | _ => none
theorem biAbs : BiO X W (.builtin "abs") gAbs := by
  refine ⟨_, call_abs, fun xs vs H HF d Q sub r e q => ?_⟩
  unfold gAbs at e
  split at e
  · cases e
    obtain ⟨v, rfl, h⟩ := r.one
    cases h
    exact ⟨_, rfl, q _ _ _ .no (.int _)⟩
  · cases e
def gSum : List D → Option D
  | [.lst ds] => (intsOf ds).map fun is => .int is.sum
  | [.tup ds] => (intsOf ds).map fun is => .int is.sum
  | _ => none
theorem biSum (hc : X.calm = true) : BiO X W (.builtin "sum") gSum := by
  refine ⟨_, CallR.or (cr_sum hc) (cr_sumT hc), fun xs vs H HF d Q sub r e q => ?_⟩
  unfold gSum at e
  split at e
  · rename_i ds
    cases eb : intsOf ds with
    | none => rw [eb] at e; cases e
    | some is =>
      rw [eb] at e
      cases e
      obtain ⟨v, rfl, h⟩ := r.one
      cases h with
      | lst h1 h2 =>
        have ev := h2.intsOf eb
        subst ev
        exact .inl ⟨_, is, rfl, SqL.of (sub _ _ h1), q _ _ _ .no (.int _)⟩
  · rename_i ds
    cases eb : intsOf ds with
    | none => rw [eb] at e; cases e
    | some is =>
      rw [eb] at e
      cases e
      obtain ⟨v, rfl, h⟩ := r.one
      cases h with
      | tup h1 h2 =>
        have ev := h2.intsOf eb
        subst ev
        exact .inr ⟨_, is, rfl, SqT.mono sub h1, q _ _ _ .no (.int _)⟩
  · cases e
def maxI : Int → List Int → Int
  | m, [] => m
  | m, x :: xs => maxI (if x > m then x else m) xs
def minI : Int → List Int → Int
  | m, [] => m
  | m, x :: xs => minI (if x < m then x else m) xs
theorem maxI_is : ∀ (xs : List Int) (m : Int), maxI m xs ∈ m :: xs ∧ ∀ y ∈ m :: xs, y ≤ maxI m xs
  | [], m => ⟨by simp [maxI], by simp [maxI]⟩
  | x :: xs, m => by
    obtain ⟨h1, h2⟩ := maxI_is xs (if x > m then x else m)
    have e : maxI m (x :: xs) = maxI (if x > m then x else m) xs := rfl
    rw [e]
    have h3 := h2 _ List.mem_cons_self
    generalize maxI (if x > m then x else m) xs = v at h1 h2 h3
    refine ⟨?_, fun y hy => ?_⟩
    · rcases List.mem_cons.mp h1 with z | z
      · rw [z]; split <;> simp
      · simp [z]
    · rcases List.mem_cons.mp hy with rfl | hy
      · split at h3 <;> omega
      · rcases List.mem_cons.mp hy with rfl | hy
        · split at h3 <;> omega
        · exact h2 y (List.mem_cons_of_mem _ hy)
theorem minI_is : ∀ (xs : List Int) (m : Int), minI m xs ∈ m :: xs ∧ ∀ y ∈ m :: xs, minI m xs ≤ y
  | [], m => ⟨by simp [minI], by simp [minI]⟩
  | x :: xs, m => by
    obtain ⟨h1, h2⟩ := minI_is xs (if x < m then x else m)
    have e : minI m (x :: xs) = minI (if x < m then x else m) xs := rfl
    rw [e]
    have h3 := h2 _ List.mem_cons_self
    generalize minI (if x < m then x else m) xs = v at h1 h2 h3
    refine ⟨?_, fun y hy => ?_⟩
    · rcases List.mem_cons.mp h1 with z | z
      · rw [z]; split <;> simp
      · simp [z]
    · rcases List.mem_cons.mp hy with rfl | hy
      · split at h3 <;> omega
      · rcases List.mem_cons.mp hy with rfl | hy
        · split at h3 <;> omega
        · exact h2 y (List.mem_cons_of_mem _ hy)
def gMax : List D → Option D
  | [.lst ds] => match intsOf ds with
    | some (m :: is) => some (.int (maxI m is))
    | _ => none
  | [.tup ds] => match intsOf ds with
    | some (m :: is) => some (.int (maxI m is))
    | _ => none
  | _ => none
def gMin : List D → Option D
  | [.lst ds] => match intsOf ds with
    | some (m :: is) => some (.int (minI m is))
    | _ => none
  | [.tup ds] => match intsOf ds with
    | some (m :: is) => some (.int (minI m is))
    | _ => none
  | _ => none
theorem biMax (hc : X.calm = true) : BiO X W (.builtin "max") gMax := by
  refine ⟨_, CallR.or (cr_max hc) (cr_maxT hc), fun xs vs H HF d Q sub r e q => ?_⟩
  unfold gMax at e
  split at e
  · rename_i ds
    split at e
    · rename_i m is eb
      cases e
      obtain ⟨v, rfl, h⟩ := r.one
      cases h with
      | lst h1 h2 =>
        have ev := h2.intsOf eb
        subst ev
        obtain ⟨g1, g2⟩ := maxI_is is m
        refine .inl ⟨_, m :: is, rfl, SqL.of (sub _ _ h1), by simp, fun y hy hm => ?_⟩
        have e1 := hm _ g1
        have e2 := g2 _ hy
        obtain rfl : y = maxI m is := by omega
        exact q _ _ _ .no (.int _)
    · cases e
  · rename_i ds
    split at e
    · rename_i m is eb
      cases e
      obtain ⟨v, rfl, h⟩ := r.one
      cases h with
      | tup h1 h2 =>
        have ev := h2.intsOf eb
        subst ev
        obtain ⟨g1, g2⟩ := maxI_is is m
        refine .inr ⟨_, m :: is, rfl, SqT.mono sub h1, by simp, fun y hy hm => ?_⟩
        have e1 := hm _ g1
        have e2 := g2 _ hy
        obtain rfl : y = maxI m is := by omega
        exact q _ _ _ .no (.int _)
    · cases e
  · cases e
theorem biMin (hc : X.calm = true) : BiO X W (.builtin "min") gMin := by
  refine ⟨_, CallR.or (cr_min hc) (cr_minT hc), fun xs vs H HF d Q sub r e q => ?_⟩
  unfold gMin at e
  split at e
  · rename_i ds
    split at e
    · rename_i m is eb
      cases e
      obtain ⟨v, rfl, h⟩ := r.one
      cases h with
      | lst h1 h2 =>
        have ev := h2.intsOf eb
        subst ev
        obtain ⟨g1, g2⟩ := minI_is is m
        refine .inl ⟨_, m :: is, rfl, SqL.of (sub _ _ h1), by simp, fun y hy hm => ?_⟩
        have e1 := hm _ g1
        have e2 := g2 _ hy
        obtain rfl : y = minI m is := by omega
        exact q _ _ _ .no (.int _)
    · cases e
  · rename_i ds
    split at e
    · rename_i m is eb
      cases e
      obtain ⟨v, rfl, h⟩ := r.one
      cases h with
      | tup h1 h2 =>
        have ev := h2.intsOf eb
        subst ev
        obtain ⟨g1, g2⟩ := minI_is is m
        refine .inr ⟨_, m :: is, rfl, SqT.mono sub h1, by simp, fun y hy hm => ?_⟩
        have e1 := hm _ g1
        have e2 := g2 _ hy
        obtain rfl : y = minI m is := by omega
        exact q _ _ _ .no (.int _)
    · cases e
  · cases e
def gGcd : List D → Option D
  | [.int i, .int j] => some (.int ((Nat.gcd i.natAbs j.natAbs : Nat) : Int))
  | _ => none
variable {a : Expr} {es : List Expr} {fs : DDn}
/-- a built-in function that the module has imported under a name -/
theorem xbg {x : Str} {id : String} {p pos : Pos} {g : List D → Option D} (o : BiO X W (.builtin id) g) (hm : X.mg x = some (.builtin id)) (ha : DA X W (a :: es) fs) (hg : Gl X x := by rfl) (hdb : (x == ("__debug__" : Str)) = false := by decide)
    (he : starEach (a :: es) X.env = (false, eval a X.env) :: starEach es X.env := by rfl) (hpl : (backTo pos (starEach es X.env)).any (·.1) = false := by rfl) : DE X W (.Call (.Name x p) (a :: es) [] pos) (mBi g fs) := by
  obtain ⟨r, h1, h2⟩ := o.has
  exact PE.imp (StS.pe_callG h1 hg hm ha hdb he hpl) fun σ H Q h => tD.bi h2 h
theorem biGcd : BiO X W (.builtin "math.gcd") gGcd := by
  refine ⟨_, cr_gcd, fun xs vs H HF d Q sub r e q => ?_⟩
  unfold gGcd at e
  split at e
  · cases e
    rw [two_ints r]
    exact ⟨_, _, rfl, q _ _ _ .no (.int _)⟩
  · cases e
end
end DL

/-! evaluation: comprehensions over lists of anything -/
namespace DL
open PySem L2
theorem rgD_nat (n : Nat) : rgD 0 (n : Int) = (List.range n).map fun i : Nat => D.int (i : Int) := by
  unfold rgD
  rw [show ((n : Int) - 0).toNat = n by omega]
  refine List.map_congr_left fun i _ => ?_
  simp
theorem filter_true {α : Type} (l : List α) : l.filter (fun _ => true) = l := List.filter_eq_self.mpr fun _ _ => rfl
theorem lcT {α : Type} {tg : Tg} {tt : DTn} {fe : DEn} {ρ : DL.Env} {S : Store} (emb : α → D) (f : α → Bool) (g : α → D) : ∀ (xs : List α), (∀ x ∈ xs, ∃ ρ1, asg tg (emb x) ρ = some ρ1 ∧ tt ρ1 S = .ok (f x) S ∧ (f x = true → fe ρ1 S = .ok (g x) S)) → ∀ acc : List D, acc.length + xs.length ≤ lim → lcL tg tt fe ρ (xs.map emb) S acc = .ok (acc ++ (xs.filter f).map g) S
  | [], h, acc, _ => by simp [lcL]
  | x :: xs, h, acc, hl => by
    obtain ⟨ρ1, e1, e2, e3⟩ := h x List.mem_cons_self
    rw [List.map_cons]
    unfold lcL
    rw [e1]
    dsimp only
    rw [e2]
    simp only [ev_bd_ok]
    have hl' : acc.length + (xs.length + 1) ≤ lim := by simpa using hl
    cases hf : f x with
    | false =>
      rw [if_neg Bool.false_ne_true, lcT emb f g xs (fun d hd => h d (List.mem_cons_of_mem _ hd)) acc (by omega)]
      simp [hf]
    | true =>
      rw [if_pos rfl, e3 hf]
      simp only [ev_bd_ok]
      rw [if_pos (by omega), lcT emb f g xs (fun d hd => h d (List.mem_cons_of_mem _ hd)) (acc ++ [g x]) (by simp; omega)]
      simp [hf]
end DL

/-! the layer of data: a tuple taken once (t * 1 is t) -/
namespace L2
open PySem PySem.Spec PyProof.Rows
theorem tuple_mul1 (l : Addr) (items : Array Value) (n : Nat) (dd : Option Addr) (sl : Array (Option Value)) (u : Tok) :
    Meets (Builtin.«tuple.__mul__» ⟨[.ref l, .int 1 u], []⟩) (fun _ R s => s.heap.get? l = some { cls := .type "tuple", dict := dd, data := .seq items n, slots := sl } ∧ R (.ok (.ret (Value.ref l))) s) :=
  .of_wp fun prog w A R s h => by
    obtain ⟨hp, g, d, tk, os⟩ := s
    obtain ⟨hl, h⟩ := h
    have f1 := AutoSeq1.idx_int
    wp_walk using wpAny_loadPart' hl
    exact ⟨_, rfl, h⟩
def rRepT1 (K : PySem.W.Frag) : R2 := fun x y H Q => ∃ l xs, x = .ref l ∧ y = .int 1 ∧ SqT K H l xs ∧ Q (.ref l) H
section
variable {X : Cx}
theorem op_repT1 : OpR X (binaryOp .Mult) (rRepT1 X.K) := by
  intro pins s σ H x y v u Q I rx ry h
  obtain ⟨l, xs, rfl, rfl, hT, q⟩ := h
  cases rx
  obtain ⟨t, rfl⟩ := ry
  obtain ⟨its, r, ⟨⟨cls, dd, data, sl⟩, ho, hc, n, hd⟩, hs⟩ := I.tuple hT
  simp only at hc hd
  subst hc hd
  exact wpAny_binaryOp_repeat_ref (T := "tuple") (U := "int") (by decide) ⟨_, ho, rfl⟩ (fun s' => typeIs_int s' 1 t) noFill_tuple_mul F.fills_int_mul F.slot_int_rmul repeat_tuple F.slot_int_index.lookup
    (call_meets F.slot_int_rmul (typeIs_int s 1 t) F.entry_int_rmul (F.args_int_rmul_2 _ _) (int_rmul_tuple 1 t l its.toArray n dd sl)
      ⟨ho, rfl, ⟨_, ho, rfl⟩, call_meets F.slot_tuple_mul ⟨_, ho, rfl⟩ F.entry_tuple_mul (F.args_tuple_mul_2 _ _) (tuple_mul1 l its.toArray n dd sl t) ⟨ho, ⟨.ref l, _, I, rfl, q⟩⟩⟩)
end
end L2
namespace DL
open PySem L2
def gMulT (x y : D) : Option D := match gMul x y with
  | some d => some d
  | none => match x, y with
    | .tup a, .int k => if k = 1 then some (.tup a) else none
    | _, _ => none
theorem gMulT_rep {a : List D} {k : Nat} (h0 : a ≠ []) (h1 : 1 ≤ k) (h2 : k ≤ 1000) (h3 : a.length ≤ 1000) : gMulT (.tup a) (.int (k : Int)) = some (.tup (List.replicate k a).flatten) := by
  unfold gMulT
  by_cases hk : k = 1
  · subst hk
    have e : gMul (.tup a) (.int ((1 : Nat) : Int)) = none := by
      show (if a ≠ [] ∧ (2 : Int) ≤ ((1 : Nat) : Int) ∧ ((1 : Nat) : Int) ≤ 1000 ∧ a.length ≤ 1000 then some (D.tup (List.replicate ((1 : Nat) : Int).toNat a).flatten) else none) = none
      exact if_neg fun z => by have := z.2.1; omega
    rw [e]
    simp
  · have e : gMul (.tup a) (.int (k : Int)) = some (.tup (List.replicate k a).flatten) := by
      show (if a ≠ [] ∧ (2 : Int) ≤ (k : Int) ∧ (k : Int) ≤ 1000 ∧ a.length ≤ 1000 then some (D.tup (List.replicate (k : Int).toNat a).flatten) else none) = _
      rw [if_pos ⟨h0, by omega, by omega, h3⟩, Int.toNat_natCast]
    rw [e]
section
variable {X : Cx} {W : WD}
theorem bMulT : BOp X W .Mult gMulT := by
  obtain ⟨r, hr, hs⟩ := (bMul (X := X) (W := W)).has
  refine ⟨_, OpR.or hr (op_repT1 (X := X)), fun x y v w H HF d Q sub rx ry e q => ?_⟩
  unfold gMulT at e
  split at e
  · rename_i d' e'
    cases e
    exact .inl (hs x y v w H HF _ Q sub rx ry e' q)
  · split at e
    · rename_i a k
      split at e
      · rename_i hk
        subst hk
        cases e
        cases ry
        cases rx with
        | tup h1 r1 => exact .inr ⟨_, _, rfl, rfl, SqT.mono sub h1, q _ _ _ .no (.tup h1 r1)⟩
      · cases e
    · cases e
end
end DL

/-! the layer of data: [c] * n as a new cell -/
namespace DL
open PySem L2
def mNewRep (fa fb : DEn) : DVn := fun ρ S => (fa ρ S).bind fun x S1 => (fb ρ S1).bind fun y S2 => match x, y with
  | .lst ds, .int k => if k ≤ 1000 ∧ -1000 ≤ k ∧ ds.length ≤ 1000 then .ok (.cel S2.length) (S2 ++ [some (.lst (List.replicate k.toNat ds).flatten)]) else .bad
  | _, _ => .bad
section
variable {X : Cx} {W : WD} {pos : Pos} {a b : Expr} {fa fb : DEn}
theorem vrep (ha : DE X W a fa) (hb : DE X W b fb) : DV X W (.BinOp a .Mult b pos) (mNewRep fa fb) :=
  PE.imp (pe_op op_rep ha hb) fun σ H Q ⟨HF, L, ρ, S, R, p⟩ => ⟨HF, L, ρ, S, R, Post.bind p fun x S1 v H1 HF1 L1 e1 st1 R1 r1 p1 => ⟨HF1, L1, ρ, S1, R1, Post.bind p1 fun y S2 w H2 HF2 L2 e2 st2 R2 r2 p2 => by
    have r1' := Rep.mono st2.fro r1
    cases y with
    | int k =>
      cases r2
      cases x with
      | lst ds =>
        dsimp only at p2
        split at p2
        · rename_i hz
          cases r1' with
          | lst h1 h2 =>
            refine ⟨_, _, _, rfl, rfl, R2.sub _ _ h1, by omega, by omega, ?_, fun q hq => Post.fresh (α := EV) R2 hq (h2.rep _) p2⟩
            rw [h2.length]
            have h0 : ds.length * k.toNat ≤ 1000 * 1000 := Nat.mul_le_mul hz.2.2 (by omega)
            exact Nat.le_trans h0 lim_le
        · exact p2.elim
      | _ => exact p2.elim
    | _ => cases x <;> exact p2.elim⟩⟩
end
end DL

/-! the layer of data: a + b of lists, each a value or a cell; the sum a value or a new cell -/
namespace DL
open PySem L2
def lstOf (S : Store) : EV → Option (List D)
  | .v (.lst ds) => some ds
  | .cel n => match S[n]? with
    | some (some (.lst ds)) => some ds
    | _ => none
  | _ => none
def mCatWith {α : Type} (k : List D → Store → Out α) (fa fb : DVn) : DL.Env → Store → Out α := fun ρ S => (fa ρ S).bind fun x S1 => (fb ρ S1).bind fun y S2 => match lstOf S2 x, lstOf S2 y with
  | some ds, some es => if ds.length + es.length ≤ lim then k (ds ++ es) S2 else .bad
  | _, _ => .bad
def mNewCat (fa fb : DVn) : DVn := mCatWith (fun ds S => .ok (.cel S.length) (S ++ [some (.lst ds)])) fa fb
def mCat (fa fb : DVn) : DEn := mCatWith (fun ds S => .ok (.lst ds) S) fa fb
section
variable {X : Cx} {W : WD} {pos : Pos} {a b : Expr} {fa fb : DVn}
theorem lstOf_rep {G : Gd} {H HF : Hp} {L : List Addr} {σ : L2.St} {ρ : DL.Env} {S : Store} (R : Rel G H HF L σ ρ S) {v : V} {e : EV} {ds : List D} (r : RepE G HF L v e) (h : lstOf S e = some ds) : ∃ p xs, v = .ref p ∧ H p = some (.lst xs) ∧ Reps G HF xs ds := by
  cases e with
  | v d =>
    cases d with
    | lst es =>
      obtain rfl : es = ds := Option.some.inj h
      have r : Rep G HF v (.lst es) := r
      cases r with
      | lst h1 h2 => exact ⟨_, _, rfl, R.sub _ _ h1, h2⟩
    | _ => cases h
  | cel n =>
    unfold lstOf at h
    dsimp only at h
    split at h
    · rename_i es e
      obtain rfl : es = ds := Option.some.inj h
      obtain ⟨p, h1, rfl⟩ := r
      obtain ⟨h2, vs, h3, h4⟩ := R.cell n p _ h1 e
      exact ⟨p, vs, rfl, h3, h4⟩
    · cases h
  | exn x => cases h
  | lam ws ds => cases h
  | cls ns => cases h
theorem vcat (ha : DV X W a fa) (hb : DV X W b fb) : DV X W (.BinOp a .Add b pos) (mNewCat fa fb) :=
  PE.imp (pe_op op_cat ha hb) fun σ H Q ⟨HF, L, ρ, S, R, p⟩ => ⟨HF, L, ρ, S, R, Post.bind p fun x S1 v H1 HF1 L1 e1 st1 R1 r1 p1 => ⟨HF1, L1, ρ, S1, R1, Post.bind p1 fun y S2 w H2 HF2 L2 e2 st2 R2 r2 p2 => by
    have r1' := RepE.mono st2 r1
    split at p2
    · rename_i ds es h1 h2
      split at p2
      · rename_i hz
        obtain ⟨q, xs, rfl, k1, k2⟩ := lstOf_rep R2 r1' h1
        obtain ⟨q', ys, rfl, k3, k4⟩ := lstOf_rep R2 r2 h2
        refine ⟨_, _, _, _, rfl, rfl, k1, k3, ?_, fun t ht => Post.fresh (α := EV) R2 ht (k2.append k4) p2⟩
        rw [k2.length, k4.length]; exact Nat.le_trans hz lim_le
      · exact p2.elim
    · exact p2.elim⟩⟩
theorem xcat (ha : DV X W a fa) (hb : DV X W b fb) : DE X W (.BinOp a .Add b pos) (mCat fa fb) :=
  PE.imp (pe_op op_cat ha hb) fun σ H Q ⟨HF, L, ρ, S, R, p⟩ => ⟨HF, L, ρ, S, R, Post.bind p fun x S1 v H1 HF1 L1 e1 st1 R1 r1 p1 => ⟨HF1, L1, ρ, S1, R1, Post.bind p1 fun y S2 w H2 HF2 L2 e2 st2 R2 r2 p2 => by
    have r1' := RepE.mono st2 r1
    split at p2
    · rename_i ds es h1 h2
      split at p2
      · rename_i hz
        obtain ⟨q, xs, rfl, k1, k2⟩ := lstOf_rep R2 r1' h1
        obtain ⟨q', ys, rfl, k3, k4⟩ := lstOf_rep R2 r2 h2
        refine ⟨_, _, _, _, rfl, rfl, k1, k3, ?_, fun t ht => ?_⟩
        · rw [k2.length, k4.length]; exact Nat.le_trans hz lim_le
        · have hF : HF2 t = none := free_of R2.sub ht
          exact p2.done R2 (.new ht) (.lst upd_same ((k2.append k4).mono (same_upd hF)))
      · exact p2.elim
    · exact p2.elim⟩⟩
end
end DL

/-! the layer of data: a lambda of one parameter handed to a def, called there -/
namespace DL
open PySem PySem.Spec PyProof.Rows L2 LamX
/-- the slots of the lambda's frame: its parameter, what it captured, its own -/
def lamE (n : Nat) (d : D) (ds : List (Option D)) : DL.Env := some (.v d) :: (ds.map (fun o => o.map EV.v) ++ List.replicate n none)
def okO {α : Type} : Out α → Out α
  | .ok a S => .ok a S
  | _ => .bad
/-- the call of the lambda at the slot i -/
noncomputable def mLamC (ws : List (Option V)) (i n : Nat) (fb : DEn) (fa : DEn) : DEn := fun ρ S => match ρ[i]? with
  | some (some (.lam ws' ds)) => haveI := Classical.propDecidable (ws' = ws); if ws' = ws then (fa ρ S).bind fun d S1 => okO (fb (lamE n d ds) S1) else .bad
  | _ => .bad
theorem noCX' {P : Program} {w : World} {outer : List PySem.Env} {H : Hp} {s : Shared} {e : Value} {s' : Shared} (h : L2.CX P w outer H s C8.E0 e s') : False := by
  obtain ⟨_, _, _, _, _, _, _, _, _, _, _, _, z⟩ := h
  exact z
theorem Rel.lamF {K : PySem.W.Frag} {mg : Str → Option Value} {xi : Option (Addr × Value × Option Addr)} {H HF : Hp} {L : List Addr} {σ : L2.St} {ρ : DL.Env} {S : Store} (R : Rel ⟨K, mg, xi⟩ H HF L σ ρ S) {N : List Str} {n : Nat} {v : V} {d : D} {ws : List (Option V)} {ds : List (Option D)}
    (rv : Rep ⟨K, mg, xi⟩ HF v d) (hl : ws.length = ds.length) (hw : ∀ (j : Nat) (d : D), ds[j]? = some (some d) → ∃ u : V, ws[j]? = some (some u) ∧ Rep ⟨K, mg, xi⟩ HF u d) (hN : N.length = 1 + ds.length + n) : Rel ⟨K, mg, none⟩ H HF L (NdefX.startF N [v] ws) (lamE n d ds) S := by
  refine ⟨R.sub, R.nd, R.sl, R.liv, R.tab, R.nft, fun m a c h1 h2 => ?_, ?_, fun i e h => ?_⟩
  · obtain ⟨q1, q2⟩ := R.cell m a c h1 h2
    refine ⟨q1, ?_⟩
    cases c with
    | lst es =>
      obtain ⟨us, q3, q4⟩ := q2
      exact ⟨us, q3, Reps.cx q4⟩
    | dk kvs =>
      obtain ⟨us, q3, q5, q4⟩ := q2
      exact ⟨us, q3, q5, Reps.cx q4⟩
    | dt kvs =>
      obtain ⟨us, q3, q5, q4⟩ := q2
      exact ⟨us, q3, q5, Reps.cx q4⟩
  · unfold NdefX.startF lamE
    simp only [List.map_cons, List.map_nil, List.length_append, List.length_cons, List.length_nil, List.length_replicate, List.length_map]
    omega
  · unfold NdefX.startF
    unfold lamE at h
    match i, h with
    | 0, h =>
      cases h
      exact ⟨v, rfl, Rep.cx rv⟩
    | i + 1, h =>
      simp only [List.getElem?_cons_succ] at h
      by_cases hi : i < ds.length
      · rw [List.getElem?_append_left (by rw [List.length_map]; exact hi), List.getElem?_map] at h
        cases q : ds[i]? with
        | none => rw [q] at h; cases h
        | some o =>
          rw [q] at h
          cases o with
          | none => cases h
          | some d' =>
            cases h
            obtain ⟨u, k1, k2⟩ := hw i d' q
            refine ⟨u, ?_, Rep.cx k2⟩
            show ((some v) :: (ws ++ List.replicate (N.length - 1 - ws.length) none))[i + 1]? = _
            rw [List.getElem?_cons_succ, List.getElem?_append_left (by omega)]
            exact k1
      · rw [List.getElem?_append_right (by rw [List.length_map]; omega), List.getElem?_replicate] at h
        split at h <;> cases h
/-- the heap's part of it, without the slots -/
theorem Rel.lamBack {K : PySem.W.Frag} {mg : Str → Option Value} {xi : Option (Addr × Value × Option Addr)} {H HF : Hp} {L : List Addr} {σ : L2.St} {ρ : DL.Env} {S : Store} (R : Rel ⟨K, mg, xi⟩ H HF L σ ρ S) : Rel ⟨K, mg, none⟩ H HF L [] [] S := by
  refine ⟨R.sub, R.nd, R.sl, R.liv, R.tab, R.nft, fun m a c h1 h2 => ?_, rfl, fun i e h => by simp at h⟩
  obtain ⟨q1, q2⟩ := R.cell m a c h1 h2
  refine ⟨q1, ?_⟩
  cases c with
  | lst es =>
    obtain ⟨us, q3, q4⟩ := q2
    exact ⟨us, q3, Reps.cx q4⟩
  | dk kvs =>
    obtain ⟨us, q3, q5, q4⟩ := q2
    exact ⟨us, q3, q5, Reps.cx q4⟩
  | dt kvs =>
    obtain ⟨us, q3, q5, q4⟩ := q2
    exact ⟨us, q3, q5, Reps.cx q4⟩
section
variable {X : Cx}
/-- the frame of the def that got the lambda -/
abbrev zc (X : Cx) (Ng : List Str) (x : Str) (sg : Scope) (g : Addr) (cdg : Value) (s : Shared) (H : Hp) : Cx := cxOf (L2.CX X.prog X.w) X.prog X.w X.K X.mg X.base Ng x sg g cdg X.A X.stack s H C8.E0
/-- the lambda's words -/
abbrev lamNF (X : Cx) (params : Arguments) (scope : Scope) (c' : Addr) : NdefX.NF := ⟨"<lambda>", X.env.qual ++ "<lambda>", params, [], scope, cloFrom X.env.cells scope.names [], c'⟩
abbrev lcx (X : Cx) (N' : List Str) (params : Arguments) (scope : Scope) (c' f : Addr) (A : Around) (outer : List PySem.Env) (s : Shared) (H : Hp) : Cx := NdefX.ncx (L2.CX X.prog X.w) X.prog X.w X.K X.mg X.base N' (lamNF X params scope c') f A outer s H C8.E0
theorem xlamcall {pins : List (Addr × Obj)} {σ : L2.St} {H : Hp} {s : Shared} {Ng : List Str} {qg : Str} {sg : Scope} {g f c' : Addr} {cdg pm ctv : Value} {params : Arguments} {body : Expr} {scope : Scope} {k i n : Nat} {a p : Str} {N' fr : List Str} {ws : List (Option V)} {p1 p2 : Pos} {e : Expr} {fa fb : DEn} {t : Tok}
    (I : Inv X pins σ H s) (hf : s.heap.get? f = some (PySem.W.kla_obj "<lambda>" (X.env.qual ++ "<lambda>") params body scope (cloFrom X.env.cells scope.names []) pm c' ctv)) (hfn : H f = none) (hfr : f ∉ frs X.stack)
    (Sn : NdefX.NScope N' [p] fr scope) (hN' : N'.length = 1 + fr.length + n) (C : NdefX.CellsAt (cloFrom X.env.cells scope.names []) fr ws s.heap H)
    (hbind : ∀ u : Value, bindArgs (PySem.W.kla_fn "<lambda>" (X.env.qual ++ "<lambda>") params body scope (cloFrom X.env.cells scope.names []) pm (.ref c') ctv) ⟨[u], []⟩ = pure [(p, u)])
    (hr : Room (k + 1) (X.A.deeper (envOfC qg sg s.heap.objs.size g cdg)))
    (hbody : ∀ (A : Around) (outer : List PySem.Env) (s : Shared) (H : Hp), Room k (A.deeper (NdefX.envF (lamNF X params scope c') f s.heap.objs.size)) → DE (lcx X N' params scope c' f A outer s H) (WF C8.E0) body fb)
    (ha : DE (zc X Ng qg sg g cdg s H) ⟨fun _ _ _ _ => False, some (f, .str (X.env.qual ++ "<lambda>") t, some c')⟩ e fa)
    (hN : Ng[i]? = some a) (hv : Vis sg a) (hd : (a == ("__debug__" : Str)) = false := by decide) (hcd : (a == ("__classdict__" : Str)) = false := by decide)
    (he : starEach (e :: []) (zc X Ng qg sg g cdg s H).env = (false, eval e (zc X Ng qg sg g cdg s H).env) :: starEach [] (zc X Ng qg sg g cdg s H).env := by rfl) :
    DE (zc X Ng qg sg g cdg s H) ⟨fun _ _ _ _ => False, some (f, .str (X.env.qual ++ "<lambda>") t, some c')⟩ (.Call (.Name a p1) [e] [] p2) (mLamC ws i n fb fa) := by
  refine ⟨fun pinsZ sZ σZ HZ Q IZ ⟨HF, L, ρ, S, R, h⟩ => ?_⟩
  unfold mLamC at h
  cases hρ : ρ[i]? with
  | none => rw [hρ] at h; exact h.elim
  | some o => cases o with
    | none => rw [hρ] at h; exact h.elim
    | some ev => cases ev with
      | v d => rw [hρ] at h; exact h.elim
      | cel n => rw [hρ] at h; exact h.elim
      | exn x => rw [hρ] at h; exact h.elim
      | cls ns => rw [hρ] at h; exact h.elim
      | lam ws' ds =>
        rw [hρ] at h
        dsimp only at h
        split at h
        · rename_i hww
          subst hww
          obtain ⟨v, hv1, f', q', t', c2, hx, rfl, hcode, hlen, hreps⟩ := R.env i _ hρ
          cases hx
          refine wpAny_Call_Name_kw (thn ((pe_var (pos := p1) (i := i) hN hv hd hcd).run pinsZ sZ σZ HZ (fun v H1 => v = .ref f ∧ H1 = HZ) IZ ⟨.ref f, hv1, rfl, rfl⟩) fun u s1 ⟨v, H1, I1, r1, q1⟩ => ?_)
          obtain ⟨rfl, rfl⟩ := q1
          obtain rfl : u = Value.ref f := r1
          have keepf : ∀ {pins' : List (Addr × Obj)} {σ' : L2.St} {H' : Hp} {s' : Shared}, Inv (zc X Ng qg sg g cdg s H) pins' σ' H' s' → s'.heap.get? f = some (PySem.W.kla_obj "<lambda>" (X.env.qual ++ "<lambda>") params body scope (cloFrom X.env.cells scope.names []) pm c' ctv) := fun J =>
            J.base.keep f _ hf hfn hfr (fun z => nomatch (show f ∈ ([] : List Addr) from z))
          have ht : tA (gd (zc X Ng qg sg g cdg s H) ⟨fun _ _ _ _ => False, some (f, .str (X.env.qual ++ "<lambda>") t, some c')⟩) ⟨fun _ _ _ _ => False, some (f, .str (X.env.qual ++ "<lambda>") t, some c')⟩ (mConsE (mV fa) mNilE) σZ H1 (fun vs H2 => ∃ v d HF2 L2' S2, vs = [v] ∧ Rel (gd (zc X Ng qg sg g cdg s H) ⟨fun _ _ _ _ => False, some (f, .str (X.env.qual ++ "<lambda>") t, some c')⟩) H2 HF2 L2' σZ ρ S2 ∧ Same HF HF2 ∧ Rep (gd (zc X Ng qg sg g cdg s H) ⟨fun _ _ _ _ => False, some (f, .str (X.env.qual ++ "<lambda>") t, some c')⟩) HF2 v d ∧
              Post (gd (zc X Ng qg sg g cdg s H) ⟨fun _ _ _ _ => False, some (f, .str (X.env.qual ++ "<lambda>") t, some c')⟩) ⟨fun _ _ _ _ => False, some (f, .str (X.env.qual ++ "<lambda>") t, some c')⟩ σZ ρ H2 HF2 L2' (fun HF' _ v d => Rep (gd (zc X Ng qg sg g cdg s H) ⟨fun _ _ _ _ => False, some (f, .str (X.env.qual ++ "<lambda>") t, some c')⟩) HF' v d) Q (okO (fb (lamE n d ds) S2))) := by
            refine ⟨HF, L, ρ, S, R, ?_⟩
            unfold mConsE mV
            cases e1 : fa ρ S with
            | bad => rw [e1] at h; exact h.elim
            | ex x S1 => rw [e1] at h; exact h
            | ok d S1 =>
              rw [e1] at h
              intro vs H2 HF2 L2' st2 R2 rs
              cases rs with
              | @cons v1 vs' d1 ds' h1 h2 =>
                cases h2
                exact ⟨v1, d, HF2, L2', S1, rfl, R2, st2.fro, h1, h.step st2⟩
          have ha' : DAE (zc X Ng qg sg g cdg s H) ⟨fun _ _ _ _ => False, some (f, .str (X.env.qual ++ "<lambda>") t, some c')⟩ [e] (mConsE (mV fa) mNilE) := e1 (v1 ha) e0 he
          refine PySem.W.callWith_F ⟨_, _, _, _, keepf I1⟩ ?_ he
          refine thn (ha'.run p2 pinsZ s1 σZ H1 _ I1 ht) fun us s2 ⟨vs, H2, I2, r, v, d, HF2, L2', S2, evs, R2, sm, rv, hp⟩ => ?_
          subst evs
          cases r with
          | @cons v0 u vs0 us0 ru rn =>
            cases rn
            refine ⟨⟨_, _, _, _, keepf I2⟩, ?_⟩
            obtain ⟨⟨oc, vs, tt, hoc, hdc, hvc⟩, _, _⟩ := I2.hok c' _ (R2.sub _ _ (sm _ _ hcode))
            have un : Un (frs X.stack) [] H H2 s.heap s2.heap := I2.base
            have C2 : NdefX.CellsAt (cloFrom X.env.cells scope.names []) fr ws' s2.heap H2 := by
              refine ⟨C.len, fun y c e => ?_, C.inj, fun j y hy => ?_⟩
              · obtain ⟨n1, v, o, ho, hd⟩ := C.all y c e
                obtain ⟨sl, q⟩ := un.any ho n1 (by simp)
                exact ⟨un.free c o ho n1 (by simp), v, _, q, hd⟩
              · obtain ⟨c, hc, hw⟩ := C.has j y hy
                refine ⟨c, hc, fun v hv => ?_⟩
                obtain ⟨u', ru', o, ho, hd⟩ := hw v hv
                obtain ⟨sl, q⟩ := un.any ho (C.all y c hc).1 (by simp)
                exact ⟨u', ru', _, q, hd⟩
            have hlt : ds.length = fr.length := by rw [← hlen]; exact C.len
            have RL := Rel.lamF (N := N') (n := n) R2 rv hlen (fun j d hd => by
              obtain ⟨u, k1, k2⟩ := hreps j d hd
              exact ⟨u, k1, Rep.mono sm k2⟩) (by rw [hN', hlt])
            have rc : codeAny (model X.prog X.w) (X.A.deeper (envOfC qg sg s.heap.objs.size g cdg)) (.call (.ref f) ⟨[u], []⟩) (CR (L2.CX X.prog X.w) (zc X Ng qg sg g cdg s H).stack X.prog X.w H2 s2 Q C8.E0) s2 := by
              refine PySem.W.kla_callFunE hr.depth (keepf I2) rfl Sn.co Sn.gen rfl ⟨c', oc, vs, tt, rfl, hoc, hdc, hvc⟩ ?_
              rw [hbind u]
              refine wpAny_pure (wpAny_newFunctionEnv Sn.nocell (fun y hy => by
                obtain rfl : y = (p, u) := by simpa using hy
                exact Sn.par p (by simp)) (fun h₁ hns hsb => ⟨I2.nolimit.fresh _ hsb, ?_⟩) Sn.kind)
              show codeAny _ _ (.expr body (NdefX.envF (lamNF X params scope c') f s2.heap.objs.size)) _ _
              have kp : ∀ b o, s2.heap.get? b = some o → h₁.get? b = some o := fun b o e => hsb.extBut b o (Nat.ne_of_lt (Heap.lt_size e)) (Heap.get?_push_of_some _ e)
              have J : Inv (lcx X N' params scope c' f (X.A.deeper (envOfC qg sg s.heap.objs.size g cdg)) (zc X Ng qg sg g cdg s H).stack s2 H2) [] (NdefX.startF N' [v] ws') H2 { s2 with heap := h₁, toks := s2.toks + ([(p, u)] : List (Str × Value)).length } :=
                NdefX.inv_startN (us := [u]) Sn hr.hd I2.env0 rfl (.cons ru .nil) C2 hns kp
              have hb2 : tD (gd (lcx X N' params scope c' f (X.A.deeper (envOfC qg sg s.heap.objs.size g cdg)) (zc X Ng qg sg g cdg s H).stack s2 H2) (WF C8.E0)) (WF C8.E0) fb (NdefX.startF N' [v] ws') H2 Q := by
                refine ⟨HF2, L2', lamE n d ds, S2, RL, ?_⟩
                cases e2 : fb (lamE n d ds) S2 with
                | bad => rw [e2] at hp; exact hp.elim
                | ex x S3 => rw [e2] at hp; exact hp.elim
                | ok d' S3 =>
                  rw [e2] at hp
                  intro v' H3 HF3 L3 st3 R3 rv3
                  exact hp v' H3 HF3 L3 st3 (R2.reenv st3 R3.intoX) (Rep.cx rv3)
              refine PySem.W.kla_codeExpr (wpAny_mono ((hbody _ _ s2 H2 (hr.deeper _)).run [] _ _ H2 Q J hb2) (fun v s' hq => ?_) fun e s' hq => hq)
              obtain ⟨w', H', J', rv', q⟩ := hq
              exact ⟨w', H', J'.os, J'.bare, J'.base, J'.hok, rv', q⟩
            refine wpAny_call (codeAny_mono rc fun r s' hq => ?_)
            cases r with
            | error e => exact (noCX' hq).elim
            | ok fl =>
              cases fl with
              | ret u => exact I2.after hq
              | next => exact False.elim hq
              | brk => exact False.elim hq
              | cont => exact False.elim hq
        · exact h.elim
end
/-! ### the def wrong_index, given a lambda -/
def wrongL (F : D → Store → Out D) : List D → Nat → Store → Out D
  | [], _, S => .ok .non S
  | d :: ds, k, S => match F d S with
    | .ok r S1 => match r.tru with
      | some true => wrongL F ds (k + 1) S1
      | some false => .ok (.int (k : Int)) S1
      | none => .bad
    | _ => .bad
def capD (ρ : DL.Env) (j : Nat) : Option D := match ρ[j]? with
  | some (some (.v d)) => some d
  | _ => none
def mWrong (js : List Nat) (n : Nat) (fa fb : DEn) : DEn := fun ρ S => (fa ρ S).bind fun x S1 => match x.items with
  | some ds => wrongL (fun d S => okO (fb (lamE n d (js.map (capD ρ))) S)) ds 0 S1
  | none => .bad
noncomputable def bWr (ws : List (Option V)) (n : Nat) (fb : DEn) : DSn := mSeq (mFor (mEnum (mVar 0)) (.tp [(.nm 2), (.nm 3)]) (mIfS (mNotT (mTru (mLamC ws 1 n fb (mVar 3)))) (mRet (mVar 2)) mSkip)) (mRet (mC .non))
theorem forWr {ws : List (Option V)} {ds : List (Option D)} {n : Nat} {fb : DEn} {x : D} : ∀ (items : List D) (k : Nat) (y2 y3 : Option EV) (S S' : Store) (r : D), wrongL (fun d S => okO (fb (lamE n d ds) S)) items k S = .ok r S' →
    (r = .non ∧ ∃ z2 z3, forL (.tp [(.nm 2), (.nm 3)]) (mIfS (mNotT (mTru (mLamC ws 1 n fb (mVar 3)))) (mRet (mVar 2)) mSkip) (enumD k items) [some (.v x), some (.lam ws ds), y2, y3] S = .ok (.nx, [some (.v x), some (.lam ws ds), z2, z3]) S') ∨
    (∃ ρ', forL (.tp [(.nm 2), (.nm 3)]) (mIfS (mNotT (mTru (mLamC ws 1 n fb (mVar 3)))) (mRet (mVar 2)) mSkip) (enumD k items) [some (.v x), some (.lam ws ds), y2, y3] S = .ok (.rt r, ρ') S')
  | [], k, y2, y3, S, S', r, h => by
    cases h
    exact .inl ⟨rfl, y2, y3, rfl⟩
  | d :: items, k, y2, y3, S, S', r, h => by
    let ρ1 : DL.Env := [some (.v x), some (.lam ws ds), some (.v (.int (k : Int))), some (.v d)]
    have e0 : forL (.tp [(.nm 2), (.nm 3)]) (mIfS (mNotT (mTru (mLamC ws 1 n fb (mVar 3)))) (mRet (mVar 2)) mSkip) (enumD k (d :: items)) [some (.v x), some (.lam ws ds), y2, y3] S = (match (mIfS (mNotT (mTru (mLamC ws 1 n fb (mVar 3)))) (mRet (mVar 2)) mSkip) ρ1 S with
      | .ok (.nx, ρ2) S2 => forL (.tp [(.nm 2), (.nm 3)]) (mIfS (mNotT (mTru (mLamC ws 1 n fb (mVar 3)))) (mRet (mVar 2)) mSkip) (enumD (k + 1) items) ρ2 S2
      | .ok (.ct, ρ2) S2 => forL (.tp [(.nm 2), (.nm 3)]) (mIfS (mNotT (mTru (mLamC ws 1 n fb (mVar 3)))) (mRet (mVar 2)) mSkip) (enumD (k + 1) items) ρ2 S2
      | .ok (.bk, ρ2) S2 => .ok (.nx, ρ2) S2
      | .ok (.rt r, ρ2) S2 => .ok (.rt r, ρ2) S2
      | .ok (.ex x, ρ2) S2 => .ok (.ex x, ρ2) S2
      | _ => .bad) := rfl
    have ec : mLamC ws 1 n fb (mVar 3) ρ1 S = okO (fb (lamE n d ds) S) := by
      unfold mLamC
      show (haveI := Classical.propDecidable (ws = ws); if ws = ws then (mVar 3 ρ1 S).bind fun d S1 => okO (fb (lamE n d ds) S1) else .bad) = _
      rw [if_pos rfl]
      rfl
    unfold wrongL at h
    cases e1 : okO (fb (lamE n d ds) S) with
    | bad => rw [e1] at h; cases h
    | ex x S1 => rw [e1] at h; cases h
    | ok t S1 =>
      rw [e1] at h ec
      dsimp only at h
      cases et : t.tru with
      | none => rw [et] at h; cases h
      | some b =>
        rw [et] at h
        have eT : mTru (mLamC ws 1 n fb (mVar 3)) ρ1 S = .ok b S1 := by
          unfold mTru
          rw [ec]
          show DL.lift t.tru S1 = _
          rw [et]; rfl
        cases b with
        | true =>
          have eb : mIfS (mNotT (mTru (mLamC ws 1 n fb (mVar 3)))) (mRet (mVar 2)) mSkip ρ1 S = .ok (.nx, ρ1) S1 := by
            unfold mIfS mNotT
            rw [eT]; rfl
          rw [e0, eb]
          exact forWr items (k + 1) _ _ S1 S' r h
        | false =>
          cases h
          have eb : mIfS (mNotT (mTru (mLamC ws 1 n fb (mVar 3)))) (mRet (mVar 2)) mSkip ρ1 S = .ok (.rt (.int (k : Int)), ρ1) S' := by
            unfold mIfS mNotT
            rw [eT]; rfl
          rw [e0, eb]
          exact .inr ⟨ρ1, rfl⟩
theorem bWr_ok {ws : List (Option V)} {ds : List (Option D)} {n : Nat} {fb : DEn} {x : D} {items : List D} {S S' : Store} {r : D} (hi : x.items = some items) (h : wrongL (fun d S => okO (fb (lamE n d ds) S)) items 0 S = .ok r S') :
    ∃ ρ', bWr ws n fb [some (.v x), some (.lam ws ds), none, none] S = .ok (.rt r, ρ') S' := by
  have e0 : mEnum (mVar 0) [some (.v x), some (.lam ws ds), none, none] S = .ok (enumD 0 items) S := by
    show (DL.lift x.items S).bind _ = _
    rw [hi]; rfl
  unfold bWr mSeq mFor
  rw [e0]
  rcases forWr (ws := ws) (x := x) items 0 none none S S' r h with ⟨rfl, z2, z3, e⟩ | ⟨ρ', e⟩
  · refine ⟨[some (.v x), some (.lam ws ds), z2, z3], ?_⟩
    show (match forL _ _ (enumD 0 items) _ S with
      | .ok (.nx, ρ1) S1 => mRet (mC .non) ρ1 S1
      | o => o) = _
    rw [e]; rfl
  · refine ⟨ρ', ?_⟩
    show (match forL _ _ (enumD 0 items) _ S with
      | .ok (.nx, ρ1) S1 => mRet (mC .non) ρ1 S1
      | o => o) = _
    rw [e]
section
variable {X : Cx} {W : WD}
theorem xwrong {x mk : Str} {st : Stmt} {g c P : Addr} {fd : FuncData} {k n : Nat} {Ng : List Str} {params : Arguments} {body : Expr} {scope : Scope} {N' fr : List Str} {p v1' a1' : Str} {js : List Nat} {a : Expr} {fa fb : DEn} {pp lpos pos : Pos}
    (hxi : W.xi = none) (F : Fun X.K x x st g fd) (hm : X.mg x = some (.ref g)) (hb : L2.Binds X.K fd [v1', a1'] []) (Sg : FnScope Ng [v1', a1'] (defScope st)) (hNg : Ng.length = 4) (hNa : Ng[1]? = some a1') (hva : Vis (defScope st) a1')
    (hcal : ∀ (cdg : Value) (s : Shared) (H : Hp) (f c' : Addr) (t : Tok) (ws : List (Option V)), (∀ p1 p2 p3 : Pos, DE (zc X Ng x (defScope st) g cdg s H) ⟨fun _ _ _ _ => False, some (f, .str (X.env.qual ++ "<lambda>") t, some c')⟩ (.Name "value" p3) (mVar 3) → DE (zc X Ng x (defScope st) g cdg s H) ⟨fun _ _ _ _ => False, some (f, .str (X.env.qual ++ "<lambda>") t, some c')⟩ (.Call (.Name a1' p1) [.Name "value" p3] [] p2) (mLamC ws 1 n fb (mVar 3))) →
      DSs (zc X Ng x (defScope st) g cdg s H) ⟨fun _ _ _ _ => False, some (f, .str (X.env.qual ++ "<lambda>") t, some c')⟩ (defBody st) (bWr ws n fb))
    (ha : DE X W a fa) (TB : TabB X.base X.mg c P) (hcode : X.env.code = .ref c) (et : PySem.W.tabIn X.K mk = some (c, P)) (hmk : (mk, X.env.qual ++ "<lambda>") ∈ makers) (hok : tabsOk X.K = true) (hr : Room (k + 2) X.A)
    (Sn : NdefX.NScope N' [p] fr scope) (hN' : N'.length = 1 + fr.length + n) (hfree : ∀ y ∈ scope.names, y.2 = .free → X.env.scope.names.lookup y.1 = some .cell ∨ X.env.scope.names.lookup y.1 = some .free) (hfr : ∀ y ∈ fr, (y, NameKind.free) ∈ scope.names) (hjs : js.map (fun j => X.N[j]?) = fr.map some)
    (hbody : ∀ (A : Around) (outer : List PySem.Env) (s : Shared) (H : Hp) (c' f : Addr), Room k (A.deeper (NdefX.envF (lamNF X params scope c') f s.heap.objs.size)) → DE (lcx X N' params scope c' f A outer s H) (WF C8.E0) body fb)
    (hdef : defaultsOf params X.env = ([], []) := by rfl)
    (hbind : ∀ (q : Str) (cl : List (Str × Addr)) (pm cv ctv u : Value), bindArgs (PySem.W.kla_fn "<lambda>" q params body scope cl pm cv ctv) ⟨[u], []⟩ = pure [(p, u)] := by intros; rfl)
    (hg : Gl X x := by rfl) (hdb : (x == ("__debug__" : Str)) = false := by decide) (hd : (a1' == ("__debug__" : Str)) = false := by decide) (hcd : (a1' == ("__classdict__" : Str)) = false := by decide)
    (he : starEach (a :: [.Lambda params body scope lpos]) X.env = (false, eval a X.env) :: starEach [.Lambda params body scope lpos] X.env := by rfl) (hse : ∀ (E : PySem.Env) (p3 : Pos), starEach [Expr.Name "value" p3] E = (false, eval (.Name "value" p3) E) :: starEach [] E := by intros; rfl) :
    DE X W (.Call (.Name x pp) [a, .Lambda params body scope lpos] [] pos) (mWrong js n fa fb) := by
  obtain ⟨Ww, Wx⟩ := W
  obtain rfl : Wx = none := hxi
  obtain ⟨oc, od, kV, doc, pm, an, cdv, ct, osl, rfl, lk, hcd2⟩ := F.ex
  refine ⟨fun pins s σ H Q I ⟨HF, L, ρ, S, R, h⟩ => ?_⟩
  refine wpAny_Call_Name_kw (ld_glob I hg hm ?_ hdb)
  refine PySem.W.callWith_K (h₀ := X.base) I.ok.mod.kin F.kp ?_ he (by rfl)
  rw [he]
  show wpAny _ _ (spliced ((false, eval a X.env) :: backTo pos (starEach [Expr.Lambda params body scope lpos] X.env))) _ _ s
  have ht : tD (gd X ⟨Ww, none⟩) ⟨Ww, none⟩ fa σ H (fun v H1 => ∃ d HF1 L1 S1 items, Rel (gd X ⟨Ww, none⟩) H1 HF1 L1 σ ρ S1 ∧ Rep (gd X ⟨Ww, none⟩) HF1 v d ∧ d.items = some items ∧
      Post (gd X ⟨Ww, none⟩) ⟨Ww, none⟩ σ ρ H1 HF1 L1 (fun HF' _ v d => Rep (gd X ⟨Ww, none⟩) HF' v d) Q (wrongL (fun d S => okO (fb (lamE n d (js.map (capD ρ))) S)) items 0 S1)) := by
    refine ⟨HF, L, ρ, S, R, ?_⟩
    unfold mWrong at h
    cases e1 : fa ρ S with
    | bad => rw [e1] at h; exact h.elim
    | ex x S1 => rw [e1] at h; exact h
    | ok d S1 =>
      rw [e1, ev_bind_ok] at h
      cases e2 : d.items with
      | none => rw [e2] at h; exact h.elim
      | some items =>
        rw [e2] at h
        intro v H1 HF1 L1 st1 R1 r1
        exact ⟨d, HF1, L1, S1, items, R1, r1, e2, h.step st1⟩
  refine Calls.spliced_cons (thn (ha.run pins s σ H _ I ht) fun u s1 ⟨v, H1, I1, ru, d, HF1, L1, S1, items, R1, rv, hi, hp⟩ => ?_)
  show wpAny _ _ (spliced ((false, eval (.Lambda params body scope lpos) X.env) :: backTo pos (starEach [] X.env))) _ _ s1
  have hfc : ∀ y ∈ scope.names, y.2 = .free → ∃ c, X.env.cells.lookup y.1 = some c := fun y hy e => (hfree y hy e).elim (fun z => I.ok.has _ (.inl z)) fun z => I.ok.has _ (.inr z)
  refine Calls.spliced_cons (lam_make2 I1 TB hcode (tabsOf_mem hmk et) (fun p hp e => tabsOk_of hok hp (tabsOf_mem hmk et) e) R1.tabs hdef hfc fun f c' pm' ctv H2 s2 I2 eN T1 hf hfn hfrs hco => ?_)
  refine Calls.spliced_nil ⟨I2.kIn, ?_⟩
  obtain ⟨HF2, R2, st2, hallc⟩ := R1.lam eN T1
  have cap : NdefX.Caps X (cloFrom X.env.cells scope.names []) fr js := NdefX.Caps.made I.ok hfree hfr hjs
  have C := NdefX.cells_of I2 cap
  let ws : List (Option V) := js.map (NdefX.slotAt σ)
  let ds : List (Option D) := js.map (capD ρ)
  have rc : codeAny (model X.prog X.w) X.A (.call (.ref g) ⟨[u, .ref f], []⟩) (CR (L2.CX X.prog X.w) X.stack X.prog X.w H2 s2 Q C8.E0) s2 := by
    refine run_ofS (N := Ng) (ps := [v1', a1']) (us := [u, .ref f]) (vs := [v, .ref f]) lk hcd2 Sg hr I2.env0 (hb s2 [u, .ref f] I2.kIn rfl) (.cons ru (.cons rfl .nil)) rfl fun hr' => ?_
    let t : Tok := default
    have hl := hcal cdv s2 H2 f c' t ws (fun p1 p2 p3 hv3 => xlamcall I2 hf hfn hfrs Sn hN' C (fun u => hbind _ _ _ _ _ u) hr' (fun A outer s H hr2 => hbody A outer s H c' f hr2) hv3 hNa hva hd hcd (hse _ _))
    refine ⟨_, hl, ?_⟩
    have Rz : Rel ⟨X.K, X.mg, some (f, .str (X.env.qual ++ "<lambda>") t, some c')⟩ H2 HF2 L1 (L2.start Ng [v, .ref f]) [some (.v d), some (.lam ws ds), none, none] S1 := by
      have RX := R2.intoX (xj := some (f, .str (X.env.qual ++ "<lambda>") t, some c'))
      refine ⟨RX.sub, RX.nd, RX.sl, RX.liv, RX.tab, RX.nft, RX.cell, ?_, fun i e hh => ?_⟩
      · unfold L2.start
        simp [hNg]
      · match i, hh with
        | 0, hh =>
          cases hh
          exact ⟨v, rfl, Rep.cx (Rep.mono st2.fro rv)⟩
        | 1, hh =>
          cases hh
          refine ⟨.ref f, rfl, f, X.env.qual ++ "<lambda>", t, c', rfl, rfl, hallc _ _ hco, by simp [ws, ds], fun j d' hj => ?_⟩
          have hj' : (js.map (capD ρ))[j]? = some (some d') := hj
          rw [List.getElem?_map] at hj'
          cases q : js[j]? with
          | none => rw [q] at hj'; cases hj'
          | some j' =>
            rw [q] at hj'
            have hc : capD ρ j' = some d' := Option.some.inj hj'
            unfold capD at hc
            split at hc
            · rename_i d'' hρ
              cases hc
              obtain ⟨v', k1, k2⟩ := R2.env j' _ hρ
              refine ⟨v', ?_, Rep.cx k2⟩
              show (js.map (NdefX.slotAt σ))[j]? = _
              rw [List.getElem?_map, q]
              show some (NdefX.slotAt σ j') = _
              rw [NdefX.slotAt_of k1]
            · cases hc
        | 2, hh => cases hh
        | 3, hh => cases hh
        | i + 4, hh => simp at hh
    refine ⟨HF2, L1, _, S1, Rz, ?_⟩
    have hp2 := hp.step st2
    cases e3 : wrongL (fun d S => okO (fb (lamE n d (js.map (capD ρ))) S)) items 0 S1 with
    | bad => rw [e3] at hp2; exact hp2.elim
    | ex x S3 =>
      exfalso
      have nex : ∀ (l : List D) (k : Nat) (S : Store) (x : Exn) (S3 : Store), wrongL (fun d S => okO (fb (lamE n d (js.map (capD ρ))) S)) l k S ≠ .ex x S3 := fun l => by
        induction l with
        | nil => intro k S x S3 z; cases z
        | cons d l ih =>
          intro k S x S3 z
          unfold wrongL at z
          split at z
          · split at z
            · exact ih _ _ _ _ z
            · cases z
            · cases z
          · cases z
      exact nex _ _ _ _ _ e3
    | ok r S3 =>
      rw [e3] at hp2
      obtain ⟨ρ', e4⟩ := bWr_ok (ws := ws) (ds := ds) hi e3
      rw [e4]
      intro σ' H3 HF3 L3 st3 R3 v3 rv3
      exact hp2 v3 H3 HF3 L3 st3 (R2.reenv st3 (Rel.lamBack R3)) (Rep.cx rv3)
  refine wpAny_call (codeAny_mono rc fun r s' hq => ?_)
  cases r with
  | error e => exact (noCX' hq).elim
  | ok fl =>
    cases fl with
    | ret u => exact I2.after hq
    | next => exact False.elim hq
    | brk => exact False.elim hq
    | cont => exact False.elim hq
end
theorem lcx_takes {X : Cx} {N' : List Str} {params : Arguments} {scope : Scope} {c' f : Addr} {A : Around} {outer : List PySem.Env} {s : Shared} {H : Hp} : Takes (lcx X N' params scope c' f A outer s H) (WF C8.E0).w :=
  takes_of (X := lcx X N' params scope c' f A outer s H) rfl rfl rfl rfl
/-- a def whose code object is known -/
theorem dfn_ofC {P : Program} {w : World} {G : Gd} {base : Heap} {x : Str} {st : Stmt} {f : Addr} {N ps : List Str} {k n : Nat} {body : DSn} {oc kV doc pm cdv ct : Value} {od an : Option Addr} {osl : Array (Option Value)}
    (lk : G.K.lookup f = some ⟨oc, od, .func (PySem.W.fnOf x x (defArgs st) (defBody st) (defScope st) .none kV doc pm an cdv ct), osl⟩) (hcd : PySem.W.codeIn G.K cdv x = true) (hk : PySem.W.keepIn G.K (.ref f) = true) (hm : G.mg x = some (.ref f)) (hb : L2.Binds G.K (PySem.W.fnOf x x (defArgs st) (defBody st) (defScope st) .none kV doc pm an cdv ct) ps [])
    (Sc : FnScope N ps (defScope st)) (hn : ps.length = n) (hnN : n ≤ N.length) (hG : G.xi = none := by rfl)
    (hbody : ∀ (A : Around) (outer : List PySem.Env) (s : Shared) (H : Hp) (E : XK), Room k (A.deeper (envOfC x (defScope st) s.heap.objs.size f cdv)) →
      DSs (cxOf (L2.CX P w) P w G.K G.mg base N x (defScope st) f cdv A outer s H E) (WF E) (defBody st) body) : Dfn P w G base (k + 1) x n (denB N.length body) :=
  ⟨f, _, ps, hm, hk, hb, hn, fnd_ofC lk hcd Sc hn hnN hG hbody⟩
theorem free_by {sc scope : Scope} (h : (scope.names.all fun y => !decide (y.2 = .free) || decide (sc.names.lookup y.1 = some .cell) || decide (sc.names.lookup y.1 = some .free)) = true) : ∀ y ∈ scope.names, y.2 = .free → sc.names.lookup y.1 = some .cell ∨ sc.names.lookup y.1 = some .free := fun y hy e => by
  have z := List.all_eq_true.mp h y hy
  simp only [Bool.or_eq_true, Bool.not_eq_true', decide_eq_true_eq, decide_eq_false_iff_not] at z
  rcases z with (z | z) | z
  · exact absurd e z
  · exact .inl z
  · exact .inr z
end DL

/-! the layer of data: list(cell), sorted(cell) -/
namespace DL
open PySem PySem.Spec PyProof.Rows L2
section
variable {X : Cx} {W : WD} {pos : Pos}
def mLstC (i : Nat) : DEn := fun ρ S => match ρ[i]? with
  | some (some (.cel n)) => match S[n]? with
    | some (some (.lst ds)) => .ok (.lst ds) S
    | _ => .bad
  | _ => .bad
theorem xlstC (i : Nat) {x : Str} {p px : Pos} (hm : X.mg "list" = none) (hg : Gl X "list" := by rfl) (hN : X.N[i]? = some x := by rfl) (hvi : Vis X.env.scope x := by first | exact Or.inl rfl | exact Or.inr (Or.inl rfl) | exact Or.inr (Or.inr rfl)) (hd : (x == ("__debug__" : Str)) = false := by decide) (hcd : (x == ("__classdict__" : Str)) = false := by decide)
    (he : starEach [Expr.Name x px] X.env = (false, eval (.Name x px) X.env) :: starEach [] X.env := by rfl) (hpl : (backTo pos (starEach [] X.env)).any (·.1) = false := by rfl) : DE X W (.Call (.Name "list" p) [.Name x px] [] pos) (mLstC i) := by
  refine PE.imp (pe_callTy call_list_of hg hm PyProof.Rows.boot_list (pa_cons (pe_var (i := i) hN hvi hd hcd) pa_nil he) (by decide) (by decide) he hpl) fun σ H Q ⟨HF, L, ρ, S, R, p⟩ => ?_
  unfold mLstC at p
  split at p
  · rename_i n hn
    split at p
    · rename_i ds hS
      obtain ⟨q, vs, h1, h2, h3, h4, h5⟩ := R.celAt hn hS
      exact ⟨_, h1, _, _, rfl, .inl (SqL.of h3), fun l hl => p.done R (.new hl) (.lst upd_same (h4.mono (same_upd (R.hf hl))))⟩
    · exact p.elim
  · exact p.elim
def mNewLstC (i : Nat) : DVn := fun ρ S => match ρ[i]? with
  | some (some (.cel n)) => match S[n]? with
    | some (some (.lst ds)) => .ok (.cel S.length) (S ++ [some (.lst ds)])
    | _ => .bad
  | _ => .bad
theorem vlstC (i : Nat) {x : Str} {p px : Pos} (hm : X.mg "list" = none) (hg : Gl X "list" := by rfl) (hN : X.N[i]? = some x := by rfl) (hvi : Vis X.env.scope x := by first | exact Or.inl rfl | exact Or.inr (Or.inl rfl) | exact Or.inr (Or.inr rfl)) (hd : (x == ("__debug__" : Str)) = false := by decide) (hcd : (x == ("__classdict__" : Str)) = false := by decide)
    (he : starEach [Expr.Name x px] X.env = (false, eval (.Name x px) X.env) :: starEach [] X.env := by rfl) (hpl : (backTo pos (starEach [] X.env)).any (·.1) = false := by rfl) : DV X W (.Call (.Name "list" p) [.Name x px] [] pos) (mNewLstC i) := by
  refine PE.imp (pe_callTy call_list_of hg hm PyProof.Rows.boot_list (pa_cons (pe_var (i := i) hN hvi hd hcd) pa_nil he) (by decide) (by decide) he hpl) fun σ H Q ⟨HF, L, ρ, S, R, p⟩ => ?_
  unfold mNewLstC at p
  split at p
  · rename_i n hn
    split at p
    · rename_i ds hS
      obtain ⟨q, vs, h1, h2, h3, h4, h5⟩ := R.celAt hn hS
      exact ⟨_, h1, _, _, rfl, .inl (SqL.of h3), fun l hl => Post.fresh (α := EV) R hl h4 p⟩
    · exact p.elim
  · exact p.elim
def mSrtC (i : Nat) : DEn := fun ρ S => match ρ[i]? with
  | some (some (.cel n)) => match S[n]? with
    | some (some (.lst ds)) => lift (gSorted [.lst ds]) S
    | _ => .bad
  | _ => .bad
theorem xsrtC (i : Nat) {x : Str} {p px : Pos} (hm : X.mg "sorted" = none) (hv : bootBuiltins "sorted" = some (.builtin "sorted")) (hg : Gl X "sorted" := by rfl) (hN : X.N[i]? = some x := by rfl) (hvi : Vis X.env.scope x := by first | exact Or.inl rfl | exact Or.inr (Or.inl rfl) | exact Or.inr (Or.inr rfl)) (hd : (x == ("__debug__" : Str)) = false := by decide) (hcd : (x == ("__classdict__" : Str)) = false := by decide)
    (he : starEach [Expr.Name x px] X.env = (false, eval (.Name x px) X.env) :: starEach [] X.env := by rfl) (hpl : (backTo pos (starEach [] X.env)).any (·.1) = false := by rfl) : DE X W (.Call (.Name "sorted" p) [.Name x px] [] pos) (mSrtC i) := by
  refine PE.imp (pe_callB cr_sortedI hg hm hv (pa_cons (pe_var (i := i) hN hvi hd hcd) pa_nil he) (by decide) (by decide) he hpl) fun σ H Q ⟨HF, L, ρ, S, R, p⟩ => ?_
  unfold mSrtC at p
  split at p
  · rename_i n hn
    split at p
    · rename_i ds hS
      obtain ⟨q, vs, h1, h2, h3, h4, h5⟩ := R.celAt hn hS
      obtain ⟨d, e, p2⟩ := p.lift
      unfold gSorted at e
      dsimp only at e
      cases eb : intsOf ds with
      | none => rw [eb] at e; cases e
      | some is =>
        rw [eb] at e
        cases e
        have ev := h4.intsOf eb
        subst ev
        refine ⟨_, h1, _, is, rfl, SqL.of h3, fun ns' t ht hs hn' => ?_⟩
        have en : ns' = sortI is := PySem.W.ksm_same (ht.trans (sortI_perm is).symm) hs (sortI_sorted is)
        subst en
        exact p2.done R (.new hn') (.lst upd_same (reps_ints _))
    · exact p.elim
  · exact p.elim
end
end DL

/-! the layer of data: x.index(y) of a list that no one changes -/
namespace DL
open PySem PySem.Spec PyProof.Rows L2
section
variable {X : Cx} {W : WD} {pos : Pos} {a : Expr} {es : List Expr}
/-- the first place of an equal one -/
def idxD (y : D) : List D → Option Nat
  | [] => none
  | d :: ds => if deq d y = true then some 0 else (idxD y ds).map (· + 1)
theorem idxD_is (y : D) : ∀ (ds : List D) {j : Nat}, idxD y ds = some j → (∃ z, ds[j]? = some z ∧ deq z y = true) ∧ ∀ (m : Nat) (z : D), m < j → ds[m]? = some z → deq z y = false
  | [], _, h => by cases h
  | d :: ds, j, h => by
    unfold idxD at h
    split at h
    · rename_i c
      cases h
      exact ⟨⟨d, rfl, c⟩, fun m z hm => absurd hm (Nat.not_lt_zero _)⟩
    · rename_i c
      obtain ⟨k, hk, rfl⟩ := Option.map_eq_some_iff.mp h
      obtain ⟨⟨z, h1, h2⟩, h3⟩ := idxD_is y ds hk
      refine ⟨⟨z, by simpa using h1, h2⟩, fun m w hm hw => ?_⟩
      cases m with
      | zero =>
        obtain rfl : d = w := by simpa using hw
        cases e : deq d y
        · rfl
        · exact absurd e c
      | succ m => exact h3 m w (by omega) (by simpa using hw)
def gIdx (ds : List D) : List D → Option D
  | [y] => if y.flat = true ∧ ds.all D.flat = true then (idxD y ds).map fun j => .int (j : Nat) else none
  | _ => none
def mIdx (i : Nat) (fs : DDn) : DEn := fun ρ S => match ρ[i]? with
  | some (some (.v (.lst ds))) => (fs ρ S).bind fun ys S1 => lift (gIdx ds ys) S1
  | _ => .bad
theorem xidx (i : Nat) {x : Str} {px apos : Pos} {fs : DDn} (ha : DA X W (a :: es) fs) (hN : X.N[i]? = some x := by rfl) (hvi : Vis X.env.scope x := by first | exact Or.inl rfl | exact Or.inr (Or.inl rfl) | exact Or.inr (Or.inr rfl)) (hd : (x == ("__debug__" : Str)) = false := by decide) (hcd : (x == ("__classdict__" : Str)) = false := by decide)
    (hbase : attributeBase (.Name x px) "index" X.env (eval (.Name x px) X.env) = eval (.Name x px) X.env := by rfl)
    (hfew : ((backTo pos (starEach (a :: es) X.env)).all (fun x => !x.1) && (backToKw pos (keywordEach [] X.env)).all (fun x => x.1.isSome) && decide ((a :: es).length + ([] : List Keyword).length + (if ([] : List Keyword).isEmpty then 0 else 1) < 30)) = true := by rfl)
    (hline : (apos.endLine == pos.line) = true := by rfl) (hs : starEach (a :: es) X.env = (false, eval a X.env) :: starEach es X.env := by rfl) (hplain : (backTo pos (starEach es X.env)).any (·.1) = false := by rfl) :
    DE X W (.Call (.Attribute (.Name x px) "index" apos) (a :: es) [] pos) (mIdx i fs) := by
  refine PE.imp (pe_bm PySem.F.plainAttrs_list PySem.F.slot_list_index PySem.F.type_list_index mt_index (pe_var (i := i) hN hvi hd hcd) ha hbase hfew hline hs hplain) fun σ H Q ⟨HF, L, ρ, S, R, p⟩ => ?_
  unfold mIdx at p
  split at p
  · rename_i ds hn
    obtain ⟨v, hv1, hv2⟩ := R.env i _ hn
    have hv2 : Rep (gd X W) HF v (.lst ds) := hv2
    cases hv2 with
    | lst h1 h2 =>
      rename_i q vs
      refine ⟨_, hv1, .inl ⟨rfl, vs, SqL.of (R.sub _ _ h1)⟩, HF, L, ρ, S, R, Post.bind p fun ys S1 ws H1 HF1 L1 e1 st1 R1 r1 p1 => ?_⟩
      obtain ⟨d, ed, p2⟩ := p1.lift
      unfold gIdx at ed
      split at ed
      · rename_i y
        split at ed
        · rename_i hc
          obtain ⟨j, hj, rfl⟩ := Option.map_eq_some_iff.mp ed
          obtain ⟨⟨z, hz, hzy⟩, hno⟩ := idxD_is y ds hj
          have r2 := Reps.mono st1.fro h2
          obtain ⟨w, rfl, rw'⟩ := r1.one
          obtain ⟨u, hu, ru⟩ := r2.get hz
          refine ⟨q, vs, w, j, u, rfl, rfl, SqL.of (R1.sub _ _ (st1.fro _ _ h1)), rw'.flatV hc.1, r2.flatV hc.2, hu, ?_, fun m z' hm hz' => ?_, p2.done R1 .no (.int _)⟩
          · rw [ru.eqV rw' (List.all_eq_true.mp hc.2 z (List.mem_of_getElem? hz)) hc.1]; exact hzy
          · obtain ⟨d', hd', rd'⟩ := r2.get' hz'
            rw [rd'.eqV rw' (List.all_eq_true.mp hc.2 d' (List.mem_of_getElem? hd')) hc.1]
            exact hno m d' hm hd'
        · cases ed
      · cases ed
  · exact p.elim
/-! is, is not: None on the right, or truth values -/
def gIsB : D → D → Option Bool
  | .bl a, .bl b => some (decide (a = b))
  | _, _ => none
def gNotB : D → D → Option Bool
  | .bl a, .bl b => some (!decide (a = b))
  | _, _ => none
theorem cIsB : CmpO X W .Is gIsB := by
  refine ⟨_, op_isBl, fun x y v w H HF b Q sub rx ry e q => ?_⟩
  unfold gIsB at e
  split at e
  · cases rx
    cases ry
    cases e
    exact ⟨_, _, rfl, rfl, q⟩
  · cases e
theorem cNotB : CmpO X W .IsNot gNotB := by
  refine ⟨_, op_notBl, fun x y v w H HF b Q sub rx ry e q => ?_⟩
  unfold gNotB at e
  split at e
  · cases rx
    cases ry
    cases e
    exact ⟨_, _, rfl, rfl, q⟩
  · cases e
end
end DL

/-! the layer of data: len(set(xs)) of distinct ints -/
namespace DL
open PySem PySem.Spec PyProof.Rows L2
theorem nodup_le {α : Type} [BEq α] [LawfulBEq α] : ∀ {a b : List α}, a.Nodup → (∀ x ∈ a, x ∈ b) → a.length ≤ b.length
  | [], _, _, _ => Nat.zero_le _
  | x :: a, b, h, hs => by
    obtain ⟨h1, h2⟩ := List.nodup_cons.mp h
    have hx := hs x List.mem_cons_self
    have := nodup_le (b := b.erase x) h2 fun y hy => by
      have : y ≠ x := fun e => h1 (e ▸ hy)
      exact (List.mem_erase_of_ne this).mpr (hs y (List.mem_cons_of_mem _ hy))
    rw [List.length_erase_of_mem hx] at this
    have := List.length_pos_of_mem hx
    simp only [List.length_cons]
    omega
/-- each of the numbers once -/
def distI : List Int → List Int
  | [] => []
  | x :: xs => if x ∈ distI xs then distI xs else x :: distI xs
theorem distI_mem {y : Int} : ∀ {xs : List Int}, y ∈ distI xs ↔ y ∈ xs
  | [] => Iff.rfl
  | x :: xs => by
    unfold distI
    split
    · rename_i h
      rw [distI_mem (xs := xs), List.mem_cons]
      refine ⟨fun h => .inr h, fun h' => ?_⟩
      rcases h' with rfl | h'
      · exact distI_mem.mp h
      · exact h'
    · rw [List.mem_cons, List.mem_cons, distI_mem (xs := xs)]
theorem distI_nodup : ∀ xs : List Int, (distI xs).Nodup
  | [] => List.nodup_nil
  | x :: xs => by
    unfold distI
    split
    · exact distI_nodup xs
    · rename_i h
      exact List.nodup_cons.mpr ⟨h, distI_nodup xs⟩
theorem distI_len : ∀ xs : List Int, (distI xs).length ≤ xs.length
  | [] => Nat.le_refl _
  | x :: xs => by
    have := distI_len xs
    unfold distI
    split <;> simp only [List.length_cons] <;> omega
theorem distI_of : ∀ {xs : List Int}, xs.Nodup → distI xs = xs
  | [], _ => rfl
  | x :: xs, h => by
    obtain ⟨h1, h2⟩ := List.nodup_cons.mp h
    unfold distI
    rw [distI_of h2, if_neg h1]
section
variable {X : Cx} {W : WD}
def tLenSetT (K : PySem.W.Frag) (ta : TE) : TE := fun σ H Q => ta σ H fun x H1 => ∃ (l : Addr) (ns : List Int), x = V.ref l ∧ SqT K H1 l (ns.map V.int) ∧ ns.length < 64 ∧ Q (.int (distI ns).length) H1
theorem pe_lenSetT {a : Expr} {ta : TE} {p p2 q pos : Pos} (hc : X.calm = true) (hg : Gl X "len") (hm : X.mg "len" = none) (hg2 : Gl X "set") (hm2 : X.mg "set" = none) (ha : PE X a ta)
    (na : starEach [a] X.env = (false, eval a X.env) :: starEach [] X.env := by rfl) : PE X (.Call (.Name "len" p) [.Call (.Name "set" p2) [a] [] q] [] pos) (tLenSetT X.K ta) := by
  refine ⟨fun pins s σ H Q I h => ?_⟩
  refine Call_ (ld_blt I hg hm PySem.boot_len ?_)
  refine PyProof.Rows.callWith_builtin1 (PyProof.Rows.args_cons ?_ rfl) rfl rfl
  refine Call_ (ld_blt I hg2 hm2 PyProof.Rows.boot_set ?_)
  refine PyProof.Rows.callWith_type1 (PyProof.Rows.args_cons (thn (ha.run pins s σ H _ I h) fun v s1 ⟨x, H1, I1, r1, q1⟩ => PyProof.Rows.args_nil ?_) na) na rfl
  obtain ⟨l, ns, rfl, hq, h1, q1⟩ := q1
  cases r1
  obtain ⟨its, r, pl, hz⟩ := I1.tuple hq
  have hi : IntsAre its.toArray.toList ns := by simpa using r.ints
  refine call_set_tupI ns (I1.ok.hd hc) (show s1.heap.IsTuple l its.toArray from pl) hi (by unfold scanBound; omega) fun h' tk c R1 hcn hk => ?_
  refine PyProof.Rows.args_nil ?_
  obtain ⟨o, es, ep, t, ho, hex, hd, g, nd, hm2, hb, hf, hn, hr, hl2⟩ := R1
  have hll := distI_len ns
  have hsz : es.size = (distI ns).length := by
    have a1 := nodup_le nd (b := distI ns) fun x hx => by
      have := (hm2 x).mpr hx
      exact distI_mem.mpr (of_decide_eq_true this)
    have a2 := nodup_le (distI_nodup ns) (b := es.toList.map keyOf) fun x hx => (hm2 x).mp (decide_eq_true (distI_mem.mp hx))
    have b1 : (es.toList.map keyOf).length = es.size := by rw [List.length_map, Array.length_toList]
    rw [b1] at a1 a2
    omega
  have I2 : Inv X pins σ H1 { s1 with heap := h', toks := tk } := I1.kept hk
  refine call_len_set ho hex hd hf (by rw [hsz] <;> omega) ⟨.int (distI ns).length, H1, I2.tok _, ⟨_, by rw [hsz]⟩, q1⟩
def gLenSet : D → Option D
  | .tup ds => match intsOf ds with
    | some is => if is.length < 64 then some (.int ((distI is).length : Int)) else none
    | none => none
  | _ => none
def mLenSet (fa : DEn) : DEn := fun ρ S => (fa ρ S).bind fun x S1 => lift (gLenSet x) S1
theorem xlenSet {a : Expr} {fa : DEn} {p p2 q pos : Pos} (hc : X.calm = true) (hm : X.mg "len" = none) (hm2 : X.mg "set" = none) (ha : DE X W a fa) (hg : Gl X "len" := by rfl) (hg2 : Gl X "set" := by rfl)
    (na : starEach [a] X.env = (false, eval a X.env) :: starEach [] X.env := by rfl) : DE X W (.Call (.Name "len" p) [.Call (.Name "set" p2) [a] [] q] [] pos) (mLenSet fa) :=
  PE.imp (pe_lenSetT hc hg hm hg2 hm2 ha na) fun σ H Q ⟨HF, L, ρ, S, R, p⟩ => ⟨HF, L, ρ, S, R, Post.bind p fun x S1 v H1 HF1 L1 e1 st1 R1 r1 p1 => by
    obtain ⟨d, ed, p2⟩ := p1.lift
    unfold gLenSet at ed
    split at ed
    · rename_i ds
      split at ed
      · rename_i is eb
        split at ed
        · rename_i hc
          cases ed
          cases r1 with
          | tup h1 h2 =>
            have ev := h2.intsOf eb
            subst ev
            exact ⟨_, is, rfl, SqT.mono R1.sub h1, hc, p2.done R1 .no (.int _)⟩
        · cases ed
      · cases ed
    · cases ed⟩
end
end DL

/-! the layer of data: max(xs, default=d), min(xs, default=d) of a list of ints -/
namespace DL
open PySem PySem.W PySem.Spec PyProof.Rows L2
section
variable {prog : Program} {w : World} {A : Around} {E : Value → Shared → Prop} {s : Shared} {l : Addr} {xs : Array (Int × Tok)} {d : Value}
theorem max_intListD {Q : Value → Shared → Prop} (hh : A.handled = none) (hl : s.heap.IsList l (intItems xs))
    (h0 : xs.size = 0 → ∀ h' tk, (∀ b o, s.heap.get? b = some o → h'.get? b = some o) → Q d { s with heap := h', toks := tk })
    (h : 0 < xs.size → ∀ v h' tk, (intItems xs)[argBest (fun i j => decide (numAt xs i > numAt xs j)) (xs.size - 1)]? = some v → (∀ b o, s.heap.get? b = some o → h'.get? b = some o) → Q v { s with heap := h', toks := tk }) :
    wpAny (model prog w) A (call (.builtin "max") [.ref l] [(Str.ofString "default", d)]) Q E s := by
  have hsz : (intItems xs).size = xs.size := by simp [intItems]
  refine call_max_walkD (iter_listW (A := A.in1) hh hl fun s₂ e W st hfp hw hk => ?_)
  refine ⟨_, _, _, _, _, _, _, s.heap, (fun i j => decide (numAt xs i > numAt xs j)), rfl, W, st, hfp, hw, hk, fun hz s' m => ?_, fun hp => ⟨fun i j vi vj s Q E _ h1 h2 q => CmpOf.ints_gt (numAt xs) (fun _ _ => intItems_at) i j vi vj s Q E h1 h2 q, fun v s' hP m => ?_⟩⟩
  · obtain ⟨h', tk, rfl, hk'⟩ := moved_old e rfl m
    exact h0 (by omega) h' tk hk'
  · obtain ⟨h', tk, rfl, hk'⟩ := moved_old e rfl m
    rw [hsz] at hP
    exact h (by omega) v h' tk hP hk'
theorem min_intListD {Q : Value → Shared → Prop} (hh : A.handled = none) (hl : s.heap.IsList l (intItems xs))
    (h0 : xs.size = 0 → ∀ h' tk, (∀ b o, s.heap.get? b = some o → h'.get? b = some o) → Q d { s with heap := h', toks := tk })
    (h : 0 < xs.size → ∀ v h' tk, (intItems xs)[argBest (fun i j => decide (numAt xs i < numAt xs j)) (xs.size - 1)]? = some v → (∀ b o, s.heap.get? b = some o → h'.get? b = some o) → Q v { s with heap := h', toks := tk }) :
    wpAny (model prog w) A (call (.builtin "min") [.ref l] [(Str.ofString "default", d)]) Q E s := by
  have hsz : (intItems xs).size = xs.size := by simp [intItems]
  refine call_min_walkD (iter_listW (A := A.in1) hh hl fun s₂ e W st hfp hw hk => ?_)
  refine ⟨_, _, _, _, _, _, _, s.heap, (fun i j => decide (numAt xs i < numAt xs j)), rfl, W, st, hfp, hw, hk, fun hz s' m => ?_, fun hp => ⟨fun i j vi vj s Q E _ h1 h2 q => CmpOf.ints_lt (numAt xs) (fun _ _ => intItems_at) i j vi vj s Q E h1 h2 q, fun v s' hP m => ?_⟩⟩
  · obtain ⟨h', tk, rfl, hk'⟩ := moved_old e rfl m
    exact h0 (by omega) h' tk hk'
  · obtain ⟨h', tk, rfl, hk'⟩ := moved_old e rfl m
    rw [hsz] at hP
    exact h (by omega) v h' tk hP hk'
end
section
variable {prog : Program} {w : World} {A : Around} {E : Value → Shared → Prop} {s : Shared} {l : Addr} {its : List Value} {ns : List Int} {d : Value} {Q : Value → Shared → Prop}
theorem max_rawD (hh : A.handled = none) (hl : s.heap.IsList l its.toArray) (hi : IntsAre its ns)
    (h0 : ns = [] → ∀ h' tk, (∀ b o, s.heap.get? b = some o → h'.get? b = some o) → Q d { s with heap := h', toks := tk })
    (h : ∀ h' tk M t', (∀ b o, s.heap.get? b = some o → h'.get? b = some o) → M ∈ ns → (∀ a, a ∈ ns → a ≤ M) → Q (.int M t') { s with heap := h', toks := tk }) : wpAny (model prog w) A (call (.builtin "max") [.ref l] [(Str.ofString "default", d)]) Q E s := by
  obtain ⟨xs, e⟩ := hi.allInts.items
  have hn : numsOf (intItems xs).toList = ns := by rw [← e]; exact hi.numsOf
  rw [nums_intItems] at hn
  subst hn
  rw [e] at hl
  refine max_intListD hh hl (fun hz => h0 (by
    have : xs.toList.length = 0 := by rw [Array.length_toList]; exact hz
    rw [List.eq_nil_of_length_eq_zero this]; rfl)) fun hsz v h' tk hv hk => ?_
  obtain ⟨t, rfl⟩ := intItems_at hv
  obtain ⟨h1, h2⟩ := argBest_gt (numAt xs) (xs.size - 1)
  refine h h' tk _ t hk ?_ fun a ha => ?_
  · rw [numAt_eq]; exact PySem.getD_mem (by rw [List.length_map, Array.length_toList]; omega)
  · obtain ⟨j, hj, rfl⟩ := mem_getD ha
    rw [List.length_map, Array.length_toList] at hj
    rw [← numAt_eq]; exact h2 j (by omega)
theorem min_rawD (hh : A.handled = none) (hl : s.heap.IsList l its.toArray) (hi : IntsAre its ns)
    (h0 : ns = [] → ∀ h' tk, (∀ b o, s.heap.get? b = some o → h'.get? b = some o) → Q d { s with heap := h', toks := tk })
    (h : ∀ h' tk M t', (∀ b o, s.heap.get? b = some o → h'.get? b = some o) → M ∈ ns → (∀ a, a ∈ ns → M ≤ a) → Q (.int M t') { s with heap := h', toks := tk }) : wpAny (model prog w) A (call (.builtin "min") [.ref l] [(Str.ofString "default", d)]) Q E s := by
  obtain ⟨xs, e⟩ := hi.allInts.items
  have hn : numsOf (intItems xs).toList = ns := by rw [← e]; exact hi.numsOf
  rw [nums_intItems] at hn
  subst hn
  rw [e] at hl
  refine min_intListD hh hl (fun hz => h0 (by
    have : xs.toList.length = 0 := by rw [Array.length_toList]; exact hz
    rw [List.eq_nil_of_length_eq_zero this]; rfl)) fun hsz v h' tk hv hk => ?_
  obtain ⟨t, rfl⟩ := intItems_at hv
  obtain ⟨h1, h2⟩ := argBest_lt (numAt xs) (xs.size - 1)
  refine h h' tk _ t hk ?_ fun a ha => ?_
  · rw [numAt_eq]; exact PySem.getD_mem (by rw [List.length_map, Array.length_toList]; omega)
  · obtain ⟨j, hj, rfl⟩ := mem_getD ha
    rw [List.length_map, Array.length_toList] at hj
    rw [← numAt_eq]; exact h2 j (by omega)
end
section
variable {X : Cx} {W : WD}
def rMaxD (K : PySem.W.Frag) : List V → List V → Hp → VK → Prop := fun vs zs H Q => ∃ (a : Addr) (ns : List Int) (d : V), vs = [V.ref a] ∧ zs = [d] ∧ SqL K H a (ns.map V.int) ∧ (ns = [] → Q d H) ∧ ∀ m, m ∈ ns → (∀ y, y ∈ ns → y ≤ m) → Q (.int m) H
def rMinD (K : PySem.W.Frag) : List V → List V → Hp → VK → Prop := fun vs zs H Q => ∃ (a : Addr) (ns : List Int) (d : V), vs = [V.ref a] ∧ zs = [d] ∧ SqL K H a (ns.map V.int) ∧ (ns = [] → Q d H) ∧ ∀ m, m ∈ ns → (∀ y, y ∈ ns → m ≤ y) → Q (.int m) H
theorem cr_maxD (hc : X.calm = true) : CallRK X (.builtin "max") [Str.ofString "default"] (rMaxD X.K) := by
  intro pins s σ H vs zs us ws Q I r rz h
  obtain ⟨a, ns, d, rfl, rfl, hs, q0, q⟩ := h
  obtain rfl := Vals.ref1 r
  obtain ⟨w1, rfl, e1⟩ := vals1 rz
  obtain ⟨its, rv, hl, _⟩ := I.list hs
  exact max_rawD (I.ok.hd hc) hl.isList rv.ints (fun hz h' tk hk => ⟨d, H, I.kept hk, e1, q0 hz⟩) fun h' tk m t' hk h1 h2 => ⟨.int _, H, I.kept hk, ⟨_, rfl⟩, q m h1 h2⟩
theorem cr_minD (hc : X.calm = true) : CallRK X (.builtin "min") [Str.ofString "default"] (rMinD X.K) := by
  intro pins s σ H vs zs us ws Q I r rz h
  obtain ⟨a, ns, d, rfl, rfl, hs, q0, q⟩ := h
  obtain rfl := Vals.ref1 r
  obtain ⟨w1, rfl, e1⟩ := vals1 rz
  obtain ⟨its, rv, hl, _⟩ := I.list hs
  exact min_rawD (I.ok.hd hc) hl.isList rv.ints (fun hz h' tk hk => ⟨d, H, I.kept hk, e1, q0 hz⟩) fun h' tk m t' hk h1 h2 => ⟨.int _, H, I.kept hk, ⟨_, rfl⟩, q m h1 h2⟩
def gMaxD : D → D → Option D
  | .lst ds, y => match intsOf ds with
    | some [] => some y
    | some (m :: is) => some (.int (maxI m is))
    | none => none
  | _, _ => none
def mMaxD (fa fb : DEn) : DEn := fun ρ S => (fa ρ S).bind fun x S1 => (fb ρ S1).bind fun y S2 => lift (gMaxD x y) S2
theorem xmaxD {p pos kpos : Pos} {a b : Expr} {fa fb : DEn} (hc : X.calm = true) (hm : X.mg "max" = none) (hv : bootBuiltins "max" = some (.builtin "max")) (ha : DE X W a fa) (hb : DE X W b fb) (hg : Gl X "max" := by rfl)
    (hs : starEach [a] X.env = (false, eval a X.env) :: starEach [] X.env := by rfl)
    (he : backTo pos (starEach [a] X.env) = (false, eval a X.env) :: backTo pos (starEach [] X.env) := by rfl) (hpl : (backTo pos (starEach [a] X.env)).any (·.1) = false := by rfl)
    (hall : (backToKw pos (keywordEach [⟨some (Str.ofString "default"), b, kpos⟩] X.env)).all (·.1.isSome) = true := by rfl) (hnone : (backToKw pos (keywordEach [⟨some (Str.ofString "default"), b, kpos⟩] X.env)).any (·.1.isNone) = false := by rfl) (hks : (backToKw pos (keywordEach [⟨some (Str.ofString "default"), b, kpos⟩] X.env)).filterMap (·.1) = [Str.ofString "default"] := by rfl) :
    DE X W (.Call (.Name "max" p) [a] [⟨some (Str.ofString "default"), b, kpos⟩] pos) (mMaxD fa fb) :=
  PE.imp (pe_callBK (cr_maxD hc) hg hm hv (pa_cons ha pa_nil hs) (pk_cons hb pk_nil) (by decide) (by decide) he hpl hall hnone hks) fun σ H Q ⟨HF, L, ρ, S, R, p⟩ => ⟨HF, L, ρ, S, R, Post.bind p fun x S1 v H1 HF1 L1 e1 st1 R1 r1 p1 => ⟨HF1, L1, ρ, S1, R1, Post.bind p1 fun y S2 w H2 HF2 L2 e2 st2 R2 r2 p2 => by
    obtain ⟨d, ed, p3⟩ := p2.lift
    have r1' := Rep.mono st2.fro r1
    unfold gMaxD at ed
    split at ed
    · rename_i ds y'
      cases r1' with
      | lst h1 h2 =>
        split at ed
        · rename_i eb
          cases ed
          have ev := h2.intsOf eb
          subst ev
          exact ⟨_, [], w, rfl, rfl, SqL.of (R2.sub _ _ h1), fun _ => p3.done R2 .no r2, fun m hm => (by cases hm)⟩
        · rename_i m is eb
          cases ed
          have ev := h2.intsOf eb
          subst ev
          obtain ⟨g1, g2⟩ := maxI_is is m
          refine ⟨_, m :: is, w, rfl, rfl, SqL.of (R2.sub _ _ h1), fun z => (by cases z), fun z hz hm => ?_⟩
          have e1 := hm _ g1
          have e2 := g2 _ hz
          obtain rfl : z = maxI m is := by omega
          exact p3.done R2 .no (.int _)
        · cases ed
    · cases ed⟩⟩
def gMinD : D → D → Option D
  | .lst ds, y => match intsOf ds with
    | some [] => some y
    | some (m :: is) => some (.int (minI m is))
    | none => none
  | _, _ => none
def mMinD (fa fb : DEn) : DEn := fun ρ S => (fa ρ S).bind fun x S1 => (fb ρ S1).bind fun y S2 => lift (gMinD x y) S2
theorem xminD {p pos kpos : Pos} {a b : Expr} {fa fb : DEn} (hc : X.calm = true) (hm : X.mg "min" = none) (hv : bootBuiltins "min" = some (.builtin "min")) (ha : DE X W a fa) (hb : DE X W b fb) (hg : Gl X "min" := by rfl)
    (hs : starEach [a] X.env = (false, eval a X.env) :: starEach [] X.env := by rfl)
    (he : backTo pos (starEach [a] X.env) = (false, eval a X.env) :: backTo pos (starEach [] X.env) := by rfl) (hpl : (backTo pos (starEach [a] X.env)).any (·.1) = false := by rfl)
    (hall : (backToKw pos (keywordEach [⟨some (Str.ofString "default"), b, kpos⟩] X.env)).all (·.1.isSome) = true := by rfl) (hnone : (backToKw pos (keywordEach [⟨some (Str.ofString "default"), b, kpos⟩] X.env)).any (·.1.isNone) = false := by rfl) (hks : (backToKw pos (keywordEach [⟨some (Str.ofString "default"), b, kpos⟩] X.env)).filterMap (·.1) = [Str.ofString "default"] := by rfl) :
    DE X W (.Call (.Name "min" p) [a] [⟨some (Str.ofString "default"), b, kpos⟩] pos) (mMinD fa fb) :=
  PE.imp (pe_callBK (cr_minD hc) hg hm hv (pa_cons ha pa_nil hs) (pk_cons hb pk_nil) (by decide) (by decide) he hpl hall hnone hks) fun σ H Q ⟨HF, L, ρ, S, R, p⟩ => ⟨HF, L, ρ, S, R, Post.bind p fun x S1 v H1 HF1 L1 e1 st1 R1 r1 p1 => ⟨HF1, L1, ρ, S1, R1, Post.bind p1 fun y S2 w H2 HF2 L2 e2 st2 R2 r2 p2 => by
    obtain ⟨d, ed, p3⟩ := p2.lift
    have r1' := Rep.mono st2.fro r1
    unfold gMinD at ed
    split at ed
    · rename_i ds y'
      cases r1' with
      | lst h1 h2 =>
        split at ed
        · rename_i eb
          cases ed
          have ev := h2.intsOf eb
          subst ev
          exact ⟨_, [], w, rfl, rfl, SqL.of (R2.sub _ _ h1), fun _ => p3.done R2 .no r2, fun m hm => (by cases hm)⟩
        · rename_i m is eb
          cases ed
          have ev := h2.intsOf eb
          subst ev
          obtain ⟨g1, g2⟩ := minI_is is m
          refine ⟨_, m :: is, w, rfl, rfl, SqL.of (R2.sub _ _ h1), fun z => (by cases z), fun z hz hm => ?_⟩
          have e1 := hm _ g1
          have e2 := g2 _ hz
          obtain rfl : z = minI m is := by omega
          exact p3.done R2 .no (.int _)
        · cases ed
    · cases ed⟩⟩
end
end DL

/-! the layer of data: list(range(a, b)) -/
namespace DL
open PySem PySem.Spec PyProof.Rows L2
section
variable {X : Cx} {W : WD} {pos : Pos} {a b : Expr} {fa fb : DEn}
def mListRg2 (fa fb : DEn) : DEn := fun ρ S => (fa ρ S).bind fun x S1 => (fb ρ S1).bind fun y S2 => match x, y with
  | .int m, .int n => if (m ≤ 1000000 ∧ -1000000 ≤ m) ∧ (n ≤ 1000000 ∧ -1000000 ≤ n) then .ok (.lst (rgD m n)) S2 else .bad
  | _, _ => .bad
theorem xlistRg2 {p p2 pos2 : Pos} (hc : X.calm = true) (hm : X.mg "list" = none) (hm2 : X.mg "range" = none) (ha : DE X W a fa) (hb : DE X W b fb) (hg : Gl X "list" := by rfl) (hg2 : Gl X "range" := by rfl)
    (na : starEach [a, b] X.env = (false, eval a X.env) :: starEach [b] X.env := by rfl) (nb : starEach [b] X.env = (false, eval b X.env) :: starEach [] X.env := by rfl) (hp : (backTo pos2 (starEach [b] X.env)).any (·.1) = false := by rfl)
    (na2 : starEach [Expr.Call (.Name "range" p2) [a, b] [] pos2] X.env = (false, eval (.Call (.Name "range" p2) [a, b] [] pos2) X.env) :: starEach [] X.env := by rfl) :
    DE X W (.Call (.Name "list" p) [.Call (.Name "range" p2) [a, b] [] pos2] [] pos) (mListRg2 fa fb) :=
  PE.imp (pe_listRg hc hg hm (prg_2 hg2 hm2 ha hb na nb hp) na2) fun σ H Q ⟨HF, L, ρ, S, R, p⟩ => ⟨HF, L, ρ, S, R, Post.bind p fun x S1 v H1 HF1 L1 e1 st1 R1 r1 p1 => ⟨HF1, L1, ρ, S1, R1, Post.bind p1 fun y S2 w H2 HF2 L2 e2 st2 R2 r2 p2 => by
    split at p2
    · rename_i m n
      cases r1
      cases r2
      split at p2
      · rename_i hz
        refine ⟨m, n, rfl, rfl, ⟨by omega, by omega, by omega, by omega, by omega⟩, fun q hq => p2.done R2 (.new hq) (.lst upd_same (rgD_reps m n))⟩
      · exact p2.elim
    · exact p2.elim⟩⟩
end
end DL

/-! the layer of data: x.count(y) of a list that no one changes, flat items -/
namespace DL
open PySem PySem.Spec PyProof.Rows L2
section
variable {X : Cx}
def rCntF (K : PySem.W.Frag) : V → List V → Hp → VK → Prop := fun x xs H Q => ∃ (a : Addr) (ys : List V) (y : V), x = V.ref a ∧ xs = [y] ∧ SqL K H a ys ∧ flatV y = true ∧ ys.all flatV = true ∧ Q (.int (ys.countP (fun z => eqV z y) : Nat)) H
theorem countU {y : V} : ∀ {ys : List V} {us : List Value}, Vals ys us → ys.all flatV = true → us.countP (eqU y) = ys.countP (fun z => eqV z y)
  | _, _, .nil, _ => rfl
  | _, _, .cons r rs, h => by
    rw [List.all_cons, Bool.and_eq_true] at h
    rw [List.countP_cons, List.countP_cons, countU rs h.2, eqU_of r h.1]
theorem mt_countF : MtR X "list.count" (rCntF X.K) := by
  intro pins s σ H x xs v us Q I rx rxs h
  obtain ⟨a, ys, y, rfl, rfl, hs, fy, fys, q⟩ := h
  cases rx
  cases rxs with
  | cons ry rt =>
    rename_i uy ut
    cases rt
    obtain ⟨its, rv, ⟨⟨cls, dd, data, sl⟩, n, ho, hc, hdn, hd⟩, hlen⟩ := I.list hs
    simp only at hc hd
    subst hc hd
    refine call_meets PySem.F.slot_list_count ⟨_, ho, rfl⟩ PySem.F.entry_list_count (PySem.F.args_list_count_2 _ _)
      (SeqAt.list_countAt a its.toArray n dd sl uy (eqU y)) ⟨ho, fun u' hu' => mem_eqAt ry fy rv fys u' (by simpa using hu'), ?_⟩
    have ec : its.toArray.toList.countP (eqU y) = ys.countP (fun z => eqV z y) := countU rv fys
    refine ⟨.int (ys.countP (fun z => eqV z y) : Nat), H, I.tok _, ⟨s.toks, ?_⟩, q⟩
    show Value.int ((its.toArray.toList.countP (eqU y) : Nat) : Int) s.toks = Value.int _ s.toks
    rw [ec]
end
section
variable {X : Cx} {W : WD} {pos : Pos} {a : Expr} {es : List Expr}
theorem Reps.cntV {G : Gd} {HF : Hp} {y : D} {v : V} (r : Rep G HF v y) (c : y.flat = true) : ∀ {ds : List D} {vs : List V}, Reps G HF vs ds → ds.all D.flat = true → vs.countP (fun z => eqV z v) = ds.countP (fun z => deq z y)
  | _, _, .nil, _ => rfl
  | _, _, .cons h hs, f => by
    rw [List.all_cons, Bool.and_eq_true] at f
    rw [List.countP_cons, List.countP_cons, Reps.cntV r c hs f.2, h.eqV r f.1 c]
def gCnt (ds : List D) : List D → Option D
  | [y] => if y.flat = true ∧ ds.all D.flat = true then some (.int (ds.countP (fun z => deq z y) : Nat)) else none
  | _ => none
def mCnt (i : Nat) (fs : DDn) : DEn := fun ρ S => match ρ[i]? with
  | some (some (.v (.lst ds))) => (fs ρ S).bind fun ys S1 => lift (gCnt ds ys) S1
  | _ => .bad
theorem xcnt (i : Nat) {x : Str} {px apos : Pos} {fs : DDn} (ha : DA X W (a :: es) fs) (hN : X.N[i]? = some x := by rfl) (hvi : Vis X.env.scope x := by first | exact Or.inl rfl | exact Or.inr (Or.inl rfl) | exact Or.inr (Or.inr rfl)) (hd : (x == ("__debug__" : Str)) = false := by decide) (hcd : (x == ("__classdict__" : Str)) = false := by decide)
    (hbase : attributeBase (.Name x px) "count" X.env (eval (.Name x px) X.env) = eval (.Name x px) X.env := by rfl)
    (hfew : ((backTo pos (starEach (a :: es) X.env)).all (fun x => !x.1) && (backToKw pos (keywordEach [] X.env)).all (fun x => x.1.isSome) && decide ((a :: es).length + ([] : List Keyword).length + (if ([] : List Keyword).isEmpty then 0 else 1) < 30)) = true := by rfl)
    (hline : (apos.endLine == pos.line) = true := by rfl) (hs : starEach (a :: es) X.env = (false, eval a X.env) :: starEach es X.env := by rfl) (hplain : (backTo pos (starEach es X.env)).any (·.1) = false := by rfl) :
    DE X W (.Call (.Attribute (.Name x px) "count" apos) (a :: es) [] pos) (mCnt i fs) := by
  refine PE.imp (pe_bm PySem.F.plainAttrs_list PySem.F.slot_list_count PySem.F.type_list_count mt_countF (pe_var (i := i) hN hvi hd hcd) ha hbase hfew hline hs hplain) fun σ H Q ⟨HF, L, ρ, S, R, p⟩ => ?_
  unfold mCnt at p
  split at p
  · rename_i ds hn
    obtain ⟨v, hv1, hv2⟩ := R.env i _ hn
    have hv2 : Rep (gd X W) HF v (.lst ds) := hv2
    cases hv2 with
    | lst h1 h2 =>
      rename_i q vs
      refine ⟨_, hv1, .inl ⟨rfl, vs, SqL.of (R.sub _ _ h1)⟩, HF, L, ρ, S, R, Post.bind p fun ys S1 ws H1 HF1 L1 e1 st1 R1 r1 p1 => ?_⟩
      obtain ⟨d, ed, p2⟩ := p1.lift
      unfold gCnt at ed
      split at ed
      · rename_i y
        split at ed
        · rename_i hc
          cases ed
          have r2 := Reps.mono st1.fro h2
          obtain ⟨w, rfl, rw'⟩ := r1.one
          refine ⟨q, vs, w, rfl, rfl, SqL.of (R1.sub _ _ (st1.fro _ _ h1)), rw'.flatV hc.1, r2.flatV hc.2, ?_⟩
          rw [Reps.cntV rw' hc.1 r2 hc.2]
          exact p2.done R1 .no (.int _)
        · cases ed
      · cases ed
  · exact p.elim
end
end DL

/-! the layer of data: tuple(range(a)), tuple(range(a, b)) -/
namespace DL
open PySem PySem.Spec PyProof.Rows L2
section
variable {X : Cx} {W : WD} {pos : Pos} {a b : Expr} {fa fb : DEn}
def mTupRg (fa : DEn) : DEn := fun ρ S => (fa ρ S).bind fun x S1 => match x with
  | .int n => if n ≤ 1000000 ∧ -1000000 ≤ n then .ok (.tup (rgD 0 n)) S1 else .bad
  | _ => .bad
theorem xtupRg {p p2 pos2 : Pos} (hc : X.calm = true) (hm : X.mg "tuple" = none) (hm2 : X.mg "range" = none) (ha : DE X W a fa) (hg : Gl X "tuple" := by rfl) (hg2 : Gl X "range" := by rfl)
    (na : starEach [a] X.env = (false, eval a X.env) :: starEach [] X.env := by rfl) (na2 : starEach [Expr.Call (.Name "range" p2) [a] [] pos2] X.env = (false, eval (.Call (.Name "range" p2) [a] [] pos2) X.env) :: starEach [] X.env := by rfl) :
    DE X W (.Call (.Name "tuple" p) [.Call (.Name "range" p2) [a] [] pos2] [] pos) (mTupRg fa) :=
  PE.imp (pe_tupRg hc hg hm (prg_1 hg2 hm2 ha na) na2) fun σ H Q ⟨HF, L, ρ, S, R, p⟩ => ⟨HF, L, ρ, S, R, Post.bind p fun x S1 v H1 HF1 L1 e1 st1 R1 r1 p1 => by
    split at p1
    · rename_i n
      cases r1
      split at p1
      · rename_i hz
        refine ⟨n, rfl, ⟨by omega, by omega, by omega, by omega, by omega⟩, fun q hq => p1.done R1 (.new hq) (.tup (SqE.of upd_same) (rgD_reps 0 n))⟩
      · exact p1.elim
    · exact p1.elim⟩
def mTupRg2 (fa fb : DEn) : DEn := fun ρ S => (fa ρ S).bind fun x S1 => (fb ρ S1).bind fun y S2 => match x, y with
  | .int m, .int n => if (m ≤ 1000000 ∧ -1000000 ≤ m) ∧ (n ≤ 1000000 ∧ -1000000 ≤ n) then .ok (.tup (rgD m n)) S2 else .bad
  | _, _ => .bad
theorem xtupRg2 {p p2 pos2 : Pos} (hc : X.calm = true) (hm : X.mg "tuple" = none) (hm2 : X.mg "range" = none) (ha : DE X W a fa) (hb : DE X W b fb) (hg : Gl X "tuple" := by rfl) (hg2 : Gl X "range" := by rfl)
    (na : starEach [a, b] X.env = (false, eval a X.env) :: starEach [b] X.env := by rfl) (nb : starEach [b] X.env = (false, eval b X.env) :: starEach [] X.env := by rfl) (hp : (backTo pos2 (starEach [b] X.env)).any (·.1) = false := by rfl)
    (na2 : starEach [Expr.Call (.Name "range" p2) [a, b] [] pos2] X.env = (false, eval (.Call (.Name "range" p2) [a, b] [] pos2) X.env) :: starEach [] X.env := by rfl) :
    DE X W (.Call (.Name "tuple" p) [.Call (.Name "range" p2) [a, b] [] pos2] [] pos) (mTupRg2 fa fb) :=
  PE.imp (pe_tupRg hc hg hm (prg_2 hg2 hm2 ha hb na nb hp) na2) fun σ H Q ⟨HF, L, ρ, S, R, p⟩ => ⟨HF, L, ρ, S, R, Post.bind p fun x S1 v H1 HF1 L1 e1 st1 R1 r1 p1 => ⟨HF1, L1, ρ, S1, R1, Post.bind p1 fun y S2 w H2 HF2 L2 e2 st2 R2 r2 p2 => by
    split at p2
    · rename_i m n
      cases r1
      cases r2
      split at p2
      · rename_i hz
        refine ⟨m, n, rfl, rfl, ⟨by omega, by omega, by omega, by omega, by omega⟩, fun q hq => p2.done R2 (.new hq) (.tup (SqE.of upd_same) (rgD_reps m n))⟩
      · exact p2.elim
    · exact p2.elim⟩⟩
end
end DL

/-! the layer of data: x = {}, of which no more is asked -/
namespace DL
open PySem PySem.Spec PyProof.Rows L2
section
variable {G : Gd} {H HF : Hp} {L : List Addr} {σ : L2.St} {ρ : DL.Env} {S : Store}
theorem Rel.forget (R : Rel G H HF L σ ρ S) (i : Nat) (v : Option V) : Rel G H HF L (σ.set i v) (ρ.set i none) S := by
  refine ⟨R.sub, R.nd, R.sl, R.liv, R.tab, R.nft, R.cell, by simpa using R.el, fun j x h => ?_⟩
  by_cases hj : j = i
  · subst hj
    by_cases hl : j < ρ.length
    · rw [List.getElem?_set_self hl] at h
      cases h
    · rw [List.getElem?_eq_none (by simpa using hl)] at h; cases h
  · rw [List.getElem?_set_ne (Ne.symm hj)] at h ⊢
    exact R.env j x h
end
section
variable {X : Cx} {W : WD} {pos : Pos}
def mForget (i : Nat) : DSn := fun ρ S => .ok (.nx, ρ.set i none) S
theorem ssetD (i : Nat) {x : Str} {px pd : Pos} (hN : X.N.Nodup) (hi : X.N[i]? = some x := by rfl) (hx : Loc X.env.scope x := by first | exact Or.inl rfl | exact Or.inr rfl) (hs : swapsWith (.Dict [] [] pd) (some (.Name x px)) pos.line X.env = pure false := by rfl) (hf : X.fn x = true ∨ X.env.scope.names.lookup x = some .local := by first | exact .inl rfl | exact .inr rfl | assumption) :
    DS X W (.Assign [.Name x px] (.Dict [] [] pd) pos) (mForget i) :=
  PS.imp (ps_set hN hi hx pe_dnewK hs hf) fun D σ H ⟨HF, L, ρ, S, R, p⟩ => fun q hq => by
    have a : Al H HF (upd H q (.dK [])) (upd HF q (.dK [])) := .new hq
    exact p _ _ _ _ (R.al a).2 (Rel.forget (R.al a).1 i _)
end
end DL

/-! the layer of data: x.extend(t) with a tuple -/
namespace DL
open PySem PySem.Spec PyProof.Rows L2
set_option maxRecDepth 8000 in
theorem list_ext_tup (l : Addr) (items : Array Value) (n : Nat) (b : Addr) (items2 : Array Value) (n2 : Nat) (dd : Option Addr) (sl : Array (Option Value)) (hs0 : ¬(!items.isEmpty && Builtin.List.listTooLong (items.size + items2.size)) = true) (hs1 : items.size ≤ sizeLine) (hs2 : items.size + items2.size ≤ sizeLine + 1) :
    Meets (Builtin.«list.extend» ⟨[.ref l, .ref b], []⟩) (fun _ R s => s.heap.get? l = some { cls := .type "list", dict := none, data := .seq items n, slots := #[] } ∧ s.heap.get? b = some { cls := .type "tuple", dict := dd, data := .seq items2 n2, slots := sl } ∧ R (.ok (.ret Value.none)) { s with heap := s.heap.update l (Obj.mapSeq fun x => x ++ items2), toks := s.toks }) :=
  .of_wp fun prog w A R s h => by
    obtain ⟨hp, g, d, tk, os⟩ := s; obtain ⟨hl, hb, h⟩ := h; have f1 := AutoSeq1.idx_int; have f2 := AutoSeq1.sub_tuple_tuple; have f3 := AutoSeq1.sub_list_list; have f4 := AutoSeq1.sub_tuple_list; have f5 := AutoSeq1.sub_list_tuple;
    have hz' : (items ++ items2).size ≤ sizeLine + 1 := by rw [Array.size_append]; exact hs2
    wp_walk using (wpAny_updateSeq hl rfl (hz := hs1) (_hz' := hz')), wpAny_loadPart' hl, wpAny_loadPart' hb; exact ⟨_, rfl, h⟩
section
variable {X : Cx} {W : WD}
def rExtT (K : PySem.W.Frag) : V → List V → Hp → VK → Prop := fun x vs H Q => ∃ l b xs zs, x = V.ref l ∧ vs = [V.ref b] ∧ H l = some (.lst xs) ∧ SqT K H b zs ∧ xs.length + zs.length ≤ sizeLine ∧ Q .non (upd H l (.lst (xs ++ zs)))
theorem mt_extT : MtR X "list.extend" (rExtT X.K) := by
  intro pins s σ H x vs v us Q I rx rv h
  obtain ⟨l, b, xs, zs, rfl, rfl, hH, hB, hz, q⟩ := h
  cases rx
  obtain ⟨u, rfl, ru⟩ := rv.one
  cases ru
  obtain ⟨z, its, n, r, hl, e⟩ := I.lstM hH
  obtain ⟨its2, r2, pl2, hz2⟩ := I.tuple hB
  obtain ⟨⟨cls, dd, dt, sl⟩, ho, hc, n2, hd⟩ := pl2
  simp only at hc hd
  subst hc
  subst hd
  have hl2 := r2.length
  have hsz : its.toArray.size + its2.toArray.size ≤ sizeLine := by rw [List.size_toArray, List.size_toArray]; omega
  have hlong : ¬ (!its.toArray.isEmpty && Builtin.List.listTooLong (its.toArray.size + its2.toArray.size)) = true := by
    rw [notLongL hsz, Bool.and_false]
    exact Bool.false_ne_true
  refine call_meets F.slot_list_extend ⟨_, e, rfl⟩ F.entry_list_extend (F.args_list_extend_2 _ _)
    (list_ext_tup l its.toArray n b its2.toArray n2 dd sl hlong (by rw [List.size_toArray]; omega) (by omega)) ⟨e, ho, ?_⟩
  refine ⟨.non, _, I.lset (its' := its ++ its2) hH e (by simp) (r.append r2) ?_, rfl, q⟩
  rw [List.length_append]
  omega
def gExtend : List D → List D → Option (List D × D)
  | ds, [.tup ys] => if ds.length + ys.length ≤ lim then some (ds ++ ys, .non) else none
  | _, _ => none
theorem meExtend : MeO X W "extend" "list.extend" gExtend := by
  refine ⟨rExtT X.K, PySem.F.plainAttrs_list, PySem.F.slot_list_extend, PySem.F.type_list_extend, mt_extT, fun q ds ys ds' d vs ws H HF Q hq r1 r2 sub e k => ?_⟩
  unfold gExtend at e
  split at e
  · split at e
    · rename_i ts hz
      cases e
      obtain ⟨w, rfl, rw'⟩ := r2.one
      cases rw' with
      | tup h1 h2 => exact ⟨q, _, vs, _, rfl, rfl, hq, SqT.mono sub h1, by rw [r1.length, h2.length]; exact Nat.le_trans hz lim_le, k _ _ (r1.append h2) .non⟩
    · cases e
  · cases e
end
end DL

/-! the layer of data: ranges as values -/
namespace DL
open PySem PySem.Spec PyProof.Rows L2
section
variable {X : Cx} {W : WD} {pos : Pos} {a b : Expr} {fa fb : DEn} {tg : Expr}
theorem cr_range1 : CallR X (.type "range") (fun vs H Q => ∃ j, vs = [V.int j] ∧ ∀ p, H p = none → Q (.ref p) (upd H p (.rng 0 j))) := by
  intro pins s σ H vs us Q I r h
  obtain ⟨j, rfl, q⟩ := h
  obtain ⟨u1, rfl, ri⟩ := vals1 r
  obtain ⟨t, rfl⟩ := ri
  refine call_range_1 ⟨.ref s.heap.objs.size, upd H s.heap.objs.size (.rng 0 j), I.laid (t' := s.toks + 1 + 1) (fun b o e => Heap.get?_push_of_some _ e) (Nat.le_refl _) ?_, rfl, q _ (I.hok.fresh (Nat.le_refl _))⟩
  exact ⟨s.toks, t, s.toks + 1, Heap.get?_push_size _ rfl⟩
def gRgV : List D → Option D
  | [.int n] => some (.rng 0 n)
  | _ => none
theorem biRgV : BiO X W (.type "range") gRgV := by
  refine ⟨_, cr_range1, fun xs vs H HF d Q sub r e q => ?_⟩
  unfold gRgV at e
  split at e
  · cases e
    obtain ⟨v, rfl, h⟩ := r.one
    cases h
    exact ⟨_, rfl, fun p hp => q _ _ _ (.new hp) (.rng upd_same)⟩
  · cases e
theorem cr_lenR : CallR X (.builtin "len") (fun vs H Q => ∃ a lo hi, vs = [V.ref a] ∧ H a = some (.rng lo hi) ∧ hi - lo < 2 ^ 62 ∧ Q (.int ((hi - lo).toNat : Nat)) H) := by
  intro pins s σ H vs us Q I r h
  obtain ⟨a, lo, hi, rfl, ha, hz, q⟩ := h
  obtain ⟨u, rfl, ru⟩ := vals1 r
  obtain rfl : u = Value.ref a := ru
  obtain ⟨t1, t2, t3, ho⟩ := I.hok a _ ha
  exact call_len_range (n := (hi - lo).toNat) ho (by rw [rangeSize_one]; split <;> omega) (by omega) ⟨.int ((hi - lo).toNat : Nat), H, I.kept (t' := s.toks + 1 + 1) fun b o e => e, ⟨_, rfl⟩, q⟩
def gLenR : List D → Option D
  | [.rng lo hi] => if hi - lo < 1000000 then some (.int ((hi - lo).toNat : Nat)) else none
  | _ => none
theorem biLenR : BiO X W (.builtin "len") gLenR := by
  refine ⟨_, cr_lenR, fun xs vs H HF d Q sub r e q => ?_⟩
  unfold gLenR at e
  split at e
  · split at e
    · rename_i hz
      cases e
      obtain ⟨v, rfl, h⟩ := r.one
      cases h
      rename_i h1
      exact ⟨_, _, _, rfl, sub _ _ h1, by omega, q _ _ _ .no (.int _)⟩
    · cases e
  · cases e
def iRgV (tl : TE) : TI := fun σ H R => tl σ H fun x H1 => ∃ a lo hi, x = V.ref a ∧ H1 a = some (.rng lo hi) ∧ (-(2 ^ 62) ≤ lo ∧ lo < 2 ^ 62 ∧ -(2 ^ 62) ≤ hi ∧ hi < 2 ^ 62) ∧ R (Itr lo (hi - lo).toNat) H1
theorem pi_rgV {l : Expr} {tl : TE} (hl : PE X l tl) : PI X tg l (iRgV tl) := by
  refine ⟨fun pins s σ H R I h => ?_⟩
  refine thn (hl.run pins s σ H _ I h) fun v s1 ⟨x, H1, I1, r1, q1⟩ => ?_
  obtain ⟨a, lo, hi, rfl, ha, ⟨b1, b2, b3, b4⟩, q⟩ := q1
  cases r1
  obtain ⟨t1, t2, t3, ho⟩ := I1.hok a _ ha
  refine wpAny_pyIter_range ho (small_one b1 b2 b3 b4) ?_
  refine ⟨s1.heap.objs.size, [s1.heap.objs.size], _, _, H1, rfl, I1.kept (t' := s1.toks) fun b o e => Heap.get?_push_of_some _ e, turn_range _ lo (hi - lo).toNat, ?_, fun b hb => ?_, q⟩
  · have e1 : lo + ((0 : Nat) : Int) * 1 = lo := by simp
    have e2 : (((hi - lo).toNat : Nat) : Int) - ((0 : Nat) : Int) = Builtin.Range.rangeSize lo hi 1 := by rw [rangeSize_one]; split <;> omega
    show IsRangeIter _ _ (lo + ((0 : Nat) : Int) * 1) ((((hi - lo).toNat : Nat) : Int) - ((0 : Nat) : Int)) 1
    rw [e1, e2]
    exact Heap.get?_push_size _ rfl
  · have e : b = s1.heap.objs.size := by simpa using hb
    subst e
    exact I1.fpOk (Nat.le_refl _) (I1.hok.fresh (Nat.le_refl _))
def mRgIt (fa : DEn) : DDn := fun ρ S => (fa ρ S).bind fun x S1 => match x with
  | .rng lo hi => if (lo ≤ 1000000 ∧ -1000000 ≤ lo) ∧ (hi ≤ 1000000 ∧ -1000000 ≤ hi) then .ok (rgD lo hi) S1 else .bad
  | _ => .bad
theorem i_rgV (ha : DE X W a fa) : DI X W tg a (mRgIt fa) :=
  PI.imp (pi_rgV ha) fun σ H R ⟨HF, L, ρ, S, RR, p⟩ => ⟨HF, L, ρ, S, RR, Post.bind p fun x S1 v H1 HF1 L1 e1 st1 R1 r1 p1 => by
    split at p1
    · rename_i lo hi
      split at p1
      · rename_i hz
        cases r1
        rename_i h1
        exact ⟨_, lo, hi, rfl, R1.sub _ _ h1, ⟨by omega, by omega, by omega, by omega⟩, p1.done R1 .no (itd_range lo (hi - lo).toNat)⟩
      · exact p1.elim
    · exact p1.elim⟩
end
end DL

/-! the layer of data: a comprehension's list as a new cell -/
namespace DL
open PySem PySem.Spec PyProof.Rows L2
section
variable {G : Gd} {H HF : Hp} {L : List Addr} {σ : L2.St} {ρ : DL.Env} {S : Store}
theorem Rel.adoptC (R : Rel G H HF L σ ρ S) {p : Addr} {vs : List V} {ds : List D} (hL : p ∉ L) (hF : HF p = none) (hH : H p = some (.lst vs)) (hr : Reps G HF vs ds) : Rel G H HF (L ++ [p]) σ ρ (S ++ [some (.lst ds)]) := by
  refine ⟨R.sub, ?_, by simp [R.sl], fun a ha => ?_, R.tab, R.nft, fun n a c h1 h2 => ?_, R.el, fun i x h => ?_⟩
  · rw [List.nodup_append]
    refine ⟨R.nd, by simp, fun a ha b hb => ?_⟩
    have : b = p := by simpa using hb
    subst this
    exact fun z => hL (z ▸ ha)
  · rcases List.mem_append.mp ha with z | z
    · exact R.liv a z
    · have : a = p := by simpa using z
      subst this; exact ⟨_, hH, trivial⟩
  · by_cases hn : n < L.length
    · rw [List.getElem?_append_left hn] at h1
      rw [List.getElem?_append_left (by rw [R.sl]; exact hn)] at h2
      exact R.cell n a c h1 h2
    · have hn' : n = L.length := by
        have := (List.getElem?_eq_some_iff.mp h1).1
        simp at this; omega
      subst hn'
      rw [List.getElem?_append_right (Nat.le_refl _)] at h1
      rw [List.getElem?_append_right (by rw [R.sl]; exact Nat.le_refl _), R.sl] at h2
      simp at h1 h2
      subst h1; subst h2
      exact ⟨hF, vs, hH, hr⟩
  · obtain ⟨v, q1, q2⟩ := R.env i x h
    refine ⟨v, q1, ?_⟩
    cases x with
    | v d => exact q2
    | cel n =>
      obtain ⟨a, k1, k2⟩ := q2
      exact ⟨a, by rw [List.getElem?_append_left (List.getElem?_eq_some_iff.mp k1).1]; exact k1, k2⟩
    | exn x => exact q2
    | lam ws ds => exact q2
    | cls ns => exact RepCls.app q2
end
def mNewLc (fi : DDn) (t : Tg) (tt : DTn) (fe : DEn) (vs : List Nat) : DVn := fun ρ S => (fi ρ S).bind fun ds S1 => (lcL t tt fe (wipeE ρ vs) ds S1 []).bind fun ys S2 => .ok (.cel S2.length) (S2 ++ [some (.lst ys)])
section
variable {X : Cx} {W : WD} {pos : Pos} {a b c : Expr} {fa fb fc : DEn} {es : List Expr} {tg : Expr}
theorem lc_readV {fi : DDn} {t : Tg} {tt : DTn} {fe : DEn} {vs : List Nat} (hsl : ∀ i ∈ t.slots, i ∈ vs) {σ : L2.St} {H : Hp} {Q : VK} (h : tV (gd X W) W (mNewLc fi t tt fe vs) σ H Q) :
    tLc (tI (gd X W) W fi) (tgG X.K t) (tT (gd X W) W.z tt) (tD (gd X W) W.z fe) vs σ H Q := by
  obtain ⟨HF, L, ρ, S, R, p⟩ := h
  refine ⟨HF, L, ρ, S, R, Post.bind p fun ds S1 J H1 HF1 L1 e1 st1 R1 rJ p1 => fun Dl hD => ?_⟩
  have hDL := R1.out hD
  have hDF := R1.hf hD
  -- the invariant
  refine ⟨fun i m Hh => m = ds.length - i ∧ i ≤ ds.length ∧ ∃ HFh Lh Sh acc vacc, Rel (gd X W) Hh HFh Lh σ ρ Sh ∧ Step H1 HF1 L1 Hh HFh Lh ∧ Hh Dl = some (.lst vacc) ∧ HFh Dl = none ∧ Dl ∉ Lh ∧ Reps (gd X W) HFh vacc acc ∧
    Post (gd X W) W σ ρ H1 HF1 L1 (fun HF' L' v d => RepE (gd X W) HF' L' v d) Q ((lcL t tt fe (wipeE ρ vs) (ds.drop i) Sh acc).bind fun ys S2 => .ok (.cel S2.length) (S2 ++ [some (.lst ys)])), ⟨ds.length, by simp, Nat.zero_le _, HF1, L1, S1, [], [], R1.aside hDL hDF (by rw [hD]; simp), Step.put Step.refl hD, upd_same, hDF, hDL, .nil, by simpa using p1⟩, ?_⟩
  rintro i m Hh ⟨rfl, hi, HFh, Lh, Sh, acc, vacc, Rh, sth, hv, hFv, hLv, ra, ph⟩
  have s01 : Same HF1 HFh := sth.fro
  by_cases hlt : i < ds.length
  · refine .inr ⟨rJ.go i Hh HFh s01 Rh.sub hlt, fun H' => (ds.length - (i + 1)) = ds.length - (i + 1) ∧ i + 1 ≤ ds.length ∧ ∃ HFh Lh Sh acc vacc, Rel (gd X W) H' HFh Lh σ ρ Sh ∧ Step H1 HF1 L1 H' HFh Lh ∧ H' Dl = some (.lst vacc) ∧ HFh Dl = none ∧ Dl ∉ Lh ∧ Reps (gd X W) HFh vacc acc ∧
      Post (gd X W) W σ ρ H1 HF1 L1 (fun HF' L' v d => RepE (gd X W) HF' L' v d) Q ((lcL t tt fe (wipeE ρ vs) (ds.drop (i + 1)) Sh acc).bind fun ys S2 => .ok (.cel S2.length) (S2 ++ [some (.lst ys)])), fun H' hw => ⟨_, by omega, hw⟩, fun x H2 hy => ?_⟩
    have ed : ds.drop i = ds[i] :: ds.drop (i + 1) := List.drop_eq_getElem_cons hlt
    rw [ed] at ph
    obtain ⟨HF2, al, rx⟩ := rJ.yld i x Hh HFh H2 ds[i] s01 Rh.sub (List.getElem?_eq_getElem hlt) hy
    obtain ⟨R2, st2⟩ := Rh.al al
    have nl : ∀ xs, Nt (.lst xs) := fun _ _ h => by cases h
    have hv2 := st2.keep Dl _ hLv (nl _) hv
    have hF2 := st2.new Dl _ hLv hFv (by trivial) hv
    have Rw := R2.wipe vs
    have ph : Post (gd X W) W σ ρ H1 HF1 L1 (fun HF' L' v d => RepE (gd X W) HF' L' v d) Q (Out.bind (match asg t ds[i] (wipeE ρ vs) with
      | none => .bad
      | some ρ1 => (tt ρ1 Sh).bd fun b S1 => if b = true then (fe ρ1 S1).bd fun y S2 => if acc.length < lim then lcL t tt fe (wipeE ρ vs) (ds.drop (i + 1)) S2 (acc ++ [y]) else .bad else lcL t tt fe (wipeE ρ vs) (ds.drop (i + 1)) S1 acc) fun ys S2 => .ok (.cel S2.length) (S2 ++ [some (.lst ys)])) := ph
    cases ea : asg t ds[i] (wipeE ρ vs) with
    | none => rw [ea] at ph; exact ph.elim
    | some ρ1 =>
      rw [ea] at ph
      dsimp only at ph
      refine tgG_ok (G := gd X W) t Rw rx ea fun ws hws R3 => ⟨?_, ?_⟩
      · rw [wipe_sets vs ws _ fun p hp => hsl _ (hws p hp), wipe_wipe]
      -- the test
      refine ⟨HF2, Lh, ρ1, Sh, R3, ?_⟩
      cases et : tt ρ1 Sh with
      | bad => rw [et] at ph; exact ph.elim
      | ex x S' => rw [et] at ph; exact ph.elim
      | ok bb S3 =>
        rw [et] at ph
        intro b' H3 HF3 L3 st3 R4 eb
        cases eb
        have hv3 := st3.keep Dl _ hLv (nl _) hv2
        have hF3 := st3.new Dl _ hLv hF2 (by trivial) hv2
        have hL3 : Dl ∉ L3 := st3.keepL hLv hv2
        cases bb with
        | false =>
          rw [if_neg Bool.false_ne_true]
          exact ⟨rfl, hlt, HF3, L3, S3, acc, vacc, R2.reenv st3 R4, sth.trans (st2.trans st3), hv3, hF3, hL3, ra.mono (st2.fro.trans st3.fro), ph⟩
        | true =>
          rw [if_pos rfl]
          refine ⟨HF3, L3, ρ1, S3, R4, ?_⟩
          have ph : Post (gd X W) W σ ρ H1 HF1 L1 (fun HF' L' v d => RepE (gd X W) HF' L' v d) Q (Out.bind ((fe ρ1 S3).bd fun y S2 => if acc.length < lim then lcL t tt fe (wipeE ρ vs) (ds.drop (i + 1)) S2 (acc ++ [y]) else .bad) fun ys S2 => .ok (.cel S2.length) (S2 ++ [some (.lst ys)])) := ph
          cases ef : fe ρ1 S3 with
          | bad => rw [ef] at ph; exact ph.elim
          | ex x S' => rw [ef] at ph; exact ph.elim
          | ok y S4 =>
            rw [ef] at ph
            have ph : Post (gd X W) W σ ρ H1 HF1 L1 (fun HF' L' v d => RepE (gd X W) HF' L' v d) Q (Out.bind (if acc.length < lim then lcL t tt fe (wipeE ρ vs) (ds.drop (i + 1)) S4 (acc ++ [y]) else .bad) fun ys S2 => .ok (.cel S2.length) (S2 ++ [some (.lst ys)])) := ph
            intro v H4 HF4 L4 st4 R5 ry
            split at ph
            · rename_i hz
              have hv4 := st4.keep Dl _ hL3 (nl _) hv3
              have hF4 := st4.new Dl _ hL3 hF3 (by trivial) hv3
              have hL4 : Dl ∉ L4 := st4.keepL hL3 hv3
              refine ⟨vacc, hv4, by rw [ra.length]; exact Nat.lt_of_lt_of_le hz lim_le, rfl, hlt, HF4, L4, S4, acc ++ [y], vacc ++ [v], ?_, ?_, upd_same, hF4, hL4, (ra.mono (st2.fro.trans (st3.fro.trans st4.fro))).append (.cons ry .nil), ph⟩
              · exact ((R2.reenv st3 R4).reenv st4 R5).aside hL4 hF4 (by rw [hv4]; simp)
              · exact Step.put (sth.trans (st2.trans (st3.trans st4))) hD
            · exact ph.elim
  · have e : i = ds.length := by omega
    subst e
    refine .inl ⟨rJ.stop _ Hh HFh s01 Rh.sub (Nat.le_refl _), ?_⟩
    rw [List.drop_length] at ph
    have ph : Post (gd X W) W σ ρ H1 HF1 L1 (fun HF' L' v d => RepE (gd X W) HF' L' v d) Q (.ok (.cel Sh.length) (Sh ++ [some (.lst acc)])) := ph
    refine ph (.ref Dl) Hh HFh (Lh ++ [Dl]) ⟨sth.keep, sth.nn, sth.fro, sth.new, ?_⟩ (Rh.adoptC hLv hFv hv ra) ⟨Dl, by rw [Rh.sl, List.getElem?_append_right (Nat.le_refl _)]; simp, rfl⟩
    obtain ⟨M, eM, hM⟩ := sth.ext
    refine ⟨M ++ [Dl], by rw [eM, List.append_assoc], fun a ha o no => ?_⟩
    rcases List.mem_append.mp ha with z | z
    · exact hM a z o no
    · have : a = Dl := by simpa using z
      subst this; rw [hD]; simp
theorem vlc {elt iter : Expr} {ifs : List Expr} {scope : Scope} {own : List (Str × Nat)} {fi : DDn} {t : Tg} {tt : DTn} {fe : DEn} (hc : X.calm = true) (hN : X.N.Nodup) (hi : DI X W tg iter fi) (ok : BlkOk X.N X.env.scope scope own)
    (hg : ∀ (s : Shared) (H : Hp) (C : Addr) (cl : List (Str × Addr)) (fp : List Addr), PG (X.blk s H scope (compEnvC scope cl C X.env) fp) tg (tgG (X.blk s H scope (compEnvC scope cl C X.env) fp).K t))
    (ht : ∀ (s : Shared) (H : Hp) (C : Addr) (cl : List (Str × Addr)) (fp : List Addr), DTs (X.blk s H scope (compEnvC scope cl C X.env) fp) W.z ifs tt)
    (he : ∀ (s : Shared) (H : Hp) (C : Addr) (cl : List (Str × Addr)) (fp : List Addr), DE (X.blk s H scope (compEnvC scope cl C X.env) fp) W.z elt fe)
    (hsl : ∀ i ∈ t.slots, i ∈ own.map (·.2) := by decide) (hs : ∀ x, foldedSetIterable iter X.env x = pure x := by intro _; rfl) : DV X W (.ListComp elt [⟨tg, iter, ifs, 0⟩] scope pos) (mNewLc fi t tt fe (own.map (·.2))) :=
  PE.imp (pe_lc hc hN hi ok hg ht he hs) fun σ H Q h => lc_readV hsl h
def mSetLcV (i : Nat) (f : DVn) : DSn := fun ρ S => bindS (f ρ S) ρ fun e S1 => .ok (.nx, ρ.set i (some e)) S1
theorem ssetLcV (i : Nat) {y : Str} {py : Pos} {elt iter : Expr} {ifs : List Expr} {scope : Scope} {own : List (Str × Nat)} {cpos : Pos} {fi : DDn} {t : Tg} {tt : DTn} {fe : DEn} (hc : X.calm = true) (hN : X.N.Nodup) (hi : DI X W tg iter fi) (ok : BlkOk X.N X.env.scope scope own)
    (hg : ∀ (s : Shared) (H : Hp) (C : Addr) (cl : List (Str × Addr)) (fp : List Addr), PG (X.blk s H scope (compEnvC scope cl C X.env) fp) tg (tgG (X.blk s H scope (compEnvC scope cl C X.env) fp).K t))
    (ht : ∀ (s : Shared) (H : Hp) (C : Addr) (cl : List (Str × Addr)) (fp : List Addr), DTs (X.blk s H scope (compEnvC scope cl C X.env) fp) W.z ifs tt)
    (he : ∀ (s : Shared) (H : Hp) (C : Addr) (cl : List (Str × Addr)) (fp : List Addr), DE (X.blk s H scope (compEnvC scope cl C X.env) fp) W.z elt fe)
    (hy : X.N[i]? = some y := by rfl) (hyl : X.env.scope.names.lookup y = some .local := by rfl) (hsw : swapsWith (.ListComp elt [⟨tg, iter, ifs, 0⟩] scope cpos) (some (.Name y py)) pos.line X.env = pure true := by exact sw_true rfl rfl rfl (by decide +kernel))
    (hsl : ∀ i ∈ t.slots, i ∈ own.map (·.2) := by decide) (hs : ∀ x, foldedSetIterable iter X.env x = pure x := by intro _; rfl) : DS X W (.Assign [.Name y py] (.ListComp elt [⟨tg, iter, ifs, 0⟩] scope cpos) pos) (mSetLcV i (mNewLc fi t tt fe (own.map (·.2)))) :=
  PS.imp (ps_setLc (i := i) hc hN hy hyl hsw hi ok hg ht he hs) fun D σ H ⟨HF, L, ρ, S, R, p⟩ => lc_readV hsl ⟨HF, L, ρ, S, R, PostS.bind p fun d S1 v H1 HF1 L1 e1 st1 R1 r1 p1 => p1.done (R1.store (e := d) r1 i)⟩
end
end DL

/-! the layer of data: a cell that is a value from here on; sorted of a list of tuples of ints -/
namespace DL
open PySem PySem.Spec PyProof.Rows L2
def mThaw (i : Nat) : DSn := fun ρ S => match ρ[i]? with
  | some (some (.cel n)) => match S[n]? with
    | some (some (.lst ds)) => .ok (.nx, ρ.set i (some (.v (.lst ds)))) (S.set n none)
    | _ => .bad
  | _ => .bad
theorem mThaw_is (i : Nat) (ρ : DL.Env) (S : Store) : (∃ n ds, ρ[i]? = some (some (.cel n)) ∧ S[n]? = some (some (.lst ds)) ∧ mThaw i ρ S = .ok (.nx, ρ.set i (some (.v (.lst ds)))) (S.set n none)) ∨ mThaw i ρ S = .bad := by
  unfold mThaw
  split
  · rename_i n e
    split
    · rename_i ds e2
      exact .inl ⟨n, ds, e, e2, rfl⟩
    · exact .inr rfl
  · exact .inr rfl
section
variable {X : Cx} {W : WD}
theorem thaw (i : Nat) {st : List Stmt} {f : DSn} (h : DSs X W st f) : DSs X W st (mSeq (mThaw i) f) :=
  PSs.imp h fun D σ H ⟨HF, L, ρ, S, R, p⟩ => by
    rcases mThaw_is i ρ S with ⟨n, ds, e1, e2, e⟩ | e
    · have p' : PostS (gd X W) W H HF L D (f (ρ.set i (some (.v (.lst ds)))) (S.set n none)) := by
        unfold mSeq at p
        rw [e] at p
        exact p
      obtain ⟨v, h1, a, h2, h3⟩ := R.env i _ e1
      subst h3
      obtain ⟨HF', R', st, r⟩ := R.freeze h2 e2
      refine ⟨HF', L, _, _, ?_, PostS.step st p'⟩
      have q := R'.store (e := .v (.lst ds)) r i
      have eσ : σ.set i (some (.ref a)) = σ := by
        refine List.ext_getElem? fun j => ?_
        by_cases hj : j = i
        · subst hj
          rw [List.getElem?_set_self (List.getElem?_eq_some_iff.mp h1).1, h1]
        · rw [List.getElem?_set_ne (Ne.symm hj)]
      rw [eσ] at q
      exact q
    · unfold mSeq at p
      rw [e] at p
      exact p.elim
end
/-! tuples of ints -/
def tupD (n : List Int) : D := .tup (n.map D.int)
def tupI : D → Option (List Int)
  | .tup ds => intsOf ds
  | _ => none
def tupsI : List D → Option (List (List Int))
  | [] => some []
  | d :: ds => match tupI d, tupsI ds with
    | some n, some ns => some (n :: ns)
    | _, _ => none
theorem intsOf_eq : ∀ {ds : List D} {is : List Int}, intsOf ds = some is → ds = is.map D.int
  | [], _, e => by cases e; rfl
  | d :: ds, is, e => by
    cases d with
    | int i =>
      have e : (intsOf ds).map (i :: ·) = some is := e
      cases h : intsOf ds with
      | none => rw [h] at e; cases e
      | some js =>
        rw [h] at e
        cases e
        rw [List.map_cons, ← intsOf_eq h]
    | _ => cases e
theorem tupsI_eq : ∀ {ds : List D} {ns : List (List Int)}, tupsI ds = some ns → ds = ns.map tupD
  | [], _, e => by cases e; rfl
  | d :: ds, ns, e => by
    unfold tupsI at e
    cases h1 : tupI d with
    | none => rw [h1] at e; cases e
    | some n =>
      cases h2 : tupsI ds with
      | none => rw [h1, h2] at e; cases e
      | some ms =>
        rw [h1, h2] at e
        cases e
        rw [List.map_cons, ← tupsI_eq h2]
        congr 1
        cases d with
        | tup es => exact congrArg D.tup (intsOf_eq h1)
        | _ => cases h1
theorem code_inj {B : Int} : ∀ {m n : List Int}, m.length = n.length → TS.Bd B m → TS.Bd B n → TS.code B m = TS.code B n → m = n
  | [], [], _, _, _, _ => rfl
  | [], _ :: _, h, _, _, _ => by cases h
  | _ :: _, [], h, _, _, _ => by cases h
  | x :: m, y :: n, h, hm, hn, e => by
    have hl : m.length = n.length := by simpa using h
    rcases Int.lt_trichotomy x y with c | c | c
    · have := TS.code_lt hl hm.tail hn.tail c
      omega
    · subst c
      have h1 := TS.code_same (B := B) (d := x) hl
      have h2 := TS.code_same (B := B) (d := x) hl.symm
      have a1 : ¬ TS.code B m < TS.code B n := fun z => by have := h1.mpr z; omega
      have a2 : ¬ TS.code B n < TS.code B m := fun z => by have := h2.mpr z; omega
      rw [code_inj hl hm.tail hn.tail (by omega)]
    · have := TS.code_lt hl.symm hn.tail hm.tail c
      omega
def insT (B : Int) (x : List Int) : List (List Int) → List (List Int)
  | [] => [x]
  | y :: ys => if TS.code B x ≤ TS.code B y then x :: y :: ys else y :: insT B x ys
def sortT (B : Int) : List (List Int) → List (List Int)
  | [] => []
  | x :: xs => insT B x (sortT B xs)
theorem insT_perm (B : Int) (x : List Int) : ∀ ys, (insT B x ys).Perm (x :: ys)
  | [] => .refl _
  | y :: ys => by
    unfold insT
    split
    · exact .refl _
    · exact ((insT_perm B x ys).cons y).trans (.swap ..)
theorem sortT_perm (B : Int) : ∀ xs, (sortT B xs).Perm xs
  | [] => .refl _
  | x :: xs => (insT_perm B x _).trans ((sortT_perm B xs).cons x)
theorem insT_sorted (B : Int) (x : List Int) : ∀ {ys : List (List Int)}, ys.Pairwise (fun a b => TS.code B a ≤ TS.code B b) → (insT B x ys).Pairwise (fun a b => TS.code B a ≤ TS.code B b)
  | [], _ => List.pairwise_singleton _ _
  | y :: ys, h => by
    obtain ⟨h1, h2⟩ := List.pairwise_cons.mp h
    unfold insT
    split
    · rename_i c
      refine List.pairwise_cons.mpr ⟨fun b hb => ?_, h⟩
      rcases List.mem_cons.mp hb with rfl | hb
      · exact c
      · have := h1 b hb; omega
    · rename_i c
      refine List.pairwise_cons.mpr ⟨fun b hb => ?_, insT_sorted B x h2⟩
      rcases List.mem_cons.mp ((insT_perm B x ys).mem_iff.mp hb) with rfl | hb
      · omega
      · exact h1 b hb
theorem sortT_sorted (B : Int) : ∀ xs, (sortT B xs).Pairwise (fun a b => TS.code B a ≤ TS.code B b)
  | [] => .nil
  | x :: xs => insT_sorted B x (sortT_sorted B xs)
theorem map_inj_on {α β : Type} {f : α → β} : ∀ {l m : List α}, l.map f = m.map f → (∀ a ∈ l, ∀ b ∈ m, f a = f b → a = b) → l = m
  | [], [], _, _ => rfl
  | [], _ :: _, h, _ => by cases h
  | _ :: _, [], h, _ => by cases h
  | a :: l, b :: m, h, hi => by
    rw [List.map_cons, List.map_cons] at h
    injection h with h1 h2
    rw [hi a List.mem_cons_self b List.mem_cons_self h1, map_inj_on h2 fun x hx y hy => hi x (List.mem_cons_of_mem _ hx) y (List.mem_cons_of_mem _ hy)]
section
variable {G : Gd} {HF : Hp}
theorem reps_perm : ∀ {xs ys : List V}, xs.Perm ys → ∀ {ns : List (List Int)}, Reps G HF xs (ns.map tupD) → ∃ ms, ns.Perm ms ∧ Reps G HF ys (ms.map tupD) := by
  intro xs ys h
  induction h with
  | nil => intro ns r; exact ⟨ns, .refl _, r⟩
  | cons x _ ih =>
    intro ns r
    cases ns with
    | nil => cases r
    | cons n ns =>
      cases r with
      | cons r1 r2 =>
        obtain ⟨ms, h1, h2⟩ := ih r2
        exact ⟨n :: ms, h1.cons n, .cons r1 h2⟩
  | swap x y l =>
    intro ns r
    cases ns with
    | nil => cases r
    | cons n ns =>
      cases ns with
      | nil =>
        cases r with
        | cons r1 r2 => cases r2
      | cons m ns =>
        cases r with
        | cons r1 r2 =>
          cases r2 with
          | cons r2 r3 => exact ⟨m :: n :: ns, .swap .., .cons r2 (.cons r1 r3)⟩
  | trans _ _ ih1 ih2 =>
    intro ns r
    obtain ⟨ms, h1, h2⟩ := ih1 r
    obtain ⟨ks, h3, h4⟩ := ih2 h2
    exact ⟨ks, h1.trans h3, h4⟩
theorem tup_is {H : Hp} (sub : Same HF H) {x : V} {n : List Int} (r : Rep G HF x (tupD n)) : TupI G.K H x n := by
  unfold tupD at r
  cases r with
  | tup h1 h2 =>
    rename_i a vs
    have ev : vs = n.map V.int := h2.intsOf (intsOf_map' n)
    subst ev
    exact ⟨a, rfl, SqT.mono sub h1⟩
where
  intsOf_map' : ∀ xs : List Int, intsOf (xs.map D.int) = some xs
    | [] => rfl
    | x :: xs => by
      have := intsOf_map' xs
      simp [intsOf, this]
theorem reps_sorted {H : Hp} {B : Int} (sub : Same HF H) : ∀ {ys : List V} {ms : List (List Int)}, Reps G HF ys (ms.map tupD) → ys.Pairwise (fun x y => ∀ n m, TupI G.K H x n → TupI G.K H y m → TS.code B n ≤ TS.code B m) → ms.Pairwise (fun a b => TS.code B a ≤ TS.code B b)
  | _, [], _, _ => .nil
  | _, n :: ms, r, h => by
    cases r with
    | cons r1 r2 =>
      obtain ⟨h1, h2⟩ := List.pairwise_cons.mp h
      refine List.pairwise_cons.mpr ⟨fun m hm => ?_, reps_sorted sub r2 h2⟩
      obtain ⟨i, hi, e⟩ := List.getElem_of_mem hm
      obtain ⟨y, hy, ry⟩ := r2.get (i := i) (d := tupD m) (by rw [List.getElem?_map, List.getElem?_eq_getElem hi, e]; rfl)
      exact h1 y (List.mem_of_getElem? hy) n m (tup_is sub r1) (tup_is sub ry)
end
def boxed (d : Nat) (B : Int) (ns : List (List Int)) : Bool := decide (ns.length < 64) && ns.all fun n => decide (n.length = d) && n.all fun i => decide (0 ≤ i) && decide (i < B)
def gSortT (d : Nat) (B : Int) : List D → Option D
  | [.lst ds] => match tupsI ds with
    | some ns => if boxed d B ns = true then some (.lst ((sortT B ns).map tupD)) else none
    | none => none
  | _ => none
section
variable {X : Cx} {W : WD}
theorem biSortT {d : Nat} {B : Int} (hd : 1 ≤ d) : BiO X W (.builtin "sorted") (gSortT d B) := by
  refine ⟨_, cr_sortT (d := d) (B := B) hd, fun xs vs H HF z Q sub r e q => ?_⟩
  unfold gSortT at e
  split at e
  · rename_i ds
    split at e
    · rename_i ns en
      split at e
      · rename_i hb
        cases e
        obtain ⟨v, rfl, h⟩ := r.one
        cases h with
        | lst h1 h2 =>
          rename_i a us
          have ed := tupsI_eq en
          subst ed
          unfold boxed at hb
          rw [Bool.and_eq_true, decide_eq_true_eq, List.all_eq_true] at hb
          obtain ⟨h64, hall⟩ := hb
          have hm : ∀ n ∈ ns, n.length = d ∧ TS.Bd B n := fun n hn => by
            have := hall n hn
            rw [Bool.and_eq_true, decide_eq_true_eq, List.all_eq_true] at this
            exact ⟨this.1, fun m hm => by
              have := this.2 m hm
              rw [Bool.and_eq_true, decide_eq_true_eq, decide_eq_true_eq] at this
              exact this⟩
          have hlen : us.length = ns.length := by rw [h2.length, List.length_map]
          refine ⟨a, us, rfl, SqL.of (sub _ _ h1), by omega, fun x hx => ?_, fun ys p hp hs hn => ?_⟩
          · obtain ⟨i, hi, ex⟩ := List.getElem_of_mem hx
            obtain ⟨z, hz, rz⟩ := h2.get' (i := i) (v := x) (by rw [List.getElem?_eq_getElem hi, ex])
            rw [List.getElem?_map] at hz
            obtain ⟨n, hn, rfl⟩ := Option.map_eq_some_iff.mp hz
            exact ⟨n, tup_is sub rz, hm n (List.mem_of_getElem? hn)⟩
          · obtain ⟨ms, pm, rm⟩ := reps_perm hp.symm h2
            have so := reps_sorted sub rm hs
            have ec : ms.map (TS.code B) = (sortT B ns).map (TS.code B) := PySem.W.ksm_same ((pm.symm.trans (sortT_perm B ns).symm).map _) (List.pairwise_map.mpr so) (List.pairwise_map.mpr (sortT_sorted B ns))
            have em : ms = sortT B ns := map_inj_on ec fun x hx y hy e => by
              obtain ⟨l1, b1⟩ := hm x (pm.mem_iff.mpr hx)
              obtain ⟨l2, b2⟩ := hm y ((sortT_perm B ns).mem_iff.mp hy)
              exact code_inj (by omega) b1 b2 e
            subst em
            have hF : HF p = none := by
              cases h : HF p with
              | none => rfl
              | some o => have := sub _ _ h; rw [hn] at this; cases this
            exact q _ _ _ (.new hn) (.lst upd_same (rm.mono (same_upd hF)))
      · cases e
    · cases e
  · cases e
end
end DL

/-! the layer of data: zip of a tuple and a list -/
namespace DL
open PySem PySem.Spec PyProof.Rows L2
/-- the items of the tuple at a and of the list at b, of so many, in new pairs -/
def ItzM (K : PySem.W.Frag) (a b : Addr) (N M : Nat) : It :=
  ⟨fun i H => ∃ (xs ys : List V) (x y : V), SqT K H a xs ∧ SqL K H b ys ∧ xs.length = N ∧ ys.length = M ∧ xs[i]? = some x ∧ ys[i]? = some y,
    fun i H v H' => ∃ T x y, v = .ref T ∧ H T = none ∧ H' = upd H T (.tup [x, y]) ∧ (∀ xs, SqT K H a xs → xs[i]? = some x) ∧ ∀ ys, SqL K H b ys → ys[i]? = some y,
    fun i H => ∃ xs ys : List V, SqT K H a xs ∧ SqL K H b ys ∧ xs.length = N ∧ ys.length = M ∧ (N ≤ i ∨ M ≤ i)⟩
theorem sep_of {z TI TO i1 i2 a b : Addr} (D : ZipApart z TI TO i1 i2 a b) : ZipSep2 z TI TO i1 i2 [i1, a] [i2, b] where
  TIz := D.TIz
  TOz := D.TOz
  TITO := D.TITO
  TIi1 := D.TIi1
  mem1 := by simp
  zf1 := by simp [D.i1z.symm, D.l1z.symm]
  Tf1 := by simp [D.TOi1, D.l1TO.symm]
  TIi2 := D.TIi2
  mem2 := by simp
  zf2 := by simp [D.i2z.symm, D.l2z.symm]
  Tf2 := by simp [D.TOi2, D.l2TO.symm]
  sep1_2 := by simp [D.i12, D.l2i1.symm]
  sep2_1 := by simp [D.i12.symm, D.l1i2.symm]
theorem turn_zipM {P : Program} {w : World} {K : PySem.W.Frag} {elts : List Expr} {kk : Nat} {tpos : Pos} {a b z TI TO i1 i2 : Addr} {N M : Nat} (D : ZipApart z TI TO i1 i2 a b) :
    Turn P w K (.Tuple elts kk tpos) (ItzM K a b N M) [z, TI, TO, i1, i2] z (fun i h => (IsZip h z TI TO .none ∧ IsTupOf2 h TI (.ref i1) (.ref i2) ∧ (∃ x y, IsTupOf2 h TO x y) ∧ h.IsTupleIter i1 a i ∧ h.IsListIter i2 b i) ∧ i ≤ N ∧ i ≤ M) where
  mem := by simp
  obj := fun i h st c hc => by
    obtain ⟨⟨hz, hTI, ⟨x, y, hTO⟩, ⟨o1, e1, _, d1⟩, ⟨o2, e2, _, d2⟩⟩, _⟩ := st
    simp only [List.mem_cons, List.not_mem_nil, or_false] at hc
    rcases hc with rfl | rfl | rfl | rfl | rfl
    · exact ⟨_, hz, fun v q => nomatch q⟩
    · exact ⟨_, hTI, fun v q => nomatch q⟩
    · exact ⟨_, hTO, fun v q => nomatch q⟩
    · exact ⟨o1, e1, fun v q => by rw [d1] at q; cases q⟩
    · exact ⟨o2, e2, fun v q => by rw [d2] at q; cases q⟩
  keep := fun i h h' st k => by
    obtain ⟨⟨hz, hTI, ⟨x, y, hTO⟩, h1, h2⟩, l⟩ := st
    exact ⟨⟨k z (by simp) _ hz, k TI (by simp) _ hTI, ⟨x, y, k TO (by simp) _ hTO⟩, h1.at fun o q => k i1 (by simp) o q, h2.at fun o q => k i2 (by simp) o q⟩, l⟩
  item := by
    intro X hP hw hK hc i pins s σ H E I hf st hg
    subst hP hw hK
    obtain ⟨⟨hz, hTI, ⟨x0, y0, hTO⟩, h1, h2⟩, l1, l2⟩ := st
    obtain ⟨xs, ys, x, y, hqx, hqy, n1, n2, hx, hy⟩ := hg
    obtain ⟨its, rv, p, _⟩ := I.tuple hqx
    obtain ⟨its2, rv2, p2, _⟩ := I.list hqy
    have z1 : its.length = xs.length := rv.length.symm
    have z2 : its2.length = ys.length := rv2.length.symm
    have j1 := (List.getElem?_eq_some_iff.mp hx).1
    have j2 := (List.getElem?_eq_some_iff.mp hy).1
    have D1 := Draws.tuple (prog := X.prog) (w := X.w) (A := X.A.in1) (I.ok.hd hc) i1 a D.l1i1 its.toArray
    have D2 := Draws.list (prog := X.prog) (w := X.w) (A := X.A.in1) (I.ok.hd hc) i2 b D.l2i2 its2.toArray
    have hzl : z < s.heap.objs.size := Heap.lt_size hz
    refine wpAny_pyNext_zipD2_item (sep_of D) D1 D2 hz hTI hTO ⟨h1, p⟩ ⟨h2, p2.isList⟩ (by simp; omega) (by simp; omega) fun u u2 h' tk hu hu2 z' TO' st1 st2 hT hsz hk => ?_
    refine ⟨_, rfl, wpAny_letOwnedTupleGo_zip (s := { s with heap := h', toks := tk }) z' fun h'' z'' sb => ?_⟩
    have hu' : its[i]? = some u := by simpa using hu
    have hu2' : its2[i]? = some u2 := by simpa using hu2
    have ru : RelV x u := by
      obtain ⟨v, e1, e2⟩ := rv.get hx
      rw [hu'] at e1; cases e1; exact e2
    have ru2 : RelV y u2 := by
      obtain ⟨v, e1, e2⟩ := rv2.get hy
      rw [hu2'] at e1; cases e1; exact e2
    have hT2 : h''.get? s.heap.objs.size = some { cls := .type "tuple", data := .seq #[u, u2] } := (sb.2 _ (Nat.ne_of_gt hzl)).trans hT
    have new : ObjOk X.prog X.w (upd H s.heap.objs.size (.tup [x, y])) h'' s.heap.objs.size (.tup [x, y]) :=
      ⟨by show 2 ≤ sizeLine; decide, [u, u2], .cons ru (.cons ru2 .nil), ⟨_, hT2, rfl, _, rfl⟩⟩
    have I1 : Inv X pins σ (upd H s.heap.objs.size (.tup [x, y])) { s with heap := h'', toks := tk } :=
      I.turnedNew (t' := tk) (ch := [z, TI, TO, i1, i2]) (fun c o hb q => (sb.2 c (fun q' => hb (by simp [q']))).trans (hk c o (fun q' => hb (by simp [q'])) (fun q' => hb (by simp [q'])) (fun q' => hb (by simp [q'])) (fun q' => hb (by simp [q'])) q)) hf (Nat.le_refl _) new
    refine ⟨.ref s.heap.objs.size, _, I1, rfl, ⟨_, x, y, rfl, I.hok.fresh (Nat.le_refl _), rfl, fun l hl => by rw [I.tuple_inj hl hqx]; exact hx, fun l hl => by rw [I.list_inj hl hqy]; exact hy⟩, ⟨⟨z'', ?_, ⟨u, u2, ?_⟩, ?_, ?_⟩, by omega, by omega⟩, fun c hcm => ?_⟩
    · exact (sb.2 _ D.TIz).trans (hk _ _ D.TIz D.TITO D.TIi1 D.TIi2 hTI)
    · exact (sb.2 _ D.TOz).trans TO'
    · exact st1.1.at fun o q => (sb.2 _ D.i1z).trans q
    · exact st2.1.at fun o q => (sb.2 _ D.i2z).trans q
    · have hlt : c < s.heap.objs.size := by
        obtain ⟨o, e, _⟩ : ∃ o, s.heap.get? c = some o ∧ True := by
          simp only [List.mem_cons, List.not_mem_nil, or_false] at hcm
          rcases hcm with rfl | rfl | rfl | rfl | rfl
          · exact ⟨_, hz, trivial⟩
          · exact ⟨_, hTI, trivial⟩
          · exact ⟨_, hTO, trivial⟩
          · obtain ⟨o, e, _⟩ := h1; exact ⟨o, e, trivial⟩
          · obtain ⟨o, e, _⟩ := h2; exact ⟨o, e, trivial⟩
        exact Heap.lt_size e
      rw [upd_ne (Nat.ne_of_lt hlt)]
      exact (hf c hcm).1
  done := by
    intro X hP hw hK hc i pins s σ H E I hf st hg
    subst hP hw hK
    obtain ⟨⟨hz, hTI, ⟨x0, y0, hTO⟩, h1, h2⟩, l1, l2⟩ := st
    obtain ⟨xs, ys, hqx, hqy, n1, n2, hend⟩ := hg
    obtain ⟨its, rv, p, _⟩ := I.tuple hqx
    obtain ⟨its2, rv2, p2, _⟩ := I.list hqy
    have z1 : its.length = xs.length := rv.length.symm
    have z2 : its2.length = ys.length := rv2.length.symm
    have D1 := Draws.tuple (prog := X.prog) (w := X.w) (A := X.A.in1) (I.ok.hd hc) i1 a D.l1i1 its.toArray
    have D2 := Draws.list (prog := X.prog) (w := X.w) (A := X.A.in1) (I.ok.hd hc) i2 b D.l2i2 its2.toArray
    exact wpAny_pyNext_zipD2_end (sep_of D) D1 D2 hz hTI hTO ⟨h1, p⟩ ⟨h2, p2.isList⟩ (by simp; omega) (by simp; omega) (by simp; omega) fun h' tk hk => ⟨rfl, I.turnedL (t' := tk) (ch := [z, TI, TO, i1, i2]) (fun c o hb q =>
      hk c o (fun q' => hb (by simp [q'])) (fun q' => hb (by simp [q'])) (fun q' => hb (by simp [q'])) (fun q' => hb (by simp [q'])) q) hf⟩
  self := fun A i s Q E st h => wpAny_pyIter_zip st.1.1 h
def iZipM (K : PySem.W.Frag) (ta : TA) : TI := fun σ H R => ta σ H fun vs H1 => ∃ a b xs ys, vs = [.ref a, .ref b] ∧ SqT K H1 a xs ∧ SqL K H1 b ys ∧ R (ItzM K a b xs.length ys.length) H1
theorem pi_zipM {X : Cx} {e e2 : Expr} {ta : TA} {p pos tpos : Pos} {elts : List Expr} {kk : Nat} (hg : Gl X "zip") (hm : X.mg "zip" = none) (ha : PA X [e, e2] ta)
    (hs : starEach [e, e2] X.env = (false, eval e X.env) :: starEach [e2] X.env := by rfl) (hpl : (backTo pos (starEach [e2] X.env)).any (·.1) = false := by rfl) :
    PI X (.Tuple elts kk tpos) (.Call (.Name "zip" p) [e, e2] [] pos) (iZipM X.K ta) := by
  refine ⟨fun pins s σ H R I h => ?_⟩
  refine Call_ (ld_blt I hg hm PyProof.Rows.boot_zip (PyProof.Rows.callWith_type1 (thn (ha.run pos pins s σ H _ I h) fun us s1 ⟨vs, H1, I1, r1, q1⟩ => ?_) hs hpl))
  obtain ⟨a, b, xs, ys, rfl, hqx, hqy, q⟩ := q1
  obtain ⟨u, u2, rfl, r, r'⟩ := vals2 r1
  obtain rfl : u = Value.ref a := r
  obtain rfl : u2 = Value.ref b := r'
  obtain ⟨its, rv, p1, _⟩ := I1.tuple hqx
  obtain ⟨its2, rv2, p2, _⟩ := I1.list hqy
  obtain ⟨o1, ho1, _⟩ := id p1
  have la : a < s1.heap.objs.size := Heap.lt_size ho1
  have lb : b < s1.heap.objs.size := p2.lt
  refine zip_begins2 (begins_tuple a its.toArray) (begins_list b its2.toArray) (show s1.heap.IsTuple a its.toArray from p1) p2.isList fun h' hz hTI hTO h1 h2 hsz hk => wpAny_pyIter_zip hz ?_
  have I2 : Inv X pins σ H1 { s1 with heap := h' } := I1.kept (t' := s1.toks) hk
  refine ⟨s1.heap.objs.size + 4, [s1.heap.objs.size + 4, s1.heap.objs.size + 2, s1.heap.objs.size + 3, s1.heap.objs.size, s1.heap.objs.size + 1], _, _, H1, rfl, I2, turn_zipM (PySem.W.ktu_apart s1.heap.objs.size a b la lb), ⟨⟨hz, hTI, ⟨_, _, hTO⟩, ⟨_, h1, rfl, rfl⟩, ⟨_, h2, rfl, rfl⟩⟩, Nat.zero_le _, Nat.zero_le _⟩, fun c hcm => ?_, q⟩
  have hle : s1.heap.objs.size ≤ c := by
    simp only [List.mem_cons, List.not_mem_nil, or_false] at hcm
    rcases hcm with rfl | rfl | rfl | rfl | rfl <;> omega
  exact I1.fpOk hle (I1.hok.fresh hle)
theorem itd_zipM {G : Gd} {HF : Hp} {a b : Addr} {xs ys : List V} {ds es : List D} (h : SqE G.K HF a xs) (k : SqL G.K HF b ys) (r : Reps G HF xs ds) (r' : Reps G HF ys es) : ItD G (ItzM G.K a b xs.length ys.length) HF (zipD ds es) where
  go := fun i H1 HF1 s1 s2 hi => by
    rw [zipD_length, ← r.length, ← r'.length] at hi
    exact ⟨xs, ys, xs[i]'(by omega), ys[i]'(by omega), SqT.mono (s1.trans s2) h, (s1.trans s2).seq k, rfl, rfl, by simp, by simp⟩
  yld := fun i x H1 HF1 H2 d s1 s2 hd ⟨T, u, v, e1, e2, e3, e4, e5⟩ => by
    subst e1; subst e3
    obtain ⟨p, q, q1, q2, q3⟩ := zipD_get _ _ _ hd
    subst q3
    obtain ⟨w1, g1, g2⟩ := r.get q1
    obtain ⟨w2, k1, k2⟩ := r'.get q2
    have z1 := e4 xs (SqT.mono (s1.trans s2) h)
    have z2 := e5 ys ((s1.trans s2).seq k)
    rw [g1] at z1; cases z1
    rw [k1] at z2; cases z2
    have m := s1.trans (same_upd (p := T) (o := .tup [u, v]) (free_of s2 e2))
    exact ⟨_, .new e2, .tup (SqE.of upd_same) (.cons (Rep.mono m g2) (.cons (Rep.mono m k2) .nil))⟩
  stop := fun i H1 HF1 s1 s2 hi => by
    rw [zipD_length, ← r.length, ← r'.length] at hi
    exact ⟨xs, ys, SqT.mono (s1.trans s2) h, (s1.trans s2).seq k, rfl, rfl, by omega⟩
section
variable {X : Cx} {W : WD} {pos : Pos} {a b : Expr} {fa fb : DEn}
def gZipM : D → D → Option (List D)
  | .tup a, .lst b => some (zipD a b)
  | _, _ => none
def mZipM (fa fb : DEn) : DDn := fun ρ S => (fa ρ S).bind fun x S1 => (fb ρ S1).bind fun y S2 => lift (gZipM x y) S2
theorem i_zipM {p tpos : Pos} {elts : List Expr} {kk : Nat} (hm : X.mg "zip" = none) (ha : DE X W a fa) (hb : DE X W b fb) (hg : Gl X "zip" := by rfl) (hs : starEach [a, b] X.env = (false, eval a X.env) :: starEach [b] X.env := by rfl) (hs2 : starEach [b] X.env = (false, eval b X.env) :: starEach [] X.env := by rfl)
    (hpl : (backTo pos (starEach [b] X.env)).any (·.1) = false := by rfl) : DI X W (.Tuple elts kk tpos) (.Call (.Name "zip" p) [a, b] [] pos) (mZipM fa fb) :=
  PI.imp (pi_zipM hg hm (pa_cons ha (pa_cons hb pa_nil hs2) hs) hs hpl) fun σ H R ⟨HF, L, ρ, S, RR, p⟩ => ⟨HF, L, ρ, S, RR, Post.bind p fun x S1 v H1 HF1 L1 e1 st1 R1 r1 p1 => ⟨HF1, L1, ρ, S1, R1, Post.bind p1 fun y S2 w H2 HF2 L2 e2 st2 R2 r2 p2 => by
    obtain ⟨ds, ed, p3⟩ := p2.lift
    have r1' := Rep.mono st2.fro r1
    unfold gZipM at ed
    split at ed
    · cases ed
      cases r1' with
      | tup h1 h2 => cases r2 with
        | lst h3 h4 => exact ⟨_, _, _, _, rfl, SqT.mono R2.sub h1, SqL.of (R2.sub _ _ h3), p3.done R2 .no (itd_zipM h1 (SqL.of h3) h2 h4)⟩
    · cases ed⟩⟩
end
end DL

/-! the layer of data: products and quotients of long ints -/
namespace DL
open PySem L2
section
variable {X : Cx} {W : WD}
def gMulW : D → D → Option D
  | .int i, .int j => if i.natAbs.log2 + j.natAbs.log2 < 1000000 then some (.int (i * j)) else none
  | _, _ => none
theorem bMulW : BOp X W .Mult gMulW := by
  refine ⟨_, op_mulW, fun x y v w H HF d Q sub rx ry e q => ?_⟩
  unfold gMulW at e
  split at e
  · split at e
    · cases rx; cases ry; cases e
      exact ⟨_, _, rfl, rfl, by assumption, q _ _ _ .no (.int _)⟩
    · cases e
  · cases e
def gDivW : D → D → Option D
  | .int i, .int j => if 0 < j ∧ j.natAbs.log2 < 9000 then some (.int (i / j)) else none
  | _, _ => none
theorem bDivW : BOp X W .FloorDiv gDivW := by
  refine ⟨_, op_fdivW, fun x y v w H HF d Q sub rx ry e q => ?_⟩
  unfold gDivW at e
  split at e
  · split at e
    · cases rx; cases ry; cases e
      exact ⟨_, _, rfl, rfl, by assumption, q _ _ _ .no (.int _)⟩
    · cases e
  · cases e
end
end DL

/-! the layer of data: dicts of ints and texts as cells -/
namespace DL
open PySem PySem.Spec PyProof.Rows L2
abbrev KD := L2.Key × D
def keyD : D → Option L2.Key
  | .int i => some (.inl i)
  | .str x => some (.inr x)
  | _ => none
def valD (kvs : List KD) (k : L2.Key) : Option D := (kvs.find? fun kv => decide (kv.1 = k)).map (·.2)
def putD (kvs : List KD) (k : L2.Key) (d : D) : List KD :=
  if (kvs.any fun kv => decide (kv.1 = k)) = true then kvs.map (fun kv => if kv.1 = k then (kv.1, d) else kv) else kvs ++ [(k, d)]
theorem key_rep {G : Gd} {HF : Hp} {v : V} {d : D} {k : L2.Key} (r : Rep G HF v d) (h : keyD d = some k) : v = kV k := by
  cases d with
  | int i => cases r; cases h; rfl
  | str x => cases r; cases h; rfl
  | _ => cases h
/-- the heap's entries are these -/
def Ents (G : Gd) (HF : Hp) (us : List (L2.Key × V)) (kvs : List KD) : Prop := us.map (·.1) = kvs.map (·.1) ∧ Reps G HF (us.map (·.2)) (kvs.map (·.2))
theorem Ents.cons {G : Gd} {HF : Hp} {u : L2.Key × V} {us : List (L2.Key × V)} {kv : KD} {kvs : List KD} (h : Ents G HF (u :: us) (kv :: kvs)) : u.1 = kv.1 ∧ Rep G HF u.2 kv.2 ∧ Ents G HF us kvs := by
  obtain ⟨h1, h2⟩ := h
  rw [List.map_cons, List.map_cons] at h1 h2
  injection h1 with a b
  cases h2 with
  | cons c d => exact ⟨a, c, b, d⟩
theorem Ents.mk {G : Gd} {HF : Hp} {u : L2.Key × V} {us : List (L2.Key × V)} {kv : KD} {kvs : List KD} (a : u.1 = kv.1) (b : Rep G HF u.2 kv.2) (h : Ents G HF us kvs) : Ents G HF (u :: us) (kv :: kvs) :=
  ⟨by rw [List.map_cons, List.map_cons, a, h.1], .cons b h.2⟩
theorem Ents.val {G : Gd} {HF : Hp} {k : L2.Key} : ∀ {kvs : List KD} {us : List (L2.Key × V)}, Ents G HF us kvs → (∀ d, valD kvs k = some d → ∃ v, valV us k = some v ∧ Rep G HF v d) ∧ (valD kvs k).isSome = (valV us k).isSome
  | [], us, h => by
    have : us = [] := by simpa using h.1
    subst this
    exact ⟨fun d e => (by cases e), rfl⟩
  | kv :: kvs, [], h => by
    have := h.1
    cases this
  | kv :: kvs, u :: us, h => by
    obtain ⟨a, b, c⟩ := h.cons
    by_cases e : kv.1 = k
    · have e1 : valD (kv :: kvs) k = some kv.2 := by simp [valD, List.find?_cons, e]
      have e2 : valV (u :: us) k = some u.2 := valV_pos (a.trans e)
      rw [e1, e2]
      exact ⟨fun d ed => (by cases ed; exact ⟨_, rfl, b⟩), rfl⟩
    · have e1 : valD (kv :: kvs) k = valD kvs k := by simp [valD, List.find?_cons, e]
      have e2 : valV (u :: us) k = valV us k := valV_neg fun z => e (a.symm.trans z)
      rw [e1, e2]
      exact c.val
theorem Ents.any {G : Gd} {HF : Hp} {k : L2.Key} : ∀ {kvs : List KD} {us : List (L2.Key × V)}, Ents G HF us kvs → (us.any fun kv => decide (kv.1 = k)) = kvs.any fun kv => decide (kv.1 = k)
  | [], us, h => by
    have : us = [] := by simpa using h.1
    subst this
    rfl
  | kv :: kvs, [], h => by
    have := h.1
    cases this
  | kv :: kvs, u :: us, h => by
    obtain ⟨a, b, c⟩ := h.cons
    rw [List.any_cons, List.any_cons, a, c.any]
theorem Ents.over {G : Gd} {HF : Hp} {k : L2.Key} {v : V} {d : D} (r : Rep G HF v d) : ∀ {kvs : List KD} {us : List (L2.Key × V)}, Ents G HF us kvs → Ents G HF (us.map fun kv => if kv.1 = k then (kv.1, v) else kv) (kvs.map fun kv => if kv.1 = k then (kv.1, d) else kv)
  | [], us, h => by
    have : us = [] := by simpa using h.1
    subst this
    exact ⟨rfl, .nil⟩
  | kv :: kvs, [], h => by
    have := h.1
    cases this
  | kv :: kvs, u :: us, h => by
    obtain ⟨a, b, c⟩ := h.cons
    rw [List.map_cons, List.map_cons]
    by_cases e : kv.1 = k
    · rw [if_pos e, if_pos (a.trans e)]
      exact Ents.mk a r (c.over r)
    · rw [if_neg e, if_neg fun z => e (a.symm.trans z)]
      exact Ents.mk a b (c.over r)
theorem Ents.put {G : Gd} {HF : Hp} {k : L2.Key} {v : V} {d : D} {kvs : List KD} {us : List (L2.Key × V)} (h : Ents G HF us kvs) (r : Rep G HF v d) : Ents G HF (putK us k v) (putD kvs k d) := by
  unfold putK putD
  rw [h.any]
  split
  · exact h.over r
  · exact ⟨by rw [List.map_append, List.map_append, h.1]; rfl, by rw [List.map_append, List.map_append]; exact Reps.append h.2 (.cons r .nil)⟩
theorem Ents.len {G : Gd} {HF : Hp} {kvs : List KD} {us : List (L2.Key × V)} (h : Ents G HF us kvs) : us.length = kvs.length := by
  have := congrArg List.length h.1
  simpa using this
section
variable {G : Gd} {H HF : Hp} {L : List Addr} {σ : L2.St} {ρ : DL.Env} {S : Store}
/-- a dict's cell is written -/
theorem Rel.writeK (R : Rel G H HF L σ ρ S) {n : Nat} {a : Addr} {c : Cell} {us : List (L2.Key × V)} {kvs : List KD} (h1 : L[n]? = some a) (h2 : S[n]? = some (some c)) (hr : Ents G HF us kvs) :
    Rel G (upd H a (.dK us)) HF L σ ρ (S.set n (some (.dk kvs))) ∧ Step H HF L (upd H a (.dK us)) HF L := by
  have hm : a ∈ L := List.mem_of_getElem? h1
  have hn : n < L.length := (List.getElem?_eq_some_iff.mp h1).1
  obtain ⟨hF, _⟩ := R.cell n a c h1 h2
  obtain ⟨u0, hu0, hm0⟩ := R.liv a hm
  refine ⟨⟨fun b u q => ?_, R.nd, by simpa using R.sl, fun b hb => ?_, R.tab.up (nt_upd hu0 hm0.nt) (Same.refl _), R.nft, fun k b c' k1 k2 => ?_, R.el, R.env⟩, ⟨fun b u hb _ q => ?_, nn_upd (fun _ h => by cases h), Same.refl _, fun _ _ _ q _ _ => q, [], by simp, by simp⟩⟩
  · rw [upd_ne (ne_of_none q hF)]; exact R.sub b u q
  · by_cases hba : b = a
    · subst hba; exact ⟨_, upd_same, trivial⟩
    · rw [upd_ne hba]; exact R.liv b hb
  · by_cases hk : k = n
    · subst hk
      rw [h1] at k1; cases k1
      rw [List.getElem?_set_self (by rw [R.sl]; exact hn)] at k2
      cases k2
      exact ⟨hF, us, upd_same, hr.1, hr.2⟩
    · rw [List.getElem?_set_ne (Ne.symm hk)] at k2
      obtain ⟨q1, q2⟩ := R.cell k b c' k1 k2
      exact ⟨q1, q2.up (upd_ne (fun z => hk (nodup_get R.nd (by rw [← z]; exact k1) h1))) (Same.refl _)⟩
  · rw [upd_ne (fun z => hb (by rw [z]; exact hm))]; exact q
end
section
variable {X : Cx} {W : WD} {pos : Pos} {b : Expr} {fb : DEn}
def mIxD (i : Nat) (fb : DEn) : DEn := fun ρ S => match ρ[i]? with
  | some (some (.cel n)) => (fb ρ S).bind fun y S1 => match keyD y, S1[n]? with
    | some k, some (some (.dk kvs)) => lift (valD kvs k) S1
    | _, _ => .bad
  | _ => .bad
theorem xixD (hu : X.A.units + 64 < cLine) (i : Nat) {x : Str} {px : Pos} (hb : DE X W b fb) (hs : NoSl b := by exact fun _ _ => rfl) (hN : X.N[i]? = some x := by rfl) (hv : Vis X.env.scope x := by first | exact Or.inl rfl | exact Or.inr (Or.inl rfl) | exact Or.inr (Or.inr rfl)) (hd : (x == ("__debug__" : Str)) = false := by decide)
    (hcd : (x == ("__classdict__" : Str)) = false := by decide) : DE X W (.Subscript (.Name x px) b pos) (mIxD i fb) := by
  refine PE.imp (pe_dget (by omega) (pe_var (i := i) hN hv hd hcd) hb hs) fun σ H Q ⟨HF, L, ρ, S, R, p⟩ => ?_
  unfold mIxD at p
  split at p
  · rename_i n hn
    obtain ⟨v, hv1, pa, hp1, hp2⟩ := R.env i _ hn
    subst hp2
    refine ⟨_, hv1, HF, L, ρ, S, R, Post.bind p fun y S1 w H1 HF1 L1 e1 st1 R1 r1 p1 => ?_⟩
    split at p1
    · rename_i k kvs hk hS
      obtain ⟨d, ed, p2⟩ := p1.lift
      obtain ⟨q1, us, q2, q3, q4⟩ := R1.cell n pa _ (st1.lget hp1) hS
      have E : Ents (gd X W) HF1 us kvs := ⟨q3, q4⟩
      obtain ⟨u, e2, e3⟩ := E.val.1 d ed
      have ew := key_rep r1 hk
      subst ew
      exact ⟨pa, u, rfl, by rw [← e2]; exact DGet.k q2, p2.done R1 .no e3⟩
    · exact p1.elim
  · exact p.elim
end
end DL

/-! the layer of data: new dicts, d[k] = x, k in d; ranges downwards -/
namespace DL
open PySem PySem.Spec PyProof.Rows L2
section
variable {G : Gd} {H HF : Hp} {L : List Addr} {σ : L2.St} {ρ : DL.Env} {S : Store}
/-- a new dict that will be changed -/
theorem Rel.freshK (R : Rel G H HF L σ ρ S) {p : Addr} {us : List (L2.Key × V)} {kvs : List KD} (hp : H p = none) (hr : Ents G HF us kvs) :
    Rel G (upd H p (.dK us)) HF (L ++ [p]) σ ρ (S ++ [some (.dk kvs)]) ∧ Step H HF L (upd H p (.dK us)) HF (L ++ [p]) := by
  have hL := R.out hp
  have hF := R.hf hp
  have e : ∀ {n : Nat} {a : Addr}, L[n]? = some a → a ≠ p := fun h z => hL (by rw [← z]; exact List.mem_of_getElem? h)
  refine ⟨⟨R.sub.trans (same_upd hp), ?_, by simp [R.sl], fun a ha => ?_, R.tab.up (nt_new hp) (Same.refl _), R.nft, fun n a c h1 h2 => ?_, R.el, fun i x h => ?_⟩, ⟨fun b u _ _ q => same_upd hp b u q, nn_upd (fun _ h => by cases h), Same.refl _, fun a _ _ q _ _ => q, [p], rfl, fun a ha o _ q => ?_⟩⟩
  · rw [List.nodup_append]
    refine ⟨R.nd, by simp, fun a ha b hb => ?_⟩
    have : b = p := by simpa using hb
    subst this
    exact fun z => hL (z ▸ ha)
  · rcases List.mem_append.mp ha with z | z
    · rw [upd_ne (fun q => hL (by rw [← q]; exact z))]; exact R.liv a z
    · have : a = p := by simpa using z
      subst this; exact ⟨_, upd_same, trivial⟩
  · by_cases hn : n < L.length
    · rw [List.getElem?_append_left hn] at h1
      rw [List.getElem?_append_left (by rw [R.sl]; exact hn)] at h2
      obtain ⟨q1, q2⟩ := R.cell n a c h1 h2
      exact ⟨q1, q2.up (upd_ne (e h1)) (Same.refl _)⟩
    · have hn' : n = L.length := by
        have := (List.getElem?_eq_some_iff.mp h1).1
        simp at this; omega
      subst hn'
      rw [List.getElem?_append_right (Nat.le_refl _)] at h1
      rw [List.getElem?_append_right (by rw [R.sl]; exact Nat.le_refl _), R.sl] at h2
      simp at h1 h2
      subst h1; subst h2
      exact ⟨hF, us, upd_same, hr.1, hr.2⟩
  · obtain ⟨v, q1, q2⟩ := R.env i x h
    refine ⟨v, q1, ?_⟩
    cases x with
    | v d => exact q2
    | cel n =>
      obtain ⟨a, q3, q4⟩ := q2
      exact ⟨a, by rw [List.getElem?_append_left (List.getElem?_eq_some_iff.mp q3).1]; exact q3, q4⟩
    | exn x => exact q2
    | lam ws ds => exact q2
    | cls ns => exact RepCls.app q2
  · obtain rfl : a = p := by simpa using ha
    rw [hp] at q
    cases q
theorem Rel.lastK (R : Rel G H HF L σ ρ S) {p : Addr} {us : List (L2.Key × V)} {kvs : List KD} (hp : H p = none) (hr : Ents G HF us kvs) : (L ++ [p])[S.length]? = some p := by
  rw [R.sl, List.getElem?_append_right (Nat.le_refl _)]
  simp
end
section
variable {X : Cx} {W : WD} {pos : Pos} {a b c : Expr} {fa fb fc : DEn}
/-- {} -/
def mNewDk : DVn := fun _ S => .ok (.cel S.length) (S ++ [some (.dk [])])
theorem vnewD : DV X W (.Dict [] [] pos) mNewDk :=
  PE.imp pe_dnewK fun σ H Q ⟨HF, L, ρ, S, R, p⟩ => fun q hq => by
    have E : Ents (gd X W) HF ([] : List (L2.Key × V)) [] := ⟨rfl, .nil⟩
    obtain ⟨R', st⟩ := R.freshK hq E
    exact p _ _ _ _ st R' ⟨q, R.lastK hq E, rfl⟩
/-- {k: x} -/
def mNewD1 (fk fv : DEn) : DVn := fun ρ S => (fk ρ (S ++ [some (.dk [])])).bind fun y S1 => (fv ρ S1).bind fun d S2 => match keyD y, S2[S.length]? with
  | some k, some (some (.dk [])) => .ok (.cel S.length) (S2.set S.length (some (.dk [(k, d)])))
  | _, _ => .bad
theorem vnewD1 {k v : Expr} {fk fv : DEn} (hk : DE X W k fk) (hv : DE X W v fv) : DV X W (.Dict [some k] [v] pos) (mNewD1 fk fv) :=
  PE.imp (pe_disp (pps_cons hk hv pps_nil) rfl rfl (fun z => by cases z) (by simp)) fun σ H Q ⟨HF, L, ρ, S, R, p⟩ => fun q hq => by
    have E : Ents (gd X W) HF ([] : List (L2.Key × V)) [] := ⟨rfl, .nil⟩
    obtain ⟨R', st⟩ := R.freshK hq E
    have hl := R.lastK hq E
    unfold mNewD1 at p
    refine ⟨HF, _, ρ, _, R', Post.bind (p.step st) fun y S1 w H1 HF1 L1 e1 st1 R1 r1 p1 => ⟨HF1, L1, ρ, S1, R1, Post.bind p1 fun d S2 u H2 HF2 L2 e2 st2 R2 r2 p2 => ?_⟩⟩
    split at p2
    · rename_i kk hkk hS
      have h2 := st2.lget (st1.lget hl)
      obtain ⟨q1, us, q2, q3, q4⟩ := R2.cell S.length q _ h2 hS
      have : us = [] := by simpa using q3
      subst this
      have ew := key_rep (Rep.mono st2.fro r1) hkk
      subst ew
      have E2 : Ents (gd X W) HF2 [(kk, u)] [(kk, d)] := ⟨rfl, .cons r2 .nil⟩
      obtain ⟨R3, st3⟩ := R2.writeK h2 hS E2
      exact ⟨q2, [(kk, u)], rfl, by simp, p2 _ _ _ _ st3 R3 ⟨q, h2, rfl⟩⟩
    · exact p2.elim
/-- d[k] = .. -/
def gDk (i : Nat) (fi : DEn) : DGn := fun d ρ S => match ρ[i]? with
  | some (some (.cel n)) => (fi ρ S).bd fun x S1 => match keyD x, S1[n]? with
    | some k, some (some (.dk kvs)) => if kvs.length < 1000000 then .ok ρ (S1.set n (some (.dk (putD kvs k d)))) else .bad
    | _, _ => .bad
  | _ => .bad
theorem gdk (hu : X.A.units + 64 < cLine) (i : Nat) {x : Str} {px : Pos} {fi : DEn} (hi : DE X W.z b fi) (hN : X.N[i]? = some x := by rfl) (hv : Vis X.env.scope x := by first | exact Or.inl rfl | exact Or.inr (Or.inl rfl) | exact Or.inr (Or.inr rfl)) (hd : (x == ("__debug__" : Str)) = false := by decide) (hcd : (x == ("__classdict__" : Str)) = false := by decide)
    (ha : ∀ v, assign (.Subscript (.Name x px) b pos) X.env v = (do
      let ov ← holding [v] (eval (.Name x px) X.env)
      let iv ← holding [v, ov] (eval b X.env)
      standAt pos
      holding [v, ov, iv] (setItem ov iv v)
      release [v, ov, iv] []) := by intro _; rfl) : DG X W (.Subscript (.Name x px) b pos) (gDk i fi) :=
  PG.imp (pg_sub (pe_var (i := i) hN hv hd hcd) hi (set_dict (by omega)) ha) fun v σ H Q ⟨HF, L, ρ, S, d, R, r, p⟩ => by
    unfold gDk at p
    split at p
    · rename_i n hn
      obtain ⟨w, hw1, pa, hp1, hp2⟩ := R.env i _ hn
      subst hp2
      refine ⟨_, hw1, HF, L, ρ, S, R, ?_⟩
      cases q : fi ρ S with
      | bad => rw [q] at p; exact p.elim
      | ex x S1 => rw [q] at p; exact p.elim
      | ok y S1 =>
        rw [q] at p
        replace p : PostG (gd X W) H HF L Q (match (generalizing := false) keyD y, S1[n]? with
          | some k, some (some (.dk kvs)) => if kvs.length < 1000000 then .ok ρ (S1.set n (some (.dk (putD kvs k d)))) else .bad
          | _, _ => .bad) := p
        intro u H1 HF1 L1 st1 R1 ru
        split at p
        · rename_i k kvs hk hS
          split at p
          · rename_i hz
            have hp1' := st1.lget hp1
            obtain ⟨q4, us, q5, q6, q7⟩ := R1.cell n pa _ hp1' hS
            have E : Ents (gd X W) HF1 us kvs := ⟨q6, q7⟩
            have ew := key_rep ru hk
            subst ew
            obtain ⟨R2, st2⟩ := R1.writeK hp1' hS (E.put (k := k) (Rep.mono st1.fro r))
            exact ⟨pa, _, rfl, DPut.k q5 (by rw [E.len, sizeLine_eq]; omega), p _ _ _ _ (st1.trans st2) R2⟩
          · exact p.elim
        · exact p.elim
    · exact p.elim
end
end DL

/-! the layer of data: ranges downwards, x[i] += e, k in d -/
namespace DL
open PySem PySem.Spec PyProof.Rows L2
section
variable {X : Cx} {W : WD} {pos : Pos} {a b c : Expr} {fa fb fc : DEn} {tg : Expr}
theorem itd_rangeC {G : Gd} {HF : Hp} (lo c : Int) (n : Nat) : ItD G (Itc lo c n) HF ((List.range n).map fun i => D.int (lo + (i : Nat) * c)) where
  go := fun i H1 HF1 s1 s2 hi => by show i < n; simpa using hi
  yld := fun i x H1 HF1 H2 d s1 s2 hd ⟨e, hx⟩ => by
    subst e; subst hx
    rw [List.getElem?_map] at hd
    cases q : (List.range n)[i]? with
    | none => rw [q] at hd; cases hd
    | some j =>
      rw [q] at hd
      cases hd
      obtain ⟨h1, h2⟩ := List.getElem?_eq_some_iff.mp q
      simp at h2
      subst h2
      exact ⟨HF1, .no, .int _⟩
  stop := fun i H1 HF1 s1 s2 hi => by show n ≤ i; simpa using hi
/-- range(a, b, -1) -/
def rgDn (m n : Int) : List D := (List.range (m - n).toNat).map fun i => D.int (m + (i : Nat) * (-1))
def mRgDn (fa fb fc : DEn) : DDn := fun ρ S => (fa ρ S).bind fun x S1 => (fb ρ S1).bind fun y S2 => (fc ρ S2).bind fun z S3 => match x, y, z with
  | .int m, .int n, .int k => if k = -1 ∧ (m ≤ 1000000000 ∧ -1000000000 ≤ m) ∧ (n ≤ 1000000000 ∧ -1000000000 ≤ n) then .ok (rgDn m n) S3 else .bad
  | _, _, _ => .bad
theorem i_rangeDn {p : Pos} (hm : X.mg "range" = none) (ha : DE X W a fa) (hb : DE X W b fb) (hc : DE X W c fc) (hg : Gl X "range" := by rfl)
    (hs : starEach [a, b, c] X.env = (false, eval a X.env) :: starEach [b, c] X.env := by rfl) (hs2 : starEach [b, c] X.env = (false, eval b X.env) :: starEach [c] X.env := by rfl) (hs3 : starEach [c] X.env = (false, eval c X.env) :: starEach [] X.env := by rfl) (hpl : (backTo pos (starEach [b, c] X.env)).any (·.1) = false := by rfl) :
    DI X W tg (.Call (.Name "range" p) [a, b, c] [] pos) (mRgDn fa fb fc) :=
  PI.imp (pi_range3 hg hm (pa_cons ha (pa_cons hb (pa_cons hc pa_nil hs3) hs2) hs) hs hpl) fun σ H R ⟨HF, L, ρ, S, RR, p⟩ => ⟨HF, L, ρ, S, RR, Post.bind p fun x S1 v H1 HF1 L1 e1 st1 R1 r1 p1 => ⟨HF1, L1, ρ, S1, R1, Post.bind p1 fun y S2 w H2 HF2 L2 e2 st2 R2 r2 p2 => ⟨HF2, L2, ρ, S2, R2, Post.bind p2 fun z S3 u H3 HF3 L3 e3 st3 R3 r3 p3 => by
    split at p3
    · rename_i m n k
      split at p3
      · rename_i hz
        obtain ⟨rfl, h1, h2⟩ := hz
        cases r1; cases r2; cases r3
        exact ⟨m, n, -1, (m - n).toNat, rfl, RgC.neg (by omega) (by omega) (by omega) (by omega), p3.done R3 .no (itd_rangeC m (-1) (m - n).toNat)⟩
      · exact p3.elim
    · exact p3.elim⟩⟩⟩
/-- x[i] += e, of a list of ints -/
theorem get_list : PGet X (rIxL X.K) := by
  intro pins s σ H x y v u Q I rx ry h
  obtain ⟨p, xs, i, z, rfl, rfl, hq, he, q⟩ := h
  cases rx
  obtain ⟨t, rfl⟩ := ry
  obtain ⟨its, r, pl, hz⟩ := I.list hq
  obtain ⟨j, h1, h2, h3, h4, h5⟩ := atI_get he
  obtain ⟨w, ew, rw'⟩ := r.get h2
  have hl := r.length
  have hn := line63
  have fin : EP X pins σ Q w s := ⟨z, H, I, rw', q⟩
  by_cases h0 : 0 ≤ i
  · have hj : i.toNat = j := by
      rw [seqIndex_of h0 h5] at h1
      exact Option.some.inj h1
    exact wpAny_getItem_list pl.isList h0 (by omega) (by rw [hj]; simpa using ew) fin
  · have hj : (i + (its.toArray.size : Int)).toNat = j := by
      rw [seqIndex_neg (by omega) h4] at h1
      rw [List.size_toArray, ← hl]
      exact Option.some.inj h1
    exact wpAny_getItem_list_neg pl.isList (by omega) (by rw [List.size_toArray] <;> omega) (by omega) (by rw [hj]; simpa using ew) fin
def mAugIx (i : Nat) (fi fe : DEn) : DSn := fun ρ S => match ρ[i]? with
  | some (some (.cel n)) => bindS (fi ρ S) ρ fun x S1 => match x, S1[n]? with
    | .int k, some (some (.lst ds)) => match atI ds k with
      | some (.int m) => bindS (fe ρ S1) ρ fun y S2 => match y, S2[n]? with
        | .int e, some (some (.lst es)) => match ixN es.length k with
          | some j => .ok (.nx, ρ) (S2.set n (some (.lst (es.set j (.int (m + e))))))
          | none => .bad
        | _, _ => .bad
      | _ => .bad
    | _, _ => .bad
  | _ => .bad
theorem saugIx (i : Nat) {x : Str} {px tpos : Pos} (hb : DE X W b fa) (he : DE X W c fc) (hN : X.N[i]? = some x := by rfl) (hv : Vis X.env.scope x := by first | exact Or.inl rfl | exact Or.inr (Or.inl rfl) | exact Or.inr (Or.inr rfl)) (hd : (x == ("__debug__" : Str)) = false := by decide) (hcd : (x == ("__classdict__" : Str)) = false := by decide)
    (ha : ∀ ov iv new, augStore b ov iv new = (do holding [new, ov, iv] (setItem ov iv new); release [new, ov, iv] []; pure .next) := by intros; rfl) :
    DS X W (.AugAssign (.Subscript (.Name x px) b tpos) .Add c pos) (mAugIx i fa fc) :=
  PS.imp (ps_augS (pe_var (i := i) hN hv hd hcd) hb get_list he ip_add set_list ha) fun D σ H ⟨HF, L, ρ, S, R, p⟩ => by
    unfold mAugIx at p
    split at p
    · rename_i n hn
      obtain ⟨v, hv1, pa, hp1, hp2⟩ := R.env i _ hn
      subst hp2
      refine ⟨_, hv1, HF, L, ρ, S, R, PostS.bind p fun y S1 w H1 HF1 L1 e1 st1 R1 r1 p1 => ?_⟩
      split at p1
      · rename_i k ds hS
        cases r1
        split at p1
        · rename_i m hm
          obtain ⟨q1, vs, q2, q3⟩ := R1.cell n pa _ (st1.lget hp1) hS
          obtain ⟨u, e2, e3⟩ := q3.atI hm
          cases e3
          refine ⟨_, _, _, _, rfl, rfl, SqL.of q2, e2, HF1, L1, ρ, S1, R1, PostS.bind p1 fun y2 S2 w2 H2 HF2 L2 e22 st2 R2 r2 p2 => ?_⟩
          split at p2
          · rename_i e es hS2
            cases r2
            split at p2
            · rename_i j hj
              have hp3 := st2.lget (st1.lget hp1)
              obtain ⟨q4, vs2, q5, q6⟩ := R2.cell n pa _ hp3 hS2
              obtain ⟨R3, st3⟩ := R2.write hp3 hS2 (q6.set j (.int (m + e)))
              exact ⟨_, _, rfl, rfl, pa, vs2, k, j, rfl, rfl, q5, by rw [q6.length]; exact hj, p2 _ _ _ _ st3 R3⟩
            · exact p2.elim
          · exact p2.elim
        · exact p1.elim
      · exact p1.elim
    · exact p.elim
/-- an item of a list that is a cell or a value -/
def mIxE (i : Nat) (fb : DEn) : DEn := fun ρ S => match ρ[i]? with
  | some (some (.cel n)) => (fb ρ S).bind fun y S1 => match y, S1[n]? with
    | .int k, some (some (.lst ds)) => lift (atI ds k) S1
    | _, _ => .bad
  | some (some (.v (.lst ds))) => (fb ρ S).bind fun y S1 => match y with
    | .int k => lift (atI ds k) S1
    | _ => .bad
  | _ => .bad
theorem xixE (i : Nat) {x : Str} {px : Pos} {fb : DEn} (hb : DE X W b fb) (hs : PlainIx b := by exact fun _ _ => rfl) (hN : X.N[i]? = some x := by rfl) (hv : Vis X.env.scope x := by first | exact Or.inl rfl | exact Or.inr (Or.inl rfl) | exact Or.inr (Or.inr rfl)) (hd : (x == ("__debug__" : Str)) = false := by decide)
    (hcd : (x == ("__classdict__" : Str)) = false := by decide) : DE X W (.Subscript (.Name x px) b pos) (mIxE i fb) := by
  refine PE.imp (pe_ix ix_seq (pe_var (i := i) hN hv hd hcd) hb hs) fun σ H Q ⟨HF, L, ρ, S, R, p⟩ => ?_
  unfold mIxE at p
  split at p
  · rename_i n hn
    obtain ⟨v, hv1, pa, hp1, hp2⟩ := R.env i _ hn
    subst hp2
    refine ⟨_, hv1, HF, L, ρ, S, R, Post.bind p fun y S1 w H1 HF1 L1 e1 st1 R1 r1 p1 => ?_⟩
    split at p1
    · rename_i k ds hS
      cases r1
      obtain ⟨d, ed, p2⟩ := p1.lift
      obtain ⟨q1, vs, q2, q3⟩ := R1.cell n pa _ (st1.lget hp1) hS
      obtain ⟨u, e2, e3⟩ := q3.atI ed
      exact .inl ⟨_, _, _, _, rfl, rfl, SqL.of q2, e2, p2.done R1 .no e3⟩
    · exact p1.elim
  · rename_i ds hn
    obtain ⟨v, hv1, r0⟩ := R.env i _ hn
    have r0 : Rep (gd X W) HF v (.lst ds) := r0
    refine ⟨_, hv1, HF, L, ρ, S, R, Post.bind p fun y S1 w H1 HF1 L1 e1 st1 R1 r1 p1 => ?_⟩
    split at p1
    · cases r1
      obtain ⟨d, ed, p2⟩ := p1.lift
      cases r0 with
      | lst h1 h2 =>
        obtain ⟨u, e2, e3⟩ := h2.atI ed
        exact .inl ⟨_, _, _, _, rfl, rfl, SqL.of (R1.sub _ _ (st1.fro _ _ h1)), e2, p2.done R1 .no (Rep.mono st1.fro e3)⟩
    · exact p1.elim
  · exact p.elim
end
end DL

/-! the layer of data: bits -/
namespace DL
open PySem PySem.Spec PyProof.Rows L2
section
variable {X : Cx} {W : WD}
def gShl : D → D → Option D
  | .int i, .int j => if 0 ≤ j ∧ j ≤ 1000000 ∧ i.natAbs < 18446744073709551616 then some (.int (i * 2 ^ j.toNat)) else none
  | _, _ => none
theorem bShl : BOp X W .LShift gShl := by
  refine ⟨_, op_shl, fun x y v w H HF d Q sub rx ry e q => ?_⟩
  unfold gShl at e
  split at e
  · split at e
    · rename_i i j hz
      cases rx; cases ry; cases e
      exact ⟨_, _, rfl, rfl, ⟨hz.1, hz.2.1, by omega⟩, q _ _ _ .no (.int _)⟩
    · cases e
  · cases e
def gShr : D → D → Option D
  | .int i, .int j => if 0 ≤ j then some (.int (i / 2 ^ j.toNat)) else none
  | _, _ => none
theorem bShr : BOp X W .RShift gShr := by
  refine ⟨_, op_shr, fun x y v w H HF d Q sub rx ry e q => ?_⟩
  unfold gShr at e
  split at e
  · split at e
    · rename_i i j hz
      cases rx; cases ry; cases e
      exact ⟨_, _, rfl, rfl, hz, q _ _ _ .no (.int _)⟩
    · cases e
  · cases e
def gBits (f : Int → Int → Int) : D → D → Option D
  | .int i, .int j => some (.int (f i j))
  | _, _ => none
theorem bBits {op : Operator} {f : Int → Int → Int} (h : OpR X (binaryOp op) (rI0 fun i j => .int (f i j))) : BOp X W op (gBits f) := by
  refine ⟨_, h, fun x y v w H HF d Q sub rx ry e q => ?_⟩
  unfold gBits at e
  split at e
  · cases rx; cases ry; cases e
    exact ⟨_, _, rfl, rfl, q _ _ _ .no (.int _)⟩
  · cases e
abbrev gBand := gBits Builtin.bitAnd
abbrev gBor := gBits Builtin.bitOr
abbrev gBxor := gBits Builtin.bitXor
theorem bBand : BOp X W .BitAnd gBand := bBits op_and
theorem bBor : BOp X W .BitOr gBor := bBits op_or
theorem bBxor : BOp X W .BitXor gBxor := bBits op_xor
theorem ip_bits {op : Operator} {f : Int → Int → Int} (h : OpR X (inplaceOp op) (rI0 fun i j => .int (f i j))) : PIp X op (ipI f) := fun pins s σ H x y v u Q I r1 r2 q => by
  obtain ⟨i, j, rfl, rfl, q⟩ := q
  exact h pins s σ H _ _ _ _ Q I r1 r2 ⟨i, j, rfl, rfl, q⟩
theorem ip_band : PIp X .BitAnd (ipI Builtin.bitAnd) := ip_bits iop_and
theorem ip_bor : PIp X .BitOr (ipI Builtin.bitOr) := ip_bits iop_or
theorem ip_bxor : PIp X .BitXor (ipI Builtin.bitXor) := ip_bits iop_xor
end
end DL

/-! the layer of data: min(xs), max(xs) of values that can be compared place by place -/
namespace DL
open PySem PySem.W PySem.Spec PyProof.Rows L2
/-- x < y -/
def dlt (x y : D) : Bool := dataLt x.py y.py
/-- all of them can be compared -/
def cmpAll (ds : List D) : Bool := (ds.all fun x => ds.all fun y => alike x.py y.py) && ds.all (fun x => match x with | .non => false | _ => true) && (D.lst ds).okd
theorem cmpAll_of {ds : List D} (h : cmpAll ds = true) : AlikeAll (D.pys ds) ∧ PyData.canLayAll0 (D.pys ds) = true ∧ PyData.depthAll (D.pys ds) ≤ 63 := by
  unfold cmpAll at h
  rw [Bool.and_eq_true, Bool.and_eq_true, List.all_eq_true, List.all_eq_true] at h
  obtain ⟨⟨h1, h2⟩, h3⟩ := h
  have h3 : (PyData.canLayAll0 (D.pys ds) && decide (PyData.depthAll (D.pys ds) + 1 ≤ 64)) = true := h3
  rw [Bool.and_eq_true, decide_eq_true_eq] at h3
  refine ⟨⟨fun x hx y hy => ?_, fun x hx => ?_⟩, h3.1, by omega⟩
  · rw [D.pys_map] at hx hy
    obtain ⟨a, ha, rfl⟩ := List.mem_map.mp hx
    obtain ⟨b, hb, rfl⟩ := List.mem_map.mp hy
    exact List.all_eq_true.mp (h1 a ha) b hb
  · rw [D.pys_map] at hx
    obtain ⟨a, ha, rfl⟩ := List.mem_map.mp hx
    have := h2 a ha
    cases a with
    | non => cases this
    | _ => exact fun z => nomatch z
section
variable {X : Cx} {W : WD}
/-- the place of the best one -/
def bestAt (f : D → D → Bool) (d : D) (ds : List D) : Nat := argBest (fun i j => f ((d :: ds).getD i .non) ((d :: ds).getD j .non)) ds.length
def foldB (f : D → D → Bool) (d : D) (ds : List D) : D := ds.foldl (fun a y => if f y a = true then y else a) d
theorem bestAt_is (f : D → D → Bool) (d : D) (ds : List D) : (d :: ds)[bestAt f d ds]? = some (foldB f d ds) := by
  obtain ⟨h1, h2⟩ := argBest_fold f .non d ds ds.length (Nat.le_refl _)
  have hl : bestAt f d ds < (d :: ds).length := by rw [List.length_cons]; exact Nat.lt_succ_of_le h1
  rw [List.take_length] at h2
  rw [List.getElem?_eq_getElem hl]
  congr 1
  have h2 : (d :: ds).getD (bestAt f d ds) .non = foldB f d ds := h2
  rw [← h2, List.getD_eq_getElem?_getD, List.getElem?_eq_getElem hl]
  rfl
def rBest (K : PySem.W.Frag) (f : PyData → PyData → Bool) : List V → Hp → VK → Prop := fun vs H Q => ∃ (a : Addr) (xs : List V) (es : List PyData), vs = [V.ref a] ∧ (SqL K H a xs ∨ SqT K H a xs) ∧ DpAll K H xs es ∧ AlikeAll es ∧ PyData.depthAll es ≤ 63 ∧ 0 < es.length ∧
  ∀ v, xs[argBest (fun i j => f (es.getD i .none) (es.getD j .none)) (es.length - 1)]? = some v → Q v H
theorem pick_val {xs : List V} {its : List Value} (r : Vals xs its) {j : Nat} {u : Value} (h : its.toArray[j]? = some u) : ∃ v, xs[j]? = some v ∧ RelV v u := by
  have h : its[j]? = some u := by simpa using h
  have hj : j < xs.length := by rw [r.length]; exact (List.getElem?_eq_some_iff.mp h).1
  obtain ⟨u', e1, e2⟩ := Vals.get r (List.getElem?_eq_getElem hj)
  rw [h] at e1
  cases e1
  exact ⟨_, List.getElem?_eq_getElem hj, e2⟩
theorem cr_minA (hc : X.calm = true) (hu : X.A.units + 65 < cLine) : CallR X (.builtin "min") (rBest X.K fun x y => dataLt x y) := by
  intro pins s σ H vs us Q I r h
  obtain ⟨a, xs, es, rfl, hs, hd, ha, hdep, hn, q⟩ := h
  obtain rfl := Vals.ref1 r
  have fin : ∀ (its : List Value), Vals xs its → ∀ (as : List Addr), ReadsAll s.heap its.toArray.toList es as → ∀ (v : Value) (s' : Shared) (s2 : Shared) (o : Obj), s2 = { s with heap := s.heap.push o } → its.toArray[argBest (fun i j => dataLt (es.getD i .none) (es.getD j .none)) (its.toArray.size - 1)]? = some v → Moved [s.heap.objs.size] (fun a b => b = a) s2 s' → EP X pins σ Q v s' := fun its rv as hr v s' s2 o e hP m => by
    obtain ⟨h', tk, rfl, hk⟩ := moved_old e rfl m
    rw [readsAll_len hr] at hP
    obtain ⟨z, h1, h2⟩ := pick_val rv hP
    exact ⟨z, H, I.kept hk, h2, q z h1⟩
  rcases hs with hs | hs
  · obtain ⟨its, rv, hl, _⟩ := I.list hs
    obtain ⟨as, hr⟩ := Dp.readsAll I es xs its hd rv
    have hr : ReadsAll s.heap its.toArray.toList es as := by simpa using hr
    refine call_min_walkH (iter_listW (A := X.A.in1) (I.ok.hd hc) hl.isList fun s₂ e Wk st hfp hw hk => ?_)
    exact ⟨_, _, _, _, _, _, _, s.heap, _, rfl, Wk, st, hfp, by rw [readsAll_len hr]; exact hn, hw, hk, cmpIn_lt hr ha (by show X.A.units + 1 + _ < cLine; omega), fun v s' hP m => fin its rv as hr v s' s₂ _ e hP m⟩
  · obtain ⟨its, rv, hl, _⟩ := I.tuple hs
    obtain ⟨as, hr⟩ := Dp.readsAll I es xs its hd rv
    have hr : ReadsAll s.heap its.toArray.toList es as := by simpa using hr
    refine call_min_walkH (iter_tupleW (A := X.A.in1) (I.ok.hd hc) (show s.heap.IsTuple a its.toArray from hl) fun s₂ e Wk st hfp hw hk => ?_)
    exact ⟨_, _, _, _, _, _, _, s.heap, _, rfl, Wk, st, hfp, by rw [readsAll_len hr]; exact hn, hw, hk, cmpIn_lt hr ha (by show X.A.units + 1 + _ < cLine; omega), fun v s' hP m => fin its rv as hr v s' s₂ _ e hP m⟩
theorem cr_maxA (hc : X.calm = true) (hu : X.A.units + 65 < cLine) : CallR X (.builtin "max") (rBest X.K fun x y => dataLt y x) := by
  intro pins s σ H vs us Q I r h
  obtain ⟨a, xs, es, rfl, hs, hd, ha, hdep, hn, q⟩ := h
  obtain rfl := Vals.ref1 r
  have fin : ∀ (its : List Value), Vals xs its → ∀ (as : List Addr), ReadsAll s.heap its.toArray.toList es as → ∀ (v : Value) (s' : Shared) (s2 : Shared) (o : Obj), s2 = { s with heap := s.heap.push o } → its.toArray[argBest (fun i j => dataLt (es.getD j .none) (es.getD i .none)) (its.toArray.size - 1)]? = some v → Moved [s.heap.objs.size] (fun a b => b = a) s2 s' → EP X pins σ Q v s' := fun its rv as hr v s' s2 o e hP m => by
    obtain ⟨h', tk, rfl, hk⟩ := moved_old e rfl m
    rw [readsAll_len hr] at hP
    obtain ⟨z, h1, h2⟩ := pick_val rv hP
    exact ⟨z, H, I.kept hk, h2, q z h1⟩
  rcases hs with hs | hs
  · obtain ⟨its, rv, hl, _⟩ := I.list hs
    obtain ⟨as, hr⟩ := Dp.readsAll I es xs its hd rv
    have hr : ReadsAll s.heap its.toArray.toList es as := by simpa using hr
    refine call_max_walkH (iter_listW (A := X.A.in1) (I.ok.hd hc) hl.isList fun s₂ e Wk st hfp hw hk => ?_)
    exact ⟨_, _, _, _, _, _, _, s.heap, _, rfl, Wk, st, hfp, by rw [readsAll_len hr]; exact hn, hw, hk, cmpIn_gt hr ha (by show X.A.units + 1 + _ < cLine; omega), fun v s' hP m => fin its rv as hr v s' s₂ _ e hP m⟩
  · obtain ⟨its, rv, hl, _⟩ := I.tuple hs
    obtain ⟨as, hr⟩ := Dp.readsAll I es xs its hd rv
    have hr : ReadsAll s.heap its.toArray.toList es as := by simpa using hr
    refine call_max_walkH (iter_tupleW (A := X.A.in1) (I.ok.hd hc) (show s.heap.IsTuple a its.toArray from hl) fun s₂ e Wk st hfp hw hk => ?_)
    exact ⟨_, _, _, _, _, _, _, s.heap, _, rfl, Wk, st, hfp, by rw [readsAll_len hr]; exact hn, hw, hk, cmpIn_gt hr ha (by show X.A.units + 1 + _ < cLine; omega), fun v s' hP m => fin its rv as hr v s' s₂ _ e hP m⟩
def gBest (f : D → D → Bool) : List D → Option D
  | [.lst (d :: ds)] => if cmpAll (d :: ds) = true then some (foldB f d ds) else none
  | [.tup (d :: ds)] => if cmpAll (d :: ds) = true then some (foldB f d ds) else none
  | _ => none
abbrev gMinA := gBest dlt
abbrev gMaxA := gBest fun x y => dlt y x
theorem pys_getD : ∀ (ds : List D) (i : Nat), (D.pys ds).getD i .none = (ds.getD i .non).py
  | [], _ => rfl
  | d :: ds, 0 => rfl
  | d :: ds, i + 1 => pys_getD ds i
theorem pys_len (ds : List D) : (D.pys ds).length = ds.length := by rw [D.pys_map, List.length_map]
theorem biBest {b : String} {fp : PyData → PyData → Bool} {f : D → D → Bool} (hf : ∀ x y, f x y = fp x.py y.py) (hr : CallR X (.builtin b) (rBest X.K fp)) : BiO X W (.builtin b) (gBest f) := by
  refine ⟨_, hr, fun xs vs H HF z Q sub r e q => ?_⟩
  have go : ∀ (a : Addr) (us : List V) (d : D) (ds : List D), (SqL X.K HF a us ∨ SqE X.K HF a us) → Reps (gd X W) HF us (d :: ds) → cmpAll (d :: ds) = true → z = foldB f d ds → rBest X.K fp [V.ref a] H Q := fun a us d ds hs hr hb hz => by
    subst hz
    obtain ⟨c1, c2, c3⟩ := cmpAll_of hb
    refine ⟨a, us, D.pys (d :: ds), rfl, ?_, Reps.dp (d :: ds) (hr.mono sub) c2, c1, c3, by rw [pys_len]; simp, fun v hv => ?_⟩
    · rcases hs with h | h
      · rcases h with h | h
        · exact .inl (.inl (Rd.mono sub h))
        · exact .inl (.inr h)
      · exact .inr (SqT.mono sub h)
    · have ea : argBest (fun i j => fp ((D.pys (d :: ds)).getD i .none) ((D.pys (d :: ds)).getD j .none)) ((D.pys (d :: ds)).length - 1) = bestAt f d ds := by
        unfold bestAt
        rw [pys_len]
        simp only [pys_getD, hf]
        rfl
      rw [ea] at hv
      obtain ⟨w, e1, e2⟩ := hr.get (bestAt_is f d ds)
      rw [hv] at e1
      cases e1
      exact q _ _ _ .no e2
  unfold gBest at e
  split at e
  · split at e
    · cases e
      obtain ⟨v, rfl, h⟩ := r.one
      cases h with
      | lst h1 h2 => exact go _ _ _ _ (.inl (SqL.of h1)) h2 (by assumption) rfl
    · cases e
  · split at e
    · cases e
      obtain ⟨v, rfl, h⟩ := r.one
      cases h with
      | tup h1 h2 => exact go _ _ _ _ (.inr h1) h2 (by assumption) rfl
    · cases e
  · cases e
theorem biMinA (hc : X.calm = true) (hu : X.A.units + 65 < cLine) : BiO X W (.builtin "min") gMinA := biBest (fun _ _ => rfl) (cr_minA hc hu)
theorem biMaxA (hc : X.calm = true) (hu : X.A.units + 65 < cLine) : BiO X W (.builtin "max") gMaxA := biBest (fun _ _ => rfl) (cr_maxA hc hu)
end
/-! the order -/
theorem dlt_int (a b : Int) : dlt (.int a) (.int b) = decide (a < b) := by
  show PyProof.Rows.lexLt itemOrd [.inl a] [.inl b] = _
  rw [lex_cons]
  show (decide (a < b) || (!decide (b < a) && false)) = _
  simp
theorem dlt_nil (ys : List D) : dlt (.tup []) (.tup ys) = !ys.isEmpty := by
  cases ys with
  | nil => show PyProof.Rows.lexLt itemOrd [.inl 0] [.inl 0] = _; rw [lex_cons]; rfl
  | cons y ys => show PyProof.Rows.lexLt itemOrd [.inl 0] (.inl 1 :: (keyToks y.py ++ keyToksAll (D.pys ys))) = _; rw [lex_cons]; rfl
theorem dlt_cons {x y : D} (xs ys : List D) (h : alike x.py y.py = true) : dlt (.tup (x :: xs)) (.tup (y :: ys)) = if deq x y = true then dlt (.tup xs) (.tup ys) else dlt x y := by
  show PyProof.Rows.lexLt itemOrd (keyToksAll (x.py :: D.pys xs)) (keyToksAll (y.py :: D.pys ys)) = _
  by_cases e : deq x y = true
  · rw [if_pos e]; exact dataLt_all_yes h e
  · rw [if_neg e]; exact dataLt_all_no h (by cases q : deq x y with | false => exact q | true => exact absurd q e)
theorem dlt_irrefl (x : D) : dlt x x = false := lex_irrefl (O := itemOrd) _
theorem dlt_negTrans {x y z : D} (h1 : dlt x y = false) (h2 : dlt y z = false) : dlt x z = false := by
  cases q : dlt x z with
  | false => rfl
  | true =>
    rcases (listOrd itemOrd).negTrans (keyToks x.py) (keyToks y.py) (keyToks z.py) q with h | h
    · exact absurd (h.symm.trans h1) (by simp)
    · exact absurd (h.symm.trans h2) (by simp)
/-- the least one is one of them, and none is less -/
theorem foldB_least : ∀ (ds : List D) (d : D), foldB dlt d ds ∈ d :: ds ∧ ∀ x ∈ d :: ds, dlt x (foldB dlt d ds) = false
  | [], d => ⟨List.mem_cons_self, fun x hx => by
    obtain rfl : x = d := by simpa using hx
    exact dlt_irrefl x⟩
  | y :: ds, d => by
    have e : foldB dlt d (y :: ds) = foldB dlt (if dlt y d = true then y else d) ds := rfl
    obtain ⟨h1, h2⟩ := foldB_least ds (if dlt y d = true then y else d)
    rw [e]
    have h0 := h2 _ List.mem_cons_self
    by_cases c : dlt y d = true
    · rw [if_pos c] at h0 h1 h2 ⊢
      refine ⟨List.mem_cons_of_mem _ h1, fun x hx => ?_⟩
      rcases List.mem_cons.mp hx with rfl | hx
      · refine dlt_negTrans (y := y) ?_ h0
        cases k : dlt x y with
        | false => rfl
        | true => exact absurd ((listOrd itemOrd).trans _ _ _ k c) (by rw [show (listOrd itemOrd).blt (keyToks x.py) (keyToks x.py) = false from dlt_irrefl x]; simp)
      · exact h2 x hx
    · rw [if_neg c] at h0 h1 h2 ⊢
      refine ⟨?_, fun x hx => ?_⟩
      · rcases List.mem_cons.mp h1 with h | h
        · rw [h]; exact List.mem_cons_self
        · exact List.mem_cons_of_mem _ (List.mem_cons_of_mem _ h)
      · rcases List.mem_cons.mp hx with rfl | hx
        · exact h0
        · rcases List.mem_cons.mp hx with rfl | hx
          · exact dlt_negTrans (by simpa using c) h0
          · exact h2 x (List.mem_cons_of_mem _ hx)
end DL

/-! the layer of data: a cell read as a value while an expression that changes nothing is worked out -/
namespace DL
open PySem PySem.Spec PyProof.Rows L2
mutual
/-- no list in it -/
def D.tlike : D → Bool
  | .tup ds => D.tlikes ds
  | .non => true
  | .bl _ => true
  | .int _ => true
  | .str _ => true
  | _ => false
def D.tlikes : List D → Bool
  | [] => true
  | d :: ds => d.tlike && D.tlikes ds
end
def Cell.tlike : Cell → Bool
  | .lst ds => D.tlikes ds
  | .dk kvs => D.tlikes (kvs.map (·.2))
  | .dt kvs => D.tlikes (kvs.map (·.2))
mutual
theorem Rep.less {G : Gd} {H H' : Hp} (k : ∀ b o, (∀ xs, o ≠ HO.lst xs) → H b = some o → H' b = some o) : ∀ {d : D} {v : V}, d.tlike = true → Rep G H v d → Rep G H' v d
  | .non, _, _, h => by cases h; exact .non
  | .bl _, _, _, h => by cases h; exact .bl _
  | .int _, _, _, h => by cases h; exact .int _
  | .str _, _, _, h => by cases h; exact .str _
  | .tup ds, _, c, h => by
    cases h with
    | tup hs hr =>
      refine .tup ?_ (Reps.less k c hr)
      rcases hs with (hs | ⟨o, hs⟩) | hs
      · exact .inl (.inl (k _ _ (fun _ z => by cases z) hs))
      · exact .inl (.inr ⟨o, k _ _ (fun _ z => by cases z) hs⟩)
      · exact .inr hs
  | .lst _, _, c, _ => by cases c
  | .rol _, _, c, _ => by cases c
  | .fn _, _, c, _ => by cases c
  | .rng _ _, _, c, _ => by cases c
  | .ptp _, _, c, _ => by cases c
  | .dck _ _, _, c, _ => by cases c
  | .dct _ _, _, c, _ => by cases c
theorem Reps.less {G : Gd} {H H' : Hp} (k : ∀ b o, (∀ xs, o ≠ HO.lst xs) → H b = some o → H' b = some o) : ∀ {ds : List D} {vs : List V}, D.tlikes ds = true → Reps G H vs ds → Reps G H' vs ds
  | [], _, _, h => by cases h; exact .nil
  | d :: ds, _, c, h => by
    have c : (d.tlike && D.tlikes ds) = true := c
    rw [Bool.and_eq_true] at c
    cases h with
    | cons h1 h2 => exact .cons (Rep.less k c.1 h1) (Reps.less k c.2 h2)
end
theorem CellAt.less {G : Gd} {H HF HF' : Hp} (k : ∀ b o, (∀ xs, o ≠ HO.lst xs) → HF b = some o → HF' b = some o) {a : Addr} {c : Cell} (t : c.tlike = true) (h : CellAt G H HF a c) : CellAt G H HF' a c := by
  cases c with
  | lst ds =>
    obtain ⟨vs, h1, h2⟩ := h
    exact ⟨vs, h1, h2.less k t⟩
  | dk kvs =>
    obtain ⟨us, h1, h2, h3⟩ := h
    exact ⟨us, h1, h2, h3.less k t⟩
  | dt kvs =>
    obtain ⟨us, h1, h2, h3⟩ := h
    exact ⟨us, h1, h2, h3.less k t⟩
/-- the other cells hold no lists of lists -/
def Plain (S : Store) (n : Nat) : Prop := ∀ k c, k ≠ n → S[k]? = some (some c) → c.tlike = true
noncomputable def mLend (i : Nat) (f : DEn) : DEn := fun ρ S => match ρ[i]? with
  | some (some (.cel n)) => match S[n]? with
    | some (some (.lst ds)) => match f (ρ.set i (some (.v (.lst ds)))) (S.set n none) with
      | .ok d S1 => @ite _ (S1 = S.set n none ∧ d.tlike = true ∧ Plain S n) (Classical.propDecidable _) (.ok d S) .bad
      | _ => .bad
    | _ => .bad
  | _ => .bad
theorem mLend_ok {i n : Nat} {f : DEn} {ρ : DL.Env} {S : Store} {ds : List D} {d : D} (h1 : ρ[i]? = some (some (.cel n))) (h2 : S[n]? = some (some (.lst ds))) (h3 : f (ρ.set i (some (.v (.lst ds)))) (S.set n none) = .ok d (S.set n none)) (h4 : d.tlike = true) (h5 : Plain S n) : mLend i f ρ S = .ok d S := by
  unfold mLend
  rw [h1]
  dsimp only
  rw [h2]
  dsimp only
  rw [h3]
  dsimp only
  rw [if_pos ⟨rfl, h4, h5⟩]
section
variable {X : Cx} {W : WD} {e : Expr} {f : DEn}
theorem xlend (i : Nat) (h : DE X W e f) : DE X W e (mLend i f) :=
  PE.imp h fun σ H Q ⟨HF, L, ρ, S, R, p⟩ => by
    unfold mLend at p
    split at p
    · rename_i n hn
      split at p
      · rename_i ds hS
        obtain ⟨u, hu, q, hq, rfl⟩ := R.env i _ hn
        obtain ⟨hF, vs, hv, hr⟩ := R.cell n q _ hq hS
        have hn' : n < L.length := (List.getElem?_eq_some_iff.mp hq).1
        have mono0 : Same HF (upd HF q (.lst vs)) := same_upd hF
        let HB : Hp := upd HF q (.lst vs)
        have bq : HB q = some (.lst vs) := upd_same
        have bne : ∀ {b}, b ≠ q → HB b = HF b := fun h => upd_ne h
        let S0 : Store := S.set n none
        let ρ0 : DL.Env := ρ.set i (some (.v (.lst ds)))
        have R0 : Rel (gd X W) H HB L σ ρ0 S0 := by
          refine ⟨fun b u hb => ?_, R.nd, by simpa [S0] using R.sl, R.liv, R.tab.up (fun _ _ e => e) mono0, nft_upd R.nft (fun _ h => by cases h), fun k b c' k1 k2 => ?_, by simpa [ρ0] using R.el, fun j x hx => ?_⟩
          · by_cases hb' : b = q
            · rw [hb', bq] at hb; cases hb; rw [hb']; exact hv
            · rw [bne hb'] at hb; exact R.sub b u hb
          · by_cases hk : k = n
            · subst hk
              rw [List.getElem?_set_self (by rw [R.sl]; exact hn')] at k2
              cases k2
            · rw [List.getElem?_set_ne (Ne.symm hk)] at k2
              obtain ⟨q1, q2⟩ := R.cell k b c' k1 k2
              have ne : b ≠ q := fun z => hk (nodup_get R.nd (by rw [← z]; exact k1) hq)
              exact ⟨by rw [bne ne]; exact q1, q2.up rfl mono0⟩
          · by_cases hj : j = i
            · subst hj
              rw [List.getElem?_set_self (List.getElem?_eq_some_iff.mp hn).1] at hx
              cases hx
              exact ⟨_, hu, .lst upd_same (hr.mono mono0)⟩
            · rw [List.getElem?_set_ne (Ne.symm hj)] at hx
              obtain ⟨v, q1, q2⟩ := R.env j x hx
              refine ⟨v, q1, ?_⟩
              cases x with
              | v d => exact Rep.mono mono0 q2
              | cel n => exact q2
              | exn x =>
                obtain ⟨b, cls, dd, k1, k2, k3⟩ := q2
                exact ⟨b, cls, dd, k1, k2, k3.mono mono0⟩
              | lam ws ds => exact RepLam.mono mono0 q2
              | cls ns => exact RepCls.mono mono0 q2
        refine ⟨HB, L, ρ0, S0, R0, ?_⟩
        split at p
        · rename_i d S1 ef
          by_cases hc : S1 = S.set n none ∧ d.tlike = true ∧ Plain S n
          · rw [if_pos hc] at p
            obtain ⟨rfl, ht, hp⟩ := hc
            rw [show f ρ0 S0 = .ok d (S.set n none) from ef]
            intro v H' HF' L' st R' rv
            have el : L' = L := by
              obtain ⟨M, eM, _⟩ := st.ext
              have a1 := R'.sl
              have a2 := R.sl
              rw [List.length_set, a2, eM, List.length_append] at a1
              have : M = [] := List.eq_nil_of_length_eq_zero (by omega)
              rw [eM, this, List.append_nil]
            subst el
            have hq' : HF' q = some (.lst vs) := st.fro _ _ bq
            let HZ : Hp := fun b => if b = q then none else HF' b
            have zq : HZ q = none := if_pos rfl
            have zne : ∀ {b}, b ≠ q → HZ b = HF' b := fun h => if_neg h
            have low : ∀ b o, (∀ xs, o ≠ HO.lst xs) → HF' b = some o → HZ b = some o := fun b o ho hb => by
              have : b ≠ q := fun z => by subst z; rw [hq'] at hb; cases hb; exact ho _ rfl
              rw [zne this]; exact hb
            have fro : Same HF HZ := fun b o hb => by
              have : b ≠ q := fun z => by subst z; rw [hF] at hb; cases hb
              rw [zne this]
              exact st.fro _ _ (by rw [bne this]; exact hb)
            have sub : Same HZ H' := fun b o hb => by
              by_cases h : b = q
              · subst h; rw [zq] at hb; cases hb
              · rw [zne h] at hb; exact R'.sub b o hb
            have stZ : Step H HF L' H' HZ L' := by
              refine ⟨st.keep, st.nn, fro, fun a o ha hf hm ho => ?_, ⟨[], by simp, by simp⟩⟩
              have : a ≠ q := fun z => ha (by rw [z]; exact List.mem_of_getElem? hq)
              rw [zne this]
              exact st.new a o ha (by rw [bne this]; exact hf) hm ho
            refine p v H' HZ L' stZ ⟨sub, R'.nd, R.sl, R'.liv, fun t ht => ?_, fun b ps hb => ?_, fun k a c k1 k2 => ?_, R.el, fun j x hx => ?_⟩ (rv.less low ht)
            · obtain ⟨ps, q1, q2, q3⟩ := R'.tab t ht
              refine ⟨ps, q1, q2, fun pos cv hcv => ?_⟩
              obtain ⟨c, e1, e2⟩ := q3 pos cv hcv
              exact ⟨c, e1, low _ _ (fun xs z => by cases z) e2⟩
            · by_cases h : b = q
              · subst h; rw [zq] at hb; cases hb
              · rw [zne h] at hb; exact R'.nft b ps hb
            · by_cases hk : k = n
              · subst hk
                rw [hS] at k2
                cases k2
                rw [hq] at k1
                cases k1
                exact ⟨zq, vs, R'.sub _ _ hq', hr.mono fro⟩
              · obtain ⟨q1, q2⟩ := R'.cell k a c k1 (by rw [List.getElem?_set_ne (Ne.symm hk)]; exact k2)
                have ne : a ≠ q := fun z => by rw [z, hq'] at q1; cases q1
                exact ⟨by rw [zne ne]; exact q1, q2.less low (hp k c hk k2)⟩
            · obtain ⟨v, q1, q2⟩ := R.env j x hx
              exact ⟨v, q1, RepE.mono stZ q2⟩
          · rw [if_neg hc] at p
            exact p.elim
        · exact p.elim
      · exact p.elim
    · exact p.elim
end
end DL

/-! the layer of data: x in t, t a tuple or a list of any values -/
namespace DL
open PySem PySem.Spec PyProof.Rows L2
section
variable {X : Cx} {W : WD}
/-- x in y, of data -/
def rInT (K : PySem.W.Frag) (neg : Bool) : R2 := fun x y H Q => ∃ d ds, Dp K H x d ∧ (Dp K H y (.tuple ds) ∨ Dp K H y (.list ds)) ∧ SeqAt.shaped d = true ∧ PyData.canLayAll0 ds = true ∧ Q (.bl (neg != ds.any fun z => PyData.eqv z d)) H
theorem op_inT (hu : X.A.units + 65 < cLine) : OpR X (compareOp .In) (rInT X.K false) := by
  intro pins s σ H x y v u Q I rx ry h
  obtain ⟨d, ds, hd, he, sd, se, q⟩ := h
  obtain ⟨as, r1⟩ := Dp.reads I d x v hd rx
  rw [Bool.false_bne] at q
  rcases he with he | he
  · obtain ⟨bs, r2⟩ := Dp.reads I (.tuple ds) y u he ry
    exact SeqAt.in_tuple_reads r2 r1 se (SeqAt.canLay_of_shaped sd) (room_in_shaped sd hu) ⟨.bl _, H, I, rfl, q⟩
  · obtain ⟨bs, r2⟩ := Dp.reads I (.list ds) y u he ry
    exact SeqAt.in_list_reads r2 r1 se (SeqAt.canLay_of_shaped sd) (room_in_shaped sd hu) ⟨.bl _, H, I, rfl, q⟩
theorem op_notInT (hu : X.A.units + 65 < cLine) : OpR X (compareOp .NotIn) (rInT X.K true) := by
  intro pins s σ H x y v u Q I rx ry h
  obtain ⟨d, ds, hd, he, sd, se, q⟩ := h
  obtain ⟨as, r1⟩ := Dp.reads I d x v hd rx
  rw [Bool.true_bne] at q
  rcases he with he | he
  · obtain ⟨bs, r2⟩ := Dp.reads I (.tuple ds) y u he ry
    exact SeqAt.notIn_tuple_reads r2 r1 se (SeqAt.canLay_of_shaped sd) (room_in_shaped sd hu) ⟨.bl _, H, I, rfl, q⟩
  · obtain ⟨bs, r2⟩ := Dp.reads I (.list ds) y u he ry
    exact SeqAt.notIn_list_reads r2 r1 se (SeqAt.canLay_of_shaped sd) (room_in_shaped sd hu) ⟨.bl _, H, I, rfl, q⟩
def D.seq : D → Option (List D)
  | .tup ds => some ds
  | .lst ds => some ds
  | _ => none
def gInD : D → D → Option Bool := fun x y => match y.seq with
  | some ds => if x.okd = true ∧ y.okd = true then some (ds.any fun z => deq z x) else none
  | none => none
def gNotInD : D → D → Option Bool := fun x y => (gInD x y).map (!·)
theorem rep_seq {G : Gd} {H HF : Hp} {y : D} {v : V} {ds : List D} (sub : Same HF H) (r : Rep G HF v y) (e : y.seq = some ds) (c : y.okd = true) : (Dp G.K H v (.tuple (D.pys ds)) ∨ Dp G.K H v (.list (D.pys ds))) ∧ PyData.canLayAll0 (D.pys ds) = true := by
  have d := r.dps sub c
  have c : (y.py.canLay0 && decide (y.py.depth ≤ 64)) = true := c
  rw [Bool.and_eq_true] at c
  cases y with
  | tup es => cases e; exact ⟨.inl d, c.1⟩
  | lst es => cases e; exact ⟨.inr d, c.1⟩
  | _ => cases e
theorem cInD (hu : X.A.units + 65 < cLine) : CmpO X W .In gInD := by
  refine ⟨_, op_inT hu, fun x y v w H HF b Q sub rx ry e q => ?_⟩
  unfold gInD at e
  split at e
  · rename_i ds es
    split at e
    · rename_i hc
      cases e
      obtain ⟨h1, h2⟩ := rep_seq sub ry es hc.2
      exact ⟨x.py, D.pys ds, rx.dps sub hc.1, h1, hc.1, h2, by rw [pys_any, Bool.false_bne]; exact q⟩
    · cases e
  · cases e
theorem cNotInD (hu : X.A.units + 65 < cLine) : CmpO X W .NotIn gNotInD := by
  refine ⟨_, op_notInT hu, fun x y v w H HF b Q sub rx ry e q => ?_⟩
  unfold gNotInD gInD at e
  split at e
  · rename_i ds es
    split at e
    · rename_i hc
      cases e
      obtain ⟨h1, h2⟩ := rep_seq sub ry es hc.2
      exact ⟨x.py, D.pys ds, rx.dps sub hc.1, h1, hc.1, h2, by rw [pys_any, Bool.true_bne]; exact q⟩
    · cases e
  · cases e
end
end DL

/-! the layer of data: dicts as cells: k in d, sorted(d), list(d), len(d), d.get(k, x) -/
namespace DL
open PySem PySem.Spec PyProof.Rows L2
section
variable {X : Cx} {W : WD} {pos : Pos} {a b c : Expr} {fa fb fc : DEn}
theorem E_val {G : Gd} {HF : Hp} {us : List (L2.Key × V)} {kvs : List KD} (E : Ents G HF us kvs) (k : L2.Key) : (valD kvs k).isSome = (valV us k).isSome := E.val.2
def mDkIn (neg : Bool) (i : Nat) (fa : DEn) : DTn := fun ρ S => (fa ρ S).bind fun y S1 => match ρ[i]? with
  | some (some (.cel n)) => match keyD y, S1[n]? with
    | some k, some (some (.dk kvs)) => .ok (Bool.xor neg (valD kvs k).isSome) S1
    | _, _ => .bad
  | _ => .bad
theorem tT.dkIn {neg : Bool} {i : Nat} {σ : L2.St} {H : Hp} {Q : Bool → Hp → Prop} {Qv : VK} (h : tT (gd X W) W (mDkIn neg i fa) σ H Q) (hq : ∀ b H', Q b H' → Qv (.bl b) H') :
    (fun σ H (Q : VK) => tD (gd X W) W fa σ H fun y H1 => tVar i σ H1 fun x H2 => ∃ a o, x = .ref a ∧ DGet H2 a y o ∧ Q (.bl (Bool.xor neg o.isSome)) H2) σ H Qv := by
  obtain ⟨HF, L, ρ, S, R, p⟩ := h
  refine ⟨HF, L, ρ, S, R, Post.bind p fun y S1 w H1 HF1 L1 e1 st1 R1 r1 p1 => ?_⟩
  split at p1
  · rename_i n hn
    split at p1
    · rename_i k kvs hk hS
      obtain ⟨v, hv1, pa, hp1, hp2⟩ := R1.env i _ hn
      subst hp2
      obtain ⟨q1, us, q2, q3, q4⟩ := R1.cell n pa _ hp1 hS
      have E : Ents (gd X W) HF1 us kvs := ⟨q3, q4⟩
      have ew := key_rep r1 hk
      subst ew
      refine ⟨_, hv1, pa, valV us k, rfl, DGet.k q2, ?_⟩
      rw [← E_val E k]
      exact hq _ H1 (p1.done R1 .no rfl)
    · exact p1.elim
  · exact p1.elim
theorem xdkIn (hu : X.A.units + 64 < cLine) (i : Nat) {x : Str} {px : Pos} (ha : DE X W a fa) (hm : behindInMarks .In (.Name x px) = false := by first | rfl | exact nomark _) (hN : X.N[i]? = some x := by rfl) (hv : Vis X.env.scope x := by first | exact Or.inl rfl | exact Or.inr (Or.inl rfl) | exact Or.inr (Or.inr rfl)) (hd : (x == ("__debug__" : Str)) = false := by decide)
    (hcd : (x == ("__classdict__" : Str)) = false := by decide) : DE X W (.Compare a [.In] [.Name x px] pos) (mB (mDkIn false i fa)) :=
  PE.imp (pe_cmp (pc_din (by omega) ha (pe_var (i := i) hN hv hd hcd)) hm) fun σ H Q h => by
    have := tT.dkIn (Qv := Q) (tD.mB h) fun _ _ q => q
    simp only [Bool.false_xor] at this
    exact this
theorem ydkIn (hu : X.A.units + 64 < cLine) (i : Nat) {x : Str} {px : Pos} (ha : DE X W a fa) (hm : behindInMarks .In (.Name x px) = false := by first | rfl | exact nomark _) (hN : X.N[i]? = some x := by rfl) (hv : Vis X.env.scope x := by first | exact Or.inl rfl | exact Or.inr (Or.inl rfl) | exact Or.inr (Or.inr rfl)) (hd : (x == ("__debug__" : Str)) = false := by decide)
    (hcd : (x == ("__classdict__" : Str)) = false := by decide) : DT X W (.Compare a [.In] [.Name x px] pos) (mDkIn false i fa) :=
  PT.imp (pt_cmp (pc_din (by omega) ha (pe_var (i := i) hN hv hd hcd)) hm) fun σ H Q h => by
    have := tT.dkIn (Qv := fun x H1 => ∃ c, x = .bl c ∧ Q c H1) h fun b _ q => ⟨b, rfl, q⟩
    simp only [Bool.false_xor] at this
    exact this
theorem xdkNotIn (hu : X.A.units + 64 < cLine) (i : Nat) {x : Str} {px : Pos} (ha : DE X W a fa) (hm : behindInMarks .NotIn (.Name x px) = false := by first | rfl | exact nomark _) (hN : X.N[i]? = some x := by rfl) (hv : Vis X.env.scope x := by first | exact Or.inl rfl | exact Or.inr (Or.inl rfl) | exact Or.inr (Or.inr rfl)) (hd : (x == ("__debug__" : Str)) = false := by decide)
    (hcd : (x == ("__classdict__" : Str)) = false := by decide) : DE X W (.Compare a [.NotIn] [.Name x px] pos) (mB (mDkIn true i fa)) :=
  PE.imp (pe_cmp (pc_dnotin (by omega) ha (pe_var (i := i) hN hv hd hcd)) hm) fun σ H Q h => by
    have := tT.dkIn (Qv := Q) (tD.mB h) fun _ _ q => q
    simp only [Bool.true_xor] at this
    exact this
theorem ydkNotIn (hu : X.A.units + 64 < cLine) (i : Nat) {x : Str} {px : Pos} (ha : DE X W a fa) (hm : behindInMarks .NotIn (.Name x px) = false := by first | rfl | exact nomark _) (hN : X.N[i]? = some x := by rfl) (hv : Vis X.env.scope x := by first | exact Or.inl rfl | exact Or.inr (Or.inl rfl) | exact Or.inr (Or.inr rfl)) (hd : (x == ("__debug__" : Str)) = false := by decide)
    (hcd : (x == ("__classdict__" : Str)) = false := by decide) : DT X W (.Compare a [.NotIn] [.Name x px] pos) (mDkIn true i fa) :=
  PT.imp (pt_cmp (pc_dnotin (by omega) ha (pe_var (i := i) hN hv hd hcd)) hm) fun σ H Q h => by
    have := tT.dkIn (Qv := fun x H1 => ∃ c, x = .bl c ∧ Q c H1) h fun b _ q => ⟨b, rfl, q⟩
    simp only [Bool.true_xor] at this
    exact this
def kD : L2.Key → D
  | .inl i => .int i
  | .inr x => .str x
theorem kD_rep {G : Gd} {HF : Hp} (k : L2.Key) : Rep G HF (kV k) (kD k) := by
  cases k with
  | inl i => exact .int i
  | inr x => exact .str x
theorem kDs_rep {G : Gd} {HF : Hp} : ∀ ks : List L2.Key, Reps G HF (ks.map kV) (ks.map kD)
  | [] => .nil
  | k :: ks => .cons (kD_rep k) (kDs_rep ks)
def intsK : List KD → Option (List Int)
  | [] => some []
  | (.inl k, _) :: r => (intsK r).map (k :: ·)
  | _ => none
theorem intsK_is : ∀ {kvs : List KD} {ks : List Int}, intsK kvs = some ks → kvs.map (·.1) = ks.map Sum.inl
  | [], ks, h => by cases h; rfl
  | (.inl k, d) :: r, ks, h => by
    unfold intsK at h
    cases e : intsK r with
    | none => rw [e] at h; cases h
    | some ls =>
      rw [e] at h
      cases h
      rw [List.map_cons, List.map_cons, intsK_is e]
  | (.inr k, d) :: r, ks, h => by unfold intsK at h; cases h
/-- sorted(d), keys that are ints -/
def mSrtDk (i : Nat) : DEn := fun ρ S => match ρ[i]? with
  | some (some (.cel n)) => match S[n]? with
    | some (some (.dk kvs)) => match intsK kvs with
      | some ks => if ks.length < 64 then .ok (.lst ((sortI ks).map D.int)) S else .bad
      | none => .bad
    | _ => .bad
  | _ => .bad
theorem xsrtDk (hc : X.calm = true) (i : Nat) {x : Str} {p px : Pos} (hm : X.mg "sorted" = none) (hv : bootBuiltins "sorted" = some (.builtin "sorted")) (hg : Gl X "sorted" := by rfl) (hN : X.N[i]? = some x := by rfl) (hvi : Vis X.env.scope x := by first | exact Or.inl rfl | exact Or.inr (Or.inl rfl) | exact Or.inr (Or.inr rfl)) (hd : (x == ("__debug__" : Str)) = false := by decide) (hcd : (x == ("__classdict__" : Str)) = false := by decide)
    (he : starEach [Expr.Name x px] X.env = (false, eval (.Name x px) X.env) :: starEach [] X.env := by rfl) (hpl : (backTo pos (starEach [] X.env)).any (·.1) = false := by rfl) : DE X W (.Call (.Name "sorted" p) [.Name x px] [] pos) (mSrtDk i) := by
  refine PE.imp (pe_callB (call_sortedDI hc) hg hm hv (pa_cons (pe_var (i := i) hN hvi hd hcd) pa_nil he) (by decide) (by decide) he hpl) fun σ H Q ⟨HF, L, ρ, S, R, p⟩ => ?_
  unfold mSrtDk at p
  split at p
  · rename_i n hn
    split at p
    · rename_i kvs hS
      split at p
      · rename_i ks ek
        split at p
        · rename_i hl
          obtain ⟨v, hv1, pa, hp1, hp2⟩ := R.env i _ hn
          subst hp2
          obtain ⟨q1, us, q2, q3, q4⟩ := R.cell n pa _ hp1 hS
          refine ⟨_, hv1, pa, us, ks, rfl, .inl q2, by rw [q3, intsK_is ek], hl, fun ys t ht hs hn' => ?_⟩
          have en : ys = sortI ks := PySem.W.ksm_same (ht.trans (sortI_perm ks).symm) hs (sortI_sorted ks)
          subst en
          exact p.done R (.new hn') (.lst upd_same (reps_ints _))
        · exact p.elim
      · exact p.elim
    · exact p.elim
  · exact p.elim
/-- list(d) -/
def mLstDk (i : Nat) : DEn := fun ρ S => match ρ[i]? with
  | some (some (.cel n)) => match S[n]? with
    | some (some (.dk kvs)) => .ok (.lst (kvs.map fun kv => kD kv.1)) S
    | _ => .bad
  | _ => .bad
theorem xlstDk (hc : X.calm = true) (i : Nat) {x : Str} {p px : Pos} (hm : X.mg "list" = none) (hg : Gl X "list" := by rfl) (hN : X.N[i]? = some x := by rfl) (hvi : Vis X.env.scope x := by first | exact Or.inl rfl | exact Or.inr (Or.inl rfl) | exact Or.inr (Or.inr rfl)) (hd : (x == ("__debug__" : Str)) = false := by decide) (hcd : (x == ("__classdict__" : Str)) = false := by decide)
    (he : starEach [Expr.Name x px] X.env = (false, eval (.Name x px) X.env) :: starEach [] X.env := by rfl) (hpl : (backTo pos (starEach [] X.env)).any (·.1) = false := by rfl) : DE X W (.Call (.Name "list" p) [.Name x px] [] pos) (mLstDk i) := by
  refine PE.imp (pe_callTy (call_listD hc) hg hm PyProof.Rows.boot_list (pa_cons (pe_var (i := i) hN hvi hd hcd) pa_nil he) (by decide) (by decide) he hpl) fun σ H Q ⟨HF, L, ρ, S, R, p⟩ => ?_
  unfold mLstDk at p
  split at p
  · rename_i n hn
    split at p
    · rename_i kvs hS
      obtain ⟨v, hv1, pa, hp1, hp2⟩ := R.env i _ hn
      subst hp2
      obtain ⟨q1, us, q2, q3, q4⟩ := R.cell n pa _ hp1 hS
      refine ⟨_, hv1, pa, us, rfl, .inl q2, fun t hn' => ?_⟩
      have e : (us.map fun kv => kV kv.1) = (kvs.map (·.1)).map kV := by rw [← q3, List.map_map]; rfl
      have e2 : (kvs.map fun kv => kD kv.1) = (kvs.map (·.1)).map kD := by rw [List.map_map]; rfl
      rw [e2] at p
      rw [e]
      exact p.done R (.new hn') (.lst upd_same (kDs_rep _))
    · exact p.elim
  · exact p.elim
/-- len(d) -/
def mLenDk (i : Nat) : DEn := fun ρ S => match ρ[i]? with
  | some (some (.cel n)) => match S[n]? with
    | some (some (.dk kvs)) => .ok (.int (kvs.length : Int)) S
    | _ => .bad
  | _ => .bad
theorem xlenDk (i : Nat) {x : Str} {p px : Pos} (hm : X.mg "len" = none) (hv : bootBuiltins "len" = some (.builtin "len")) (hg : Gl X "len" := by rfl) (hN : X.N[i]? = some x := by rfl) (hvi : Vis X.env.scope x := by first | exact Or.inl rfl | exact Or.inr (Or.inl rfl) | exact Or.inr (Or.inr rfl)) (hd : (x == ("__debug__" : Str)) = false := by decide) (hcd : (x == ("__classdict__" : Str)) = false := by decide)
    (he : starEach [Expr.Name x px] X.env = (false, eval (.Name x px) X.env) :: starEach [] X.env := by rfl) (hpl : (backTo pos (starEach [] X.env)).any (·.1) = false := by rfl) : DE X W (.Call (.Name "len" p) [.Name x px] [] pos) (mLenDk i) := by
  refine PE.imp (pe_callB call_lenD hg hm hv (pa_cons (pe_var (i := i) hN hvi hd hcd) pa_nil he) (by decide) (by decide) he hpl) fun σ H Q ⟨HF, L, ρ, S, R, p⟩ => ?_
  unfold mLenDk at p
  split at p
  · rename_i n hn
    split at p
    · rename_i kvs hS
      obtain ⟨v, hv1, pa, hp1, hp2⟩ := R.env i _ hn
      subst hp2
      obtain ⟨q1, us, q2, q3, q4⟩ := R.cell n pa _ hp1 hS
      refine ⟨_, hv1, pa, us, rfl, q2, ?_⟩
      have E : Ents (gd X W) HF us kvs := ⟨q3, q4⟩
      rw [E.len]
      exact p.done R .no (.int _)
    · exact p.elim
  · exact p.elim
/-- d.get(k, x) -/
def mGetDk (i : Nat) (fa fb : DEn) : DEn := fun ρ S => match ρ[i]? with
  | some (some (.cel n)) => match S[n]? with
    | some (some (.dk _)) => (fa ρ S).bind fun y S1 => (fb ρ S1).bind fun z S2 => match keyD y, S2[n]? with
      | some k, some (some (.dk kvs)) => .ok ((valD kvs k).getD z) S2
      | _, _ => .bad
    | _ => .bad
  | _ => .bad
theorem xgetDk (hu : X.A.units + 64 < cLine) (i : Nat) {x : Str} {px apos : Pos} (ha : DE X W a fa) (hb : DE X W b fb) (m : M2 X (.Name x px) "get" apos a b pos) (hN : X.N[i]? = some x := by rfl) (hvi : Vis X.env.scope x := by first | exact Or.inl rfl | exact Or.inr (Or.inl rfl) | exact Or.inr (Or.inr rfl)) (hd : (x == ("__debug__" : Str)) = false := by decide) (hcd : (x == ("__classdict__" : Str)) = false := by decide) :
    DE X W (.Call (.Attribute (.Name x px) "get" apos) [a, b] [] pos) (mGetDk i fa fb) := by
  refine PE.imp (pe_dget2 (by omega) (pe_var (i := i) hN hvi hd hcd) ha hb m) fun σ H Q ⟨HF, L, ρ, S, R, p⟩ => ?_
  unfold mGetDk at p
  split at p
  · rename_i n hn
    split at p
    · rename_i kvs0 hS0
      obtain ⟨v, hv1, pa, hp1, hp2⟩ := R.env i _ hn
      subst hp2
      obtain ⟨q1, us, q2, q3, q4⟩ := R.cell n pa _ hp1 hS0
      refine ⟨_, hv1, pa, rfl, .inl ⟨us, .inl q2⟩, HF, L, ρ, S, R, Post.bind p fun y S1 w H1 HF1 L1 e1 st1 R1 r1 p1 => ⟨HF1, L1, ρ, S1, R1, Post.bind p1 fun z S2 u H2 HF2 L2 e2 st2 R2 r2 p2 => ?_⟩⟩
      split at p2
      · rename_i k kvs hk hS
        obtain ⟨q1, us, q2, q3, q4⟩ := R2.cell n pa _ (st2.lget (st1.lget hp1)) hS
        have E : Ents (gd X W) HF2 us kvs := ⟨q3, q4⟩
        have ew := key_rep r1 hk
        subst ew
        refine ⟨valV us k, DGet.k q2, p2.done R2 .no ?_⟩
        cases e : valD kvs k with
        | none =>
          have : valV us k = none := by
            have := E.val (k := k) |>.2
            rw [e] at this
            cases h : valV us k with
            | none => rfl
            | some x => rw [h] at this; cases this
          rw [this]
          exact r2
        | some d =>
          obtain ⟨v2, e2, e3⟩ := E.val.1 d e
          rw [e2]
          exact e3
      · exact p2.elim
    · exact p.elim
  · exact p.elim
/-- (a, b, ..) = a list -/
def gTpL (gs : List D → DL.Env → Store → Out DL.Env) (n : Nat) : DGn := fun d ρ S => match d with
  | .lst ds => if ds.length = n then gs ds ρ S else .bad
  | _ => .bad
theorem gtupL {es : List Expr} {k n : Nat} {gs : List D → DL.Env → Store → Out DL.Env} (hc : X.calm = true) (h : DGs X W es gs) (hn : (assignEach es X.env).length = n := by rfl) (hst : (assignEach es X.env).findIdx? (·.1) = none := by rfl) : DG X W (.Tuple es k pos) (gTpL gs n) :=
  PG.imp (pg_unl hc h hn hst) fun v σ H Q ⟨HF, L, ρ, S, d, R, r, p⟩ => by
    cases d with
    | lst ds =>
      have p : PostG (gd X W) H HF L Q (if ds.length = n then gs ds ρ S else .bad) := p
      split at p
      · rename_i hl
        cases r with
        | lst h1 h2 => exact ⟨_, _, rfl, SqL.of (R.sub _ _ h1), by rw [h2.length]; exact hl, HF, L, ρ, S, ds, R, h2, p⟩
      · exact p.elim
    | _ => exact p.elim
end
end DL

/-! helpers over the layer: lists, cells, calls, loops -/
namespace DL
open PySem L2
/-- a comprehension of two clauses without conditions -/
theorem lc2T {α β : Type} {tg tg1 : Tg} {fi : DDn} {vs1 : List Nat} {fe : DEn} {ρ : DL.Env} {S : Store} (emb : α → D) (emb1 : β → D) (ys : α → List β) (g : α → β → D) : ∀ (xs : List α),
    (∀ x ∈ xs, ∃ ρ1, asg tg (emb x) ρ = some ρ1 ∧ fi ρ1 S = .ok ((ys x).map emb1) S ∧ ∀ y ∈ ys x, ∃ ρ2, asg tg1 (emb1 y) (wipeE ρ1 vs1) = some ρ2 ∧ fe ρ2 S = .ok (g x y) S) →
    ∀ acc : List D, acc.length + (xs.flatMap ys).length ≤ lim → lcL2 tg mYes fi vs1 tg1 mYes fe ρ (xs.map emb) S acc = .ok (acc ++ xs.flatMap fun x => (ys x).map (g x)) S
  | [], h, acc, _ => by simp [lcL2]
  | x :: xs, h, acc, hl => by
    obtain ⟨ρ1, e1, e2, e3⟩ := h x List.mem_cons_self
    rw [List.flatMap_cons, List.length_append] at hl
    have l := lcT (tg := tg1) (tt := mYes) (fe := fe) (ρ := wipeE ρ1 vs1) (S := S) emb1 (fun _ => true) (g x) (ys x) (fun y hy => by
      obtain ⟨ρ2, k1, k2⟩ := e3 y hy
      exact ⟨ρ2, k1, rfl, fun _ => k2⟩) acc (by omega)
    rw [filter_true] at l
    rw [List.map_cons]
    unfold lcL2
    rw [e1]
    dsimp only
    rw [show mYes ρ1 S = .ok true S from rfl]
    simp only [ev_bd_ok, if_true]
    rw [e2]
    simp only [ev_bd_ok]
    rw [l]
    simp only [ev_bd_ok]
    rw [lc2T emb emb1 ys g xs (fun z hz => h z (List.mem_cons_of_mem _ hz)) _ (by rw [List.length_append, List.length_map]; omega)]
    simp [List.flatMap_cons]
theorem lcA1 {α : Type} {tg : Tg} {fe : DEn} {ρ : DL.Env} {S : Store} (emb g : α → D) (xs : List α) (h : ∀ x ∈ xs, ∃ ρ1, asg tg (emb x) ρ = some ρ1 ∧ fe ρ1 S = .ok (g x) S) (hl : xs.length ≤ lim) : lcL tg mYes fe ρ (xs.map emb) S [] = .ok (xs.map g) S := by
  have l := lcT (tg := tg) (tt := mYes) (fe := fe) (ρ := ρ) (S := S) emb (fun _ => true) g xs (fun x hx => by
    obtain ⟨ρ1, k1, k2⟩ := h x hx
    exact ⟨ρ1, k1, rfl, fun _ => k2⟩) [] (by simpa using hl)
  rw [filter_true] at l
  simpa using l

end DL
namespace Pr
open PySem L2 DL
theorem gMul_r {a b : Int} (h : b.natAbs < 18446744073709551616) : gMul (.int a) (.int b) = some (.int (a * b)) := by
  show (if a.natAbs < 18446744073709551616 ∨ b.natAbs < 18446744073709551616 then some (D.int (a * b)) else none) = _
  exact if_pos (Or.inr h)
theorem gMul_l {a b : Int} (h : a.natAbs < 18446744073709551616) : gMul (.int a) (.int b) = some (.int (a * b)) := by
  show (if a.natAbs < 18446744073709551616 ∨ b.natAbs < 18446744073709551616 then some (D.int (a * b)) else none) = _
  exact if_pos (Or.inl h)
def fr (a b : Int) : D := .tup [.int a, .int b]

theorem st_set {i : Nat} {f : DEn} {ρ : DL.Env} {S S1 : Store} {d : D} (h : f ρ S = .ok d S1) : mSet i (mV f) ρ S = .ok (.nx, ρ.set i (some (.v d))) S1 := by rw [ev_Set, ev_V, h]; rfl
def vv (d : D) : Option EV := some (.v d)
theorem t2 {fa fb : DEn} {ρ : DL.Env} {S S1 S2 : Store} {x y : D} (ha : fa ρ S = .ok x S1) (hb : fb ρ S1 = .ok y S2) : mTup (mCons fa (mCons fb mNil)) ρ S = .ok (.tup [x, y]) S2 := by
  have h2 : (2 : Nat) ≤ lim := by rw [lim_is]; decide
  have : mCons fa (mCons fb mNil) ρ S = .ok [x, y] S2 := by rw [ev_Cons, ha, ev_bind_ok, ev_Cons, hb]; rfl
  unfold mTup
  rw [this, ev_bind_ok, if_pos (show ([x, y] : List D).length ≤ lim from h2)]
theorem t3 {fa fb fc : DEn} {ρ : DL.Env} {S S1 S2 S3 : Store} {x y z : D} (ha : fa ρ S = .ok x S1) (hb : fb ρ S1 = .ok y S2) (hc : fc ρ S2 = .ok z S3) : mTup (mCons fa (mCons fb (mCons fc mNil))) ρ S = .ok (.tup [x, y, z]) S3 := by
  have h2 : (3 : Nat) ≤ lim := by rw [lim_is]; decide
  have : mCons fa (mCons fb (mCons fc mNil)) ρ S = .ok [x, y, z] S3 := by rw [ev_Cons, ha, ev_bind_ok, ev_Cons, hb, ev_bind_ok, ev_Cons, hc]; rfl
  unfold mTup
  rw [this, ev_bind_ok, if_pos (show ([x, y, z] : List D).length ≤ lim from h2)]

/-- a comprehension that draws: each item has what P says -/
theorem drawL {tg : Tg} {fe : DEn} {ρ : DL.Env} {P : D → Prop} {R : Store} (h : ∀ (d : D) (c : Cell), RowOk c → ∃ ρ1 x c', asg tg d ρ = some ρ1 ∧ P x ∧ RowOk c' ∧ fe ρ1 (some c :: R) = .ok x (some c' :: R)) : ∀ (ds : List D) (c : Cell) (acc : List D), RowOk c → acc.length + ds.length ≤ lim →
    ∃ (xs : List D) (c' : Cell), xs.length = ds.length ∧ (∀ x ∈ xs, P x) ∧ RowOk c' ∧ lcL tg mYes fe ρ ds (some c :: R) acc = .ok (acc ++ xs) (some c' :: R)
  | [], c, acc, hc, _ => ⟨[], c, rfl, (fun _ h => by cases h), hc, by simp [lcL]⟩
  | d :: ds, c, acc, hc, hl => by
    have hl' : acc.length + (ds.length + 1) ≤ lim := by simpa using hl
    obtain ⟨ρ1, x, c1, e0, hp, hc1, e1⟩ := h d c hc
    obtain ⟨xs, c2, h1, h2, hc2, e2⟩ := drawL h ds c1 (acc ++ [x]) hc1 (by rw [List.length_append]; simp; omega)
    refine ⟨x :: xs, c2, by simp [h1], fun q hq => ?_, hc2, ?_⟩
    · rcases List.mem_cons.mp hq with rfl | hq
      · exact hp
      · exact h2 q hq
    · unfold lcL
      rw [e0]
      dsimp only
      rw [show mYes ρ1 (some c :: R) = .ok true (some c :: R) from rfl]
      simp only [ev_bd_ok, if_true]
      rw [e1]
      simp only [ev_bd_ok]
      rw [if_pos (by omega), e2]
      simp
/-- a list of values of a kind is the image of a list of data -/
theorem as_map {α : Type} {emb : α → D} {P : α → Prop} : ∀ {xs : List D}, (∀ x ∈ xs, ∃ a, x = emb a ∧ P a) → ∃ as : List α, xs = as.map emb ∧ as.length = xs.length ∧ ∀ a ∈ as, P a
  | [], _ => ⟨[], rfl, rfl, fun _ h => by cases h⟩
  | x :: xs, h => by
    obtain ⟨a, e, p⟩ := h x List.mem_cons_self
    obtain ⟨as, e', hl, hp⟩ := as_map (xs := xs) fun y hy => h y (List.mem_cons_of_mem _ hy)
    refine ⟨a :: as, by rw [e, e']; rfl, by simp [hl], fun b hb => ?_⟩
    rcases List.mem_cons.mp hb with rfl | hb
    · exact p
    · exact hp b hb

theorem t4 {fa fb fc fd : DEn} {ρ : DL.Env} {S : Store} {x y z u : D} (ha : fa ρ S = .ok x S) (hb : fb ρ S = .ok y S) (hc : fc ρ S = .ok z S) (hd : fd ρ S = .ok u S) : mTup (mCons fa (mCons fb (mCons fc (mCons fd mNil)))) ρ S = .ok (.tup [x, y, z, u]) S := by
  have h2 : (4 : Nat) ≤ lim := by rw [lim_is]; decide
  have : mCons fa (mCons fb (mCons fc (mCons fd mNil))) ρ S = .ok [x, y, z, u] S := by rw [ev_Cons, ha, ev_bind_ok, ev_Cons, hb, ev_bind_ok, ev_Cons, hc, ev_bind_ok, ev_Cons, hd]; rfl
  unfold mTup
  rw [this, ev_bind_ok, if_pos (show ([x, y, z, u] : List D).length ≤ lim from h2)]
theorem l1 {fa : DEn} {ρ : DL.Env} {S : Store} {x : D} (ha : fa ρ S = .ok x S) : mLst (mCons fa mNil) ρ S = .ok (.lst [x]) S := by
  have h2 : (1 : Nat) ≤ lim := by rw [lim_is]; decide
  have : mCons fa mNil ρ S = .ok [x] S := by rw [ev_Cons, ha]; rfl
  unfold mLst
  rw [this, ev_bind_ok, if_pos (show ([x] : List D).length ≤ lim from h2)]
theorem cl1 {F : Den} {fa : DEn} {ρ : DL.Env} {S : Store} {x r : D} (ha : fa ρ S = .ok x S) (h : F [.v x] [] = .ok r []) : mCall F 1 (mConsE (mV fa) mNilE) ρ S = .ok r S := by
  rw [ev_Call, ev_ConsE, ev_V, ha]
  simp only [ev_bind_ok, ev_NilE, List.length_cons, List.length_nil, Nat.zero_add, if_true]
  exact call1 h
theorem cl2 {F : Den} {fa fb : DEn} {ρ : DL.Env} {S : Store} {x y r : D} (ha : fa ρ S = .ok x S) (hb : fb ρ S = .ok y S) (h : F [.v x, .v y] [] = .ok r []) : mCall F 2 (mConsE (mV fa) (mConsE (mV fb) mNilE)) ρ S = .ok r S := by
  rw [ev_Call, ev_ConsE, ev_V, ha]
  simp only [ev_bind_ok, ev_ConsE, ev_V, hb, ev_NilE, List.length_cons, List.length_nil, Nat.zero_add, if_true]
  exact call2 h
theorem cl3 {F : Den} {fa fb fc : DEn} {ρ : DL.Env} {S : Store} {x y z r : D} (ha : fa ρ S = .ok x S) (hb : fb ρ S = .ok y S) (hc : fc ρ S = .ok z S) (h : F [.v x, .v y, .v z] [] = .ok r []) : mCall F 3 (mConsE (mV fa) (mConsE (mV fb) (mConsE (mV fc) mNilE))) ρ S = .ok r S := by
  rw [ev_Call, ev_ConsE, ev_V, ha]
  simp only [ev_bind_ok, ev_ConsE, ev_V, hb, hc, ev_NilE, List.length_cons, List.length_nil, Nat.zero_add, if_true]
  exact call3 h
theorem cl4 {F : Den} {fa fb fc fd : DEn} {ρ : DL.Env} {S : Store} {x y z u r : D} (ha : fa ρ S = .ok x S) (hb : fb ρ S = .ok y S) (hc : fc ρ S = .ok z S) (hd : fd ρ S = .ok u S) (h : F [.v x, .v y, .v z, .v u] [] = .ok r []) : mCall F 4 (mConsE (mV fa) (mConsE (mV fb) (mConsE (mV fc) (mConsE (mV fd) mNilE)))) ρ S = .ok r S := by
  rw [ev_Call, ev_ConsE, ev_V, ha]
  simp only [ev_bind_ok, ev_ConsE, ev_V, hb, hc, hd, ev_NilE, List.length_cons, List.length_nil, Nat.zero_add, if_true]
  exact call4 h
theorem opI {g : D → D → Option D} {fa fb : DEn} {ρ : DL.Env} {S : Store} {x y z : D} (ha : fa ρ S = .ok x S) (hb : fb ρ S = .ok y S) (h : g x y = some z) : mOp g fa fb ρ S = .ok z S := by
  rw [ev_Op, ha, ev_bind_ok, hb, ev_bind_ok, h]; rfl

theorem forL_step {tg : Tg} {body : DSn} {d : D} {ds : List D} {ρ ρ1 ρ2 : DL.Env} {S S2 : Store} (h1 : asg tg d ρ = some ρ1) (h2 : body ρ1 S = .ok (.nx, ρ2) S2) : forL tg body (d :: ds) ρ S = forL tg body ds ρ2 S2 := by
  conv => lhs; unfold forL
  rw [h1]
  dsimp only
  rw [h2]

theorem metL {i n : Nat} {g : List D → List D → Option (List D × D)} {fs : DDn} {ρ : DL.Env} {S : Store} {ys ds ds' : List D} {d : D} (h1 : ρ[i]? = some (some (.cel n))) (h2 : S[n]? = some (some (.lst ds))) (h3 : fs ρ S = .ok ys S) (h4 : g ds ys = some (ds', d)) :
    mMet i g fs ρ S = .ok d (S.set n (some (.lst ds'))) := by
  unfold mMet
  rw [h1]
  dsimp only
  rw [h2]
  dsimp only
  rw [h3, ev_bind_ok, h2]
  dsimp only
  rw [h4]
theorem ixC {i n : Nat} {fb : DEn} {ρ : DL.Env} {S : Store} {ds : List D} {k : Int} {d : D} (h1 : ρ[i]? = some (some (.cel n))) (h2 : S[n]? = some (some (.lst ds))) (h3 : fb ρ S = .ok (.int k) S) (h4 : atI ds k = some d) : mIxC i fb ρ S = .ok d S := by
  unfold mIxC
  rw [h1]
  dsimp only
  rw [h3, ev_bind_ok, h2]
  dsimp only
  rw [h4]
  rfl
theorem cmpL {i n : Nat} {g : D → D → Option Bool} {fb : DEn} {ρ : DL.Env} {S : Store} {ds : List D} {y : D} {b : Bool} (h1 : ρ[i]? = some (some (.cel n))) (h2 : S[n]? = some (some (.lst ds))) (h3 : fb ρ S = .ok y S) (h4 : g (.lst ds) y = some b) : mCmpL i g fb ρ S = .ok b S := by
  unfold mCmpL
  rw [h1]
  dsimp only
  rw [h3, ev_bind_ok, h2]
  dsimp only
  rw [h4]
  rfl
theorem itL {i n j : Nat} {fi : DEn} {ρ : DL.Env} {S : Store} {ds : List D} {k : Int} {d : D} (h1 : ρ[i]? = some (some (.cel n))) (h2 : S[n]? = some (some (.lst ds))) (h3 : fi ρ S = .ok (.int k) S) (h4 : ixN ds.length k = some j) : gIt i fi d ρ S = .ok ρ (S.set n (some (.lst (ds.set j d)))) := by
  unfold gIt
  rw [h1]
  dsimp only
  rw [h3, ev_bd_ok, h2]
  dsimp only
  rw [h4]
theorem newCat {i n : Nat} {fb : DVn} {ρ : DL.Env} {S : Store} {ds es : List D} (h1 : ρ[i]? = some (some (.cel n))) (h2 : S[n]? = some (some (.lst ds))) (h3 : fb ρ S = .ok (.v (.lst es)) S) (h4 : ds.length + es.length ≤ lim) : mNewCat (mCel i) fb ρ S = .ok (.cel S.length) (S ++ [some (.lst (ds ++ es))]) := by
  unfold mNewCat mCatWith
  rw [show mCel i ρ S = .ok (.cel n) S by unfold mCel; rw [h1], ev_bind_ok, h3, ev_bind_ok]
  have e1 : lstOf S (.cel n) = some ds := by
    show (match S[n]? with
      | some (some (.lst ds)) => some ds
      | _ => none) = _
    rw [h2]
  have e2 : lstOf S (.v (.lst es)) = some es := rfl
  rw [e1, e2]
  dsimp only
  rw [if_pos h4]
/-- the loop over xs leads from one state to another -/
def Goes (tg : Tg) (body : DSn) (xs : List D) (ρ : DL.Env) (S : Store) (ρ1 : DL.Env) (S1 : Store) : Prop := ∀ ys, forL tg body (xs ++ ys) ρ S = forL tg body ys ρ1 S1
theorem Goes.one {tg : Tg} {body : DSn} {d : D} {ρ ρ1 ρ2 : DL.Env} {S S2 : Store} (h1 : asg tg d ρ = some ρ1) (h2 : body ρ1 S = .ok (.nx, ρ2) S2) : Goes tg body [d] ρ S ρ2 S2 := fun ys => forL_step h1 h2
theorem Goes.trans {tg : Tg} {body : DSn} {xs zs : List D} {ρ ρ1 ρ2 : DL.Env} {S S1 S2 : Store} (h1 : Goes tg body xs ρ S ρ1 S1) (h2 : Goes tg body zs ρ1 S1 ρ2 S2) : Goes tg body (xs ++ zs) ρ S ρ2 S2 := fun ys => by
  rw [List.append_assoc, h1, h2]
theorem Goes.end {tg : Tg} {body : DSn} {xs : List D} {ρ ρ1 : DL.Env} {S S1 : Store} (h : Goes tg body xs ρ S ρ1 S1) : forL tg body xs ρ S = .ok (.nx, ρ1) S1 := by
  have := h []
  rw [List.append_nil] at this
  rw [this]
  rfl

theorem okd_intsP (F : List Nat) : (D.lst (F.map fun i : Nat => D.int (i : Int))).okd = true := by
  have h : ∀ F : List Nat, PyData.canLayAll0 (D.pys (F.map fun i : Nat => D.int (i : Int))) = true ∧ PyData.depthAll (D.pys (F.map fun i : Nat => D.int (i : Int))) = 0 := by
    intro F
    induction F with
    | nil => exact ⟨rfl, rfl⟩
    | cons i F ih => exact ⟨ih.1, by show max 0 (PyData.depthAll (D.pys (F.map fun i : Nat => D.int (i : Int)))) = 0; rw [ih.2]; rfl⟩
  show (PyData.canLayAll0 (D.pys (F.map fun i : Nat => D.int (i : Int))) && decide (PyData.depthAll (D.pys (F.map fun i : Nat => D.int (i : Int))) + 1 ≤ 64)) = true
  rw [(h F).1, (h F).2]; rfl
theorem gNotIn_ints (i : Nat) (F : List Nat) : gNotIn (.int (i : Int)) (.lst (F.map fun i : Nat => D.int (i : Int))) = some (!decide (i ∈ F)) := by
  have e : gIn (.int (i : Int)) (.lst (F.map fun i : Nat => D.int (i : Int))) = some ((F.map fun i : Nat => D.int (i : Int)).any fun z => deq z (.int (i : Int))) := if_pos ⟨rfl, okd_intsP F⟩
  unfold gNotIn
  rw [e]
  have : ((F.map fun i : Nat => D.int (i : Int)).any fun z => deq z (.int (i : Int))) = decide (i ∈ F) := by
    induction F with
    | nil => rfl
    | cons j F ih =>
      have q : deq (.int (j : Int)) (.int (i : Int)) = decide (i = j) := by
        show ((j : Int) == (i : Int)) = _
        by_cases h : i = j
        · subst h; simp
        · rw [decide_eq_false h]; simp; omega
      have ih' := ih (if_pos ⟨rfl, okd_intsP F⟩)
      rw [List.map_cons, List.any_cons, q, ih']
      by_cases h : i = j <;> simp [h]
  rw [this]; rfl

def nI (i : Nat) : D := .int (i : Int)
theorem rg1 {f : DEn} {ρ : DL.Env} {S S1 : Store} {n : Nat} (h : f ρ S = .ok (.int (n : Int)) S1) (hn : n ≤ 1000000000) : mRg1 f ρ S = .ok ((List.range n).map nI) S1 := by
  show ((f ρ S).bind _) = _
  rw [h, ev_bind_ok]
  show (if (n : Int) ≤ 1000000000 ∧ -1000000000 ≤ (n : Int) then Out.ok (rgD 0 (n : Int)) S1 else .bad) = _
  rw [if_pos ⟨by omega, by omega⟩, rgD_nat]
  rfl
theorem rgD_from (a n : Nat) : rgD (a : Int) (n : Int) = (List.range' a (n - a)).map nI := by
  unfold rgD
  rw [show ((n : Int) - (a : Int)).toNat = n - a by omega, List.range'_eq_map_range, List.map_map]
  refine List.map_congr_left fun i _ => ?_
  show D.int ((a : Int) + (i : Int)) = D.int ((a + i : Nat) : Int)
  congr 1
/-- a comprehension with a condition over a list of anything -/
theorem lcF {α : Type} {tg : Tg} {tt : DTn} {fe : DEn} {ρ : DL.Env} {S : Store} (emb : α → D) (f : α → Bool) (g : α → D) (xs : List α) (h : ∀ x ∈ xs, ∃ ρ1, asg tg (emb x) ρ = some ρ1 ∧ tt ρ1 S = .ok (f x) S ∧ (f x = true → fe ρ1 S = .ok (g x) S)) (hl : xs.length ≤ lim) : lcL tg tt fe ρ (xs.map emb) S [] = .ok ((xs.filter f).map g) S := by
  have l := lcT (tg := tg) (tt := tt) (fe := fe) (ρ := ρ) (S := S) emb f g xs h [] (by simpa using hl)
  simpa using l
theorem intsOf_map : ∀ xs : List Int, intsOf (xs.map D.int) = some xs
  | [] => rfl
  | x :: xs => by
    have := intsOf_map xs
    simp [intsOf, this]
/-- sorted distinct numbers -/
theorem sortN (N : List Nat) : ∃ s : List Nat, gSorted [.lst (N.map nI)] = some (.lst (s.map nI)) ∧ s.Perm N ∧ (N.Nodup → s.Pairwise (· < ·)) := by
  let z : List Int := sortI (N.map fun n : Nat => (n : Int))
  have hp : z.Perm (N.map fun n : Nat => (n : Int)) := sortI_perm _
  have hnn : ∀ x ∈ z, 0 ≤ x := fun x hx => by
    obtain ⟨n, _, rfl⟩ := List.mem_map.mp (hp.mem_iff.mp hx)
    omega
  let s : List Nat := z.map Int.toNat
  have hs : s.map (fun n : Nat => (n : Int)) = z := by
    show (z.map Int.toNat).map _ = z
    rw [List.map_map]
    have : ∀ l : List Int, (∀ x ∈ l, 0 ≤ x) → l.map ((fun n : Nat => (n : Int)) ∘ Int.toNat) = l := fun l => by
      induction l with
      | nil => intro _; rfl
      | cons x l ih =>
        intro h
        rw [List.map_cons, ih fun y hy => h y (List.mem_cons_of_mem _ hy)]
        have := h x List.mem_cons_self
        congr 1
        show ((x.toNat : Nat) : Int) = x
        omega
    exact this z hnn
  have hsp : s.Perm N := by
    have h1 := hp.map Int.toNat
    rw [List.map_map] at h1
    have : (N.map (Int.toNat ∘ fun n : Nat => (n : Int))) = N := by
      have : (Int.toNat ∘ fun n : Nat => (n : Int)) = id := by funext n; simp
      rw [this, List.map_id]
    rw [this] at h1
    exact h1
  refine ⟨s, ?_, hsp, fun hn => ?_⟩
  · have mp : ∀ l : List Nat, l.map nI = (l.map fun n : Nat => (n : Int)).map D.int := fun l => by rw [List.map_map]; rfl
    have e := mp N
    have e2 : s.map nI = z.map D.int := by rw [mp s, hs]
    rw [e, e2]
    show (intsOf ((N.map fun n : Nat => (n : Int)).map D.int)).map _ = _
    rw [intsOf_map]; rfl
  · have h1 : z.Pairwise (· ≤ ·) := sortI_sorted _
    rw [← hs] at h1
    have h2 := List.pairwise_map.mp h1
    have h3 : s.Nodup := hsp.nodup_iff.mpr hn
    exact List.Pairwise.imp₂ (fun a b h h' => by have h : (a : Int) ≤ (b : Int) := h; have h' : a ≠ b := h'; omega) h2 h3
theorem gLen_t (l : List D) : gLen [.tup l] = some (.int (l.length : Int)) := rfl
theorem gLen_l (l : List D) : gLen [.lst l] = some (.int (l.length : Int)) := rfl
end Pr

/-! what comes out keeps Q, what is raised keeps E -/
namespace Pr
open PySem L2 DL
def Wp {α : Type} (o : Out α) (Q : α → Store → Prop) (E : Exn → Store → Prop) : Prop := match o with
  | .ok a S => Q a S
  | .ex x S => E x S
  | .bad => False
section
variable {α β : Type} {Q Q' : α → Store → Prop} {E E' : Exn → Store → Prop} {o : Out α} {S S1 : Store} {a : α}
theorem Wp.ok (h : o = .ok a S) (q : Q a S) : Wp o Q E := by rw [h]; exact q
theorem Wp.raises {x : Exn} (h : o = .ex x S) (q : E x S) : Wp o Q E := by rw [h]; exact q
theorem Wp.has (h : Wp o Q (fun _ _ => False)) : ∃ a S, o = .ok a S ∧ Q a S := by
  cases o with
  | ok a S => exact ⟨a, S, rfl, h⟩
  | ex x S => exact h.elim
  | bad => exact h.elim
theorem Wp.mono (h : Wp o Q E) (h1 : ∀ a S, Q a S → Q' a S) (h2 : ∀ x S, E x S → E' x S) : Wp o Q' E' := by
  cases o with
  | ok a S => exact h1 _ _ h
  | ex x S => exact h2 _ _ h
  | bad => exact h
theorem Wp.bind {p : Out β} {k : β → Store → Out α} (h : Wp p (fun b S => Wp (k b S) Q E) E) : Wp (p.bind k) Q E := by
  cases p with
  | ok a S => exact h
  | ex x S => exact h
  | bad => exact h
theorem Wp.lift {x : Option α} (h : x = some a) (q : Q a S) : Wp (lift x S) Q E := by rw [h]; exact q
end
section
variable {Q : Ctl × DL.Env → Store → Prop} {E : Exn → Store → Prop} {f g : DSn} {ρ ρ1 : DL.Env} {S S1 : Store} {fa fb : DEn} {d : D} {β : Type}
theorem Wp.bindS {p : Out β} {k : β → Store → Out (Ctl × DL.Env)} (h : Wp p (fun b S => Wp (k b S) Q E) (fun x S => Q (.ex x, ρ) S)) : Wp (bindS p ρ k) Q E := by
  cases p with
  | ok a S => exact h
  | ex x S => exact h
  | bad => exact h
/-- what follows the first part -/
def then_ (g : DSn) (Q : Ctl × DL.Env → Store → Prop) (E : Exn → Store → Prop) : Ctl × DL.Env → Store → Prop := fun cr S => match cr with
  | (.nx, ρ) => Wp (g ρ S) Q E
  | cr => Q cr S
theorem wseq (h : Wp (f ρ S) (then_ g Q E) E) : Wp (mSeq f g ρ S) Q E := by
  unfold mSeq
  cases e : f ρ S with
  | bad => rw [e] at h; exact h
  | ex x S1 => rw [e] at h; exact h
  | ok cr S1 =>
    rw [e] at h
    obtain ⟨c, r⟩ := cr
    cases c <;> exact h
theorem wset {i : Nat} (h : Wp (fa ρ S) (fun d S1 => Q (.nx, ρ.set i (some (.v d))) S1) (fun x S1 => Q (.ex x, ρ) S1)) : Wp (mSet i (mV fa) ρ S) Q E := by
  rw [ev_Set]
  exact Wp.bindS (Wp.bind h)
theorem wdrop (h : Wp (fa ρ S) (fun d S1 => Q (.nx, ρ) S1) (fun x S1 => Q (.ex x, ρ) S1)) : Wp (mDrop fa ρ S) Q E := by
  rw [ev_Drop]
  exact Wp.bindS h
theorem wret (h : Wp (fa ρ S) (fun d S1 => Q (.rt d, ρ) S1) (fun x S1 => Q (.ex x, ρ) S1)) : Wp (mRet fa ρ S) Q E := by
  rw [ev_Ret]
  exact Wp.bindS h
theorem wif {t : DTn} (h : Wp (t ρ S) (fun b S1 => if b = true then Wp (f ρ S1) Q E else Wp (g ρ S1) Q E) (fun x S1 => Q (.ex x, ρ) S1)) : Wp (mIfS t f g ρ S) Q E := by
  rw [ev_IfS]
  refine Wp.bindS (h.mono (fun b S1 q => ?_) fun _ _ q => q)
  cases b
  · exact q
  · exact q
theorem wasg {gg : DGn} (h : Wp (fa ρ S) (fun d S1 => ∃ ρ' S2, gg d ρ S1 = .ok ρ' S2 ∧ Q (.nx, ρ') S2) (fun x S1 => Q (.ex x, ρ) S1)) : Wp (mAsg fa gg ρ S) Q E := by
  unfold mAsg
  refine Wp.bindS (h.mono (fun b S1 q => ?_) fun _ _ q => q)
  obtain ⟨ρ', S2, e, q⟩ := q
  rw [e]
  exact q
theorem wfor {fi : DDn} {t : Tg} {ds : List D} (hi : fi ρ S = .ok ds S) (h : Wp (forL t f ds ρ S) Q E) : Wp (mFor fi t f ρ S) Q E := by
  rw [ev_For, hi]; exact h
theorem wthen (h : Wp (g ρ S) Q E) : then_ g Q E (.nx, ρ) S := h
/-- a loop: what holds ahead of each turn -/
theorem wloop {t : Tg} (I : Nat → DL.Env → Store → Prop) : ∀ (ds : List D) (k : Nat) {ρ : DL.Env} {S : Store}, I k ρ S →
    (∀ (j : Nat) (d : D) (ρ : DL.Env) (S : Store), ds[j]? = some d → I (k + j) ρ S → ∃ ρ1, asg t d ρ = some ρ1 ∧ Wp (f ρ1 S) (fun cr S1 => match cr with
      | (.nx, ρ2) => I (k + j + 1) ρ2 S1
      | (.ct, ρ2) => I (k + j + 1) ρ2 S1
      | (.rt r, ρ2) => Q (.rt r, ρ2) S1
      | (.bk, ρ2) => Q (.nx, ρ2) S1
      | (.ex x, ρ2) => Q (.ex x, ρ2) S1) fun _ _ => False) →
    (∀ ρ S, I (k + ds.length) ρ S → Q (.nx, ρ) S) → Wp (forL t f ds ρ S) Q E
  | [], k, ρ, S, h0, _, he => he ρ S h0
  | d :: ds, k, ρ, S, h0, hs, he => by
    obtain ⟨ρ1, e1, w⟩ := hs 0 d ρ S rfl h0
    unfold forL
    rw [e1]
    dsimp only
    cases e : f ρ1 S with
    | bad => rw [e] at w; exact w.elim
    | ex x S1 => rw [e] at w; exact w.elim
    | ok cr S1 =>
      rw [e] at w
      obtain ⟨c, r⟩ := cr
      have nxt : I (k + 0 + 1) r S1 → Wp (forL t f ds r S1) Q E := fun h => wloop I ds (k + 1) (by simpa using h) (fun j d ρ S hd hI => by
        have := hs (j + 1) d ρ S (by simpa using hd) (by rw [show k + (j + 1) = k + 1 + j by omega]; exact hI)
        rw [show k + (j + 1) + 1 = k + 1 + j + 1 by omega] at this
        exact this) fun ρ S h => he ρ S (by rw [List.length_cons, show k + (ds.length + 1) = k + 1 + ds.length by omega]; exact h)
      cases c with
      | nx => exact nxt w
      | ct => exact nxt w
      | rt r => exact w
      | bk => exact w
      | ex x => exact w
/-- the def itself -/
theorem wden {N : Nat} {es : List EV} {R : D → Store → Prop} (h : Wp (f (es.map some ++ List.replicate (N - es.length) none) S) (fun cr S1 => match cr with
      | (.rt d, _) => R d (S1.take S.length)
      | (.nx, _) => R .non (S1.take S.length)
      | (.ex x, _) => E x (S1.take S.length)
      | _ => False) (fun _ _ => False)) : Wp (denB N f es S) R E := by
  unfold denB
  cases e : f (es.map some ++ List.replicate (N - es.length) none) S with
  | bad => rw [e] at h; exact h
  | ex x S1 => rw [e] at h; exact h.elim
  | ok cr S1 =>
    rw [e] at h
    obtain ⟨c, r⟩ := cr
    cases c <;> exact h
end
section
variable {E : Exn → Store → Prop} {ρ : DL.Env} {S : Store} {α : Type}
variable {Q : D → Store → Prop} {fa fb : DEn}
theorem wop {g : D → D → Option D} (h : Wp (fa ρ S) (fun x S1 => Wp (fb ρ S1) (fun y S2 => ∃ z, g x y = some z ∧ Q z S2) E) E) : Wp (mOp g fa fb ρ S) Q E := by
  rw [ev_Op]
  exact Wp.bind (h.mono (fun x S1 q => Wp.bind (q.mono (fun y S2 ⟨z, e, q⟩ => by rw [e]; exact q) fun _ _ q => q)) fun _ _ q => q)
theorem wtup {fs : DDn} (h : Wp (fs ρ S) (fun xs S1 => xs.length ≤ lim ∧ Q (.tup xs) S1) E) : Wp (mTup fs ρ S) Q E := by
  rw [ev_Tup]
  exact Wp.bind (h.mono (fun xs S1 q => by rw [if_pos q.1]; exact q.2) fun _ _ q => q)
theorem wlst {fs : DDn} (h : Wp (fs ρ S) (fun xs S1 => xs.length ≤ lim ∧ Q (.lst xs) S1) E) : Wp (mLst fs ρ S) Q E := by
  rw [ev_Lst]
  exact Wp.bind (h.mono (fun xs S1 q => by rw [if_pos q.1]; exact q.2) fun _ _ q => q)
theorem wcons {Q : List D → Store → Prop} {fs : DDn} (h : Wp (fa ρ S) (fun x S1 => Wp (fs ρ S1) (fun xs S2 => Q (x :: xs) S2) E) E) : Wp (mCons fa fs ρ S) Q E := by
  rw [ev_Cons]
  exact Wp.bind (h.mono (fun x S1 q => Wp.bind (q.mono (fun y S2 q => q) fun _ _ q => q)) fun _ _ q => q)
theorem wnil {Q : List D → Store → Prop} (h : Q [] S) : Wp (mNil ρ S) Q E := h
/-- a draw -/
theorem wdraw {F : Den} {i n : Nat} {c : Cell} {fb : DEn} {B : Int} (hB : fb ρ S = .ok (.int B) S) (h0 : 0 < B) (h1 : B < 1073741824) (hc : RowOk c) (hρ : ρ[i]? = some (some (.cel n)) := by rfl) (hS : S[n]? = some (some c) := by rfl) (hF : F = cd_taken := by rfl)
    (q : ∀ a c', 0 ≤ a → a < B → RowOk c' → Q (.int a) (S.set n (some c'))) : Wp (mCall F 2 (mConsE (mCel i) (mConsE (mV fb) mNilE)) ρ S) Q E := by
  subst hF
  obtain ⟨a, c', a0, a1, hc', e⟩ := taken hc h0 h1
  refine Wp.ok ?_ (q a c' a0 a1 hc')
  have k := callC2 (S := S) (n := n) (F := cd_taken) hS e
  have hcel : mCel i ρ S = .ok (.cel n) S := by unfold mCel; rw [hρ]
  rw [ev_Call, ev_ConsE, hcel]
  simp only [ev_bind_ok, ev_ConsE, ev_V, hB, ev_NilE, List.length_cons, List.length_nil, Nat.zero_add, if_true]
  exact k
/-- one of a list -/
theorem wpick {F : Den} {i n : Nat} {c : Cell} {fb : DEn} {ds : List D} (hB : fb ρ S = .ok (.lst ds) S) (h0 : ds ≠ []) (h1 : ds.length < 1073741824) (hc : RowOk c) (hρ : ρ[i]? = some (some (.cel n)) := by rfl) (hS : S[n]? = some (some c) := by rfl) (hF : F = cd_pick := by rfl)
    (q : ∀ d c', d ∈ ds → RowOk c' → Q d (S.set n (some c'))) : Wp (mCall F 2 (mConsE (mCel i) (mConsE (mV fb) mNilE)) ρ S) Q E := by
  subst hF
  obtain ⟨j, d, c', hj, hc', e⟩ := pick_spec hc h0 h1
  refine Wp.ok ?_ (q d c' (List.mem_of_getElem? hj) hc')
  have k := callC2 (S := S) (n := n) (F := cd_pick) hS e
  have hcel : mCel i ρ S = .ok (.cel n) S := by unfold mCel; rw [hρ]
  rw [ev_Call, ev_ConsE, hcel]
  simp only [ev_bind_ok, ev_ConsE, ev_V, hB, ev_NilE, List.length_cons, List.length_nil, Nat.zero_add, if_true]
  exact k
/-- a def of the row alone and a value: a drawn thing -/
theorem wdrawn {F : Den} {i n : Nat} {c : Cell} {fb : DEn} {x : D} {R : D → Prop} (hB : fb ρ S = .ok x S) (hF : ∃ d c', F [.cel 0, .v x] [some c] = .ok d [some c'] ∧ RowOk c' ∧ R d) (hρ : ρ[i]? = some (some (.cel n)) := by rfl) (hS : S[n]? = some (some c) := by rfl)
    (q : ∀ d c', R d → RowOk c' → Q d (S.set n (some c'))) : Wp (mCall F 2 (mConsE (mCel i) (mConsE (mV fb) mNilE)) ρ S) Q E := by
  obtain ⟨d, c', e, hc', hR⟩ := hF
  refine Wp.ok ?_ (q d c' hR hc')
  have k := callC2 (S := S) (n := n) (F := F) hS e
  have hcel : mCel i ρ S = .ok (.cel n) S := by unfold mCel; rw [hρ]
  rw [ev_Call, ev_ConsE, hcel]
  simp only [ev_bind_ok, ev_ConsE, ev_V, hB, ev_NilE, List.length_cons, List.length_nil, Nat.zero_add, if_true]
  exact k
theorem callX1 {F : Den} {a : D} {S : Store} {x : Exn} (h : F [.v a] [] = .ex x []) : callD F [.v a] S = .ex x S := by
  unfold callD; simp [cels, getCs, renum, h, putCs]
theorem callX2 {F : Den} {a b : D} {S : Store} {x : Exn} (h : F [.v a, .v b] [] = .ex x []) : callD F [.v a, .v b] S = .ex x S := by
  unfold callD; simp [cels, getCs, renum, h, putCs]
theorem callX3 {F : Den} {a b c : D} {S : Store} {x : Exn} (h : F [.v a, .v b, .v c] [] = .ex x []) : callD F [.v a, .v b, .v c] S = .ex x S := by
  unfold callD; simp [cels, getCs, renum, h, putCs]
theorem callX4 {F : Den} {a b c e : D} {S : Store} {x : Exn} (h : F [.v a, .v b, .v c, .v e] [] = .ex x []) : callD F [.v a, .v b, .v c, .v e] S = .ex x S := by
  unfold callD; simp [cels, getCs, renum, h, putCs]
theorem xl1 {F : Den} {fa : DEn} {ρ : DL.Env} {S : Store} {x : D} {e : Exn} (ha : fa ρ S = .ok x S) (h : F [.v x] [] = .ex e []) : mCall F 1 (mConsE (mV fa) mNilE) ρ S = .ex e S := by
  rw [ev_Call, ev_ConsE, ev_V, ha]
  simp only [ev_bind_ok, ev_NilE, List.length_cons, List.length_nil, Nat.zero_add, if_true]
  exact callX1 h
theorem xl2 {F : Den} {fa fb : DEn} {ρ : DL.Env} {S : Store} {x y : D} {e : Exn} (ha : fa ρ S = .ok x S) (hb : fb ρ S = .ok y S) (h : F [.v x, .v y] [] = .ex e []) : mCall F 2 (mConsE (mV fa) (mConsE (mV fb) mNilE)) ρ S = .ex e S := by
  rw [ev_Call, ev_ConsE, ev_V, ha]
  simp only [ev_bind_ok, ev_ConsE, ev_V, hb, ev_NilE, List.length_cons, List.length_nil, Nat.zero_add, if_true]
  exact callX2 h
theorem xl3 {F : Den} {fa fb fc : DEn} {ρ : DL.Env} {S : Store} {x y z : D} {e : Exn} (ha : fa ρ S = .ok x S) (hb : fb ρ S = .ok y S) (hc : fc ρ S = .ok z S) (h : F [.v x, .v y, .v z] [] = .ex e []) : mCall F 3 (mConsE (mV fa) (mConsE (mV fb) (mConsE (mV fc) mNilE))) ρ S = .ex e S := by
  rw [ev_Call, ev_ConsE, ev_V, ha]
  simp only [ev_bind_ok, ev_ConsE, ev_V, hb, hc, ev_NilE, List.length_cons, List.length_nil, Nat.zero_add, if_true]
  exact callX3 h
theorem xl4 {F : Den} {fa fb fc fd : DEn} {ρ : DL.Env} {S : Store} {x y z u : D} {e : Exn} (ha : fa ρ S = .ok x S) (hb : fb ρ S = .ok y S) (hc : fc ρ S = .ok z S) (hd : fd ρ S = .ok u S) (h : F [.v x, .v y, .v z, .v u] [] = .ex e []) : mCall F 4 (mConsE (mV fa) (mConsE (mV fb) (mConsE (mV fc) (mConsE (mV fd) mNilE)))) ρ S = .ex e S := by
  rw [ev_Call, ev_ConsE, ev_V, ha]
  simp only [ev_bind_ok, ev_ConsE, ev_V, hb, hc, hd, ev_NilE, List.length_cons, List.length_nil, Nat.zero_add, if_true]
  exact callX4 h
/-- a lambda's end: what is raised is told -/
theorem lam_ex {N i : Nat} {cat : Str → Option Bool} {fs fr : DSn} {fb : DEn} {S : Store} {x : Exn} {r : D} (h : fb ρ S = .ex x S) (hr : ∀ S, lamEnd N i cat fs fr (.ex x S) = .ok r S) : mLam N i cat fs fr fb ρ S = .ok r S := by
  unfold mLam
  rw [h, hr]
/-- another answer behind the others -/
theorem app_lam {i : Nat} {f : DEn} {ρ : DL.Env} {S : Store} {ds : List D} {x : D} (h : f ρ S = .ok x S) (hl : ds.length ≤ 1000) (hi : ρ[i]? = some (some (.v (.lst ds))) := by rfl) : mSet i (mV (mOp gAdd (mVar i) (mLst (mCons f mNil)))) ρ S = .ok (.nx, ρ.set i (some (.v (.lst (ds ++ [x]))))) S := by
  refine st_set (opI (ev_var hi) (l1 h) ?_)
  exact g_addL (by rw [lim_is]; simp; omega)
end

theorem watI {ds : List D} {j : Nat} {d : D} (h : ds[j]? = some d) : atI ds (j : Int) = some d := by
  obtain ⟨h1, _⟩ := List.getElem?_eq_some_iff.mp h
  unfold L2.atI ixN
  rw [if_pos (by omega), if_pos (by omega)]
  simpa using h
theorem wisE {tab : Str → Str → Option Bool} {i : Nat} {t c : Str} {a : Option (Str × D)} {b : Bool} {ρ : DL.Env} {S : Store} (h : tab c t = some b) (hi : ρ[i]? = some (some (.exn ⟨c, a⟩)) := by rfl) : mIsE i tab t ρ S = .ok (.bl b) S := by
  unfold mIsE; rw [hi]; dsimp only; rw [h]; rfl
theorem wxf {fld : Str → Str → Bool} {i : Nat} {f : Str} {x : Str} {d : D} {ρ : DL.Env} {S : Store} (h : fld x f = true) (hi : ρ[i]? = some (some (.exn ⟨x, some (f, d)⟩)) := by rfl) : mXf i fld f ρ S = .ok d S := by
  unfold mXf; rw [hi]; dsimp only; rw [if_pos ⟨h, rfl⟩]
theorem wcut_to {ds : List D} {n : Nat} (h : n ≤ ds.length) : cutD ds none (some (n : Int)) = ds.take n := by
  unfold cutD
  have h1 : HT.sIx ds.length 0 none = 0 := rfl
  have h2 : HT.sIx ds.length ds.length (some (n : Int)) = n := by
    unfold HT.sIx
    simp
    rw [if_neg (by omega)]
    omega
  rw [h1, h2]
  simp
theorem wcut_from {ds : List D} {n : Nat} (h : n ≤ ds.length) : cutD ds (some (n : Int)) none = ds.drop n := by
  unfold cutD
  have h1 : HT.sIx ds.length 0 (some (n : Int)) = n := by
    unfold HT.sIx
    simp
    rw [if_neg (by omega)]
    omega
  have h2 : HT.sIx ds.length ds.length none = ds.length := rfl
  rw [h1, h2]
  exact List.take_of_length_le (by rw [List.length_drop]; omega)

section
variable {E : Exn → Store → Prop} {ρ : DL.Env} {S : Store}
theorem wmet {Q : D → Store → Prop} {i n : Nat} {g : List D → List D → Option (List D × D)} {fs : DDn} {ds0 : List D} (h : Wp (fs ρ S) (fun ys S1 => ∃ ds ds' d, S1[n]? = some (some (.lst ds)) ∧ g ds ys = some (ds', d) ∧ Q d (S1.set n (some (.lst ds')))) E) (h1 : ρ[i]? = some (some (.cel n)) := by rfl) (h2 : S[n]? = some (some (.lst ds0)) := by rfl) : Wp (mMet i g fs ρ S) Q E := by
  unfold mMet
  rw [h1]
  dsimp only
  rw [h2]
  dsimp only
  refine Wp.bind (h.mono (fun ys S1 q => ?_) fun _ _ q => q)
  obtain ⟨ds, ds', d, e1, e2, q⟩ := q
  rw [e1]
  dsimp only
  rw [e2]
  exact q
theorem wconsV {Q : List EV → Store → Prop} {fa : DEn} {fs : DAn} (h : Wp (fa ρ S) (fun x S1 => Wp (fs ρ S1) (fun xs S2 => Q (.v x :: xs) S2) E) E) : Wp (mConsE (mV fa) fs ρ S) Q E := by
  rw [ev_ConsE, ev_V]
  exact Wp.bind (Wp.bind (h.mono (fun x S1 q => Wp.bind q) fun _ _ q => q))
theorem wconsN {Q : List EV → Store → Prop} {fs : DAn} {f0 : DDn} {xs : List D} (h0 : f0 ρ S = .ok xs S) (hl : xs.length ≤ 1000) (h : Wp (fs ρ (S ++ [some (.lst xs)])) (fun ys S2 => Q (.cel S.length :: ys) S2) E) : Wp (mConsE (mNew f0) fs ρ S) Q E := by
  rw [ev_ConsE]
  have : mNew f0 ρ S = .ok (.cel S.length) (S ++ [some (.lst xs)]) := by
    unfold mNew
    rw [h0, ev_bind_ok, if_pos (by rw [lim_is]; omega)]
  rw [this]
  refine Wp.bind ?_
  show Wp ((fs ρ (S ++ [some (.lst xs)])).bind _) _ _
  exact Wp.bind h
theorem wnilE {Q : List EV → Store → Prop} (h : Q [] S) : Wp (mNilE ρ S) Q E := h
theorem wpar2 {Q : Ctl × DL.Env → Store → Prop} {i j : Nat} {fs : DAn} (h : Wp (fs ρ S) (fun es S1 => ∃ u v, es = [u, v] ∧ Q (.nx, (ρ.set i (some u)).set j (some v)) S1) (fun x S1 => Q (.ex x, ρ) S1)) : Wp (mPar2 i j fs ρ S) Q E := by
  rw [ev_Par2]
  refine Wp.bindS (h.mono (fun es S1 q => ?_) fun _ _ q => q)
  obtain ⟨u, v, rfl, q⟩ := q
  exact q
theorem wpar3 {Q : Ctl × DL.Env → Store → Prop} {i j l : Nat} {fs : DAn} (h : Wp (fs ρ S) (fun es S1 => ∃ u v w, es = [u, v, w] ∧ Q (.nx, ((ρ.set i (some u)).set j (some v)).set l (some w)) S1) (fun x S1 => Q (.ex x, ρ) S1)) : Wp (mPar3 i j l fs ρ S) Q E := by
  rw [ev_Par3]
  refine Wp.bindS (h.mono (fun es S1 q => ?_) fun _ _ q => q)
  obtain ⟨u, v, w, rfl, q⟩ := q
  exact q
theorem wrg1 {Q : List D → Store → Prop} {f : DEn} (h : Wp (f ρ S) (fun d S1 => ∃ n : Nat, d = .int (n : Int) ∧ n ≤ 1000000000 ∧ Q ((List.range n).map nI) S1) E) : Wp (mRg1 f ρ S) Q E := by
  unfold mRg1
  refine Wp.bind (h.mono (fun d S1 q => ?_) fun _ _ q => q)
  obtain ⟨n, rfl, hn, q⟩ := q
  show Wp (if (n : Int) ≤ 1000000000 ∧ -1000000000 ≤ (n : Int) then Out.ok (rgD 0 (n : Int)) S1 else .bad) Q E
  rw [if_pos ⟨by omega, by omega⟩, rgD_nat]
  exact q
/-- a loop over what is drawn first -/
theorem wforI {Q : Ctl × DL.Env → Store → Prop} {f : DSn} {fi : DDn} {t : Tg} (hi : Wp (fi ρ S) (fun ds S1 => Wp (forL t f ds ρ S1) Q E) (fun x S1 => Q (.ex x, ρ) S1)) : Wp (mFor fi t f ρ S) Q E := by
  rw [ev_For]
  exact Wp.bindS hi
theorem range_get {n j : Nat} {d : D} (h : ((List.range n).map nI)[j]? = some d) : j < n ∧ d = nI j := by
  obtain ⟨h1, h2⟩ := List.getElem?_eq_some_iff.mp h
  have hj : j < n := by simpa using h1
  refine ⟨hj, ?_⟩
  rw [← h2]
  simp
end

section
variable {E : Exn → Store → Prop} {ρ : DL.Env} {S : Store}
/-- a lambda whose body draws and raises -/
theorem wlamX {Q : D → Store → Prop} {N i : Nat} {cat : Str → Option Bool} {fs fr : DSn} {fb : DEn} (h : Wp (fb ρ S) (fun x S1 => False) (fun x S1 => ∃ r, lamEnd N i cat fs fr (.ex x S1) = .ok r S1 ∧ Q r S1)) : Wp (mLam N i cat fs fr fb ρ S) Q E := by
  unfold mLam
  cases e : fb ρ S with
  | ok a S1 => rw [e] at h; exact h.elim
  | bad => rw [e] at h; exact h.elim
  | ex x S1 =>
    rw [e] at h
    obtain ⟨r, e1, q⟩ := h
    rw [e1]
    exact q
theorem app_cell {i : Nat} {f : DEn} {ds : List D} {x : D} (h : f ρ S = .ok x S) (hl : ds.length ≤ 1000) (hi : ρ[i]? = some (some (.v (.lst ds))) := by rfl) : mSet i (mNewCat (mV (mVar i)) (mV (mLst (mCons f mNil)))) ρ S = .ok (.nx, ρ.set i (some (.cel S.length))) (S ++ [some (.lst (ds ++ [x]))]) := by
  rw [ev_Set]
  have e1 : mV (mVar i) ρ S = .ok (.v (.lst ds)) S := by rw [ev_V, ev_var hi]; rfl
  have e2 : mV (mLst (mCons f mNil)) ρ S = .ok (.v (.lst [x])) S := by rw [ev_V, l1 h]; rfl
  have e : mNewCat (mV (mVar i)) (mV (mLst (mCons f mNil))) ρ S = .ok (.cel S.length) (S ++ [some (.lst (ds ++ [x]))]) := by
    unfold mNewCat mCatWith
    rw [e1, ev_bind_ok, e2, ev_bind_ok]
    show (if ds.length + [x].length ≤ lim then _ else _) = _
    rw [if_pos (by rw [lim_is]; simp; omega)]
  rw [e]
  rfl
theorem l1s {fa : DEn} {x : D} (ha : fa ρ S = .ok x S) : mLst (mCons fa mNil) ρ S = .ok (.lst [x]) S := l1 ha
theorem t1w {fa : DEn} {x : D} (ha : fa ρ S = .ok x S) : mTup (mCons fa mNil) ρ S = .ok (.tup [x]) S := by
  rw [ev_Tup, ev_Cons, ha]
  show (if ([x] : List D).length ≤ lim then Out.ok (D.tup [x]) S else .bad) = _
  rw [if_pos (by rw [lim_is]; simp)]
end

section
variable {ρ : DL.Env} {S : Store}
/-- another answer behind those of a cell -/
theorem cat_lam {i n : Nat} {f : DEn} {ds : List D} {x : D} (h : f ρ S = .ok x S) (hl : ds.length ≤ 1000) (hS : S[n]? = some (some (.lst ds))) (hi : ρ[i]? = some (some (.cel n)) := by rfl) : mSet i (mV (mCat (mCel i) (mV (mLst (mCons f mNil))))) ρ S = .ok (.nx, ρ.set i (some (.v (.lst (ds ++ [x]))))) S := by
  refine st_set ?_
  have e1 : mCel i ρ S = .ok (.cel n) S := by unfold mCel; rw [hi]
  have e2 : mV (mLst (mCons f mNil)) ρ S = .ok (.v (.lst [x])) S := by rw [ev_V, l1 h]; rfl
  unfold mCat mCatWith
  rw [e1, ev_bind_ok, e2, ev_bind_ok]
  have e3 : lstOf S (.cel n) = some ds := by
    show (match S[n]? with
      | some (some (.lst ds)) => some ds
      | _ => none) = _
    rw [hS]
  rw [e3]
  show (if ds.length + [x].length ≤ lim then Out.ok (D.lst (ds ++ [x])) S else _) = _
  rw [if_pos (by rw [lim_is]; simp; omega)]
theorem met_lam {i n : Nat} {f : DEn} {ds : List D} {x : D} (h : f ρ S = .ok x S) (hl : ds.length ≤ 1000) (hS : S[n]? = some (some (.lst ds))) (hi : ρ[i]? = some (some (.cel n)) := by rfl) : mDrop (mMet i gApp (mCons f mNil)) ρ S = .ok (.nx, ρ) (S.set n (some (.lst (ds ++ [x])))) := by
  rw [ev_Drop, metL (ys := [x]) (ds := ds) (ds' := ds ++ [x]) (d := .non) hi hS (by rw [ev_Cons, h]; rfl) (by
    show (if ds.length < lim then some (ds ++ [x], D.non) else none) = _
    rw [if_pos (by rw [lim_is]; omega)])]
  rfl
theorem tail_get (c : Cell) (R : Store) (x : Cell) : (some c :: R ++ [some x])[R.length + 1]? = some (some x) := by
  rw [List.cons_append, List.getElem?_cons_succ, List.getElem?_append_right (Nat.le_refl _)]
  simp
theorem tail_set (c : Cell) (R : Store) (x y : Cell) : (some c :: R ++ [some x]).set (R.length + 1) (some y) = some c :: R ++ [some y] := by
  rw [List.cons_append, List.set_cons_succ, List.set_append_right _ _ (Nat.le_refl _)]
  simp
theorem cons1 {fa : DEn} {fs : DDn} {S1 S2 : Store} {x : D} {xs : List D} (h : fa ρ S = .ok x S1) (h2 : fs ρ S1 = .ok xs S2) : mCons fa fs ρ S = .ok (x :: xs) S2 := by
  rw [ev_Cons, h, ev_bind_ok, h2]; rfl
theorem lstOk {fs : DDn} {S1 : Store} {xs : List D} (h : fs ρ S = .ok xs S1) (hl : xs.length ≤ 1000) : mLst fs ρ S = .ok (.lst xs) S1 := by
  rw [ev_Lst, h, ev_bind_ok, if_pos (by rw [lim_is]; omega)]
theorem tupOk {fs : DDn} {S1 : Store} {xs : List D} (h : fs ρ S = .ok xs S1) (hl : xs.length ≤ 1000) : mTup fs ρ S = .ok (.tup xs) S1 := by
  rw [ev_Tup, h, ev_bind_ok, if_pos (by rw [lim_is]; omega)]
theorem denB_ex {N : Nat} {f : DSn} {es : List EV} {ρ1 : DL.Env} {S S1 : Store} {x : Exn} (h : f (es.map some ++ List.replicate (N - es.length) none) S = .ok (.ex x, ρ1) S1) : denB N f es S = .ex x (S1.take S.length) := by unfold denB; rw [h]
theorem seq_ex {f g : DSn} {ρ ρ1 : DL.Env} {S S1 : Store} {x : Exn} (h : f ρ S = .ok (.ex x, ρ1) S1) : mSeq f g ρ S = .ok (.ex x, ρ1) S1 := by unfold mSeq; rw [h]
theorem drop_ex {f : DEn} {ρ : DL.Env} {S : Store} {x : Exn} (h : f ρ S = .ex x S) : mDrop f ρ S = .ok (.ex x, ρ) S := by rw [ev_Drop, h]; rfl
theorem drop_ok {f : DEn} {ρ : DL.Env} {S S1 : Store} {d : D} (h : f ρ S = .ok d S1) : mDrop f ρ S = .ok (.nx, ρ) S1 := by rw [ev_Drop, h]; rfl
theorem set_ex {i : Nat} {f : DEn} {ρ : DL.Env} {S : Store} {x : Exn} (h : f ρ S = .ex x S) : mSet i (mV f) ρ S = .ok (.ex x, ρ) S := by rw [ev_Set, ev_V, h]; rfl
theorem forL_ex {tg : Tg} {body : DSn} {d : D} {ds : List D} {ρ ρ1 ρ2 : DL.Env} {S S2 : Store} {x : Exn} (h1 : asg tg d ρ = some ρ1) (h2 : body ρ1 S = .ok (.ex x, ρ2) S2) : forL tg body (d :: ds) ρ S = .ok (.ex x, ρ2) S2 := by
  conv => lhs; unfold forL
  rw [h1]
  dsimp only
  rw [h2]
theorem wrongL_at {F : D → Store → Out D} {S : Store} {d : D} {rest : List D} (hd : F d S = .ok (.bl false) S) : ∀ (ds : List D) (k : Nat), (∀ x ∈ ds, F x S = .ok (.bl true) S) → wrongL F (ds ++ d :: rest) k S = .ok (nI (k + ds.length)) S
  | [], k, _ => by
    show wrongL F (d :: rest) k S = _
    unfold wrongL
    rw [hd]
    rfl
  | x :: ds, k, h => by
    rw [List.cons_append]
    unfold wrongL
    rw [h x List.mem_cons_self]
    dsimp only
    rw [show (D.bl true).tru = some true from rfl]
    dsimp only
    rw [wrongL_at hd ds (k + 1) fun y hy => h y (List.mem_cons_of_mem _ hy), List.length_cons, show k + 1 + ds.length = k + (ds.length + 1) by omega]
end

theorem wdrawn3 {E : Exn → Store → Prop} {ρ : DL.Env} {S : Store} {Q : D → Store → Prop} {F : Den} {i n : Nat} {c : Cell} {fb fd : DEn} {x y : D} {R : D → Prop} (hB : fb ρ S = .ok x S) (hD : fd ρ S = .ok y S) (hF : ∃ d c', F [.cel 0, .v x, .v y] [some c] = .ok d [some c'] ∧ RowOk c' ∧ R d) (hρ : ρ[i]? = some (some (.cel n)) := by rfl) (hS : S[n]? = some (some c) := by rfl)
    (q : ∀ d c', R d → RowOk c' → Q d (S.set n (some c'))) : Wp (mCall F 3 (mConsE (mCel i) (mConsE (mV fb) (mConsE (mV fd) mNilE))) ρ S) Q E := by
  obtain ⟨d, c', e, hc', hR⟩ := hF
  refine Wp.ok ?_ (q d c' hR hc')
  have k := callC3 (S := S) (n := n) (F := F) hS e
  have hcel : mCel i ρ S = .ok (.cel n) S := by unfold mCel; rw [hρ]
  rw [ev_Call, ev_ConsE, hcel]
  simp only [ev_bind_ok, ev_ConsE, ev_V, hB, hD, ev_NilE, List.length_cons, List.length_nil, Nat.zero_add, if_true]
  exact k

theorem wcmp {E : Exn → Store → Prop} {ρ : DL.Env} {S : Store} {Q : Bool → Store → Prop} {fa fb : DEn} {g : D → D → Option Bool} (h : Wp (fa ρ S) (fun x S1 => Wp (fb ρ S1) (fun y S2 => ∃ z, g x y = some z ∧ Q z S2) E) E) : Wp (mCmp g fa fb ρ S) Q E := by
  rw [ev_Cmp]
  exact Wp.bind (h.mono (fun x S1 q => Wp.bind (q.mono (fun y S2 ⟨z, e, q⟩ => by rw [e]; exact q) fun _ _ q => q)) fun _ _ q => q)

theorem wnx {E : Exn → Store → Prop} {ρ : DL.Env} {S : Store} {f : DSn} {I : DL.Env → Store → Prop} {Q : Ctl × DL.Env → Store → Prop} (h : Wp (f ρ S) (fun cr S1 => cr.1 = Ctl.nx ∧ I cr.2 S1) (fun _ _ => False)) (q : ∀ ρ1 S1, I ρ1 S1 → Q (.nx, ρ1) S1) : Wp (f ρ S) Q E :=
  h.mono (fun cr S1 k => by
    obtain ⟨c, r⟩ := cr
    obtain ⟨rfl, k2⟩ : c = Ctl.nx ∧ I r S1 := k
    exact q _ _ k2) fun _ _ k => k.elim

/-- a comprehension of one clause without a condition -/
theorem wlcL {E : Exn → Store → Prop} {Q : List D → Store → Prop} {tg : Tg} {fe : DEn} {ρ : DL.Env} (I : Nat → List D → Store → Prop) : ∀ (ds : List D) (k : Nat) {acc : List D} {S : Store}, I k acc S →
    (∀ (j : Nat) (d : D) (acc : List D) (S : Store), ds[j]? = some d → I (k + j) acc S → ∃ ρ1, asg tg d ρ = some ρ1 ∧ Wp (fe ρ1 S) (fun y S1 => acc.length < lim ∧ I (k + j + 1) (acc ++ [y]) S1) (fun _ _ => False)) →
    (∀ acc S, I (k + ds.length) acc S → Q acc S) → Wp (lcL tg mYes fe ρ ds S acc) Q E
  | [], k, acc, S, h0, _, he => he acc S h0
  | d :: ds, k, acc, S, h0, hs, he => by
    obtain ⟨ρ1, e1, w⟩ := hs 0 d acc S rfl h0
    unfold lcL
    rw [e1]
    dsimp only
    rw [show mYes ρ1 S = .ok true S from rfl]
    simp only [ev_bd_ok, if_true]
    cases e : fe ρ1 S with
    | bad => rw [e] at w; exact w.elim
    | ex x S1 => rw [e] at w; exact w.elim
    | ok y S1 =>
      rw [e] at w
      obtain ⟨hl, h1⟩ := w
      simp only [ev_bd_ok]
      rw [if_pos hl]
      refine wlcL I ds (k + 1) (by simpa using h1) (fun j d acc S hd hI => ?_) fun acc S h => he acc S (by rw [List.length_cons, show k + (ds.length + 1) = k + 1 + ds.length by omega]; exact h)
      have := hs (j + 1) d acc S (by simpa using hd) (by rw [show k + (j + 1) = k + 1 + j by omega]; exact hI)
      rw [show k + (j + 1) + 1 = k + 1 + j + 1 by omega] at this
      exact this
theorem wlc {E : Exn → Store → Prop} {Q : D → Store → Prop} {fi : DDn} {tg : Tg} {fe : DEn} {vs : List Nat} {ρ : DL.Env} {S : Store} (h : Wp (fi ρ S) (fun ds S1 => Wp (lcL tg mYes fe (wipeE ρ vs) ds S1 []) (fun ys S2 => Q (.lst ys) S2) E) E) : Wp (mLc fi tg mYes fe vs ρ S) Q E := by
  rw [ev_Lc]
  exact Wp.bind (h.mono (fun ds S1 q => Wp.bind q) fun _ _ q => q)
theorem wbi {E : Exn → Store → Prop} {Q : D → Store → Prop} {gg : List D → Option D} {fs : DDn} {ρ : DL.Env} {S : Store} (h : Wp (fs ρ S) (fun xs S1 => ∃ d, gg xs = some d ∧ Q d S1) E) : Wp (mBi gg fs ρ S) Q E := by
  rw [ev_Bi]
  exact Wp.bind (h.mono (fun xs S1 ⟨d, e, q⟩ => by rw [e]; exact q) fun _ _ q => q)
/-- a comprehension's list as a new cell -/
theorem wsetLcV {E : Exn → Store → Prop} {Q : Ctl × DL.Env → Store → Prop} {i : Nat} {fi : DDn} {tg : Tg} {fe : DEn} {vs : List Nat} {ρ : DL.Env} {S : Store} (h : Wp (fi ρ S) (fun ds S1 => Wp (lcL tg mYes fe (wipeE ρ vs) ds S1 []) (fun ys S2 => Q (.nx, ρ.set i (some (.cel S2.length))) (S2 ++ [some (.lst ys)])) (fun x S1 => Q (.ex x, ρ) S1)) (fun x S1 => Q (.ex x, ρ) S1)) : Wp (mSetLcV i (mNewLc fi tg mYes fe vs) ρ S) Q E := by
  unfold mSetLcV mNewLc
  exact Wp.bindS (Wp.bind (h.mono (fun ds S1 q => Wp.bind q) fun _ _ q => q))
end Pr

/-! helpers over the layer: dicts of ints and texts -/
namespace Pr
open PySem L2 DL
/-- the first statement is done, the rest follows (no then_ for the unifier to open) -/
theorem wsq {Q : Ctl × DL.Env → Store → Prop} {E : Exn → Store → Prop} {f g : DSn} {ρ ρ1 : DL.Env} {S S1 : Store} (h : f ρ S = .ok (.nx, ρ1) S1) (k : Wp (g ρ1 S1) Q E) : Wp (mSeq f g ρ S) Q E := wseq (Wp.ok h (wthen k))
def NoX : Exn → Store → Prop := fun _ _ => False
/-- it ends without a jump, and I holds -/
def Nx (I : DL.Env → Store → Prop) : Ctl × DL.Env → Store → Prop := fun cr S => cr.1 = Ctl.nx ∧ I cr.2 S
theorem Nx.mk {I : DL.Env → Store → Prop} {ρ : DL.Env} {S : Store} (h : I ρ S) : Nx I (.nx, ρ) S := ⟨rfl, h⟩
theorem wsqW {Q : Ctl × DL.Env → Store → Prop} {E : Exn → Store → Prop} {f g : DSn} {ρ : DL.Env} {S : Store} {I : DL.Env → Store → Prop} (h : Wp (f ρ S) (Nx I) NoX) (k : ∀ ρ1 S1, I ρ1 S1 → Wp (g ρ1 S1) Q E) : Wp (mSeq f g ρ S) Q E := wseq (wnx h fun ρ1 S1 i => wthen (k ρ1 S1 i))
/-- a turn that ends without a jump, as wloop asks for it -/
theorem wturn {Q : Ctl × DL.Env → Store → Prop} {f : DSn} {ρ : DL.Env} {S : Store} {I : DL.Env → Store → Prop} (h : Wp (f ρ S) (Nx I) NoX) (q : ∀ ρ1 S1, I ρ1 S1 → Q (.nx, ρ1) S1) : Wp (f ρ S) Q (fun _ _ => False) :=
  h.mono (fun cr S1 k => by
    obtain ⟨c, r⟩ := cr
    obtain ⟨rfl, k2⟩ : c = Ctl.nx ∧ I r S1 := k
    exact q _ _ k2) fun _ _ k => k.elim
/-- a draw whose bound is drawn -/
theorem wdrawW {E : Exn → Store → Prop} {ρ : DL.Env} {S : Store} {Q : D → Store → Prop} {F : Den} {i n : Nat} {fb : DEn} (hB : Wp (fb ρ S) (fun d S1 => ∃ B c, d = .int B ∧ 0 < B ∧ B < 1073741824 ∧ RowOk c ∧ S1[n]? = some (some c) ∧ ∀ a c', 0 ≤ a → a < B → RowOk c' → Q (.int a) (S1.set n (some c'))) E) (hρ : ρ[i]? = some (some (.cel n)) := by rfl) (hF : F = cd_taken := by rfl) : Wp (mCall F 2 (mConsE (mCel i) (mConsE (mV fb) mNilE)) ρ S) Q E := by
  subst hF
  have hcel : ∀ S, mCel i ρ S = .ok (.cel n) S := fun S => by unfold mCel; rw [hρ]
  rw [ev_Call, ev_ConsE, hcel, ev_bind_ok, ev_ConsE, ev_V]
  refine Wp.bind (Wp.bind (Wp.bind (Wp.bind (hB.mono (fun d S1 q => ?_) fun _ _ q => q))))
  obtain ⟨B, c, rfl, h0, h1, hc, hS, q⟩ := q
  obtain ⟨a, c', a0, a1, hc', e⟩ := taken hc h0 h1
  have k := callC2 (S := S1) (n := n) (F := cd_taken) hS e
  show Wp (callD cd_taken [.cel n, .v (.int B)] S1) Q E
  rw [k]
  exact q a c' a0 a1 hc'
theorem ixDk {i n : Nat} {fb : DEn} {ρ : DL.Env} {S : Store} {kvs : List KD} {y d : D} {k : L2.Key} (h1 : ρ[i]? = some (some (.cel n))) (h2 : S[n]? = some (some (.dk kvs))) (h3 : fb ρ S = .ok y S) (h4 : keyD y = some k) (h5 : valD kvs k = some d) : mIxD i fb ρ S = .ok d S := by
  unfold mIxD
  rw [h1]
  dsimp only
  rw [h3, ev_bind_ok, h4, h2]
  dsimp only
  rw [h5]
  rfl
theorem putDk {i n : Nat} {fi : DEn} {ρ : DL.Env} {S : Store} {kvs : List KD} {y d : D} {k : L2.Key} (h1 : ρ[i]? = some (some (.cel n))) (h2 : S[n]? = some (some (.dk kvs))) (h3 : fi ρ S = .ok y S) (h4 : keyD y = some k) (h5 : kvs.length ≤ 1000) : gDk i fi d ρ S = .ok ρ (S.set n (some (.dk (putD kvs k d)))) := by
  unfold gDk
  rw [h1]
  dsimp only
  rw [h3, ev_bd_ok, h4, h2]
  dsimp only
  rw [if_pos (by omega)]
/-- it returns v -/
def Rt (v : D) : Ctl × DL.Env → Store → Prop := fun cr _ => ∃ ρ, cr = (.rt v, ρ)
theorem rtI {v : D} {ρ : DL.Env} {S : Store} : Rt v (.rt v, ρ) S := ⟨ρ, rfl⟩
theorem denR {N : Nat} {f : DSn} {es : List EV} {v : D} (h : Wp (f (es.map some ++ List.replicate (N - es.length) none) []) (Rt v) NoX) : denB N f es [] = .ok v [] := by
  unfold denB
  cases e : f (es.map some ++ List.replicate (N - es.length) none) [] with
  | bad => rw [e] at h; exact h.elim
  | ex x S1 => rw [e] at h; exact h.elim
  | ok cr S1 =>
    rw [e] at h
    obtain ⟨ρ, rfl⟩ : Rt v cr S1 := h
    rfl
theorem rets {f : DEn} {v : D} {ρ : DL.Env} {S S1 : Store} (h : f ρ S = .ok v S1) : Wp (mRet f ρ S) (Rt v) NoX := wret (Wp.ok h rtI)
/-- a dict of numbers: what f tells of each of l -/
def LD {α : Type} (e : α → D) (f : Nat → α) (l : List Nat) : List KD := l.map fun j : Nat => ((Sum.inl (j : Int) : L2.Key), e (f j))
theorem LD_val {α : Type} {e : α → D} {f : Nat → α} {j : Nat} : ∀ {l : List Nat}, j ∈ l → valD (LD e f l) (.inl (j : Int)) = some (e (f j))
  | [], h => by cases h
  | x :: l, h => by
    by_cases hx : x = j
    · subst hx
      simp [LD, valD, List.find?_cons]
    · have hj : j ∈ l := by
        rcases List.mem_cons.mp h with z | z
        · exact absurd z.symm hx
        · exact z
      have := LD_val (e := e) (f := f) hj
      have ne : ¬ ((Sum.inl (x : Int) : L2.Key) = .inl (j : Int)) := fun z => hx (by injection z with z; omega)
      have e1 : valD (LD e f (x :: l)) (.inl (j : Int)) = valD (LD e f l) (.inl (j : Int)) := by
        show ((((Sum.inl (x : Int), e (f x)) :: LD e f l).find? fun kv => decide (kv.1 = .inl (j : Int))).map (·.2)) = _
        rw [List.find?_cons, decide_eq_false (p := ((Sum.inl (x : Int) : L2.Key) = .inl (j : Int))) ne]
        rfl
      rw [e1, this]
theorem LD_any {α : Type} {e : α → D} {f : Nat → α} {j : Nat} {l : List Nat} : ((LD e f l).any fun kv => decide (kv.1 = (.inl (j : Int) : L2.Key))) = decide (j ∈ l) := by
  induction l with
  | nil => rfl
  | cons x l ih =>
    show ((((Sum.inl (x : Int), e (f x)) : KD) :: LD e f l).any fun kv => decide (kv.1 = .inl (j : Int))) = _
    rw [List.any_cons, ih]
    have : decide ((Sum.inl (x : Int) : L2.Key) = .inl (j : Int)) = decide (j = x) := decide_eq_decide.mpr ⟨fun z => by injection z with z; omega, fun z => by rw [z]⟩
    rw [this]
    by_cases h : j = x <;> simp [h]
theorem LD_val0 {α : Type} {e : α → D} {f : Nat → α} {j : Nat} {l : List Nat} (h : j ∉ l) : valD (LD e f l) (.inl (j : Int)) = none := by
  unfold valD
  have : (LD e f l).find? (fun kv => decide (kv.1 = (.inl (j : Int) : L2.Key))) = none := by
    rw [List.find?_eq_none]
    intro kv hk
    have a := LD_any (e := e) (f := f) (j := j) (l := l)
    rw [decide_eq_false h] at a
    have := List.any_eq_false.mp a kv hk
    exact this
  rw [this]; rfl
theorem LD_put {α : Type} {e : α → D} {f : Nat → α} {j : Nat} {l : List Nat} (h : j ∉ l) (x : D) : putD (LD e f l) (.inl (j : Int)) x = LD e f l ++ [(.inl (j : Int), x)] := by
  unfold putD
  rw [LD_any, decide_eq_false h]
  rfl
theorem LD_snoc {α : Type} {e : α → D} {f : Nat → α} {j : Nat} {l : List Nat} : LD e f l ++ [((.inl (j : Int) : L2.Key), e (f j))] = LD e f (l ++ [j]) := by
  unfold LD
  rw [List.map_append]
  rfl
theorem LD_len {α : Type} {e : α → D} {f : Nat → α} {l : List Nat} : (LD e f l).length = l.length := List.length_map _
theorem LD_put2 {α : Type} {e : α → D} {f : Nat → α} {j : Nat} {l : List Nat} (h : j ∉ l) (x y : D) : putD (LD e f l ++ [(.inl (j : Int), x)]) (.inl (j : Int)) y = LD e f l ++ [(.inl (j : Int), y)] := by
  unfold putD
  rw [if_pos (by simp)]
  rw [List.map_append]
  congr 1
  · have : ∀ kv ∈ LD e f l, (fun kv : KD => if kv.1 = (.inl (j : Int) : L2.Key) then (kv.1, y) else kv) kv = kv := fun kv hk => by
      have a := LD_any (e := e) (f := f) (j := j) (l := l)
      rw [decide_eq_false h] at a
      have := List.any_eq_false.mp a kv hk
      exact if_neg (by simpa using this)
    rw [List.map_congr_left this]
    exact List.map_id' _
  · simp
theorem LD_val2 {α : Type} {e : α → D} {f : Nat → α} {j : Nat} {l : List Nat} (h : j ∉ l) (x : D) : valD (LD e f l ++ [(.inl (j : Int), x)]) (.inl (j : Int)) = some x := by
  have a := LD_val0 (e := e) (f := f) h
  unfold valD at a ⊢
  rw [Option.map_eq_none_iff] at a
  rw [List.find?_append, a]
  simp
end Pr

/-! plain values, the defs that many laws share -/
namespace Cm
open PySem L2 DL Pr
/-- plain values without bools, at most n deep -/
inductive Sm : Nat → D → Prop
  | non (n : Nat) : Sm n .non
  | int (n : Nat) (i : Int) : Sm n (.int i)
  | str (n : Nat) (z : Str) : (D.str z).okd = true → Sm n (.str z)
  | tup (n : Nat) (ds : List D) : (∀ d ∈ ds, Sm n d) → Sm (n + 1) (.tup ds)
  | lst (n : Nat) (ds : List D) : (∀ d ∈ ds, Sm n d) → Sm (n + 1) (.lst ds)
def Lay (k : Nat) (d : D) : Prop := d.py.canLay0 = true ∧ d.py.depth ≤ k
theorem lay_all {k : Nat} : ∀ {ds : List D}, (∀ d ∈ ds, Lay k d) → PyData.canLayAll0 (D.pys ds) = true ∧ PyData.depthAll (D.pys ds) ≤ k
  | [], _ => ⟨rfl, Nat.zero_le _⟩
  | d :: ds, h => by
    obtain ⟨a, b⟩ := h d List.mem_cons_self
    obtain ⟨a', b'⟩ := lay_all (ds := ds) fun d hd => h d (List.mem_cons_of_mem _ hd)
    refine ⟨?_, ?_⟩
    · show (d.py.canLay0 && PyData.canLayAll0 (D.pys ds)) = true
      rw [a, a']; rfl
    · show max d.py.depth (PyData.depthAll (D.pys ds)) ≤ k
      omega
theorem lay_tup {k : Nat} {ds : List D} (h : ∀ d ∈ ds, Lay k d) : Lay (k + 1) (.tup ds) := ⟨(lay_all h).1, Nat.succ_le_succ (lay_all h).2⟩
theorem lay_lst {k : Nat} {ds : List D} (h : ∀ d ∈ ds, Lay k d) : Lay (k + 1) (.lst ds) := ⟨(lay_all h).1, Nat.succ_le_succ (lay_all h).2⟩
theorem lay_okd {k : Nat} {d : D} (h : Lay k d) (hk : k ≤ 64) : d.okd = true := by
  show (d.py.canLay0 && decide (d.py.depth ≤ 64)) = true
  rw [h.1, decide_eq_true (Nat.le_trans h.2 hk)]
  rfl
theorem lay_int {k : Nat} (n : Int) : Lay k (.int n) := ⟨rfl, Nat.zero_le _⟩
theorem lay_bl {k : Nat} (b : Bool) : Lay k (.bl b) := ⟨rfl, Nat.zero_le _⟩
theorem lay_str {k : Nat} {z : Str} (h : (D.str z).okd = true) : Lay k (.str z) := by
  have h : ((D.str z).py.canLay0 && decide ((D.str z).py.depth ≤ 64)) = true := h
  rw [Bool.and_eq_true] at h
  exact ⟨h.1, Nat.zero_le _⟩
theorem Sm.lay {n : Nat} {d : D} (h : Sm n d) : Lay n d := by
  induction h with
  | non n => exact ⟨rfl, Nat.zero_le _⟩
  | int n i => exact lay_int i
  | str n z h => exact lay_str h
  | tup n ds _ ih => exact lay_tup ih
  | lst n ds _ ih => exact lay_lst ih
theorem Sm.okd {n : Nat} {d : D} (h : Sm n d) (hn : n ≤ 64) : d.okd = true := lay_okd h.lay hn
theorem zip_iff {n m : Nat} : ∀ {ds es : List D}, (∀ d ∈ ds, ∀ {e : D}, Sm m e → (deq d e = true ↔ d = e)) → (∀ e ∈ es, Sm m e) → ((decide (ds.length = es.length) && (List.zipWith deq ds es).all id) = true ↔ ds = es)
  | [], [], _, _ => by simp
  | [], e :: es, _, _ => by simp
  | d :: ds, [], _, _ => by simp
  | d :: ds, e :: es, h, h' => by
    have a := h d List.mem_cons_self (h' e List.mem_cons_self)
    have b := zip_iff (n := n) (ds := ds) (es := es) (fun d hd => h d (List.mem_cons_of_mem _ hd)) fun e he => h' e (List.mem_cons_of_mem _ he)
    simp only [List.length_cons, List.zipWith_cons_cons, List.all_cons, id, Bool.and_eq_true, decide_eq_true_eq, List.cons.injEq, Nat.add_right_cancel_iff] at b ⊢
    rw [← b, ← a]
    constructor
    · rintro ⟨x, y, z⟩; exact ⟨y, x, z⟩
    · rintro ⟨y, x, z⟩; exact ⟨x, y, z⟩
theorem Sm.deq {n m : Nat} {d e : D} (h : Sm n d) (h' : Sm m e) : DL.deq d e = true ↔ d = e := by
  induction h generalizing m e with
  | non n => cases h' <;> first | exact ⟨fun _ => rfl, fun _ => rfl⟩ | exact ⟨fun z => (by cases z), fun z => (by cases z)⟩
  | int n i =>
    cases h' with
    | int m j =>
      rw [deq_ii]
      constructor
      · intro z; rw [beq_iff_eq] at z; rw [z]
      · intro z; cases z; simp
    | _ => exact ⟨fun z => (by cases z), fun z => (by cases z)⟩
  | str n z _ =>
    cases h' with
    | str m y _ =>
      rw [deq_ss]
      constructor
      · intro k; rw [beq_iff_eq] at k; rw [k]
      · intro k; cases k; simp
    | _ => exact ⟨fun z => (by cases z), fun z => (by cases z)⟩
  | tup n ds _ ih =>
    cases h' with
    | tup m es he =>
      rw [deq_tt, zip_iff (n := n) (fun d hd _ k => ih d hd k) he]
      exact ⟨fun z => by rw [z], fun z => by cases z; rfl⟩
    | _ => exact ⟨fun z => (by cases z), fun z => (by cases z)⟩
  | lst n ds _ ih =>
    cases h' with
    | lst m es he =>
      rw [deq_ll, zip_iff (n := n) (fun d hd _ k => ih d hd k) he]
      exact ⟨fun z => by rw [z], fun z => by cases z; rfl⟩
    | _ => exact ⟨fun z => (by cases z), fun z => (by cases z)⟩
theorem bool_of {a b : Bool} {p : Prop} (h : a = true ↔ p) (h' : b = true ↔ p) : a = b := by
  cases a <;> cases b <;> simp_all
theorem gEq_sm {n m : Nat} {d e : D} {b : Bool} (h : Sm n d) (h' : Sm m e) (hn : n ≤ 64) (hm : m ≤ 64) (hb : b = true ↔ d = e) : gEq d e = some b := by
  have : gEq d e = some (DL.deq d e) := if_pos ⟨h.okd hn, h'.okd hm⟩
  rw [this, bool_of (h.deq h') hb]
theorem gNe_sm {n m : Nat} {d e : D} {b : Bool} (h : Sm n d) (h' : Sm m e) (hn : n ≤ 64) (hm : m ≤ 64) (hb : b = true ↔ d = e) : gNe d e = some (!b) := by
  have : gNe d e = some (!DL.deq d e) := if_pos ⟨h.okd hn, h'.okd hm⟩
  rw [this, bool_of (h.deq h') hb]
/-- x in [..], the values images of data of one kind -/
theorem gIn_sm {α : Type} [DecidableEq α] {n : Nat} {emb : α → D} (he : ∀ a, Sm n (emb a)) (hn : n < 64) (hi : ∀ a b, emb a = emb b → a = b) (a : α) (l : List α) : gIn (emb a) (.lst (l.map emb)) = some (decide (a ∈ l)) := by
  have ok : (D.lst (l.map emb)).okd = true := (Sm.lst n _ fun d hd => by obtain ⟨x, _, rfl⟩ := List.mem_map.mp hd; exact he x).okd (by omega)
  have e : gIn (emb a) (.lst (l.map emb)) = some ((l.map emb).any fun z => DL.deq z (emb a)) := if_pos ⟨(he a).okd (by omega), ok⟩
  rw [e]
  congr 1
  refine bool_of (p := a ∈ l) ?_ (by simp)
  rw [List.any_eq_true]
  constructor
  · rintro ⟨d, hd, q⟩
    obtain ⟨x, hx, rfl⟩ := List.mem_map.mp hd
    rw [(he x).deq (he a)] at q
    rw [← hi _ _ q]; exact hx
  · intro h
    exact ⟨emb a, List.mem_map.mpr ⟨a, h, rfl⟩, ((he a).deq (he a)).mpr rfl⟩
theorem gNotIn_sm {α : Type} [DecidableEq α] {n : Nat} {emb : α → D} (he : ∀ a, Sm n (emb a)) (hn : n < 64) (hi : ∀ a b, emb a = emb b → a = b) (a : α) (l : List α) : gNotIn (emb a) (.lst (l.map emb)) = some (!decide (a ∈ l)) := by
  unfold gNotIn
  rw [gIn_sm he hn hi]
  rfl
/-! comprehensions whose tests draw -/
theorem wlcT {E : Exn → Store → Prop} {Q : List D → Store → Prop} {tg : Tg} {tt : DTn} {fe : DEn} {ρ : DL.Env} (I : Nat → List D → Store → Prop) : ∀ (ds : List D) (k : Nat) {acc : List D} {S : Store}, I k acc S →
    (∀ (j : Nat) (d : D) (acc : List D) (S : Store), ds[j]? = some d → I (k + j) acc S → ∃ ρ1, asg tg d ρ = some ρ1 ∧ Wp (tt ρ1 S) (fun b S1 => if b = true then Wp (fe ρ1 S1) (fun y S2 => acc.length < lim ∧ I (k + j + 1) (acc ++ [y]) S2) (fun _ _ => False) else I (k + j + 1) acc S1) (fun _ _ => False)) →
    (∀ acc S, I (k + ds.length) acc S → Q acc S) → Wp (lcL tg tt fe ρ ds S acc) Q E
  | [], k, acc, S, h0, _, he => he acc S h0
  | d :: ds, k, acc, S, h0, hs, he => by
    obtain ⟨ρ1, e1, w⟩ := hs 0 d acc S rfl h0
    have nxt : ∀ acc S, I (k + 1) acc S → Wp (lcL tg tt fe ρ ds S acc) Q E := fun acc S h => wlcT I ds (k + 1) h (fun j d acc S hd hI => by
      have := hs (j + 1) d acc S (by simpa using hd) (by rw [show k + (j + 1) = k + 1 + j by omega]; exact hI)
      rw [show k + (j + 1) + 1 = k + 1 + j + 1 by omega] at this
      exact this) fun acc S h => he acc S (by rw [List.length_cons, show k + (ds.length + 1) = k + 1 + ds.length by omega]; exact h)
    unfold lcL
    rw [e1]
    dsimp only
    cases et : tt ρ1 S with
    | bad => rw [et] at w; exact w.elim
    | ex x S1 => rw [et] at w; exact w.elim
    | ok b S1 =>
      rw [et] at w
      simp only [ev_bd_ok]
      cases b with
      | false => exact nxt _ _ w
      | true =>
        have w : Wp (fe ρ1 S1) (fun y S2 => acc.length < lim ∧ I (k + 0 + 1) (acc ++ [y]) S2) (fun _ _ => False) := w
        simp only [if_true]
        cases e : fe ρ1 S1 with
        | bad => rw [e] at w; exact w.elim
        | ex x S2 => rw [e] at w; exact w.elim
        | ok y S2 =>
          rw [e] at w
          obtain ⟨hl, h1⟩ := w
          simp only [ev_bd_ok]
          rw [if_pos hl]
          exact nxt _ _ h1
theorem wlcG {E : Exn → Store → Prop} {Q : D → Store → Prop} {fi : DDn} {tg : Tg} {tt : DTn} {fe : DEn} {vs : List Nat} {ρ : DL.Env} {S : Store} (h : Wp (fi ρ S) (fun ds S1 => Wp (lcL tg tt fe (wipeE ρ vs) ds S1 []) (fun ys S2 => Q (.lst ys) S2) E) E) : Wp (mLc fi tg tt fe vs ρ S) Q E := by
  rw [ev_Lc]
  exact Wp.bind (h.mono (fun ds S1 q => Wp.bind q) fun _ _ q => q)
/-! the law's comparison -/
theorem tru_of {f : DEn} {ρ : DL.Env} {S S1 : Store} {b : Bool} (h : f ρ S = .ok (.bl b) S1) : mTru f ρ S = .ok b S1 := by
  rw [ev_Tru, h]; rfl
theorem filter_false {α : Type} (l : List α) : l.filter (fun _ => false) = [] := List.filter_eq_nil_iff.mpr fun _ _ => by simp
def cb_alike (rec : Den) : DSn :=
  (mSeq (mIfS (mTru (mIsT2 "tuple" "list" (mVar 1))) (mSeq (mIfS (mOrT (mNotT (mTru (mIsT2 "tuple" "list" (mVar 0)))) (mCmp gNe (mIsT "list" (mVar 0)) (mIsT "list" (mVar 1)))) (mRet (mC (.bl false))) mSkip)
  (mSeq (mIfS (mCmp gNe (mBi gLen (mCons (mVar 0) mNil)) (mBi gLen (mCons (mVar 1) mNil))) (mRet (mC (.bl false))) mSkip)
  (mRet (mB (mCmp gEq (mLc (mRg1 (mBi gLen (mCons (mVar 1) mNil))) (.nm 2) (mNotT (mTru (mCall rec 2 (mConsE (mV (mOp gIx (mVar 0) (mVar 2))) (mConsE (mV (mOp gIx (mVar 1) (mVar 2))) mNilE))))) (mVar 2) [2]) (mLst mNil)))))) mSkip)
  (mSeq (mIfS (mOrT (mCmp gIsN (mVar 1) (mC .non)) (mTru (mIsT "str" (mVar 1)))) (mRet (mAnd (mB (mCmp gEq (mVar 0) (mVar 1))) (mB (mCmp gEq (mIsT "str" (mVar 0)) (mIsT "str" (mVar 1)))))) mSkip)
  (mRet (mAnd (mIsT "int" (mVar 0)) (mAnd (mB (mCmp gEq (mIsT "bool" (mVar 0)) (mIsT "bool" (mVar 1)))) (mB (mCmp gEq (mVar 0) (mVar 1))))))))
def cd_alike : Nat → Den
  | 0 => denB 3 mNever
  | n + 1 => denB 3 (cb_alike (cd_alike n))
theorem gEq_bb (a b : Bool) : gEq (.bl a) (.bl b) = some (a == b) := by cases a <;> cases b <;> decide +kernel
theorem gNe_bb (a b : Bool) : gNe (.bl a) (.bl b) = some (!(a == b)) := by cases a <;> cases b <;> decide +kernel
theorem gEq_iiX (m n : Int) : gEq (.int m) (.int n) = some (m == n) := rfl
theorem gNe_iiX (m n : Int) : gNe (.int m) (.int n) = some (!(m == n)) := rfl
theorem gEq_nil0 : gEq (.lst []) (.lst []) = some true := by decide +kernel
theorem gEq_sx {z : Str} (h : (D.str z).okd = true) : gEq (.str z) (.str z) = some true := by
  have e : gEq (.str z) (.str z) = some (deq (.str z) (.str z)) := if_pos ⟨h, h⟩
  rw [e, deq_ss]; simp
theorem ty2_t (ds : List D) : isTy2 (.tup ds) "tuple" "list" = some true := by unfold isTy2; simp
theorem ty2_l (ds : List D) : isTy2 (.lst ds) "tuple" "list" = some true := by unfold isTy2; simp
theorem ty2_i (n : Int) : isTy2 (.int n) "tuple" "list" = some false := by unfold isTy2; simp
theorem ty2_s (z : Str) : isTy2 (.str z) "tuple" "list" = some false := by unfold isTy2; simp
theorem ty2_b (z : Bool) : isTy2 (.bl z) "tuple" "list" = some false := by unfold isTy2; simp
theorem kb_nt : kitB "NoneType" "tuple" = some false := by decide +kernel
theorem kb_nl : kitB "NoneType" "list" = some false := by decide +kernel
theorem ty2_n : isTy2 .non "tuple" "list" = some false := by unfold isTy2 isTy; simp [D.ty, kb_nt, kb_nl]
theorem gEq_nn : gEq .non .non = some true := by decide +kernel
/-- values that are alike to themselves -/
inductive Pl : Nat → D → Prop
  | non (n : Nat) : Pl (n + 1) .non
  | bl (n : Nat) (b : Bool) : Pl (n + 1) (.bl b)
  | int (n : Nat) (i : Int) : Pl (n + 1) (.int i)
  | str (n : Nat) (z : Str) : (D.str z).okd = true → Pl (n + 1) (.str z)
  | tup (n : Nat) (ds : List D) : ds.length ≤ 100000 → (∀ d ∈ ds, Pl n d) → Pl (n + 1) (.tup ds)
  | lst (n : Nat) (ds : List D) : ds.length ≤ 100000 → (∀ d ∈ ds, Pl n d) → Pl (n + 1) (.lst ds)
theorem alike_seq {n : Nat} {ds : List D} (mk : List D → D) (hmk : (∀ ds, mk ds = .tup ds) ∨ (∀ ds, mk ds = .lst ds)) (hl : ds.length ≤ 100000) (ih : ∀ d ∈ ds, cd_alike n [.v d, .v d] [] = .ok (.bl true) []) :
    cd_alike (n + 1) [.v (mk ds), .v (mk ds)] [] = .ok (.bl true) [] := by
  have t2 : isTy2 (mk ds) "tuple" "list" = some true := by
    rcases hmk with h | h
    · rw [h]; exact ty2_t ds
    · rw [h]; exact ty2_l ds
  have tl : ∃ b, isTy (mk ds) "list" = some b := by
    rcases hmk with h | h
    · rw [h]; exact ⟨_, ty_tl⟩
    · rw [h]; exact ⟨_, ty_ll⟩
  obtain ⟨b, tl⟩ := tl
  have gl : gLen [mk ds] = some (.int (ds.length : Int)) := by
    rcases hmk with h | h
    · rw [h]; exact g_lenT
    · rw [h]; exact g_lenL
  have gx : ∀ i : Nat, i < ds.length → ∃ d, d ∈ ds ∧ gIx (mk ds) (.int (i : Int)) = some d := fun i hi => by
    refine ⟨ds[i], List.getElem_mem hi, ?_⟩
    rcases hmk with h | h
    · rw [h, g_ixT]; exact atI_nat (List.getElem?_eq_getElem hi)
    · rw [h, g_ixL]; exact atI_nat (List.getElem?_eq_getElem hi)
  refine denB_rt (ρ1 := [some (.v (mk ds)), some (.v (mk ds)), none]) (S1 := []) (seq_rt ?_)
  have l := lcT (tg := .nm 2) (tt := mNotT (mTru (mCall (cd_alike n) 2 (mConsE (mV (mOp gIx (mVar 0) (mVar 2))) (mConsE (mV (mOp gIx (mVar 1) (mVar 2))) mNilE))))) (fe := mVar 2) (ρ := [some (.v (mk ds)), some (.v (mk ds)), none]) (S := []) (fun i : Nat => D.int (i : Int)) (fun _ => false) (fun i : Nat => D.int (i : Int)) (List.range ds.length) (fun i hi => by
    obtain ⟨d, hd, e⟩ := gx i (List.mem_range.mp hi)
    have c := call2 (S := []) (ih d hd)
    exact ⟨[some (.v (mk ds)), some (.v (mk ds)), some (.v (.int (i : Int)))], rfl, by simp [e, c], fun h => by cases h⟩) [] (by rw [lim_is]; simp; omega)
  rw [filter_false] at l
  have e1 : mLc (mRg1 (mBi gLen (mCons (mVar 1) mNil))) (.nm 2) (mNotT (mTru (mCall (cd_alike n) 2 (mConsE (mV (mOp gIx (mVar 0) (mVar 2))) (mConsE (mV (mOp gIx (mVar 1) (mVar 2))) mNilE))))) (mVar 2) [2] [some (.v (mk ds)), some (.v (mk ds)), none] [] = .ok (.lst []) [] := by
    rw [ev_Lc]
    have e0 : mRg1 (mBi gLen (mCons (mVar 1) mNil)) [some (.v (mk ds)), some (.v (mk ds)), none] [] = .ok ((List.range ds.length).map fun i : Nat => D.int (i : Int)) [] := by
      have e2 : mBi gLen (mCons (mVar 1) mNil) [some (.v (mk ds)), some (.v (mk ds)), none] [] = .ok (.int (ds.length : Int)) [] := by simp [gl]
      unfold mRg1
      rw [e2, ev_bind_ok]
      dsimp only
      rw [if_pos (by omega), rgD_nat]
    rw [e0]
    show (lcL _ _ _ (wipeE _ _) _ [] []).bind _ = _
    rw [show wipeE [some (.v (mk ds)), some (.v (mk ds)), none] [2] = [some (.v (mk ds)), some (.v (mk ds)), none] from rfl, l]
    rfl
  have e0 : mTru (mIsT2 "tuple" "list" (mVar 1)) [some (.v (mk ds)), some (.v (mk ds)), none] [] = .ok true [] := by simp [t2]
  change mIfS _ _ _ [some (.v (mk ds)), some (.v (mk ds)), none] [] = _
  rw [ev_IfS, e0, ev_bindS_ok, if_pos rfl]
  refine (seq_nx (ρ1 := [some (.v (mk ds)), some (.v (mk ds)), none]) (S1 := []) (by simp [t2, tl, gNe_bb])).trans ((seq_nx (ρ1 := [some (.v (mk ds)), some (.v (mk ds)), none]) (S1 := []) (by simp [gl, gNe_iiX])).trans ?_)
  rw [ev_Ret, ev_B, ev_Cmp, e1]
  simp [gEq_nil0, lim_is]
theorem alike : ∀ {n : Nat} {d : D}, Pl n d → cd_alike n [.v d, .v d] [] = .ok (.bl true) [] := by
  intro n d h
  induction h with
  | non n =>
    refine denB_rt (ρ1 := [some (.v .non), some (.v .non), none]) (S1 := []) ?_
    refine (seq_nx (ρ1 := [some (.v .non), some (.v .non), none]) (S1 := []) (by simp [ty2_n])).trans (seq_rt ?_)
    have : gIsN .non .non = some true := rfl
    simp [this, gEq_bb, gEq_nn]
  | bl n b =>
    refine denB_rt (ρ1 := [some (.v (.bl b)), some (.v (.bl b)), none]) (S1 := []) ?_
    refine (seq_nx (ρ1 := [some (.v (.bl b)), some (.v (.bl b)), none]) (S1 := []) (by simp [ty2_b])).trans ((seq_nx (ρ1 := [some (.v (.bl b)), some (.v (.bl b)), none]) (S1 := []) ?_).trans ?_)
    · have : gIsN (.bl b) .non = some false := rfl
      simp [this]
    · simp [gEq_bb]
  | int n i =>
    refine denB_rt (ρ1 := [some (.v (.int i)), some (.v (.int i)), none]) (S1 := []) ?_
    refine (seq_nx (ρ1 := [some (.v (.int i)), some (.v (.int i)), none]) (S1 := []) (by simp [ty2_i])).trans ((seq_nx (ρ1 := [some (.v (.int i)), some (.v (.int i)), none]) (S1 := []) ?_).trans ?_)
    · have : gIsN (.int i) .non = some false := rfl
      simp [this]
    · simp [gEq_bb, gEq_iiX]
  | str n z hz =>
    refine denB_rt (ρ1 := [some (.v (.str z)), some (.v (.str z)), none]) (S1 := []) ?_
    refine (seq_nx (ρ1 := [some (.v (.str z)), some (.v (.str z)), none]) (S1 := []) (by simp [ty2_s])).trans (seq_rt ?_)
    have : gIsN (.str z) .non = some false := rfl
    simp [this, gEq_bb, gEq_sx hz]
  | tup n ds hl _ ih => exact alike_seq .tup (.inl fun _ => rfl) hl ih
  | lst n ds hl _ ih => exact alike_seq .lst (.inr fun _ => rfl) hl ih
/-! the program's small checks -/
def cb_is_integer : DSn :=
  (mRet (mAnd (mIsT "int" (mVar 0)) (mNot (mIsT "bool" (mVar 0)))))
def cd_is_integer : Den := denB 1 cb_is_integer
def cb_is_between : DSn :=
  (mRet (mAnd (mCall cd_is_integer 1 (mConsE (mV (mVar 0)) mNilE)) (mB (mChain gLe gLe (mVar 1) (mVar 0) (mVar 2)))))
def cd_is_between : Den := denB 3 cb_is_between
def cb_is_tuple_of : DSn :=
  (mRet (mAnd (mIsT "tuple" (mVar 0)) (mB (mChain gLe gLe (mVar 1) (mBi gLen (mCons (mVar 0) mNil)) (mVar 2)))))
def cd_is_tuple_of : Den := denB 3 cb_is_tuple_of
def cb_is_ascending : DSn :=
  (mRet (mBi gAll (mCons (mLc (mZip (mVar 0) (mSl (mVar 0) (mPart (mC (.int 1))) mNoPart)) (.tp [(.nm 1), (.nm 2)]) mYes (mB (mCmp gLt (mVar 1) (mVar 2))) [1, 2]) mNil)))
def cd_is_ascending : Den := denB 3 cb_is_ascending
theorem is_integer_int (i : Int) : cd_is_integer [.v (.int i)] [] = .ok (.bl true) [] := rfl
theorem is_integer_bl (b : Bool) : cd_is_integer [.v (.bl b)] [] = .ok (.bl false) [] := by
  refine denB_rt (ρ1 := [vv (.bl b)]) (S1 := []) ?_
  show cb_is_integer [vv (.bl b)] [] = _
  unfold cb_is_integer vv
  simp
theorem is_integer_no {d : D} (h : isTy d "int" = some false) : cd_is_integer [.v d] [] = .ok (.bl false) [] := by
  refine denB_rt (ρ1 := [vv d]) (S1 := []) ?_
  show cb_is_integer [vv d] [] = _
  unfold cb_is_integer vv
  simp [h]
theorem is_between_int (i lo hi : Int) : cd_is_between [.v (.int i), .v (.int lo), .v (.int hi)] [] = .ok (.bl (decide (lo ≤ i) && decide (i ≤ hi))) [] := by
  have e := call1 (S := []) (is_integer_int i)
  refine denB_rt (ρ1 := [some (.v (.int i)), some (.v (.int lo)), some (.v (.int hi))]) (S1 := []) ?_
  by_cases h : lo ≤ i <;> simp [cb_is_between, e, h]
theorem is_between_bl (b : Bool) (lo hi : D) : cd_is_between [.v (.bl b), .v lo, .v hi] [] = .ok (.bl false) [] := by
  have e := call1 (S := []) (is_integer_bl b)
  refine denB_rt (ρ1 := [some (.v (.bl b)), some (.v lo), some (.v hi)]) (S1 := []) ?_
  simp [cb_is_between, e]
theorem is_between_no {d : D} (h : isTy d "int" = some false) (lo hi : D) : cd_is_between [.v d, .v lo, .v hi] [] = .ok (.bl false) [] := by
  have e := call1 (S := []) (is_integer_no h)
  refine denB_rt (ρ1 := [some (.v d), some (.v lo), some (.v hi)]) (S1 := []) ?_
  simp [cb_is_between, e]
theorem is_tuple_of_tup (ds : List D) (lo hi : Int) : cd_is_tuple_of [.v (.tup ds), .v (.int lo), .v (.int hi)] [] = .ok (.bl (decide (lo ≤ (ds.length : Int)) && decide ((ds.length : Int) ≤ hi))) [] := by
  refine denB_rt (ρ1 := [some (.v (.tup ds)), some (.v (.int lo)), some (.v (.int hi))]) (S1 := []) ?_
  by_cases h : lo ≤ (ds.length : Int) <;> simp [cb_is_tuple_of, h]
theorem is_tuple_of_ok {ds : List D} {lo hi : Int} (h : lo ≤ (ds.length : Int)) (h' : (ds.length : Int) ≤ hi) : cd_is_tuple_of [.v (.tup ds), .v (.int lo), .v (.int hi)] [] = .ok (.bl true) [] := by
  rw [is_tuple_of_tup, decide_eq_true h, decide_eq_true h']; rfl
theorem is_between_ok {i lo hi : Int} (h : lo ≤ i) (h' : i ≤ hi) : cd_is_between [.v (.int i), .v (.int lo), .v (.int hi)] [] = .ok (.bl true) [] := by
  rw [is_between_int, decide_eq_true h, decide_eq_true h']; rfl
theorem is_tuple_of_no {d : D} (h : isTy d "tuple" = some false) (lo hi : D) : cd_is_tuple_of [.v d, .v lo, .v hi] [] = .ok (.bl false) [] := by
  refine denB_rt (ρ1 := [some (.v d), some (.v lo), some (.v hi)]) (S1 := []) ?_
  simp [cb_is_tuple_of, h]
theorem gAll_map {α : Type} (f : α → Bool) (l : List α) : gAll [.lst (l.map fun x => D.bl (f x))] = some (.bl (l.all f)) := by
  show (bools (l.map fun x => D.bl (f x))).map _ = _
  have : ∀ l : List α, bools (l.map fun x => D.bl (f x)) = some (l.map f) := fun l => by
    induction l with
    | nil => rfl
    | cons x l ih => show (bools (l.map fun x => D.bl (f x))).map _ = _; rw [ih]; rfl
  rw [this]
  simp [List.all_map]
theorem cmp_ok {g : D → D → Option Bool} {fa fb : DEn} {ρ : DL.Env} {S S1 S2 : Store} {x y : D} {b : Bool} (ha : fa ρ S = .ok x S1) (hb : fb ρ S1 = .ok y S2) (h : g x y = some b) : mCmp g fa fb ρ S = .ok b S2 := by
  rw [ev_Cmp, ha, ev_bind_ok, hb, ev_bind_ok, h]; rfl
theorem if_skip {t : DTn} {f : DSn} {ρ : DL.Env} {S S1 : Store} (h : t ρ S = .ok false S1) : mIfS t f mSkip ρ S = .ok (.nx, ρ) S1 := by
  rw [ev_IfS, h]; rfl
theorem if_go {t : DTn} {f g : DSn} {ρ : DL.Env} {S S1 : Store} (h : t ρ S = .ok true S1) : mIfS t f g ρ S = f ρ S1 := by
  rw [ev_IfS, h]; rfl
theorem if_el {t : DTn} {f g : DSn} {ρ : DL.Env} {S S1 : Store} (h : t ρ S = .ok false S1) : mIfS t f g ρ S = g ρ S1 := by
  rw [ev_IfS, h]; rfl
theorem not_ok {t : DTn} {ρ : DL.Env} {S S1 : Store} {b : Bool} (h : t ρ S = .ok b S1) : mNotT t ρ S = .ok (!b) S1 := by
  rw [ev_NotT, h]; rfl
theorem and_no {t u : DTn} {ρ : DL.Env} {S S1 : Store} (h : t ρ S = .ok false S1) : mAndT t u ρ S = .ok false S1 := by
  rw [ev_AndT, h]; rfl
theorem and_go {t u : DTn} {ρ : DL.Env} {S S1 : Store} (h : t ρ S = .ok true S1) : mAndT t u ρ S = u ρ S1 := by
  rw [ev_AndT, h]; rfl
theorem or_yes {t u : DTn} {ρ : DL.Env} {S S1 : Store} (h : t ρ S = .ok true S1) : mOrT t u ρ S = .ok true S1 := by
  rw [ev_OrT, h]; rfl
theorem or_go {t u : DTn} {ρ : DL.Env} {S S1 : Store} (h : t ρ S = .ok false S1) : mOrT t u ρ S = u ρ S1 := by
  rw [ev_OrT, h]; rfl
end Cm

/-! membership, least tuples -/
namespace Cm
open PySem L2 DL Pr
theorem gInD_any {α : Type} [DecidableEq α] {n : Nat} {emb : α → D} (he : ∀ a, Sm n (emb a)) (hi : ∀ a b, emb a = emb b → a = b) (a : α) (l : List α) : ((l.map emb).any fun z => DL.deq z (emb a)) = decide (a ∈ l) := by
  refine bool_of (p := a ∈ l) ?_ (by simp)
  rw [List.any_eq_true]
  constructor
  · rintro ⟨d, hd, q⟩
    obtain ⟨x, hx, rfl⟩ := List.mem_map.mp hd
    rw [(he x).deq (he a)] at q
    rw [← hi _ _ q]; exact hx
  · intro h
    exact ⟨emb a, List.mem_map.mpr ⟨a, h, rfl⟩, ((he a).deq (he a)).mpr rfl⟩
theorem gInD_lst {α : Type} [DecidableEq α] {n : Nat} {emb : α → D} (he : ∀ a, Sm n (emb a)) (hn : n < 64) (hi : ∀ a b, emb a = emb b → a = b) (a : α) (l : List α) : gInD (emb a) (.lst (l.map emb)) = some (decide (a ∈ l)) := by
  have ok : (D.lst (l.map emb)).okd = true := (Sm.lst n _ fun d hd => by obtain ⟨x, _, rfl⟩ := List.mem_map.mp hd; exact he x).okd (by omega)
  have e : gInD (emb a) (.lst (l.map emb)) = some ((l.map emb).any fun z => DL.deq z (emb a)) := if_pos ⟨(he a).okd (by omega), ok⟩
  rw [e, gInD_any he hi]
theorem gInD_tup {α : Type} [DecidableEq α] {n : Nat} {emb : α → D} (he : ∀ a, Sm n (emb a)) (hn : n < 64) (hi : ∀ a b, emb a = emb b → a = b) (a : α) (l : List α) : gInD (emb a) (.tup (l.map emb)) = some (decide (a ∈ l)) := by
  have ok : (D.tup (l.map emb)).okd = true := (Sm.tup n _ fun d hd => by obtain ⟨x, _, rfl⟩ := List.mem_map.mp hd; exact he x).okd (by omega)
  have e : gInD (emb a) (.tup (l.map emb)) = some ((l.map emb).any fun z => DL.deq z (emb a)) := if_pos ⟨(he a).okd (by omega), ok⟩
  rw [e, gInD_any he hi]
theorem gNotInD_of {x y : D} {b : Bool} (h : gInD x y = some b) : gNotInD x y = some (!b) := by unfold gNotInD; rw [h]; rfl
theorem sm_nI (a : Nat) : Sm 0 (nI a) := .int 0 _
theorem nI_inj (a b : Nat) (h : nI a = nI b) : a = b := by
  have h : D.int (a : Int) = D.int (b : Int) := h
  injection h with h; omega
theorem int_inj (a b : Int) (h : D.int a = D.int b) : a = b := by injection h
theorem in_nI_lst (a : Nat) (l : List Nat) : gInD (nI a) (.lst (l.map nI)) = some (decide (a ∈ l)) := gInD_lst sm_nI (by decide) nI_inj a l
theorem in_nI_tup (a : Nat) (l : List Nat) : gInD (nI a) (.tup (l.map nI)) = some (decide (a ∈ l)) := gInD_tup sm_nI (by decide) nI_inj a l
/-! tuples of ints in their order -/
theorem alike_ints : ∀ (a b : List Int), PySem.W.alikeAll (D.pys (a.map D.int)) (D.pys (b.map D.int)) = true
  | [], _ => by unfold PySem.W.alikeAll; rfl
  | _ :: _, [] => rfl
  | x :: a, y :: b => by
    show (true && PySem.W.alikeAll (D.pys (a.map D.int)) (D.pys (b.map D.int))) = true
    rw [alike_ints a b]; rfl
theorem sm_tupI {n : Nat} (l : List Int) : Sm (n + 1) (tupD l) := .tup n _ fun d hd => by obtain ⟨i, _, rfl⟩ := List.mem_map.mp hd; exact .int n i
theorem cmp_tups (ls : List (List Int)) : cmpAll (ls.map tupD) = true := by
  unfold cmpAll
  rw [Bool.and_eq_true, Bool.and_eq_true, List.all_eq_true, List.all_eq_true]
  refine ⟨⟨fun x hx => ?_, fun x hx => ?_⟩, (Sm.lst 1 _ fun d hd => ?_ : Sm 2 _).okd (by decide)⟩
  · obtain ⟨a, _, rfl⟩ := List.mem_map.mp hx
    rw [List.all_eq_true]
    intro y hy
    obtain ⟨b, _, rfl⟩ := List.mem_map.mp hy
    exact alike_ints a b
  · obtain ⟨a, _, rfl⟩ := List.mem_map.mp hx
    rfl
  · obtain ⟨a, _, rfl⟩ := List.mem_map.mp hd
    exact sm_tupI a
theorem cmp_ints (ls : List Int) : cmpAll (ls.map D.int) = true := by
  unfold cmpAll
  rw [Bool.and_eq_true, Bool.and_eq_true, List.all_eq_true, List.all_eq_true]
  refine ⟨⟨fun x hx => ?_, fun x hx => ?_⟩, (Sm.lst 0 _ fun d hd => ?_ : Sm 1 _).okd (by decide)⟩
  · obtain ⟨a, _, rfl⟩ := List.mem_map.mp hx
    rw [List.all_eq_true]
    intro y hy
    obtain ⟨b, _, rfl⟩ := List.mem_map.mp hy
    rfl
  · obtain ⟨a, _, rfl⟩ := List.mem_map.mp hx
    rfl
  · obtain ⟨a, _, rfl⟩ := List.mem_map.mp hd
    exact .int 0 a
/-- less, place by place -/
def lexI : List Int → List Int → Bool
  | [], ys => !ys.isEmpty
  | _ :: _, [] => false
  | x :: xs, y :: ys => if x = y then lexI xs ys else decide (x < y)
theorem dlt_tupD : ∀ (a b : List Int), dlt (tupD a) (tupD b) = lexI a b
  | [], b => by
    show dlt (.tup []) (.tup (b.map D.int)) = _
    rw [dlt_nil]
    cases b <;> rfl
  | x :: a, [] => by
    have h : ∀ l, PyProof.Rows.lexLt PyProof.Rows.itemOrd (Sum.inl (1 : Int) :: l) [Sum.inl 0] = false := fun l => by
      rw [PyProof.Rows.lex_cons]; rfl
    exact h (PySem.W.keyToks (PyData.int x) ++ PySem.W.keyToksAll (D.pys (a.map D.int)))
  | x :: a, y :: b => by
    show dlt (.tup (.int x :: a.map D.int)) (.tup (.int y :: b.map D.int)) = _
    rw [dlt_cons _ _ rfl, deq_ii, dlt_int]
    have ih := dlt_tupD a b
    have ih : dlt (.tup (a.map D.int)) (.tup (b.map D.int)) = lexI a b := ih
    rw [ih]
    show _ = (if x = y then lexI a b else decide (x < y))
    by_cases h : x = y <;> simp [h]
theorem lexI_total : ∀ {a b : List Int}, a.length = b.length → lexI a b = false → lexI b a = false → a = b
  | [], [], _, _, _ => rfl
  | x :: a, y :: b, hl, h1, h2 => by
    unfold lexI at h1 h2
    by_cases h : x = y
    · subst h
      rw [if_pos rfl] at h1 h2
      rw [lexI_total (by simpa using hl) h1 h2]
    · rw [if_neg h] at h1
      rw [if_neg (Ne.symm h)] at h2
      rw [decide_eq_false_iff_not] at h1 h2
      omega
theorem min_tups {ls : List (List Int)} (h : ls ≠ []) : ∃ r ∈ ls, gMinA [.lst (ls.map tupD)] = some (tupD r) ∧ ∀ x ∈ ls, lexI x r = false := by
  cases ls with
  | nil => exact absurd rfl h
  | cons x ls =>
    have e : gMinA [.lst ((x :: ls).map tupD)] = some (foldB dlt (tupD x) (ls.map tupD)) := if_pos (cmp_tups (x :: ls))
    obtain ⟨h1, h2⟩ := foldB_least (ls.map tupD) (tupD x)
    have h1 : foldB dlt (tupD x) (ls.map tupD) ∈ (x :: ls).map tupD := h1
    obtain ⟨r, hr, er⟩ := List.mem_map.mp h1
    refine ⟨r, hr, by rw [e, er], fun y hy => ?_⟩
    have := h2 (tupD y) (by rw [← List.map_cons]; exact List.mem_map.mpr ⟨y, hy, rfl⟩)
    rw [← er, dlt_tupD] at this
    exact this
/-- the first least of numbers -/
theorem min_intsA {ls : List Int} (h : ls ≠ []) : ∃ r ∈ ls, (gMinA [.lst (ls.map D.int)] = some (.int r) ∧ gMinA [.tup (ls.map D.int)] = some (.int r)) ∧ ∀ x ∈ ls, r ≤ x := by
  cases ls with
  | nil => exact absurd rfl h
  | cons x ls =>
    have e : gMinA [.lst ((x :: ls).map D.int)] = some (foldB dlt (.int x) (ls.map D.int)) := if_pos (cmp_ints (x :: ls))
    have e' : gMinA [.tup ((x :: ls).map D.int)] = some (foldB dlt (.int x) (ls.map D.int)) := if_pos (cmp_ints (x :: ls))
    obtain ⟨h1, h2⟩ := foldB_least (ls.map D.int) (.int x)
    have h1 : foldB dlt (.int x) (ls.map D.int) ∈ (x :: ls).map D.int := h1
    obtain ⟨r, hr, er⟩ := List.mem_map.mp h1
    refine ⟨r, hr, ⟨by rw [e, er], by rw [e', er]⟩, fun y hy => ?_⟩
    have := h2 (.int y) (by rw [← List.map_cons]; exact List.mem_map.mpr ⟨y, hy, rfl⟩)
    rw [← er, dlt_int, decide_eq_false_iff_not] at this
    omega
end Cm
namespace Cm
open PySem L2 DL Pr
/-- a while loop of m turns -/
theorem wwhile {Q : Ctl × DL.Env → Store → Prop} {E : Exn → Store → Prop} {t : DTn} {body : DSn} (I : Nat → DL.Env → Store → Prop) (m : Nat)
    (hs : ∀ k ρ S, k < m → I k ρ S → t ρ S = .ok true S ∧ Wp (body ρ S) (Nx (I (k + 1))) NoX) (he : ∀ ρ S, I m ρ S → t ρ S = .ok false S ∧ Q (.nx, ρ) S) :
    ∀ (fuel k : Nat) {ρ : DL.Env} {S : Store}, k ≤ m → m < k + fuel → I k ρ S → Wp (whileL t body fuel ρ S) Q E
  | 0, k, _, _, h1, h2, _ => by omega
  | fuel + 1, k, ρ, S, h1, h2, h => by
    unfold whileL
    by_cases hk : k = m
    · subst hk
      obtain ⟨e, q⟩ := he ρ S h
      rw [e]
      exact q
    · obtain ⟨e, w⟩ := hs k ρ S (by omega) h
      rw [e, ev_bindS_ok, if_pos rfl]
      cases eb : body ρ S with
      | bad => rw [eb] at w; exact w.elim
      | ex x S1 => rw [eb] at w; exact w.elim
      | ok cr S1 =>
        rw [eb] at w
        obtain ⟨c, r⟩ := cr
        obtain ⟨rfl, i⟩ : c = Ctl.nx ∧ I (k + 1) r S1 := w
        exact wwhile I m hs he fuel (k + 1) (by omega) (by omega) i
end Cm
namespace Cm
open PySem L2 DL Pr
/-- a call of a def that draws, its arguments drawn -/
theorem wcall3 {E : Exn → Store → Prop} {ρ : DL.Env} {S : Store} {Q : D → Store → Prop} {F : Den} {i n : Nat} {fb fd : DEn} (hB : Wp (fb ρ S) (fun x S1 => Wp (fd ρ S1) (fun y S2 => ∃ c d c', S2[n]? = some (some c) ∧ F [.cel 0, .v x, .v y] [some c] = .ok d [some c'] ∧ Q d (S2.set n (some c'))) E) E) (hρ : ρ[i]? = some (some (.cel n)) := by rfl) : Wp (mCall F 3 (mConsE (mCel i) (mConsE (mV fb) (mConsE (mV fd) mNilE))) ρ S) Q E := by
  have hcel : ∀ S, mCel i ρ S = .ok (.cel n) S := fun S => by unfold mCel; rw [hρ]
  rw [ev_Call, ev_ConsE, hcel, ev_bind_ok, ev_ConsE, ev_V]
  refine Wp.bind (Wp.bind (Wp.bind (Wp.bind (hB.mono (fun x S1 q => ?_) fun _ _ q => q))))
  show Wp ((mConsE (mV fd) mNilE ρ S1).bind _) _ _
  rw [ev_ConsE, ev_V]
  refine Wp.bind (Wp.bind (Wp.bind (q.mono (fun y S2 q => ?_) fun _ _ q => q)))
  obtain ⟨c, d, c', hS, e, q⟩ := q
  have k := callC3 (S := S2) (n := n) (F := F) hS e
  show Wp (callD F [.cel n, .v x, .v y] S2) Q E
  rw [k]
  exact q
/-- the grouping of a row of statements doesn't matter -/
theorem seq_assoc (f g h : DSn) (ρ : DL.Env) (S : Store) : mSeq (mSeq f g) h ρ S = mSeq f (mSeq g h) ρ S := by
  unfold mSeq
  cases f ρ S with
  | bad => rfl
  | ex x S1 => rfl
  | ok cr S1 =>
    obtain ⟨c, r⟩ := cr
    cases c <;> rfl
theorem wassoc {Q : Ctl × DL.Env → Store → Prop} {E : Exn → Store → Prop} {f g h : DSn} {ρ : DL.Env} {S : Store} (k : Wp (mSeq (mSeq f g) h ρ S) Q E) : Wp (mSeq f (mSeq g h) ρ S) Q E := by rw [← seq_assoc]; exact k
end Cm

set_option maxHeartbeats 2000000
/-! itertools.combinations of a range, over the heap alone -/
namespace Cb
open PySem PySem.Spec
open Sem (wp)
theorem mro_c : mroOf (.type "itertools.combinations") = pure [.type "itertools.combinations", .type "object"] := by rw [mroOf_type]; kernel_rfl
theorem new_c : typeLookup (.type "itertools.combinations") "__new__" = pure (some (.builtin "itertools.combinations.__new__")) := by rw [typeLookup_type, builtinLookup_eq_fast]; kernel_rfl
theorem sub_c : isSubtype (.type "itertools.combinations") (.type "itertools.combinations") = pure true := by rw [isSubtype_type]; kernel_rfl
theorem init_c : Slot "itertools.combinations" "__init__" "object.__init__" :=
  .of (owner := "object") (n := "__init__") (by rw [typeLookup_type, builtinLookup_eq_fast]; kernel_rfl) (by decide +kernel) (by decide +kernel) (by decide +kernel)
    (by first | exact .inl (by decide +kernel) | exact .inr (by decide +kernel)) (by rw [isSubtype_type]; kernel_rfl)
theorem called_c : TypeCalled "itertools.combinations" "itertools.combinations.__new__" "object.__init__" :=
  ⟨by decide +kernel, by decide +kernel, ⟨_, _, mro_c⟩, madeBy_type mro_c new_c (by decide +kernel), by decide +kernel, sub_c, init_c⟩
theorem tcall_c (a b : Value) : checkTypeCall "itertools.combinations" ⟨[a, b], []⟩ = pure () := by kernel_rfl
theorem ncall_c (a b : Value) : checkBuiltinCall "itertools.combinations.__new__" ⟨[.type "itertools.combinations", a, b], []⟩ = pure () := by kernel_rfl
theorem entn_c : entryFor table "itertools.combinations.__new__" = some Builtin.«itertools.combinations.__new__» := entryFor_of_tree (by kernel_rfl)
theorem iter_c : Slot "itertools.combinations" "__iter__" "itertools.combinations.__iter__" :=
  .of (owner := "itertools.combinations") (n := "__iter__") (by rw [typeLookup_type, builtinLookup_eq_fast]; kernel_rfl) (by decide +kernel) (by decide +kernel) (by decide +kernel)
    (by first | exact .inl (by decide +kernel) | exact .inr (by decide +kernel)) sub_c
theorem next_c : Slot "itertools.combinations" "__next__" "itertools.combinations.__next__" :=
  .of (owner := "itertools.combinations") (n := "__next__") (by rw [typeLookup_type, builtinLookup_eq_fast]; kernel_rfl) (by decide +kernel) (by decide +kernel) (by decide +kernel)
    (by first | exact .inl (by decide +kernel) | exact .inr (by decide +kernel)) sub_c
theorem enti_c : entryFor table "itertools.combinations.__iter__" = some Builtin.«dict_keyiterator.__iter__» :=
  entryFor_alias (id' := "dict_keyiterator.__iter__") (by kernel_rfl) (by first | rfl | decide +kernel | (unfold String.splitOn; simp +decide [String.splitOnAux])) (by decide +kernel) (by kernel_rfl)
theorem entx_c : entryFor table "itertools.combinations.__next__" = some Builtin.«itertools.combinations.__next__» := entryFor_of_tree (by kernel_rfl)
theorem own_c : Manifest.owners.lookup (String.ofList ['s', 'n', 'o', 'i', 't', 'a', 'n', 'i', 'b', 'm', 'o', 'c', '.', 's', 'l', 'o', 'o', 't', 'r', 'e', 't', 'i'].reverse) = some Manifest.sig_itertools_combinations := by kernel_rfl
theorem ai_c (a : Value) : argsOk "itertools.combinations.__iter__" ⟨[a], []⟩ := by
  unfold argsOk; rw [signature?_of (id := "itertools.combinations.__iter__") (n := ['_', '_', 'r', 'e', 't', 'i', '_', '_']) (o := ['s', 'n', 'o', 'i', 't', 'a', 'n', 'i', 'b', 'm', 'o', 'c', '.', 's', 'l', 'o', 'o', 't', 'r', 'e', 't', 'i']) (by kernel_rfl) own_c]; kernel_rfl
theorem ax_c (a : Value) : argsOk "itertools.combinations.__next__" ⟨[a], []⟩ := by
  unfold argsOk; rw [signature?_of (id := "itertools.combinations.__next__") (n := ['_', '_', 't', 'x', 'e', 'n', '_', '_']) (o := ['s', 'n', 'o', 'i', 't', 'a', 'n', 'i', 'b', 'm', 'o', 'c', '.', 's', 'l', 'o', 'o', 't', 'r', 'e', 't', 'i']) (by kernel_rfl) own_c]; kernel_rfl
theorem nod_c : typeHasDict (.type "itertools.combinations") = false := by decide +kernel
end Cb

set_option maxHeartbeats 2000000
namespace Cb
open PySem PySem.Spec
open Sem (wp)
/-- the fields of a combinations object: its pool, how far it is, the last it told, the places -/
def flds (pool : Value) (st : Int) (last : Value) (ix : List Nat) : Array Value := ([pool, .int st 0, last] ++ ix.map fun i : Nat => Value.int (i : Int) 0).toArray
theorem meets_new (r : Addr) (a b : Int) (t u v tk0 : Tok) (n k : Nat) (hsm : Builtin.Range.small a b 1 = true) (hn : Builtin.Range.rangeSize a b 1 = n) (hl : n ≤ 1000) (hk : k ≤ 1000) :
    Meets (Builtin.«itertools.combinations.__new__» ⟨[.type "itertools.combinations", .ref r, .int (k : Int) tk0], []⟩)
      (fun A R s => A.handled = none ∧ IsRange s.heap r a b 1 t u v ∧ ∀ (h' : Heap) (tk : Nat) (acc : Array Value), (∀ b o, s.heap.get? b = some o → h'.get? b = some o) → ItemsOf (fun i v => ∃ t, v = .int (a + i * 1) t) acc n →
        R (.ok (.ret (.ref (h'.push { cls := .type "tuple", data := .seq acc }).objs.size))) { s with heap := (h'.push { cls := .type "tuple", data := .seq acc }).push { cls := .type "itertools.combinations", data := .fields (flds (.ref h'.objs.size) (if k > n then 2 else 0) .none (List.range k)) }, toks := tk }) :=
  .of_wp fun prog w A R s h => by
    obtain ⟨hh, hr, h⟩ := h
    have hsub := sub_c
    have hd := nod_c
    show wpAny _ A.in1 (_ >>= _) _ _ s
    refine wpAny_bind ?_
    show wpAny _ A.in1 (Builtin.Itertools.itClassAndRest _ _ >>= _) _ _ s
    refine wpAny_bind ?_
    unfold Builtin.Itertools.itClassAndRest
    repeat (first | wp_step | simp only [List.head?_cons, List.getElem?_cons_succ, List.getElem?_cons_zero, List.length_cons, List.length_nil])
    have hs : ("itertools." ++ "combinations" : String) = "itertools.combinations" := by decide
    rw [hs, hsub]
    repeat (first | wp_step | simp only [Bool.not_true, Bool.false_eq_true, if_false])
    have hb : ¬ ((decide ((k : Int) < -2 ^ 63) || decide ((k : Int) ≥ 2 ^ 63)) = true) := by
      rw [decide_eq_false (p := (k : Int) < -2 ^ 63) (by omega), decide_eq_false (p := (k : Int) ≥ 2 ^ 63) (by omega)]
      decide
    rw [if_neg hb]
    refine wpAny_pure ?_
    refine wpAny_bind (L2.collect_range (n := n) (show A.in1.handled = none from hh) hr hsm hn (by omega) fun h' tk acc hkeep hit => ?_)
    rw [if_neg (by omega)]
    have hm : ¬ Builtin.Itertools.itTooMany (k : Int) = true := by
      unfold Builtin.Itertools.itTooMany
      rw [decide_eq_true_eq]
      omega
    rw [if_neg hm]
    have hsz : acc.size = n := hit.1
    unfold newTuple
    refine wpAny_bind (wpAny_newObj_type ?_ (by show acc.toList.toArray.size ≤ sizeLine; rw [Array.toArray_toList, hsz, sizeLine_eq]; omega))
    refine wpAny_pure ?_
    unfold Builtin.Itertools.itNewRecord
    refine wpAny_bind ?_
    dsimp only
    rw [hd]
    simp only [Bool.not_false, if_true]
    have ek : ((k : Int)).toNat = k := Int.toNat_natCast k
    have el : acc.toList.length = n := by rw [Array.length_toList, hsz]
    rw [ek, el, Array.toArray_toList]
    refine wpAny_newObj_type ?_ (by show (List.toArray _).size ≤ sizeLine + 2; simp; rw [sizeLine_eq]; omega)
    refine wpAny_pure ⟨_, rfl, ?_⟩
    have := h h' tk acc hkeep hit
    unfold flds at this
    exact this
end Cb

set_option maxHeartbeats 2000000
namespace Cb
open PySem PySem.Spec
open Sem (wp)
/-- what the object's next does, as a whole made of its step -/
structure Next where
  g : (Nat → List Nat → Option (List Nat)) → Builtin
  f : Nat → List Nat → Option (List Nat)
  e : Builtin.«itertools.combinations.__next__» = g f
def nextC : Next := ⟨_, _, rfl⟩
abbrev IsC (h : Heap) (it p : Addr) (st : Int) (last : Value) (ix : List Nat) : Prop := h.get? it = some { cls := .type "itertools.combinations", dict := none, data := .fields (flds (.ref p) st last ix), slots := #[] }
section
variable {prog : Program} {w : World} {A : Around} {E : Value → Shared → Prop} {s : Shared}
theorem ix_of (p : Value) (st : Int) (last : Value) (ix : List Nat) : List.map (fun x : Value => match x with | .int n _ => n.toNat | _ => 0) (List.drop 3 (flds p st last ix).toList) = ix := by
  have e : List.drop 3 (flds p st last ix).toList = ix.map fun i : Nat => Value.int (i : Int) 0 := by simp [flds]
  rw [e, List.map_map]
  have : ∀ l : List Nat, l.map ((fun x : Value => match x with | .int n _ => n.toNat | _ => 0) ∘ fun i : Nat => Value.int (i : Int) 0) = l := fun l => by
    induction l with
    | nil => rfl
    | cons i l ih => rw [List.map_cons, ih]; rfl
  exact this ix
/-- what it hands out -/
def told (items : Array Value) (ix : List Nat) : List Value := ix.map fun i => items.getD i .none
theorem next_first {it p : Addr} {ix : List Nat} {items : Array Value} {Q : Option Value → Shared → Prop} (hit : IsC s.heap it p 0 .none ix) (hp : s.heap.get? p = some { cls := .type "tuple", data := .seq items }) (hl : ix.length ≤ 1000)
    (hQ : ∀ h' : Heap, IsC h' it p 1 (.ref s.heap.objs.size) ix → h'.get? s.heap.objs.size = some { cls := .type "tuple", data := .seq (told items ix).toArray } → h'.objs.size = s.heap.objs.size + 1 → (∀ c o, c ≠ it → s.heap.get? c = some o → h'.get? c = some o) → Q (some (.ref s.heap.objs.size)) { s with heap := h' }) :
    wpAny (model prog w) A (pyNext (.ref it)) Q E s := by
  have hT : s.TypeIs (.ref it) "itertools.combinations" := ⟨_, hit, rfl⟩
  have hne : it ≠ p := fun e => by
    subst e
    have := congrArg (fun o : Option Obj => o.map (·.cls)) (hit.symm.trans hp)
    simp at this
  unfold pyNext
  refine wpAny_bind (wpAny_attempt (wpAny_callSpecial?_slot (name := Str.ofString "__next__") hT next_c (wpAny_call_entry next_c hT entx_c ?_ (ax_c _))))
  show wpAny _ A.in1 (_ >>= _) _ _ s
  refine wpAny_bind ?_
  repeat (first | wp_step | simp only [List.head?_cons, List.getElem?_cons_succ, List.getElem?_cons_zero, List.length_cons, List.length_nil])
  generalize hh1 : s.heap.update it (Obj.mapFields fun x => x.setIfInBounds 1 (rawInt 1)) = h1
  have hit1 : IsC h1 it p 1 .none ix := by rw [← hh1]; exact Heap.get?_update_self _ hit rfl
  have hk1 : ∀ c o, c ≠ it → s.heap.get? c = some o → h1.get? c = some o := fun c o hc e => by
    rw [← hh1]
    exact (Heap.get?_update_other _ _ (Ne.symm hc)).trans e
  have hz1 : h1.objs.size = s.heap.objs.size := by rw [← hh1]; exact Heap.size_update ..
  erw [ix_of]
  rw [show (ix.map fun i => items.getD i Value.none) = told items ix from rfl]
  have hz0 : ¬ ((told items ix).toArray.size > sizeLine) := by
    unfold told
    simp
    rw [sizeLine_eq]; omega
  rw [if_neg hz0]
  refine wpAny_newObjAsIs_type ?_
  have hit2 : IsC (h1.push { cls := .type "tuple", data := .seq (told items ix).toArray }) it p 1 .none ix := Heap.get?_push_of_some _ hit1
  refine wpAny_bind (wpAny_field hit2 rfl (x := .none) (by simp [flds]) ?_)
  refine wpAny_bind (wpAny_setField hit2 rfl (by simp [flds]) (wpAny_bind (wpAny_letGo ?_)))
  refine wpAny_pure ⟨_, rfl, wpAny_pure ?_⟩
  have hlt : it < h1.objs.size := Heap.lt_size hit1
  have := hQ ((h1.push { cls := .type "tuple", data := .seq (told items ix).toArray }).update it (Obj.mapFields (·.setIfInBounds 2 (.ref h1.objs.size)))) (by rw [← hz1]; exact Heap.get?_update_self _ hit2 rfl) ((Heap.get?_update_other _ _ (by rw [← hz1]; exact Nat.ne_of_lt hlt)).trans (by rw [← hz1]; exact Heap.get?_push_size _ rfl)) (by rw [Heap.size_update, Heap.size_push, hz1]) fun c o hc e => (Heap.get?_update_other _ _ (Ne.symm hc)).trans (Heap.get?_push_of_some _ (hk1 c o hc e))
  exact (congrArg (fun z : Nat => Q (some (.ref z)) _) hz1).mpr this
theorem next_step {it p : Addr} {ix ix' : List Nat} {items : Array Value} {last : Value} {Q : Option Value → Shared → Prop} (hit : IsC s.heap it p 1 last ix) (hp : s.heap.get? p = some { cls := .type "tuple", data := .seq items }) (hf : nextC.f items.size ix = some ix') (hl : ix'.length ≤ 1000)
    (hQ : ∀ h' : Heap, IsC h' it p 1 (.ref s.heap.objs.size) ix' → h'.get? s.heap.objs.size = some { cls := .type "tuple", data := .seq (told items ix').toArray } → h'.objs.size = s.heap.objs.size + 1 → (∀ c o, c ≠ it → s.heap.get? c = some o → h'.get? c = some o) → Q (some (.ref s.heap.objs.size)) { s with heap := h' }) :
    wpAny (model prog w) A (pyNext (.ref it)) Q E s := by
  have hT : s.TypeIs (.ref it) "itertools.combinations" := ⟨_, hit, rfl⟩
  unfold pyNext
  refine wpAny_bind (wpAny_attempt (wpAny_callSpecial?_slot (name := Str.ofString "__next__") hT next_c (wpAny_call_entry next_c hT entx_c ?_ (ax_c _))))
  show wpAny _ A.in1 (_ >>= _) _ _ s
  refine wpAny_bind ?_
  repeat (first | wp_step | simp only [List.head?_cons, List.getElem?_cons_succ, List.getElem?_cons_zero, List.length_cons, List.length_nil])
  erw [ix_of]
  split
  · rename_i next heq
    have heq : nextC.f items.size ix = some next := heq
    rw [hf] at heq
    cases heq
    have hz : (flds (.ref p) 1 last ix).extract 0 3 ++ (ix'.map fun i : Nat => rawInt i).toArray = flds (.ref p) 1 last ix' := by
      unfold flds
      simp
      intro _ _
      rfl
    refine wpAny_bind ?_
    show wpAny _ _ (updateFields it _) _ _ _
    refine wpAny_updateFields hit rfl ?_ (by rw [hz]; simp [flds]; rw [sizeLine_eq]; omega)
    generalize hh1 : s.heap.update it (Obj.mapFields fun fs => fs.extract 0 3 ++ (ix'.map fun i : Nat => rawInt i).toArray) = h1
    have hit1 : IsC h1 it p 1 last ix' := by
      rw [← hh1]
      refine (Heap.get?_update_self _ hit rfl).trans ?_
      show some ({ cls := .type "itertools.combinations", data := .fields ((flds (.ref p) 1 last ix).extract 0 3 ++ (ix'.map fun i : Nat => rawInt i).toArray) } : Obj) = _
      rw [hz]
    have hne : it ≠ p := fun e => by
      subst e
      have := congrArg (fun o : Option Obj => o.map (·.cls)) (hit.symm.trans hp)
      simp at this
    have hk1 : ∀ c o, c ≠ it → s.heap.get? c = some o → h1.get? c = some o := fun c o hc e => by
      rw [← hh1]
      exact (Heap.get?_update_other _ _ (Ne.symm hc)).trans e
    have hz1 : h1.objs.size = s.heap.objs.size := by rw [← hh1]; exact Heap.size_update ..
    have hp1 := hk1 p _ (Ne.symm hne) hp
    clear hh1
    dsimp only
    refine wpAny_bind ?_
    repeat (first | wp_step | simp only [List.head?_cons, List.getElem?_cons_succ, List.getElem?_cons_zero, List.length_cons, List.length_nil])
    rw [show (ix'.map fun i => items.getD i Value.none) = told items ix' from rfl]
    have hz0 : ¬ ((told items ix').toArray.size > sizeLine) := by
      unfold told
      simp
      rw [sizeLine_eq]; omega
    rw [if_neg hz0]
    refine wpAny_newObjAsIs_type ?_
    have hit2 : IsC (h1.push { cls := .type "tuple", data := .seq (told items ix').toArray }) it p 1 last ix' := Heap.get?_push_of_some _ hit1
    refine wpAny_bind (wpAny_field hit2 rfl (x := last) (by simp [flds]) ?_)
    refine wpAny_bind (wpAny_setField hit2 rfl (by simp [flds]) (wpAny_bind (wpAny_letGo ?_)))
    refine wpAny_pure ⟨_, rfl, wpAny_pure ?_⟩
    have hlt : it < h1.objs.size := Heap.lt_size hit1
    have := hQ ((h1.push { cls := .type "tuple", data := .seq (told items ix').toArray }).update it (Obj.mapFields (·.setIfInBounds 2 (.ref h1.objs.size)))) (by rw [← hz1]; exact Heap.get?_update_self _ hit2 rfl) ((Heap.get?_update_other _ _ (by rw [← hz1]; exact Nat.ne_of_lt hlt)).trans (by rw [← hz1]; exact Heap.get?_push_size _ rfl)) (by rw [Heap.size_update, Heap.size_push, hz1]) fun c o hc e => (Heap.get?_update_other _ _ (Ne.symm hc)).trans (Heap.get?_push_of_some _ (hk1 c o hc e))
    exact (congrArg (fun z : Nat => Q (some (.ref z)) _) hz1).mpr this
  · rename_i heq
    have heq : nextC.f items.size ix = none := heq
    rw [hf] at heq
    cases heq
theorem next_end {it p : Addr} {ix : List Nat} {items : Array Value} {last : Value} {Q : Option Value → Shared → Prop} (hh : A.handled = none) (hit : IsC s.heap it p 1 last ix) (hp : s.heap.get? p = some { cls := .type "tuple", data := .seq items }) (hf : nextC.f items.size ix = none)
    (hQ : ∀ (h' : Heap) (tk : Nat), (∀ c o, c ≠ it → s.heap.get? c = some o → h'.get? c = some o) → Q none { s with heap := h', toks := tk }) :
    wpAny (model prog w) A (pyNext (.ref it)) Q E s := by
  have hT : s.TypeIs (.ref it) "itertools.combinations" := ⟨_, hit, rfl⟩
  unfold pyNext
  refine wpAny_bind (wpAny_attempt (wpAny_callSpecial?_slot (name := Str.ofString "__next__") hT next_c (wpAny_call_entry next_c hT entx_c ?_ (ax_c _))))
  show wpAny _ A.in1 (_ >>= _) _ _ s
  refine wpAny_bind ?_
  repeat (first | wp_step | simp only [List.head?_cons, List.getElem?_cons_succ, List.getElem?_cons_zero, List.length_cons, List.length_nil])
  erw [ix_of]
  split
  · rename_i next heq
    have heq : nextC.f items.size ix = some next := heq
    rw [hf] at heq
    cases heq
  · refine wpAny_bind (wpAny_setField hit rfl (by simp [flds]) ?_)
    unfold Builtin.Itertools.itStop
    repeat wp_step
    simp only [raiseNew]
    refine wpAny_bind (wpAny_handled ?_)
    rw [show A.in1.handled = none from hh]
    refine wpAny_bind (wpAny_pure (wpAny_throw ?_))
    refine wpAny_bind (wpAny_isInstance (T := "StopIteration") (b := true) ⟨_, Heap.get?_push_size _ rfl, rfl⟩ isSubtype_stop ?_)
    refine wpAny_pure (hQ _ _ fun c o hc e => ?_)
    exact Heap.get?_push_of_some _ (Heap.get?_push_of_some _ ((Heap.get?_update_other _ _ (Ne.symm hc)).trans e))
end
end Cb

/-! the layer of data: combinations(range, k) walked -/
namespace DL
open PySem PySem.Spec PyProof.Rows L2 Cb
/-- the choices from one on -/
def runC (n : Nat) : Nat → List Nat → Option (List (List Nat))
  | 0, _ => none
  | m + 1, ix => if ix.length ≤ 1000 ∧ (ix.all fun j => decide (j < n)) = true then match nextC.f n ix with
    | none => some [ix]
    | some y => (runC n m y).map (ix :: ·) else none
structure RunC (n : Nat) (ix : List Nat) (L : List (List Nat)) : Prop where
  hd : L[0]? = some ix
  st : ∀ i jx, L[i]? = some jx → nextC.f n jx = L[i + 1]?
  ok : ∀ jx ∈ L, jx.length ≤ 1000 ∧ ∀ j ∈ jx, j < n
theorem runC_is {n : Nat} : ∀ {m : Nat} {ix : List Nat} {L : List (List Nat)}, runC n m ix = some L → RunC n ix L
  | 0, _, _, h => by cases h
  | m + 1, ix, L, h => by
    unfold runC at h
    split at h
    · rename_i hc
      have hok : ix.length ≤ 1000 ∧ ∀ j ∈ ix, j < n := ⟨hc.1, fun j hj => of_decide_eq_true (List.all_eq_true.mp hc.2 j hj)⟩
      cases hf : nextC.f n ix with
      | none =>
        rw [hf] at h
        cases h
        refine ⟨rfl, fun i jx e => ?_, fun jx hj => by rw [List.mem_singleton.mp hj]; exact hok⟩
        match i, e with
        | 0, e => cases e; exact hf
        | i + 1, e => simp at e
      | some y =>
        rw [hf] at h
        dsimp only at h
        cases hr : runC n m y with
        | none => rw [hr] at h; cases h
        | some L' =>
          rw [hr] at h
          cases h
          have ih := runC_is hr
          refine ⟨rfl, fun i jx e => ?_, fun jx hj => ?_⟩
          · match i, e with
            | 0, e => cases e; rw [hf]; exact ih.hd.symm
            | i + 1, e => exact ih.st i jx e
          · rcases List.mem_cons.mp hj with rfl | hj
            · exact hok
            · exact ih.ok jx hj
    · cases h
abbrev plO (items : Array Value) : Obj := { cls := .type "tuple", data := .seq items }
def stC (it p : Addr) (items : Array Value) (ix0 : List Nat) (L : List (List Nat)) (i : Nat) (h : Heap) : Prop :=
  h.get? p = some (plO items) ∧ ((i = 0 ∧ IsC h it p 0 .none ix0) ∨ ∃ j ix last, i = j + 1 ∧ L[j]? = some ix ∧ IsC h it p 1 last ix)
def vix (lo : Int) (ix : List Nat) : List V := ix.map fun j : Nat => V.int (lo + (j : Int))
/-- the choices, each a new tuple -/
def ItzC (lo : Int) (L : List (List Nat)) : It :=
  ⟨fun i _ => i < L.length, fun i H v H' => ∃ T ix, L[i]? = some ix ∧ v = .ref T ∧ H T = none ∧ H' = upd H T (.tup (vix lo ix)), fun i _ => L.length ≤ i⟩
theorem vals_told {lo : Int} {n : Nat} {items : Array Value} (h : ItemsOf (fun i v => ∃ t, v = .int (lo + i * 1) t) items n) : ∀ {ix : List Nat}, (∀ j ∈ ix, j < n) → Vals (vix lo ix) (told items ix)
  | [], _ => .nil
  | j :: ix, hj => by
    refine .cons ?_ (vals_told h fun k hk => hj k (List.mem_cons_of_mem _ hk))
    have hlt : j < items.size := by rw [h.1]; exact hj j List.mem_cons_self
    obtain ⟨t, e⟩ := h.2 j items[j] (Array.getElem?_eq_getElem hlt)
    refine ⟨t, ?_⟩
    show items.getD j .none = _
    rw [Array.getD_eq_getD_getElem?, Array.getElem?_eq_getElem hlt, Option.getD_some, e, Int.mul_one]
theorem turn_comb {P : Program} {w : World} {K : PySem.W.Frag} {tg : Expr} {it p : Addr} {items : Array Value} {lo : Int} {n : Nat} {ix0 : List Nat} {L : List (List Nat)} (hne : it ≠ p) (hit : ItemsOf (fun i v => ∃ t, v = .int (lo + i * 1) t) items n) (R : RunC n ix0 L) :
    Turn P w K tg (ItzC lo L) [it, p] it (stC it p items ix0 L) where
  mem := by simp
  obj := fun i h st c hc => by
    obtain ⟨hp, hi⟩ := st
    simp only [List.mem_cons, List.not_mem_nil, or_false] at hc
    rcases hc with rfl | rfl
    · rcases hi with ⟨_, e⟩ | ⟨_, _, _, _, _, e⟩
      · exact ⟨_, e, fun v q => nomatch q⟩
      · exact ⟨_, e, fun v q => nomatch q⟩
    · exact ⟨_, hp, fun v q => nomatch q⟩
  keep := fun i h h' st k => by
    obtain ⟨hp, hi⟩ := st
    refine ⟨k p (by simp) _ hp, ?_⟩
    rcases hi with ⟨e0, e⟩ | ⟨j, ix, last, e0, e1, e⟩
    · exact .inl ⟨e0, k it (by simp) _ e⟩
    · exact .inr ⟨j, ix, last, e0, e1, k it (by simp) _ e⟩
  item := by
    intro X hP hw hK hc i pins s σ H E I hf st hg
    subst hP hw hK
    obtain ⟨hp, hi⟩ := st
    have hg : i < L.length := hg
    obtain ⟨ix, hix⟩ : ∃ ix, L[i]? = some ix := ⟨L[i], List.getElem?_eq_getElem hg⟩
    obtain ⟨ok1, ok2⟩ := R.ok ix (List.mem_of_getElem? hix)
    have fin : ∀ h' : Heap, IsC h' it p 1 (.ref s.heap.objs.size) ix → h'.get? s.heap.objs.size = some { cls := .type "tuple", data := .seq (told items ix).toArray } → h'.objs.size = s.heap.objs.size + 1 → (∀ c o, c ≠ it → s.heap.get? c = some o → h'.get? c = some o) →
        ∃ u, some (Value.ref s.heap.objs.size) = some u ∧ wpAny (model X.prog X.w) X.A (letOwnedTupleGo tg (.ref it) u) (fun _ s2 => ∃ x H', Inv X pins σ H' s2 ∧ RelV x u ∧ (ItzC lo L).yld i H x H' ∧ stC it p items ix0 L (i + 1) s2.heap ∧ ∀ b ∈ [it, p], H' b = none) E { s with heap := h' } := fun h' e1 e2 e3 e4 => by
      refine ⟨_, rfl, letGo_of_cls (s := { s with heap := h' }) e1 rfl rfl (by decide) ?_⟩
      have new : ObjOk X.prog X.w (upd H s.heap.objs.size (.tup (vix lo ix))) h' s.heap.objs.size (.tup (vix lo ix)) :=
        ⟨by unfold vix; rw [List.length_map, sizeLine_eq]; omega, told items ix, vals_told hit ok2, ⟨_, e2, rfl, _, rfl⟩⟩
      have I1 : Inv X pins σ (upd H s.heap.objs.size (.tup (vix lo ix))) { s with heap := h' } :=
        I.turnedNew (t' := s.toks) (ch := [it]) (fun c o hb q => e4 c o (by simpa using hb) q) (fun b hb => hf b (by rw [List.mem_singleton.mp hb]; simp)) (Nat.le_refl _) new
      refine ⟨.ref s.heap.objs.size, _, I1, rfl, ⟨_, ix, hix, rfl, I.hok.fresh (Nat.le_refl _), rfl⟩, ⟨e4 p _ (Ne.symm hne) hp, .inr ⟨i, ix, _, rfl, hix, e1⟩⟩, fun c hcm => ?_⟩
      have hlt : c < s.heap.objs.size := by
        simp only [List.mem_cons, List.not_mem_nil, or_false] at hcm
        rcases hcm with rfl | rfl
        · rcases hi with ⟨_, e⟩ | ⟨_, _, _, _, _, e⟩
          · exact Heap.lt_size e
          · exact Heap.lt_size e
        · exact Heap.lt_size hp
      rw [upd_ne (Nat.ne_of_lt hlt)]
      exact (hf c hcm).1
    rcases hi with ⟨e0, e⟩ | ⟨j, jx, last, e0, e1, e⟩
    · subst e0
      have : ix0 = ix := by
        have := R.hd
        rw [hix] at this
        cases this; rfl
      subst this
      exact next_first e hp ok1 fin
    · subst e0
      have hz : items.size = n := hit.1
      exact next_step e hp (by rw [hz, R.st j jx e1, hix]) ok1 fin
  done := by
    intro X hP hw hK hc i pins s σ H E I hf st hg
    subst hP hw hK
    obtain ⟨hp, hi⟩ := st
    have hg : L.length ≤ i := hg
    rcases hi with ⟨e0, e⟩ | ⟨j, jx, last, e0, e1, e⟩
    · have := R.hd
      rw [List.getElem?_eq_none (by omega)] at this
      cases this
    · have hz : items.size = n := hit.1
      have hn : nextC.f items.size jx = none := by rw [hz, R.st j jx e1, List.getElem?_eq_none (by omega)]
      exact next_end (I.ok.hd hc) e hp hn fun h' tk hk => ⟨rfl, I.turnedL (t' := tk) (ch := [it]) (fun c o hb q => hk c o (by simpa using hb) q) fun b hb => hf b (by rw [List.mem_singleton.mp hb]; simp)⟩
  self := fun A i s Q E st h => by
    obtain ⟨hp, hi⟩ := st
    have hT : s.TypeIs (.ref it) "itertools.combinations" := by
      rcases hi with ⟨_, e⟩ | ⟨_, _, _, _, _, e⟩
      · exact ⟨_, e, rfl⟩
      · exact ⟨_, e, rfl⟩
    refine wpAny_pyIter_slot hT iter_c (wpAny_call_entry iter_c hT enti_c ?_ (ai_c _))
    show wpAny _ _ (ret (.ref it)) _ _ s
    exact wpAny_pure ⟨_, rfl, "itertools.combinations", _, hT, next_c.lookup, h⟩
def iComb (ta : TA) : TI := fun σ H R => ta σ H fun vs H1 => ∃ (r : Addr) (lo : Int) (n k m : Nat) (L : List (List Nat)), vs = [.ref r, .int (k : Int)] ∧ H1 r = some (.rng lo (lo + (n : Int))) ∧ (-1000 ≤ lo ∧ lo ≤ 1000) ∧ n ≤ 1000 ∧ k ≤ n ∧ runC n m (List.range k) = some L ∧ R (ItzC lo L) H1
theorem pi_comb {X : Cx} {tg e e2 : Expr} {ta : TA} {p pos : Pos} (hg : Gl X "combinations") (hm : X.mg "combinations" = some (.type "itertools.combinations")) (ha : PA X [e, e2] ta) (hcl : X.calm = true)
    (hs : starEach [e, e2] X.env = (false, eval e X.env) :: starEach [e2] X.env := by rfl) (hpl : (backTo pos (starEach [e2] X.env)).any (·.1) = false := by rfl) :
    PI X tg (.Call (.Name "combinations" p) [e, e2] [] pos) (iComb ta) := by
  refine ⟨fun pins s σ H R I h => ?_⟩
  refine Call_ (ld_glob I hg hm (PyProof.Rows.callWith_type1 (thn (ha.run pos pins s σ H _ I h) fun us s1 ⟨vs, H1, I1, r1, q1⟩ => ?_) hs hpl))
  obtain ⟨r, lo, n, k, m, L, rfl, hr, hlo, hn, hk, hL, q⟩ := q1
  obtain ⟨u, u2, rfl, ru, ru2⟩ := vals2 r1
  obtain rfl : u = Value.ref r := ru
  obtain ⟨tk0, rfl⟩ : ∃ t, u2 = Value.int (k : Int) t := ru2
  obtain ⟨t, t1, t2, hro⟩ : ∃ t u v, s1.heap.get? r = some { cls := .type "range", data := .fields #[.int lo t, .int (lo + (n : Int)) u, .int 1 v] } := I1.hok r _ hr
  have hR := runC_is hL
  refine callType_new called_c (by decide +kernel) (tcall_c _ _) (ncall_c _ _) (fun obj => F.args_object_init_3 obj _ _) entn_c (meets_new r lo (lo + (n : Int)) t t1 t2 tk0 n k (small_one (by omega) (by omega) (by omega) (by omega)) (by rw [rangeSize_nat]; omega) hn (by omega)) ⟨I1.ok.hd hcl, hro, fun h' tk acc hkeep hit => ?_⟩
  show _ ∧ _
  rw [Heap.size_push]
  have hne : h'.objs.size + 1 ≠ h'.objs.size := by omega
  have hst : IsC ((h'.push (plO acc)).push { cls := .type "itertools.combinations", data := .fields (flds (.ref h'.objs.size) (if k > n then 2 else 0) .none (List.range k)) }) (h'.objs.size + 1) h'.objs.size 0 .none (List.range k) := by
    rw [if_neg (by omega)]
    have := Heap.get?_push_size (h'.push (plO acc)) (o := { cls := .type "itertools.combinations", data := .fields (flds (.ref h'.objs.size) 0 .none (List.range k)) }) rfl
    rw [Heap.size_push] at this
    exact this
  have hpo : ((h'.push (plO acc)).push { cls := .type "itertools.combinations", data := .fields (flds (.ref h'.objs.size) (if k > n then 2 else 0) .none (List.range k)) }).get? h'.objs.size = some (plO acc) := Heap.get?_push_of_some _ (Heap.get?_push_size _ rfl)
  refine ⟨⟨_, hst, rfl⟩, ?_⟩
  have I2 : Inv X pins σ H1 { s1 with heap := (h'.push (plO acc)).push { cls := .type "itertools.combinations", data := .fields (flds (.ref h'.objs.size) (if k > n then 2 else 0) .none (List.range k)) }, toks := tk } :=
    I1.kept (t' := tk) fun b o e => Heap.get?_push_of_some _ (Heap.get?_push_of_some _ (hkeep b o e))
  have T := turn_comb (P := X.prog) (w := X.w) (K := X.K) (tg := tg) hne hit hR
  refine T.self _ 0 _ _ _ ⟨hpo, .inl ⟨rfl, hst⟩⟩ ?_
  refine ⟨_, _, _, _, H1, rfl, I2, T, ⟨hpo, .inl ⟨rfl, hst⟩⟩, fun c hcm => ?_, q⟩
  have Ih : Inv X pins σ H1 { s1 with heap := h', toks := tk } := I1.kept (t' := tk) hkeep
  have hlc : h'.objs.size ≤ c := by
    simp only [List.mem_cons, List.not_mem_nil, or_false] at hcm
    rcases hcm with rfl | rfl <;> omega
  exact Ih.fpOk hlc (Ih.hok.fresh hlc)
def tupC (lo : Int) (ix : List Nat) : D := .tup (ix.map fun j : Nat => D.int (lo + (j : Int)))
theorem reps_vix {G : Gd} {HF : Hp} (lo : Int) : ∀ ix : List Nat, Reps G HF (vix lo ix) (ix.map fun j : Nat => D.int (lo + (j : Int)))
  | [] => .nil
  | j :: ix => .cons (.int _) (reps_vix lo ix)
theorem itd_comb {G : Gd} {HF : Hp} {lo : Int} {L : List (List Nat)} : ItD G (ItzC lo L) HF (L.map (tupC lo)) where
  go := fun i H1 HF1 s1 s2 hi => by
    rw [List.length_map] at hi
    exact hi
  yld := fun i x H1 HF1 H2 d s1 s2 hd ⟨T, ix, e0, e1, e2, e3⟩ => by
    subst e1; subst e3
    rw [List.getElem?_map, e0] at hd
    cases hd
    exact ⟨_, .new e2, .tup (SqE.of upd_same) (reps_vix lo ix)⟩
  stop := fun i H1 HF1 s1 s2 hi => by
    rw [List.length_map] at hi
    exact hi
section
variable {X : Cx} {W : WD} {pos : Pos} {a b tg : Expr} {fa fb : DEn}
/-- what combinations of a range tells -/
def gComb : D → D → Option (List D)
  | .rng lo hi, .int k => if (-1000 ≤ lo ∧ lo ≤ 1000) ∧ (lo ≤ hi ∧ hi - lo ≤ 1000) ∧ 0 ≤ k ∧ k ≤ hi - lo then (runC (hi - lo).toNat (((hi - lo).toNat + 1) ^ k.toNat + 1) (List.range k.toNat)).map fun L => L.map (tupC lo) else none
  | _, _ => none
def mComb (fa fb : DEn) : DDn := fun ρ S => (fa ρ S).bind fun x S1 => (fb ρ S1).bind fun y S2 => lift (gComb x y) S2
theorem i_comb {p : Pos} (hc : X.calm = true) (hm : X.mg "combinations" = some (.type "itertools.combinations")) (ha : DE X W a fa) (hb : DE X W b fb) (hg : Gl X "combinations" := by rfl) (hs : starEach [a, b] X.env = (false, eval a X.env) :: starEach [b] X.env := by rfl) (hs2 : starEach [b] X.env = (false, eval b X.env) :: starEach [] X.env := by rfl)
    (hpl : (backTo pos (starEach [b] X.env)).any (·.1) = false := by rfl) : DI X W tg (.Call (.Name "combinations" p) [a, b] [] pos) (mComb fa fb) :=
  PI.imp (pi_comb hg hm (pa_cons ha (pa_cons hb pa_nil hs2) hs) hc hs hpl) fun σ H R ⟨HF, L, ρ, S, RR, p⟩ => ⟨HF, L, ρ, S, RR, Post.bind p fun x S1 v H1 HF1 L1 e1 st1 R1 r1 p1 => ⟨HF1, L1, ρ, S1, R1, Post.bind p1 fun y S2 w H2 HF2 L2 e2 st2 R2 r2 p2 => by
    obtain ⟨ds, ed, p3⟩ := p2.lift
    have r1' := Rep.mono st2.fro r1
    unfold gComb at ed
    split at ed
    · rename_i lo hi k
      split at ed
      · rename_i hcd
        cases hr : runC (hi - lo).toNat (((hi - lo).toNat + 1) ^ k.toNat + 1) (List.range k.toNat) with
        | none => rw [hr] at ed; cases ed
        | some Ls =>
          rw [hr] at ed
          cases ed
          cases r1' with
          | @rng q _ _ h1 => cases r2 with
            | int i =>
              refine ⟨q, lo, (hi - lo).toNat, k.toNat, _, Ls, ?_, ?_, hcd.1, by omega, by omega, hr, p3.done R2 .no itd_comb⟩
              · rw [show ((k.toNat : Nat) : Int) = k by omega]
              · rw [show lo + (((hi - lo).toNat : Nat) : Int) = hi by omega]
                exact R2.sub _ _ h1
      · cases ed
    · cases ed⟩⟩
end
end DL

/-! the layer of data: range(a, b) as a value -/
namespace DL
open PySem PySem.Spec PyProof.Rows L2
section
variable {X : Cx} {W : WD}
def gRgV2 : List D → Option D
  | [.int i, .int j] => some (.rng i j)
  | _ => none
theorem biRgV2 : BiO X W (.type "range") gRgV2 := by
  refine ⟨_, cr_range2, fun xs vs H HF d Q sub r e q => ?_⟩
  unfold gRgV2 at e
  split at e
  · cases e
    exact ⟨_, _, two_ints r, fun p hp => q _ _ _ (.new hp) (.rng upd_same)⟩
  · cases e
end
end DL

/-! the layer of data: plain tuples: tuple(list), and their .index -/
namespace DL
open PySem PySem.Spec PyProof.Rows L2
/-- a plain tuple is a tuple -/
def unp : D → D
  | .ptp ds => .tup ds
  | d => d
theorem unp_rep {G : Gd} {HF : Hp} {v : V} {d : D} (r : Rep G HF v d) : Rep G HF v (unp d) := by
  cases d with
  | ptp ds =>
    cases r with
    | ptp h1 h2 h3 => exact .tup (.inl (.inr ⟨_, h1⟩)) h3
  | _ => exact r
section
variable {X : Cx} {W : WD} {pos : Pos} {a : Expr} {fa : DEn} {es : List Expr}
def mUnp (fa : DEn) : DEn := fun ρ S => (fa ρ S).bind fun x S1 => .ok (unp x) S1
theorem xunp (ha : DE X W a fa) : DE X W a (mUnp fa) :=
  PE.imp ha fun σ H Q ⟨HF, L, ρ, S, R, p⟩ => ⟨HF, L, ρ, S, R, Post.bind p fun x S1 v H1 HF1 L1 e1 st1 R1 r1 p1 => p1.done R1 .no (unp_rep r1)⟩
theorem call_tuple_frz : CallR X (.type "tuple") (fun xs H Q => ∃ p ys, xs = [.ref p] ∧ SqL X.K H p ys ∧ ∀ l o, H l = none → o.dict = none → Q (.ref l) (upd H l (.frz o (.tup ys)))) := by
  intro pins s σ H xs us Q I r h
  obtain ⟨p, ys, rfl, hq, q⟩ := h
  obtain ⟨u, rfl, rx⟩ := vals1 r
  cases rx
  obtain ⟨its, r', pl, hz⟩ := I.list hq
  have hlen := r'.length
  refine call_tuple_list pl.isList (fun h' kp => ?_) (by simp only [List.size_toArray] <;> omega)
  have I1 : Inv X pins σ H { s with heap := h' } := I.kept (t' := s.toks) kp
  have I2 : Inv X pins σ (upd H h'.objs.size (.frz { cls := .type "tuple", data := .seq its.toArray } (.tup ys))) { s with heap := h'.push { cls := .type "tuple", data := .seq its.toArray } } :=
    I1.laid (t' := s.toks) (fun b o e => Heap.get?_push_of_some _ e) (Nat.le_refl _) (show ObjOk X.prog X.w _ _ _ (.frz _ (.tup ys)) from ⟨Heap.get?_push_size _ rfl, hz, its, r', IsTup.new _ _⟩)
  exact ⟨.ref h'.objs.size, _, I2, rfl, q _ _ (I1.hok.fresh (Nat.le_refl _)) rfl⟩
/-- tuple(a cell) -/
def mPtpC (i : Nat) : DEn := fun ρ S => match ρ[i]? with
  | some (some (.cel n)) => match S[n]? with
    | some (some (.lst ds)) => .ok (.ptp ds) S
    | _ => .bad
  | _ => .bad
theorem xptpC (i : Nat) {x : Str} {p px : Pos} (hm : X.mg "tuple" = none) (hg : Gl X "tuple" := by rfl) (hN : X.N[i]? = some x := by rfl) (hvi : Vis X.env.scope x := by first | exact Or.inl rfl | exact Or.inr (Or.inl rfl) | exact Or.inr (Or.inr rfl)) (hd : (x == ("__debug__" : Str)) = false := by decide) (hcd : (x == ("__classdict__" : Str)) = false := by decide)
    (he : starEach [Expr.Name x px] X.env = (false, eval (.Name x px) X.env) :: starEach [] X.env := by rfl) (hpl : (backTo pos (starEach [] X.env)).any (·.1) = false := by rfl) : DE X W (.Call (.Name "tuple" p) [.Name x px] [] pos) (mPtpC i) := by
  refine PE.imp (pe_callTy call_tuple_frz hg hm PyProof.Rows.boot_tuple (pa_cons (pe_var (i := i) hN hvi hd hcd) pa_nil he) (by decide) (by decide) he hpl) fun σ H Q ⟨HF, L, ρ, S, R, p⟩ => ?_
  unfold mPtpC at p
  split at p
  · rename_i n hn
    split at p
    · rename_i ds hS
      obtain ⟨q, vs, h1, h2, h3, h4, h5⟩ := R.celAt hn hS
      exact ⟨_, h1, _, _, rfl, SqL.of h3, fun l o hl ho => p.done R (.new hl) (.ptp upd_same ho (h4.mono (same_upd (R.hf hl))))⟩
    · exact p.elim
  · exact p.elim
/-- tuple(xs) of a list -/
def mPtp (fa : DEn) : DEn := fun ρ S => (fa ρ S).bind fun x S1 => match x with
  | .lst ds => .ok (.ptp ds) S1
  | _ => .bad
theorem xptp {p : Pos} (hm : X.mg "tuple" = none) (ha : DE X W a fa) (hg : Gl X "tuple" := by rfl) (he : starEach [a] X.env = (false, eval a X.env) :: starEach [] X.env := by rfl) (hpl : (backTo pos (starEach [] X.env)).any (·.1) = false := by rfl) : DE X W (.Call (.Name "tuple" p) [a] [] pos) (mPtp fa) :=
  PE.imp (pe_callTy call_tuple_frz hg hm PyProof.Rows.boot_tuple (pa_cons ha pa_nil he) (by decide) (by decide) he hpl) fun σ H Q ⟨HF, L, ρ, S, R, p⟩ => ⟨HF, L, ρ, S, R, Post.bind p fun x S1 v H1 HF1 L1 e1 st1 R1 r1 p1 => by
    cases x with
    | lst ds =>
      cases r1 with
      | lst h1 h2 => exact ⟨_, _, rfl, SqL.of (R1.sub _ _ h1), fun l o hl ho => p1.done R1 (.new hl) (.ptp upd_same ho (h2.mono (same_upd (R1.hf hl))))⟩
    | _ => exact p1.elim⟩
theorem flat_ints' (js : List Int) : (js.map V.int).all flatV = true := by
  rw [List.all_map]
  exact List.all_eq_true.mpr fun _ _ => rfl
/-- t.index(x), the first place, ints -/
theorem mt_tup_indexI : MtR X "tuple.index" (fun x xs H Q => ∃ p, ∃ js : List Int, ∃ i j, x = .ref p ∧ xs = [.int i] ∧ SqT X.K H p (js.map V.int) ∧ js[j]? = some i ∧ (∀ m, m < j → js[m]? ≠ some i) ∧ Q (.int (j : Nat)) H) := by
  intro pins s σ H x xs v us Q I rx rs h
  obtain ⟨p, ys, z, j, rfl, rfl, hq, hy, hno, q⟩ := h
  cases rx
  obtain ⟨u, rfl, t, rfl⟩ := vals1 rs
  obtain ⟨its, r, pl, hz⟩ := I.tuple hq
  obtain ⟨⟨cls, dd, dt, sl⟩, ho, hc, n, hd⟩ := pl
  simp only at hc hd
  subst hc
  subst hd
  have hl : its.toArray.size = ys.length := by rw [List.size_toArray, ← r.length, List.length_map]
  have hj : j < its.toArray.size := by rw [hl]; exact (List.getElem?_eq_some_iff.mp hy).1
  have at' : ∀ (m : Nat) (hm : m < its.toArray.size), ∃ y t', ys[m]? = some y ∧ its.toArray[m] = Value.int y t' := fun m hm => by
    have hm' : m < ys.length := by rw [← hl]; exact hm
    obtain ⟨w, hw, t', hw'⟩ := r.get (i := m) (x := .int ys[m]) (by simp [hm'])
    refine ⟨ys[m], t', List.getElem?_eq_getElem hm', ?_⟩
    have e := (List.getElem?_eq_some_iff.mp hw).2
    rw [← hw', ← e]
    simp
  refine call_meets PySem.F.slot_tuple_index ⟨_, ho, rfl⟩ PySem.F.entry_tuple_index (PySem.F.args_tuple_index_2 _ _) (TI.tuple_indexAt p its.toArray n dd sl (.int z t) (eqU (.int z)) j hj ?_ ?_)
    ⟨ho, fun w hw => mem_eqAt (x := .int z) ⟨t, rfl⟩ rfl r (flat_ints' ys) w (by simpa using hw), ⟨.int (j : Nat), H, I.tok _, ⟨_, rfl⟩, q⟩⟩
  · obtain ⟨y, t', h1, h2⟩ := at' j hj
    rw [hy] at h1
    cases h1
    rw [h2]
    show (z == z) = true
    exact beq_self_eq_true z
  · intro m hm hmj
    obtain ⟨y, t', h1, h2⟩ := at' m hm
    rw [h2]
    show (y == z) = false
    exact beq_eq_false_iff_ne.mpr fun e => hno m hmj (e ▸ h1)
theorem pe_tmeth {o e : Expr} {apos cpos : Pos} {to : TE} {t : TA} {id : String} {name : Str} {r : V → List V → Hp → VK → Prop} (slot : Slot "tuple" name id) (hty : typeOf (.builtin id) = pure (.type "method_descriptor")) (hm : MtR X id r) (ho : PE X o to) (ha : PA X (e :: es) t)
    (hbase : attributeBase o name X.env (eval o X.env) = eval o X.env := by rfl)
    (hfew : ((backTo cpos (starEach (e :: es) X.env)).all (fun x => !x.1) && (backToKw cpos (keywordEach [] X.env)).all (fun x => x.1.isSome)
      && decide ((e :: es).length + ([] : List Keyword).length + (if ([] : List Keyword).isEmpty then 0 else 1) < 30)) = true := by rfl)
    (hline : (apos.endLine == cpos.line) = true := by rfl) (hs : starEach (e :: es) X.env = (false, eval e X.env) :: starEach es X.env := by rfl) (hplain : (backTo cpos (starEach es X.env)).any (·.1) = false := by rfl) :
    PE X (.Call (.Attribute o name apos) (e :: es) [] cpos) (fun σ H Q => to σ H fun x H1 => (∃ p o xs, x = .ref p ∧ H1 p = some (.frz o (.tup xs)) ∧ o.dict = none) ∧ t σ H1 fun vs H2 => r x vs H2 Q) := by
  refine ⟨fun pins s σ H Q I h => ?_⟩
  refine wpAny_Call_method_late hbase hfew hline rfl (thn (ho.run pins s σ H _ I h) fun v s1 ⟨x, H1, I1, r1, ⟨p, ob, xs, ex, hp, hdict⟩, q1⟩ => ?_)
  subst ex
  obtain rfl : v = Value.ref p := r1
  obtain ⟨ho1, _, its, _, ob2, e2, hc, _⟩ := I1.hok p _ hp
  rw [ho1] at e2
  cases e2
  refine ⟨"tuple", id, PySem.F.plainAttrs_tuple, slot, hty, ⟨ob, ho1, hc⟩, fun a e => by cases e; exact ⟨ob, ho1, hdict⟩, ?_⟩
  have hA := ha.run cpos pins s1 σ H1 _ I1 q1
  rw [hs] at hA ⊢
  refine Calls.callWith_builtin (by show (false || (backTo cpos (starEach es X.env)).any (·.1)) = false; rw [hplain] <;> rfl) (Calls.evalArgs_plain ?_)
  exact thn hA fun us s2 ⟨vs, H2, I2, r2, q2⟩ => hm pins s2 σ H2 (.ref p) vs _ us Q I2 rfl r2 q2
/-- the first place of a number -/
def idxI (i : Int) : List Int → Option Nat
  | [] => none
  | x :: xs => if x = i then some 0 else (idxI i xs).map (· + 1)
theorem idxI_is (i : Int) : ∀ (xs : List Int) {j : Nat}, idxI i xs = some j → xs[j]? = some i ∧ ∀ m, m < j → xs[m]? ≠ some i
  | [], _, h => by cases h
  | x :: xs, j, h => by
    unfold idxI at h
    split at h
    · rename_i c
      cases h
      exact ⟨by rw [c]; rfl, fun m hm => absurd hm (Nat.not_lt_zero _)⟩
    · rename_i c
      obtain ⟨k, hk, rfl⟩ := Option.map_eq_some_iff.mp h
      obtain ⟨h1, h2⟩ := idxI_is i xs hk
      refine ⟨by simpa using h1, fun m hm => ?_⟩
      cases m with
      | zero => simpa using c
      | succ m => simpa using h2 m (by omega)
def gTIdx (ds : List D) : List D → Option D
  | [.int i] => match intsOf ds with
    | some js => (idxI i js).map fun j => .int (j : Nat)
    | none => none
  | _ => none
theorem intsOf_is : ∀ {ds : List D} {js : List Int}, intsOf ds = some js → ds = js.map D.int
  | [], js, h => by cases h; rfl
  | d :: ds, js, h => by
    cases d with
    | int i =>
      have h : (intsOf ds).map (i :: ·) = some js := h
      obtain ⟨ks, hk, rfl⟩ := Option.map_eq_some_iff.mp h
      rw [intsOf_is hk]
      rfl
    | _ => cases h
theorem reps_int_is {G : Gd} {HF : Hp} : ∀ {js : List Int} {vs : List V}, Reps G HF vs (js.map D.int) → vs = js.map V.int
  | [], _, h => by cases h; rfl
  | j :: js, _, h => by
    cases h with
    | cons h1 h2 => cases h1; rw [reps_int_is h2]; rfl
def mTIdx (i : Nat) (fs : DDn) : DEn := fun ρ S => match ρ[i]? with
  | some (some (.v (.ptp ds))) => (fs ρ S).bind fun ys S1 => lift (gTIdx ds ys) S1
  | _ => .bad
theorem xtidx (i : Nat) {x : Str} {px apos : Pos} {fs : DDn} (ha : DA X W (a :: es) fs) (hN : X.N[i]? = some x := by rfl) (hvi : Vis X.env.scope x := by first | exact Or.inl rfl | exact Or.inr (Or.inl rfl) | exact Or.inr (Or.inr rfl)) (hd : (x == ("__debug__" : Str)) = false := by decide) (hcd : (x == ("__classdict__" : Str)) = false := by decide)
    (hbase : attributeBase (.Name x px) "index" X.env (eval (.Name x px) X.env) = eval (.Name x px) X.env := by rfl)
    (hfew : ((backTo pos (starEach (a :: es) X.env)).all (fun x => !x.1) && (backToKw pos (keywordEach [] X.env)).all (fun x => x.1.isSome) && decide ((a :: es).length + ([] : List Keyword).length + (if ([] : List Keyword).isEmpty then 0 else 1) < 30)) = true := by rfl)
    (hline : (apos.endLine == pos.line) = true := by rfl) (hs : starEach (a :: es) X.env = (false, eval a X.env) :: starEach es X.env := by rfl) (hplain : (backTo pos (starEach es X.env)).any (·.1) = false := by rfl) :
    DE X W (.Call (.Attribute (.Name x px) "index" apos) (a :: es) [] pos) (mTIdx i fs) := by
  refine PE.imp (pe_tmeth PySem.F.slot_tuple_index PySem.F.type_tuple_index mt_tup_indexI (pe_var (i := i) hN hvi hd hcd) ha hbase hfew hline hs hplain) fun σ H Q ⟨HF, L, ρ, S, R, p⟩ => ?_
  unfold mTIdx at p
  split at p
  · rename_i ds hn
    obtain ⟨v, hv1, hv2⟩ := R.env i _ hn
    have hv2 : Rep (gd X W) HF v (.ptp ds) := hv2
    cases hv2 with
    | ptp h1 h2 h3 =>
      rename_i q ob vs
      refine ⟨_, hv1, ⟨q, ob, vs, rfl, R.sub _ _ h1, h2⟩, HF, L, ρ, S, R, Post.bind p fun ys S1 ws H1 HF1 L1 e1 st1 R1 r1 p1 => ?_⟩
      obtain ⟨d, ed, p2⟩ := p1.lift
      unfold gTIdx at ed
      split at ed
      · rename_i z
        split at ed
        · rename_i js hj
          obtain ⟨j, hjj, rfl⟩ := Option.map_eq_some_iff.mp ed
          obtain ⟨k1, k2⟩ := idxI_is z js hjj
          have eds := intsOf_is hj
          subst eds
          have evs := reps_int_is h3
          subst evs
          obtain ⟨w, rfl, rw'⟩ := r1.one
          cases rw'
          exact ⟨q, js, z, j, rfl, rfl, .inl (.inr ⟨_, R1.sub _ _ (st1.fro _ _ h1)⟩), k1, k2, p2.done R1 .no (.int _)⟩
        · cases ed
      · cases ed
  · exact p.elim
end
end DL

/-! the layer of data: sorted of a tuple of ints -/
namespace SrtO
open PySem PySem.Spec PyProof.Rows
section
variable {prog : Program} {w : World} {A : Around} {E : Value → Shared → Prop} {s : Shared}
theorem collect_tup {l : Addr} {vs : List Value} {Q : List Value → Shared → Prop} (hl : PyProof.Rows.IsTup s.heap l vs.toArray)
    (h : Q vs { s with heap := (s.heap.push (seqObj "list" #[] 0)).update s.heap.objs.size (Obj.mapSeq (· ++ vs.toArray)) }) (hsz : vs.length ≤ sizeLine) :
    wpAny (model prog w) A (collect (.ref l)) Q E s := by
  obtain ⟨o, ho, hc, n, hd⟩ := id hl
  unfold collect
  refine wpAny_bind (wpAny_runValue (codeAny_builtin entry_proto_collect' ?_))
  show wpAny _ _ (do again (.builtin "list.__iadd__" ⟨[← newList [], .ref l], []⟩)) _ _ s
  refine wpAny_bind (wpAny_newList (wpAny_pure ⟨Code.quiet_builtin _ (by decide +kernel), codeAny_builtin entry_list_iadd' ?_⟩))
  show wpAny _ _ (Builtin.List.listExtendWith (.ref s.heap.objs.size) (.ref l) (.ref s.heap.objs.size)) _ _ { s with heap := s.heap.push (seqObj "list" #[] 0) }
  unfold Builtin.List.listExtendWith
  have ho' : (s.heap.push (seqObj "list" #[] 0)).get? l = some o := Heap.get?_push_of_some _ ho
  refine wpAny_bind (wpAny_typeOf (T := "tuple") ⟨o, ho', hc⟩ ?_)
  have ht : (Value.type "tuple" == Value.type "tuple") = true := by rfl
  rw [if_pos (by rw [ht]; simp)]
  refine wpAny_bind (listItems_at ho' hd ?_)
  refine wpAny_bind (listItems_at (xs := #[]) (n := 0) (Heap.get?_push_size _ rfl) rfl ?_)
  rw [if_neg (by simp)]
  refine wpAny_bind (listUpdate_at (xs := #[]) (n := 0) (Heap.get?_push_size _ rfl) rfl ?_ (Nat.zero_le _) (by show (#[] ++ vs.toArray).size ≤ sizeLine + 1; simp only [Array.size_append, List.size_toArray, List.length_nil]; omega))
  refine wpAny_pure ?_
  show wpAny (model prog w) A (do
      let o ← load s.heap.objs.size
      match o.data with
      | .seq xs _ => pure xs.toList
      | _ => unsupported "internal:collect") Q E { s with heap := (s.heap.push (seqObj "list" #[] 0)).update s.heap.objs.size (Obj.mapSeq (· ++ vs.toArray)) }
  refine wpAny_bind (wpAny_load (get?_update_seq (Heap.get?_push_size _ rfl) _) ?_)
  show wpAny _ _ (pure ((#[] : Array Value) ++ vs.toArray).toList) Q E _
  rw [show ((#[] : Array Value) ++ vs.toArray).toList = vs by simp]
  exact wpAny_pure h
theorem sorted_ordT {l : Addr} {vs : List Value} {ltv : Value → Value → Bool} {Q : Value → Shared → Prop} (O : Swo ltv) (hl : PyProof.Rows.IsTup s.heap l vs.toArray) (hz : vs.length ≤ sizeLine)
    (hS : 2 ≤ vs.length → ∀ (h₁ : Heap) (a : Addr), h₁.get? a = some (seqObj "list" vs.toArray 0) → (∀ b o, s.heap.get? b = some o → b ≠ a ∧ h₁.get? b = some o) → SortableO prog w A.in1.in1 { s with heap := h₁ } a vs ltv)
    (h : ∀ out : List Value, Srtd ltv out → Stb ltv out vs → Q (.ref (s.heap.objs.size + 1)) { s with heap := sortedAll s.heap vs out.toArray }) :
    wpAny (model prog w) A (call (.builtin "sorted") [.ref l]) Q E s := by
  refine Calls.call_function_entry kind_sorted plain_sorted entry_sorted (args_sorted1 _) ?_
  unfold Builtin.«sorted»
  refine wpAny_bind (m := checkCount "sorted" 1 1 _) (wpAny_pure ?_)
  refine wpAny_bind (collect_tup hl ?_ hz)
  refine wpAny_bind (wpAny_newList ?_ hz)
  have hsz : ((s.heap.push (seqObj "list" #[] 0)).update s.heap.objs.size (Obj.mapSeq (· ++ vs.toArray))).objs.size = s.heap.objs.size + 1 := by
    rw [Heap.size_update, size_push']
  have hoL : (((s.heap.push (seqObj "list" #[] 0)).update s.heap.objs.size (Obj.mapSeq (· ++ vs.toArray))).push (seqObj "list" vs.toArray 0)).get? (s.heap.objs.size + 1) = some (seqObj "list" vs.toArray 0) := by
    rw [← hsz]; exact Heap.get?_push_size _ rfl
  have keep : ∀ b o, s.heap.get? b = some o → b ≠ s.heap.objs.size + 1 ∧ (((s.heap.push (seqObj "list" #[] 0)).update s.heap.objs.size (Obj.mapSeq (· ++ vs.toArray))).push (seqObj "list" vs.toArray 0)).get? b = some o := fun b o q => by
    have hlt : b < s.heap.objs.size := Heap.lt_size q
    refine ⟨Nat.ne_of_lt (Nat.lt_succ_of_lt hlt), Heap.get?_push_of_some _ ?_⟩
    rw [Heap.get?_update_ne _ _ _ _ (Nat.ne_of_lt hlt)]
    exact Heap.get?_push_of_some _ q
  show wpAny _ _ _ _ _ { s with heap := ((s.heap.push (seqObj "list" #[] 0)).update s.heap.objs.size (Obj.mapSeq (· ++ vs.toArray))).push (seqObj "list" vs.toArray 0) }
  rw [hsz]
  refine wpAny_bind (wpAny_holding (wpAny_call_entry slot_list_sort ⟨_, hoL, rfl⟩ entry_list_sort (list_sort_ord O hoL hz (fun h2 => hS h2 _ _ hoL keep) fun out hs hb => ⟨_, rfl, ?_⟩) (args_list_sort _)))
  exact wpAny_pure ⟨_, rfl, h out hs hb⟩
end
end SrtO
namespace DL
open PySem PySem.Spec PyProof.Rows L2
def rSortedIT (K : PySem.W.Frag) : List V → Hp → VK → Prop := fun vs H Q => ∃ (a : Addr) (ns : List Int), vs = [V.ref a] ∧ SqT K H a (ns.map V.int) ∧ ∀ (ns' : List Int) (p : Addr), ns'.Perm ns → ns'.Pairwise (· ≤ ·) → H p = none → Q (.ref p) (upd H p (.lst (ns'.map V.int)))
section
variable {X : Cx} {W : WD}
theorem cr_sortedIT : CallR X (.builtin "sorted") (rSortedIT X.K) := by
  intro pins s σ H vs us Q I r h
  obtain ⟨a, ns, rfl, hs, q⟩ := h
  obtain ⟨its, rv, hl, hz⟩ := I.tuple hs
  rw [Vals.ref1 r]
  have hi := rv.ints
  refine SrtO.sorted_ordT SrtO.swo_int hl (by rw [← rv.length]; exact hz) (fun h2 h₁ a' _ _ => SrtO.ints_sortable hi h2) fun out h1 h2 => ?_
  obtain ⟨k1, k2, k3⟩ := SrtO.ints_out hi h1 h2
  obtain ⟨ep, he'⟩ := PyProof.Rows.sortedAll_at s.heap its out.toArray
  have hlen : ((out.map SrtO.iv).map V.int).length ≤ sizeLine := by
    rw [List.length_map, k2.length_eq]
    rw [List.length_map] at hz
    exact hz
  exact ⟨.ref _, upd H (s.heap.objs.size + 1) (.lst ((out.map SrtO.iv).map V.int)), I.laid (t' := s.toks) (fun _ _ => PyProof.Rows.sortedAll_old) (Nat.le_succ _) ⟨hlen, out, ep, vals_of_ints k1, he'⟩, rfl, q _ _ k2 k3 (I.hok.fresh (Nat.le_succ _))⟩
def gSortedT : List D → Option D
  | [.tup ds] => (intsOf ds).map fun is => .lst ((sortI is).map D.int)
  | _ => none
theorem biSortedT : BiO X W (.builtin "sorted") gSortedT := by
  refine ⟨_, cr_sortedIT, fun xs vs H HF d Q sub r e q => ?_⟩
  unfold gSortedT at e
  split at e
  · rename_i ds
    obtain ⟨v, rfl, h⟩ := r.one
    cases h with
    | tup h1 h2 =>
      cases eb : intsOf ds with
      | none => rw [eb] at e; cases e
      | some is =>
        rw [eb] at e
        cases e
        have ev := h2.intsOf eb
        subst ev
        refine ⟨_, is, rfl, SqT.mono sub h1, fun ns' p hp hs hn => ?_⟩
        have en : ns' = sortI is := PySem.W.ksm_same (hp.trans (sortI_perm is).symm) hs (sortI_sorted is)
        subst en
        exact q _ _ _ (.new hn) (.lst upd_same (reps_ints _))
  · cases e
end
end DL

/-! the layer of data: plain tuples (of which .index works): displays, t + u -/
namespace DL
open PySem PySem.Spec PyProof.Rows L2
section
variable {X : Cx} {W : WD} {pos : Pos} {a b : Expr} {fa fb : DEn} {es : List Expr} {fs : DDn}
theorem pe_tupF {x1} {t : TA} (h : PA X es t) : PE X (.Tuple es x1 pos) (fun σ H Q => t σ H fun xs H1 => xs.length ≤ sizeLine ∧ ∀ p o, H1 p = none → o.dict = none → Q (.ref p) (upd H1 p (.frz o (.tup xs)))) := by
  refine ⟨fun pins s σ H Q I hq => ?_⟩
  refine wpAny_Tuple_spliced (thn (h.run pos pins s σ H _ I hq) fun us s1 ⟨xs, H1, I1, r, z, q⟩ => ⟨by rw [← r.length]; exact z, ?_⟩)
  have hf : H1 s1.heap.objs.size = none := I1.hok.fresh (Nat.le_refl _)
  refine ⟨.ref s1.heap.objs.size, upd H1 s1.heap.objs.size (.frz { cls := .type "tuple", data := .seq us.toArray } (.tup xs)), I1.laid (t' := s1.toks) (fun b u e => Heap.get?_push_of_some _ e) (Nat.le_refl _) (show ObjOk X.prog X.w _ _ _ (.frz _ (.tup xs)) from ⟨Heap.get?_push_size _ rfl, z, us, r, ⟨_, Heap.get?_push_size _ rfl, rfl, _, rfl⟩⟩), rfl, q _ _ hf rfl⟩
/-- a display as a plain tuple -/
def mTupP (fs : DDn) : DEn := fun ρ S => (fs ρ S).bind fun xs S1 => if xs.length ≤ lim then .ok (.ptp xs) S1 else .bad
theorem xtupP {x1} (hs : DA X W es fs) : DE X W (.Tuple es x1 pos) (mTupP fs) :=
  PE.imp (pe_tupF hs) fun σ H Q ⟨HF, L, ρ, S, R, p⟩ => ⟨HF, L, ρ, S, R, Post.bind p fun xs S1 vs H1 HF1 L1 e1 st1 R1 r1 p1 => by
    split at p1
    · rename_i hz
      exact ⟨by rw [r1.length]; exact Nat.le_trans hz lim_le, fun l o hl ho => p1.done R1 (.new hl) (.ptp upd_same ho (r1.mono (same_upd (R1.hf hl))))⟩
    · exact p1.elim⟩
/-- t + u, the new object known -/
def rCatF (K : PySem.W.Frag) : R2 := fun x y H Q => ∃ a b xs ys, x = .ref a ∧ y = .ref b ∧ SqT K H a xs ∧ SqT K H b ys ∧ xs.length + ys.length ≤ sizeLine ∧
  (xs = [] → Q (.ref b) H) ∧ (xs ≠ [] → ys = [] → Q (.ref a) H) ∧ (xs ≠ [] → ys ≠ [] → ∀ p o, H p = none → o.dict = none → Q (.ref p) (upd H p (.frz o (.tup (xs ++ ys)))))
theorem op_catF : OpR X (binaryOp .Add) (rCatF X.K) := by
  intro pins s σ H x y v u Q I rx ry h
  obtain ⟨a, b, xs, ys, rfl, rfl, ha, hb, hz, q0, q1, q2⟩ := h
  cases rx
  cases ry
  obtain ⟨its, r1, p1, _⟩ := I.tuple ha
  obtain ⟨its2, r2, p2, _⟩ := I.tuple hb
  by_cases hx : xs = []
  · subst hx
    cases r1
    exact L2.cat_tup0 p1 p2 ⟨.ref b, H, I, rfl, q0 rfl⟩
  · refine HT.cat_tup p1 p2 (fun z => hx (r1.nil_iff.mp z)) (fun z => ⟨.ref a, H, I, rfl, q1 hx (r2.nil_iff.mp z)⟩) (fun z => ?_) (by rw [← r1.length, ← r2.length]; exact hz)
    refine ⟨.ref s.heap.objs.size, _, I.laid (t' := s.toks) (o := .frz { cls := .type "tuple", data := .seq (its ++ its2).toArray } (.tup (xs ++ ys))) (fun b ob q => Heap.get?_push_of_some _ q) (Nat.le_refl _) (show ObjOk X.prog X.w _ _ _ (.frz _ (.tup (xs ++ ys))) from ⟨?_, ?_⟩), rfl, q2 hx (fun w => z (r2.nil_iff.mpr w)) _ _ (I.hok.fresh (Nat.le_refl _)) rfl⟩
    · exact Heap.get?_push_size _ rfl
    · exact ⟨by rw [List.length_append]; exact hz, _, r1.append r2, IsTup.new _ _⟩
/-- t + u of plain tuples (or of the empty one and a plain one) -/
def mCatP (fa fb : DEn) : DEn := fun ρ S => (fa ρ S).bind fun x S1 => (fb ρ S1).bind fun y S2 => match x, y with
  | .ptp xs, .ptp (d :: ys) => if xs.length + (ys.length + 1) ≤ lim then .ok (.ptp (xs ++ d :: ys)) S2 else .bad
  | .tup [], .ptp (d :: ys) => if ys.length + 1 ≤ lim then .ok (.ptp (d :: ys)) S2 else .bad
  | _, _ => .bad
theorem xcatP (ha : DE X W a fa) (hb : DE X W b fb) : DE X W (.BinOp a .Add b pos) (mCatP fa fb) :=
  PE.imp (pe_op op_catF ha hb) fun σ H Q ⟨HF, L, ρ, S, R, p⟩ => ⟨HF, L, ρ, S, R, Post.bind p fun x S1 v H1 HF1 L1 e1 st1 R1 r1 p1 => ⟨HF1, L1, ρ, S1, R1, Post.bind p1 fun y S2 w H2 HF2 L2 e2 st2 R2 r2 p2 => by
    have r1' := Rep.mono st2.fro r1
    split at p2
    · rename_i xs d ys
      split at p2
      · rename_i hz
        have r1c := r1'
        cases r1' with
        | ptp a1 a2 a3 =>
          have r2c := r2
          cases r2 with
          | ptp b1 b2 b3 =>
            have la := a3.length
            have lb := b3.length
            refine ⟨_, _, _, _, rfl, rfl, .inl (.inr ⟨_, R2.sub _ _ a1⟩), .inl (.inr ⟨_, R2.sub _ _ b1⟩), by rw [la, lb]; exact Nat.le_trans hz lim_le, fun e => ?_, fun _ e => ?_, fun _ _ l o hl ho => ?_⟩
            · subst e
              cases a3
              exact p2.done R2 .no r2c
            · subst e
              cases b3
            · exact p2.done R2 (.new hl) (.ptp upd_same ho ((a3.append b3).mono (same_upd (R2.hf hl))))
      · exact p2.elim
    · rename_i d ys
      split at p2
      · rename_i hz
        cases r1' with
        | tup a1 a3 =>
          cases a3
          have r2c := r2
          cases r2 with
          | ptp b1 b2 b3 =>
            have lb := b3.length
            exact ⟨_, _, _, _, rfl, rfl, SqT.mono R2.sub a1, .inl (.inr ⟨_, R2.sub _ _ b1⟩), by rw [lb]; simp only [List.length_nil, Nat.zero_add]; exact Nat.le_trans hz lim_le, fun _ => p2.done R2 .no r2c, fun e => absurd rfl e, fun e => absurd rfl e⟩
      · exact p2.elim
    · exact p2.elim⟩⟩
end
end DL

/-! the layer of data: t[::-1] of a plain tuple is a plain tuple -/
namespace DL
open PySem PySem.Spec PyProof.Rows L2 HT
section
variable {X : Cx}
def tRevF (K : PySem.W.Frag) (te : TE) : TE := fun σ H Q => te σ H fun x H1 => ∃ a xs, x = .ref a ∧ SqT K H1 a xs ∧ ∀ p o, H1 p = none → o.dict = none → Q (.ref p) (upd H1 p (.frz o (.tup xs.reverse)))
theorem pe_revF {e : Expr} {te : TE} {k : Nat} {p1 p2 p3 pos : Pos} (he : PE X e te) : PE X (.Subscript e (.Slice none none (some (.UnaryOp .USub (.Constant (.int 1) k p1) p2)) p3) pos) (tRevF X.K te) := by
  refine ⟨fun pins s σ H Q I h => ?_⟩
  refine Subscript_ (thn (he.run pins s σ H _ I h) fun v s1 ⟨x, H1, I1, r1, q1⟩ => ?_)
  obtain ⟨a, xs, ex, hx, q⟩ := q1
  subst ex
  cases r1
  have pst : PO X (some (.UnaryOp .USub (.Constant (.int 1) k p1) p2)) (tPart (tUn (rU fun i => .int (-i)) (tC (.int 1)))) := po_some (pe_un un_neg pe_int)
  refine wpAny_Slice (thn (po_none.run pins s1 σ H1 (fun o G => o = none ∧ G = H1) I1 ⟨rfl, rfl⟩) fun vl s2 ⟨l, H2, I2, pl, el, e2⟩ => ?_)
  subst el e2
  refine thn (po_none.run pins s2 σ H2 (fun o G => o = none ∧ G = H2) I2 ⟨rfl, rfl⟩) fun vu s3 ⟨u, H3, I3, pu, eu, e3⟩ => ?_
  subst eu e3
  refine thn (pst.run pins s3 σ H3 (fun o G => o = some (-1) ∧ G = H3) I3 ⟨1, rfl, -1, rfl, rfl, rfl⟩) fun vs s4 ⟨o, H4, I4, ps, eo, e4⟩ => ?_
  subst eo e4
  have I5 : Inv X pins σ H4 { s4 with heap := s4.heap.push { cls := .type "slice", data := .fields #[vl, vu, vs] } } := I4.kept (t' := s4.toks) fun b ob q => Heap.get?_push_of_some _ q
  show wpAny (model X.prog X.w) X.A (subscriptTail e (.Slice none none (some (.UnaryOp .USub (.Constant (.int 1) k p1) p2)) p3) (.ref a) (.ref s4.heap.objs.size)) (EP X pins σ Q) X.xe { s4 with heap := s4.heap.push { cls := .type "slice", data := .fields #[vl, vu, vs] } }
  obtain ⟨its, r, ht, hz⟩ := I5.tuple hx
  have hlen := r.length
  refine tail_any (ops := [.ref a, .ref s4.heap.objs.size]) ht.typeIs (PyProof.Rows.slot_tuple_getitem.lookup) ?_ (by with_unfolding_all rfl)
  refine back_item ht (Heap.IsSliceOf.new _ vl vu vs) pl pu ps ?_ (by rw [List.size_toArray]; omega)
  refine ⟨.ref _, _, I5.laid (t' := s4.toks) (o := .frz { cls := .type "tuple", data := .seq its.reverse.toArray } (.tup xs.reverse)) (fun b ob q => Heap.get?_push_of_some _ q) (Nat.le_refl _) (show ObjOk X.prog X.w _ _ _ (.frz _ (.tup xs.reverse)) from ⟨?_, ?_⟩), rfl, q _ _ (I5.hok.fresh (Nat.le_refl _)) rfl⟩
  · exact Heap.get?_push_size _ rfl
  · exact ⟨by rw [List.length_reverse]; exact hz, _, r.reverse, IsTup.new _ _⟩
end
section
variable {X : Cx} {W : WD} {a : Expr} {fa : DEn}
/-- t[::-1] of a plain tuple -/
def mRevP (fa : DEn) : DEn := fun ρ S => (fa ρ S).bind fun d S1 => match d with
  | .ptp ds => .ok (.ptp ds.reverse) S1
  | _ => .bad
theorem xrevP {k : Nat} {p1 p2 p3 pos : Pos} (ha : DE X W a fa) : DE X W (.Subscript a (.Slice none none (some (.UnaryOp .USub (.Constant (.int 1) k p1) p2)) p3) pos) (mRevP fa) :=
  PE.imp (pe_revF ha) fun σ H Q ⟨HF, L, ρ, S, R, p⟩ => ⟨HF, L, ρ, S, R, Post.bind p fun d S1 v H1 HF1 L1 e1 st1 R1 r1 p1 => by
    cases d with
    | ptp ds =>
      cases r1 with
      | ptp a1 a2 a3 => exact ⟨_, _, rfl, .inl (.inr ⟨_, R1.sub _ _ a1⟩), fun l o hl ho => p1.done R1 (.new hl) (.ptp upd_same ho (a3.reverse.mono (same_upd (R1.hf hl))))⟩
    | _ => exact p1.elim⟩
end
end DL

/-! the layer of data: a comparison of four -/
namespace DL
open PySem PySem.Spec PyProof.Rows L2
section
variable {X : Cx} {a b c d : Expr} {pos : Pos} {ta tb tc td : TE}
def tCh4 (r r' r'' : R2) (ta tb tc td : TE) : TE := fun σ H Q => ta σ H fun x H1 => tb σ H1 fun y H2 => r x y H2 fun z H3 => ∃ k, z = .bl k ∧
  (if k = true then tc σ H3 fun w H4 => r' y w H4 fun z' H5 => ∃ k', z' = .bl k' ∧ (if k' = true then td σ H5 fun u H6 => r'' w u H6 Q else Q (.bl false) H5) else Q (.bl false) H3)
theorem pe_ch4 {o1 o2 o3 : CmpOp} {r r' r'' : R2} (h1 : OpR X (compareOp o1) r) (h2 : OpR X (compareOp o2) r') (h3 : OpR X (compareOp o3) r'') (ha : PE X a ta) (hb : PE X b tb) (hc : PE X c tc) (hd : PE X d td)
    (hm : lastMarks [o1, o2, o3] [b, c, d] = false := by with_unfolding_all rfl) : PE X (.Compare a [o1, o2, o3] [b, c, d] pos) (tCh4 r r' r'' ta tb tc td) := by
  refine ⟨fun pins s σ H Q I h => ?_⟩
  refine Compare_chain (thn (ha.run pins s σ H _ I h) fun v s1 ⟨x, H1, I1, r1, q1⟩ => chain_link (thn (hb.run pins s1 σ H1 _ I1 q1) fun u s2 ⟨y, H2, I2, r2, q2⟩ =>
    thn (h1 pins s2 σ H2 x y v u _ I2 r1 r2 q2) fun e s3 ⟨z, H3, I3, r3, k, ee, q3⟩ => ?_)) hm
  subst ee
  cases r3
  refine wpAny_truthy_bool ?_
  cases k with
  | false => exact ite_ff ⟨.bl false, H3, I3, rfl, q3⟩
  | true =>
    refine ite_tt (chain_link (thn (hc.run pins s3 σ H3 _ I3 q3) fun w s4 ⟨z', H4, I4, r4, q4⟩ => thn (h2 pins s4 σ H4 y z' u w _ I4 r2 r4 q4) fun e s5 ⟨z5, H5, I5, r5, k', ee, q5⟩ => ?_))
    subst ee
    cases r5
    refine wpAny_truthy_bool ?_
    cases k' with
    | false => exact ite_ff ⟨.bl false, H5, I5, rfl, q5⟩
    | true => exact ite_tt (chain_last (thn (hd.run pins s5 σ H5 _ I5 q5) fun w' s6 ⟨z6, H6, I6, r6, q6⟩ => h3 pins s6 σ H6 z' z6 w w' Q I6 r4 r6 q6))
theorem pt_ch4 {o1 o2 o3 : CmpOp} {r r' r'' : R2} (h1 : OpR X (compareOp o1) r) (h2 : OpR X (compareOp o2) r') (h3 : OpR X (compareOp o3) r'') (ha : PE X a ta) (hb : PE X b tb) (hc : PE X c tc) (hd : PE X d td)
    (hm : lastMarks [o1, o2, o3] [b, c, d] = false := by with_unfolding_all rfl) : PT X (.Compare a [o1, o2, o3] [b, c, d] pos) (tTest (tCh4 r r' r'' ta tb tc td)) := by
  refine ⟨fun pins s σ H Q I h => ?_⟩
  refine isTrue_chain (thn (ha.run pins s σ H _ I h) fun v s1 ⟨x, H1, I1, r1, q1⟩ => test_link (thn (hb.run pins s1 σ H1 _ I1 q1) fun u s2 ⟨y, H2, I2, r2, q2⟩ =>
    thn (h1 pins s2 σ H2 x y v u _ I2 r1 r2 q2) fun e s3 ⟨z, H3, I3, r3, k, ee, q3⟩ => ?_)) hm
  subst ee
  cases r3
  refine wpAny_truthy_bool ?_
  cases k with
  | false =>
    obtain ⟨k', e', q'⟩ := q3
    cases e'
    exact ite_ff ⟨H3, I3, q'⟩
  | true =>
    refine ite_tt (test_link (thn (hc.run pins s3 σ H3 _ I3 q3) fun w s4 ⟨z', H4, I4, r4, q4⟩ => thn (h2 pins s4 σ H4 y z' u w _ I4 r2 r4 q4) fun e s5 ⟨z5, H5, I5, r5, k', ee, q5⟩ => ?_))
    subst ee
    cases r5
    refine wpAny_truthy_bool ?_
    cases k' with
    | false =>
      obtain ⟨k', e', q'⟩ := q5
      cases e'
      exact ite_ff ⟨H5, I5, q'⟩
    | true =>
      refine ite_tt (test_last (thn (hd.run pins s5 σ H5 _ I5 q5) fun w' s6 ⟨z6, H6, I6, r6, q6⟩ => thn (h3 pins s6 σ H6 z' z6 w w' _ I6 r4 r6 q6) fun e s7 ⟨z7, H7, I7, r7, k7, ee, q7⟩ => ?_))
      subst ee
      cases r7
      exact wpAny_truthy_bool ⟨H7, I7, q7⟩
end
section
variable {X : Cx} {W : WD} {pos : Pos} {a b c d : Expr} {fa fb fc fd : DEn}
/-- a < b < c < d -/
def mCh4 (g g' g'' : D → D → Option Bool) (fa fb fc fd : DEn) : DTn := fun ρ S => (fa ρ S).bind fun x S1 => (fb ρ S1).bind fun y S2 => (lift (g x y) S2).bind fun k S3 =>
  if k = true then (fc ρ S3).bind fun z S4 => (lift (g' y z) S4).bind fun k' S5 => if k' = true then (fd ρ S5).bind fun u S6 => lift (g'' z u) S6 else .ok false S5 else .ok false S3
theorem tT.ch4 {r r' r'' : R2} {g g' g'' : D → D → Option Bool} (hs : CmS (gd X W) r g) (hs' : CmS (gd X W) r' g') (hs'' : CmS (gd X W) r'' g'') {σ : L2.St} {H : Hp} {Q : Bool → Hp → Prop} {Qv : VK} (h : tT (gd X W) W (mCh4 g g' g'' fa fb fc fd) σ H Q) (hq : ∀ b H', Q b H' → Qv (.bl b) H') :
    tCh4 r r' r'' (tD (gd X W) W fa) (tD (gd X W) W fb) (tD (gd X W) W fc) (tD (gd X W) W fd) σ H Qv := by
  obtain ⟨HF, L, ρ, S, R, p⟩ := h
  refine ⟨HF, L, ρ, S, R, Post.bind p fun x S1 v H1 HF1 L1 e1 st1 R1 r1 p1 => ?_⟩
  refine ⟨HF1, L1, ρ, S1, R1, Post.bind p1 fun y S2 w H2 HF2 L2 e2 st2 R2 r2 p2 => ?_⟩
  cases eg : g x y with
  | none => rw [eg] at p2; exact p2.elim
  | some k =>
    rw [eg] at p2
    refine hs x y v w H2 HF2 k _ R2.sub (Rep.mono st2.fro r1) r2 eg ⟨k, rfl, ?_⟩
    cases k with
    | false =>
      rw [if_neg Bool.false_ne_true]
      exact hq false H2 (Post.done (α := Bool) (P := RepB) p2 R2 .no rfl)
    | true =>
      rw [if_pos rfl]
      refine ⟨HF2, L2, ρ, S2, R2, Post.bind p2 fun z S4 u H4 HF4 L4 e4 st4 R4 r4 p4 => ?_⟩
      cases eg' : g' y z with
      | none => rw [eg'] at p4; exact p4.elim
      | some k' =>
        rw [eg'] at p4
        refine hs' y z w u H4 HF4 k' _ R4.sub (Rep.mono st4.fro r2) r4 eg' ⟨k', rfl, ?_⟩
        cases k' with
        | false =>
          rw [if_neg Bool.false_ne_true]
          exact hq false H4 (Post.done (α := Bool) (P := RepB) p4 R4 .no rfl)
        | true =>
          rw [if_pos rfl]
          refine ⟨HF4, L4, ρ, S4, R4, Post.bind p4 fun t S6 i H6 HF6 L6 e6 st6 R6 r6 p6 => ?_⟩
          obtain ⟨b, e, p⟩ := p6.lift
          exact hs'' z t u i H6 HF6 b Qv R6.sub (Rep.mono st6.fro r4) r6 e (hq b H6 (p.done R6 .no rfl))
theorem xch4 {o1 o2 o3 : CmpOp} {g g' g'' : D → D → Option Bool} (h1 : CmpO X W o1 g) (h2 : CmpO X W o2 g') (h3 : CmpO X W o3 g'') (ha : DE X W a fa) (hb : DE X W b fb) (hc : DE X W c fc) (hd : DE X W d fd) (hm : lastMarks [o1, o2, o3] [b, c, d] = false := by with_unfolding_all rfl) :
    DE X W (.Compare a [o1, o2, o3] [b, c, d] pos) (mB (mCh4 g g' g'' fa fb fc fd)) := by
  obtain ⟨r, a1, a2⟩ := h1.has
  obtain ⟨r', b1, b2⟩ := h2.has
  obtain ⟨r'', c1, c2⟩ := h3.has
  exact PE.imp (pe_ch4 a1 b1 c1 ha hb hc hd hm) fun σ H Q h => tT.ch4 a2 b2 c2 (tD.mB h) fun _ _ q => q
theorem ych4 {o1 o2 o3 : CmpOp} {g g' g'' : D → D → Option Bool} (h1 : CmpO X W o1 g) (h2 : CmpO X W o2 g') (h3 : CmpO X W o3 g'') (ha : DE X W a fa) (hb : DE X W b fb) (hc : DE X W c fc) (hd : DE X W d fd) (hm : lastMarks [o1, o2, o3] [b, c, d] = false := by with_unfolding_all rfl) :
    DT X W (.Compare a [o1, o2, o3] [b, c, d] pos) (mCh4 g g' g'' fa fb fc fd) := by
  obtain ⟨r, a1, a2⟩ := h1.has
  obtain ⟨r', b1, b2⟩ := h2.has
  obtain ⟨r'', c1, c2⟩ := h3.has
  exact PT.imp (pt_ch4 a1 b1 c1 ha hb hc hd hm) fun σ H Q h => tT.ch4 a2 b2 c2 h fun b _ q => ⟨b, rfl, q⟩
end
end DL

set_option maxHeartbeats 2000000
/-! combinations of more than there is: nothing -/
namespace Cb
open PySem PySem.Spec
open Sem (wp)
section
variable {prog : Program} {w : World} {A : Around} {E : Value → Shared → Prop} {s : Shared}
theorem next_void {it p : Addr} {ix : List Nat} {items : Array Value} {last : Value} {Q : Option Value → Shared → Prop} (hh : A.handled = none) (hit : IsC s.heap it p 2 last ix) (hp : s.heap.get? p = some { cls := .type "tuple", data := .seq items })
    (hQ : ∀ (h' : Heap) (tk : Nat), (∀ c o, c ≠ it → s.heap.get? c = some o → h'.get? c = some o) → Q none { s with heap := h', toks := tk }) :
    wpAny (model prog w) A (pyNext (.ref it)) Q E s := by
  have hT : s.TypeIs (.ref it) "itertools.combinations" := ⟨_, hit, rfl⟩
  unfold pyNext
  refine wpAny_bind (wpAny_attempt (wpAny_callSpecial?_slot (name := Str.ofString "__next__") hT next_c (wpAny_call_entry next_c hT entx_c ?_ (ax_c _))))
  show wpAny _ A.in1 (_ >>= _) _ _ s
  refine wpAny_bind ?_
  repeat (first | wp_step | simp only [List.head?_cons, List.getElem?_cons_succ, List.getElem?_cons_zero, List.length_cons, List.length_nil])
  simp only [raiseNew]
  refine wpAny_bind (wpAny_handled ?_)
  rw [show A.in1.handled = none from hh]
  refine wpAny_bind (wpAny_pure (wpAny_throw ?_))
  refine wpAny_bind (wpAny_isInstance (T := "StopIteration") (b := true) ⟨_, Heap.get?_push_size _ rfl, rfl⟩ isSubtype_stop ?_)
  refine wpAny_pure (hQ _ _ fun c o hc e => ?_)
  exact Heap.get?_push_of_some _ (Heap.get?_push_of_some _ e)
end
end Cb
namespace DL
open PySem PySem.Spec PyProof.Rows L2 Cb
def stV (it p : Addr) (items : Array Value) (ix0 : List Nat) (h : Heap) : Prop := h.get? p = some (plO items) ∧ IsC h it p 2 .none ix0
theorem turn_void {P : Program} {w : World} {K : PySem.W.Frag} {tg : Expr} {it p : Addr} {items : Array Value} {lo : Int} {ix0 : List Nat} (hne : it ≠ p) :
    Turn P w K tg (ItzC lo []) [it, p] it (fun _ h => stV it p items ix0 h) where
  mem := by simp
  obj := fun i h st c hc => by
    obtain ⟨hp, e⟩ := st
    simp only [List.mem_cons, List.not_mem_nil, or_false] at hc
    rcases hc with rfl | rfl
    · exact ⟨_, e, fun v q => nomatch q⟩
    · exact ⟨_, hp, fun v q => nomatch q⟩
  keep := fun i h h' st k => by
    obtain ⟨hp, e⟩ := st
    exact ⟨k p (by simp) _ hp, k it (by simp) _ e⟩
  item := by
    intro X hP hw hK hc i pins s σ H E I hf st hg
    have hg : i < 0 := hg
    exact absurd hg (Nat.not_lt_zero _)
  done := by
    intro X hP hw hK hc i pins s σ H E I hf st hg
    subst hP hw hK
    obtain ⟨hp, e⟩ := st
    exact next_void (I.ok.hd hc) e hp fun h' tk hk => ⟨rfl, I.turnedL (t' := tk) (ch := [it]) (fun c o hb q => hk c o (by simpa using hb) q) fun b hb => hf b (by rw [List.mem_singleton.mp hb]; simp)⟩
  self := fun A i s Q E st h => by
    obtain ⟨hp, e⟩ := st
    have hT : s.TypeIs (.ref it) "itertools.combinations" := ⟨_, e, rfl⟩
    refine wpAny_pyIter_slot hT iter_c (wpAny_call_entry iter_c hT enti_c ?_ (ai_c _))
    show wpAny _ _ (ret (.ref it)) _ _ s
    exact wpAny_pure ⟨_, rfl, "itertools.combinations", _, hT, next_c.lookup, h⟩
def iCombV (ta : TA) : TI := fun σ H R => ta σ H fun vs H1 => ∃ (r : Addr) (lo : Int) (n k : Nat), vs = [.ref r, .int (k : Int)] ∧ H1 r = some (.rng lo (lo + (n : Int))) ∧ (-1000 ≤ lo ∧ lo ≤ 1000) ∧ n ≤ 1000 ∧ n < k ∧ k ≤ 1000 ∧ R (ItzC lo []) H1
/-- both kinds at once -/
def iComb2 (ta : TA) : TI := fun σ H R => ta σ H fun vs H1 => (∃ (r : Addr) (lo : Int) (n k m : Nat) (L : List (List Nat)), vs = [.ref r, .int (k : Int)] ∧ H1 r = some (.rng lo (lo + (n : Int))) ∧ (-1000 ≤ lo ∧ lo ≤ 1000) ∧ n ≤ 1000 ∧ k ≤ n ∧ runC n m (List.range k) = some L ∧ R (ItzC lo L) H1) ∨
  ∃ (r : Addr) (lo : Int) (n k : Nat), vs = [.ref r, .int (k : Int)] ∧ H1 r = some (.rng lo (lo + (n : Int))) ∧ (-1000 ≤ lo ∧ lo ≤ 1000) ∧ n ≤ 1000 ∧ n < k ∧ k ≤ 1000 ∧ R (ItzC lo []) H1
theorem pi_comb2 {X : Cx} {tg e e2 : Expr} {ta : TA} {p pos : Pos} (hg : Gl X "combinations") (hm : X.mg "combinations" = some (.type "itertools.combinations")) (ha : PA X [e, e2] ta) (hcl : X.calm = true)
    (hs : starEach [e, e2] X.env = (false, eval e X.env) :: starEach [e2] X.env := by rfl) (hpl : (backTo pos (starEach [e2] X.env)).any (·.1) = false := by rfl) :
    PI X tg (.Call (.Name "combinations" p) [e, e2] [] pos) (iComb2 ta) := by
  refine ⟨fun pins s σ H R I h => ?_⟩
  refine Call_ (ld_glob I hg hm (PyProof.Rows.callWith_type1 (thn (ha.run pos pins s σ H _ I h) fun us s1 ⟨vs, H1, I1, r1, q1⟩ => ?_) hs hpl))
  rcases q1 with q1 | q1
  · obtain ⟨r, lo, n, k, m, L, rfl, hr, hlo, hn, hk, hL, q⟩ := q1
    obtain ⟨u, u2, rfl, ru, ru2⟩ := vals2 r1
    obtain rfl : u = Value.ref r := ru
    obtain ⟨tk0, rfl⟩ : ∃ t, u2 = Value.int (k : Int) t := ru2
    obtain ⟨t, t1, t2, hro⟩ : ∃ t u v, s1.heap.get? r = some { cls := .type "range", data := .fields #[.int lo t, .int (lo + (n : Int)) u, .int 1 v] } := I1.hok r _ hr
    have hR := runC_is hL
    refine callType_new called_c (by decide +kernel) (tcall_c _ _) (ncall_c _ _) (fun obj => F.args_object_init_3 obj _ _) entn_c (meets_new r lo (lo + (n : Int)) t t1 t2 tk0 n k (small_one (by omega) (by omega) (by omega) (by omega)) (by rw [rangeSize_nat]; omega) hn (by omega)) ⟨I1.ok.hd hcl, hro, fun h' tk acc hkeep hit => ?_⟩
    show _ ∧ _
    rw [Heap.size_push]
    have hne : h'.objs.size + 1 ≠ h'.objs.size := by omega
    have hst : IsC ((h'.push (plO acc)).push { cls := .type "itertools.combinations", data := .fields (flds (.ref h'.objs.size) (if k > n then 2 else 0) .none (List.range k)) }) (h'.objs.size + 1) h'.objs.size 0 .none (List.range k) := by
      rw [if_neg (by omega)]
      have := Heap.get?_push_size (h'.push (plO acc)) (o := { cls := .type "itertools.combinations", data := .fields (flds (.ref h'.objs.size) 0 .none (List.range k)) }) rfl
      rw [Heap.size_push] at this
      exact this
    have hpo : ((h'.push (plO acc)).push { cls := .type "itertools.combinations", data := .fields (flds (.ref h'.objs.size) (if k > n then 2 else 0) .none (List.range k)) }).get? h'.objs.size = some (plO acc) := Heap.get?_push_of_some _ (Heap.get?_push_size _ rfl)
    refine ⟨⟨_, hst, rfl⟩, ?_⟩
    have I2 : Inv X pins σ H1 { s1 with heap := (h'.push (plO acc)).push { cls := .type "itertools.combinations", data := .fields (flds (.ref h'.objs.size) (if k > n then 2 else 0) .none (List.range k)) }, toks := tk } :=
      I1.kept (t' := tk) fun b o e => Heap.get?_push_of_some _ (Heap.get?_push_of_some _ (hkeep b o e))
    have T := turn_comb (P := X.prog) (w := X.w) (K := X.K) (tg := tg) hne hit hR
    refine T.self _ 0 _ _ _ ⟨hpo, .inl ⟨rfl, hst⟩⟩ ?_
    refine ⟨_, _, _, _, H1, rfl, I2, T, ⟨hpo, .inl ⟨rfl, hst⟩⟩, fun c hcm => ?_, q⟩
    have Ih : Inv X pins σ H1 { s1 with heap := h', toks := tk } := I1.kept (t' := tk) hkeep
    have hlc : h'.objs.size ≤ c := by
      simp only [List.mem_cons, List.not_mem_nil, or_false] at hcm
      rcases hcm with rfl | rfl <;> omega
    exact Ih.fpOk hlc (Ih.hok.fresh hlc)
  · obtain ⟨r, lo, n, k, rfl, hr, hlo, hn, hk, hk1, q⟩ := q1
    obtain ⟨u, u2, rfl, ru, ru2⟩ := vals2 r1
    obtain rfl : u = Value.ref r := ru
    obtain ⟨tk0, rfl⟩ : ∃ t, u2 = Value.int (k : Int) t := ru2
    obtain ⟨t, t1, t2, hro⟩ : ∃ t u v, s1.heap.get? r = some { cls := .type "range", data := .fields #[.int lo t, .int (lo + (n : Int)) u, .int 1 v] } := I1.hok r _ hr
    refine callType_new called_c (by decide +kernel) (tcall_c _ _) (ncall_c _ _) (fun obj => F.args_object_init_3 obj _ _) entn_c (meets_new r lo (lo + (n : Int)) t t1 t2 tk0 n k (small_one (by omega) (by omega) (by omega) (by omega)) (by rw [rangeSize_nat]; omega) hn (by omega)) ⟨I1.ok.hd hcl, hro, fun h' tk acc hkeep hit => ?_⟩
    show _ ∧ _
    rw [Heap.size_push]
    have hne : h'.objs.size + 1 ≠ h'.objs.size := by omega
    have hst : IsC ((h'.push (plO acc)).push { cls := .type "itertools.combinations", data := .fields (flds (.ref h'.objs.size) (if k > n then 2 else 0) .none (List.range k)) }) (h'.objs.size + 1) h'.objs.size 2 .none (List.range k) := by
      rw [if_pos (by omega)]
      have := Heap.get?_push_size (h'.push (plO acc)) (o := { cls := .type "itertools.combinations", data := .fields (flds (.ref h'.objs.size) 2 .none (List.range k)) }) rfl
      rw [Heap.size_push] at this
      exact this
    have hpo : ((h'.push (plO acc)).push { cls := .type "itertools.combinations", data := .fields (flds (.ref h'.objs.size) (if k > n then 2 else 0) .none (List.range k)) }).get? h'.objs.size = some (plO acc) := Heap.get?_push_of_some _ (Heap.get?_push_size _ rfl)
    refine ⟨⟨_, hst, rfl⟩, ?_⟩
    have I2 : Inv X pins σ H1 { s1 with heap := (h'.push (plO acc)).push { cls := .type "itertools.combinations", data := .fields (flds (.ref h'.objs.size) (if k > n then 2 else 0) .none (List.range k)) }, toks := tk } :=
      I1.kept (t' := tk) fun b o e => Heap.get?_push_of_some _ (Heap.get?_push_of_some _ (hkeep b o e))
    have T := turn_void (P := X.prog) (w := X.w) (K := X.K) (tg := tg) (items := acc) (lo := lo) (ix0 := List.range k) hne
    refine T.self _ 0 _ _ _ ⟨hpo, hst⟩ ?_
    refine ⟨_, _, _, _, H1, rfl, I2, T, ⟨hpo, hst⟩, fun c hcm => ?_, q⟩
    have Ih : Inv X pins σ H1 { s1 with heap := h', toks := tk } := I1.kept (t' := tk) hkeep
    have hlc : h'.objs.size ≤ c := by
      simp only [List.mem_cons, List.not_mem_nil, or_false] at hcm
      rcases hcm with rfl | rfl <;> omega
    exact Ih.fpOk hlc (Ih.hok.fresh hlc)
section
variable {X : Cx} {W : WD} {pos : Pos} {a b tg : Expr} {fa fb : DEn}
/-- what combinations of a range tells, nothing of more than there is -/
def gComb2 : D → D → Option (List D)
  | .rng lo hi, .int k => if (-1000 ≤ lo ∧ lo ≤ 1000) ∧ (lo ≤ hi ∧ hi - lo ≤ 1000) ∧ 0 ≤ k ∧ k ≤ 1000 then
      if k ≤ hi - lo then (runC (hi - lo).toNat (((hi - lo).toNat + 1) ^ k.toNat + 1) (List.range k.toNat)).map fun L => L.map (tupC lo) else some [] else none
  | _, _ => none
def mComb2 (fa fb : DEn) : DDn := fun ρ S => (fa ρ S).bind fun x S1 => (fb ρ S1).bind fun y S2 => lift (gComb2 x y) S2
theorem i_comb2 {p : Pos} (hc : X.calm = true) (hm : X.mg "combinations" = some (.type "itertools.combinations")) (ha : DE X W a fa) (hb : DE X W b fb) (hg : Gl X "combinations" := by rfl) (hs : starEach [a, b] X.env = (false, eval a X.env) :: starEach [b] X.env := by rfl) (hs2 : starEach [b] X.env = (false, eval b X.env) :: starEach [] X.env := by rfl)
    (hpl : (backTo pos (starEach [b] X.env)).any (·.1) = false := by rfl) : DI X W tg (.Call (.Name "combinations" p) [a, b] [] pos) (mComb2 fa fb) :=
  PI.imp (pi_comb2 hg hm (pa_cons ha (pa_cons hb pa_nil hs2) hs) hc hs hpl) fun σ H R ⟨HF, L, ρ, S, RR, p⟩ => ⟨HF, L, ρ, S, RR, Post.bind p fun x S1 v H1 HF1 L1 e1 st1 R1 r1 p1 => ⟨HF1, L1, ρ, S1, R1, Post.bind p1 fun y S2 w H2 HF2 L2 e2 st2 R2 r2 p2 => by
    obtain ⟨ds, ed, p3⟩ := p2.lift
    have r1' := Rep.mono st2.fro r1
    unfold gComb2 at ed
    split at ed
    · rename_i lo hi k
      split at ed
      · rename_i hcd
        split at ed
        · rename_i hk
          cases hr : runC (hi - lo).toNat (((hi - lo).toNat + 1) ^ k.toNat + 1) (List.range k.toNat) with
          | none => rw [hr] at ed; cases ed
          | some Ls =>
            rw [hr] at ed
            cases ed
            cases r1' with
            | @rng q _ _ h1 => cases r2 with
              | int i =>
                refine .inl ⟨q, lo, (hi - lo).toNat, k.toNat, _, Ls, ?_, ?_, hcd.1, by omega, by omega, hr, p3.done R2 .no itd_comb⟩
                · rw [show ((k.toNat : Nat) : Int) = k by omega]
                · rw [show lo + (((hi - lo).toNat : Nat) : Int) = hi by omega]
                  exact R2.sub _ _ h1
        · rename_i hk
          cases ed
          cases r1' with
          | @rng q _ _ h1 => cases r2 with
            | int i =>
              refine .inr ⟨q, lo, (hi - lo).toNat, k.toNat, ?_, ?_, hcd.1, by omega, by omega, by omega, p3.done R2 .no (itd_comb (L := []))⟩
              · rw [show ((k.toNat : Nat) : Int) = k by omega]
              · rw [show lo + (((hi - lo).toNat : Nat) : Int) = hi by omega]
                exact R2.sub _ _ h1
      · cases ed
    · cases ed⟩⟩
end
end DL

namespace Pr
open PySem PySem.Spec PyProof.Rows L2 DL

def top (i : Nat) : Stmt := PySem.Challenge.pw_chipfloor_k76_whole_counts_of_slicing_or.main.body.getD i (.Pass ⟨0, 0, 0, 0⟩)
/-- the built-ins' names mean what they mean -/
structure Bi (mg : Str → Option Value) : Prop where
  all : mg "all" = none
  bool : mg "bool" = none
  int : mg "int" = none
  isinstance : mg "isinstance" = none
  len : mg "len" = none
  list : mg "list" = none
  range : mg "range" = none
  set : mg "set" = none
  sorted : mg "sorted" = none
  str : mg "str" = none
  tuple : mg "tuple" = none
def k_MOST_BLOCKS : D := (.int 8)
def xcat : Str → Option Bool := fun y => if y = "BadOrders" then some true else none
def xtab : Str → Str → Option Bool := fun y t => if y = "BadOrders" then (none) else none
def xfld : Str → Str → Bool := fun y f => false
/-- the exceptions' classes mean what they mean -/
structure Exs (P : Program) (w : World) (K : PySem.W.Frag) (mg : Str → Option Value) (base : Heap) : Prop where
  pl_BadOrders : OwnP ⟨K, mg, none⟩ "BadOrders"
  tab : XTab K mg xtab
  fld : XFld K mg xfld

/-! ## _law_taken -/
abbrev st__law_taken : Stmt := top 19
theorem sc__law_taken : FnScope ["row", "many", "cell", "found"] ["row", "many"] (defScope st__law_taken) := ⟨rfl, rfl, rfl, by decide +kernel, rfl, by decide +kernel, by decide +kernel⟩
def b__law_taken : DSn :=
  (mSeq (mIfS (mCmp gGt (mIxC 0 (mC (.int 3))) (mC (.int 0))) (mSeq (mSet 3 (mV (mOp gMod (mBi gInt (mCons (mIxC 0 (mC (.int 3))) mNil)) (mVar 1))))
  (mSeq (mAsg (mOp gDiv (mIxC 0 (mC (.int 3))) (mVar 1)) (gIt 0 (mC (.int 3))))
  (mRet (mVar 3)))) mSkip)
  (mSeq (mAsg (mOp gAdd (mIxC 0 (mC (.int 1))) (mC (.int 1))) (gIt 0 (mC (.int 1))))
  (mSeq (mIfS (mCmp gGt (mIxC 0 (mC (.int 1))) (mBi gLen (mCons (mIxC 0 (mC (.int 0))) mNil))) (mSeq (mAsg (mOp gMod (mBi gInt (mCons (mOp gAdd (mOp gMul (mIxC 0 (mC (.int 2))) (mC (.int 48271))) (mC (.int 11))) mNil)) (mC (.int 2147483647))) (gIt 0 (mC (.int 2))))
  (mRet (mOp gMod (mBi gInt (mCons (mOp gDiv (mIxC 0 (mC (.int 2))) (mC (.int 7))) mNil)) (mVar 1)))) mSkip)
  (mSeq (mSet 2 (mV (mOp gIx (mIxC 0 (mC (.int 0))) (mOp gSub (mIxC 0 (mC (.int 1))) (mC (.int 1))))))
  (mSeq (mAsg (mOp gMod (mBi gInt (mCons (mOp gAdd (mOp gAdd (mOp gMul (mIxC 0 (mC (.int 2))) (mC (.int 48271))) (mVar 2)) (mC (.int 11))) mNil)) (mC (.int 2147483647))) (gIt 0 (mC (.int 2))))
  (mSeq (mIfS (mCmp gGe (mVar 2) (mOp gPow (mC (.int 10)) (mC (.int 18)))) (mAsg (mOp gDiv (mVar 2) (mVar 1)) (gIt 0 (mC (.int 3)))) mSkip)
  (mRet (mOp gMod (mBi gInt (mCons (mVar 2) mNil)) (mVar 1)))))))))
def d__law_taken : Den := denB 4 b__law_taken
theorem ok__law_taken {P : Program} {w : World} {K : PySem.W.Frag} {mg : Str → Option Value} {base : Heap} {a : Addr} {fd : FuncData} (B : Bi mg)
    (F : Fun K "_law_taken" "_law_taken" st__law_taken a fd) (hm : mg "_law_taken" = some (.ref a)) (hb : Binds K fd ["row", "many"] []) : Dfn P w ⟨K, mg, none⟩ base 3 "_law_taken" 2 d__law_taken := by
  refine dfn_of (k := 2) (N := ["row", "many", "cell", "found"]) (G := ⟨K, mg, none⟩) F sc__law_taken hm hb rfl (by decide) rfl fun cdv A outer s H E hr => ?_
  have hu := hr.units
  have hu5 := units65 hr
  have nd := sc__law_taken.nd
  have tk := takes_of (X := cxOf (L2.CX P w) P w K mg base ["row", "many", "cell", "found"] "_law_taken" (defScope st__law_taken) a cdv A outer s H E) rfl rfl rfl rfl
  have hp := passes_of (X := cxOf (L2.CX P w) P w K mg base ["row", "many", "cell", "found"] "_law_taken" (defScope st__law_taken) a cdv A outer s H E) rfl
  exact (s1 (sif (ycmp cGt (xixC 0 xint) xint) (s1 (sset 3 nd (v1 (xop bMod (xbt biInt B.int DL.boot_int (a1 (xixC 0 xint) a0)) (xv 1))))
  (s1 (sasg (xop bDiv (xixC 0 xint) (xv 1)) (gitem 0 xint))
  (sl (sret (xv 3))))) s0)
  (s1 (sasg (xop bAdd (xixC 0 xint) xint) (gitem 0 xint))
  (s1 (sif (ycmp cGt (xixC 0 xint) (xbi biLen B.len DL.boot_len (a1 (xixC 0 xint) a0))) (s1 (sasg (xop bMod (xbt biInt B.int DL.boot_int (a1 (xop bAdd (xop bMul (xixC 0 xint) xint) xint) a0)) xint) (gitem 0 xint))
  (sl (sret (xop bMod (xbt biInt B.int DL.boot_int (a1 (xop bDiv (xixC 0 xint) xint) a0)) (xv 1))))) s0)
  (s1 (sset 2 nd (v1 (xix (xixC 0 xint) (xop bSub (xixC 0 xint) xint))))
  (s1 (sasg (xop bMod (xbt biInt B.int DL.boot_int (a1 (xop bAdd (xop bAdd (xop bMul (xixC 0 xint) xint) (xv 2)) xint) a0)) xint) (gitem 0 xint))
  (s1 (sif (ycmp cGe (xv 2) (xop bPow xint xint)) (sl (sasg (xop bDiv (xv 2) (xv 1)) (gitem 0 xint))) s0)
  (sl (sret (xop bMod (xbt biInt B.int DL.boot_int (a1 (xv 2) a0)) (xv 1))))))))))

/-! ## _law_all_orders -/
abbrev st__law_all_orders : Stmt := top 23
theorem sc__law_all_orders : FnScope ["many", "found", "turn", "longer", "one", "at"] ["many"] (defScope st__law_all_orders) := ⟨rfl, rfl, rfl, by decide +kernel, rfl, by decide +kernel, by decide +kernel⟩
def b__law_all_orders : DSn :=
  (mSeq (mSet 1 (mV (mLst (mCons (mTup mNil) mNil))))
  (mSeq (mFor (mRg1 (mVar 0)) (.nm 2) (mSeq (mSet 3 (mV (mLst mNil)))
  (mSeq (mFor (mIt (mVar 1)) (.nm 4) (mSet 3 (mV (mOp gAdd (mVar 3) (mLc (mRg1 (mVar 0)) (.nm 5) (mCmp gNotIn (mVar 5) (mUnp (mVar 4))) (mCatP (mVar 4) (mTupP (mCons (mVar 5) mNil))) [5])))))
  (mSet 1 (mV (mVar 3))))))
  (mRet (mVar 1))))
def d__law_all_orders : Den := denB 6 b__law_all_orders
theorem ok__law_all_orders {P : Program} {w : World} {K : PySem.W.Frag} {mg : Str → Option Value} {base : Heap} {a : Addr} {fd : FuncData} (B : Bi mg)
    (F : Fun K "_law_all_orders" "_law_all_orders" st__law_all_orders a fd) (hm : mg "_law_all_orders" = some (.ref a)) (hb : Binds K fd ["many"] []) : Dfn P w ⟨K, mg, none⟩ base 3 "_law_all_orders" 1 d__law_all_orders := by
  refine dfn_of (k := 2) (N := ["many", "found", "turn", "longer", "one", "at"]) (G := ⟨K, mg, none⟩) F sc__law_all_orders hm hb rfl (by decide) rfl fun cdv A outer s H E hr => ?_
  have hu := hr.units
  have hu5 := units65 hr
  have nd := sc__law_all_orders.nd
  have tk := takes_of (X := cxOf (L2.CX P w) P w K mg base ["many", "found", "turn", "longer", "one", "at"] "_law_all_orders" (defScope st__law_all_orders) a cdv A outer s H E) rfl rfl rfl rfl
  have hp := passes_of (X := cxOf (L2.CX P w) P w K mg base ["many", "found", "turn", "longer", "one", "at"] "_law_all_orders" (defScope st__law_all_orders) a cdv A outer s H E) rfl
  exact (s1 (sset 1 nd (v1 (xlst (a1 (xtup a0) a0))))
  (s1 (sfor hp rfl (i_range1 B.range (xv 0)) (t := (.nm 2)) (q1 nd) (s1 (sset 3 nd (v1 (xlst a0)))
  (s1 (sfor hp rfl (i1 (xv 1)) (t := (.nm 4)) (q1 nd) (sl (sset 3 nd (v1 (xop bAdd (xv 3) (xlc (own := [("at", 5)]) (t := (.nm 5)) rfl nd (i_range1 B.range (xv 0)) (by show BlkOk ["many", "found", "turn", "longer", "one", "at"] (defScope st__law_all_orders) _ _; exact blkOk_by (by decide +kernel)) (fun _ _ _ _ _ => (q1 nd)) (fun _ _ _ _ _ => (t1 (ycmp (cNotIn hu5) (xv 5) (xunp (xv 4))))) (fun _ _ _ _ _ => (xcatP (xv 4) (xtupP (a1 (xv 5) a0))))))))))
  (sl (sset 1 nd (v1 (xv 3)))))))
  (sl (sret (xv 1)))))

/-! ## is_tuple_of -/
abbrev st_is_tuple_of : Stmt := top 7
theorem sc_is_tuple_of : FnScope ["value", "least", "most"] ["value", "least", "most"] (defScope st_is_tuple_of) := ⟨rfl, rfl, rfl, by decide +kernel, rfl, by decide +kernel, by decide +kernel⟩
def b_is_tuple_of : DSn :=
  (mRet (mAnd (mIsT "tuple" (mVar 0)) (mB (mChain gLe gLe (mVar 1) (mBi gLen (mCons (mVar 0) mNil)) (mVar 2)))))
def d_is_tuple_of : Den := denB 3 b_is_tuple_of
theorem ok_is_tuple_of {P : Program} {w : World} {K : PySem.W.Frag} {mg : Str → Option Value} {base : Heap} {a : Addr} {fd : FuncData} (B : Bi mg)
    (F : Fun K "is_tuple_of" "is_tuple_of" st_is_tuple_of a fd) (hm : mg "is_tuple_of" = some (.ref a)) (hb : Binds K fd ["value", "least", "most"] []) : Dfn P w ⟨K, mg, none⟩ base 3 "is_tuple_of" 3 d_is_tuple_of := by
  refine dfn_of (k := 2) (N := ["value", "least", "most"]) (G := ⟨K, mg, none⟩) F sc_is_tuple_of hm hb rfl (by decide) rfl fun cdv A outer s H E hr => ?_
  have hu := hr.units
  have hu5 := units65 hr
  have nd := sc_is_tuple_of.nd
  have tk := takes_of (X := cxOf (L2.CX P w) P w K mg base ["value", "least", "most"] "is_tuple_of" (defScope st_is_tuple_of) a cdv A outer s H E) rfl rfl rfl rfl
  have hp := passes_of (X := cxOf (L2.CX P w) P w K mg base ["value", "least", "most"] "is_tuple_of" (defScope st_is_tuple_of) a cdv A outer s H E) rfl
  exact (sl (sret (xand (xisT B.isinstance B.tuple DL.boot_tuple (xv 0)) (xone (xchain cLe cLe (xv 1) (xbi biLen B.len DL.boot_len (a1 (xv 0) a0)) (xv 2))))))

/-! ## is_integer -/
abbrev st_is_integer : Stmt := top 5
theorem sc_is_integer : FnScope ["value"] ["value"] (defScope st_is_integer) := ⟨rfl, rfl, rfl, by decide +kernel, rfl, by decide +kernel, by decide +kernel⟩
def b_is_integer : DSn :=
  (mRet (mAnd (mIsT "int" (mVar 0)) (mNot (mIsT "bool" (mVar 0)))))
def d_is_integer : Den := denB 1 b_is_integer
theorem ok_is_integer {P : Program} {w : World} {K : PySem.W.Frag} {mg : Str → Option Value} {base : Heap} {a : Addr} {fd : FuncData} (B : Bi mg)
    (F : Fun K "is_integer" "is_integer" st_is_integer a fd) (hm : mg "is_integer" = some (.ref a)) (hb : Binds K fd ["value"] []) : Dfn P w ⟨K, mg, none⟩ base 3 "is_integer" 1 d_is_integer := by
  refine dfn_of (k := 2) (N := ["value"]) (G := ⟨K, mg, none⟩) F sc_is_integer hm hb rfl (by decide) rfl fun cdv A outer s H E hr => ?_
  have hu := hr.units
  have hu5 := units65 hr
  have nd := sc_is_integer.nd
  have tk := takes_of (X := cxOf (L2.CX P w) P w K mg base ["value"] "is_integer" (defScope st_is_integer) a cdv A outer s H E) rfl rfl rfl rfl
  have hp := passes_of (X := cxOf (L2.CX P w) P w K mg base ["value"] "is_integer" (defScope st_is_integer) a cdv A outer s H E) rfl
  exact (sl (sret (xand (xisT B.isinstance B.int DL.boot_int (xv 0)) (xone (xnot (xisT B.isinstance B.bool DL.boot_bool (xv 0)))))))

/-! ## is_between -/
abbrev st_is_between : Stmt := top 6
theorem sc_is_between : FnScope ["value", "least", "most"] ["value", "least", "most"] (defScope st_is_between) := ⟨rfl, rfl, rfl, by decide +kernel, rfl, by decide +kernel, by decide +kernel⟩
def b_is_between : DSn :=
  (mRet (mAnd (mCall d_is_integer 1 (mConsE (mV (mVar 0)) mNilE)) (mB (mChain gLe gLe (mVar 1) (mVar 0) (mVar 2)))))
def d_is_between : Den := denB 3 b_is_between
theorem ok_is_between {P : Program} {w : World} {K : PySem.W.Frag} {mg : Str → Option Value} {base : Heap} {a : Addr} {fd : FuncData} (B : Bi mg) (D_is_integer : Dfn P w ⟨K, mg, none⟩ base 3 "is_integer" 1 d_is_integer)
    (F : Fun K "is_between" "is_between" st_is_between a fd) (hm : mg "is_between" = some (.ref a)) (hb : Binds K fd ["value", "least", "most"] []) : Dfn P w ⟨K, mg, none⟩ base 4 "is_between" 3 d_is_between := by
  refine dfn_of (k := 3) (N := ["value", "least", "most"]) (G := ⟨K, mg, none⟩) F sc_is_between hm hb rfl (by decide) rfl fun cdv A outer s H E hr => ?_
  have hu := hr.units
  have hu5 := units65 hr
  have nd := sc_is_between.nd
  have tk := takes_of (X := cxOf (L2.CX P w) P w K mg base ["value", "least", "most"] "is_between" (defScope st_is_between) a cdv A outer s H E) rfl rfl rfl rfl
  have hp := passes_of (X := cxOf (L2.CX P w) P w K mg base ["value", "least", "most"] "is_between" (defScope st_is_between) a cdv A outer s H E) rfl
  exact (sl (sret (xand (xcall D_is_integer (hr.mono (by decide)) tk (e1 (v1 (xv 0)) e0)) (xone (xchain cLe cLe (xv 1) (xv 0) (xv 2))))))

/-! ## is_order -/
abbrev st_is_order : Stmt := top 8
theorem sc_is_order : FnScope ["value", "many", "item"] ["value", "many"] (defScope st_is_order) := ⟨rfl, rfl, rfl, by decide +kernel, rfl, by decide +kernel, by decide +kernel⟩
def b_is_order : DSn :=
  (mSeq (mIfS (mOrT (mNotT (mTru (mCall d_is_tuple_of 3 (mConsE (mV (mVar 0)) (mConsE (mV (mVar 1)) (mConsE (mV (mVar 1)) mNilE)))))) (mNotT (mTru (mBi gAll (mCons (mLc (mIt (mVar 0)) (.nm 2) mYes (mCall d_is_between 3 (mConsE (mV (mVar 2)) (mConsE (mV (mC (.int 0))) (mConsE (mV (mOp gSub (mVar 1) (mC (.int 1)))) mNilE)))) [2]) mNil))))) (mRet (mC (.bl false))) mSkip)
  (mRet (mB (mCmp gEq (mLenSet (mVar 0)) (mVar 1)))))
def d_is_order : Den := denB 3 b_is_order
theorem ok_is_order {P : Program} {w : World} {K : PySem.W.Frag} {mg : Str → Option Value} {base : Heap} {a : Addr} {fd : FuncData} (B : Bi mg) (D_is_tuple_of : Dfn P w ⟨K, mg, none⟩ base 3 "is_tuple_of" 3 d_is_tuple_of) (D_is_between : Dfn P w ⟨K, mg, none⟩ base 4 "is_between" 3 d_is_between)
    (F : Fun K "is_order" "is_order" st_is_order a fd) (hm : mg "is_order" = some (.ref a)) (hb : Binds K fd ["value", "many"] []) : Dfn P w ⟨K, mg, none⟩ base 5 "is_order" 2 d_is_order := by
  refine dfn_of (k := 4) (N := ["value", "many", "item"]) (G := ⟨K, mg, none⟩) F sc_is_order hm hb rfl (by decide) rfl fun cdv A outer s H E hr => ?_
  have hu := hr.units
  have hu5 := units65 hr
  have nd := sc_is_order.nd
  have tk := takes_of (X := cxOf (L2.CX P w) P w K mg base ["value", "many", "item"] "is_order" (defScope st_is_order) a cdv A outer s H E) rfl rfl rfl rfl
  have hp := passes_of (X := cxOf (L2.CX P w) P w K mg base ["value", "many", "item"] "is_order" (defScope st_is_order) a cdv A outer s H E) rfl
  exact (s1 (sif (PW.pt (wor (ynot (ytru (xcall D_is_tuple_of (hr.mono (by decide)) tk (e1 (v1 (xv 0)) (e1 (v1 (xv 1)) (e1 (v1 (xv 1)) e0)))))) (wor1 (ynot (ytru (xbi (biAll rfl) B.all DL.boot_all (a1 (xlc (own := [("item", 2)]) (t := (.nm 2)) rfl nd (i1 (xv 0)) (by show BlkOk ["value", "many", "item"] (defScope st_is_order) _ _; exact blkOk_by (by decide +kernel)) (fun _ _ _ _ _ => (q1 nd)) (fun _ _ _ _ _ => t0) (fun _ _ _ _ _ => (xcall D_is_between (hr.mono (by decide)) L2.takes0 (e1 (v1 (xv 2)) (e1 (v1 xint) (e1 (v1 (xop bSub (xv 1) xint)) e0)))))) a0))))))) (sl (sret xbl)) s0)
  (sl (sret (xcmp (cEq hu) (xlenSet rfl B.len B.set (xv 0)) (xv 1)))))

/-! ## check_order -/
abbrev st_check_order : Stmt := top 9
theorem sc_check_order : FnScope ["value", "many"] ["value", "many"] (defScope st_check_order) := ⟨rfl, rfl, rfl, by decide +kernel, rfl, by decide +kernel, by decide +kernel⟩
def b_check_order : DSn :=
  (mIfS (mNotT (mTru (mCall d_is_order 2 (mConsE (mV (mVar 0)) (mConsE (mV (mVar 1)) mNilE))))) (mRaiseF "BadOrders" [(mC (.str "no order of ")), (mVar 1), (mC (.str " things"))]) mSkip)
def d_check_order : Den := denB 2 b_check_order
theorem ok_check_order {P : Program} {w : World} {K : PySem.W.Frag} {mg : Str → Option Value} {base : Heap} {a : Addr} {fd : FuncData} (B : Bi mg) (EX : Exs P w K mg base) (D_is_order : Dfn P w ⟨K, mg, none⟩ base 5 "is_order" 2 d_is_order)
    (F : Fun K "check_order" "check_order" st_check_order a fd) (hm : mg "check_order" = some (.ref a)) (hb : Binds K fd ["value", "many"] []) : Dfn P w ⟨K, mg, none⟩ base 6 "check_order" 2 d_check_order := by
  refine dfn_of (k := 5) (N := ["value", "many"]) (G := ⟨K, mg, none⟩) F sc_check_order hm hb rfl (by decide) rfl fun cdv A outer s H E hr => ?_
  have hu := hr.units
  have hu5 := units65 hr
  have nd := sc_check_order.nd
  have tk := takes_of (X := cxOf (L2.CX P w) P w K mg base ["value", "many"] "check_order" (defScope st_check_order) a cdv A outer s H E) rfl rfl rfl rfl
  have hp := passes_of (X := cxOf (L2.CX P w) P w K mg base ["value", "many"] "check_order" (defScope st_check_order) a cdv A outer s H E) rfl
  exact (sl (sif (ynot (ytru (xcall D_is_order (hr.mono (by decide)) tk (e1 (v1 (xv 0)) (e1 (v1 (xv 1)) e0))))) (sl (sraiseF EX.pl_BadOrders rfl tk (DJ.str (DJ.fmt (xv 1) (DJ.str DJ.nil))))) s0))

/-! ## check_pair -/
abbrev st_check_pair : Stmt := top 12
theorem sc_check_pair : FnScope ["first", "second"] ["first", "second"] (defScope st_check_pair) := ⟨rfl, rfl, rfl, by decide +kernel, rfl, by decide +kernel, by decide +kernel⟩
def b_check_pair : DSn :=
  (mSeq (mIfS (mNotT (mTru (mCall d_is_tuple_of 3 (mConsE (mV (mVar 0)) (mConsE (mV (mC (.int 1))) (mConsE (mV (mC k_MOST_BLOCKS)) mNilE)))))) (mRaiseF "BadOrders" [(mC (.str "no order of 1 to ")), (mC k_MOST_BLOCKS), (mC (.str " blocks"))]) mSkip)
  (mSeq (mDrop (mCall d_check_order 2 (mConsE (mV (mVar 0)) (mConsE (mV (mBi gLen (mCons (mVar 0) mNil))) mNilE))))
  (mDrop (mCall d_check_order 2 (mConsE (mV (mVar 1)) (mConsE (mV (mBi gLen (mCons (mVar 0) mNil))) mNilE))))))
def d_check_pair : Den := denB 2 b_check_pair
theorem ok_check_pair {P : Program} {w : World} {K : PySem.W.Frag} {mg : Str → Option Value} {base : Heap} {a : Addr} {fd : FuncData} (B : Bi mg) (EX : Exs P w K mg base) (K_MOST_BLOCKS : Kon ⟨K, mg, none⟩ "MOST_BLOCKS" k_MOST_BLOCKS) (D_is_tuple_of : Dfn P w ⟨K, mg, none⟩ base 3 "is_tuple_of" 3 d_is_tuple_of) (D_check_order : Dfn P w ⟨K, mg, none⟩ base 6 "check_order" 2 d_check_order)
    (F : Fun K "check_pair" "check_pair" st_check_pair a fd) (hm : mg "check_pair" = some (.ref a)) (hb : Binds K fd ["first", "second"] []) : Dfn P w ⟨K, mg, none⟩ base 7 "check_pair" 2 d_check_pair := by
  refine dfn_of (k := 6) (N := ["first", "second"]) (G := ⟨K, mg, none⟩) F sc_check_pair hm hb rfl (by decide) rfl fun cdv A outer s H E hr => ?_
  have hu := hr.units
  have hu5 := units65 hr
  have nd := sc_check_pair.nd
  have tk := takes_of (X := cxOf (L2.CX P w) P w K mg base ["first", "second"] "check_pair" (defScope st_check_pair) a cdv A outer s H E) rfl rfl rfl rfl
  have hp := passes_of (X := cxOf (L2.CX P w) P w K mg base ["first", "second"] "check_pair" (defScope st_check_pair) a cdv A outer s H E) rfl
  exact (s1 (sif (ynot (ytru (xcall D_is_tuple_of (hr.mono (by decide)) tk (e1 (v1 (xv 0)) (e1 (v1 xint) (e1 (v1 (xk K_MOST_BLOCKS)) e0)))))) (sl (sraiseF EX.pl_BadOrders rfl tk (DJ.str (DJ.fmt (xk K_MOST_BLOCKS) (DJ.str DJ.nil))))) s0)
  (s1 (sexpr (xcall D_check_order (hr.mono (by decide)) tk (e1 (v1 (xv 0)) (e1 (v1 (xbi biLen B.len DL.boot_len (a1 (xv 0) a0))) e0))))
  (sl (sexpr (xcall D_check_order (hr.mono (by decide)) tk (e1 (v1 (xv 1)) (e1 (v1 (xbi biLen B.len DL.boot_len (a1 (xv 0) a0))) e0)))))))

/-! ## pattern -/
abbrev st_pattern : Stmt := top 13
theorem sc_pattern : FnScope ["first", "second", "ranks", "i", "j", "k", "m", "block"] ["first", "second"] (defScope st_pattern) := ⟨rfl, rfl, rfl, by decide +kernel, rfl, by decide +kernel, by decide +kernel⟩
def b_pattern : DSn :=
  (mSeq (mDrop (mCall d_check_pair 2 (mConsE (mV (mVar 0)) (mConsE (mV (mUnp (mVar 1))) mNilE))))
  (mSeq (mSetLc 2 (mLc (mIt (mVar 0)) (.nm 7) mYes (mTIdx 1 (mCons (mVar 7) mNil)) [7]))
  (mSeq (mFor (mComb2 (mBi gRgV (mCons (mBi gLen (mCons (mVar 0) mNil)) mNil)) (mC (.int 4))) (.tp [(.nm 3), (.nm 4), (.nm 5), (.nm 6)]) (mIfS (mOrT (mCh4 gLt gLt gLt (mOp gIx (mVar 2) (mVar 5)) (mOp gIx (mVar 2) (mVar 3)) (mOp gIx (mVar 2) (mVar 6)) (mOp gIx (mVar 2) (mVar 4))) (mCh4 gLt gLt gLt (mOp gIx (mVar 2) (mVar 4)) (mOp gIx (mVar 2) (mVar 6)) (mOp gIx (mVar 2) (mVar 3)) (mOp gIx (mVar 2) (mVar 5)))) (mRet (mTup (mCons (mVar 3) (mCons (mVar 4) (mCons (mVar 5) (mCons (mVar 6) mNil)))))) mSkip))
  (mRet (mC .non)))))
def d_pattern : Den := denB 8 b_pattern
theorem ok_pattern {P : Program} {w : World} {K : PySem.W.Frag} {mg : Str → Option Value} {base : Heap} {a : Addr} {fd : FuncData} (B : Bi mg) (I_combinations : mg "combinations" = some (.type "itertools.combinations")) (D_check_pair : Dfn P w ⟨K, mg, none⟩ base 7 "check_pair" 2 d_check_pair)
    (F : Fun K "pattern" "pattern" st_pattern a fd) (hm : mg "pattern" = some (.ref a)) (hb : Binds K fd ["first", "second"] []) : Dfn P w ⟨K, mg, none⟩ base 8 "pattern" 2 d_pattern := by
  refine dfn_of (k := 7) (N := ["first", "second", "ranks", "i", "j", "k", "m", "block"]) (G := ⟨K, mg, none⟩) F sc_pattern hm hb rfl (by decide) rfl fun cdv A outer s H E hr => ?_
  have hu := hr.units
  have hu5 := units65 hr
  have nd := sc_pattern.nd
  have tk := takes_of (X := cxOf (L2.CX P w) P w K mg base ["first", "second", "ranks", "i", "j", "k", "m", "block"] "pattern" (defScope st_pattern) a cdv A outer s H E) rfl rfl rfl rfl
  have hp := passes_of (X := cxOf (L2.CX P w) P w K mg base ["first", "second", "ranks", "i", "j", "k", "m", "block"] "pattern" (defScope st_pattern) a cdv A outer s H E) rfl
  exact (s1 (sexpr (xcall D_check_pair (hr.mono (by decide)) tk (e1 (v1 (xv 0)) (e1 (v1 (xunp (xv 1))) e0))))
  (s1 (ssetLc 2 (own := [("block", 7)]) (t := (.nm 7)) rfl nd (i1 (xv 0)) (by show BlkOk ["first", "second", "ranks", "i", "j", "k", "m", "block"] (defScope st_pattern) _ _; exact blkOk_by (by decide +kernel)) (fun _ _ _ _ _ => (q1 nd)) (fun _ _ _ _ _ => t0) (fun _ _ _ _ _ => (xtidx 1 (a1 (xv 7) a0))))
  (s1 (sfor hp rfl (i_comb2 rfl I_combinations (xbt biRgV B.range PyProof.Rows.boot_range (a1 (xbi biLen B.len DL.boot_len (a1 (xv 0) a0)) a0)) xint) (t := (.tp [(.nm 3), (.nm 4), (.nm 5), (.nm 6)])) (qt rfl (qs1 (q1 nd) (qs1 (q1 nd) (qs1 (q1 nd) (qs1 (q1 nd) qs0))))) (sl (sif (PW.pt (wor (ych4 cLt cLt cLt (xix (xv 2) (xv 5)) (xix (xv 2) (xv 3)) (xix (xv 2) (xv 6)) (xix (xv 2) (xv 4))) (wor1 (ych4 cLt cLt cLt (xix (xv 2) (xv 4)) (xix (xv 2) (xv 6)) (xix (xv 2) (xv 3)) (xix (xv 2) (xv 5)))))) (sl (sret (xtup (a1 (xv 3) (a1 (xv 4) (a1 (xv 5) (a1 (xv 6) a0))))))) s0)))
  (sl (sret xnon)))))

/-! ## _law_order -/
abbrev st__law_order : Stmt := top 22
theorem sc__law_order : FnScope ["row", "many", "turn", "left", "found"] ["row", "many"] (defScope st__law_order) := ⟨rfl, rfl, rfl, by decide +kernel, rfl, by decide +kernel, by decide +kernel⟩
def b__law_order : DSn :=
  (mSeq (mPar2 3 4 (mConsE (mNewRg (mVar 1)) (mConsE (mNew mNil) mNilE)))
  (mSeq (mFor (mRg1 (mVar 1)) (.nm 2) (mDrop (mMet 4 gApp (mCons (mMet 3 gPopAt (mCons (mCall d__law_taken 2 (mConsE (mCel 0) (mConsE (mV (mBiC 3 gLen)) mNilE))) mNil)) mNil))))
  (mRet (mPtpC 4))))
def d__law_order : Den := denB 5 b__law_order
theorem ok__law_order {P : Program} {w : World} {K : PySem.W.Frag} {mg : Str → Option Value} {base : Heap} {a : Addr} {fd : FuncData} (B : Bi mg) (D__law_taken : Dfn P w ⟨K, mg, none⟩ base 3 "_law_taken" 2 d__law_taken)
    (F : Fun K "_law_order" "_law_order" st__law_order a fd) (hm : mg "_law_order" = some (.ref a)) (hb : Binds K fd ["row", "many"] []) : Dfn P w ⟨K, mg, none⟩ base 4 "_law_order" 2 d__law_order := by
  refine dfn_of (k := 3) (N := ["row", "many", "turn", "left", "found"]) (G := ⟨K, mg, none⟩) F sc__law_order hm hb rfl (by decide) rfl fun cdv A outer s H E hr => ?_
  have hu := hr.units
  have hu5 := units65 hr
  have nd := sc__law_order.nd
  have tk := takes_of (X := cxOf (L2.CX P w) P w K mg base ["row", "many", "turn", "left", "found"] "_law_order" (defScope st__law_order) a cdv A outer s H E) rfl rfl rfl rfl
  have hp := passes_of (X := cxOf (L2.CX P w) P w K mg base ["row", "many", "turn", "left", "found"] "_law_order" (defScope st__law_order) a cdv A outer s H E) rfl
  exact (s1 (spar2 3 4 rfl nd (e1 (vlistRg rfl B.list B.range (xv 1)) (e1 (vlst a0) e0)))
  (s1 (sfor hp rfl (i_range1 B.range (xv 1)) (t := (.nm 2)) (q1 nd) (sl (sexpr (xmet 4 meApp (a1 (xmet 3 mePopAt (a1 (xcall D__law_taken (hr.mono (by decide)) tk (e1 (vc 0) (e1 (v1 (xbiC 3 biLen B.len DL.boot_len)) e0))) a0)) a0)))))
  (sl (sret (xptpC 4 B.tuple)))))

/-! ## _law_pick -/
abbrev st__law_pick : Stmt := top 20
theorem sc__law_pick : FnScope ["row", "things"] ["row", "things"] (defScope st__law_pick) := ⟨rfl, rfl, rfl, by decide +kernel, rfl, by decide +kernel, by decide +kernel⟩
def b__law_pick : DSn :=
  (mRet (mOp gIx (mVar 1) (mCall d__law_taken 2 (mConsE (mCel 0) (mConsE (mV (mBi gLen (mCons (mVar 1) mNil))) mNilE)))))
def d__law_pick : Den := denB 2 b__law_pick
theorem ok__law_pick {P : Program} {w : World} {K : PySem.W.Frag} {mg : Str → Option Value} {base : Heap} {a : Addr} {fd : FuncData} (B : Bi mg) (D__law_taken : Dfn P w ⟨K, mg, none⟩ base 3 "_law_taken" 2 d__law_taken)
    (F : Fun K "_law_pick" "_law_pick" st__law_pick a fd) (hm : mg "_law_pick" = some (.ref a)) (hb : Binds K fd ["row", "things"] []) : Dfn P w ⟨K, mg, none⟩ base 4 "_law_pick" 2 d__law_pick := by
  refine dfn_of (k := 3) (N := ["row", "things"]) (G := ⟨K, mg, none⟩) F sc__law_pick hm hb rfl (by decide) rfl fun cdv A outer s H E hr => ?_
  have hu := hr.units
  have hu5 := units65 hr
  have nd := sc__law_pick.nd
  have tk := takes_of (X := cxOf (L2.CX P w) P w K mg base ["row", "things"] "_law_pick" (defScope st__law_pick) a cdv A outer s H E) rfl rfl rfl rfl
  have hp := passes_of (X := cxOf (L2.CX P w) P w K mg base ["row", "things"] "_law_pick" (defScope st__law_pick) a cdv A outer s H E) rfl
  exact (sl (sret (xix (xv 1) (xcall D__law_taken (hr.mono (by decide)) tk (e1 (vc 0) (e1 (v1 (xbi biLen B.len DL.boot_len (a1 (xv 1) a0))) e0))))))

/-! ## have_same_blocks -/
abbrev st_have_same_blocks : Stmt := top 16
theorem sc_have_same_blocks : FnScope ["one", "other"] ["one", "other"] (defScope st_have_same_blocks) := ⟨rfl, rfl, rfl, by decide +kernel, rfl, by decide +kernel, by decide +kernel⟩
def b_have_same_blocks : DSn :=
  (mRet (mB (mCmp gEq (mBi gSortedT (mCons (mVar 0) mNil)) (mBi gSortedT (mCons (mVar 1) mNil)))))
def d_have_same_blocks : Den := denB 2 b_have_same_blocks
theorem ok_have_same_blocks {P : Program} {w : World} {K : PySem.W.Frag} {mg : Str → Option Value} {base : Heap} {a : Addr} {fd : FuncData} (B : Bi mg)
    (F : Fun K "have_same_blocks" "have_same_blocks" st_have_same_blocks a fd) (hm : mg "have_same_blocks" = some (.ref a)) (hb : Binds K fd ["one", "other"] []) : Dfn P w ⟨K, mg, none⟩ base 3 "have_same_blocks" 2 d_have_same_blocks := by
  refine dfn_of (k := 2) (N := ["one", "other"]) (G := ⟨K, mg, none⟩) F sc_have_same_blocks hm hb rfl (by decide) rfl fun cdv A outer s H E hr => ?_
  have hu := hr.units
  have hu5 := units65 hr
  have nd := sc_have_same_blocks.nd
  have tk := takes_of (X := cxOf (L2.CX P w) P w K mg base ["one", "other"] "have_same_blocks" (defScope st_have_same_blocks) a cdv A outer s H E) rfl rfl rfl rfl
  have hp := passes_of (X := cxOf (L2.CX P w) P w K mg base ["one", "other"] "have_same_blocks" (defScope st_have_same_blocks) a cdv A outer s H E) rfl
  exact (sl (sret (xcmp (cEq hu) (xbi biSortedT B.sorted DL.boot_sorted (a1 (xv 0) a0)) (xbi biSortedT B.sorted DL.boot_sorted (a1 (xv 1) a0)))))

/-! ## joined -/
abbrev st_joined : Stmt := top 17
theorem sc_joined : FnScope ["one", "other", "letter"] ["one", "other", "letter"] (defScope st_joined) := ⟨rfl, rfl, rfl, by decide +kernel, rfl, by decide +kernel, by decide +kernel⟩
def b_joined : DSn :=
  (mSeq (mIfS (mOrT (mCmp gIsN (mVar 0) (mC .non)) (mCmp gIsN (mVar 1) (mC .non))) (mRet (mC .non)) mSkip)
  (mRet (mOp gAdd (mOp gAdd (mVar 0) (mVar 1)) (mTup (mCons (mVar 2) mNil)))))
def d_joined : Den := denB 3 b_joined
theorem ok_joined {P : Program} {w : World} {K : PySem.W.Frag} {mg : Str → Option Value} {base : Heap} {a : Addr} {fd : FuncData} (B : Bi mg)
    (F : Fun K "joined" "joined" st_joined a fd) (hm : mg "joined" = some (.ref a)) (hb : Binds K fd ["one", "other", "letter"] []) : Dfn P w ⟨K, mg, none⟩ base 3 "joined" 3 d_joined := by
  refine dfn_of (k := 2) (N := ["one", "other", "letter"]) (G := ⟨K, mg, none⟩) F sc_joined hm hb rfl (by decide) rfl fun cdv A outer s H E hr => ?_
  have hu := hr.units
  have hu5 := units65 hr
  have nd := sc_joined.nd
  have tk := takes_of (X := cxOf (L2.CX P w) P w K mg base ["one", "other", "letter"] "joined" (defScope st_joined) a cdv A outer s H E) rfl rfl rfl rfl
  have hp := passes_of (X := cxOf (L2.CX P w) P w K mg base ["one", "other", "letter"] "joined" (defScope st_joined) a cdv A outer s H E) rfl
  exact (s1 (sif (PW.pt (wor (ycmp cIs (xv 0) xnon) (wor1 (ycmp cIs (xv 1) xnon)))) (sl (sret xnon)) s0)
  (sl (sret (xop bAdd (xop bAdd (xv 0) (xv 1)) (xtup (a1 (xv 2) a0))))))

/-! ## word_of_orders -/
abbrev st_word_of_orders : Stmt := top 15
theorem sc_word_of_orders : FnScope ["first", "second", "at", "rest"] ["first", "second"] (defScope st_word_of_orders) := ⟨rfl, rfl, rfl, by decide +kernel, rfl, by decide +kernel, by decide +kernel⟩
def b_word_of_orders (rec : Den) : DSn :=
  (mSeq (mIfS (mCmp gEq (mBi gLen (mCons (mVar 0) mNil)) (mC (.int 1))) (mRet (mVar 0)) mSkip)
  (mSeq (mFor (mRg2 (mC (.int 1)) (mBi gLen (mCons (mVar 0) mNil))) (.nm 2) (mSeq (mSet 3 (mV (mOp gSub (mBi gLen (mCons (mVar 0) mNil)) (mVar 2))))
  (mSeq (mIfS (mTru (mCall d_have_same_blocks 2 (mConsE (mV (mSl (mVar 0) mNoPart (mPart (mVar 2)))) (mConsE (mV (mSl (mVar 1) mNoPart (mPart (mVar 2)))) mNilE)))) (mRet (mCall d_joined 3 (mConsE (mV (mCall rec 2 (mConsE (mV (mSl (mVar 0) mNoPart (mPart (mVar 2)))) (mConsE (mV (mSl (mVar 1) mNoPart (mPart (mVar 2)))) mNilE)))) (mConsE (mV (mCall rec 2 (mConsE (mV (mSl (mVar 0) (mPart (mVar 2)) mNoPart)) (mConsE (mV (mSl (mVar 1) (mPart (mVar 2)) mNoPart)) mNilE)))) (mConsE (mV (mC (.str "V"))) mNilE))))) mSkip)
  (mIfS (mTru (mCall d_have_same_blocks 2 (mConsE (mV (mSl (mVar 0) mNoPart (mPart (mVar 2)))) (mConsE (mV (mSl (mVar 1) (mPart (mVar 3)) mNoPart)) mNilE)))) (mRet (mCall d_joined 3 (mConsE (mV (mCall rec 2 (mConsE (mV (mSl (mVar 0) (mPart (mVar 2)) mNoPart)) (mConsE (mV (mSl (mVar 1) mNoPart (mPart (mVar 3)))) mNilE)))) (mConsE (mV (mCall rec 2 (mConsE (mV (mSl (mVar 0) mNoPart (mPart (mVar 2)))) (mConsE (mV (mSl (mVar 1) (mPart (mVar 3)) mNoPart)) mNilE)))) (mConsE (mV (mC (.str "H"))) mNilE))))) mSkip))))
  (mRet (mC .non))))
def d_word_of_orders : Nat → Den
  | 0 => denB 4 mNever
  | n + 1 => denB 4 (b_word_of_orders (d_word_of_orders n))
theorem ok_word_of_orders {P : Program} {w : World} {K : PySem.W.Frag} {mg : Str → Option Value} {base : Heap} {a : Addr} {fd : FuncData} (B : Bi mg) (D_have_same_blocks : Dfn P w ⟨K, mg, none⟩ base 3 "have_same_blocks" 2 d_have_same_blocks) (D_joined : Dfn P w ⟨K, mg, none⟩ base 3 "joined" 3 d_joined)
    (F : Fun K "word_of_orders" "word_of_orders" st_word_of_orders a fd) (hm : mg "word_of_orders" = some (.ref a)) (hb : Binds K fd ["first", "second"] []) : ∀ rn, Dfn P w ⟨K, mg, none⟩ base (3 + rn) "word_of_orders" 2 (d_word_of_orders rn) := by
  intro rn
  induction rn with
  | zero => exact dfn_of (k := 2) (N := ["first", "second", "at", "rest"]) (G := ⟨K, mg, none⟩) (body := mNever) F sc_word_of_orders hm hb rfl (by decide) rfl fun cdv A outer s H E hr => ssnever
  | succ rn D_word_of_orders =>
  refine dfn_of (k := (3 + rn)) (N := ["first", "second", "at", "rest"]) (G := ⟨K, mg, none⟩) F sc_word_of_orders hm hb rfl (by decide) rfl fun cdv A outer s H E hr => ?_
  have hu := hr.units
  have hu5 := units65 hr
  have nd := sc_word_of_orders.nd
  have tk := takes_of (X := cxOf (L2.CX P w) P w K mg base ["first", "second", "at", "rest"] "word_of_orders" (defScope st_word_of_orders) a cdv A outer s H E) rfl rfl rfl rfl
  have hp := passes_of (X := cxOf (L2.CX P w) P w K mg base ["first", "second", "at", "rest"] "word_of_orders" (defScope st_word_of_orders) a cdv A outer s H E) rfl
  exact (s1 (sif (ycmp (cEq hu) (xbi biLen B.len DL.boot_len (a1 (xv 0) a0)) xint) (sl (sret (xv 0))) s0)
  (s1 (sfor hp rfl (i_range2 B.range xint (xbi biLen B.len DL.boot_len (a1 (xv 0) a0))) (t := (.nm 2)) (q1 nd) (s1 (sset 3 nd (v1 (xop bSub (xbi biLen B.len DL.boot_len (a1 (xv 0) a0)) (xv 2))))
  (s1 (sif (ytru (xcall D_have_same_blocks (hr.mono (by omega)) tk (e1 (v1 (xsl (xv 0) o0 (o1 (xv 2)))) (e1 (v1 (xsl (xv 1) o0 (o1 (xv 2)))) e0)))) (sl (sret (xcall D_joined (hr.mono (by omega)) tk (e1 (v1 (xcall D_word_of_orders (hr.mono (by omega)) tk (e1 (v1 (xsl (xv 0) o0 (o1 (xv 2)))) (e1 (v1 (xsl (xv 1) o0 (o1 (xv 2)))) e0)))) (e1 (v1 (xcall D_word_of_orders (hr.mono (by omega)) tk (e1 (v1 (xsl (xv 0) (o1 (xv 2)) o0)) (e1 (v1 (xsl (xv 1) (o1 (xv 2)) o0)) e0)))) (e1 (v1 xstr) e0)))))) s0)
  (sl (sif (ytru (xcall D_have_same_blocks (hr.mono (by omega)) tk (e1 (v1 (xsl (xv 0) o0 (o1 (xv 2)))) (e1 (v1 (xsl (xv 1) (o1 (xv 3)) o0)) e0)))) (sl (sret (xcall D_joined (hr.mono (by omega)) tk (e1 (v1 (xcall D_word_of_orders (hr.mono (by omega)) tk (e1 (v1 (xsl (xv 0) (o1 (xv 2)) o0)) (e1 (v1 (xsl (xv 1) o0 (o1 (xv 3)))) e0)))) (e1 (v1 (xcall D_word_of_orders (hr.mono (by omega)) tk (e1 (v1 (xsl (xv 0) o0 (o1 (xv 2)))) (e1 (v1 (xsl (xv 1) (o1 (xv 3)) o0)) e0)))) (e1 (v1 xstr) e0)))))) s0)))))
  (sl (sret xnon))))

/-! ## slicing_of -/
abbrev st_slicing_of : Stmt := top 14
theorem sc_slicing_of : FnScope ["first", "second"] ["first", "second"] (defScope st_slicing_of) := ⟨rfl, rfl, rfl, by decide +kernel, rfl, by decide +kernel, by decide +kernel⟩
def b_slicing_of : DSn :=
  (mSeq (mDrop (mCall d_check_pair 2 (mConsE (mV (mVar 0)) (mConsE (mV (mVar 1)) mNilE))))
  (mRet (mCall (d_word_of_orders 6) 2 (mConsE (mV (mVar 0)) (mConsE (mV (mVar 1)) mNilE)))))
def d_slicing_of : Den := denB 2 b_slicing_of
theorem ok_slicing_of {P : Program} {w : World} {K : PySem.W.Frag} {mg : Str → Option Value} {base : Heap} {a : Addr} {fd : FuncData} (B : Bi mg) (D_check_pair : Dfn P w ⟨K, mg, none⟩ base 7 "check_pair" 2 d_check_pair) (D_word_of_orders : Dfn P w ⟨K, mg, none⟩ base 9 "word_of_orders" 2 (d_word_of_orders 6))
    (F : Fun K "slicing_of" "slicing_of" st_slicing_of a fd) (hm : mg "slicing_of" = some (.ref a)) (hb : Binds K fd ["first", "second"] []) : Dfn P w ⟨K, mg, none⟩ base 10 "slicing_of" 2 d_slicing_of := by
  refine dfn_of (k := 9) (N := ["first", "second"]) (G := ⟨K, mg, none⟩) F sc_slicing_of hm hb rfl (by decide) rfl fun cdv A outer s H E hr => ?_
  have hu := hr.units
  have hu5 := units65 hr
  have nd := sc_slicing_of.nd
  have tk := takes_of (X := cxOf (L2.CX P w) P w K mg base ["first", "second"] "slicing_of" (defScope st_slicing_of) a cdv A outer s H E) rfl rfl rfl rfl
  have hp := passes_of (X := cxOf (L2.CX P w) P w K mg base ["first", "second"] "slicing_of" (defScope st_slicing_of) a cdv A outer s H E) rfl
  exact (s1 (sexpr (xcall D_check_pair (hr.mono (by decide)) tk (e1 (v1 (xv 0)) (e1 (v1 (xv 1)) e0))))
  (sl (sret (xcall D_word_of_orders (hr.mono (by decide)) tk (e1 (v1 (xv 0)) (e1 (v1 (xv 1)) e0))))))

/-! ## _law_is_word -/
abbrev st__law_is_word : Stmt := top 21
theorem sc__law_is_word : FnScope ["word", "deep", "token"] ["word"] (defScope st__law_is_word) := ⟨rfl, rfl, rfl, by decide +kernel, rfl, by decide +kernel, by decide +kernel⟩
def b__law_is_word : DSn :=
  (mSeq (mSet 1 (mV (mC (.int 0))))
  (mSeq (mFor (mIt (mVar 0)) (.nm 2) (mSeq (mSet 1 (mV (mIf (mTru (mIsT "str" (mVar 2))) (mOp gSub (mVar 1) (mC (.int 1))) (mOp gAdd (mVar 1) (mC (.int 1))))))
  (mIfS (mCmp gLt (mVar 1) (mC (.int 1))) (mRet (mC (.bl false))) mSkip)))
  (mRet (mB (mCmp gEq (mVar 1) (mC (.int 1)))))))
def d__law_is_word : Den := denB 3 b__law_is_word
theorem ok__law_is_word {P : Program} {w : World} {K : PySem.W.Frag} {mg : Str → Option Value} {base : Heap} {a : Addr} {fd : FuncData} (B : Bi mg)
    (F : Fun K "_law_is_word" "_law_is_word" st__law_is_word a fd) (hm : mg "_law_is_word" = some (.ref a)) (hb : Binds K fd ["word"] []) : Dfn P w ⟨K, mg, none⟩ base 3 "_law_is_word" 1 d__law_is_word := by
  refine dfn_of (k := 2) (N := ["word", "deep", "token"]) (G := ⟨K, mg, none⟩) F sc__law_is_word hm hb rfl (by decide) rfl fun cdv A outer s H E hr => ?_
  have hu := hr.units
  have hu5 := units65 hr
  have nd := sc__law_is_word.nd
  have tk := takes_of (X := cxOf (L2.CX P w) P w K mg base ["word", "deep", "token"] "_law_is_word" (defScope st__law_is_word) a cdv A outer s H E) rfl rfl rfl rfl
  have hp := passes_of (X := cxOf (L2.CX P w) P w K mg base ["word", "deep", "token"] "_law_is_word" (defScope st__law_is_word) a cdv A outer s H E) rfl
  exact (s1 (sset 1 nd (v1 xint))
  (s1 (sfor hp rfl (i1 (xv 0)) (t := (.nm 2)) (q1 nd) (s1 (sset 1 nd (v1 (xif (ytru (xisT B.isinstance B.str DL.boot_str (xv 2))) (xop bSub (xv 1) xint) (xop bAdd (xv 1) xint))))
  (sl (sif (ycmp cLt (xv 1) xint) (sl (sret xbl)) s0))))
  (sl (sret (xcmp (cEq hu) (xv 1) xint)))))

/-! ## law -/
abbrev st_law : Stmt := top 24
theorem sc_law : FnScope ["script", "row", "many", "first", "some", "names", "order", "word", "plain", "letters", "token", "at"] ["script"] (defScope st_law) := ⟨rfl, rfl, rfl, by decide +kernel, rfl, by decide +kernel, by decide +kernel⟩
def b_law : DSn :=
  (mSeq (mSet 1 (mNew (mCons (mVar 0) (mCons (mC (.int 0)) (mCons (mC (.int 3876)) (mCons (mC (.int 0)) mNil))))))
  (mSeq (mSet 2 (mV (mOp gAdd (mC (.int 1)) (mCall d__law_taken 2 (mConsE (mCel 1) (mConsE (mV (mC (.int 4))) mNilE))))))
  (mSeq (mIfS (mCmp gEq (mCall d__law_taken 2 (mConsE (mCel 1) (mConsE (mV (mC (.int 12))) mNilE))) (mC (.int 0))) (mSet 2 (mV (mC (.int 5)))) mSkip)
  (mSeq (mSet 3 (mV (mTupRg (mVar 2))))
  (mSeq (mSetLc 4 (mLc (mIt (mCall d__law_all_orders 1 (mConsE (mV (mVar 2)) mNilE))) (.nm 6) (mCmp gIsN (mCall d_pattern 2 (mConsE (mV (mVar 3)) (mConsE (mV (mVar 6)) mNilE))) (mC .non)) (mVar 6) [6]))
  (mSeq (mIfS (mCmp gNe (mBi gLen (mCons (mVar 4) mNil)) (mOp gIx (mLst (mCons (mC (.int 0)) (mCons (mC (.int 1)) (mCons (mC (.int 2)) (mCons (mC (.int 6)) (mCons (mC (.int 22)) (mCons (mC (.int 90)) mNil))))))) (mVar 2))) (mRet (mC (.bl false))) mSkip)
  (mSeq (mSet 5 (mV (mCall d__law_order 2 (mConsE (mCel 1) (mConsE (mV (mVar 2)) mNilE)))))
  (mSeq (mSet 6 (mV (mCall d__law_pick 2 (mConsE (mCel 1) (mConsE (mV (mVar 4)) mNilE)))))
  (mSeq (mSet 7 (mV (mCall d_slicing_of 2 (mConsE (mV (mBi gTuple (mCons (mLc (mIt (mVar 3)) (.nm 11) mYes (mOp gIx (mUnp (mVar 5)) (mVar 11)) [11]) mNil))) (mConsE (mV (mBi gTuple (mCons (mLc (mIt (mUnp (mVar 6))) (.nm 11) mYes (mOp gIx (mUnp (mVar 5)) (mVar 11)) [11]) mNil))) mNilE)))))
  (mSeq (mIfS (mOrT (mCmp gNe (mBi gSorted (mCons (mLc (mIt (mVar 7)) (.nm 10) (mNotT (mTru (mIsT "str" (mVar 10)))) (mVar 10) [10]) mNil)) (mListRg (mVar 2))) (mNotT (mTru (mCall d__law_is_word 1 (mConsE (mV (mVar 7)) mNilE))))) (mRet (mC (.bl false))) mSkip)
  (mSeq (mSet 8 (mV (mCall d_slicing_of 2 (mConsE (mV (mVar 3)) (mConsE (mV (mUnp (mVar 6))) mNilE)))))
  (mSeq (mSetLc 9 (mLc (mIt (mVar 7)) (.nm 10) (mTru (mIsT "str" (mVar 10))) (mVar 10) [10]))
  (mRet (mAnd (mB (mCmp gIsN (mCall d_pattern 2 (mConsE (mV (mRev (mVar 3))) (mConsE (mV (mRevP (mVar 6))) mNilE))) (mC .non))) (mB (mChain gEq gEq (mBi gLen (mCons (mLc (mIt (mVar 8)) (.nm 10) (mTru (mIsT "str" (mVar 10))) (mVar 10) [10]) mNil)) (mBi gLen (mCons (mVar 9) mNil)) (mOp gSub (mVar 2) (mC (.int 1)))))))))))))))))))
def d_law : Den := denB 12 b_law
theorem ok_law {P : Program} {w : World} {K : PySem.W.Frag} {mg : Str → Option Value} {base : Heap} {a : Addr} {fd : FuncData} (B : Bi mg) (D__law_taken : Dfn P w ⟨K, mg, none⟩ base 3 "_law_taken" 2 d__law_taken) (D__law_all_orders : Dfn P w ⟨K, mg, none⟩ base 3 "_law_all_orders" 1 d__law_all_orders) (D_pattern : Dfn P w ⟨K, mg, none⟩ base 8 "pattern" 2 d_pattern) (D__law_order : Dfn P w ⟨K, mg, none⟩ base 4 "_law_order" 2 d__law_order) (D__law_pick : Dfn P w ⟨K, mg, none⟩ base 4 "_law_pick" 2 d__law_pick) (D_slicing_of : Dfn P w ⟨K, mg, none⟩ base 10 "slicing_of" 2 d_slicing_of) (D__law_is_word : Dfn P w ⟨K, mg, none⟩ base 3 "_law_is_word" 1 d__law_is_word)
    (F : Fun K "law" "law" st_law a fd) (hm : mg "law" = some (.ref a)) (hb : Binds K fd ["script"] []) : FnOk P w K mg base (L2.CX P w) 11 a fd ["script"] (spD ⟨K, mg, none⟩ 1 d_law) := by
  refine fnd_of (k := 10) (N := ["script", "row", "many", "first", "some", "names", "order", "word", "plain", "letters", "token", "at"]) (G := ⟨K, mg, none⟩) F sc_law rfl (by decide) rfl fun cdv A outer s H E hr => ?_
  have hu := hr.units
  have hu5 := units65 hr
  have nd := sc_law.nd
  have tk := takes_of (X := cxOf (L2.CX P w) P w K mg base ["script", "row", "many", "first", "some", "names", "order", "word", "plain", "letters", "token", "at"] "law" (defScope st_law) a cdv A outer s H E) rfl rfl rfl rfl
  have hp := passes_of (X := cxOf (L2.CX P w) P w K mg base ["script", "row", "many", "first", "some", "names", "order", "word", "plain", "letters", "token", "at"] "law" (defScope st_law) a cdv A outer s H E) rfl
  exact (s1 (sset 1 nd (vlst (a1 (xv 0) (a1 xint (a1 xint (a1 xint a0))))))
  (s1 (sset 2 nd (v1 (xop bAdd xint (xcall D__law_taken (hr.mono (by decide)) tk (e1 (vc 1) (e1 (v1 xint) e0))))))
  (s1 (sif (ycmp (cEq hu) (xcall D__law_taken (hr.mono (by decide)) tk (e1 (vc 1) (e1 (v1 xint) e0))) xint) (sl (sset 2 nd (v1 xint))) s0)
  (s1 (sset 3 nd (v1 (xtupRg rfl B.tuple B.range (xv 2))))
  (s1 (ssetLc 4 (own := [("order", 6)]) (t := (.nm 6)) rfl nd (i1 (xcall D__law_all_orders (hr.mono (by decide)) tk (e1 (v1 (xv 2)) e0))) (by show BlkOk ["script", "row", "many", "first", "some", "names", "order", "word", "plain", "letters", "token", "at"] (defScope st_law) _ _; exact blkOk_by (by decide +kernel)) (fun _ _ _ _ _ => (q1 nd)) (fun _ _ _ _ _ => (t1 (ycmp cIs (xcall D_pattern (hr.mono (by decide)) L2.takes0 (e1 (v1 (xv 3)) (e1 (v1 (xv 6)) e0))) xnon))) (fun _ _ _ _ _ => (xv 6)))
  (s1 (sif (ycmp (cNe hu) (xbi biLen B.len DL.boot_len (a1 (xv 4) a0)) (xix (xlst (a1 xint (a1 xint (a1 xint (a1 xint (a1 xint (a1 xint a0))))))) (xv 2))) (sl (sret xbl)) s0)
  (s1 (sset 5 nd (v1 (xcall D__law_order (hr.mono (by decide)) tk (e1 (vc 1) (e1 (v1 (xv 2)) e0)))))
  (s1 (sset 6 nd (v1 (xcall D__law_pick (hr.mono (by decide)) tk (e1 (vc 1) (e1 (v1 (xv 4)) e0)))))
  (s1 (sset 7 nd (v1 (xcall D_slicing_of (hr.mono (by decide)) tk (e1 (v1 (xbt biTuple B.tuple DL.boot_tuple (a1 (xlc (own := [("at", 11)]) (t := (.nm 11)) rfl nd (i1 (xv 3)) (by show BlkOk ["script", "row", "many", "first", "some", "names", "order", "word", "plain", "letters", "token", "at"] (defScope st_law) _ _; exact blkOk_by (by decide +kernel)) (fun _ _ _ _ _ => (q1 nd)) (fun _ _ _ _ _ => t0) (fun _ _ _ _ _ => (xix (xunp (xv 5)) (xv 11)))) a0))) (e1 (v1 (xbt biTuple B.tuple DL.boot_tuple (a1 (xlc (own := [("at", 11)]) (t := (.nm 11)) rfl nd (i1 (xunp (xv 6))) (by show BlkOk ["script", "row", "many", "first", "some", "names", "order", "word", "plain", "letters", "token", "at"] (defScope st_law) _ _; exact blkOk_by (by decide +kernel)) (fun _ _ _ _ _ => (q1 nd)) (fun _ _ _ _ _ => t0) (fun _ _ _ _ _ => (xix (xunp (xv 5)) (xv 11)))) a0))) e0)))))
  (s1 (sif (PW.pt (wor (ycmp (cNe hu) (xbi biSorted B.sorted DL.boot_sorted (a1 (xlc (own := [("token", 10)]) (t := (.nm 10)) rfl nd (i1 (xv 7)) (by show BlkOk ["script", "row", "many", "first", "some", "names", "order", "word", "plain", "letters", "token", "at"] (defScope st_law) _ _; exact blkOk_by (by decide +kernel)) (fun _ _ _ _ _ => (q1 nd)) (fun _ _ _ _ _ => (t1 (ynot (ytru (xisT B.isinstance B.str DL.boot_str (xv 10)))))) (fun _ _ _ _ _ => (xv 10))) a0)) (xlistRg rfl B.list B.range (xv 2))) (wor1 (ynot (ytru (xcall D__law_is_word (hr.mono (by decide)) tk (e1 (v1 (xv 7)) e0))))))) (sl (sret xbl)) s0)
  (s1 (sset 8 nd (v1 (xcall D_slicing_of (hr.mono (by decide)) tk (e1 (v1 (xv 3)) (e1 (v1 (xunp (xv 6))) e0)))))
  (s1 (ssetLc 9 (own := [("token", 10)]) (t := (.nm 10)) rfl nd (i1 (xv 7)) (by show BlkOk ["script", "row", "many", "first", "some", "names", "order", "word", "plain", "letters", "token", "at"] (defScope st_law) _ _; exact blkOk_by (by decide +kernel)) (fun _ _ _ _ _ => (q1 nd)) (fun _ _ _ _ _ => (t1 (ytru (xisT B.isinstance B.str DL.boot_str (xv 10))))) (fun _ _ _ _ _ => (xv 10)))
  (sl (sret (xand (xcmp cIs (xcall D_pattern (hr.mono (by decide)) tk (e1 (v1 (xrev (xv 3))) (e1 (v1 (xrevP (xv 6))) e0))) xnon) (xone (xchain (cEq hu) (cEq hu) (xbi biLen B.len DL.boot_len (a1 (xlc (own := [("token", 10)]) (t := (.nm 10)) rfl nd (i1 (xv 8)) (by show BlkOk ["script", "row", "many", "first", "some", "names", "order", "word", "plain", "letters", "token", "at"] (defScope st_law) _ _; exact blkOk_by (by decide +kernel)) (fun _ _ _ _ _ => (q1 nd)) (fun _ _ _ _ _ => (t1 (ytru (xisT B.isinstance B.str DL.boot_str (xv 10))))) (fun _ _ _ _ _ => (xv 10))) a0)) (xbi biLen B.len DL.boot_len (a1 (xv 9) a0)) (xop bSub (xv 2) xint))))))))))))))))))

end Pr

/-! all orders of up to five, which of them have a pattern: by running the program -/
namespace Pr
open PySem L2 DL
def ppN (x : List Nat) : D := .ptp (x.map nI)
def isN (d : D) (n : Nat) : Bool := match d with
  | .int i => decide (i = (n : Int))
  | _ => false
theorem isN_eq {d : D} {n : Nat} (h : isN d n = true) : d = nI n := by
  cases d with
  | int i => have : i = (n : Int) := of_decide_eq_true h; rw [this]; rfl
  | _ => cases h
def isNs : List D → List Nat → Bool
  | [], [] => true
  | d :: ds, n :: ns => isN d n && isNs ds ns
  | _, _ => false
theorem isNs_eq : ∀ {ds : List D} {ns : List Nat}, isNs ds ns = true → ds = ns.map nI
  | [], [], _ => rfl
  | d :: ds, n :: ns, h => by
    unfold isNs at h
    rw [Bool.and_eq_true] at h
    rw [isN_eq h.1, isNs_eq h.2]
    rfl
  | [], _ :: _, h => by cases h
  | _ :: _, [], h => by cases h
def isP (d : D) (n : List Nat) : Bool := match d with
  | .ptp ds => isNs ds n
  | _ => false
theorem isP_eq {d : D} {n : List Nat} (h : isP d n = true) : d = ppN n := by
  cases d with
  | ptp ds => rw [show ds = n.map nI from isNs_eq h]; rfl
  | _ => cases h
def isPs : List D → List (List Nat) → Bool
  | [], [] => true
  | d :: ds, n :: ns => isP d n && isPs ds ns
  | _, _ => false
theorem isPs_eq : ∀ {ds : List D} {ns : List (List Nat)}, isPs ds ns = true → ds = ns.map ppN
  | [], [], _ => rfl
  | d :: ds, n :: ns, h => by
    unfold isPs at h
    rw [Bool.and_eq_true] at h
    rw [isP_eq h.1, isPs_eq h.2]
    rfl
  | [], _ :: _, h => by cases h
  | _ :: _, [], h => by cases h
/-- all orders -/
def aos (m : Nat) : Nat → List (List Nat)
  | 0 => [[]]
  | k + 1 => (aos m k).flatMap fun x => ((List.range m).filter fun a => !x.contains a).map fun a => x ++ [a]
def isAll (m : Nat) : Bool := match d__law_all_orders [.v (nI m)] [] with
  | .ok (.lst ds) [] => isPs ds (aos m m)
  | _ => false
theorem all1 : isAll 1 = true := by decide +kernel
theorem all2 : isAll 2 = true := by decide +kernel
theorem all3 : isAll 3 = true := by decide +kernel
theorem all4 : isAll 4 = true := by decide +kernel
theorem all5 : isAll 5 = true := by decide +kernel
end Pr

/-! the words of two orders -/
noncomputable section
namespace Pr
open PySem L2 DL Cm
def tN (a : List Nat) : D := .tup (a.map nI)
def same (a b : List Nat) : Bool := decide (sortI (a.map fun n : Nat => (n : Int)) = sortI (b.map fun n : Nat => (n : Int)))
def jn (x y : Option (List Tk)) (h : Bool) : Option (List Tk) := match x, y with
  | some u, some v => some (u ++ v ++ [.l h])
  | _, _ => none
def cuts (rec : List Nat → List Nat → Option (List Tk)) (a b : List Nat) : List Nat → Option (List Tk)
  | [] => none
  | k :: ks => if same (a.take k) (b.take k) = true then jn (rec (a.take k) (b.take k)) (rec (a.drop k) (b.drop k)) false
    else if same (a.take k) (b.drop (a.length - k)) = true then jn (rec (a.drop k) (b.take (a.length - k))) (rec (a.take k) (b.drop (a.length - k))) true
    else cuts rec a b ks
def wo : Nat → List Nat → List Nat → Option (List Tk)
  | 0, _, _ => none
  | f + 1, a, b => if a.length = 1 then some (a.map Tk.b) else cuts (wo f) a b (List.range' 1 (a.length - 1))
def oD : Option (List Tk) → D
  | none => .non
  | some w => wd w
theorem intsOf_nI (L : List Nat) : intsOf (L.map nI) = some (L.map fun n : Nat => (n : Int)) := by
  have : L.map nI = (L.map fun n : Nat => (n : Int)).map D.int := by rw [List.map_map]; rfl
  rw [this]
  exact intsOf_map _
theorem same_spec {a b : List Nat} (ha : a.length ≤ 100) (hb : b.length ≤ 100) : d_have_same_blocks [.v (tN a), .v (tN b)] [] = .ok (.bl (same a b)) [] := by
  let ρ : DL.Env := [vv (tN a), vv (tN b)]
  refine denB_rt (ρ1 := ρ) (S1 := []) ?_
  show b_have_same_blocks ρ [] = _
  unfold b_have_same_blocks
  have s : ∀ (i : Nat) (c : List Nat), mVar i ρ [] = .ok (tN c) [] → mBi gSortedT (mCons (mVar i) mNil) ρ [] = .ok (.lst ((sortI (c.map fun n : Nat => (n : Int))).map D.int)) [] := fun i c h => by
    rw [ev_Bi, ev_Cons, h, ev_bind_ok, ev_Nil]
    show lift ((intsOf (c.map nI)).map fun is => D.lst ((sortI is).map D.int)) _ = _
    rw [intsOf_nI]
    rfl
  have sm : ∀ l : List Int, Sm 1 (.lst (l.map D.int)) := fun l => .lst 0 _ fun d hd => by
    obtain ⟨i, _, rfl⟩ := List.mem_map.mp hd
    exact .int 0 _
  rw [ev_Ret, ev_B, cmp_ok (s 0 a rfl) (s 1 b rfl) (gEq_sm (b := same a b) (sm _) (sm _) (by decide) (by decide) (by
    unfold same
    rw [decide_eq_true_eq]
    constructor
    · intro h; rw [h]
    · intro h
      have h : (sortI (a.map fun n : Nat => (n : Int))).map D.int = (sortI (b.map fun n : Nat => (n : Int))).map D.int := by injection h
      exact map_inj_on h fun x _ y _ e => by injection e))]
  rfl
theorem add_tup {xs ys : List D} (h : xs.length + ys.length ≤ 1000) : gAdd (.tup xs) (.tup ys) = some (.tup (xs ++ ys)) := g_addT (by rw [lim_is]; omega)
theorem isN_o (x : Option (List Tk)) : gIsN (oD x) .non = some x.isNone := by
  cases x with
  | none => rfl
  | some w => rfl
theorem joined_spec {x y : Option (List Tk)} {h : Bool} (hx : ∀ u, x = some u → u.length ≤ 100) (hy : ∀ u, y = some u → u.length ≤ 100) : d_joined [.v (oD x), .v (oD y), .v (Tk.l h).d] [] = .ok (oD (jn x y h)) [] := by
  let ρ : DL.Env := [vv (oD x), vv (oD y), vv (Tk.l h).d]
  refine denB_rt (ρ1 := ρ) (S1 := []) ?_
  show b_joined ρ [] = _
  unfold b_joined
  have c0 : mCmp gIsN (mVar 0) (mC .non) ρ [] = .ok x.isNone [] := cmp_ok (x := oD x) (y := .non) rfl rfl (isN_o x)
  have c1 : mCmp gIsN (mVar 1) (mC .non) ρ [] = .ok y.isNone [] := cmp_ok (x := oD y) (y := .non) rfl rfl (isN_o y)
  have stop : mOrT (mCmp gIsN (mVar 0) (mC .non)) (mCmp gIsN (mVar 1) (mC .non)) ρ [] = .ok true [] → oD (jn x y h) = .non → mSeq (mIfS (mOrT (mCmp gIsN (mVar 0) (mC .non)) (mCmp gIsN (mVar 1) (mC .non))) (mRet (mC .non)) mSkip) (mRet (mOp gAdd (mOp gAdd (mVar 0) (mVar 1)) (mTup (mCons (mVar 2) mNil)))) ρ [] = .ok (.rt (oD (jn x y h)), ρ) [] := fun e1 e2 => by
    rw [e2, ev_Seq, if_go e1]
    rfl
  cases x with
  | none => exact stop (or_yes c0) rfl
  | some u =>
    cases y with
    | none => exact stop (by rw [or_go c0]; exact c1) rfl
    | some v =>
      refine (seq_nx (ρ1 := ρ) (S1 := []) (if_skip (by rw [or_go c0]; exact c1))).trans ?_
      have l1 := hx u rfl
      have l2 := hy v rfl
      rw [ev_Ret, opI (x := wd (u ++ v)) (y := .tup [(Tk.l h).d]) (z := wd (u ++ v ++ [Tk.l h])) (opI (x := wd u) (y := wd v) rfl rfl (by
        show gAdd (.tup (u.map Tk.d)) (.tup (v.map Tk.d)) = some (.tup ((u ++ v).map Tk.d))
        rw [add_tup (by simp; omega), List.map_append])) rfl (by
        show gAdd (.tup ((u ++ v).map Tk.d)) (.tup [(Tk.l h).d]) = some (.tup ((u ++ v ++ [Tk.l h]).map Tk.d))
        rw [add_tup (by simp; omega), List.map_append (l₁ := u ++ v)]
        rfl)]
      rfl
theorem cuts_len {rec : List Nat → List Nat → Option (List Tk)} {a b : List Nat} {n : Nat} (h : ∀ x y u, rec x y = some u → u.length + 1 ≤ 2 * x.length) : ∀ ks u, (∀ k ∈ ks, 1 ≤ k ∧ k < a.length) → cuts rec a b ks = some u → u.length + 1 ≤ 2 * a.length
  | [], u, _, e => by cases e
  | k :: ks, u, hk, e => by
    obtain ⟨k1, k2⟩ := hk k List.mem_cons_self
    unfold cuts at e
    have jl : ∀ (p q p' q' : List Nat) (l : Bool), p.length + p'.length = a.length → jn (rec p q) (rec p' q') l = some u → u.length + 1 ≤ 2 * a.length := fun p q p' q' l hp e => by
      unfold jn at e
      cases e1 : rec p q with
      | none => rw [e1] at e; cases e
      | some u1 =>
        cases e2 : rec p' q' with
        | none => rw [e1, e2] at e; cases e
        | some u2 =>
          rw [e1, e2] at e
          have e : u1 ++ u2 ++ [.l l] = u := Option.some.inj e
          have := h _ _ _ e1
          have := h _ _ _ e2
          rw [← e]
          simp
          omega
    split at e
    · exact jl _ _ _ _ _ (by simp; omega) e
    · split at e
      · exact jl _ _ _ _ _ (by simp; omega) e
      · exact cuts_len (n := n) h ks u (fun k hk' => hk k (List.mem_cons_of_mem _ hk')) e
theorem wo_len : ∀ (f : Nat) (a b : List Nat) (u : List Tk), wo f a b = some u → u.length + 1 ≤ 2 * a.length
  | 0, a, b, u, e => by cases e
  | f + 1, a, b, u, e => by
    unfold wo at e
    split at e
    · rename_i h
      have e : a.map Tk.b = u := Option.some.inj e
      rw [← e, List.length_map]
      omega
    · exact cuts_len (n := 0) (wo_len f) _ u (fun k hk => by
        have := List.mem_range'_1.mp hk
        omega) e
end Pr
end

/-! the program finds them -/
noncomputable section
namespace Pr
open PySem L2 DL Cm
section
variable (rec : Den)
def ob0 : DSn := (mSet 3 (mV (mOp gSub (mBi gLen (mCons (mVar 0) mNil)) (mVar 2))))
def ob1 : DSn := (mIfS (mTru (mCall d_have_same_blocks 2 (mConsE (mV (mSl (mVar 0) mNoPart (mPart (mVar 2)))) (mConsE (mV (mSl (mVar 1) mNoPart (mPart (mVar 2)))) mNilE)))) (mRet (mCall d_joined 3 (mConsE (mV (mCall rec 2 (mConsE (mV (mSl (mVar 0) mNoPart (mPart (mVar 2)))) (mConsE (mV (mSl (mVar 1) mNoPart (mPart (mVar 2)))) mNilE)))) (mConsE (mV (mCall rec 2 (mConsE (mV (mSl (mVar 0) (mPart (mVar 2)) mNoPart)) (mConsE (mV (mSl (mVar 1) (mPart (mVar 2)) mNoPart)) mNilE)))) (mConsE (mV (mC (.str "V"))) mNilE))))) mSkip)
def ob2 : DSn := (mIfS (mTru (mCall d_have_same_blocks 2 (mConsE (mV (mSl (mVar 0) mNoPart (mPart (mVar 2)))) (mConsE (mV (mSl (mVar 1) (mPart (mVar 3)) mNoPart)) mNilE)))) (mRet (mCall d_joined 3 (mConsE (mV (mCall rec 2 (mConsE (mV (mSl (mVar 0) (mPart (mVar 2)) mNoPart)) (mConsE (mV (mSl (mVar 1) mNoPart (mPart (mVar 3)))) mNilE)))) (mConsE (mV (mCall rec 2 (mConsE (mV (mSl (mVar 0) mNoPart (mPart (mVar 2)))) (mConsE (mV (mSl (mVar 1) (mPart (mVar 3)) mNoPart)) mNilE)))) (mConsE (mV (mC (.str "H"))) mNilE))))) mSkip)
def obb : DSn := mSeq ob0 (mSeq (ob1 rec) (ob2 rec))
theorem o_all : b_word_of_orders rec = mSeq (mIfS (mCmp gEq (mBi gLen (mCons (mVar 0) mNil)) (mC (.int 1))) (mRet (mVar 0)) mSkip) (mSeq (mFor (mRg2 (mC (.int 1)) (mBi gLen (mCons (mVar 0) mNil))) (.nm 2) (obb rec)) (mRet (mC .non))) := rfl
end
section
variable {a b : List Nat} {rec : Den} {n : Nat}
def eO (a b : List Nat) (x2 x3 : Option EV) : DL.Env := [vv (tN a), vv (tN b), x2, x3]
theorem sl_to {i j k : Nat} {c : List Nat} {ρ : DL.Env} (hi : mVar i ρ [] = .ok (tN c) []) (hj : mVar j ρ [] = .ok (nI k) []) (hk : k ≤ c.length) : mSl (mVar i) mNoPart (mPart (mVar j)) ρ [] = .ok (tN (c.take k)) [] := by
  unfold mSl
  rw [hi, ev_bind_ok, ev_NoPart, ev_bind_ok, ev_Part, hj]
  show Out.ok (D.tup (cutD (c.map nI) none (some (k : Int)))) [] = _
  rw [wcut_to (by rw [List.length_map]; exact hk), ← List.map_take]
  rfl
theorem sl_from {i j k : Nat} {c : List Nat} {ρ : DL.Env} (hi : mVar i ρ [] = .ok (tN c) []) (hj : mVar j ρ [] = .ok (nI k) []) (hk : k ≤ c.length) : mSl (mVar i) (mPart (mVar j)) mNoPart ρ [] = .ok (tN (c.drop k)) [] := by
  unfold mSl
  rw [hi, ev_bind_ok, ev_Part, hj]
  show Out.ok (D.tup (cutD (c.map nI) (some (k : Int)) none)) [] = _
  rw [wcut_from (by rw [List.length_map]; exact hk), ← List.map_drop]
  rfl
def Rec (rec : Den) (n : Nat) : Prop := ∀ a b : List Nat, a.length = b.length → 1 ≤ a.length → a.length ≤ n → a.length ≤ 8 → rec [.v (tN a), .v (tN b)] [] = .ok (oD (wo n a b)) []
theorem len_o {i : Nat} {c : List Nat} {ρ : DL.Env} (hi : mVar i ρ [] = .ok (tN c) []) : mBi gLen (mCons (mVar i) mNil) ρ [] = .ok (nI c.length) [] := by
  rw [ev_Bi, ev_Cons, hi, ev_bind_ok, ev_Nil]
  show lift (gLen [.tup (c.map nI)]) _ = _
  rw [gLen_t, List.length_map]
  rfl
theorem loop_o (H : Rec rec n) (hab : a.length = b.length) (hn : a.length ≤ n + 1) (h8 : a.length ≤ 8) : ∀ (ks : List Nat) (x2 x3 : Option EV), (∀ k ∈ ks, 1 ≤ k ∧ k < a.length) → (∃ ρ', forL (.nm 2) (obb rec) (ks.map nI) (eO a b x2 x3) [] = .ok (.rt (oD (cuts (wo n) a b ks)), ρ') []) ∨ (∃ ρ', forL (.nm 2) (obb rec) (ks.map nI) (eO a b x2 x3) [] = .ok (.nx, ρ') [] ∧ cuts (wo n) a b ks = none)
  | [], x2, x3, _ => .inr ⟨_, rfl, rfl⟩
  | k :: ks, x2, x3, hk => by
    obtain ⟨k1, k2⟩ := hk k List.mem_cons_self
    obtain ⟨ρ1, g1⟩ : ∃ ρ1, ρ1 = eO a b (vv (nI k)) (vv (nI (a.length - k))) := ⟨_, rfl⟩
    have e0 : ob0 (eO a b (vv (nI k)) x3) [] = .ok (.nx, ρ1) [] := by
      unfold ob0
      refine (st_set (opI (x := nI a.length) (y := nI k) (z := nI (a.length - k)) (len_o rfl) rfl ?_)).trans (by subst g1; rfl)
      show some (D.int ((a.length : Int) - (k : Int))) = some (D.int ((a.length - k : Nat) : Int))
      congr 2
      omega
    have v0 : mVar 0 ρ1 [] = .ok (tN a) [] := by subst g1; rfl
    have v1 : mVar 1 ρ1 [] = .ok (tN b) [] := by subst g1; rfl
    have v2 : mVar 2 ρ1 [] = .ok (nI k) [] := by subst g1; rfl
    have v3 : mVar 3 ρ1 [] = .ok (nI (a.length - k)) [] := by subst g1; rfl
    have A1 := sl_to v0 v2 (by omega)
    have A2 := sl_from v0 v2 (by omega)
    have B1 := sl_to v1 v2 (by omega)
    have B2 := sl_from v1 v2 (by omega)
    have B3 := sl_to v1 v3 (by omega)
    have B4 := sl_from v1 v3 (by omega)
    have wl : ∀ (x y : List Nat), x.length ≤ 8 → ∀ u, wo n x y = some u → u.length ≤ 100 := fun x y hx u e => by
      have := wo_len n x y u e
      omega
    have t1 : mTru (mCall d_have_same_blocks 2 (mConsE (mV (mSl (mVar 0) mNoPart (mPart (mVar 2)))) (mConsE (mV (mSl (mVar 1) mNoPart (mPart (mVar 2)))) mNilE))) ρ1 [] = .ok (same (a.take k) (b.take k)) [] := tru_of (cl2 A1 B1 (same_spec (by simp; omega) (by simp; omega)))
    have t2 : mTru (mCall d_have_same_blocks 2 (mConsE (mV (mSl (mVar 0) mNoPart (mPart (mVar 2)))) (mConsE (mV (mSl (mVar 1) (mPart (mVar 3)) mNoPart)) mNilE))) ρ1 [] = .ok (same (a.take k) (b.drop (a.length - k))) [] := tru_of (cl2 A1 B4 (same_spec (by simp; omega) (by simp; omega)))
    have r1 : mCall d_joined 3 (mConsE (mV (mCall rec 2 (mConsE (mV (mSl (mVar 0) mNoPart (mPart (mVar 2)))) (mConsE (mV (mSl (mVar 1) mNoPart (mPart (mVar 2)))) mNilE)))) (mConsE (mV (mCall rec 2 (mConsE (mV (mSl (mVar 0) (mPart (mVar 2)) mNoPart)) (mConsE (mV (mSl (mVar 1) (mPart (mVar 2)) mNoPart)) mNilE)))) (mConsE (mV (mC (.str "V"))) mNilE))) ρ1 [] = .ok (oD (jn (wo n (a.take k) (b.take k)) (wo n (a.drop k) (b.drop k)) false)) [] := cl3 (z := (Tk.l false).d) (cl2 A1 B1 (H _ _ (by simp; omega) (by simp; omega) (by simp; omega) (by simp; omega))) (cl2 A2 B2 (H _ _ (by simp; omega) (by simp; omega) (by simp; omega) (by simp; omega))) rfl (joined_spec (wl _ _ (by simp; omega)) (wl _ _ (by simp; omega)))
    have r2 : mCall d_joined 3 (mConsE (mV (mCall rec 2 (mConsE (mV (mSl (mVar 0) (mPart (mVar 2)) mNoPart)) (mConsE (mV (mSl (mVar 1) mNoPart (mPart (mVar 3)))) mNilE)))) (mConsE (mV (mCall rec 2 (mConsE (mV (mSl (mVar 0) mNoPart (mPart (mVar 2)))) (mConsE (mV (mSl (mVar 1) (mPart (mVar 3)) mNoPart)) mNilE)))) (mConsE (mV (mC (.str "H"))) mNilE))) ρ1 [] = .ok (oD (jn (wo n (a.drop k) (b.take (a.length - k))) (wo n (a.take k) (b.drop (a.length - k))) true)) [] := cl3 (z := (Tk.l true).d) (cl2 A2 B3 (H _ _ (by simp; omega) (by simp; omega) (by simp; omega) (by simp; omega))) (cl2 A1 B4 (H _ _ (by simp; omega) (by simp; omega) (by simp; omega) (by simp; omega))) rfl (joined_spec (wl _ _ (by simp; omega)) (wl _ _ (by simp; omega)))
    have step : ∀ r, obb rec (eO a b (vv (nI k)) x3) [] = r → forL (.nm 2) (obb rec) ((k :: ks).map nI) (eO a b x2 x3) [] = (match r with
        | .ok (.nx, ρ2) S2 => forL (.nm 2) (obb rec) (ks.map nI) ρ2 S2
        | r => forL (.nm 2) (obb rec) ((k :: ks).map nI) (eO a b x2 x3) []) := fun r e => by
      subst e
      rw [List.map_cons]
      cases hq : obb rec (eO a b (vv (nI k)) x3) [] with
      | ok p S2 =>
        obtain ⟨c, ρ2⟩ := p
        cases c with
        | nx =>
          conv => lhs; unfold forL
          rw [show asg (.nm 2) (nI k) (eO a b x2 x3) = some (eO a b (vv (nI k)) x3) from rfl]
          dsimp only
          rw [hq]
        | _ => rfl
      | _ => rfl
    have ret : ∀ v ρ', obb rec (eO a b (vv (nI k)) x3) [] = .ok (.rt v, ρ') [] → ∃ ρ', forL (.nm 2) (obb rec) ((k :: ks).map nI) (eO a b x2 x3) [] = .ok (.rt v, ρ') [] := fun v ρ' e => by
      refine ⟨ρ', ?_⟩
      rw [List.map_cons]
      unfold forL
      rw [show asg (.nm 2) (nI k) (eO a b x2 x3) = some (eO a b (vv (nI k)) x3) from rfl]
      dsimp only
      rw [e]
    by_cases s1 : same (a.take k) (b.take k) = true
    · have ec : cuts (wo n) a b (k :: ks) = jn (wo n (a.take k) (b.take k)) (wo n (a.drop k) (b.drop k)) false := by
        conv => lhs; unfold cuts
        rw [if_pos s1]
      rw [ec]
      refine .inl (ret _ ρ1 ?_)
      unfold obb
      refine (seq_nx e0).trans ?_
      rw [ev_Seq]
      unfold ob1
      rw [if_go (by rw [t1, s1]), ev_Ret, r1]
      rfl
    · have s1f : same (a.take k) (b.take k) = false := by simpa using s1
      have skip1 : ob1 rec ρ1 [] = .ok (.nx, ρ1) [] := by
        unfold ob1
        exact if_skip (by rw [t1, s1f])
      by_cases s2 : same (a.take k) (b.drop (a.length - k)) = true
      · have ec : cuts (wo n) a b (k :: ks) = jn (wo n (a.drop k) (b.take (a.length - k))) (wo n (a.take k) (b.drop (a.length - k))) true := by
          conv => lhs; unfold cuts
          rw [if_neg s1, if_pos s2]
        rw [ec]
        refine .inl (ret _ ρ1 ?_)
        unfold obb
        refine (seq_nx e0).trans ((seq_nx skip1).trans ?_)
        unfold ob2
        rw [if_go (by rw [t2, s2]), ev_Ret, r2]
        rfl
      · have s2f : same (a.take k) (b.drop (a.length - k)) = false := by simpa using s2
        have ec : cuts (wo n) a b (k :: ks) = cuts (wo n) a b ks := by
          conv => lhs; unfold cuts
          rw [if_neg s1, if_neg s2]
        rw [ec]
        have eb : obb rec (eO a b (vv (nI k)) x3) [] = .ok (.nx, ρ1) [] := by
          unfold obb
          refine (seq_nx e0).trans ((seq_nx skip1).trans ?_)
          unfold ob2
          exact if_skip (by rw [t2, s2f])
        have st := step _ eb
        rw [st, g1]
        exact loop_o H hab hn h8 ks _ _ fun k hk' => hk k (List.mem_cons_of_mem _ hk')
theorem words_spec : ∀ n, Rec (d_word_of_orders n) n
  | 0, a, b, _, h1, h0, _ => by omega
  | n + 1, a, b, hab, h1, hn, h8 => by
    obtain ⟨ρ0, g0⟩ : ∃ ρ0, ρ0 = eO a b none none := ⟨_, rfl⟩
    have v0 : mVar 0 ρ0 [] = .ok (tN a) [] := by subst g0; rfl
    have c1 : mCmp gEq (mBi gLen (mCons (mVar 0) mNil)) (mC (.int 1)) ρ0 [] = .ok (decide (a.length = 1)) [] := cmp_ok (len_o v0) (y := nI 1) rfl (gEq_sm (n := 0) (m := 0) (sm_nI _) (sm_nI _) (by decide) (by decide) (by
      rw [decide_eq_true_eq]
      exact ⟨fun h => by rw [h], fun h => nI_inj _ _ h⟩))
    show denB 4 (b_word_of_orders (d_word_of_orders n)) [.v (tN a), .v (tN b)] [] = _
    have key : ∃ ρ', b_word_of_orders (d_word_of_orders n) ρ0 [] = .ok (.rt (oD (wo (n + 1) a b)), ρ') [] := by
      rw [o_all]
      unfold wo
      by_cases h : a.length = 1
      · rw [decide_eq_true h] at c1
        rw [if_pos h, ev_Seq, if_go c1]
        refine ⟨ρ0, ?_⟩
        rw [ev_Ret, v0]
        show Out.ok (Ctl.rt (D.tup (a.map nI)), ρ0) [] = Out.ok (Ctl.rt (D.tup ((a.map Tk.b).map Tk.d)), ρ0) []
        rw [List.map_map]
        rfl
      · rw [decide_eq_false h] at c1
        rw [if_neg h]
        have er : mRg2 (mC (.int 1)) (mBi gLen (mCons (mVar 0) mNil)) ρ0 [] = .ok ((List.range' 1 (a.length - 1)).map nI) [] := by
          unfold mRg2
          rw [show mC (.int 1) ρ0 [] = .ok (.int 1) [] from rfl, ev_bind_ok, len_o v0, ev_bind_ok]
          show (if _ then Out.ok (rgD 1 (a.length : Int)) [] else .bad) = _
          rw [if_pos ⟨⟨by omega, by omega⟩, by omega, by omega⟩]
          congr 1
          unfold rgD
          match a, h1, h8 with
          | [_], _, _ => rfl
          | [_, _], _, _ => rfl
          | [_, _, _], _, _ => rfl
          | [_, _, _, _], _, _ => rfl
          | [_, _, _, _, _], _, _ => rfl
          | [_, _, _, _, _, _], _, _ => rfl
          | [_, _, _, _, _, _, _], _, _ => rfl
          | [_, _, _, _, _, _, _, _], _, _ => rfl
        have lp := loop_o (words_spec n) hab hn h8 (List.range' 1 (a.length - 1)) none none fun k hk => by
          have := List.mem_range'_1.mp hk
          omega
        have sk := seq_nx (f := mIfS (mCmp gEq (mBi gLen (mCons (mVar 0) mNil)) (mC (.int 1))) (mRet (mVar 0)) mSkip) (g := mSeq (mFor (mRg2 (mC (.int 1)) (mBi gLen (mCons (mVar 0) mNil))) (.nm 2) (obb (d_word_of_orders n))) (mRet (mC .non))) (ρ := ρ0) (S := []) (ρ1 := ρ0) (S1 := []) (if_skip c1)
        rw [sk]
        rw [← g0] at lp
        have ef : mFor (mRg2 (mC (.int 1)) (mBi gLen (mCons (mVar 0) mNil))) (.nm 2) (obb (d_word_of_orders n)) ρ0 [] = forL (.nm 2) (obb (d_word_of_orders n)) ((List.range' 1 (a.length - 1)).map nI) ρ0 [] := by
          rw [ev_For, er]
          rfl
        rcases lp with ⟨ρ', e⟩ | ⟨ρ', e, en⟩
        · exact ⟨ρ', by rw [ev_Seq, ef, e]⟩
        · exact ⟨ρ', by rw [ev_Seq, ef, e, en]; rfl⟩
    obtain ⟨ρ', e⟩ := key
    exact denB_rt (ρ1 := ρ') (S1 := []) (by rw [g0] at e; exact e)
end
end Pr
end

noncomputable section
namespace Pr
open PySem L2 DL Cm
def _root_.DL.Tk.isL : Tk → Bool
  | .b _ => false
  | .l _ => true
theorem isS {i : Nat} {ρ : DL.Env} {S : Store} {t : Tk} (h : mVar i ρ S = .ok t.d S) : mTru (mIsT "str" (mVar i)) ρ S = .ok t.isL S := by
  refine tru_of ?_
  unfold mIsT
  rw [h]
  cases t with
  | b n => rfl
  | l b => cases b <;> rfl
def ordD (L : List Nat) : D := .tup (L.map nI)
theorem is_integer_int (i : Int) : d_is_integer [.v (.int i)] [] = .ok (.bl true) [] := rfl
theorem is_between_int (i lo hi : Int) : d_is_between [.v (.int i), .v (.int lo), .v (.int hi)] [] = .ok (.bl (decide (lo ≤ i) && decide (i ≤ hi))) [] := by
  have e := call1 (S := []) (is_integer_int i)
  refine denB_rt (ρ1 := [some (.v (.int i)), some (.v (.int lo)), some (.v (.int hi))]) (S1 := []) ?_
  by_cases h : lo ≤ i <;> simp [b_is_between, e, h]
theorem is_tuple_of_tup (ds : List D) (a b : Int) : d_is_tuple_of [.v (.tup ds), .v (.int a), .v (.int b)] [] = .ok (.bl (decide (a ≤ ds.length) && decide ((ds.length : Int) ≤ b))) [] := by
  refine denB_rt (ρ1 := [some (.v (.tup ds)), some (.v (.int a)), some (.v (.int b))]) (S1 := []) ?_
  by_cases h : a ≤ (ds.length : Int) <;> simp [b_is_tuple_of, h]
theorem bools_true : ∀ n : Nat, bools (List.replicate n (.bl true)) = some (List.replicate n true)
  | 0 => rfl
  | n + 1 => by rw [List.replicate_succ, List.replicate_succ]; show (bools (List.replicate n (.bl true))).map _ = _; rw [bools_true n]; rfl
theorem gAll_true {α : Type} (l : List α) : gAll [.lst (l.map fun _ => D.bl true)] = some (.bl true) := by
  show (bools (l.map fun _ => D.bl true)).map _ = _
  rw [List.map_const', bools_true]
  simp
structure Ordr (m : Nat) (L : List Nat) : Prop where
  perm : L.Perm (List.range m)
theorem Ordr.len {m : Nat} {L : List Nat} (h : Ordr m L) : L.length = m := by rw [h.perm.length_eq, List.length_range]
theorem Ordr.nd {m : Nat} {L : List Nat} (h : Ordr m L) : L.Nodup := h.perm.nodup_iff.mpr List.nodup_range
theorem Ordr.lt {m : Nat} {L : List Nat} (h : Ordr m L) : ∀ x ∈ L, x < m := fun x hx => List.mem_range.mp (h.perm.mem_iff.mp hx)
theorem lenSet_nI {L : List Nat} {i : Nat} {ρ : DL.Env} {S : Store} (h : ρ[i]? = some (vv (ordD L))) (hl : L.length < 64) : mLenSet (mVar i) ρ S = .ok (.int ((distI (L.map fun n : Nat => (n : Int))).length : Int)) S := by
  unfold mLenSet
  rw [ev_var h, ev_bind_ok]
  show lift (match intsOf (L.map nI) with
    | some is => if is.length < 64 then some (D.int ((distI is).length : Int)) else none
    | none => none) S = _
  rw [intsOf_nI]
  dsimp only
  rw [if_pos (by simpa using hl)]
  rfl
theorem is_order_nI {L : List Nat} {m : Nat} (hl : L.length = m) (h64 : m < 64) (hlt : ∀ x ∈ L, x < m) : d_is_order [.v (ordD L), .v (nI m)] [] = .ok (.bl (((distI (L.map fun n : Nat => (n : Int))).length : Int) == (m : Int))) [] := by
  let ρ : DL.Env := [vv (ordD L), vv (nI m), none]
  refine denB_rt (ρ1 := ρ) (S1 := []) ?_
  show b_is_order ρ [] = _
  unfold b_is_order
  refine (seq_nx (ρ1 := ρ) (S1 := []) ?_).trans ?_
  · have t := is_tuple_of_tup (L.map nI) (m : Int) (m : Int)
    rw [List.length_map, decide_eq_true (by omega), decide_eq_true (by omega)] at t
    have l1 := lcA1 (tg := .nm 2) (fe := mCall d_is_between 3 (mConsE (mV (mVar 2)) (mConsE (mV (mC (.int 0))) (mConsE (mV (mOp gSub (mVar 1) (mC (.int 1)))) mNilE)))) (ρ := ρ) (S := []) nI (fun _ => .bl true) L (fun c hc => ⟨ρ.set 2 (some (.v (nI c))), rfl, by
      have := is_between_int (c : Int) 0 ((m : Int) - 1)
      have hlt := hlt c hc
      rw [decide_eq_true (by omega), decide_eq_true (by omega)] at this
      exact cl3 (x := nI c) rfl rfl rfl this⟩) (by rw [lim_is]; omega)
    have q1 : mTru (mBi gAll (mCons (mLc (mIt (mVar 0)) (.nm 2) mYes (mCall d_is_between 3 (mConsE (mV (mVar 2)) (mConsE (mV (mC (.int 0))) (mConsE (mV (mOp gSub (mVar 1) (mC (.int 1)))) mNilE)))) [2]) mNil)) ρ [] = .ok true [] := tru_of (by
      rw [ev_Bi, ev_Cons, ev_Lc, show mIt (mVar 0) ρ [] = .ok (L.map nI) [] from rfl, ev_bind_ok, show wipeE ρ [2] = ρ from rfl, l1]
      simp only [ev_bind_ok, ev_Nil, gAll_true, ev_lift_some])
    rw [ev_IfS, ev_OrT, ev_NotT, tru_of (cl3 (x := ordD L) (y := nI m) (z := nI m) rfl rfl rfl t)]
    simp only [ev_bind_ok, Bool.and_self, Bool.not_true, Bool.false_eq_true, if_false]
    rw [ev_NotT, q1]
    rfl
  · rw [ev_Ret, ev_B, ev_Cmp, lenSet_nI (L := L) rfl (by omega)]
    rfl
theorem order_ok {m : Nat} {c : D} (hc : d_is_order [.v c, .v (nI m)] [] = .ok (.bl true) []) : d_check_order [.v c, .v (nI m)] [] = .ok .non [] := by
  refine denB_nx (ρ1 := [vv c, vv (nI m)]) (S1 := []) ?_
  show b_check_order [vv c, vv (nI m)] [] = _
  unfold b_check_order
  rw [ev_IfS, ev_NotT, tru_of (cl2 (x := c) (y := nI m) rfl rfl hc)]
  rfl
theorem Ordr.is {m : Nat} {L : List Nat} (h : Ordr m L) (h8 : m ≤ 8) : d_check_order [.v (ordD L), .v (nI m)] [] = .ok .non [] := by
  have nd : (L.map fun n : Nat => (n : Int)).Nodup := List.Pairwise.map _ (fun a b (hab : a ≠ b) (z : (a : Int) = (b : Int)) => hab (by omega)) h.nd
  have e := is_order_nI h.len (by omega) h.lt
  rw [distI_of nd, List.length_map, h.len, beq_self_eq_true] at e
  exact order_ok e
end Pr
end

noncomputable section
namespace Pr
open PySem L2 DL Cm
def bIW : DSn := (mSeq (mSet 1 (mV (mIf (mTru (mIsT "str" (mVar 2))) (mOp gSub (mVar 1) (mC (.int 1))) (mOp gAdd (mVar 1) (mC (.int 1))))))
  (mIfS (mCmp gLt (mVar 1) (mC (.int 1))) (mRet (mC (.bl false))) mSkip))
theorem isT_tk (t : Tk) : isTy t.d "str" = some t.isL := by
  cases t with
  | b n => exact ty_is
  | l b => cases b <;> exact ty_ss
theorem loopIW {o : Option EV} : ∀ (rest : List Tk) (k : Nat) (x : Option EV),
    (∀ j, dep rest k = some j → ∃ x', forL (.nm 2) bIW (rest.map Tk.d) [o, some (.v (.int (k : Int))), x] [] = .ok (.nx, [o, some (.v (.int (j : Int))), x']) []) ∧
    (dep rest k = none → ∃ ρ', forL (.nm 2) bIW (rest.map Tk.d) [o, some (.v (.int (k : Int))), x] [] = .ok (.rt (.bl false), ρ') [])
  | [], k, x => ⟨fun j h => by cases h; exact ⟨x, rfl⟩, fun h => by cases h⟩
  | .b n :: rest, k, x => by
    have hb : bIW [o, some (.v (.int (k : Int))), some (.v (Tk.b n).d)] [] = .ok (.nx, [o, some (.v (.int ((k + 1 : Nat) : Int))), some (.v (Tk.b n).d)]) [] := by
      have hk : ¬ ((k : Int) + 1 < 1) := by omega
      refine (seq_nx (ρ1 := [o, some (.v (.int ((k : Int) + 1))), some (.v (Tk.b n).d)]) (S1 := []) (by simp [isT_tk, Tk.isL])).trans ?_
      rw [show ((k + 1 : Nat) : Int) = (k : Int) + 1 by simp]
      simp [hk]
    have st : ∀ r, forL (.nm 2) bIW ((Tk.b n :: rest).map Tk.d) [o, some (.v (.int (k : Int))), x] [] = r ↔ forL (.nm 2) bIW (rest.map Tk.d) [o, some (.v (.int ((k + 1 : Nat) : Int))), some (.v (Tk.b n).d)] [] = r := fun r => by
      rw [List.map_cons]
      conv => lhs; lhs; unfold forL
      rw [show asg (.nm 2) (Tk.b n).d [o, some (.v (.int (k : Int))), x] = some [o, some (.v (.int (k : Int))), some (.v (Tk.b n).d)] from rfl]
      dsimp only
      rw [hb]
    obtain ⟨i1, i2⟩ := loopIW (o := o) rest (k + 1) (some (.v (Tk.b n).d))
    refine ⟨fun j h => ?_, fun h => ?_⟩
    · obtain ⟨x', e⟩ := i1 j h
      exact ⟨x', (st _).mpr e⟩
    · obtain ⟨ρ', e⟩ := i2 h
      exact ⟨ρ', (st _).mpr e⟩
  | .l b :: rest, k, x => by
    by_cases h2 : 2 ≤ k
    · have hb : bIW [o, some (.v (.int (k : Int))), some (.v (Tk.l b).d)] [] = .ok (.nx, [o, some (.v (.int ((k - 1 : Nat) : Int))), some (.v (Tk.l b).d)]) [] := by
        have hk : ¬ ((k : Int) - 1 < 1) := by omega
        refine (seq_nx (ρ1 := [o, some (.v (.int ((k : Int) - 1))), some (.v (Tk.l b).d)]) (S1 := []) (by simp [isT_tk, Tk.isL])).trans ?_
        rw [show ((k - 1 : Nat) : Int) = (k : Int) - 1 by omega]
        simp [hk]
      have st : ∀ r, forL (.nm 2) bIW ((Tk.l b :: rest).map Tk.d) [o, some (.v (.int (k : Int))), x] [] = r ↔ forL (.nm 2) bIW (rest.map Tk.d) [o, some (.v (.int ((k - 1 : Nat) : Int))), some (.v (Tk.l b).d)] [] = r := fun r => by
        rw [List.map_cons]
        conv => lhs; lhs; unfold forL
        rw [show asg (.nm 2) (Tk.l b).d [o, some (.v (.int (k : Int))), x] = some [o, some (.v (.int (k : Int))), some (.v (Tk.l b).d)] from rfl]
        dsimp only
        rw [hb]
      have hd : dep (.l b :: rest) k = dep rest (k - 1) := by simp only [dep]; rw [if_pos h2]
      obtain ⟨i1, i2⟩ := loopIW (o := o) rest (k - 1) (some (.v (Tk.l b).d))
      refine ⟨fun j h => ?_, fun h => ?_⟩
      · obtain ⟨x', e⟩ := i1 j (by rw [← hd]; exact h)
        exact ⟨x', (st _).mpr e⟩
      · obtain ⟨ρ', e⟩ := i2 (by rw [← hd]; exact h)
        exact ⟨ρ', (st _).mpr e⟩
    · have hd : dep (.l b :: rest) k = none := by simp only [dep]; rw [if_neg h2]
      refine ⟨fun j h => (by rw [hd] at h; cases h), fun _ => ⟨[o, some (.v (.int ((k : Int) - 1))), some (.v (Tk.l b).d)], ?_⟩⟩
      have hb : bIW [o, some (.v (.int (k : Int))), some (.v (Tk.l b).d)] [] = .ok (.rt (.bl false), [o, some (.v (.int ((k : Int) - 1))), some (.v (Tk.l b).d)]) [] := by
        have hk : (k : Int) - 1 < 1 := by omega
        refine (seq_nx (ρ1 := [o, some (.v (.int ((k : Int) - 1))), some (.v (Tk.l b).d)]) (S1 := []) (by simp [isT_tk, Tk.isL])).trans ?_
        simp [hk]
      rw [List.map_cons]
      unfold forL
      rw [show asg (.nm 2) (Tk.l b).d [o, some (.v (.int (k : Int))), x] = some [o, some (.v (.int (k : Int))), some (.v (Tk.l b).d)] from rfl]
      dsimp only
      rw [hb]
theorem is_word_spec (w : List Tk) : d__law_is_word [.v (wd w)] [] = .ok (.bl (dep w 0 == some 1)) [] := by
  obtain ⟨i1, i2⟩ := loopIW (o := some (.v (wd w))) w 0 none
  have s1 : mSet 1 (mV (mC (.int 0))) [some (.v (wd w)), none, none] [] = .ok (.nx, [some (.v (wd w)), some (.v (.int ((0 : Nat) : Int))), none]) [] := rfl
  cases h : dep w 0 with
  | none =>
    obtain ⟨ρ', e⟩ := i2 h
    refine denB_rt (ρ1 := ρ') (S1 := []) ?_
    unfold b__law_is_word
    exact (seq_nx s1).trans (seq_rt e)
  | some j =>
    obtain ⟨x', e⟩ := i1 j h
    refine denB_rt (ρ1 := [some (.v (wd w)), some (.v (.int (j : Int))), x']) (S1 := []) ?_
    unfold b__law_is_word
    refine (seq_nx s1).trans ((seq_nx e).trans ?_)
    have : ((j : Int) == 1) = (some j == some 1) := by
      by_cases hj : j = 1
      · subst hj; rfl
      · have h1 : ((j : Int) == 1) = false := by simp; omega
        have h2 : (some j == some 1) = false := by simp [hj]
        rw [h1, h2]
    simp [gEq_iiX, this]
end Pr
end

/-! orders without a pattern: by running the program -/
namespace Pr
open PySem L2 DL Cm
def isNon (o : Out D) : Option Bool := match o with
  | .ok .non [] => some true
  | .ok (.tup _) [] => some false
  | _ => none
theorem isNon_t {o : Out D} (h : isNon o = some true) : o = .ok .non [] := by
  unfold isNon at h
  split at h
  · rfl
  · cases h
  · cases h
theorem isNon_f {o : Out D} (h : isNon o = some false) : ∃ ds, o = .ok (.tup ds) [] := by
  unfold isNon at h
  split at h
  · cases h
  · exact ⟨_, rfl⟩
  · cases h
def pat (m : Nat) (x : List Nat) : Option Bool := isNon (d_pattern [.v (tN (List.range m)), .v (ppN x)] [])
def patR (m : Nat) (x : List Nat) : Option Bool := isNon (d_pattern [.v (tN (List.range m).reverse), .v (ppN x.reverse)] [])
def okw (m : Nat) : Option (List Tk) → Bool
  | none => false
  | some w => decide (dep w 0 = some 1) && decide ((nums w).Perm (List.range m)) && decide ((w.filter Tk.isL).length + 1 = m) && decide (w.length ≤ 20)
def sep (m : Nat) : List (List Nat) := (aos m m).filter fun x => decide (pat m x = some true)
def okP (m : Nat) : Bool := (aos m m).all fun x => (pat m x).isSome && decide (x.Perm (List.range m)) && (pat m x == some false || (patR m x == some true && okw m (wo 6 (List.range m) x)))
def cnt (m : Nat) (c : Nat) : Bool := decide ((sep m).length = c)
theorem p1 : okP 1 = true := by decide +kernel
theorem p2 : okP 2 = true := by decide +kernel
theorem p3 : okP 3 = true := by decide +kernel
theorem p4 : okP 4 = true := by decide +kernel
theorem p5 : okP 5 = true := by decide +kernel
theorem n1 : cnt 1 1 = true := by decide +kernel
theorem n2 : cnt 2 2 = true := by decide +kernel
theorem n3 : cnt 3 6 = true := by decide +kernel
theorem n4 : cnt 4 22 = true := by decide +kernel
theorem n5 : cnt 5 90 = true := by decide +kernel
end Pr

/-! words of renamed orders; the law's statements -/
noncomputable section
namespace Pr
open PySem L2 DL Cm
def q0 : DSn := (mSet 1 (mNew (mCons (mVar 0) (mCons (mC (.int 0)) (mCons (mC (.int 3876)) (mCons (mC (.int 0)) mNil))))))
def q1 : DSn := (mSet 2 (mV (mOp gAdd (mC (.int 1)) (mCall d__law_taken 2 (mConsE (mCel 1) (mConsE (mV (mC (.int 4))) mNilE))))))
def q2 : DSn := (mIfS (mCmp gEq (mCall d__law_taken 2 (mConsE (mCel 1) (mConsE (mV (mC (.int 12))) mNilE))) (mC (.int 0))) (mSet 2 (mV (mC (.int 5)))) mSkip)
def q3 : DSn := (mSet 3 (mV (mTupRg (mVar 2))))
def q4 : DSn := (mSetLc 4 (mLc (mIt (mCall d__law_all_orders 1 (mConsE (mV (mVar 2)) mNilE))) (.nm 6) (mCmp gIsN (mCall d_pattern 2 (mConsE (mV (mVar 3)) (mConsE (mV (mVar 6)) mNilE))) (mC .non)) (mVar 6) [6]))
def q5 : DSn := (mIfS (mCmp gNe (mBi gLen (mCons (mVar 4) mNil)) (mOp gIx (mLst (mCons (mC (.int 0)) (mCons (mC (.int 1)) (mCons (mC (.int 2)) (mCons (mC (.int 6)) (mCons (mC (.int 22)) (mCons (mC (.int 90)) mNil))))))) (mVar 2))) (mRet (mC (.bl false))) mSkip)
def q6 : DSn := (mSet 5 (mV (mCall d__law_order 2 (mConsE (mCel 1) (mConsE (mV (mVar 2)) mNilE)))))
def q7 : DSn := (mSet 6 (mV (mCall d__law_pick 2 (mConsE (mCel 1) (mConsE (mV (mVar 4)) mNilE)))))
def q8 : DSn := (mSet 7 (mV (mCall d_slicing_of 2 (mConsE (mV (mBi gTuple (mCons (mLc (mIt (mVar 3)) (.nm 11) mYes (mOp gIx (mUnp (mVar 5)) (mVar 11)) [11]) mNil))) (mConsE (mV (mBi gTuple (mCons (mLc (mIt (mUnp (mVar 6))) (.nm 11) mYes (mOp gIx (mUnp (mVar 5)) (mVar 11)) [11]) mNil))) mNilE)))))
def q9 : DSn := (mIfS (mOrT (mCmp gNe (mBi gSorted (mCons (mLc (mIt (mVar 7)) (.nm 10) (mNotT (mTru (mIsT "str" (mVar 10)))) (mVar 10) [10]) mNil)) (mListRg (mVar 2))) (mNotT (mTru (mCall d__law_is_word 1 (mConsE (mV (mVar 7)) mNilE))))) (mRet (mC (.bl false))) mSkip)
def q10 : DSn := (mSet 8 (mV (mCall d_slicing_of 2 (mConsE (mV (mVar 3)) (mConsE (mV (mUnp (mVar 6))) mNilE)))))
def q11 : DSn := (mSetLc 9 (mLc (mIt (mVar 7)) (.nm 10) (mTru (mIsT "str" (mVar 10))) (mVar 10) [10]))
def q12 : DSn := (mRet (mAnd (mB (mCmp gIsN (mCall d_pattern 2 (mConsE (mV (mRev (mVar 3))) (mConsE (mV (mRevP (mVar 6))) mNilE))) (mC .non))) (mB (mChain gEq gEq (mBi gLen (mCons (mLc (mIt (mVar 8)) (.nm 10) (mTru (mIsT "str" (mVar 10))) (mVar 10) [10]) mNil)) (mBi gLen (mCons (mVar 9) mNil)) (mOp gSub (mVar 2) (mC (.int 1)))))))
def qr12 : DSn := q12
def qr11 : DSn := mSeq q11 qr12
def qr10 : DSn := mSeq q10 qr11
def qr9 : DSn := mSeq q9 qr10
def qr8 : DSn := mSeq q8 qr9
def qr7 : DSn := mSeq q7 qr8
def qr6 : DSn := mSeq q6 qr7
def qr5 : DSn := mSeq q5 qr6
def qr4 : DSn := mSeq q4 qr5
def qr3 : DSn := mSeq q3 qr4
def qr2 : DSn := mSeq q2 qr3
def qr1 : DSn := mSeq q1 qr2
def qr0 : DSn := mSeq q0 qr1
theorem q_all : b_law = qr0 := rfl
theorem lenC {i n : Nat} {ρ : DL.Env} {S : Store} {L : List Nat} (h1 : ρ[i]? = some (some (.cel n))) (h2 : S[n]? = some (some (.lst (L.map nI)))) : mBiC i gLen ρ S = .ok (.int (L.length : Int)) S := by
  unfold mBiC
  rw [h1]
  dsimp only
  rw [h2]
  show (match gLen [.lst (L.map nI)] with
    | some d => if d.flat = true then Out.ok d S else Out.bad
    | none => Out.bad) = _
  rw [gLen_l, List.length_map]
  rfl
theorem law_order_spec {c : Cell} {m : Nat} (hc : RowOk c) (hm : m ≤ 100) : ∃ d c', d__law_order [.cel 0, .v (nI m)] [some c] = .ok d [some c'] ∧ RowOk c' ∧ ∃ L : List Nat, d = .ptp (L.map nI) ∧ Ordr m L := by
  have main : Wp (d__law_order [.cel 0, .v (nI m)] [some c]) (fun d S => ∃ c', S = [some c'] ∧ RowOk c' ∧ ∃ L : List Nat, d = .ptp (L.map nI) ∧ Ordr m L) (fun _ _ => False) := by
    refine wden ?_
    let ρ1 (x2 : Option EV) : DL.Env := [some (.cel 0), vv (nI m), x2, some (.cel 1), some (.cel 2)]
    show Wp (b__law_order [some (.cel 0), vv (nI m), none, none, none] [some c]) _ _
    unfold b__law_order
    have s1 : mPar2 3 4 (mConsE (mNewRg (mVar 1)) (mConsE (mNew mNil) mNilE)) [some (.cel 0), vv (nI m), none, none, none] [some c] = .ok (.nx, ρ1 none) [some c, some (.lst ((List.range m).map nI)), some (.lst [])] := by
      have z1 : mNewRg (mVar 1) [some (.cel 0), vv (nI m), none, none, none] [some c] = .ok (.cel 1) [some c, some (.lst ((List.range m).map nI))] := by
        unfold mNewRg
        rw [ev_var (d := nI m) rfl, ev_bind_ok]
        show (if (m : Int) ≤ 1000000 ∧ -1000000 ≤ (m : Int) then Out.ok (EV.cel 1) ([some c] ++ [some (Cell.lst (rgD 0 (m : Int)))]) else .bad) = _
        rw [if_pos ⟨by omega, by omega⟩, rgD_nat]
        rfl
      have z2 : mNew mNil [some (.cel 0), vv (nI m), none, none, none] [some c, some (.lst ((List.range m).map nI))] = .ok (.cel 2) [some c, some (.lst ((List.range m).map nI)), some (.lst [])] := by
        unfold mNew
        simp [lim_is]
      rw [ev_Par2, ev_ConsE, z1]
      simp only [ev_bind_ok, ev_ConsE, z2, ev_NilE, ev_bindS_ok]
      rfl
    refine wseq (Wp.ok s1 (wthen (wseq (wforI (wrg1 (Wp.ok (a := nI m) rfl ⟨m, rfl, by omega, ?_⟩))))))
    refine wloop (fun j ρ S => ∃ (x2 : Option EV) (c : Cell) (L N : List Nat), ρ = ρ1 x2 ∧ S = [some c, some (.lst (L.map nI)), some (.lst (N.map nI))] ∧ RowOk c ∧ (N ++ L).Perm (List.range m) ∧ N.length = j) _ 0 ⟨none, c, List.range m, [], rfl, rfl, hc, by simp, rfl⟩ ?_ ?_
    · rintro j d ρ S hd ⟨x2, c, L, N, rfl, rfl, hc, hp, hN⟩
      obtain ⟨hj, rfl⟩ := range_get hd
      have hlen := hp.length_eq
      rw [List.length_append, List.length_range] at hlen
      refine ⟨ρ1 (vv (nI j)), rfl, ?_⟩
      refine wdrop (wmet (n := 2) (ds0 := N.map nI) (wcons (wmet (n := 1) (ds0 := L.map nI) (wcons (wdraw (c := c) (B := (L.length : Int)) (lenC rfl rfl) (by omega) (by omega) hc (q := fun a c1 a0 a1 hc1 => wnil ?_))))))
      obtain ⟨i, x, hi, ep⟩ := pop_ok (L := L) a0 a1 (by rw [lim_is]; omega)
      refine ⟨L.map nI, (L.eraseIdx i).map nI, nI x, rfl, ep, wnil ⟨N.map nI, (N ++ [x]).map nI, .non, rfl, ?_, ?_⟩⟩
      · show (if (N.map nI).length < lim then some (N.map nI ++ [_], D.non) else none) = _
        rw [if_pos (by rw [lim_is]; simp; omega), List.map_append]
        rfl
      · obtain ⟨hil, hx⟩ := List.getElem?_eq_some_iff.mp hi
        refine ⟨_, c1, L.eraseIdx i, N ++ [x], rfl, rfl, hc1, ?_, by simp; omega⟩
        refine List.Perm.trans ?_ hp
        rw [List.append_assoc]
        refine List.Perm.append_left N ?_
        exact (erase_perm hi).symm
    · rintro ρ S ⟨x2, c1, L, N, rfl, rfl, hc1, hp, hN⟩
      have hlen := hp.length_eq
      rw [List.length_append, List.length_range] at hlen
      have hN : N.length = m := by simpa using hN
      have hL : L = [] := List.length_eq_zero_iff.mp (by omega)
      subst hL
      exact wthen <| wret (Wp.ok (a := .ptp (N.map nI)) rfl ⟨c1, rfl, hc1, N, rfl, ⟨by simpa using hp⟩⟩)
  obtain ⟨d, S, e, c', rfl, hc', h⟩ := main.has
  exact ⟨d, c', e, hc', h⟩
theorem bi1 {ρ : DL.Env} {S : Store} {g : List D → Option D} {fa : DEn} {x y : D} (ha : fa ρ S = .ok x S) (h : g [x] = some y) : mBi g (mCons fa mNil) ρ S = .ok y S := by
  rw [ev_Bi, ev_Cons, ha]
  simp only [ev_bind_ok, ev_Nil, h]
  rfl
theorem call_row {F : Den} {i : Nat} {fb : DEn} {x d : D} {c c' : Cell} {ρ : DL.Env} {R : Store} (hρ : ρ[i]? = some (some (.cel 0))) (hB : fb ρ (some c :: R) = .ok x (some c :: R)) (h : F [.cel 0, .v x] [some c] = .ok d [some c']) : mCall F 2 (mConsE (mCel i) (mConsE (mV fb) mNilE)) ρ (some c :: R) = .ok d (some c' :: R) := by
  have k := callC2 (S := some c :: R) (n := 0) (F := F) rfl h
  have hcel : mCel i ρ (some c :: R) = .ok (.cel 0) (some c :: R) := by unfold mCel; rw [hρ]
  rw [ev_Call, ev_ConsE, hcel]
  simp only [ev_bind_ok, ev_ConsE, ev_V, hB, ev_NilE, List.length_cons, List.length_nil, Nat.zero_add, if_true]
  exact k
theorem draw {ρ : DL.Env} {c : Cell} {fb : DEn} {B : Int} {i : Nat} {R : Store} (hρ : ρ[i]? = some (some (.cel 0))) (hB : fb ρ (some c :: R) = .ok (.int B) (some c :: R)) (h0 : 0 < B) (h1 : B < 1073741824) (hc : RowOk c) :
    ∃ a c', 0 ≤ a ∧ a < B ∧ RowOk c' ∧ mCall d__law_taken 2 (mConsE (mCel i) (mConsE (mV fb) mNilE)) ρ (some c :: R) = .ok (.int a) (some c' :: R) := by
  obtain ⟨a, c', a0, a1, hc', e⟩ := taken hc h0 h1
  exact ⟨a, c', a0, a1, hc', call_row hρ hB e⟩
theorem sort_range {L : List Nat} {n : Nat} (h : L.Perm (List.range n)) : sortI (L.map fun b : Nat => (b : Int)) = (List.range n).map fun b : Nat => (b : Int) := by
  refine PySem.W.ksm_same ((sortI_perm _).trans (h.map _)) (sortI_sorted _) ?_
  rw [List.pairwise_map]
  exact List.pairwise_lt_range.imp fun h => by omega
theorem e_pick : d__law_pick = cd_pick := rfl
theorem same_iff {a b : List Nat} : same a b = true ↔ a.Perm b := by
  unfold same
  rw [decide_eq_true_eq]
  constructor
  · intro h
    have p : (a.map fun n : Nat => (n : Int)).Perm (b.map fun n : Nat => (n : Int)) := (sortI_perm _).symm.trans (by rw [h]; exact sortI_perm _)
    have q := p.map Int.toNat
    have e : ∀ l : List Nat, (l.map fun n : Nat => (n : Int)).map Int.toNat = l := fun l => by
      rw [List.map_map]
      refine Eq.trans (List.map_congr_left fun x _ => ?_) (List.map_id l)
      exact Int.toNat_natCast x
    rw [e, e] at q
    exact q
  · intro h
    exact PySem.W.ksm_same ((sortI_perm _).trans ((h.map _).trans (sortI_perm _).symm)) (sortI_sorted _) (sortI_sorted _)
theorem map_back {φ ψ : Nat → Nat} {a : List Nat} (h : ∀ x ∈ a, ψ (φ x) = x) : (a.map φ).map ψ = a := by
  rw [List.map_map]
  exact Eq.trans (List.map_congr_left fun x hx => h x hx) (List.map_id a)
theorem same_map {φ ψ : Nat → Nat} {a b : List Nat} (ha : ∀ x ∈ a, ψ (φ x) = x) (hb : ∀ x ∈ b, ψ (φ x) = x) : same (a.map φ) (b.map φ) = same a b := by
  refine Bool.eq_iff_iff.mpr ?_
  rw [same_iff, same_iff]
  constructor
  · intro h
    have := h.map ψ
    rw [map_back ha, map_back hb] at this
    exact this
  · exact fun h => h.map φ
def rn (φ : Nat → Nat) : Tk → Tk
  | .b n => .b (φ n)
  | .l h => .l h
theorem jn_map (φ : Nat → Nat) (x y : Option (List Tk)) (h : Bool) : jn (x.map (List.map (rn φ))) (y.map (List.map (rn φ))) h = (jn x y h).map (List.map (rn φ)) := by
  cases x with
  | none => rfl
  | some u => cases y with
    | none => rfl
    | some v =>
      show some (u.map (rn φ) ++ v.map (rn φ) ++ [Tk.l h]) = some ((u ++ v ++ [Tk.l h]).map (rn φ))
      rw [List.map_append, List.map_append]
      rfl
section
variable {φ ψ : Nat → Nat}
theorem cuts_map {rec : List Nat → List Nat → Option (List Tk)} (hr : ∀ a b : List Nat, (∀ x ∈ a, ψ (φ x) = x) → (∀ x ∈ b, ψ (φ x) = x) → rec (a.map φ) (b.map φ) = (rec a b).map (List.map (rn φ))) {a b : List Nat} (ha : ∀ x ∈ a, ψ (φ x) = x) (hb : ∀ x ∈ b, ψ (φ x) = x) : ∀ ks, cuts rec (a.map φ) (b.map φ) ks = (cuts rec a b ks).map (List.map (rn φ))
  | [] => rfl
  | k :: ks => by
    unfold cuts
    have tk : ∀ {l : List Nat} (h : ∀ x ∈ l, ψ (φ x) = x) (k : Nat), ∀ x ∈ l.take k, ψ (φ x) = x := fun h k x hx => h x (List.mem_of_mem_take hx)
    have dk : ∀ {l : List Nat} (h : ∀ x ∈ l, ψ (φ x) = x) (k : Nat), ∀ x ∈ l.drop k, ψ (φ x) = x := fun h k x hx => h x (List.mem_of_mem_drop hx)
    rw [← List.map_take, ← List.map_take, ← List.map_drop, ← List.map_drop, List.length_map, ← List.map_drop, ← List.map_take, same_map (tk ha k) (tk hb k), same_map (tk ha k) (dk hb _),
      hr _ _ (tk ha k) (tk hb k), hr _ _ (dk ha k) (dk hb k), hr _ _ (dk ha k) (tk hb _), hr _ _ (tk ha k) (dk hb _), jn_map, jn_map, cuts_map hr ha hb ks]
    split
    · rfl
    · split <;> rfl
theorem wo_map : ∀ (f : Nat) (a b : List Nat), (∀ x ∈ a, ψ (φ x) = x) → (∀ x ∈ b, ψ (φ x) = x) → wo f (a.map φ) (b.map φ) = (wo f a b).map (List.map (rn φ))
  | 0, _, _, _, _ => rfl
  | f + 1, a, b, ha, hb => by
    unfold wo
    rw [List.length_map, cuts_map (wo_map f) ha hb]
    split
    · show some ((a.map φ).map Tk.b) = some ((a.map Tk.b).map (rn φ))
      rw [List.map_map, List.map_map]
      rfl
    · rfl
end
theorem rn_nums (φ : Nat → Nat) : ∀ w : List Tk, nums (w.map (rn φ)) = (nums w).map φ
  | [] => rfl
  | .b n :: w => by
    show φ n :: nums (w.map (rn φ)) = φ n :: (nums w).map φ
    rw [rn_nums φ w]
  | .l h :: w => rn_nums φ w
theorem rn_dep (φ : Nat → Nat) : ∀ (w : List Tk) (k : Nat), dep (w.map (rn φ)) k = dep w k
  | [], k => rfl
  | .b n :: w, k => rn_dep φ w (k + 1)
  | .l h :: w, k => by
    show (if _ then dep (w.map (rn φ)) (k - 1) else none) = (if _ then dep w (k - 1) else none)
    rw [rn_dep φ w]
theorem rn_lets (φ : Nat → Nat) : ∀ w : List Tk, ((w.map (rn φ)).filter Tk.isL).length = (w.filter Tk.isL).length
  | [] => rfl
  | .b n :: w => rn_lets φ w
  | .l h :: w => by
    show (Tk.l h :: (w.map (rn φ)).filter Tk.isL).length = (Tk.l h :: w.filter Tk.isL).length
    rw [List.length_cons, List.length_cons, rn_lets φ w]
theorem nums_D : ∀ w : List Tk, (w.filter fun t => !t.isL).map Tk.d = (nums w).map nI
  | [] => rfl
  | .b n :: w => by
    show (Tk.b n).d :: (w.filter fun t => !t.isL).map Tk.d = nI n :: (nums w).map nI
    rw [nums_D w]
    rfl
  | .l h :: w => nums_D w
theorem slicing_spec {m : Nat} {a b : List Nat} (OA : Ordr m a) (OB : Ordr m b) (h1 : 1 ≤ m) (h5 : m ≤ 5) : d_slicing_of [.v (tN a), .v (tN b)] [] = .ok (oD (wo 6 a b)) [] := by
  have la := OA.len
  have lb := OB.len
  let ρ : DL.Env := [vv (tN a), vv (tN b)]
  refine denB_rt (ρ1 := ρ) (S1 := []) ?_
  show b_slicing_of ρ [] = _
  have cp : d_check_pair [.v (tN a), .v (tN b)] [] = .ok .non [] := by
    have l0 : mBi gLen (mCons (mVar 0) mNil) ρ [] = .ok (nI m) [] := by rw [len_o (c := a) rfl, la]
    have c1 : mCall d_check_order 2 (mConsE (mV (mVar 0)) (mConsE (mV (mBi gLen (mCons (mVar 0) mNil))) mNilE)) ρ [] = .ok .non [] := cl2 (x := tN a) (y := nI m) rfl l0 (OA.is (by omega))
    have c2 : mCall d_check_order 2 (mConsE (mV (mVar 1)) (mConsE (mV (mBi gLen (mCons (mVar 0) mNil))) mNilE)) ρ [] = .ok .non [] := cl2 (x := tN b) (y := nI m) rfl l0 (OB.is (by omega))
    have t0 : mTru (mCall d_is_tuple_of 3 (mConsE (mV (mVar 0)) (mConsE (mV (mC (.int 1))) (mConsE (mV (mC k_MOST_BLOCKS)) mNilE)))) ρ [] = .ok true [] := by
      have := is_tuple_of_tup (a.map nI) 1 8
      rw [List.length_map, la, decide_eq_true (by omega), decide_eq_true (by omega)] at this
      exact tru_of (cl3 (x := tN a) (y := .int 1) (z := .int 8) rfl rfl rfl this)
    have d1 := drop_ok c1
    have d2 := drop_ok c2
    have s0 : (mIfS (mNotT (mTru (mCall d_is_tuple_of 3 (mConsE (mV (mVar 0)) (mConsE (mV (mC (.int 1))) (mConsE (mV (mC k_MOST_BLOCKS)) mNilE)))))) (mRaiseF "BadOrders" [(mC (.str "no order of 1 to ")), (mC k_MOST_BLOCKS), (mC (.str " blocks"))]) mSkip) ρ [] = .ok (.nx, ρ) [] := if_skip (not_ok t0)
    refine denB_nx (ρ1 := ρ) (S1 := []) ?_
    show b_check_pair ρ [] = _
    unfold b_check_pair
    exact (seq_nx s0).trans ((seq_nx d1).trans d2)
  unfold b_slicing_of
  refine (seq_nx (ρ1 := ρ) (S1 := []) (drop_ok (cl2 (x := tN a) (y := tN b) rfl rfl cp))).trans ?_
  rw [ev_Ret, cl2 (x := tN a) (y := tN b) rfl rfl (words_spec 6 a b (by omega) (by omega) (by omega) (by omega))]
  rfl
end Pr
end

/-! the law, the whole -/
noncomputable section
namespace Pr
open PySem L2 DL Cm
structure Fx (m : Nat) : Prop where
  all : d__law_all_orders [.v (nI m)] [] = .ok (.lst ((aos m m).map ppN)) []
  ord : ∀ x ∈ aos m m, x.Perm (List.range m)
  pt : ∀ x ∈ aos m m, pat m x = some true ∨ pat m x = some false
  ok : ∀ x ∈ aos m m, pat m x = some true → patR m x = some true ∧ ∃ w, wo 6 (List.range m) x = some w ∧ dep w 0 = some 1 ∧ (nums w).Perm (List.range m) ∧ (w.filter Tk.isL).length + 1 = m ∧ w.length ≤ 20
  ln : (aos m m).length ≤ 120
theorem fx_of {m : Nat} (h1 : isAll m = true) (h2 : okP m = true) (h3 : (aos m m).length ≤ 120) : Fx m := by
  have h2 := List.all_eq_true.mp h2
  refine ⟨?_, fun x hx => ?_, fun x hx => ?_, fun x hx hp => ?_, h3⟩
  · unfold isAll at h1
    split at h1
    · rename_i ds e
      rw [e, isPs_eq h1]
    · cases h1
  · have := h2 x hx
    simp only [Bool.and_eq_true, decide_eq_true_eq] at this
    exact this.1.2
  · have := h2 x hx
    simp only [Bool.and_eq_true] at this
    cases hq : pat m x with
    | none => rw [hq] at this; cases this.1.1
    | some b => cases b
                · exact .inr rfl
                · exact .inl rfl
  · have := h2 x hx
    rw [hp] at this
    simp only [Bool.and_eq_true] at this
    have k := this.2
    rw [show ((some true : Option Bool) == some false) = false from rfl, Bool.false_or, Bool.and_eq_true] at k
    refine ⟨by simpa using k.1, ?_⟩
    have k := k.2
    unfold okw at k
    split at k
    · cases k
    · rename_i w e
      simp only [Bool.and_eq_true, decide_eq_true_eq] at k
      exact ⟨w, e, k.1.1.1, k.1.1.2, k.1.2, k.2⟩
theorem len1 : (aos 1 1).length ≤ 120 := by decide +kernel
theorem len2 : (aos 2 2).length ≤ 120 := by decide +kernel
theorem len3 : (aos 3 3).length ≤ 120 := by decide +kernel
theorem len4 : (aos 4 4).length ≤ 120 := by decide +kernel
theorem len5 : (aos 5 5).length ≤ 120 := by decide +kernel
def cs : List Nat := [0, 1, 2, 6, 22, 90]
theorem fx {m : Nat} (h1 : 1 ≤ m) (h5 : m ≤ 5) : Fx m ∧ cs[m]? = some (sep m).length := by
  have c : ∀ {m k : Nat}, cnt m k = true → (sep m).length = k := fun h => of_decide_eq_true h
  match m, h1, h5 with
  | 1, _, _ => exact ⟨fx_of all1 p1 len1, by rw [c n1]; rfl⟩
  | 2, _, _ => exact ⟨fx_of all2 p2 len2, by rw [c n2]; rfl⟩
  | 3, _, _ => exact ⟨fx_of all3 p3 len3, by rw [c n3]; rfl⟩
  | 4, _, _ => exact ⟨fx_of all4 p4 len4, by rw [c n4]; rfl⟩
  | 5, _, _ => exact ⟨fx_of all5 p5 len5, by rw [c n5]; rfl⟩
theorem cs_pos : ∀ m, m < 6 → 1 ≤ m → cs[m]? ≠ some 0 := by decide
theorem b_of' {t : DTn} {ρ : DL.Env} {S S1 : Store} {b : Bool} (h : t ρ S = .ok b S1) : mB t ρ S = .ok (.bl b) S1 := by rw [ev_B, h]; rfl
theorem ev_and {fa fb : DEn} {ρ : DL.Env} {S S1 S2 : Store} {a b : Bool} (ha : fa ρ S = .ok (.bl a) S1) (hb : a = true → fb ρ S1 = .ok (.bl b) S2) (hs : a = false → S2 = S1) : mAnd fa fb ρ S = .ok (.bl (a && b)) S2 := by
  rw [ev_And, ha, ev_bind_ok]
  cases a with
  | true =>
    rw [ev_isB, ev_lift_some, ev_bind_ok, if_pos rfl, hb rfl]
    rfl
  | false =>
    rw [ev_isB, ev_lift_some, ev_bind_ok, if_neg Bool.false_ne_true, hs rfl]
    rfl
theorem and_tt {fa fb : DEn} {ρ : DL.Env} {S : Store} (ha : fa ρ S = .ok (.bl true) S) (hb : fb ρ S = .ok (.bl true) S) : mAnd fa fb ρ S = .ok (.bl true) S := ev_and (a := true) (b := true) ha (fun _ => hb) (fun z => by cases z)
def eW (x0 x2 x3 x4 x5 x6 x7 x8 x9 : Option EV) : DL.Env := [x0, some (.cel 0), x2, x3, x4, x5, x6, x7, x8, x9, none, none]
section
variable {s0 : Option EV}
theorem sep_mem {m : Nat} {x : List Nat} : x ∈ sep m ↔ x ∈ aos m m ∧ pat m x = some true := by
  unfold sep
  rw [List.mem_filter, decide_eq_true_eq]
theorem letters_ev {w : List Tk} {i : Nat} {ρ : DL.Env} {S : Store} (hl : w.length ≤ 100) (hi : mVar i ρ S = .ok (wd w) S) (ha : ∀ t : Tk, asg (.nm 10) t.d (wipeE ρ [10]) = some ((wipeE ρ [10]).set 10 (vv t.d)) ∧ ∀ S, mVar 10 ((wipeE ρ [10]).set 10 (vv t.d)) S = .ok t.d S) :
    mLc (mIt (mVar i)) (.nm 10) (mTru (mIsT "str" (mVar 10))) (mVar 10) [10] ρ S = .ok (.lst ((w.filter Tk.isL).map Tk.d)) S ∧ mLc (mIt (mVar i)) (.nm 10) (mNotT (mTru (mIsT "str" (mVar 10)))) (mVar 10) [10] ρ S = .ok (.lst ((nums w).map nI)) S := by
  have it : mIt (mVar i) ρ S = .ok (w.map Tk.d) S := by
    unfold mIt
    rw [hi]
    rfl
  have lc := lcF (tg := .nm 10) (tt := (mTru (mIsT "str" (mVar 10)))) (fe := mVar 10) (ρ := wipeE ρ [10]) (S := S) Tk.d Tk.isL Tk.d w (fun t ht => ⟨(wipeE ρ [10]).set 10 (vv t.d), (ha t).1, isS ((ha t).2 S), fun _ => (ha t).2 S⟩) (by rw [lim_is]; omega)
  have lc2 := lcF (tg := .nm 10) (tt := (mNotT (mTru (mIsT "str" (mVar 10))))) (fe := mVar 10) (ρ := wipeE ρ [10]) (S := S) Tk.d (fun t => !t.isL) Tk.d w (fun t ht => ⟨(wipeE ρ [10]).set 10 (vv t.d), (ha t).1, not_ok (isS ((ha t).2 S)), fun _ => (ha t).2 S⟩) (by rw [lim_is]; omega)
  constructor
  · rw [ev_Lc, it, ev_bind_ok, lc]
    rfl
  · rw [ev_Lc, it, ev_bind_ok, lc2, ← nums_D]
    rfl
theorem gEq_n (a : Nat) : gEq (nI a) (nI a) = some true := gEq_sm (n := 0) (m := 0) (b := true) (sm_nI _) (sm_nI _) (by decide) (by decide) ⟨fun _ => rfl, fun _ => rfl⟩
theorem rest_spec {m : Nat} (h1 : 1 ≤ m) (h5 : m ≤ 5) {c : Cell} (hc : RowOk c) {ρ : DL.Env} {S : Store} (hρ : ρ = eW s0 (vv (nI m)) none none none none none none none) (hS : S = [some c]) : Wp (qr3 ρ S) (Rt (.bl true)) NoX := by
  subst hS
  obtain ⟨F, hcs⟩ := fx h1 h5
  obtain ⟨ρ1, e1, g1⟩ : ∃ ρ1, q3 ρ [some c] = .ok (.nx, ρ1) [some c] ∧ ρ1 = eW s0 (vv (nI m)) (vv (tN (List.range m))) none none none none none none := by
    refine ⟨ρ.set 3 (vv (tN (List.range m))), st_set ?_, by subst hρ; rfl⟩
    unfold mTupRg
    rw [show mVar 2 ρ [some c] = .ok (nI m) [some c] from by subst hρ; rfl, ev_bind_ok]
    show (if (m : Int) ≤ 1000000 ∧ -1000000 ≤ (m : Int) then Out.ok (D.tup (rgD 0 (m : Int))) [some c] else .bad) = _
    rw [if_pos ⟨by omega, by omega⟩, rgD_nat]
    rfl
  unfold qr3
  refine wsq e1 ?_
  have lnS : (sep m).length ≤ 120 := Nat.le_trans (List.length_filter_le _ _) F.ln
  obtain ⟨ρ2, e2, g2⟩ : ∃ ρ2, q4 ρ1 [some c] = .ok (.nx, ρ2) [some c] ∧ ρ2 = eW s0 (vv (nI m)) (vv (tN (List.range m))) (vv (.lst ((sep m).map ppN))) none none none none none := by
    refine ⟨ρ1.set 4 (vv (.lst ((sep m).map ppN))), ?_, by subst g1; rfl⟩
    have it : mIt (mCall d__law_all_orders 1 (mConsE (mV (mVar 2)) mNilE)) ρ1 [some c] = .ok ((aos m m).map ppN) [some c] := by
      unfold mIt
      rw [cl1 (F := d__law_all_orders) (x := nI m) (by subst g1; rfl) F.all]
      rfl
    have lc := lcF (tg := .nm 6) (tt := (mCmp gIsN (mCall d_pattern 2 (mConsE (mV (mVar 3)) (mConsE (mV (mVar 6)) mNilE))) (mC .non))) (fe := mVar 6) (ρ := wipeE ρ1 [6]) (S := [some c]) ppN (fun x => decide (pat m x = some true)) ppN (aos m m) (fun x hx => by
      refine ⟨(wipeE ρ1 [6]).set 6 (vv (ppN x)), by subst g1; rfl, ?_, fun _ => by subst g1; rfl⟩
      rcases F.pt x hx with h | h
      · rw [h]
        exact cmp_ok (cl2 (F := d_pattern) (x := tN (List.range m)) (y := ppN x) (by subst g1; rfl) (by subst g1; rfl) (isNon_t h)) (y := .non) rfl rfl
      · rw [h]
        obtain ⟨ds, e⟩ := isNon_f h
        exact cmp_ok (cl2 (F := d_pattern) (x := tN (List.range m)) (y := ppN x) (by subst g1; rfl) (by subst g1; rfl) e) (y := .non) rfl rfl) (by rw [lim_is]; have := F.ln; omega)
    unfold q4
    rw [ev_SetLc, ev_Lc, it, ev_bind_ok, lc]
    rfl
  unfold qr4
  refine wsq e2 ?_
  have e3 : q5 ρ2 [some c] = .ok (.nx, ρ2) [some c] := by
    unfold q5
    have ln : mBi gLen (mCons (mVar 4) mNil) ρ2 [some c] = .ok (nI (sep m).length) [some c] := by
      rw [ev_Bi, ev_Cons, show mVar 4 ρ2 [some c] = .ok (.lst ((sep m).map ppN)) [some c] from by subst g2; rfl, ev_bind_ok, ev_Nil]
      show lift (gLen [.lst ((sep m).map ppN)]) _ = _
      rw [gLen_l, List.length_map]
      rfl
    have ix : mOp gIx (mLst (mCons (mC (.int 0)) (mCons (mC (.int 1)) (mCons (mC (.int 2)) (mCons (mC (.int 6)) (mCons (mC (.int 22)) (mCons (mC (.int 90)) mNil))))))) (mVar 2) ρ2 [some c] = .ok (nI (sep m).length) [some c] := by
      refine opI (x := .lst (cs.map nI)) (y := nI m) rfl (by subst g2; rfl) ?_
      show gIx (.lst (cs.map nI)) (.int (m : Int)) = _
      rw [g_ixL]
      exact watI (by rw [List.getElem?_map, hcs]; rfl)
    exact if_skip (cmp_ok ln ix (gNe_sm (n := 0) (m := 0) (b := true) (sm_nI _) (sm_nI _) (by decide) (by decide) ⟨fun _ => rfl, fun _ => rfl⟩))
  unfold qr5
  refine wsq e3 ?_
  obtain ⟨dL, c1, eL, hc1, L, rfl, OL⟩ := law_order_spec (m := m) hc (by omega)
  obtain ⟨ρ3, e4, g3⟩ : ∃ ρ3, q6 ρ2 [some c] = .ok (.nx, ρ3) [some c1] ∧ ρ3 = eW s0 (vv (nI m)) (vv (tN (List.range m))) (vv (.lst ((sep m).map ppN))) (vv (ppN L)) none none none none := by
    refine ⟨ρ2.set 5 (vv (ppN L)), st_set (call_row (R := []) (by subst g2; rfl) (x := nI m) (by subst g2; rfl) eL), by subst g2; rfl⟩
  unfold qr6
  refine wsq e4 ?_
  have cpos : sep m ≠ [] := fun z => by
    rw [z] at hcs
    exact cs_pos m (by omega) h1 hcs
  obtain ⟨i, d, c2, hd, hc2, ep⟩ := pick_spec hc1 (ds := (sep m).map ppN) (by simpa using cpos) (by rw [List.length_map]; omega)
  rw [← e_pick] at ep
  rw [List.getElem?_map] at hd
  obtain ⟨x, hx, rfl⟩ : ∃ x, (sep m)[i]? = some x ∧ ppN x = d := by
    cases hq : (sep m)[i]? with
    | none => rw [hq] at hd; cases hd
    | some x => rw [hq] at hd; exact ⟨x, rfl, Option.some.inj hd⟩
  obtain ⟨xa, xp⟩ := sep_mem.mp (List.mem_of_getElem? hx)
  obtain ⟨pr, w, ew, dw, pw, cw, lw⟩ := F.ok x xa xp
  obtain ⟨ρ4, e5, g4⟩ : ∃ ρ4, q7 ρ3 [some c1] = .ok (.nx, ρ4) [some c2] ∧ ρ4 = eW s0 (vv (nI m)) (vv (tN (List.range m))) (vv (.lst ((sep m).map ppN))) (vv (ppN L)) (vv (ppN x)) none none none := by
    refine ⟨ρ3.set 6 (vv (ppN x)), st_set (call_row (R := []) (by subst g3; rfl) (x := .lst ((sep m).map ppN)) (by subst g3; rfl) ep), by subst g3; rfl⟩
  unfold qr7
  refine wsq e5 ?_
  have Ox : Ordr m x := ⟨F.ord x xa⟩
  have Or : Ordr m (List.range m) := ⟨.refl _⟩
  have lL := OL.len
  obtain ⟨φ, hφ⟩ : ∃ φ : Nat → Nat, φ = fun i => L.getD i 0 := ⟨_, rfl⟩
  have φat : ∀ i, i < m → L[i]? = some (φ i) := fun i hi => by
    rw [hφ]
    show L[i]? = some (L.getD i 0)
    rw [List.getD_eq_getElem?_getD, List.getElem?_eq_getElem (by omega)]
    rfl
  have back : ∀ i, i < m → L.idxOf (φ i) = i := fun i hi => by
    have h := φat i hi
    rw [List.getElem?_eq_getElem (by omega)] at h
    rw [← Option.some.inj h]
    exact List.Nodup.idxOf_getElem OL.nd i (by omega)
  have mapr : (List.range m).map φ = L := by
    refine List.ext_getElem? fun i => ?_
    rw [List.getElem?_map]
    by_cases hi : i < m
    · rw [List.getElem?_range hi, φat i hi]
      rfl
    · rw [List.getElem?_eq_none (by rw [List.length_range]; omega), List.getElem?_eq_none (by omega)]
      rfl
  have O1 : Ordr m ((List.range m).map φ) := by rw [mapr]; exact OL
  have O2 : Ordr m (x.map φ) := ⟨(Ox.perm.map φ).trans O1.perm⟩
  obtain ⟨v, hv⟩ : ∃ v, v = w.map (rn φ) := ⟨_, rfl⟩
  have ev' : wo 6 ((List.range m).map φ) (x.map φ) = some v := by
    rw [wo_map (φ := φ) (ψ := fun a => L.idxOf a) 6 _ _ (fun a ha => back a (List.mem_range.mp ha)) (fun a ha => back a (Ox.lt a ha)), ew, hv]
    rfl
  have sl1 := slicing_spec O1 O2 h1 h5
  rw [ev'] at sl1
  have sl2 := slicing_spec Or Ox h1 h5
  rw [ew] at sl2
  have nv : (nums v).Perm (List.range m) := by
    rw [hv, rn_nums]
    exact (pw.map φ).trans O1.perm
  have dv : dep v 0 = some 1 := by rw [hv, rn_dep]; exact dw
  have cv : (v.filter Tk.isL).length + 1 = m := by rw [hv, rn_lets]; exact cw
  have lv : v.length ≤ 20 := by rw [hv, List.length_map]; exact lw
  obtain ⟨S, hS⟩ : ∃ S : Store, S = [some c2] := ⟨_, rfl⟩
  rw [← hS] at e5 ⊢
  have names : ∀ (j : Nat) (fi : DDn) (y : List Nat), (∀ a ∈ y, a < m) → y.length ≤ 8 → fi ρ4 S = .ok (y.map nI) S → mBi gTuple (mCons (mLc fi (.nm 11) mYes (mOp gIx (mUnp (mVar 5)) (mVar 11)) [11]) mNil) ρ4 S = .ok (tN (y.map φ)) S := fun j fi y hy hl hf => by
    have lc := lcA1 (tg := .nm 11) (fe := (mOp gIx (mUnp (mVar 5)) (mVar 11))) (ρ := wipeE ρ4 [11]) (S := S) nI (fun a => nI (φ a)) y (fun a ha => ⟨(wipeE ρ4 [11]).set 11 (vv (nI a)), by subst g4; rfl, by
      refine opI (x := .tup (L.map nI)) (y := nI a) (by subst g4; rfl) (by subst g4; rfl) ?_
      show gIx (.tup (L.map nI)) (.int (a : Int)) = _
      rw [g_ixT]
      exact watI (by rw [List.getElem?_map, φat a (hy a ha)]; rfl)⟩) (by rw [lim_is]; omega)
    refine bi1 (x := .lst (y.map fun a => nI (φ a))) ?_ ?_
    · rw [ev_Lc, hf, ev_bind_ok, lc]
      rfl
    · rw [g_tupL]
      unfold tN
      rw [List.map_map]
      rfl
  obtain ⟨ρ5, e6, g5⟩ : ∃ ρ5, q8 ρ4 S = .ok (.nx, ρ5) S ∧ ρ5 = eW s0 (vv (nI m)) (vv (tN (List.range m))) (vv (.lst ((sep m).map ppN))) (vv (ppN L)) (vv (ppN x)) (vv (wd v)) none none := by
    refine ⟨ρ4.set 7 (vv (wd v)), st_set ?_, by subst g4; rfl⟩
    have n1 := names 3 (mIt (mVar 3)) (List.range m) (fun a ha => List.mem_range.mp ha) (by rw [List.length_range]; omega) (by subst g4; rfl)
    have n2 := names 6 (mIt (mUnp (mVar 6))) x (fun a ha => Ox.lt a ha) (by have := Ox.len; omega) (by subst g4; rfl)
    exact cl2 (F := d_slicing_of) n1 n2 sl1
  unfold qr8
  refine wsq e6 ?_
  obtain ⟨_, le2⟩ := letters_ev (w := v) (i := 7) (ρ := ρ5) (S := S) (by omega) (by subst g5; rfl) fun t => ⟨by subst g5; rfl, fun S => by subst g5; rfl⟩
  have e7 : q9 ρ5 S = .ok (.nx, ρ5) S := by
    unfold q9
    have a1 : mBi gSorted (mCons (mLc (mIt (mVar 7)) (.nm 10) (mNotT (mTru (mIsT "str" (mVar 10)))) (mVar 10) [10]) mNil) ρ5 S = .ok (.lst ((List.range m).map nI)) S := by
      refine bi1 le2 ?_
      show (intsOf ((nums v).map nI)).map (fun is => D.lst ((sortI is).map D.int)) = _
      rw [intsOf_nI]
      show some (D.lst ((sortI ((nums v).map fun n : Nat => (n : Int))).map D.int)) = _
      rw [sort_range nv, List.map_map]
      rfl
    have a2 : mListRg (mVar 2) ρ5 S = .ok (.lst ((List.range m).map nI)) S := by
      unfold mListRg
      rw [show mVar 2 ρ5 S = .ok (nI m) S from by subst g5; rfl, ev_bind_ok]
      show (if (m : Int) ≤ 1000000 ∧ -1000000 ≤ (m : Int) then Out.ok (D.lst (rgD 0 (m : Int))) S else .bad) = _
      rw [if_pos ⟨by omega, by omega⟩, rgD_nat]
      rfl
    have smr : Sm 1 (.lst ((List.range m).map nI)) := .lst 0 _ fun d hd => by
      obtain ⟨a, _, rfl⟩ := List.mem_map.mp hd
      exact sm_nI a
    have f1 := cmp_ok a1 a2 (gNe_sm (b := true) smr smr (by decide) (by decide) ⟨fun _ => rfl, fun _ => rfl⟩)
    have iw := is_word_spec v
    rw [dv] at iw
    refine if_skip ?_
    rw [or_go f1]
    exact not_ok (tru_of (b := true) (cl1 (F := d__law_is_word) (x := wd v) (by subst g5; rfl) iw))
  unfold qr9
  refine wsq e7 ?_
  obtain ⟨ρ6, e8, g6⟩ : ∃ ρ6, q10 ρ5 S = .ok (.nx, ρ6) S ∧ ρ6 = eW s0 (vv (nI m)) (vv (tN (List.range m))) (vv (.lst ((sep m).map ppN))) (vv (ppN L)) (vv (ppN x)) (vv (wd v)) (vv (wd w)) none := by
    refine ⟨ρ5.set 8 (vv (wd w)), st_set ?_, by subst g5; rfl⟩
    exact cl2 (F := d_slicing_of) (x := tN (List.range m)) (y := tN x) (by subst g5; rfl) (by subst g5; rfl) sl2
  unfold qr10
  refine wsq e8 ?_
  obtain ⟨le1, _⟩ := letters_ev (w := v) (i := 7) (ρ := ρ6) (S := S) (by omega) (by subst g6; rfl) fun t => ⟨by subst g6; rfl, fun S => by subst g6; rfl⟩
  obtain ⟨ρ7, e9, g7⟩ : ∃ ρ7, q11 ρ6 S = .ok (.nx, ρ7) S ∧ ρ7 = eW s0 (vv (nI m)) (vv (tN (List.range m))) (vv (.lst ((sep m).map ppN))) (vv (ppN L)) (vv (ppN x)) (vv (wd v)) (vv (wd w)) (vv (.lst ((v.filter Tk.isL).map Tk.d))) := by
    refine ⟨ρ6.set 9 (vv (.lst ((v.filter Tk.isL).map Tk.d))), ?_, by subst g6; rfl⟩
    unfold q11
    rw [ev_SetLc, le1]
    rfl
  unfold qr11
  refine wsq e9 ?_
  obtain ⟨le3, _⟩ := letters_ev (w := w) (i := 8) (ρ := ρ7) (S := S) (by omega) (by subst g7; rfl) fun t => ⟨by subst g7; rfl, fun S => by subst g7; rfl⟩
  unfold qr12 q12
  have rv3 : mRev (mVar 3) ρ7 S = .ok (tN (List.range m).reverse) S := by
    unfold mRev
    rw [show mVar 3 ρ7 S = .ok (tN (List.range m)) S from by subst g7; rfl, ev_bind_ok]
    show lift (some (D.tup ((List.range m).map nI).reverse)) S = _
    unfold tN
    rw [List.map_reverse]
    rfl
  have rv6 : mRevP (mVar 6) ρ7 S = .ok (ppN x.reverse) S := by
    unfold mRevP
    rw [show mVar 6 ρ7 S = .ok (ppN x) S from by subst g7; rfl, ev_bind_ok]
    show Out.ok (D.ptp (x.map nI).reverse) S = _
    unfold ppN
    rw [List.map_reverse]
  have b1 : mB (mCmp gIsN (mCall d_pattern 2 (mConsE (mV (mRev (mVar 3))) (mConsE (mV (mRevP (mVar 6))) mNilE))) (mC .non)) ρ7 S = .ok (.bl true) S := b_of' (cmp_ok (cl2 (F := d_pattern) rv3 rv6 (isNon_t pr)) (y := .non) rfl rfl)
  have len1 : mBi gLen (mCons (mLc (mIt (mVar 8)) (.nm 10) (mTru (mIsT "str" (mVar 10))) (mVar 10) [10]) mNil) ρ7 S = .ok (nI (m - 1)) S := by
    refine bi1 le3 ?_
    rw [gLen_l, List.length_map, show (w.filter Tk.isL).length = m - 1 by omega]
    rfl
  have len2 : mBi gLen (mCons (mVar 9) mNil) ρ7 S = .ok (nI (m - 1)) S := by
    refine bi1 (x := .lst ((v.filter Tk.isL).map Tk.d)) (by subst g7; rfl) ?_
    rw [gLen_l, List.length_map, show (v.filter Tk.isL).length = m - 1 by omega]
    rfl
  have sub : mOp gSub (mVar 2) (mC (.int 1)) ρ7 S = .ok (nI (m - 1)) S := opI (x := nI m) (y := .int 1) (by subst g7; rfl) rfl (by
    show some (D.int ((m : Int) - 1)) = some (D.int ((m - 1 : Nat) : Int))
    congr 2
    omega)
  have b2 : mB (mChain gEq gEq (mBi gLen (mCons (mLc (mIt (mVar 8)) (.nm 10) (mTru (mIsT "str" (mVar 10))) (mVar 10) [10]) mNil)) (mBi gLen (mCons (mVar 9) mNil)) (mOp gSub (mVar 2) (mC (.int 1)))) ρ7 S = .ok (.bl true) S := by
    refine b_of' ?_
    rw [ev_Chain, len1, ev_bind_ok, len2, ev_bind_ok, gEq_n]
    show ((mOp gSub (mVar 2) (mC (.int 1)) ρ7 S).bind fun z S4 => lift (gEq (nI (m - 1)) z) S4) = _
    rw [sub, ev_bind_ok, gEq_n]
    rfl
  exact rets (S1 := S) (and_tt b1 b2)
theorem law_spec {c : Cell} (hc : RowOk c) {ρ : DL.Env} {S : Store} (hρ : ρ = eW s0 none none none none none none none none) (hS : S = [some c]) : Wp (qr1 ρ S) (Rt (.bl true)) NoX := by
  subst hS
  obtain ⟨a, c1, a0, a1, hc1, ea⟩ := draw (ρ := ρ) (i := 1) (fb := mC (.int 4)) (B := 4) (R := []) (by subst hρ; rfl) rfl (by decide) (by decide) hc
  obtain ⟨m, hm⟩ : ∃ m : Nat, (m : Int) = 1 + a := ⟨(1 + a).toNat, by omega⟩
  obtain ⟨ρ1, e1, g1⟩ : ∃ ρ1, q1 ρ [some c] = .ok (.nx, ρ1) [some c1] ∧ ρ1 = eW s0 (vv (nI m)) none none none none none none none := by
    refine ⟨ρ.set 2 (vv (nI m)), st_set ?_, by subst hρ; rfl⟩
    rw [ev_Op, show mC (.int 1) ρ [some c] = .ok (.int 1) [some c] from rfl, ev_bind_ok, ea, ev_bind_ok]
    show lift (some (D.int (1 + a))) _ = _
    rw [← hm]
    rfl
  unfold qr1
  refine wsq e1 ?_
  obtain ⟨b, c2, b0, b1, hc2, eb⟩ := draw (ρ := ρ1) (i := 1) (fb := mC (.int 12)) (B := 12) (R := []) (by subst g1; rfl) rfl (by decide) (by decide) hc1
  have ct : mCmp gEq (mCall d__law_taken 2 (mConsE (mCel 1) (mConsE (mV (mC (.int 12))) mNilE))) (mC (.int 0)) ρ1 [some c1] = .ok (decide (b = 0)) [some c2] := cmp_ok eb (y := .int 0) rfl (gEq_sm (n := 0) (m := 0) (.int 0 _) (.int 0 _) (by decide) (by decide) (by
    rw [decide_eq_true_eq]
    exact ⟨fun h => by rw [h], fun h => by injection h⟩))
  obtain ⟨k, ρ2, e2, g2, k1, k5⟩ : ∃ k ρ2, q2 ρ1 [some c1] = .ok (.nx, ρ2) [some c2] ∧ ρ2 = eW s0 (vv (nI k)) none none none none none none none ∧ 1 ≤ k ∧ k ≤ 5 := by
    by_cases h : b = 0
    · rw [decide_eq_true h] at ct
      refine ⟨5, ρ1.set 2 (vv (nI 5)), ?_, by subst g1; rfl, by decide, by decide⟩
      unfold q2
      rw [if_go ct]
      rfl
    · rw [decide_eq_false h] at ct
      exact ⟨m, ρ1, by unfold q2; exact if_skip ct, g1, by omega, by omega⟩
  unfold qr2
  refine wsq e2 ?_
  exact rest_spec k1 k5 hc2 g2 rfl
end
theorem law_true : ∀ ns : List Int, ns.length ≤ 63 → ∃ S', d_law [.v (.rol (ns.map D.int))] [] = .ok (.bl true) S' := by
  intro ns _
  refine ⟨[], denR ?_⟩
  let s : Option EV := vv (.rol (ns.map D.int))
  have h0 : RowOk (DL.row ns 0 3876 0) := ⟨ns, 0, 3876, 0, rfl, Int.le_refl _⟩
  obtain ⟨ρ1, S1, e, h1, h2⟩ : ∃ ρ1 S1, q0 ([s] ++ List.replicate 11 none) [] = .ok (.nx, ρ1) S1 ∧ ρ1 = eW s none none none none none none none none ∧ S1 = [some (DL.row ns 0 3876 0)] := by
    refine ⟨_, _, ?_, rfl, rfl⟩
    unfold q0
    rw [ev_Set]
    unfold mNew
    simp [s, vv, DL.row, lim_is, eW]
  show Wp (b_law ([s] ++ List.replicate 11 none) []) _ _
  rw [q_all]
  unfold qr0
  exact wsq e (law_spec h0 h1 h2)
end Pr
end

namespace Pr
open PySem PySem.Spec PyProof.Rows L2 DL

/-! ## the program's top -/
set_option maxHeartbeats 0 in
theorem all_mk {l : PySem.W.OpenLaw} {w : World} {K : PySem.W.Frag} {h : Heap} {mg : Str → Option Value} {fa : Addr} (X : K.In h) (G : h.Ns mainGlobals mg) (hfa : mg "law" = some (.ref fa))
    {ts : List Addr}
    {f0 : Addr} {od0 an0 : Option Addr} {sl0 : Array (Option Value)} {oc0 kV0 dc0 pm0 cd0 ct0 : Value}
    {f1 : Addr} {od1 an1 : Option Addr} {sl1 : Array (Option Value)} {oc1 kV1 dc1 pm1 cd1 ct1 : Value}
    {f2 : Addr} {od2 an2 : Option Addr} {sl2 : Array (Option Value)} {oc2 kV2 dc2 pm2 cd2 ct2 : Value}
    {f3 : Addr} {od3 an3 : Option Addr} {sl3 : Array (Option Value)} {oc3 kV3 dc3 pm3 cd3 ct3 : Value}
    {f4 : Addr} {od4 an4 : Option Addr} {sl4 : Array (Option Value)} {oc4 kV4 dc4 pm4 cd4 ct4 : Value}
    {f5 : Addr} {od5 an5 : Option Addr} {sl5 : Array (Option Value)} {oc5 kV5 dc5 pm5 cd5 ct5 : Value}
    {f6 : Addr} {od6 an6 : Option Addr} {sl6 : Array (Option Value)} {oc6 kV6 dc6 pm6 cd6 ct6 : Value}
    {f7 : Addr} {od7 an7 : Option Addr} {sl7 : Array (Option Value)} {oc7 kV7 dc7 pm7 cd7 ct7 : Value}
    {f8 : Addr} {od8 an8 : Option Addr} {sl8 : Array (Option Value)} {oc8 kV8 dc8 pm8 cd8 ct8 : Value}
    {f9 : Addr} {od9 an9 : Option Addr} {sl9 : Array (Option Value)} {oc9 kV9 dc9 pm9 cd9 ct9 : Value}
    {f10 : Addr} {od10 an10 : Option Addr} {sl10 : Array (Option Value)} {oc10 kV10 dc10 pm10 cd10 ct10 : Value}
    {f11 : Addr} {od11 an11 : Option Addr} {sl11 : Array (Option Value)} {oc11 kV11 dc11 pm11 cd11 ct11 : Value}
    {f12 : Addr} {od12 an12 : Option Addr} {sl12 : Array (Option Value)} {oc12 kV12 dc12 pm12 cd12 ct12 : Value}
    {f13 : Addr} {od13 an13 : Option Addr} {sl13 : Array (Option Value)} {oc13 kV13 dc13 pm13 cd13 ct13 : Value}
    {f14 : Addr} {od14 an14 : Option Addr} {sl14 : Array (Option Value)} {oc14 kV14 dc14 pm14 cd14 ct14 : Value}
    {f15 : Addr} {od15 an15 : Option Addr} {sl15 : Array (Option Value)} {oc15 kV15 dc15 pm15 cd15 ct15 : Value}
    {f16 : Addr} {od16 an16 : Option Addr} {sl16 : Array (Option Value)} {oc16 kV16 dc16 pm16 cd16 ct16 : Value}
    {t_MOST_BLOCKS : Tok}
    {C_BadOrders : Addr}
    (ht0_law : (PySem.W.tabIn K "law").isSome = true)
    (hn0_check_nets : mkOk K ts "check_nets" = true)
    (hn0_check_rules : mkOk K ts "check_rules" = true)
    (hn0_check_circuit : mkOk K ts "check_circuit" = true)
    (hn0_tight_row : mkOk K ts "tight_row" = true)
    (hn0_better_side : mkOk K ts "better_side" = true)
    (hn0_pushing_row : mkOk K ts "pushing_row" = true)
    (hn0_pusher_of : mkOk K ts "pusher_of" = true)
    (hn0_best_bush : mkOk K ts "best_bush" = true)
    (hn0_bush_upon : mkOk K ts "bush_upon" = true)
    (hn0_host_of : mkOk K ts "host_of" = true)
    (hn0_spread : mkOk K ts "spread" = true)
    (hn0_floor_options : mkOk K ts "floor_options" = true)
    (hn0_placed_floor : mkOk K ts "placed_floor" = true)
    (hn0_least_option : mkOk K ts "least_option" = true)
    (hn0_best_word : mkOk K ts "best_word" = true)
    (hn0_best_topology : mkOk K ts "best_topology" = true)
    (hn0_names_for : mkOk K ts "names_for" = true)
    (hn0_least_length : mkOk K ts "least_length" = true)
    (hn0_least_width : mkOk K ts "least_width" = true)
    (hn0_fewest_bends : mkOk K ts "fewest_bends" = true)
    (hn0_two_layers : mkOk K ts "two_layers" = true)
    (hK0 : PySem.W.noTabs K = true) (hok0 : tabsOk K = true)
    (a0 : PySem.W.nsIn K mainGlobals "_law_taken" = some (some (.ref f0))) (l0 : K.lookup f0 = some ⟨oc0, od0, .func (PySem.W.fnOf "_law_taken" "_law_taken" (defArgs st__law_taken) (defBody st__law_taken) (defScope st__law_taken) .none kV0 dc0 pm0 an0 cd0 ct0), sl0⟩) (c0 : PySem.W.codeIn K cd0 "_law_taken" = true) (k0 : PySem.W.keepIn K (.ref f0) = true)
    (a1 : PySem.W.nsIn K mainGlobals "_law_all_orders" = some (some (.ref f1))) (l1 : K.lookup f1 = some ⟨oc1, od1, .func (PySem.W.fnOf "_law_all_orders" "_law_all_orders" (defArgs st__law_all_orders) (defBody st__law_all_orders) (defScope st__law_all_orders) .none kV1 dc1 pm1 an1 cd1 ct1), sl1⟩) (c1 : PySem.W.codeIn K cd1 "_law_all_orders" = true) (k1 : PySem.W.keepIn K (.ref f1) = true)
    (a2 : PySem.W.nsIn K mainGlobals "is_tuple_of" = some (some (.ref f2))) (l2 : K.lookup f2 = some ⟨oc2, od2, .func (PySem.W.fnOf "is_tuple_of" "is_tuple_of" (defArgs st_is_tuple_of) (defBody st_is_tuple_of) (defScope st_is_tuple_of) .none kV2 dc2 pm2 an2 cd2 ct2), sl2⟩) (c2 : PySem.W.codeIn K cd2 "is_tuple_of" = true) (k2 : PySem.W.keepIn K (.ref f2) = true)
    (a3 : PySem.W.nsIn K mainGlobals "is_integer" = some (some (.ref f3))) (l3 : K.lookup f3 = some ⟨oc3, od3, .func (PySem.W.fnOf "is_integer" "is_integer" (defArgs st_is_integer) (defBody st_is_integer) (defScope st_is_integer) .none kV3 dc3 pm3 an3 cd3 ct3), sl3⟩) (c3 : PySem.W.codeIn K cd3 "is_integer" = true) (k3 : PySem.W.keepIn K (.ref f3) = true)
    (a4 : PySem.W.nsIn K mainGlobals "is_between" = some (some (.ref f4))) (l4 : K.lookup f4 = some ⟨oc4, od4, .func (PySem.W.fnOf "is_between" "is_between" (defArgs st_is_between) (defBody st_is_between) (defScope st_is_between) .none kV4 dc4 pm4 an4 cd4 ct4), sl4⟩) (c4 : PySem.W.codeIn K cd4 "is_between" = true) (k4 : PySem.W.keepIn K (.ref f4) = true)
    (a5 : PySem.W.nsIn K mainGlobals "is_order" = some (some (.ref f5))) (l5 : K.lookup f5 = some ⟨oc5, od5, .func (PySem.W.fnOf "is_order" "is_order" (defArgs st_is_order) (defBody st_is_order) (defScope st_is_order) .none kV5 dc5 pm5 an5 cd5 ct5), sl5⟩) (c5 : PySem.W.codeIn K cd5 "is_order" = true) (k5 : PySem.W.keepIn K (.ref f5) = true)
    (a6 : PySem.W.nsIn K mainGlobals "check_order" = some (some (.ref f6))) (l6 : K.lookup f6 = some ⟨oc6, od6, .func (PySem.W.fnOf "check_order" "check_order" (defArgs st_check_order) (defBody st_check_order) (defScope st_check_order) .none kV6 dc6 pm6 an6 cd6 ct6), sl6⟩) (c6 : PySem.W.codeIn K cd6 "check_order" = true) (k6 : PySem.W.keepIn K (.ref f6) = true)
    (a7 : PySem.W.nsIn K mainGlobals "check_pair" = some (some (.ref f7))) (l7 : K.lookup f7 = some ⟨oc7, od7, .func (PySem.W.fnOf "check_pair" "check_pair" (defArgs st_check_pair) (defBody st_check_pair) (defScope st_check_pair) .none kV7 dc7 pm7 an7 cd7 ct7), sl7⟩) (c7 : PySem.W.codeIn K cd7 "check_pair" = true) (k7 : PySem.W.keepIn K (.ref f7) = true)
    (a8 : PySem.W.nsIn K mainGlobals "pattern" = some (some (.ref f8))) (l8 : K.lookup f8 = some ⟨oc8, od8, .func (PySem.W.fnOf "pattern" "pattern" (defArgs st_pattern) (defBody st_pattern) (defScope st_pattern) .none kV8 dc8 pm8 an8 cd8 ct8), sl8⟩) (c8 : PySem.W.codeIn K cd8 "pattern" = true) (k8 : PySem.W.keepIn K (.ref f8) = true)
    (a9 : PySem.W.nsIn K mainGlobals "_law_order" = some (some (.ref f9))) (l9 : K.lookup f9 = some ⟨oc9, od9, .func (PySem.W.fnOf "_law_order" "_law_order" (defArgs st__law_order) (defBody st__law_order) (defScope st__law_order) .none kV9 dc9 pm9 an9 cd9 ct9), sl9⟩) (c9 : PySem.W.codeIn K cd9 "_law_order" = true) (k9 : PySem.W.keepIn K (.ref f9) = true)
    (a10 : PySem.W.nsIn K mainGlobals "_law_pick" = some (some (.ref f10))) (l10 : K.lookup f10 = some ⟨oc10, od10, .func (PySem.W.fnOf "_law_pick" "_law_pick" (defArgs st__law_pick) (defBody st__law_pick) (defScope st__law_pick) .none kV10 dc10 pm10 an10 cd10 ct10), sl10⟩) (c10 : PySem.W.codeIn K cd10 "_law_pick" = true) (k10 : PySem.W.keepIn K (.ref f10) = true)
    (a11 : PySem.W.nsIn K mainGlobals "have_same_blocks" = some (some (.ref f11))) (l11 : K.lookup f11 = some ⟨oc11, od11, .func (PySem.W.fnOf "have_same_blocks" "have_same_blocks" (defArgs st_have_same_blocks) (defBody st_have_same_blocks) (defScope st_have_same_blocks) .none kV11 dc11 pm11 an11 cd11 ct11), sl11⟩) (c11 : PySem.W.codeIn K cd11 "have_same_blocks" = true) (k11 : PySem.W.keepIn K (.ref f11) = true)
    (a12 : PySem.W.nsIn K mainGlobals "joined" = some (some (.ref f12))) (l12 : K.lookup f12 = some ⟨oc12, od12, .func (PySem.W.fnOf "joined" "joined" (defArgs st_joined) (defBody st_joined) (defScope st_joined) .none kV12 dc12 pm12 an12 cd12 ct12), sl12⟩) (c12 : PySem.W.codeIn K cd12 "joined" = true) (k12 : PySem.W.keepIn K (.ref f12) = true)
    (a13 : PySem.W.nsIn K mainGlobals "word_of_orders" = some (some (.ref f13))) (l13 : K.lookup f13 = some ⟨oc13, od13, .func (PySem.W.fnOf "word_of_orders" "word_of_orders" (defArgs st_word_of_orders) (defBody st_word_of_orders) (defScope st_word_of_orders) .none kV13 dc13 pm13 an13 cd13 ct13), sl13⟩) (c13 : PySem.W.codeIn K cd13 "word_of_orders" = true) (k13 : PySem.W.keepIn K (.ref f13) = true)
    (a14 : PySem.W.nsIn K mainGlobals "slicing_of" = some (some (.ref f14))) (l14 : K.lookup f14 = some ⟨oc14, od14, .func (PySem.W.fnOf "slicing_of" "slicing_of" (defArgs st_slicing_of) (defBody st_slicing_of) (defScope st_slicing_of) .none kV14 dc14 pm14 an14 cd14 ct14), sl14⟩) (c14 : PySem.W.codeIn K cd14 "slicing_of" = true) (k14 : PySem.W.keepIn K (.ref f14) = true)
    (a15 : PySem.W.nsIn K mainGlobals "_law_is_word" = some (some (.ref f15))) (l15 : K.lookup f15 = some ⟨oc15, od15, .func (PySem.W.fnOf "_law_is_word" "_law_is_word" (defArgs st__law_is_word) (defBody st__law_is_word) (defScope st__law_is_word) .none kV15 dc15 pm15 an15 cd15 ct15), sl15⟩) (c15 : PySem.W.codeIn K cd15 "_law_is_word" = true) (k15 : PySem.W.keepIn K (.ref f15) = true)
    (a16 : PySem.W.nsIn K mainGlobals "law" = some (some (.ref f16))) (l16 : K.lookup f16 = some ⟨oc16, od16, .func (PySem.W.fnOf "law" "law" (defArgs st_law) (defBody st_law) (defScope st_law) .none kV16 dc16 pm16 an16 cd16 ct16), sl16⟩) (c16 : PySem.W.codeIn K cd16 "law" = true) (k16 : PySem.W.keepIn K (.ref f16) = true)
    (i_combinations : PySem.W.nsIn K mainGlobals "combinations" = some (some (.type "itertools.combinations")))
    (z_all : PySem.W.nsIn K mainGlobals "all" = some none)
    (z_bool : PySem.W.nsIn K mainGlobals "bool" = some none)
    (z_int : PySem.W.nsIn K mainGlobals "int" = some none)
    (z_isinstance : PySem.W.nsIn K mainGlobals "isinstance" = some none)
    (z_len : PySem.W.nsIn K mainGlobals "len" = some none)
    (z_list : PySem.W.nsIn K mainGlobals "list" = some none)
    (z_range : PySem.W.nsIn K mainGlobals "range" = some none)
    (z_set : PySem.W.nsIn K mainGlobals "set" = some none)
    (z_sorted : PySem.W.nsIn K mainGlobals "sorted" = some none)
    (z_str : PySem.W.nsIn K mainGlobals "str" = some none)
    (z_tuple : PySem.W.nsIn K mainGlobals "tuple" = some none)
    (y_MOST_BLOCKS : PySem.W.nsIn K mainGlobals "MOST_BLOCKS" = some (some (.int 8 t_MOST_BLOCKS)))
    (xa_BadOrders : PySem.W.nsIn K mainGlobals "BadOrders" = some (some (.ref C_BadOrders)))
    (xg_BadOrders : PySem.W.findIn K (.ref C_BadOrders) "__getattribute__" = some (some (.builtin "BaseException.__getattribute__")))
    (xk_BadOrders : PySem.W.findIn K (.ref C_BadOrders) "__getattr__" = some none)
    (xs_BadOrders : PySem.W.subIn K (.ref C_BadOrders) (.type "BaseException") = some true)
    (xd_BadOrders : PySem.W.hasDictIn K C_BadOrders = true)
    (xc_BadOrders : PySem.W.findIn K (.ref C_BadOrders) "__class__" = some (some (.builtin "object.__class__")))
    (xm_BadOrders : PySem.W.mroIn K C_BadOrders (.type "object") = some true)
    (xt_BadOrders : PySem.W.typeIn K (.ref C_BadOrders) = some (.type "type"))
    (xp_BadOrders : PySem.W.keepIn K (.ref C_BadOrders) = true)
    (xn : PySem.W.specialIn K (.builtin "object.__class__") "__get__" = some (some (.builtin "getset_descriptor.__get__")))
    (xu : PySem.W.takesIn K (.builtin "object.__class__") = some true)
    (xe_BadOrders : PySem.W.excIn K C_BadOrders [.type "ValueError", .type "Exception", .type "BaseException", .type "object"] "ValueError.__new__" = true)
    (hlaw : ∀ ns : List Int, ns.length ≤ 63 → ∃ S', d_law [.v (.rol (ns.map D.int))] [] = .ok (.bl true) S') :
    ∃ fd : FuncData, (∀ m ∈ makers, m.1 = "law" ∨ mkOk K ts m.1 = true) ∧ PySem.W.noTabs K = true ∧ (∀ (s : Shared) (v : Value), BindsTo s fd ⟨[v], []⟩ [("script", v)]) ∧ ∀ base : Heap, K.In base → base.Ns mainGlobals mg → (∀ m ∈ makers, ∀ c P, PySem.W.tabIn K m.1 = some (c, P) → LamX.TabB base mg c P) → FnOk l.prog w K mg base (L2.CX l.prog w) 11 fa fd ["script"] (spLaw K) := by
  have B : Bi mg := ⟨PySem.W.mg_none_of X G z_all, PySem.W.mg_none_of X G z_bool, PySem.W.mg_none_of X G z_int, PySem.W.mg_none_of X G z_isinstance, PySem.W.mg_none_of X G z_len, PySem.W.mg_none_of X G z_list, PySem.W.mg_none_of X G z_range, PySem.W.mg_none_of X G z_set, PySem.W.mg_none_of X G z_sorted, PySem.W.mg_none_of X G z_str, PySem.W.mg_none_of X G z_tuple⟩
  have I_combinations := PySem.W.mg_of X G i_combinations
  have K_MOST_BLOCKS : Kon ⟨K, mg, none⟩ "MOST_BLOCKS" k_MOST_BLOCKS := kon_int (PySem.W.mg_of X G y_MOST_BLOCKS)
  have F0 := fun_mk (st := st__law_taken) l0 c0 k0
  have b0 := F0.binds (ps := ["row", "many"]) fun _ _ _ _ _ _ us hl => match us, hl with | [_, _], _ => rfl
  have m0 := PySem.W.mg_of X G a0
  have F1 := fun_mk (st := st__law_all_orders) l1 c1 k1
  have b1 := F1.binds (ps := ["many"]) fun _ _ _ _ _ _ us hl => match us, hl with | [_], _ => rfl
  have m1 := PySem.W.mg_of X G a1
  have F2 := fun_mk (st := st_is_tuple_of) l2 c2 k2
  have b2 := F2.binds (ps := ["value", "least", "most"]) fun _ _ _ _ _ _ us hl => match us, hl with | [_, _, _], _ => rfl
  have m2 := PySem.W.mg_of X G a2
  have F3 := fun_mk (st := st_is_integer) l3 c3 k3
  have b3 := F3.binds (ps := ["value"]) fun _ _ _ _ _ _ us hl => match us, hl with | [_], _ => rfl
  have m3 := PySem.W.mg_of X G a3
  have F4 := fun_mk (st := st_is_between) l4 c4 k4
  have b4 := F4.binds (ps := ["value", "least", "most"]) fun _ _ _ _ _ _ us hl => match us, hl with | [_, _, _], _ => rfl
  have m4 := PySem.W.mg_of X G a4
  have F5 := fun_mk (st := st_is_order) l5 c5 k5
  have b5 := F5.binds (ps := ["value", "many"]) fun _ _ _ _ _ _ us hl => match us, hl with | [_, _], _ => rfl
  have m5 := PySem.W.mg_of X G a5
  have F6 := fun_mk (st := st_check_order) l6 c6 k6
  have b6 := F6.binds (ps := ["value", "many"]) fun _ _ _ _ _ _ us hl => match us, hl with | [_, _], _ => rfl
  have m6 := PySem.W.mg_of X G a6
  have F7 := fun_mk (st := st_check_pair) l7 c7 k7
  have b7 := F7.binds (ps := ["first", "second"]) fun _ _ _ _ _ _ us hl => match us, hl with | [_, _], _ => rfl
  have m7 := PySem.W.mg_of X G a7
  have F8 := fun_mk (st := st_pattern) l8 c8 k8
  have b8 := F8.binds (ps := ["first", "second"]) fun _ _ _ _ _ _ us hl => match us, hl with | [_, _], _ => rfl
  have m8 := PySem.W.mg_of X G a8
  have F9 := fun_mk (st := st__law_order) l9 c9 k9
  have b9 := F9.binds (ps := ["row", "many"]) fun _ _ _ _ _ _ us hl => match us, hl with | [_, _], _ => rfl
  have m9 := PySem.W.mg_of X G a9
  have F10 := fun_mk (st := st__law_pick) l10 c10 k10
  have b10 := F10.binds (ps := ["row", "things"]) fun _ _ _ _ _ _ us hl => match us, hl with | [_, _], _ => rfl
  have m10 := PySem.W.mg_of X G a10
  have F11 := fun_mk (st := st_have_same_blocks) l11 c11 k11
  have b11 := F11.binds (ps := ["one", "other"]) fun _ _ _ _ _ _ us hl => match us, hl with | [_, _], _ => rfl
  have m11 := PySem.W.mg_of X G a11
  have F12 := fun_mk (st := st_joined) l12 c12 k12
  have b12 := F12.binds (ps := ["one", "other", "letter"]) fun _ _ _ _ _ _ us hl => match us, hl with | [_, _, _], _ => rfl
  have m12 := PySem.W.mg_of X G a12
  have F13 := fun_mk (st := st_word_of_orders) l13 c13 k13
  have b13 := F13.binds (ps := ["first", "second"]) fun _ _ _ _ _ _ us hl => match us, hl with | [_, _], _ => rfl
  have m13 := PySem.W.mg_of X G a13
  have F14 := fun_mk (st := st_slicing_of) l14 c14 k14
  have b14 := F14.binds (ps := ["first", "second"]) fun _ _ _ _ _ _ us hl => match us, hl with | [_, _], _ => rfl
  have m14 := PySem.W.mg_of X G a14
  have F15 := fun_mk (st := st__law_is_word) l15 c15 k15
  have b15 := F15.binds (ps := ["word"]) fun _ _ _ _ _ _ us hl => match us, hl with | [_], _ => rfl
  have m15 := PySem.W.mg_of X G a15
  have F16 := fun_mk (st := st_law) l16 c16 k16
  have b16 := F16.binds (ps := ["script"]) fun _ _ _ _ _ _ us hl => match us, hl with | [_], _ => rfl
  have m16 := PySem.W.mg_of X G a16
  have e := hfa.symm.trans m16
  cases e
  obtain ⟨⟨c_law, P_law⟩, ht1_law⟩ := Option.isSome_iff_exists.mp ht0_law
  refine ⟨PySem.W.fnOf "law" "law" (defArgs st_law) (defBody st_law) (defScope st_law) .none kV16 dc16 pm16 an16 (cd16) ct16, fun m hm => ?_, hK0, fun s v => .of_eq rfl, fun base hK hB TBs => ?_⟩
  · simp only [makers, List.mem_cons, List.not_mem_nil, or_false] at hm
    rcases hm with rfl | rfl | rfl | rfl | rfl | rfl | rfl | rfl | rfl | rfl | rfl | rfl | rfl | rfl | rfl | rfl | rfl | rfl | rfl | rfl | rfl | rfl
    · exact .inl rfl
    · exact .inr hn0_check_nets
    · exact .inr hn0_check_rules
    · exact .inr hn0_check_circuit
    · exact .inr hn0_tight_row
    · exact .inr hn0_better_side
    · exact .inr hn0_pushing_row
    · exact .inr hn0_pusher_of
    · exact .inr hn0_best_bush
    · exact .inr hn0_bush_upon
    · exact .inr hn0_host_of
    · exact .inr hn0_spread
    · exact .inr hn0_floor_options
    · exact .inr hn0_placed_floor
    · exact .inr hn0_least_option
    · exact .inr hn0_best_word
    · exact .inr hn0_best_topology
    · exact .inr hn0_names_for
    · exact .inr hn0_least_length
    · exact .inr hn0_least_width
    · exact .inr hn0_fewest_bends
    · exact .inr hn0_two_layers
  have TB_law := TBs ("law", "law.<locals>.<lambda>") (by decide +kernel) c_law P_law ht1_law
  have pl_BadOrders : OwnP ⟨K, mg, none⟩ "BadOrders" := ⟨C_BadOrders, _, _, _, _, PySem.W.mg_of X G xa_BadOrders, PySem.F.excBase_ValueError, xe_BadOrders, xp_BadOrders, xs_BadOrders, xt_BadOrders⟩
  have XC_BadOrders : ExcC K C_BadOrders := ⟨xg_BadOrders, xk_BadOrders, xs_BadOrders, xd_BadOrders, xc_BadOrders, xn, xu, xm_BadOrders⟩
  have tab : XTab K mg xtab := ⟨fun y t b h C hC => by
    unfold xtab at h
    split at h
    · rename_i hy; subst hy; obtain rfl : C_BadOrders = C := by (have z := (PySem.W.mg_of X G xa_BadOrders).symm.trans hC; cases z; rfl)
      refine ⟨XC_BadOrders, ?_⟩
      cases h
    cases h⟩
  have fld : XFld K mg xfld := ⟨fun y f h C hC => by
    unfold xfld at h
    cases h⟩
  have EX : Exs l.prog w K mg base := { pl_BadOrders := pl_BadOrders, tab := tab, fld := fld }
  have D__law_taken := ok__law_taken (base := base) (P := l.prog) (w := w) B F0 m0 b0
  have D__law_all_orders := ok__law_all_orders (base := base) (P := l.prog) (w := w) B F1 m1 b1
  have D_is_tuple_of := ok_is_tuple_of (base := base) (P := l.prog) (w := w) B F2 m2 b2
  have D_is_integer := ok_is_integer (base := base) (P := l.prog) (w := w) B F3 m3 b3
  have D_is_between := ok_is_between (base := base) (P := l.prog) (w := w) B D_is_integer F4 m4 b4
  have D_is_order := ok_is_order (base := base) (P := l.prog) (w := w) B D_is_tuple_of D_is_between F5 m5 b5
  have D_check_order := ok_check_order (base := base) (P := l.prog) (w := w) B EX D_is_order F6 m6 b6
  have D_check_pair := ok_check_pair (base := base) (P := l.prog) (w := w) B EX K_MOST_BLOCKS D_is_tuple_of D_check_order F7 m7 b7
  have D_pattern := ok_pattern (base := base) (P := l.prog) (w := w) B I_combinations D_check_pair F8 m8 b8
  have D__law_order := ok__law_order (base := base) (P := l.prog) (w := w) B D__law_taken F9 m9 b9
  have D__law_pick := ok__law_pick (base := base) (P := l.prog) (w := w) B D__law_taken F10 m10 b10
  have D_have_same_blocks := ok_have_same_blocks (base := base) (P := l.prog) (w := w) B F11 m11 b11
  have D_joined := ok_joined (base := base) (P := l.prog) (w := w) B F12 m12 b12
  have D_word_of_orders := ok_word_of_orders (base := base) (P := l.prog) (w := w) B D_have_same_blocks D_joined F13 m13 b13 6
  have D_slicing_of := ok_slicing_of (base := base) (P := l.prog) (w := w) B D_check_pair D_word_of_orders F14 m14 b14
  have D__law_is_word := ok__law_is_word (base := base) (P := l.prog) (w := w) B F15 m15 b15
  exact law_fn (G := ⟨K, mg, none⟩) (ok_law B D__law_taken D__law_all_orders D_pattern D__law_order D__law_pick D_slicing_of D__law_is_word F16 m16 b16) hlaw
end Pr
open PySem PySem.W PyProof.Rows
set_option maxRecDepth 100000 in
set_option maxHeartbeats 0 in
theorem PySem.Challenge.cw_chipfloor_k76_whole_counts_of_slicing_or_holds : PySem.Challenge.rw_chipfloor_k76_whole_counts_of_slicing_or.Holds := by
  w_on; o_law; k_head; (case hw => w_witness2)
  k_fill
  refine DL.walk (ts := []) (l := PySem.Challenge.rw_chipfloor_k76_whole_counts_of_slicing_or) (k := 11) rfl rfl ⟨rfl, by decide, by decide⟩ (fun w h Y => PySem.W.kIn_of Y) (fun w h Y P hP => absurd hP (by simp)) rfl ?F
  case F =>
    intro w mg fa h KX G hmg
    refine' Pr.all_mk KX G hmg ?ht0_law ?hn0_check_nets ?hn0_check_rules ?hn0_check_circuit ?hn0_tight_row ?hn0_better_side ?hn0_pushing_row ?hn0_pusher_of ?hn0_best_bush ?hn0_bush_upon ?hn0_host_of ?hn0_spread ?hn0_floor_options ?hn0_placed_floor ?hn0_least_option ?hn0_best_word ?hn0_best_topology ?hn0_names_for ?hn0_least_length ?hn0_least_width ?hn0_fewest_bends ?hn0_two_layers ?hK0 ?hok0 ?a0 ?l0 ?c0 ?k0 ?a1 ?l1 ?c1 ?k1 ?a2 ?l2 ?c2 ?k2 ?a3 ?l3 ?c3 ?k3 ?a4 ?l4 ?c4 ?k4 ?a5 ?l5 ?c5 ?k5 ?a6 ?l6 ?c6 ?k6 ?a7 ?l7 ?c7 ?k7 ?a8 ?l8 ?c8 ?k8 ?a9 ?l9 ?c9 ?k9 ?a10 ?l10 ?c10 ?k10 ?a11 ?l11 ?c11 ?k11 ?a12 ?l12 ?c12 ?k12 ?a13 ?l13 ?c13 ?k13 ?a14 ?l14 ?c14 ?k14 ?a15 ?l15 ?c15 ?k15 ?a16 ?l16 ?c16 ?k16 ?i_combinations ?z_all ?z_bool ?z_int ?z_isinstance ?z_len ?z_list ?z_range ?z_set ?z_sorted ?z_str ?z_tuple ?y_MOST_BLOCKS ?xa_BadOrders ?xg_BadOrders ?xk_BadOrders ?xs_BadOrders ?xd_BadOrders ?xc_BadOrders ?xm_BadOrders ?xt_BadOrders ?xp_BadOrders ?xn ?xu ?xe_BadOrders Pr.law_true
    (case ht0_law => kernel_rfl)
    (case hn0_check_nets => kernel_rfl)
    (case hn0_check_rules => kernel_rfl)
    (case hn0_check_circuit => kernel_rfl)
    (case hn0_tight_row => kernel_rfl)
    (case hn0_better_side => kernel_rfl)
    (case hn0_pushing_row => kernel_rfl)
    (case hn0_pusher_of => kernel_rfl)
    (case hn0_best_bush => kernel_rfl)
    (case hn0_bush_upon => kernel_rfl)
    (case hn0_host_of => kernel_rfl)
    (case hn0_spread => kernel_rfl)
    (case hn0_floor_options => kernel_rfl)
    (case hn0_placed_floor => kernel_rfl)
    (case hn0_least_option => kernel_rfl)
    (case hn0_best_word => kernel_rfl)
    (case hn0_best_topology => kernel_rfl)
    (case hn0_names_for => kernel_rfl)
    (case hn0_least_length => kernel_rfl)
    (case hn0_least_width => kernel_rfl)
    (case hn0_fewest_bends => kernel_rfl)
    (case hn0_two_layers => kernel_rfl)
    (case hK0 => kernel_rfl)
    (case hok0 => kernel_rfl)
    (case a0 => k_is)
    (case l0 => k_is)
    (case c0 => k_is)
    (case k0 => k_is)
    (case a1 => k_is)
    (case l1 => k_is)
    (case c1 => k_is)
    (case k1 => k_is)
    (case a2 => k_is)
    (case l2 => k_is)
    (case c2 => k_is)
    (case k2 => k_is)
    (case a3 => k_is)
    (case l3 => k_is)
    (case c3 => k_is)
    (case k3 => k_is)
    (case a4 => k_is)
    (case l4 => k_is)
    (case c4 => k_is)
    (case k4 => k_is)
    (case a5 => k_is)
    (case l5 => k_is)
    (case c5 => k_is)
    (case k5 => k_is)
    (case a6 => k_is)
    (case l6 => k_is)
    (case c6 => k_is)
    (case k6 => k_is)
    (case a7 => k_is)
    (case l7 => k_is)
    (case c7 => k_is)
    (case k7 => k_is)
    (case a8 => k_is)
    (case l8 => k_is)
    (case c8 => k_is)
    (case k8 => k_is)
    (case a9 => k_is)
    (case l9 => k_is)
    (case c9 => k_is)
    (case k9 => k_is)
    (case a10 => k_is)
    (case l10 => k_is)
    (case c10 => k_is)
    (case k10 => k_is)
    (case a11 => k_is)
    (case l11 => k_is)
    (case c11 => k_is)
    (case k11 => k_is)
    (case a12 => k_is)
    (case l12 => k_is)
    (case c12 => k_is)
    (case k12 => k_is)
    (case a13 => k_is)
    (case l13 => k_is)
    (case c13 => k_is)
    (case k13 => k_is)
    (case a14 => k_is)
    (case l14 => k_is)
    (case c14 => k_is)
    (case k14 => k_is)
    (case a15 => k_is)
    (case l15 => k_is)
    (case c15 => k_is)
    (case k15 => k_is)
    (case a16 => k_is)
    (case l16 => k_is)
    (case c16 => k_is)
    (case k16 => k_is)
    (case i_combinations => k_is)
    (case z_all => k_is)
    (case z_bool => k_is)
    (case z_int => k_is)
    (case z_isinstance => k_is)
    (case z_len => k_is)
    (case z_list => k_is)
    (case z_range => k_is)
    (case z_set => k_is)
    (case z_sorted => k_is)
    (case z_str => k_is)
    (case z_tuple => k_is)
    (case y_MOST_BLOCKS => k_is)
    (case xa_BadOrders => k_is)
    (case xg_BadOrders => k_is)
    (case xk_BadOrders => k_is)
    (case xs_BadOrders => k_is)
    (case xd_BadOrders => k_is)
    (case xc_BadOrders => k_is)
    (case xm_BadOrders => k_is)
    (case xt_BadOrders => k_is)
    (case xp_BadOrders => k_is)
    (case xn => k_is)
    (case xu => k_is)
    (case xe_BadOrders => k_exc)
