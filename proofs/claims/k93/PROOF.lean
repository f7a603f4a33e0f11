import PyProof.Rows.All
import Wide.All
import OpenK.AllK
import Wide.FinOn
import HandS.ForMost
import HandS.IsInst
import HandS.TupAny
import HandS.TupMul
import HandS.CallLocal
import HandS.Conv
import HandS.Zip
import HandS.Style
import HandS.Deep
import HandS.Exc
import HandS.TryOnly
import HandS.WordsExc
import HandS.Lambda
import KE.GoesMore
import KE.GoesEnum
import KE.KNestM
import HandS.EndTab
import HandS.SortInts
import KE.KSortedM
import HandS.ExcInit
import HandS.ExcOwn
import HandS.ExcField
import HandS.ExcIs
import KE.KExcIs
import HandS.FStr
import HandS.RaiseMore
import HandS.Gcd
import HandS.Struct
import HandS.Nested
import HandS.TupSets
import HandS.SetFor
import HandS.SortKw
import KE.DataMinMax
import HandS.Dict
import PyProof.AutoSeq1
import PyProof.ListRange
import HandS.Sort
import KE.KTurns
import HandS.Wide
import HandS.Iter
import HandS.Small
import HandS.More
import HandS.WordsDict
import HandS.SetKeys
import HandS.NoneIn
import HandS.DictTup
import KE.RegKIsAll
import PySem.Challenge.RW_chipfloor_k93_whole_more_registers
set_option Elab.async false
set_option linter.all false
set_option maxRecDepth 100000
set_option autoImplicit false
/-! The layer of data: values without addresses, mutable lists as numbered cells of a store, a program's defs as Lean functions of data. -/
namespace DL
open PySem PySem.Spec PyProof.Rows L2

/-- a value without addresses; fn: a def of the module, by its name -/
inductive D where
  | non | bl (b : Bool) | int (i : Int) | str (x : Str) | tup (ds : List D) | lst (ds : List D) | rol (ds : List D) | fn (n : Str) | rng (lo hi : Int) | dck (ks : List L2.Key) (vs : List D) | dct (ks : List (List L2.Key)) (vs : List D)
/-- an exception: its class's name, its one field -/
structure Exn where
  cls : Str
  arg : Option (Str × D)
/-- what a slot holds: a value, a cell of the store (a list that is changed), a caught exception -/
inductive EV where
  | v (d : D) | cel (n : Nat) | exn (x : Exn)
  /-- a lambda handed over, what its captured cells hold -/
  | lam (ws : List (Option V)) (ds : List (Option D))
inductive Cell where
  | lst (ds : List D)
  /-- a dict of ints and texts -/
  | dk (kvs : List (L2.Key × D))
  /-- a dict whose keys are tuples of ints -/
  | dt (kvs : List (List L2.Key × D))
abbrev Env := List (Option EV)
abbrev Store := List (Option Cell)
inductive Out (α : Type) where
  | ok (a : α) (S : Store) | ex (x : Exn) (S : Store) | bad
def Out.bind {α β : Type} (o : Out α) (k : α → Store → Out β) : Out β := match o with
  | .ok a S => k a S
  | .ex x S => .ex x S
  | .bad => .bad
inductive Ctl where
  | nx | rt (d : D) | bk | ct | ex (x : Exn)
abbrev DEn := Env → Store → Out D
abbrev DTn := Env → Store → Out Bool
abbrev DAn := Env → Store → Out (List EV)
abbrev DSn := Env → Store → Out (Ctl × Env)
abbrev Den := List EV → Store → Out D

/-- the written part and the module's names -/
structure Gd where
  K : PySem.W.Frag
  mg : Str → Option Value
  xi : Option (Addr × Value × Option Addr)
/-- a tuple as the heap tells it itself (not by way of a known object), or a constant of the program -/
def SqE (K : PySem.W.Frag) (H : Hp) (a : Addr) (xs : List V) : Prop := H a = some (.tup xs) ∨ ∃ (o : Obj) (its : Array Value) (n : Nat), K.lookup a = some o ∧ o.cls = .type "tuple" ∧ o.data = .seq its n ∧ its.size ≤ sizeLine ∧ Vals xs its.toList
theorem SqE.of {K : PySem.W.Frag} {H : Hp} {a : Addr} {xs : List V} (h : H a = some (.tup xs)) : SqE K H a xs := .inl h
theorem SqE.sqT {K : PySem.W.Frag} {H : Hp} {a : Addr} {xs : List V} (h : SqE K H a xs) : SqT K H a xs := by
  rcases h with h | h
  · exact .inl (.inl h)
  · exact .inr h
mutual
inductive Rep (G : Gd) (HF : Hp) : V → D → Prop
  | non : Rep G HF .non .non
  | bl (b : Bool) : Rep G HF (.bl b) (.bl b)
  | int (i : Int) : Rep G HF (.int i) (.int i)
  | str (x : Str) : Rep G HF (.str x) (.str x)
  | tup {a : Addr} {xs : List V} {ds : List D} : SqE G.K HF a xs → Reps G HF xs ds → Rep G HF (.ref a) (.tup ds)
  | lst {a : Addr} {xs : List V} {ds : List D} : HF a = some (.lst xs) → Reps G HF xs ds → Rep G HF (.ref a) (.lst ds)
  | rol {a : Addr} {xs : List V} {ds : List D} : SqL G.K HF a xs → Reps G HF xs ds → Rep G HF (.ref a) (.rol ds)
  | fn {a : Addr} {n : Str} : G.mg n = some (.ref a) → Rep G HF (.ref a) (.fn n)
  | rng {a : Addr} {lo hi : Int} : HF a = some (.rng lo hi) → Rep G HF (.ref a) (.rng lo hi)
  | dck {a : Addr} {us : List (L2.Key × V)} {ks : List L2.Key} {vs : List V} {ds : List D} : HF a = some (.dK us) → us.map (·.1) = ks → us.map (·.2) = vs → Reps G HF vs ds → Rep G HF (.ref a) (.dck ks ds)
  | dct {a : Addr} {od : Obj} {us : List (List L2.Key × V)} {ks : List (List L2.Key)} {vs : List V} {ds : List D} : HF a = some (.frz od (.dT us)) → us.map (·.1) = ks → us.map (·.2) = vs → Reps G HF vs ds → Rep G HF (.ref a) (.dct ks ds)
inductive Reps (G : Gd) (HF : Hp) : List V → List D → Prop
  | nil : Reps G HF [] []
  | cons {v : V} {vs : List V} {d : D} {ds : List D} : Rep G HF v d → Reps G HF vs ds → Reps G HF (v :: vs) (d :: ds)
end
theorem Rd.mono {H H' : Hp} {a : Addr} {u : HO} (e : Same H H') (h : Rd H a u) : Rd H' a u := by
  rcases h with h | ⟨o, h⟩
  · exact .inl (e _ _ h)
  · exact .inr ⟨o, e _ _ h⟩
theorem SqE.mono {K : PySem.W.Frag} {H H' : Hp} {a : Addr} {xs : List V} (e : Same H H') (h : SqE K H a xs) : SqE K H' a xs := by
  rcases h with h | h
  · exact .inl (e _ _ h)
  · exact .inr h
theorem SqT.mono {K : PySem.W.Frag} {H H' : Hp} {a : Addr} {xs : List V} (e : Same H H') (h : SqE K H a xs) : SqT K H' a xs := (SqE.mono e h).sqT
mutual
theorem Rep.mono {G : Gd} {H H' : Hp} (e : Same H H') : ∀ {d : D} {v : V}, Rep G H v d → Rep G H' v d
  | .non, _, h => by cases h; exact .non
  | .bl _, _, h => by cases h; exact .bl _
  | .int _, _, h => by cases h; exact .int _
  | .str _, _, h => by cases h; exact .str _
  | .tup ds, _, h => by
    cases h with
    | tup hs hr => exact .tup (SqE.mono e hs) (Reps.mono e hr)
  | .lst ds, _, h => by
    cases h with
    | lst hs hr => exact .lst (e _ _ hs) (Reps.mono e hr)
  | .rol ds, _, h => by
    cases h with
    | rol hs hr => exact .rol (e.seq hs) (Reps.mono e hr)
  | .fn _, _, h => by
    cases h with
    | fn hs => exact .fn hs
  | .rng _ _, _, h => by
    cases h with
    | rng hs => exact .rng (e _ _ hs)
  | .dck _ ds, _, h => by
    cases h with
    | dck h1 h2 h3 h4 => exact .dck (e _ _ h1) h2 h3 (Reps.mono e h4)
  | .dct _ ds, _, h => by
    cases h with
    | dct h1 h2 h3 h4 => exact .dct (e _ _ h1) h2 h3 (Reps.mono e h4)
theorem Reps.mono {G : Gd} {H H' : Hp} (e : Same H H') : ∀ {ds : List D} {vs : List V}, Reps G H vs ds → Reps G H' vs ds
  | [], _, h => by cases h; exact .nil
  | d :: ds, _, h => by
    cases h with
    | cons h1 h2 => exact .cons (Rep.mono e h1) (Reps.mono e h2)
end
section
variable {G : Gd} {H : Hp}
theorem Reps.length : ∀ {ds : List D} {vs : List V}, Reps G H vs ds → vs.length = ds.length
  | [], _, h => by cases h; rfl
  | d :: ds, _, h => by
    cases h with
    | cons h1 h2 => simp [Reps.length h2]
theorem Reps.get : ∀ {ds : List D} {vs : List V} {i : Nat} {d : D}, Reps G H vs ds → ds[i]? = some d → ∃ v, vs[i]? = some v ∧ Rep G H v d
  | [], _, _, _, _, e => by simp at e
  | d :: ds, _, 0, _, h, e => by
    cases h with
    | cons h1 h2 => simp at e; subst e; exact ⟨_, rfl, h1⟩
  | d :: ds, _, i + 1, _, h, e => by
    cases h with
    | cons h1 h2 =>
      obtain ⟨v, e1, r⟩ := Reps.get (i := i) h2 (by simpa using e)
      exact ⟨v, by simpa using e1, r⟩
theorem Reps.get' : ∀ {ds : List D} {vs : List V} {i : Nat} {v : V}, Reps G H vs ds → vs[i]? = some v → ∃ d, ds[i]? = some d ∧ Rep G H v d := by
  intro ds vs i v h e
  have hl := h.length
  have hi : i < ds.length := by rw [← hl]; exact (List.getElem?_eq_some_iff.mp e).1
  obtain ⟨v', e', r⟩ := h.get (List.getElem?_eq_getElem hi)
  rw [e] at e'; cases e'
  exact ⟨_, List.getElem?_eq_getElem hi, r⟩
theorem Reps.append : ∀ {ds es : List D} {vs ws : List V}, Reps G H vs ds → Reps G H ws es → Reps G H (vs ++ ws) (ds ++ es)
  | [], _, _, _, h, k => by cases h; exact k
  | d :: ds, _, _, _, h, k => by
    cases h with
    | cons h1 h2 => exact .cons h1 (Reps.append h2 k)
theorem Reps.take : ∀ {ds : List D} {vs : List V} (n : Nat), Reps G H vs ds → Reps G H (vs.take n) (ds.take n)
  | _, _, 0, _ => .nil
  | [], _, n + 1, h => by cases h; exact .nil
  | d :: ds, _, n + 1, h => by
    cases h with
    | cons h1 h2 => exact .cons h1 (Reps.take n h2)
theorem Reps.drop : ∀ {ds : List D} {vs : List V} (n : Nat), Reps G H vs ds → Reps G H (vs.drop n) (ds.drop n)
  | _, _, 0, h => h
  | [], _, n + 1, h => by cases h; exact .nil
  | d :: ds, _, n + 1, h => by
    cases h with
    | cons h1 h2 => exact Reps.drop n h2
theorem Reps.set : ∀ {ds : List D} {vs : List V} {v : V} {d : D} (n : Nat), Reps G H vs ds → Rep G H v d → Reps G H (vs.set n v) (ds.set n d)
  | [], _, _, _, _, h, _ => by cases h; exact .nil
  | d :: ds, _, _, _, 0, h, r => by
    cases h with
    | cons h1 h2 => exact .cons r h2
  | d :: ds, _, _, _, n + 1, h, r => by
    cases h with
    | cons h1 h2 => exact .cons h1 (Reps.set n h2 r)
theorem Reps.erase : ∀ {ds : List D} {vs : List V} (n : Nat), Reps G H vs ds → Reps G H (vs.eraseIdx n) (ds.eraseIdx n)
  | [], _, _, h => by cases h; exact .nil
  | d :: ds, _, 0, h => by
    cases h with
    | cons h1 h2 => exact h2
  | d :: ds, _, n + 1, h => by
    cases h with
    | cons h1 h2 => exact .cons h1 (Reps.erase n h2)
theorem Reps.reverse : ∀ {ds : List D} {vs : List V}, Reps G H vs ds → Reps G H vs.reverse ds.reverse
  | [], _, h => by cases h; exact .nil
  | d :: ds, _, h => by
    cases h with
    | cons h1 h2 =>
      simp only [List.reverse_cons]
      exact Reps.append (Reps.reverse h2) (.cons h1 .nil)
theorem Reps.dropLast {ds : List D} {vs : List V} (h : Reps G H vs ds) : Reps G H vs.dropLast ds.dropLast := by
  rw [List.dropLast_eq_take, List.dropLast_eq_take, h.length]
  exact h.take _
end

/-- an exception in the heap: its class, its dict -/
def ExRep (G : Gd) (x : Exn) (HF : Hp) (cls : Value) (dd : Option Addr) : Prop :=
  ∃ C, G.mg x.cls = some (.ref C) ∧ cls = .ref C ∧ match x.arg with
    | none => dd = none
    | some (f, d) => ∃ a v, dd = some a ∧ HF a = some (.xd [(f, v)]) ∧ Rep G HF v d
theorem ExRep.mono {G : Gd} {H H' : Hp} {x : Exn} {cls : Value} {dd : Option Addr} (e : Same H H') (h : ExRep G x H cls dd) : ExRep G x H' cls dd := by
  obtain ⟨C, h1, h2, h3⟩ := h
  refine ⟨C, h1, h2, ?_⟩
  cases q : x.arg with
  | none => rw [q] at h3; exact h3
  | some p =>
    rw [q] at h3
    obtain ⟨a, v, k1, k2, k3⟩ := h3
    exact ⟨a, v, k1, e _ _ k2, Rep.mono e k3⟩
def CellAt (G : Gd) (H HF : Hp) (a : Addr) : Cell → Prop
  | .lst ds => ∃ vs, H a = some (.lst vs) ∧ Reps G HF vs ds
  | .dk kvs => ∃ us : List (L2.Key × V), H a = some (.dK us) ∧ us.map (·.1) = kvs.map (·.1) ∧ Reps G HF (us.map (·.2)) (kvs.map (·.2))
  | .dt kvs => ∃ us : List (List L2.Key × V), H a = some (.dT us) ∧ us.map (·.1) = kvs.map (·.1) ∧ Reps G HF (us.map (·.2)) (kvs.map (·.2))
theorem CellAt.up {G : Gd} {H HF H' HF' : Hp} {a : Addr} {c : Cell} (h : CellAt G H HF a c) (ha : H' a = H a) (hf : Same HF HF') : CellAt G H' HF' a c := by
  cases c with
  | lst ds =>
    obtain ⟨vs, q3, q4⟩ := h
    exact ⟨vs, by rw [ha]; exact q3, q4.mono hf⟩
  | dk kvs =>
    obtain ⟨us, q3, q5, q4⟩ := h
    exact ⟨us, by rw [ha]; exact q3, q5, q4.mono hf⟩
  | dt kvs =>
    obtain ⟨us, q3, q5, q4⟩ := h
    exact ⟨us, by rw [ha]; exact q3, q5, q4.mono hf⟩
/-- no table of code objects -/
def Nt (o : HO) : Prop := ∀ ps, o ≠ .tbl ps
/-- the kinds of objects that a numbered cell may be -/
def HMut : HO → Prop
  | .lst _ => True
  | .dK _ => True
  | .dT _ => True
  | .frz _ (.dT _) => True
  | _ => False
theorem HMut.nt {o : HO} (h : HMut o) : Nt o := fun ps e => by subst e; exact h
/-- how the law's lambdas are called -/
def lamq : Str := "law.<locals>.<lambda>"
/-- the defs whose lambdas the layer serves: how their lambdas are called -/
def makers : List (Str × Str) := [("law", lamq), ("check_nets", "check_nets.<locals>.<lambda>"), ("check_rules", "check_rules.<locals>.<lambda>"), ("check_circuit", "check_circuit.<locals>.<lambda>"), ("tight_row", "tight_row.<locals>.<lambda>"), ("better_side", "better_side.<locals>.<lambda>"), ("pushing_row", "pushing_row.<locals>.<lambda>"), ("pusher_of", "pusher_of.<locals>.<lambda>"), ("best_bush", "best_bush.<locals>.<lambda>"), ("bush_upon", "bush_upon.<locals>.<lambda>"), ("host_of", "host_of.<locals>.<lambda>"), ("spread", "spread.<locals>.<lambda>"), ("floor_options", "floor_options.<locals>.lone"), ("placed_floor", "placed_floor.<locals>.lone"), ("least_option", "least_option.<locals>.<lambda>"), ("best_word", "best_word.<locals>.<lambda>"), ("best_topology", "best_topology.<locals>.<lambda>"), ("names_for", "names_for.<locals>.<lambda>"), ("least_length", "least_length.<locals>.<lambda>"), ("least_width", "least_width.<locals>.<lambda>"), ("fewest_bends", "fewest_bends.<locals>.<lambda>"), ("two_layers", "two_layers.<locals>.<lambda>")]
/-- the tables of their code objects -/
def tabsOf (K : PySem.W.Frag) : List (Addr × Str) := makers.filterMap fun m => (PySem.W.tabIn K m.1).map fun t => (t.2, m.2)
theorem tabsOf_mem {K : PySem.W.Frag} {x q : Str} {c P : Addr} (hm : (x, q) ∈ makers) (et : PySem.W.tabIn K x = some (c, P)) : (P, q) ∈ tabsOf K :=
  List.mem_filterMap.mpr ⟨(x, q), hm, by rw [et]; rfl⟩
theorem tabsOf_of {K : PySem.W.Frag} {p : Addr × Str} (h : p ∈ tabsOf K) : ∃ x c, (x, p.2) ∈ makers ∧ PySem.W.tabIn K x = some (c, p.1) := by
  obtain ⟨m, hm, e⟩ := List.mem_filterMap.mp h
  cases q : PySem.W.tabIn K m.1 with
  | none => rw [q] at e; cases e
  | some t =>
    rw [q] at e
    cases e
    exact ⟨m.1, t.1, hm, q⟩
/-- no two of them have one table -/
def tabsOk (K : PySem.W.Frag) : Bool := (tabsOf K).all fun p => (tabsOf K).all fun q => !(p.1 == q.1) || (p.2 == q.2)
theorem tabsOk_of {K : PySem.W.Frag} (h : tabsOk K = true) {p q : Addr × Str} (hp : p ∈ tabsOf K) (hq : q ∈ tabsOf K) (e : p.1 = q.1) : p.2 = q.2 := by
  have h1 := List.all_eq_true.mp (List.all_eq_true.mp h p hp) q hq
  rw [e] at h1
  simpa using h1
/-- the tables tell code objects of lambdas alone -/
def TabG (G : Gd) (H HF : Hp) : Prop := ∀ p ∈ tabsOf G.K, ∃ ps : Array Value, H p.1 = some (.tbl ps) ∧ TriplesOk ps.toList ∧ ∀ (pos : Pos) (cv : Value), codeAmong pos ps.toList = some cv → ∃ c, cv = .ref c ∧ HF c = some (LamX.CodeO c p.2)
theorem TabG.up {G : Gd} {H HF H' HF' : Hp} (h : TabG G H HF) (ha : ∀ b ps, H b = some (.tbl ps) → H' b = some (.tbl ps)) (hf : Same HF HF') : TabG G H' HF' := fun p hp => by
  obtain ⟨ps, q1, q2, q3⟩ := h p hp
  refine ⟨ps, ha _ _ q1, q2, fun pos cv hc => ?_⟩
  obtain ⟨c, e1, e2⟩ := q3 pos cv hc
  exact ⟨c, e1, hf _ _ e2⟩
def RepE (G : Gd) (HF : Hp) (L : List Addr) (v : V) : EV → Prop
  | .v d => Rep G HF v d
  | .cel n => ∃ a, L[n]? = some a ∧ v = .ref a
  | .exn x => ∃ a cls dd, G.xi = some (a, cls, dd) ∧ v = .ref a ∧ ExRep G x HF cls dd
  | .lam ws ds => ∃ f q t c, G.xi = some (f, .str q t, some c) ∧ v = .ref f ∧ HF c = some (LamX.CodeO c q) ∧ ws.length = ds.length ∧ ∀ (j : Nat) (d : D), ds[j]? = some (some d) → ∃ u : V, ws[j]? = some (some u) ∧ Rep G HF u d
/-- the heap H, its part HF that never changes, the cells at L, the slots -/
structure Rel (G : Gd) (H HF : Hp) (L : List Addr) (σ : L2.St) (ρ : Env) (S : Store) : Prop where
  sub : Same HF H
  nd : L.Nodup
  sl : S.length = L.length
  liv : ∀ a ∈ L, ∃ o, H a = some o ∧ HMut o
  tab : TabG G H HF
  nft : ∀ b ps, HF b ≠ some (.tbl ps)
  cell : ∀ (n : Nat) (a : Addr) (c : Cell), L[n]? = some a → S[n]? = some (some c) → HF a = none ∧ CellAt G H HF a c
  el : σ.length = ρ.length
  env : ∀ (i : Nat) (e : EV), ρ[i]? = some (some e) → ∃ v, σ[i]? = some (some v) ∧ RepE G HF L v e
structure Step (H HF : Hp) (L : List Addr) (H' HF' : Hp) (L' : List Addr) : Prop where
  keep : ∀ b o, b ∉ L → Nt o → H b = some o → H' b = some o
  nn : ∀ b o, Nt o → H b = some o → ∃ o', Nt o' ∧ H' b = some o'
  fro : Same HF HF'
  new : ∀ a o, a ∉ L → HF a = none → HMut o → H a = some o → HF' a = none
  ext : ∃ M, L' = L ++ M ∧ ∀ a ∈ M, ∀ o, Nt o → H a ≠ some o
theorem Step.refl {H HF : Hp} {L : List Addr} : Step H HF L H HF L := ⟨fun _ _ _ _ e => e, fun _ o n e => ⟨o, n, e⟩, Same.refl _, fun _ _ _ e _ _ => e, [], by simp, by simp⟩
theorem Step.trans {H HF H1 HF1 H2 HF2 : Hp} {L L1 L2 : List Addr} (a : Step H HF L H1 HF1 L1) (b : Step H1 HF1 L1 H2 HF2 L2) : Step H HF L H2 HF2 L2 := by
  obtain ⟨M1, e1, n1⟩ := a.ext
  obtain ⟨M2, e2, n2⟩ := b.ext
  have out : ∀ c o, c ∉ L → Nt o → H c = some o → c ∉ L1 := fun c o hc nt hn hm => by
    rw [e1] at hm
    rcases List.mem_append.mp hm with z | z
    · exact hc z
    · exact n1 c z o nt hn
  refine ⟨fun c o hc nt e => ?_, fun c o nt e => (let ⟨o1, nt1, e1⟩ := a.nn c o nt e; b.nn c o1 nt1 e1), a.fro.trans b.fro, fun c o hc e nt n => ?_, M1 ++ M2, by rw [e2, e1, List.append_assoc], fun c hc o nt => ?_⟩
  · exact b.keep c o (out c o hc nt e) nt (a.keep c o hc nt e)
  · exact b.new c o (out c o hc nt.nt n) (a.new c o hc e nt n) nt (a.keep c o hc nt.nt n)
  · rcases List.mem_append.mp hc with z | z
    · exact n1 c z o nt
    · intro q
      obtain ⟨o1, nt1, q1⟩ := a.nn c o nt q
      exact n2 c z o1 nt1 q1
theorem Step.lget {H HF H' HF' : Hp} {L L' : List Addr} (a : Step H HF L H' HF' L') {n : Nat} {x : Addr} (h : L[n]? = some x) : L'[n]? = some x := by
  obtain ⟨M, e, _⟩ := a.ext
  rw [e, List.getElem?_append_left (List.getElem?_eq_some_iff.mp h).1]
  exact h
theorem RepLam.mono {G : Gd} {HF HF' : Hp} {L L' : List Addr} (e : Same HF HF') {ws : List (Option V)} {ds : List (Option D)} {v : V} (h : RepE G HF L v (.lam ws ds)) : RepE G HF' L' v (.lam ws ds) := by
  obtain ⟨f, q, t, c, h1, h2, h3, h4, h5⟩ := h
  refine ⟨f, q, t, c, h1, h2, e _ _ h3, h4, fun j d hd => ?_⟩
  obtain ⟨u, k1, k2⟩ := h5 j d hd
  exact ⟨u, k1, Rep.mono e k2⟩
theorem RepE.mono {G : Gd} {H HF H' HF' : Hp} {L L' : List Addr} (a : Step H HF L H' HF' L') : ∀ {e : EV} {v : V}, RepE G HF L v e → RepE G HF' L' v e
  | .v _, _, h => Rep.mono a.fro h
  | .cel _, _, ⟨x, h1, h2⟩ => ⟨x, a.lget h1, h2⟩
  | .exn _, _, ⟨b, cls, dd, h1, h2, h3⟩ => ⟨b, cls, dd, h1, h2, h3.mono a.fro⟩
  | .lam _ _, _, h => RepLam.mono a.fro h
/-- the argument list's representation -/
inductive RepEs (G : Gd) (HF : Hp) (L : List Addr) : List V → List EV → Prop
  | nil : RepEs G HF L [] []
  | cons {v : V} {vs : List V} {d : EV} {ds : List EV} : RepE G HF L v d → RepEs G HF L vs ds → RepEs G HF L (v :: vs) (d :: ds)
theorem RepEs.mono {G : Gd} {H HF H' HF' : Hp} {L L' : List Addr} (a : Step H HF L H' HF' L') : ∀ {es : List EV} {vs : List V}, RepEs G HF L vs es → RepEs G HF' L' vs es
  | [], _, h => by cases h; exact .nil
  | e :: es, _, h => by
    cases h with
    | cons h1 h2 => exact .cons (RepE.mono a h1) (RepEs.mono a h2)
theorem RepEs.length {G : Gd} {HF : Hp} {L : List Addr} : ∀ {es : List EV} {vs : List V}, RepEs G HF L vs es → vs.length = es.length
  | [], _, h => by cases h; rfl
  | d :: ds, _, h => by
    cases h with
    | cons h1 h2 => simp [RepEs.length h2]

section
variable {G : Gd} {H HF : Hp} {L : List Addr} {σ : L2.St} {ρ : Env} {S : Store}
theorem Rel.live (R : Rel G H HF L σ ρ S) {a : Addr} (ha : a ∈ L) : H a ≠ none := by
  obtain ⟨o, e, _⟩ := R.liv a ha
  rw [e]; simp
theorem Rel.out (R : Rel G H HF L σ ρ S) {p : Addr} (hp : H p = none) : p ∉ L := fun z => R.live z hp
theorem nft_upd {HF : Hp} {p : Addr} {o : HO} (h : ∀ b ps, HF b ≠ some (.tbl ps)) (ho : Nt o) : ∀ b ps, upd HF p o b ≠ some (.tbl ps) := fun b ps e => by
  by_cases hb : b = p
  · subst hb; rw [upd_same] at e; cases e; exact ho _ rfl
  · rw [upd_ne hb] at e; exact h b ps e
theorem nt_new {p : Addr} {o : HO} (hp : H p = none) : ∀ b ps, H b = some (.tbl ps) → upd H p o b = some (.tbl ps) := fun b ps e => by rw [upd_ne (ne_of_none e hp)]; exact e
theorem nt_upd {p : Addr} {o u : HO} (hp : H p = some u) (hn : Nt u) : ∀ b ps, H b = some (.tbl ps) → upd H p o b = some (.tbl ps) := fun b ps e => by
  have ne : b ≠ p := fun z => by rw [z, hp] at e; cases e; exact hn _ rfl
  rw [upd_ne ne]; exact e
theorem nn_upd {p : Addr} {o : HO} (ho : Nt o) : ∀ b u, Nt u → H b = some u → ∃ o', Nt o' ∧ upd H p o b = some o' := fun b u nu e => by
  by_cases hb : b = p
  · subst hb; exact ⟨o, ho, upd_same⟩
  · exact ⟨u, nu, by rw [upd_ne hb]; exact e⟩
theorem Rel.hf (R : Rel G H HF L σ ρ S) {p : Addr} (hp : H p = none) : HF p = none := by
  cases q : HF p with
  | none => rfl
  | some o => rw [R.sub p o q] at hp; cases hp
theorem same_upd {p : Addr} {o : HO} (hp : H p = none) : Same H (upd H p o) := fun b u e => by rw [upd_ne (ne_of_none e hp)]; exact e
/-- a new object that never changes -/
theorem Rel.frozen (R : Rel G H HF L σ ρ S) {p : Addr} {o : HO} (hp : H p = none) (ho : Nt o := by intro _ h; cases h) : Rel G (upd H p o) (upd HF p o) L σ ρ S ∧ Step H HF L (upd H p o) (upd HF p o) L := by
  have hL := R.out hp
  have hF := R.hf hp
  have e : ∀ {n : Nat} {a : Addr}, L[n]? = some a → a ≠ p := fun h z => hL (by rw [← z]; exact List.mem_of_getElem? h)
  refine ⟨⟨fun b u q => ?_, R.nd, R.sl, fun a ha => ?_, R.tab.up (nt_new hp) (same_upd hF), nft_upd R.nft ho, fun n a c h1 h2 => ?_, R.el, fun i x h => ?_⟩, ⟨fun b u _ _ q => same_upd hp b u q, nn_upd ho, same_upd hF, fun a u _ q _ n => ?_, [], by simp, by simp⟩⟩
  · by_cases hb : b = p
    · subst hb; rw [upd_same] at q ⊢; exact q
    · rw [upd_ne hb] at q ⊢; exact R.sub b u q
  · rw [upd_ne (fun z => hL (by rw [← z]; exact ha))]; exact R.liv a ha
  · obtain ⟨q1, q2⟩ := R.cell n a c h1 h2
    have ne := e h1
    exact ⟨by rw [upd_ne ne]; exact q1, q2.up (upd_ne ne) (same_upd hF)⟩
  · obtain ⟨v, q1, q2⟩ := R.env i x h
    refine ⟨v, q1, ?_⟩
    cases x with
    | v d => exact Rep.mono (same_upd hF) q2
    | cel n => exact q2
    | exn x =>
      obtain ⟨b, cls, dd, k1, k2, k3⟩ := q2
      exact ⟨b, cls, dd, k1, k2, k3.mono (same_upd hF)⟩
    | lam ws ds => exact RepLam.mono (same_upd hF) q2
  · rw [upd_ne (ne_of_none n hp)]; exact q
/-- a new list that will be changed -/
theorem Rel.fresh (R : Rel G H HF L σ ρ S) {p : Addr} {vs : List V} {ds : List D} (hp : H p = none) (hr : Reps G HF vs ds) :
    Rel G (upd H p (.lst vs)) HF (L ++ [p]) σ ρ (S ++ [some (.lst ds)]) ∧ Step H HF L (upd H p (.lst vs)) HF (L ++ [p]) := by
  have hL := R.out hp
  have hF := R.hf hp
  have e : ∀ {n : Nat} {a : Addr}, L[n]? = some a → a ≠ p := fun h z => hL (by rw [← z]; exact List.mem_of_getElem? h)
  refine ⟨⟨R.sub.trans (same_upd hp), ?_, by simp [R.sl], fun a ha => ?_, R.tab.up (nt_new hp) (Same.refl _), R.nft, fun n a c h1 h2 => ?_, R.el, fun i x h => ?_⟩, ⟨fun b u _ _ q => same_upd hp b u q, nn_upd (fun _ h => by cases h), Same.refl _, fun a _ _ q _ _ => q, [p], rfl, fun a ha o _ => by (have : a = p := by simpa using ha); subst this; rw [hp]; simp⟩⟩
  · rw [List.nodup_append]
    refine ⟨R.nd, by simp, fun a ha b hb => ?_⟩
    have : b = p := by simpa using hb
    subst this
    exact fun z => hL (z ▸ ha)
  · rcases List.mem_append.mp ha with z | z
    · rw [upd_ne (fun q => hL (by rw [← q]; exact z))]; exact R.liv a z
    · have : a = p := by simpa using z
      subst this; exact ⟨_, upd_same, trivial⟩
  · by_cases hn : n < L.length
    · rw [List.getElem?_append_left hn] at h1
      rw [List.getElem?_append_left (by rw [R.sl]; exact hn)] at h2
      obtain ⟨q1, q2⟩ := R.cell n a c h1 h2
      exact ⟨q1, q2.up (upd_ne (e h1)) (Same.refl _)⟩
    · have hn' : n = L.length := by
        have := (List.getElem?_eq_some_iff.mp h1).1
        simp at this; omega
      subst hn'
      rw [List.getElem?_append_right (Nat.le_refl _)] at h1
      rw [List.getElem?_append_right (by rw [R.sl]; exact Nat.le_refl _), R.sl] at h2
      simp at h1 h2
      subst h1; subst h2
      exact ⟨hF, vs, upd_same, hr⟩
  · obtain ⟨v, q1, q2⟩ := R.env i x h
    refine ⟨v, q1, ?_⟩
    cases x with
    | v d => exact q2
    | cel n =>
      obtain ⟨a, q3, q4⟩ := q2
      exact ⟨a, by rw [List.getElem?_append_left (List.getElem?_eq_some_iff.mp q3).1]; exact q3, q4⟩
    | exn x => exact q2
    | lam ws ds => exact q2
theorem nodup_get {α : Type} {l : List α} (hN : l.Nodup) {i j : Nat} {x : α} (a : l[i]? = some x) (b : l[j]? = some x) : i = j := nd_ix hN a b
/-- a cell is written -/
theorem Rel.write (R : Rel G H HF L σ ρ S) {n : Nat} {a : Addr} {c : Cell} {vs : List V} {ds : List D} (h1 : L[n]? = some a) (h2 : S[n]? = some (some c)) (hr : Reps G HF vs ds) :
    Rel G (upd H a (.lst vs)) HF L σ ρ (S.set n (some (.lst ds))) ∧ Step H HF L (upd H a (.lst vs)) HF L := by
  have hm : a ∈ L := List.mem_of_getElem? h1
  have hn : n < L.length := (List.getElem?_eq_some_iff.mp h1).1
  obtain ⟨hF, _⟩ := R.cell n a c h1 h2
  obtain ⟨u0, hu0, hm0⟩ := R.liv a hm
  refine ⟨⟨fun b u q => ?_, R.nd, by simpa using R.sl, fun b hb => ?_, R.tab.up (nt_upd hu0 hm0.nt) (Same.refl _), R.nft, fun k b c' k1 k2 => ?_, R.el, R.env⟩, ⟨fun b u hb _ q => ?_, nn_upd (fun _ h => by cases h), Same.refl _, fun _ _ _ q _ _ => q, [], by simp, by simp⟩⟩
  · rw [upd_ne (ne_of_none q hF)]; exact R.sub b u q
  · by_cases hba : b = a
    · subst hba; exact ⟨_, upd_same, trivial⟩
    · rw [upd_ne hba]; exact R.liv b hb
  · by_cases hk : k = n
    · subst hk
      rw [h1] at k1; cases k1
      rw [List.getElem?_set_self (by rw [R.sl]; exact hn)] at k2
      cases k2
      exact ⟨hF, vs, upd_same, hr⟩
    · rw [List.getElem?_set_ne (Ne.symm hk)] at k2
      obtain ⟨q1, q2⟩ := R.cell k b c' k1 k2
      exact ⟨q1, q2.up (upd_ne (fun z => hk (nodup_get R.nd (by rw [← z]; exact k1) h1))) (Same.refl _)⟩
  · rw [upd_ne (fun z => hb (by rw [z]; exact hm))]; exact q
/-- a cell is given up: from now on it never changes -/
theorem Rel.freeze (R : Rel G H HF L σ ρ S) {n : Nat} {a : Addr} {ds : List D} (h1 : L[n]? = some a) (h2 : S[n]? = some (some (.lst ds))) :
    ∃ HF', Rel G H HF' L σ ρ (S.set n none) ∧ Step H HF L H HF' L ∧ Rep G HF' (.ref a) (.lst ds) := by
  have hm : a ∈ L := List.mem_of_getElem? h1
  have hn : n < L.length := (List.getElem?_eq_some_iff.mp h1).1
  obtain ⟨hF, vs, hv, hr⟩ := R.cell n a _ h1 h2
  refine ⟨upd HF a (.lst vs), ⟨fun b u q => ?_, R.nd, by simpa using R.sl, R.liv, R.tab.up (fun _ _ e => e) (same_upd hF), nft_upd R.nft (fun _ h => by cases h), fun k b c' k1 k2 => ?_, R.el, fun i x h => ?_⟩, ⟨fun _ _ _ _ q => q, fun _ o n q => ⟨o, n, q⟩, same_upd hF, fun b o hb q _ _ => ?_, [], by simp, by simp⟩, .lst upd_same (hr.mono (same_upd hF))⟩
  · by_cases hb : b = a
    · subst hb; rw [upd_same] at q; cases q; exact hv
    · rw [upd_ne hb] at q; exact R.sub b u q
  · by_cases hk : k = n
    · subst hk
      rw [List.getElem?_set_self (by rw [R.sl]; exact hn)] at k2
      cases k2
    · rw [List.getElem?_set_ne (Ne.symm hk)] at k2
      obtain ⟨q1, q2⟩ := R.cell k b c' k1 k2
      have ne : b ≠ a := fun z => hk (nodup_get R.nd (by rw [← z]; exact k1) h1)
      exact ⟨by rw [upd_ne ne]; exact q1, q2.up rfl (same_upd hF)⟩
  · obtain ⟨v, q1, q2⟩ := R.env i x h
    refine ⟨v, q1, ?_⟩
    cases x with
    | v d => exact Rep.mono (same_upd hF) q2
    | cel n => exact q2
    | exn x =>
      obtain ⟨b, cls, dd, k1, k2, k3⟩ := q2
      exact ⟨b, cls, dd, k1, k2, k3.mono (same_upd hF)⟩
    | lam ws ds => exact RepLam.mono (same_upd hF) q2
  · rw [upd_ne (fun z => hb (by rw [z]; exact hm))]; exact q
/-- the list that grows, set aside -/
theorem Step.keepL {H1 HF1 : Hp} {L1 : List Addr} (st : Step H HF L H1 HF1 L1) {Dl : Addr} {o : HO} (hL : Dl ∉ L) (h : H Dl = some o) (ho : Nt o := by intro _ h; cases h) : Dl ∉ L1 := fun z => by
  obtain ⟨M, eM, nM⟩ := st.ext
  rw [eM] at z
  rcases List.mem_append.mp z with z | z
  · exact hL z
  · exact nM _ z o ho h
theorem Step.put {H1 HF1 : Hp} {L1 : List Addr} (st : Step H HF L H1 HF1 L1) {Dl : Addr} {o : HO} (hD : H Dl = none) (ho : Nt o := by intro _ h; cases h) : Step H HF L (upd H1 Dl o) HF1 L1 :=
  ⟨fun b o hb nt e => by rw [upd_ne (ne_of_none e hD)]; exact st.keep b o hb nt e, fun b u nu e => by
    obtain ⟨o1, n1, e1⟩ := st.nn b u nu e
    exact ⟨o1, n1, by rw [upd_ne (ne_of_none e hD)]; exact e1⟩, st.fro, st.new, st.ext⟩
/-- a slot is stored -/
theorem Rel.store (R : Rel G H HF L σ ρ S) {v : V} {e : EV} (r : RepE G HF L v e) (i : Nat) : Rel G H HF L (σ.set i (some v)) (ρ.set i (some e)) S := by
  refine ⟨R.sub, R.nd, R.sl, R.liv, R.tab, R.nft, R.cell, by simpa using R.el, fun j x h => ?_⟩
  by_cases hj : j = i
  · subst hj
    by_cases hl : j < ρ.length
    · rw [List.getElem?_set_self hl] at h
      cases h
      exact ⟨v, by rw [List.getElem?_set_self (by rw [R.el]; exact hl)], r⟩
    · rw [List.getElem?_eq_none (by simpa using hl)] at h; cases h
  · rw [List.getElem?_set_ne (Ne.symm hj)] at h ⊢
    exact R.env j x h
end

/-! ### what is wanted behind a piece -/
structure WD where
  w : Value → Option Addr → L2.St → Hp → Prop
  xi : Option (Addr × Value × Option Addr)
/-- the same, but nothing may be raised -/
def WD.z (W : WD) : WD := ⟨fun _ _ _ _ => False, W.xi⟩
/-- the same for every kind of answer: P says what the answer's representation is -/
def Post {α β : Type} (G : Gd) (W : WD) (σ : L2.St) (ρ : Env) (H HF : Hp) (L : List Addr) (P : Hp → List Addr → β → α → Prop) (Q : β → Hp → Prop) : Out α → Prop
  | .ok d S' => ∀ v H' HF' L', Step H HF L H' HF' L' → Rel G H' HF' L' σ ρ S' → P HF' L' v d → Q v H'
  | .ex x S' => ∀ cls dd H' HF' L', Step H HF L H' HF' L' → Rel G H' HF' L' σ ρ S' → ExRep G x HF' cls dd → W.w cls dd σ H'
  | .bad => False
theorem Post.step {α β : Type} {G : Gd} {W : WD} {σ : L2.St} {ρ : Env} {H HF H1 HF1 : Hp} {L L1 : List Addr} {P : Hp → List Addr → β → α → Prop} {Q : β → Hp → Prop} (st : Step H HF L H1 HF1 L1) :
    ∀ {o : Out α}, Post G W σ ρ H HF L P Q o → Post G W σ ρ H1 HF1 L1 P Q o
  | .ok d S', h => fun v H' HF' L' s2 => h v H' HF' L' (st.trans s2)
  | .ex x S', h => fun cls dd H' HF' L' s2 => h cls dd H' HF' L' (st.trans s2)
  | .bad, h => h
/-- from a piece to what follows it -/
theorem Post.bind {α β γ δ : Type} {G : Gd} {W : WD} {σ : L2.St} {ρ : Env} {H HF : Hp} {L : List Addr} {P : Hp → List Addr → β → α → Prop} {P2 : Hp → List Addr → δ → γ → Prop} {Q : δ → Hp → Prop} {Q1 : β → Hp → Prop} {k : α → Store → Out γ} :
    ∀ {o : Out α}, Post G W σ ρ H HF L P2 Q (o.bind k) →
      (∀ d S' v H' HF' L', o = .ok d S' → Step H HF L H' HF' L' → Rel G H' HF' L' σ ρ S' → P HF' L' v d → Post G W σ ρ H' HF' L' P2 Q (k d S') → Q1 v H') → Post G W σ ρ H HF L P Q1 o
  | .ok d S', h, f => fun v H' HF' L' st R r => f d S' v H' HF' L' rfl st R r (Post.step st h)
  | .ex x S', h, _ => h
  | .bad, h, _ => h
def RepB (HF : Hp) (L : List Addr) (b c : Bool) : Prop := b = c
def tD (G : Gd) (W : WD) (f : DEn) : TE := fun σ H Q => ∃ HF L ρ S, Rel G H HF L σ ρ S ∧ Post G W σ ρ H HF L (fun HF' _ v d => Rep G HF' v d) Q (f ρ S)
def tT (G : Gd) (W : WD) (f : DTn) : TT := fun σ H Q => ∃ HF L ρ S, Rel G H HF L σ ρ S ∧ Post G W σ ρ H HF L RepB Q (f ρ S)
def tA (G : Gd) (W : WD) (f : DAn) : TA := fun σ H Q => ∃ HF L ρ S, Rel G H HF L σ ρ S ∧ Post G W σ ρ H HF L (fun HF' L' vs es => RepEs G HF' L' vs es) Q (f ρ S)
def EndsD (G : Gd) (W : WD) (D : Ends) (HF' : Hp) (σ' : L2.St) (H' : Hp) : Ctl → Prop
  | .nx => D.nx σ' H'
  | .bk => D.bk σ' H'
  | .ct => D.ct σ' H'
  | .rt d => ∀ v, Rep G HF' v d → D.rt v H'
  | .ex x => ∀ cls dd, ExRep G x HF' cls dd → W.w cls dd σ' H'
def PostS (G : Gd) (W : WD) (H HF : Hp) (L : List Addr) (D : Ends) : Out (Ctl × DL.Env) → Prop
  | .ok cr S' => ∀ σ' H' HF' L', Step H HF L H' HF' L' → Rel G H' HF' L' σ' cr.2 S' → EndsD G W D HF' σ' H' cr.1
  | .ex _ _ => False
  | .bad => False
def tS (G : Gd) (W : WD) (f : DSn) : TS := fun D σ H => ∃ HF L ρ S, Rel G H HF L σ ρ S ∧ PostS G W H HF L D (f ρ S)
end DL

namespace DL
open PySem L2

abbrev gd (X : Cx) (W : WD) : Gd := ⟨X.K, X.mg, W.xi⟩
abbrev W0 : WD := ⟨fun _ _ _ _ => False, none⟩
theorem PE.imp {X : Cx} {e : Expr} {t t' : TE} (h : PE X e t) (k : ∀ σ H Q, t' σ H Q → t σ H Q) : PE X e t' := ⟨fun pins s σ H Q I q => h.run pins s σ H Q I (k σ H Q q)⟩
theorem PT.imp {X : Cx} {e : Expr} {t t' : TT} (h : PT X e t) (k : ∀ σ H Q, t' σ H Q → t σ H Q) : PT X e t' := ⟨fun pins s σ H Q I q => h.run pins s σ H Q I (k σ H Q q)⟩
theorem PW.imp {X : Cx} {e : Expr} {t t' : TT} (h : PW X e t) (k : ∀ σ H Q, t' σ H Q → t σ H Q) : PW X e t' := ⟨fun wh pins s σ H Q I q => h.run wh pins s σ H Q I (k σ H Q q)⟩
theorem PA.imp {X : Cx} {e : List Expr} {t t' : TA} (h : PA X e t) (k : ∀ σ H Q, t' σ H Q → t σ H Q) : PA X e t' := ⟨fun pos pins s σ H Q I q => h.run pos pins s σ H Q I (k σ H Q q)⟩
theorem PS.imp {X : Cx} {e : Stmt} {t t' : TS} (h : PS X e t) (k : ∀ D σ H, t' D σ H → t D σ H) : PS X e t' := ⟨fun pins s σ H D I q => h.run pins s σ H D I (k D σ H q)⟩
theorem PSs.imp {X : Cx} {e : List Stmt} {t t' : TS} (h : PSs X e t) (k : ∀ D σ H, t' D σ H → t D σ H) : PSs X e t' := ⟨fun pins s σ H D I q => h.run pins s σ H D I (k D σ H q)⟩
theorem OpR.or {X : Cx} {f : Value → Value → Sem Value} {r r' : R2} (h : OpR X f r) (h' : OpR X f r') : OpR X f (fun x y H Q => r x y H Q ∨ r' x y H Q) := by
  intro pins s σ H x y v u Q I rx ry q
  rcases q with q | q
  · exact h pins s σ H x y v u Q I rx ry q
  · exact h' pins s σ H x y v u Q I rx ry q
theorem SlR.or {X : Cx} {r r' : V → Option Int → Option Int → Hp → VK → Prop} (h : SlR X r) (h' : SlR X r') : SlR X (fun x l u H Q => r x l u H Q ∨ r' x l u H Q) := by
  intro pins s σ H x v vl vu lo hi sl Q I rx hs pl pu q
  rcases q with q | q
  · exact h pins s σ H x v vl vu lo hi sl Q I rx hs pl pu q
  · exact h' pins s σ H x v vl vu lo hi sl Q I rx hs pl pu q
theorem CallR.or {X : Cx} {f : Value} {r r' : List V → Hp → VK → Prop} (h : CallR X f r) (h' : CallR X f r') : CallR X f (fun xs H Q => r xs H Q ∨ r' xs H Q) := by
  intro pins s σ H xs us Q I rx q
  rcases q with q | q
  · exact h pins s σ H xs us Q I rx q
  · exact h' pins s σ H xs us Q I rx q

/-! ### what an operation may do to the heap: nothing, or one new object that never changes -/
inductive Al (H HF : Hp) : Hp → Hp → Prop
  | no : Al H HF H HF
  | new {p : Addr} {o : HO} (hp : H p = none) (ho : Nt o := by intro _ h; cases h) : Al H HF (upd H p o) (upd HF p o)
  | ad {p q : Addr} {o : HO} {ys : List V} (hp : H p = none) (hq : H q = some (.tup ys)) (ho : Nt o := by intro _ h; cases h) : Al H HF (upd H p o) (upd (upd HF q (.tup ys)) p o)
theorem Rel.adoptT {G : Gd} {H HF : Hp} {L : List Addr} {σ : L2.St} {ρ : DL.Env} {S : Store} (R : Rel G H HF L σ ρ S) {b : Addr} {ys : List V} (hb : H b = some (.tup ys)) : Rel G H (upd HF b (.tup ys)) L σ ρ S ∧ Step H HF L H (upd HF b (.tup ys)) L := by
  have hL : b ∉ L := fun z => by
    obtain ⟨o, e, m⟩ := R.liv b z
    rw [hb] at e; cases e; exact m
  have sm : Same HF (upd HF b (.tup ys)) := fun c u e => by
    by_cases hc : c = b
    · subst hc
      have := R.sub _ _ e
      rw [hb] at this; cases this
      exact upd_same
    · rw [upd_ne hc]; exact e
  refine ⟨⟨fun c u q => ?_, R.nd, R.sl, R.liv, R.tab.up (fun _ _ e => e) sm, nft_upd R.nft (fun _ h => by cases h), fun n a c h1 h2 => ?_, R.el, fun i x h => ?_⟩, ⟨fun _ _ _ _ q => q, fun _ o n q => ⟨o, n, q⟩, sm, fun a o _ q m e => ?_, [], by simp, by simp⟩⟩
  · by_cases hc : c = b
    · subst hc; rw [upd_same] at q; cases q; exact hb
    · rw [upd_ne hc] at q; exact R.sub c u q
  · obtain ⟨q1, q2⟩ := R.cell n a c h1 h2
    have ne : a ≠ b := fun z => hL (by rw [← z]; exact List.mem_of_getElem? h1)
    exact ⟨by rw [upd_ne ne]; exact q1, q2.up rfl sm⟩
  · obtain ⟨v, q1, q2⟩ := R.env i x h
    refine ⟨v, q1, ?_⟩
    cases x with
    | v d => exact Rep.mono sm q2
    | cel n => exact q2
    | exn x =>
      obtain ⟨b, cls, dd, k1, k2, k3⟩ := q2
      exact ⟨b, cls, dd, k1, k2, k3.mono sm⟩
    | lam ws ds => exact RepLam.mono sm q2
  · have ne : a ≠ b := fun z => by subst z; rw [hb] at e; cases e; exact m
    rw [upd_ne ne]; exact q
section
variable {G : Gd} {H HF H' HF' : Hp} {L : List Addr} {σ : L2.St} {ρ : Env} {S : Store}
theorem Rel.al (R : Rel G H HF L σ ρ S) (a : Al H HF H' HF') : Rel G H' HF' L σ ρ S ∧ Step H HF L H' HF' L := by
  cases a with
  | no => exact ⟨R, .refl⟩
  | new hp ho => exact R.frozen hp ho
  | ad hp hq ho =>
    obtain ⟨R1, s1⟩ := R.adoptT hq
    obtain ⟨R2, s2⟩ := R1.frozen hp ho
    exact ⟨R2, s1.trans s2⟩
end
def lift {α : Type} (o : Option α) (S : Store) : Out α := match o with
  | some d => .ok d S
  | none => .bad
theorem Post.lift {α β : Type} {G : Gd} {W : WD} {σ : L2.St} {ρ : Env} {H HF : Hp} {L : List Addr} {P : Hp → List Addr → β → α → Prop} {Q : β → Hp → Prop} {o : Option α} {S : Store} (h : Post G W σ ρ H HF L P Q (lift o S)) :
    ∃ d, o = some d ∧ Post G W σ ρ H HF L P Q (.ok d S) := by
  cases o with
  | none => exact h.elim
  | some d => exact ⟨d, rfl, h⟩
/-- the end of an operation: its answer in the heap behind it -/
theorem Post.done {α β : Type} {G : Gd} {W : WD} {σ : L2.St} {ρ : Env} {H HF H' HF' : Hp} {L : List Addr} {P : Hp → List Addr → β → α → Prop} {Q : β → Hp → Prop} {d : α} {S : Store} {v : β} (h : Post G W σ ρ H HF L P Q (.ok d S)) (R : Rel G H HF L σ ρ S)
    (a : Al H HF H' HF') (r : P HF' L v d) : Q v H' := h v H' HF' L (R.al a).2 (R.al a).1 r

/-! ### expressions: names, constants -/
section
variable {X : Cx} {W : WD} {pos : Pos}
abbrev DE (X : Cx) (W : WD) (e : Expr) (f : DEn) : Prop := PE X e (tD (gd X W) W f)
abbrev DT (X : Cx) (W : WD) (e : Expr) (f : DTn) : Prop := PT X e (tT (gd X W) W f)
abbrev DPW (X : Cx) (W : WD) (e : Expr) (f : DTn) : Prop := PW X e (tT (gd X W) W f)

def mVar (i : Nat) : DEn := fun ρ S => match ρ[i]? with
  | some (some (.v d)) => .ok d S
  | _ => .bad
theorem xv (i : Nat) {x : Str} (hN : X.N[i]? = some x := by rfl) (hv : Vis X.env.scope x := by first | exact Or.inl rfl | exact Or.inr (Or.inl rfl) | exact Or.inr (Or.inr rfl)) (hd : (x == ("__debug__" : Str)) = false := by decide)
    (hcd : (x == ("__classdict__" : Str)) = false := by decide) : DE X W (.Name x pos) (mVar i) := by
  refine PE.imp (pe_var (i := i) hN hv hd hcd) fun σ H Q ⟨HF, L, ρ, S, R, p⟩ => ?_
  unfold mVar at p
  split at p
  · rename_i d e
    obtain ⟨v, h1, h2⟩ := R.env i _ e
    exact ⟨v, h1, p.done R .no h2⟩
  · exact p.elim
def mC (d : D) : DEn := fun _ S => .ok d S
theorem xC {e : Expr} {v : V} {d : D} (h : PE X e (tC v)) (r : ∀ HF, Rep (gd X W) HF v d) : DE X W e (mC d) := PE.imp h fun σ H Q ⟨HF, L, ρ, S, R, p⟩ => p.done R .no (r HF)
theorem xint {i j} : DE X W (.Constant (.int i) j pos) (mC (.int i)) := xC pe_int fun _ => .int i
theorem xbl {b j} : DE X W (.Constant (.bool b) j pos) (mC (.bl b)) := xC pe_bl fun _ => .bl b
theorem xnon {j} : DE X W (.Constant .none j pos) (mC .non) := xC pe_non fun _ => .non
theorem xstr {x j} : DE X W (.Constant (.str x) j pos) (mC (.str x)) := xC pe_str fun _ => .str x
/-- a def's name as a value -/
theorem xfn {x : Str} {a : Addr} (hg : Gl X x) (hm : X.mg x = some (.ref a)) (hd : (x == ("__debug__" : Str)) = false := by decide) : DE X W (.Name x pos) (mC (.fn x)) := xC (pe_glob (v := .ref a) hg hm rfl hd) fun _ => .fn hm
/-- a module's constant -/
structure Kon (G : Gd) (x : Str) (d : D) : Prop where
  is : ∃ (v : V) (u : Value), G.mg x = some u ∧ RelV v u ∧ ∀ HF, Rep G HF v d
theorem xk {x : Str} {d : D} (k : Kon (gd X W) x d) (hg : Gl X x := by rfl) (hd : (x == ("__debug__" : Str)) = false := by decide) : DE X W (.Name x pos) (mC d) := by
  obtain ⟨v, u, h1, h2, h3⟩ := k.is
  exact xC (pe_glob hg h1 h2 hd) h3

/-! ### operations on two values -/
def mOp (g : D → D → Option D) (fa fb : DEn) : DEn := fun ρ S => (fa ρ S).bind fun x S1 => (fb ρ S1).bind fun y S2 => lift (g x y) S2
def OpS (G : Gd) (r : R2) (g : D → D → Option D) : Prop := ∀ (x y : D) (v w : V) (H HF : Hp) (d : D) (Q : VK), Same HF H → Rep G HF v x → Rep G HF w y → g x y = some d →
  (∀ u H' HF', Al H HF H' HF' → Rep G HF' u d → Q u H') → r v w H Q
variable {a b c : Expr} {fa fb fc : DEn}
/-- two operands, then what follows -/
theorem tD.two {r : R2} {g : D → D → Store → Out D} {σ : L2.St} {H : Hp} {Q : VK} (h : tD (gd X W) W (fun ρ S => (fa ρ S).bind fun x S1 => (fb ρ S1).bind fun y S2 => g x y S2) σ H Q)
    (k : ∀ x y v w H HF L ρ S, Rel (gd X W) H HF L σ ρ S → Rep (gd X W) HF v x → Rep (gd X W) HF w y → Post (gd X W) W σ ρ H HF L (fun HF' _ v d => Rep (gd X W) HF' v d) Q (g x y S) → r v w H Q) :
    tOp r (tD (gd X W) W fa) (tD (gd X W) W fb) σ H Q := by
  obtain ⟨HF, L, ρ, S, R, p⟩ := h
  refine ⟨HF, L, ρ, S, R, Post.bind p fun x S1 v H1 HF1 L1 e1 st1 R1 r1 p1 => ?_⟩
  refine ⟨HF1, L1, ρ, S1, R1, Post.bind p1 fun y S2 w H2 HF2 L2 e2 st2 R2 r2 p2 => ?_⟩
  exact k x y v w H2 HF2 L2 ρ S2 R2 (Rep.mono st2.fro r1) r2 p2
theorem tD.op {r : R2} {g : D → D → Option D} (hs : OpS (gd X W) r g) {σ : L2.St} {H : Hp} {Q : VK} (h : tD (gd X W) W (mOp g fa fb) σ H Q) : tOp r (tD (gd X W) W fa) (tD (gd X W) W fb) σ H Q :=
  tD.two h fun x y v w H HF L ρ S R rx ry p => by
    obtain ⟨d, e, p⟩ := p.lift
    exact hs x y v w H HF d Q R.sub rx ry e fun u H' HF' al r => p.done R al r
structure BOp (X : Cx) (W : WD) (op : Operator) (g : D → D → Option D) : Prop where
  has : ∃ r : R2, OpR X (binaryOp op) r ∧ OpS (gd X W) r g
theorem xop {op : Operator} {g : D → D → Option D} (o : BOp X W op g) (ha : DE X W a fa) (hb : DE X W b fb) : DE X W (.BinOp a op b pos) (mOp g fa fb) := by
  obtain ⟨r, h1, h2⟩ := o.has
  exact PE.imp (pe_op h1 ha hb) fun σ H Q h => tD.op h2 h

def lim : Nat := 1000000
theorem lim_le : lim ≤ sizeLine := by rw [sizeLine_eq]; decide
def gAdd : D → D → Option D
  | .int i, .int j => some (.int (i + j))
  | .tup a, .tup b => if a.length + b.length ≤ lim then some (.tup (a ++ b)) else none
  | .lst a, .lst b => if a.length + b.length ≤ lim then some (.lst (a ++ b)) else none
  | _, _ => none
theorem bAdd : BOp X W .Add gAdd := by
  refine ⟨_, OpR.or op_add (OpR.or (op_catA (X := X)) op_cat), fun x y v w H HF d Q sub rx ry e q => ?_⟩
  unfold gAdd at e
  split at e
  · cases rx; cases ry; cases e
    exact .inl ⟨_, _, rfl, rfl, q _ _ _ .no (.int _)⟩
  · split at e
    · rename_i a b hz
      cases e
      cases rx with
      | tup h1 r1 =>
        cases ry with
        | tup h2 r2 =>
          refine .inr (.inl ⟨_, _, _, _, rfl, rfl, SqT.mono sub h1, SqT.mono sub h2, ?_, fun e0 => ?_, fun _ e1 => ?_, fun _ _ p hp => ?_⟩)
          · rw [r1.length, r2.length]; exact Nat.le_trans hz lim_le
          · subst e0
            cases r1
            exact q _ _ _ .no (.tup h2 r2)
          · subst e1
            cases r2
            rw [List.append_nil] at *
            exact q _ _ _ .no (.tup h1 r1)
          · have hF : HF p = none := by
              cases z : HF p with
              | none => rfl
              | some o => rw [sub p o z] at hp; cases hp
            exact q _ _ _ (.new hp) (.tup (SqE.of upd_same) ((r1.append r2).mono (same_upd hF)))
    · cases e
  · split at e
    · rename_i a b hz
      cases e
      cases rx with
      | lst h1 r1 =>
        cases ry with
        | lst h2 r2 =>
          refine .inr (.inr ⟨_, _, _, _, rfl, rfl, sub _ _ h1, sub _ _ h2, ?_, fun p hp => ?_⟩)
          · rw [r1.length, r2.length]; exact Nat.le_trans hz lim_le
          · have hF : HF p = none := by
              cases z : HF p with
              | none => rfl
              | some o => rw [sub p o z] at hp; cases hp
            exact q _ _ _ (.new hp) (.lst upd_same ((r1.append r2).mono (same_upd hF)))
    · cases e
  · cases e
def gSub : D → D → Option D
  | .int i, .int j => some (.int (i - j))
  | _, _ => none
theorem bSub : BOp X W .Sub gSub := by
  refine ⟨_, op_sub, fun x y v w H HF d Q sub rx ry e q => ?_⟩
  unfold gSub at e
  split at e
  · cases rx; cases ry; cases e
    exact ⟨_, _, rfl, rfl, q _ _ _ .no (.int _)⟩
  · cases e
theorem free_of {H HF : Hp} (sub : Same HF H) {p : Addr} (hp : H p = none) : HF p = none := by
  cases z : HF p with
  | none => rfl
  | some o => rw [sub p o z] at hp; cases hp
theorem Reps.rep {G : Gd} {H : Hp} {vs : List V} {ds : List D} (r : Reps G H vs ds) : ∀ n : Nat, Reps G H (List.replicate n vs).flatten (List.replicate n ds).flatten
  | 0 => .nil
  | n + 1 => by
    rw [List.replicate_succ, List.replicate_succ, List.flatten_cons, List.flatten_cons]
    exact r.append (Reps.rep r n)
def gMul : D → D → Option D
  | .int i, .int j => if i.natAbs < 18446744073709551616 ∨ j.natAbs < 18446744073709551616 then some (.int (i * j)) else none
  | .tup a, .int k => if a ≠ [] ∧ 2 ≤ k ∧ k ≤ 1000 ∧ a.length ≤ 1000 then some (.tup (List.replicate k.toNat a).flatten) else none
  | .lst a, .int k => if k ≤ 1000 ∧ -1000 ≤ k ∧ a.length ≤ 1000 then some (.lst (List.replicate k.toNat a).flatten) else none
  | _, _ => none
theorem bMul : BOp X W .Mult gMul := by
  refine ⟨_, OpR.or op_mul (OpR.or (op_repT (X := X)) op_rep), fun x y v w H HF d Q sub rx ry e q => ?_⟩
  unfold gMul at e
  split at e
  · split at e
    · rename_i i j hz
      cases rx; cases ry; cases e
      refine .inl ⟨_, _, rfl, rfl, ?_, q _ _ _ .no (.int _)⟩
      rcases hz with hz | hz
      · exact .inl ⟨by omega, by omega⟩
      · exact .inr ⟨by omega, by omega⟩
    · cases e
  · split at e
    · rename_i a k hz
      cases e
      cases ry
      cases rx with
      | tup h1 r1 =>
        refine .inr (.inl ⟨_, _, _, rfl, rfl, SqT.mono sub h1, fun z => ?_, hz.2.1, hz.2.2.1, by rw [r1.length]; exact hz.2.2.2, fun p hp => ?_⟩)
        · subst z; cases r1; exact hz.1 rfl
        · exact q _ _ _ (.new hp) (.tup (SqE.of upd_same) ((r1.rep _).mono (same_upd (free_of sub hp))))
    · cases e
  · split at e
    · rename_i a k hz
      cases e
      cases ry
      cases rx with
      | lst h1 r1 =>
        refine .inr (.inr ⟨_, _, _, rfl, rfl, sub _ _ h1, by omega, by omega, ?_, fun p hp => ?_⟩)
        · rw [r1.length]
          have h0 : a.length * k.toNat ≤ 1000 * 1000 := Nat.mul_le_mul hz.2.2 (by omega)
          exact Nat.le_trans h0 lim_le
        · exact q _ _ _ (.new hp) (.lst upd_same ((r1.rep _).mono (same_upd (free_of sub hp))))
    · cases e
  · cases e
def gMod : D → D → Option D
  | .int i, .int j => if 0 < j then some (.int (i % j)) else none
  | _, _ => none
theorem bMod : BOp X W .Mod gMod := by
  refine ⟨_, op_mod, fun x y v w H HF d Q sub rx ry e q => ?_⟩
  unfold gMod at e
  split at e
  · split at e
    · cases rx; cases ry; cases e
      exact ⟨_, _, rfl, rfl, by assumption, q _ _ _ .no (.int _)⟩
    · cases e
  · cases e
def gDiv : D → D → Option D
  | .int i, .int j => if 0 < j ∧ j < 1073741824 then some (.int (i / j)) else none
  | _, _ => none
theorem bDiv : BOp X W .FloorDiv gDiv := by
  refine ⟨_, op_fdiv, fun x y v w H HF d Q sub rx ry e q => ?_⟩
  unfold gDiv at e
  split at e
  · split at e
    · cases rx; cases ry; cases e
      exact ⟨_, _, rfl, rfl, by assumption, q _ _ _ .no (.int _)⟩
    · cases e
  · cases e
def gPow : D → D → Option D
  | .int i, .int j => if 0 ≤ j ∧ j ≤ 1000000 ∧ i.natAbs < 18446744073709551616 then some (.int (i ^ j.toNat)) else none
  | _, _ => none
theorem bPow : BOp X W .Pow gPow := by
  refine ⟨_, op_pow, fun x y v w H HF d Q sub rx ry e q => ?_⟩
  unfold gPow at e
  split at e
  · split at e
    · rename_i i j hz
      cases rx; cases ry; cases e
      exact ⟨_, _, rfl, rfl, ⟨hz.1, hz.2.1, by omega⟩, q _ _ _ .no (.int _)⟩
    · cases e
  · cases e

/-! ### comparisons -/
def mCmp (g : D → D → Option Bool) (fa fb : DEn) : DTn := fun ρ S => (fa ρ S).bind fun x S1 => (fb ρ S1).bind fun y S2 => lift (g x y) S2
def mB (f : DTn) : DEn := fun ρ S => (f ρ S).bind fun b S1 => .ok (.bl b) S1
def CmS (G : Gd) (r : R2) (g : D → D → Option Bool) : Prop := ∀ (x y : D) (v w : V) (H HF : Hp) (b : Bool) (Q : VK), Same HF H → Rep G HF v x → Rep G HF w y → g x y = some b → Q (.bl b) H → r v w H Q
structure CmpO (X : Cx) (W : WD) (op : CmpOp) (g : D → D → Option Bool) : Prop where
  has : ∃ r : R2, OpR X (compareOp op) r ∧ CmS (gd X W) r g
/-- an expression of a bool, as the value of a test's answer -/
theorem tT.two {r : R2} {g : D → D → Option Bool} (hs : CmS (gd X W) r g) {σ : L2.St} {H : Hp} {Q : Bool → Hp → Prop} {Qv : VK} (h : tT (gd X W) W (mCmp g fa fb) σ H Q) (hq : ∀ b H', Q b H' → Qv (.bl b) H') :
    tOp r (tD (gd X W) W fa) (tD (gd X W) W fb) σ H Qv := by
  obtain ⟨HF, L, ρ, S, R, p⟩ := h
  refine ⟨HF, L, ρ, S, R, Post.bind p fun x S1 v H1 HF1 L1 e1 st1 R1 r1 p1 => ?_⟩
  refine ⟨HF1, L1, ρ, S1, R1, Post.bind p1 fun y S2 w H2 HF2 L2 e2 st2 R2 r2 p2 => ?_⟩
  obtain ⟨b, e, p⟩ := p2.lift
  exact hs x y v w H2 HF2 b Qv R2.sub (Rep.mono st2.fro r1) r2 e (hq b H2 (p.done R2 .no rfl))
theorem Post.mB {σ : L2.St} {ρ : DL.Env} {H HF : Hp} {L : List Addr} {Q : VK} : ∀ {o : Out Bool}, Post (gd X W) W σ ρ H HF L (fun HF' _ v d => Rep (gd X W) HF' v d) Q (o.bind fun b S1 => .ok (.bl b) S1) → Post (gd X W) W σ ρ H HF L RepB (fun b H' => Q (.bl b) H') o
  | .ok b S, h => fun c H' HF' L' st R e => h _ H' HF' L' st R (by cases e; exact .bl _)
  | .ex x S, h => h
  | .bad, h => h
theorem tD.mB {f : DTn} {σ : L2.St} {H : Hp} {Q : VK} (h : tD (gd X W) W (mB f) σ H Q) : tT (gd X W) W f σ H (fun b H' => Q (.bl b) H') := by
  obtain ⟨HF, L, ρ, S, R, p⟩ := h
  exact ⟨HF, L, ρ, S, R, Post.mB p⟩
theorem xcmp {op : CmpOp} {g : D → D → Option Bool} (o : CmpO X W op g) (ha : DE X W a fa) (hb : DE X W b fb) (hm : behindInMarks op b = false := by first | rfl | exact nomark _) : DE X W (.Compare a [op] [b] pos) (mB (mCmp g fa fb)) := by
  obtain ⟨r, h1, h2⟩ := o.has
  exact PE.imp (pe_cmpR h1 ha hb hm) fun σ H Q h => tT.two h2 (tD.mB h) fun _ _ q => q
theorem ycmp {op : CmpOp} {g : D → D → Option Bool} (o : CmpO X W op g) (ha : DE X W a fa) (hb : DE X W b fb) (hm : behindInMarks op b = false := by first | rfl | exact nomark _) : DT X W (.Compare a [op] [b] pos) (mCmp g fa fb) := by
  obtain ⟨r, h1, h2⟩ := o.has
  exact PT.imp (pt_cmpR h1 ha hb hm) fun σ H Q h => tT.two h2 h fun b _ q => ⟨b, rfl, q⟩
def gI (p : Int → Int → Bool) : D → D → Option Bool
  | .int i, .int j => some (p i j)
  | _, _ => none
theorem cmI {op : CmpOp} {p : Int → Int → Bool} (h : OpR X (compareOp op) (rI0 fun i j => .bl (p i j))) : CmpO X W op (gI p) := by
  refine ⟨_, h, fun x y v w H HF b Q sub rx ry e q => ?_⟩
  unfold gI at e
  split at e
  · cases rx; cases ry; cases e
    exact ⟨_, _, rfl, rfl, q⟩
  · cases e
abbrev gLt := gI fun i j => decide (i < j)
abbrev gLe := gI fun i j => decide (i ≤ j)
abbrev gGt := gI fun i j => decide (j < i)
abbrev gGe := gI fun i j => decide (j ≤ i)
theorem cLt : CmpO X W .Lt gLt := cmI op_lt
theorem cLe : CmpO X W .LtE gLe := cmI op_le
theorem cGt : CmpO X W .Gt gGt := cmI op_gt
theorem cGe : CmpO X W .GtE gGe := cmI op_ge
mutual
def D.py : D → PyData
  | .non => .none
  | .bl b => .bool b
  | .int i => .int i
  | .str x => .str x
  | .tup ds => .tuple (D.pys ds)
  | .lst ds => .list (D.pys ds)
  | .rol _ => .dict []
  | .fn _ => .dict []
  | .rng _ _ => .dict []
  | .dck _ _ => .dict []
  | .dct _ _ => .dict []
def D.pys : List D → List PyData
  | [] => []
  | d :: ds => d.py :: D.pys ds
end
theorem D.pys_map : ∀ ds : List D, D.pys ds = ds.map D.py
  | [] => rfl
  | d :: ds => by rw [D.pys, D.pys_map ds]; rfl
mutual
theorem Rep.dp {G : Gd} {H : Hp} : ∀ (d : D) {v : V}, Rep G H v d → PyData.canLay0 d.py = true → Dp G.K H v d.py
  | .non, _, h, _ => by cases h; exact .non
  | .bl _, _, h, _ => by cases h; exact .bl _
  | .int _, _, h, _ => by cases h; exact .int _
  | .str _, _, h, _ => by cases h; exact .str _
  | .tup ds, _, h, c => by
    cases h with
    | tup hs hr => exact .tup hs.sqT (Reps.dp ds hr c)
  | .lst ds, _, h, c => by
    cases h with
    | lst hs hr => exact .lst (SqL.of hs) (Reps.dp ds hr c)
  | .rol _, _, _, c => by exact absurd c Bool.false_ne_true
  | .fn _, _, _, c => by exact absurd c Bool.false_ne_true
  | .rng _ _, _, _, c => by exact absurd c Bool.false_ne_true
  | .dck _ _, _, _, c => by exact absurd c Bool.false_ne_true
  | .dct _ _, _, _, c => by exact absurd c Bool.false_ne_true
theorem Reps.dp {G : Gd} {H : Hp} : ∀ (ds : List D) {vs : List V}, Reps G H vs ds → PyData.canLayAll0 (D.pys ds) = true → DpAll G.K H vs (D.pys ds)
  | [], _, h, _ => by cases h; exact .nil
  | d :: ds, _, h, c => by
    cases h with
    | cons h1 h2 =>
      have c' : (PyData.canLay0 d.py && PyData.canLayAll0 (D.pys ds)) = true := c
      rw [Bool.and_eq_true] at c'
      exact .cons (Rep.dp d h1 c'.1) (Reps.dp ds h2 c'.2)
end
def D.okd (d : D) : Bool := SeqAt.shaped d.py
theorem Rep.dps {G : Gd} {H HF : Hp} {d : D} {v : V} (sub : Same HF H) (r : Rep G HF v d) (c : d.okd = true) : Dp G.K H v d.py := Rep.dp d (Rep.mono sub r) (Bool.and_eq_true_iff.mp c).1
def deq (d e : D) : Bool := PyData.eqv d.py e.py
def gEq : D → D → Option Bool := fun d e => if d.okd = true ∧ e.okd = true then some (deq d e) else none
def gNe : D → D → Option Bool := fun d e => if d.okd = true ∧ e.okd = true then some (!deq d e) else none
theorem cEq (hu : X.A.units + 64 < cLine) : CmpO X W .Eq gEq := by
  refine ⟨_, op_eqD hu, fun x y v w H HF b Q sub rx ry e q => ?_⟩
  unfold gEq at e
  split at e
  · rename_i hc
    cases e
    exact ⟨x.py, y.py, rx.dps sub hc.1, ry.dps sub hc.2, hc.1, hc.2, q⟩
  · cases e
theorem cNe (hu : X.A.units + 64 < cLine) : CmpO X W .NotEq gNe := by
  refine ⟨_, op_neD hu, fun x y v w H HF b Q sub rx ry e q => ?_⟩
  unfold gNe at e
  split at e
  · rename_i hc
    cases e
    exact ⟨x.py, y.py, rx.dps sub hc.1, ry.dps sub hc.2, hc.1, hc.2, q⟩
  · cases e
def gIsN : D → D → Option Bool
  | .non, .non => some true
  | _, .non => some false
  | _, _ => none
def gNotN : D → D → Option Bool := fun x y => (gIsN x y).map (!·)
theorem isN_of {G : Gd} {HF : Hp} {x y : D} {v w : V} {b : Bool} (rx : Rep G HF v x) (ry : Rep G HF w y) (e : gIsN x y = some b) : w = .non ∧ b = decide (v = .non) := by
  cases y with
  | non =>
    cases ry
    refine ⟨rfl, ?_⟩
    cases x with
    | non => cases rx; cases e; rfl
    | bl _ => cases rx; cases e; rfl
    | int _ => cases rx; cases e; rfl
    | str _ => cases rx; cases e; rfl
    | tup _ => cases rx; cases e; rfl
    | lst _ => cases rx; cases e; rfl
    | rol _ => cases rx; cases e; rfl
    | fn _ => cases rx; cases e; rfl
    | rng _ _ => cases rx; cases e; rfl
    | dck _ _ => cases rx; cases e; rfl
    | dct _ _ => cases rx; cases e; rfl
  | bl _ => cases x <;> cases e
  | int _ => cases x <;> cases e
  | str _ => cases x <;> cases e
  | tup _ => cases x <;> cases e
  | lst _ => cases x <;> cases e
  | rol _ => cases x <;> cases e
  | fn _ => cases x <;> cases e
  | rng _ _ => cases x <;> cases e
  | dck _ _ => cases x <;> cases e
  | dct _ _ => cases x <;> cases e
theorem cIs : CmpO X W .Is gIsN := by
  refine ⟨_, op_isN, fun x y v w H HF b Q sub rx ry e q => ?_⟩
  obtain ⟨h1, h2⟩ := isN_of rx ry e
  exact ⟨h1, by rw [← h2]; exact q⟩
theorem cIsNot : CmpO X W .IsNot gNotN := by
  refine ⟨_, op_notN, fun x y v w H HF b Q sub rx ry e q => ?_⟩
  unfold gNotN at e
  cases e' : gIsN x y with
  | none => rw [e'] at e; cases e
  | some c =>
    rw [e'] at e
    cases e
    obtain ⟨h1, h2⟩ := isN_of rx ry e'
    exact ⟨h1, by rw [← h2]; exact q⟩
/-! ### in -/
def D.flat : D → Bool
  | .non => true
  | .bl _ => true
  | .int _ => true
  | .str _ => true
  | _ => false
theorem Rep.flatV {G : Gd} {HF : Hp} {d : D} {v : V} (r : Rep G HF v d) (c : d.flat = true) : flatV v = true := by
  cases d with
  | non => cases r; rfl
  | bl _ => cases r; rfl
  | int _ => cases r; rfl
  | str _ => cases r; rfl
  | _ => cases c
theorem Rep.eqV {G : Gd} {HF : Hp} {d e : D} {v w : V} (r : Rep G HF v d) (r' : Rep G HF w e) (c : d.flat = true) (c' : e.flat = true) : eqV v w = deq d e := by
  cases d with
  | non =>
    cases r
    cases e with
    | non => cases r'; rfl
    | bl _ => cases r'; rfl
    | int _ => cases r'; rfl
    | str _ => cases r'; rfl
    | _ => cases c'
  | bl _ =>
    cases r
    cases e with
    | non => cases r'; rfl
    | bl _ => cases r'; rfl
    | int _ => cases r'; rfl
    | str _ => cases r'; rfl
    | _ => cases c'
  | int _ =>
    cases r
    cases e with
    | non => cases r'; rfl
    | bl _ => cases r'; rfl
    | int _ => cases r'; rfl
    | str _ => cases r'; rfl
    | _ => cases c'
  | str _ =>
    cases r
    cases e with
    | non => cases r'; rfl
    | bl _ => cases r'; rfl
    | int _ => cases r'; rfl
    | str _ => cases r'; rfl
    | _ => cases c'
  | _ => cases c
theorem Reps.flatV {G : Gd} {HF : Hp} : ∀ {ds : List D} {vs : List V}, Reps G HF vs ds → ds.all D.flat = true → vs.all L2.flatV = true
  | [], _, h, _ => by cases h; rfl
  | d :: ds, _, h, c => by
    cases h with
    | cons h1 h2 =>
      rw [List.all_cons, Bool.and_eq_true] at c ⊢
      exact ⟨Rep.flatV h1 c.1, Reps.flatV h2 c.2⟩
theorem Reps.inV {G : Gd} {HF : Hp} {x : D} {v : V} (r : Rep G HF v x) (c : x.flat = true) : ∀ {ds : List D} {vs : List V}, Reps G HF vs ds → ds.all D.flat = true → inV v vs = ds.any fun z => deq z x
  | [], _, h, _ => by cases h; rfl
  | d :: ds, _, h, k => by
    cases h with
    | cons h1 h2 =>
      rw [List.all_cons, Bool.and_eq_true] at k
      have ih := Reps.inV r c h2 k.2
      unfold L2.inV at ih ⊢
      rw [List.any_cons, List.any_cons, Rep.eqV h1 r k.1 c, ih]
def gIn : D → D → Option Bool
  | x, .tup ds => if x.flat = true ∧ ds.all D.flat = true then some (ds.any fun z => deq z x) else none
  | x, .lst ds => if x.okd = true ∧ (D.lst ds).okd = true then some (ds.any fun z => deq z x) else none
  | _, _ => none
def gNotIn : D → D → Option Bool := fun x y => (gIn x y).map (!·)
theorem pys_any (x : D) : ∀ ds : List D, ((D.pys ds).any fun z => PyData.eqv z x.py) = ds.any fun z => deq z x
  | [] => rfl
  | d :: ds => by rw [D.pys, List.any_cons, List.any_cons, pys_any x ds]; rfl
theorem cIn (hu : X.A.units + 65 < cLine) : CmpO X W .In gIn := by
  refine ⟨_, OpR.or op_in_seq (op_inD hu), fun x y v w H HF b Q sub rx ry e q => ?_⟩
  cases y with
  | tup ds =>
    have e : (if x.flat = true ∧ ds.all D.flat = true then some (ds.any fun z => deq z x) else none) = some b := e
    split at e
    · rename_i hc
      cases e
      cases ry with
      | tup h1 r1 => exact .inl ⟨_, _, rfl, .inr (SqT.mono sub h1), rx.flatV hc.1, r1.flatV hc.2, by show Q (.bl (L2.inV _ _)) H; rw [Reps.inV rx hc.1 r1 hc.2]; exact q⟩
    · cases e
  | lst ds =>
    have e : (if x.okd = true ∧ (D.lst ds).okd = true then some (ds.any fun z => deq z x) else none) = some b := e
    split at e
    · rename_i hc
      cases e
      exact .inr ⟨x.py, D.pys ds, rx.dps sub hc.1, ry.dps sub hc.2, hc.1, hc.2, by rw [pys_any]; exact q⟩
    · cases e
  | _ => cases e
theorem cNotIn (hu : X.A.units + 65 < cLine) : CmpO X W .NotIn gNotIn := by
  refine ⟨_, OpR.or op_notIn_seq (op_notInD hu), fun x y v w H HF b Q sub rx ry e q => ?_⟩
  cases y with
  | tup ds =>
    have e : ((if x.flat = true ∧ ds.all D.flat = true then some (ds.any fun z => deq z x) else none).map (!·)) = some b := e
    split at e
    · rename_i hc
      cases e
      cases ry with
      | tup h1 r1 => exact .inl ⟨_, _, rfl, .inr (SqT.mono sub h1), rx.flatV hc.1, r1.flatV hc.2, by show Q (.bl (!L2.inV _ _)) H; rw [Reps.inV rx hc.1 r1 hc.2]; exact q⟩
    · cases e
  | lst ds =>
    have e : ((if x.okd = true ∧ (D.lst ds).okd = true then some (ds.any fun z => deq z x) else none).map (!·)) = some b := e
    split at e
    · rename_i hc
      cases e
      exact .inr ⟨x.py, D.pys ds, rx.dps sub hc.1, ry.dps sub hc.2, hc.1, hc.2, by rw [pys_any]; exact q⟩
    · cases e
  | _ => cases e
end
end DL

namespace DL
open PySem L2
section
variable {X : Cx} {W : WD} {pos : Pos} {a b c : Expr} {fa fb fc : DEn} {es : List Expr}
/-! ### chains, and, or, not, a if t else b -/
def mChain (g g' : D → D → Option Bool) (fa fb fc : DEn) : DTn := fun ρ S => (fa ρ S).bind fun x S1 => (fb ρ S1).bind fun y S2 => (lift (g x y) S2).bind fun k S3 =>
  if k = true then (fc ρ S3).bind fun z S4 => lift (g' y z) S4 else .ok false S3
theorem tT.chain {r r' : R2} {g g' : D → D → Option Bool} (hs : CmS (gd X W) r g) (hs' : CmS (gd X W) r' g') {σ : L2.St} {H : Hp} {Q : Bool → Hp → Prop} {Qv : VK} (h : tT (gd X W) W (mChain g g' fa fb fc) σ H Q) (hq : ∀ b H', Q b H' → Qv (.bl b) H') :
    tChain r r' (tD (gd X W) W fa) (tD (gd X W) W fb) (tD (gd X W) W fc) σ H Qv := by
  obtain ⟨HF, L, ρ, S, R, p⟩ := h
  refine ⟨HF, L, ρ, S, R, Post.bind p fun x S1 v H1 HF1 L1 e1 st1 R1 r1 p1 => ?_⟩
  refine ⟨HF1, L1, ρ, S1, R1, Post.bind p1 fun y S2 w H2 HF2 L2 e2 st2 R2 r2 p2 => ?_⟩
  cases eg : g x y with
  | none => rw [eg] at p2; exact p2.elim
  | some k =>
    rw [eg] at p2
    refine hs x y v w H2 HF2 k _ R2.sub (Rep.mono st2.fro r1) r2 eg ⟨k, rfl, ?_⟩
    cases k with
    | true =>
      rw [if_pos rfl]
      refine ⟨HF2, L2, ρ, S2, R2, Post.bind p2 fun z S4 u H4 HF4 L4 e4 st4 R4 r4 p4 => ?_⟩
      obtain ⟨b, e, p⟩ := p4.lift
      exact hs' y z w u H4 HF4 b Qv R4.sub (Rep.mono st4.fro r2) r4 e (hq b H4 (p.done R4 .no rfl))
    | false =>
      rw [if_neg Bool.false_ne_true]
      exact hq false H2 (Post.done (α := Bool) (P := RepB) p2 R2 .no rfl)
theorem xchain {op op' : CmpOp} {g g' : D → D → Option Bool} (o : CmpO X W op g) (o' : CmpO X W op' g') (ha : DE X W a fa) (hb : DE X W b fb) (hc : DE X W c fc) (hm : lastMarks [op, op'] [b, c] = false := by with_unfolding_all rfl) :
    DE X W (.Compare a [op, op'] [b, c] pos) (mB (mChain g g' fa fb fc)) := by
  obtain ⟨r, h1, h2⟩ := o.has
  obtain ⟨r', h1', h2'⟩ := o'.has
  exact PE.imp (pe_chain h1 h1' ha hb hc hm) fun σ H Q h => tT.chain h2 h2' (tD.mB h) fun _ _ q => q
theorem ychain {op op' : CmpOp} {g g' : D → D → Option Bool} (o : CmpO X W op g) (o' : CmpO X W op' g') (ha : DE X W a fa) (hb : DE X W b fb) (hc : DE X W c fc) (hm : lastMarks [op, op'] [b, c] = false := by with_unfolding_all rfl) :
    DT X W (.Compare a [op, op'] [b, c] pos) (mChain g g' fa fb fc) := by
  obtain ⟨r, h1, h2⟩ := o.has
  obtain ⟨r', h1', h2'⟩ := o'.has
  refine PT.imp (pt_chain h1 h1' ha hb hc hm) fun σ H Q h => ?_
  exact tT.chain h2 h2' h fun b _ q => ⟨b, rfl, q⟩
/-- bools alone -/
def D.isB : D → Option Bool
  | .bl b => some b
  | _ => none
theorem Rep.isB {G : Gd} {HF : Hp} {v : V} {d : D} {k : Bool} (r : Rep G HF v d) (e : d.isB = some k) : v = .bl k := by
  cases d with
  | bl _ => cases r; cases e; rfl
  | _ => cases e
def mAnd (fa fb : DEn) : DEn := fun ρ S => (fa ρ S).bind fun x S1 => (lift x.isB S1).bind fun k S2 => if k = true then fb ρ S2 else .ok (.bl false) S2
def mOr (fa fb : DEn) : DEn := fun ρ S => (fa ρ S).bind fun x S1 => (lift x.isB S1).bind fun k S2 => if k = true then .ok (.bl true) S2 else fb ρ S2
def mNot (fa : DEn) : DEn := fun ρ S => (fa ρ S).bind fun x S1 => (lift x.isB S1).bind fun k S2 => .ok (.bl (!k)) S2
theorem lift_bind {α β : Type} {o : Option α} {S : Store} {k : α → Store → Out β} : (∃ d, o = some d ∧ (lift o S).bind k = k d S) ∨ (o = none ∧ (lift o S).bind k = .bad) := by
  cases o with
  | none => exact .inr ⟨rfl, rfl⟩
  | some d => exact .inl ⟨d, rfl, rfl⟩
theorem Post.liftB {α β γ : Type} {G : Gd} {σ : L2.St} {ρ : DL.Env} {H HF : Hp} {L : List Addr} {P : Hp → List Addr → β → γ → Prop} {Q : β → Hp → Prop} {o : Option α} {S : Store} {k : α → Store → Out γ} (h : Post G W σ ρ H HF L P Q ((DL.lift o S).bind k)) :
    ∃ d, o = some d ∧ Post G W σ ρ H HF L P Q (k d S) := by
  rcases lift_bind (o := o) (S := S) (k := k) with ⟨d, e1, e2⟩ | ⟨e1, e2⟩
  · rw [e2] at h; exact ⟨d, e1, h⟩
  · rw [e2] at h; exact h.elim
theorem xand {rest : List Expr} (ha : DE X W a fa) (hb : DE X W (.BoolOp .And (b :: rest) pos) fb) : DE X W (.BoolOp .And (a :: b :: rest) pos) (mAnd fa fb) :=
  PE.imp (pe_and ha hb) fun σ H Q ⟨HF, L, ρ, S, R, p⟩ => ⟨HF, L, ρ, S, R, Post.bind p fun x S1 v H1 HF1 L1 e1 st1 R1 r1 p1 => by
    obtain ⟨k, ek, p2⟩ := Post.liftB p1
    refine ⟨k, r1.isB ek, ?_⟩
    cases k with
    | true => rw [if_pos rfl] at p2 ⊢; exact ⟨HF1, L1, ρ, S1, R1, p2⟩
    | false => rw [if_neg Bool.false_ne_true] at p2 ⊢; exact p2.done R1 .no (.bl false)⟩
theorem xor {rest : List Expr} (ha : DE X W a fa) (hb : DE X W (.BoolOp .Or (b :: rest) pos) fb) : DE X W (.BoolOp .Or (a :: b :: rest) pos) (mOr fa fb) :=
  PE.imp (pe_or ha hb) fun σ H Q ⟨HF, L, ρ, S, R, p⟩ => ⟨HF, L, ρ, S, R, Post.bind p fun x S1 v H1 HF1 L1 e1 st1 R1 r1 p1 => by
    obtain ⟨k, ek, p2⟩ := Post.liftB p1
    refine ⟨k, r1.isB ek, ?_⟩
    cases k with
    | true => rw [if_pos rfl] at p2 ⊢; exact p2.done R1 .no (.bl true)
    | false => rw [if_neg Bool.false_ne_true] at p2 ⊢; exact ⟨HF1, L1, ρ, S1, R1, p2⟩⟩
theorem xone {op} (ha : DE X W a fa) : DE X W (.BoolOp op [a] pos) fa := pe_one ha
theorem xnot (ha : DE X W a fa) : DE X W (.UnaryOp .Not a pos) (mNot fa) :=
  PE.imp (pe_not ha) fun σ H Q ⟨HF, L, ρ, S, R, p⟩ => ⟨HF, L, ρ, S, R, Post.bind p fun x S1 v H1 HF1 L1 e1 st1 R1 r1 p1 => by
    obtain ⟨k, ek, p2⟩ := Post.liftB p1
    exact ⟨k, r1.isB ek, p2.done R1 .no (.bl _)⟩⟩
variable {ta tb : DTn}
def mAndT (ta tb : DTn) : DTn := fun ρ S => (ta ρ S).bind fun k S1 => if k = true then tb ρ S1 else .ok false S1
def mOrT (ta tb : DTn) : DTn := fun ρ S => (ta ρ S).bind fun k S1 => if k = true then .ok true S1 else tb ρ S1
def mNotT (ta : DTn) : DTn := fun ρ S => (ta ρ S).bind fun k S1 => .ok (!k) S1
theorem wand {rest : List Expr} (ha : DT X W a ta) (hb : DPW X W (.BoolOp .And (b :: rest) pos) tb) : DPW X W (.BoolOp .And (a :: b :: rest) pos) (mAndT ta tb) :=
  PW.imp (pw_and ha hb) fun σ H Q ⟨HF, L, ρ, S, R, p⟩ => ⟨HF, L, ρ, S, R, Post.bind p fun k S1 k' H1 HF1 L1 e1 st1 R1 r1 p1 => by
    cases r1
    cases k with
    | true => rw [if_pos rfl] at p1 ⊢; exact ⟨HF1, L1, ρ, S1, R1, p1⟩
    | false => rw [if_neg Bool.false_ne_true] at p1 ⊢; exact p1.done R1 .no rfl⟩
theorem wor {rest : List Expr} (ha : DT X W a ta) (hb : DPW X W (.BoolOp .Or (b :: rest) pos) tb) : DPW X W (.BoolOp .Or (a :: b :: rest) pos) (mOrT ta tb) :=
  PW.imp (pw_or ha hb) fun σ H Q ⟨HF, L, ρ, S, R, p⟩ => ⟨HF, L, ρ, S, R, Post.bind p fun k S1 k' H1 HF1 L1 e1 st1 R1 r1 p1 => by
    cases r1
    cases k with
    | true => rw [if_pos rfl] at p1 ⊢; exact p1.done R1 .no rfl
    | false => rw [if_neg Bool.false_ne_true] at p1 ⊢; exact ⟨HF1, L1, ρ, S1, R1, p1⟩⟩
theorem wand1 (ha : DT X W a ta) : DPW X W (.BoolOp .And [a] pos) ta := pw_and1 ha
theorem wor1 (ha : DT X W a ta) : DPW X W (.BoolOp .Or [a] pos) ta := pw_or1 ha
theorem ynot (ha : DT X W a ta) : DT X W (.UnaryOp .Not a pos) (mNotT ta) :=
  PT.imp (pt_not ha) fun σ H Q ⟨HF, L, ρ, S, R, p⟩ => ⟨HF, L, ρ, S, R, Post.bind p fun k S1 k' H1 HF1 L1 e1 st1 R1 r1 p1 => by
    cases r1
    exact p1.done R1 .no rfl⟩
/-- an expression of any kind as a test -/
def D.tru : D → Option Bool
  | .non => some false
  | .bl b => some b
  | .int i => some (i != 0)
  | .tup ds => some (!ds.isEmpty)
  | .lst ds => some (!ds.isEmpty)
  | _ => none
theorem Reps.empty {G : Gd} {HF : Hp} {vs : List V} {ds : List D} (r : Reps G HF vs ds) : vs.isEmpty = ds.isEmpty := by cases r <;> rfl
theorem Rep.tru {G : Gd} {HF H : Hp} {v : V} {d : D} {k : Bool} (sub : Same HF H) (r : Rep G HF v d) (e : d.tru = some k) : TruV G.K v H k := by
  cases d with
  | non => cases r; cases e; rfl
  | bl b => cases r; cases e; rfl
  | int i => cases r; cases e; rfl
  | tup ds => cases r with
    | tup h1 h2 => cases e; exact .inr (.inl ⟨_, SqT.mono sub h1, by rw [h2.empty]⟩)
  | lst ds => cases r with
    | lst h1 h2 => cases e; exact .inl ⟨_, SqL.of (sub _ _ h1), by rw [h2.empty]⟩
  | _ => cases e
def mTru (fa : DEn) : DTn := fun ρ S => (fa ρ S).bind fun x S1 => lift x.tru S1
theorem ytru (ha : DE X W a fa) (he : ∀ whole, isTrue a X.env whole = (do let v ← whole; standAt a.pos; holding [v] (truthy v)) := by intro _; rfl) : DT X W a (mTru fa) :=
  PT.imp (pt_truth ha he) fun σ H Q ⟨HF, L, ρ, S, R, p⟩ => ⟨HF, L, ρ, S, R, Post.bind p fun x S1 v H1 HF1 L1 e1 st1 R1 r1 p1 => by
    obtain ⟨k, ek, p2⟩ := p1.lift
    exact ⟨k, r1.tru R1.sub ek, p2.done R1 .no rfl⟩⟩
/-- a cell as a test -/
def mTruC (i : Nat) : DTn := fun ρ S => match ρ[i]? with
  | some (some (.cel n)) => match S[n]? with
    | some (some (.lst ds)) => .ok (!ds.isEmpty) S
    | _ => .bad
  | _ => .bad
theorem Rel.celAt {G : Gd} {H HF : Hp} {L : List Addr} {σ : L2.St} {ρ : DL.Env} {S : Store} (R : Rel G H HF L σ ρ S) {i n : Nat} {ds : List D} (h1 : ρ[i]? = some (some (.cel n))) (h2 : S[n]? = some (some (.lst ds))) :
    ∃ (p : Addr) (vs : List V), σ[i]? = some (some (.ref p)) ∧ L[n]? = some p ∧ H p = some (.lst vs) ∧ Reps G HF vs ds ∧ HF p = none := by
  obtain ⟨v, e1, p, e2, e3⟩ := R.env i _ h1
  subst e3
  obtain ⟨q1, vs, q2, q3⟩ := R.cell n p _ e2 h2
  exact ⟨p, vs, e1, e2, q2, q3, q1⟩
theorem ytruC (i : Nat) {x : Str} (hN : X.N[i]? = some x := by rfl) (hv : Vis X.env.scope x := by first | exact Or.inl rfl | exact Or.inr (Or.inl rfl) | exact Or.inr (Or.inr rfl)) (hd : (x == ("__debug__" : Str)) = false := by decide)
    (hcd : (x == ("__classdict__" : Str)) = false := by decide) : DT X W (.Name x pos) (mTruC i) := by
  refine PT.imp (pt_truth (pe_var (i := i) hN hv hd hcd) (by intro _; rfl)) fun σ H Q ⟨HF, L, ρ, S, R, p⟩ => ?_
  unfold mTruC at p
  split at p
  · rename_i n e
    split at p
    · rename_i ds e2
      obtain ⟨q, vs, h1, h2, h3, h4, h5⟩ := R.celAt e e2
      exact ⟨_, h1, _, .inl ⟨vs, SqL.of h3, rfl⟩, by rw [h4.empty]; exact p.done R .no rfl⟩
    · exact p.elim
  · exact p.elim
def mIf (t : DTn) (fa fb : DEn) : DEn := fun ρ S => (t ρ S).bind fun k S1 => if k = true then fa ρ S1 else fb ρ S1
theorem xif {t : Expr} {tt : DTn} (ht : DT X W t tt) (ha : DE X W a fa) (hb : DE X W b fb) : DE X W (.IfExp t a b pos) (mIf tt fa fb) :=
  PE.imp (pe_ifExp ht ha hb) fun σ H Q ⟨HF, L, ρ, S, R, p⟩ => ⟨HF, L, ρ, S, R, Post.bind p fun k S1 k' H1 HF1 L1 e1 st1 R1 r1 p1 => by
    cases r1
    cases k with
    | true => rw [if_pos rfl] at p1 ⊢; exact ⟨HF1, L1, ρ, S1, R1, p1⟩
    | false => rw [if_neg Bool.false_ne_true] at p1 ⊢; exact ⟨HF1, L1, ρ, S1, R1, p1⟩⟩

/-! ### rows of values: displays, arguments of built-ins -/
abbrev DDn := DL.Env → Store → Out (List D)
def tDs (G : Gd) (W : WD) (f : DDn) : TA := fun σ H Q => ∃ HF L ρ S, Rel G H HF L σ ρ S ∧ Post G W σ ρ H HF L (fun HF' _ vs ds => Reps G HF' vs ds) Q (f ρ S)
abbrev DA (X : Cx) (W : WD) (es : List Expr) (f : DDn) : Prop := PA X es (tDs (gd X W) W f)
def mNil : DDn := fun _ S => .ok [] S
def mCons (fa : DEn) (fs : DDn) : DDn := fun ρ S => (fa ρ S).bind fun x S1 => (fs ρ S1).bind fun xs S2 => .ok (x :: xs) S2
theorem a0 : DA X W [] mNil := PA.imp pa_nil fun σ H Q ⟨HF, L, ρ, S, R, p⟩ => p.done R .no .nil
variable {fs : DDn}
theorem a1 (ha : DE X W a fa) (hs : DA X W es fs) (he : starEach (a :: es) X.env = (false, eval a X.env) :: starEach es X.env := by rfl) : DA X W (a :: es) (mCons fa fs) :=
  PA.imp (pa_cons ha hs he) fun σ H Q ⟨HF, L, ρ, S, R, p⟩ => ⟨HF, L, ρ, S, R, Post.bind p fun x S1 v H1 HF1 L1 e1 st1 R1 r1 p1 =>
    ⟨HF1, L1, ρ, S1, R1, Post.bind p1 fun xs S2 vs H2 HF2 L2 e2 st2 R2 r2 p2 => p2.done R2 .no (.cons (Rep.mono st2.fro r1) r2)⟩⟩
def mTup (fs : DDn) : DEn := fun ρ S => (fs ρ S).bind fun xs S1 => if xs.length ≤ lim then .ok (.tup xs) S1 else .bad
def mLst (fs : DDn) : DEn := fun ρ S => (fs ρ S).bind fun xs S1 => if xs.length ≤ lim then .ok (.lst xs) S1 else .bad
theorem xtup {x1} (hs : DA X W es fs) : DE X W (.Tuple es x1 pos) (mTup fs) :=
  PE.imp (pe_tup hs) fun σ H Q ⟨HF, L, ρ, S, R, p⟩ => ⟨HF, L, ρ, S, R, Post.bind p fun xs S1 vs H1 HF1 L1 e1 st1 R1 r1 p1 => by
    split at p1
    · rename_i hz
      refine ⟨by rw [r1.length]; exact Nat.le_trans hz lim_le, fun q hq => ?_⟩
      exact p1.done R1 (.new hq) (.tup (SqE.of upd_same) (r1.mono (same_upd (R1.hf hq))))
    · exact p1.elim⟩
theorem xlst (hs : DA X W es fs) : DE X W (.List es pos) (mLst fs) :=
  PE.imp (pe_lst hs) fun σ H Q ⟨HF, L, ρ, S, R, p⟩ => ⟨HF, L, ρ, S, R, Post.bind p fun xs S1 vs H1 HF1 L1 e1 st1 R1 r1 p1 => by
    split at p1
    · rename_i hz
      refine ⟨by rw [r1.length]; exact Nat.le_trans hz lim_le, fun q hq => ?_⟩
      exact p1.done R1 (.new hq) (.lst upd_same (r1.mono (same_upd (R1.hf hq))))
    · exact p1.elim⟩

/-! ### subscripts, slices -/
def gIx : D → D → Option D
  | .tup ds, .int i => atI ds i
  | .lst ds, .int i => atI ds i
  | .rol ds, .int i => atI ds i
  | _, _ => none
theorem Reps.atI {G : Gd} {HF : Hp} {vs : List V} {ds : List D} {i : Int} {d : D} (r : Reps G HF vs ds) (e : atI ds i = some d) : ∃ v, atI vs i = some v ∧ Rep G HF v d := by
  unfold L2.atI at e ⊢
  rw [r.length]
  cases q : ixN ds.length i with
  | none => rw [q] at e; cases e
  | some j =>
    rw [q] at e
    exact r.get (i := j) e
theorem sIx : OpS (gd X W) (rIx X.K) gIx := fun x y v w H HF d Q sub rx ry e q => by
  unfold gIx at e
  split at e
  · cases ry
    cases rx with
    | tup h1 r1 =>
      obtain ⟨u, e1, e2⟩ := r1.atI e
      exact .inr (.inl ⟨_, _, _, _, rfl, rfl, SqT.mono sub h1, e1, q _ _ _ .no e2⟩)
  · cases ry
    cases rx with
    | lst h1 r1 =>
      obtain ⟨u, e1, e2⟩ := r1.atI e
      exact .inl ⟨_, _, _, _, rfl, rfl, SqL.of (sub _ _ h1), e1, q _ _ _ .no e2⟩
  · cases ry
    cases rx with
    | rol h1 r1 =>
      obtain ⟨u, e1, e2⟩ := r1.atI e
      exact .inl ⟨_, _, _, _, rfl, rfl, sub.seq h1, e1, q _ _ _ .no e2⟩
  · cases e
theorem xix (ha : DE X W a fa) (hb : DE X W b fb) (hs : PlainIx b := by exact fun _ _ => rfl) : DE X W (.Subscript a b pos) (mOp gIx fa fb) :=
  PE.imp (pe_ix ix_seq ha hb hs) fun σ H Q h => tD.op sIx h
/-- a cell's item -/
def mIxC (i : Nat) (fb : DEn) : DEn := fun ρ S => match ρ[i]? with
  | some (some (.cel n)) => (fb ρ S).bind fun y S1 => match y, S1[n]? with
    | .int k, some (some (.lst ds)) => lift (atI ds k) S1
    | _, _ => .bad
  | _ => .bad
theorem xixC (i : Nat) {x : Str} {px : Pos} (hb : DE X W b fb) (hs : PlainIx b := by exact fun _ _ => rfl) (hN : X.N[i]? = some x := by rfl) (hv : Vis X.env.scope x := by first | exact Or.inl rfl | exact Or.inr (Or.inl rfl) | exact Or.inr (Or.inr rfl)) (hd : (x == ("__debug__" : Str)) = false := by decide)
    (hcd : (x == ("__classdict__" : Str)) = false := by decide) : DE X W (.Subscript (.Name x px) b pos) (mIxC i fb) := by
  refine PE.imp (pe_ix ix_seq (pe_var (i := i) hN hv hd hcd) hb hs) fun σ H Q ⟨HF, L, ρ, S, R, p⟩ => ?_
  unfold mIxC at p
  split at p
  · rename_i n hn
    obtain ⟨v, hv1, pa, hp1, hp2⟩ := R.env i _ hn
    subst hp2
    refine ⟨_, hv1, HF, L, ρ, S, R, Post.bind p fun y S1 w H1 HF1 L1 e1 st1 R1 r1 p1 => ?_⟩
    split at p1
    · rename_i k ds hS
      cases r1
      obtain ⟨d, ed, p2⟩ := p1.lift
      obtain ⟨q1, vs, q2, q3⟩ := R1.cell n pa _ (st1.lget hp1) hS
      obtain ⟨u, e2, e3⟩ := q3.atI ed
      exact .inl ⟨_, _, _, _, rfl, rfl, SqL.of q2, e2, p2.done R1 .no e3⟩
    · exact p1.elim
  · exact p.elim
/-- a slice -/
abbrev DOn := DL.Env → Store → Out (Option Int)
def mNoPart : DOn := fun _ S => .ok none S
def mPart (f : DEn) : DOn := fun ρ S => (f ρ S).bind fun x S1 => match x with
  | .int i => .ok (some i) S1
  | _ => .bad
def tO (G : Gd) (W : WD) (f : DOn) : TO := fun σ H Q => ∃ HF L ρ S, Rel G H HF L σ ρ S ∧ Post G W σ ρ H HF L (fun _ _ v d => v = d) Q (f ρ S)
abbrev DO (X : Cx) (W : WD) (e : Option Expr) (f : DOn) : Prop := PO X e (tO (gd X W) W f)
theorem o0 : DO X W none mNoPart := ⟨fun pins s σ H Q I ⟨HF, L, ρ, S, R, p⟩ => po_none.run pins s σ H Q I (p.done R .no rfl)⟩
theorem o1 (h : DE X W a fa) : DO X W (some a) (mPart fa) := ⟨fun pins s σ H Q I ⟨HF, L, ρ, S, R, p⟩ => (po_some h).run pins s σ H Q I ⟨HF, L, ρ, S, R, Post.bind p fun x S1 v H1 HF1 L1 e1 st1 R1 r1 p1 => by
  split at p1
  · cases r1
    exact ⟨_, rfl, p1.done R1 .no rfl⟩
  · exact p1.elim⟩⟩
def cutD (xs : List D) (lo hi : Option Int) : List D := (xs.drop (HT.sIx xs.length 0 lo)).take (HT.sIx xs.length xs.length hi - HT.sIx xs.length 0 lo)
theorem Reps.cut {G : Gd} {HF : Hp} {vs : List V} {ds : List D} (r : Reps G HF vs ds) (lo hi : Option Int) : Reps G HF (cutV vs lo hi) (cutD ds lo hi) := by
  unfold cutV cutD
  rw [r.length]
  exact (r.drop _).take _
def gSl : D → Option Int → Option Int → Option D
  | .tup ds, lo, hi => some (.tup (cutD ds lo hi))
  | .lst ds, lo, hi => some (.lst (cutD ds lo hi))
  | _, _, _ => none
def mSl (fa : DEn) (fl fh : DOn) : DEn := fun ρ S => (fa ρ S).bind fun x S1 => (fl ρ S1).bind fun l S2 => (fh ρ S2).bind fun h S3 => lift (gSl x l h) S3
theorem xsl {lo hi : Option Expr} {fl fh : DOn} {p2 : Pos} (ha : DE X W a fa) (hl : DO X W lo fl) (hh : DO X W hi fh) : DE X W (.Subscript a (.Slice lo hi none p2) pos) (mSl fa fl fh) :=
  PE.imp (pe_slice (SlR.or sl_list (sl_tupA (X := X))) ha hl hh) fun σ H Q ⟨HF, L, ρ, S, R, p⟩ => ⟨HF, L, ρ, S, R, Post.bind p fun x S1 v H1 HF1 L1 e1 st1 R1 r1 p1 =>
    ⟨HF1, L1, ρ, S1, R1, Post.bind p1 fun l S2 l' H2 HF2 L2 e2 st2 R2 r2 p2 => ⟨HF2, L2, ρ, S2, R2, Post.bind p2 fun h S3 h' H3 HF3 L3 e3 st3 R3 r3 p3 => by
      cases r2
      cases r3
      obtain ⟨d, ed, p4⟩ := p3.lift
      have r1' := Rep.mono st3.fro (Rep.mono st2.fro r1)
      cases x with
      | tup ds =>
        cases ed
        cases r1' with
        | tup h1 h2 =>
          refine .inr ⟨_, _, rfl, SqT.mono R3.sub h1, fun z => ?_, fun _ q hq => p4.done R3 (.new hq) (.tup (SqE.of upd_same) ((h2.cut _ _).mono (same_upd (R3.hf hq))))⟩
          have e : ∀ {α : Type} (xs : List α), (xs.drop 0).take (xs.length - 0) = xs := fun xs => by simp
          have e2 : cutD ds l h = ds := by
            unfold cutD
            rw [← h2.length, z.1, z.2, h2.length]
            exact e ds
          refine p4.done R3 .no (.tup h1 ?_)
          rw [e2]
          exact h2
      | lst ds =>
        cases ed
        cases r1' with
        | lst h1 h2 => exact .inl ⟨_, _, rfl, SqL.of (R3.sub _ _ h1), fun q hq => p4.done R3 (.new hq) (.lst upd_same ((h2.cut _ _).mono (same_upd (R3.hf hq))))⟩
      | _ => cases ed⟩⟩⟩

/-! ### built-ins by their names -/
def CaS (G : Gd) (r : List V → Hp → VK → Prop) (g : List D → Option D) : Prop := ∀ (xs : List D) (vs : List V) (H HF : Hp) (d : D) (Q : VK), Same HF H → Reps G HF vs xs → g xs = some d →
  (∀ u H' HF', Al H HF H' HF' → Rep G HF' u d → Q u H') → r vs H Q
structure BiO (X : Cx) (W : WD) (f : Value) (g : List D → Option D) : Prop where
  has : ∃ r, CallR X f r ∧ CaS (gd X W) r g
def mBi (g : List D → Option D) (fs : DDn) : DEn := fun ρ S => (fs ρ S).bind fun xs S1 => lift (g xs) S1
theorem tD.bi {r : List V → Hp → VK → Prop} {g : List D → Option D} (hs : CaS (gd X W) r g) {σ : L2.St} {H : Hp} {Q : VK} (h : tD (gd X W) W (mBi g fs) σ H Q) : tCB r (tDs (gd X W) W fs) σ H Q := by
  obtain ⟨HF, L, ρ, S, R, p⟩ := h
  refine ⟨HF, L, ρ, S, R, Post.bind p fun xs S1 vs H1 HF1 L1 e1 st1 R1 r1 p1 => ?_⟩
  obtain ⟨d, e, p2⟩ := p1.lift
  exact hs xs vs H1 HF1 d Q R1.sub r1 e fun u H' HF' al r => p2.done R1 al r
theorem xbi {x : Str} {id : String} {p : Pos} {g : List D → Option D} (o : BiO X W (.builtin id) g) (hm : X.mg x = none) (hv : bootBuiltins x = some (.builtin id)) (ha : DA X W (a :: es) fs) (hg : Gl X x := by rfl) (hn : x ≠ "__name__" := by decide) (hdb : (x == ("__debug__" : Str)) = false := by decide)
    (he : starEach (a :: es) X.env = (false, eval a X.env) :: starEach es X.env := by rfl) (hpl : (backTo pos (starEach es X.env)).any (·.1) = false := by rfl) : DE X W (.Call (.Name x p) (a :: es) [] pos) (mBi g fs) := by
  obtain ⟨r, h1, h2⟩ := o.has
  exact PE.imp (pe_callB h1 hg hm hv ha hn hdb he hpl) fun σ H Q h => tD.bi h2 h
theorem xbt {x : Str} {T : String} {p : Pos} {g : List D → Option D} (o : BiO X W (.type T) g) (hm : X.mg x = none) (hv : bootBuiltins x = some (.type T)) (ha : DA X W (a :: es) fs) (hg : Gl X x := by rfl) (hn : x ≠ "__name__" := by decide) (hdb : (x == ("__debug__" : Str)) = false := by decide)
    (he : starEach (a :: es) X.env = (false, eval a X.env) :: starEach es X.env := by rfl) (hpl : (backTo pos (starEach es X.env)).any (·.1) = false := by rfl) : DE X W (.Call (.Name x p) (a :: es) [] pos) (mBi g fs) := by
  obtain ⟨r, h1, h2⟩ := o.has
  exact PE.imp (pe_callTy h1 hg hm hv ha hn hdb he hpl) fun σ H Q h => tD.bi h2 h
theorem Reps.one {G : Gd} {HF : Hp} {vs : List V} {d : D} (r : Reps G HF vs [d]) : ∃ v, vs = [v] ∧ Rep G HF v d := by
  cases r with
  | cons h1 h2 => cases h2; exact ⟨_, rfl, h1⟩
theorem Reps.two {G : Gd} {HF : Hp} {vs : List V} {d e : D} (r : Reps G HF vs [d, e]) : ∃ v w, vs = [v, w] ∧ Rep G HF v d ∧ Rep G HF w e := by
  cases r with
  | cons h1 h2 =>
    obtain ⟨w, rfl, h3⟩ := h2.one
    exact ⟨_, w, rfl, h1, h3⟩
def gLen : List D → Option D
  | [.tup ds] => some (.int ds.length)
  | [.lst ds] => some (.int ds.length)
  | [.rol ds] => some (.int ds.length)
  | _ => none
theorem biLen : BiO X W (.builtin "len") gLen := by
  refine ⟨_, call_len_seq, fun xs vs H HF d Q sub r e q => ?_⟩
  unfold gLen at e
  split at e
  · cases e
    obtain ⟨v, rfl, h⟩ := r.one
    cases h with
    | tup h1 h2 => exact ⟨_, _, rfl, .inr (SqT.mono sub h1), by rw [h2.length]; exact q _ _ _ .no (.int _)⟩
  · cases e
    obtain ⟨v, rfl, h⟩ := r.one
    cases h with
    | lst h1 h2 => exact ⟨_, _, rfl, .inl (SqL.of (sub _ _ h1)), by rw [h2.length]; exact q _ _ _ .no (.int _)⟩
  · cases e
    obtain ⟨v, rfl, h⟩ := r.one
    cases h with
    | rol h1 h2 => exact ⟨_, _, rfl, .inl (sub.seq h1), by rw [h2.length]; exact q _ _ _ .no (.int _)⟩
  · cases e
def gInt : List D → Option D
  | [.int i] => some (.int i)
  | [.bl b] => some (.int (if b then 1 else 0))
  | _ => none
theorem biInt : BiO X W (.type "int") gInt := by
  refine ⟨_, call_int1, fun xs vs H HF d Q sub r e q => ?_⟩
  unfold gInt at e
  split at e
  · cases e
    obtain ⟨v, rfl, h⟩ := r.one
    cases h
    exact .inl ⟨_, rfl, q _ _ _ .no (.int _)⟩
  · cases e
    obtain ⟨v, rfl, h⟩ := r.one
    cases h
    exact .inr ⟨_, rfl, q _ _ _ .no (.int _)⟩
  · cases e
def gList : List D → Option D
  | [.tup ds] => some (.lst ds)
  | [.lst ds] => some (.lst ds)
  | [.rol ds] => some (.lst ds)
  | _ => none
theorem biList : BiO X W (.type "list") gList := by
  refine ⟨_, call_list_of, fun xs vs H HF d Q sub r e q => ?_⟩
  unfold gList at e
  split at e
  · cases e
    obtain ⟨v, rfl, h⟩ := r.one
    cases h with
    | tup h1 h2 => exact ⟨_, _, rfl, .inr (SqT.mono sub h1), fun l hl => q _ _ _ (.new hl) (.lst upd_same (h2.mono (same_upd (free_of sub hl))))⟩
  · cases e
    obtain ⟨v, rfl, h⟩ := r.one
    cases h with
    | lst h1 h2 => exact ⟨_, _, rfl, .inl (SqL.of (sub _ _ h1)), fun l hl => q _ _ _ (.new hl) (.lst upd_same (h2.mono (same_upd (free_of sub hl))))⟩
  · cases e
    obtain ⟨v, rfl, h⟩ := r.one
    cases h with
    | rol h1 h2 => exact ⟨_, _, rfl, .inl (sub.seq h1), fun l hl => q _ _ _ (.new hl) (.lst upd_same (h2.mono (same_upd (free_of sub hl))))⟩
  · cases e
def gTuple : List D → Option D
  | [.tup ds] => some (.tup ds)
  | [.lst ds] => some (.tup ds)
  | _ => none
theorem biTuple : BiO X W (.type "tuple") gTuple := by
  refine ⟨_, call_tuple_of, fun xs vs H HF d Q sub r e q => ?_⟩
  unfold gTuple at e
  split at e
  · cases e
    obtain ⟨v, rfl, h⟩ := r.one
    cases h with
    | tup h1 h2 => exact ⟨_, _, rfl, .inr ⟨SqT.mono sub h1, q _ _ _ .no (.tup h1 h2)⟩⟩
  · cases e
    obtain ⟨v, rfl, h⟩ := r.one
    cases h with
    | lst h1 h2 => exact ⟨_, _, rfl, .inl ⟨SqL.of (sub _ _ h1), fun l hl => q _ _ _ (.new hl) (.tup (SqE.of upd_same) (h2.mono (same_upd (free_of sub hl))))⟩⟩
  · cases e
def bools : List D → Option (List Bool)
  | [] => some []
  | .bl b :: r => (bools r).map (b :: ·)
  | _ => none
theorem Reps.bools {G : Gd} {HF : Hp} : ∀ {ds : List D} {vs : List V} {bs : List Bool}, Reps G HF vs ds → DL.bools ds = some bs → vs = bs.map V.bl
  | [], _, _, h, e => by cases h; cases e; rfl
  | .bl b :: ds, _, bs, h, e => by
    cases h with
    | cons h1 h2 =>
      cases h1
      have e : (DL.bools ds).map (b :: ·) = some bs := e
      cases q : DL.bools ds with
      | none => rw [q] at e; cases e
      | some bs' =>
        rw [q] at e
        cases e
        rw [Reps.bools h2 q]
        rfl
  | .non :: ds, _, _, _, e => by cases e
  | .int _ :: ds, _, _, _, e => by cases e
  | .str _ :: ds, _, _, _, e => by cases e
  | .tup _ :: ds, _, _, _, e => by cases e
  | .lst _ :: ds, _, _, _, e => by cases e
  | .rol _ :: ds, _, _, _, e => by cases e
  | .fn _ :: ds, _, _, _, e => by cases e
def gAny : List D → Option D
  | [.lst ds] => (bools ds).map fun bs => .bl (bs.any id)
  | _ => none
theorem biAny (hc : X.calm = true) : BiO X W (.builtin "any") gAny := by
  refine ⟨_, cr_any hc, fun xs vs H HF d Q sub r e q => ?_⟩
  unfold gAny at e
  split at e
  · rename_i ds
    obtain ⟨v, rfl, h⟩ := r.one
    cases h with
    | lst h1 h2 =>
      cases eb : bools ds with
      | none => rw [eb] at e; cases e
      | some bs =>
        rw [eb] at e
        cases e
        have ev := h2.bools eb
        subst ev
        exact ⟨_, bs, rfl, SqL.of (sub _ _ h1), q _ _ _ .no (.bl _)⟩
  · cases e
def gAll : List D → Option D
  | [.lst ds] => (bools ds).map fun bs => .bl (bs.all id)
  | _ => none
theorem biAll (hc : X.calm = true) : BiO X W (.builtin "all") gAll := by
  refine ⟨_, cr_all hc, fun xs vs H HF d Q sub r e q => ?_⟩
  unfold gAll at e
  split at e
  · rename_i ds
    obtain ⟨v, rfl, h⟩ := r.one
    cases h with
    | lst h1 h2 =>
      cases eb : bools ds with
      | none => rw [eb] at e; cases e
      | some bs =>
        rw [eb] at e
        cases e
        have ev := h2.bools eb
        subst ev
        exact ⟨_, bs, rfl, SqL.of (sub _ _ h1), q _ _ _ .no (.bl _)⟩
  · cases e
/-- list(range(n)), list(range(a, b)) -/
def rgD (a b : Int) : List D := (List.range (b - a).toNat).map fun i => D.int (a + (i : Nat))
theorem rgD_reps {G : Gd} {HF : Hp} (a b : Int) : Reps G HF (rgV a b) (rgD a b) := by
  unfold rgV rgD
  induction List.range (b - a).toNat with
  | nil => exact .nil
  | cons i r ih => exact .cons (.int _) ih
def mListRg (fa : DEn) : DEn := fun ρ S => (fa ρ S).bind fun x S1 => match x with
  | .int n => if n ≤ 1000000 ∧ -1000000 ≤ n then .ok (.lst (rgD 0 n)) S1 else .bad
  | _ => .bad
theorem xlistRg {p p2 pos2 : Pos} (hc : X.calm = true) (hm : X.mg "list" = none) (hm2 : X.mg "range" = none) (ha : DE X W a fa) (hg : Gl X "list" := by rfl) (hg2 : Gl X "range" := by rfl)
    (na : starEach [a] X.env = (false, eval a X.env) :: starEach [] X.env := by rfl) (na2 : starEach [Expr.Call (.Name "range" p2) [a] [] pos2] X.env = (false, eval (.Call (.Name "range" p2) [a] [] pos2) X.env) :: starEach [] X.env := by rfl) :
    DE X W (.Call (.Name "list" p) [.Call (.Name "range" p2) [a] [] pos2] [] pos) (mListRg fa) :=
  PE.imp (pe_listRg hc hg hm (prg_1 hg2 hm2 ha na) na2) fun σ H Q ⟨HF, L, ρ, S, R, p⟩ => ⟨HF, L, ρ, S, R, Post.bind p fun x S1 v H1 HF1 L1 e1 st1 R1 r1 p1 => by
    split at p1
    · rename_i n
      cases r1
      split at p1
      · rename_i hz
        refine ⟨n, rfl, ⟨by omega, by omega, by omega, by omega, by omega⟩, fun q hq => p1.done R1 (.new hq) (.lst upd_same (rgD_reps 0 n))⟩
      · exact p1.elim
    · exact p1.elim⟩

/-! ### isinstance -/
def D.ty : D → Option String
  | .non => some "NoneType"
  | .bl _ => some "bool"
  | .int _ => some "int"
  | .str _ => some "str"
  | .tup _ => some "tuple"
  | .lst _ => some "list"
  | _ => none
theorem TyX.of_sqT {K : PySem.W.Frag} {H : Hp} {a : Addr} {xs : List V} (h : SqT K H a xs) : TyX K H (.ref a) (.type "tuple") := by
  rcases h with (h | ⟨o, h⟩) | ⟨o, its, n, h1, h2, _⟩
  · exact .base (.tup h)
  · exact .fTuple h
  · exact .kTuple h1 h2
theorem Rep.ty {G : Gd} {H HF : Hp} {v : V} {d : D} {t : String} (sub : Same HF H) (r : Rep G HF v d) (e : d.ty = some t) : TyX G.K H v (.type t) := by
  cases d with
  | non => cases r; cases e; exact .base .non
  | bl _ => cases r; cases e; exact .base (.bl _)
  | int _ => cases r; cases e; exact .base (.int _)
  | str _ => cases r; cases e; exact .base (.str _)
  | tup _ => cases r with
    | tup h1 h2 => cases e; exact TyX.of_sqT (SqT.mono sub h1)
  | lst _ => cases r with
    | lst h1 h2 => cases e; exact .base (.lst (sub _ _ h1))
  | _ => cases e
/-- isinstance(x, T), T a built-in class by its name: the answer by a table -/
def isTy (d : D) (T : String) : Option Bool := d.ty.bind fun t => kitB t T
def mIsT (T : String) (fa : DEn) : DEn := fun ρ S => (fa ρ S).bind fun x S1 => lift ((isTy x T).map D.bl) S1
theorem isinst_args {t : Str} {T : String} {pt : Pos} (ha : DE X W a fa) (hmT : X.mg t = none) (hvT : bootBuiltins t = some (.type T)) (hgT : Gl X t) (hnT : t ≠ "__name__") (hdT : (t == ("__debug__" : Str)) = false)
    (he : starEach [a, .Name t pt] X.env = (false, eval a X.env) :: starEach [.Name t pt] X.env) (he2 : starEach [.Name t pt] X.env = (false, eval (.Name t pt) X.env) :: starEach [] X.env) :
    PA X [a, .Name t pt] (tCons (tD (gd X W) W fa) (tCons (tC (.ty T)) tNil)) := pa_cons ha (pa_cons (pe_bltn (v := .ty T) hgT hmT hvT rfl hnT hdT) pa_nil he2) he
theorem xisT {t : Str} {T : String} {p pt : Pos} (hm : X.mg "isinstance" = none) (hmT : X.mg t = none) (hvT : bootBuiltins t = some (.type T)) (ha : DE X W a fa) (hg : Gl X "isinstance" := by rfl) (hgT : Gl X t := by rfl) (hnT : t ≠ "__name__" := by decide) (hdT : (t == ("__debug__" : Str)) = false := by decide)
    (he : starEach [a, .Name t pt] X.env = (false, eval a X.env) :: starEach [.Name t pt] X.env := by rfl) (he2 : starEach [.Name t pt] X.env = (false, eval (.Name t pt) X.env) :: starEach [] X.env := by rfl) (hpl : (backTo pos (starEach [.Name t pt] X.env)).any (·.1) = false := by rfl) :
    DE X W (.Call (.Name "isinstance" p) [a, .Name t pt] [] pos) (mIsT T fa) :=
  PE.imp (pe_callB call_isi hg hm PyProof.Rows.boot_isinstance (isinst_args ha hmT hvT hgT hnT hdT he he2) (by decide) (by decide) he hpl) fun σ H Q ⟨HF, L, ρ, S, R, p⟩ => ⟨HF, L, ρ, S, R, Post.bind p fun x S1 v H1 HF1 L1 e1 st1 R1 r1 p1 => by
    obtain ⟨d, ed, p2⟩ := p1.lift
    cases et : x.ty with
    | none => unfold isTy at ed; rw [et] at ed; cases ed
    | some tt =>
      cases ek : kitB tt T with
      | none => unfold isTy at ed; rw [et] at ed; simp only [Option.bind_some, ek] at ed; cases ed
      | some k =>
        have e2 : d = .bl k := by
          unfold isTy at ed; rw [et] at ed; simp only [Option.bind_some, ek] at ed; cases ed; rfl
        subst e2
        exact ⟨v, .ty T, .type tt, .type T, k, rfl, .ty T, r1.ty R1.sub et, kit_ty ek, p2.done R1 .no (.bl k)⟩⟩
end
end DL

namespace PySem
open Sem (wp)
set_option maxHeartbeats 1000000 in
theorem dl_enumerate_new1 {v : Value} {o : Obj} {H : Heap → Prop} (B : Begins v o H) :
    Meets (Builtin.«enumerate.__new__» ⟨[.type "enumerate", v], []⟩) (fun _ R s => H s.heap ∧
      R (.ok (.ret (.ref (s.heap.push o).objs.size))) { s with heap := (s.heap.push o).push { cls := .type "enumerate", data := .fields #[.none, .bool false, .ref s.heap.objs.size, rawInt 0, .none, .none] } }) :=
  .of_wp fun prog w A R s h => by
    obtain ⟨hp, g, d, tk, os⟩ := s; obtain ⟨h1, h⟩ := h
    have hsub := sub_enumerate
    have q1 : ∀ {A' : Around} {E : Value → Shared → Prop} {Q : Value → Shared → Prop}, Q (.ref hp.objs.size) ⟨hp.push o, g, d, tk, os⟩ → wpAny (model prog w) A' (pyIter v) Q E ⟨hp, g, d, tk, os⟩ :=
      fun q => B.iter prog w _ _ ⟨hp, g, d, tk, os⟩ _ h1 q
    wp_walk using q1
    refine wpAny_stack_any fun st => wpAny_pure ?_
    split
    · rename_i c _ _ _ _ _
      cases (c == Value.type "enumerate")
      · wp_walk using q1
        exact ⟨_, rfl, h⟩
      · wp_walk using q1
        exact ⟨_, rfl, h⟩
    · wp_walk using q1
      exact ⟨_, rfl, h⟩
theorem dl_call_enumerate {prog : Program} {w : World} {A : Around} {E : Value → Shared → Prop} {s : Shared} {v : Value} {o : Obj} {H : Heap → Prop} {Q : Value → Shared → Prop} (B : Begins v o H) (h1 : H s.heap)
    (h : ∀ h', IsEnum h' (s.heap.objs.size + 1) s.heap.objs.size 0 .none → h'.get? s.heap.objs.size = some o → h'.objs.size = s.heap.objs.size + 2 →
      (∀ b o, s.heap.get? b = some o → h'.get? b = some o) → Q (.ref (s.heap.objs.size + 1)) { s with heap := h' }) :
    wpAny (model prog w) A (call (.type "enumerate") [v]) Q E s := by
  refine callType_new F.called_enumerate (by decide) (F.typeCall_enumerate_1 _) (F.newCall_enumerate_1 _) (fun obj => F.args_object_init_2 obj _) F.entry_enumerate_new
    (dl_enumerate_new1 B) ⟨h1, ?_⟩
  have hz : (s.heap.push o).objs.size = s.heap.objs.size + 1 := Heap.size_push ..
  show _ ∧ _
  rw [hz]
  have he : IsEnum ((s.heap.push o).push { cls := .type "enumerate", data := .fields #[.none, .bool false, .ref s.heap.objs.size, rawInt 0, .none, .none] }) (s.heap.objs.size + 1) s.heap.objs.size 0 .none := by
    have := Heap.get?_push_size (s.heap.push o) (o := { cls := .type "enumerate", data := .fields #[.none, .bool false, .ref s.heap.objs.size, rawInt 0, .none, .none] }) rfl
    rw [hz] at this; exact this
  refine ⟨⟨_, he, rfl⟩, h _ he (Heap.get?_push_of_some _ (Heap.get?_push_size _ B.free)) (by rw [Heap.size_push, hz]) fun b o x => Heap.get?_push_of_some _ (Heap.get?_push_of_some _ x)⟩
end PySem
namespace DL
open PySem L2
/-- the tuple at a, each item in a new pair -/
def IteT (K : PySem.W.Frag) (a : Addr) : It :=
  ⟨fun i H => ∃ (xs : List V) (x : V), SqT K H a xs ∧ xs[i]? = some x, fun i H v H' => ∃ T x, v = .ref T ∧ H T = none ∧ H' = upd H T (.tup [.int (i : Nat), x]) ∧ ∀ xs, SqT K H a xs → xs[i]? = some x, fun i H => ∃ xs : List V, SqT K H a xs ∧ xs.length ≤ i⟩
theorem turn_enumT {P : Program} {w : World} {K : PySem.W.Frag} {elts : List Expr} {kk : Nat} {tpos : Pos} (a e it : Addr) (ha : a ≠ it) :
    Turn P w K (.Tuple elts kk tpos) (IteT K a) [e, it] e (fun i h => (∃ old, IsEnum h e it ((i : Nat) : Int) old) ∧ h.IsTupleIter it a i ∧ e ≠ it ∧ a ≠ e) where
  mem := by simp
  obj := fun i h st b hb => by
    obtain ⟨⟨old, he⟩, ⟨o, ho, hc, hd⟩, _⟩ := st
    have e' : b = e ∨ b = it := by simpa using hb
    rcases e' with z | z
    · rw [z]; exact ⟨_, he, fun v q => nomatch q⟩
    · rw [z]; exact ⟨o, ho, fun v q => by rw [hd] at q; cases q⟩
  keep := fun i h h' st k => let ⟨⟨old, he⟩, hi, hne⟩ := st; ⟨⟨old, k e (by simp) _ he⟩, hi.at fun o q => k it (by simp) o q, hne⟩
  item := by
    intro X hP hw hK hc i pins s σ H E I hf st hg
    subst hP hw hK
    obtain ⟨⟨old, he⟩, hit, hne, hae⟩ := st
    obtain ⟨xs, x, hq, hx⟩ := hg
    obtain ⟨its, rv, p, hz⟩ := I.tuple hq
    obtain ⟨u, hu, ru⟩ := rv.get hx
    have hel : e < s.heap.objs.size := Heap.lt_size he
    have hil : it < s.heap.objs.size := by obtain ⟨_, q, _⟩ := hit; exact Heap.lt_size q
    have D := Draws.tuple (prog := X.prog) (w := X.w) (A := X.A.in1) (I.ok.hd hc) it a ha its.toArray
    have hlt : i < its.toArray.size := by
      have := (List.getElem?_eq_some_iff.mp hu).1
      simpa using this
    refine wpAny_pyNext_enum_itemD D he ⟨hit, show s.heap.IsTuple a its.toArray from p⟩ hlt hne (by simp [hne]; exact fun z => hae z.symm) fun y h' tk hy ho hst' hT hsz hk => ?_
    have hyu : y = u := by
      have e1 : its[i]? = some y := by simpa using hy
      rw [hu] at e1
      exact (Option.some.inj e1).symm
    subst hyu
    refine ⟨_, rfl, wpAny_letOwnedTupleGo_enum (s := { s with heap := h', toks := tk + 1 }) ho fun h'' he' sb => ?_⟩
    have hT2 : h''.get? s.heap.objs.size = some { cls := .type "tuple", data := .seq #[.int i tk, y] } := (sb.2 _ (Nat.ne_of_gt hel)).trans hT
    have new : ObjOk X.prog X.w (upd H s.heap.objs.size (.tup [.int (i : Nat), x])) h'' s.heap.objs.size (.tup [.int (i : Nat), x]) :=
      ⟨by show 2 ≤ sizeLine; decide, [.int i tk, y], .cons ⟨_, rfl⟩ (.cons ru .nil), ⟨_, hT2, rfl, _, rfl⟩⟩
    have I1 : Inv X pins σ (upd H s.heap.objs.size (.tup [.int (i : Nat), x])) { s with heap := h'', toks := tk + 1 } :=
      I.turnedNew (ch := [e, it]) (fun b ob hb q => (sb.2 b (fun z => hb (by simp [z]))).trans (hk b ob (fun z => hb (by simp [z])) (fun z => hb (by simp [z])) q)) hf (Nat.le_refl _) new
    refine ⟨.ref s.heap.objs.size, _, I1, rfl, ⟨_, x, rfl, I.hok.fresh (Nat.le_refl _), rfl, fun ys hy => by rw [I.tuple_inj hy hq]; exact hx⟩, ⟨⟨y, ?_⟩, hst'.1.at fun o q => (sb.2 it (Ne.symm hne)).trans q, hne, hae⟩, fun b hb => ?_⟩
    · have e1 : ((i + 1 : Nat) : Int) = (i : Int) + 1 := by omega
      rw [e1]; exact he'
    · have hb' : b < s.heap.objs.size := by
        have e' : b = e ∨ b = it := by simpa using hb
        rcases e' with z | z
        · rw [z]; exact hel
        · rw [z]; exact hil
      rw [upd_ne (Nat.ne_of_lt hb')]
      exact (hf b hb).1
  done := by
    intro X hP hw hK hc i pins s σ H E I hf st hg
    subst hP hw hK
    obtain ⟨⟨old, he⟩, hit, hne, hae⟩ := st
    obtain ⟨xs, hq, hx⟩ := hg
    obtain ⟨its, rv, p, hz⟩ := I.tuple hq
    obtain ⟨f0, f1, f2, f3, f4, f5⟩ := hf it (by simp)
    have hl := rv.length
    have p' : s.heap.IsTuple a its.toArray := p
    have hT : s.TypeIs (.ref e) "enumerate" := ⟨_, he, rfl⟩
    unfold pyNext
    refine wpAny_bind (wpAny_attempt (wpAny_callSpecial?_slot (name := Str.ofString "__next__") hT F.slot_enumerate_next
      (wpAny_call_entry F.slot_enumerate_next hT F.entry_enumerate_next ?_ (F.args_enumerate_next_1 _))))
    show wpAny _ _ (field (.ref e) 2 >>= _) _ _ _
    refine wpAny_bind (wpAny_field he rfl (x := .ref it) rfl ?_)
    refine wpAny_bind (wpAny_nextOf_tuple_end (A := X.A.in1) (I.ok.hd hc) hit p' (by simp; omega) fun h' x he' hx' => ?_)
    obtain ⟨o, ho, hc'⟩ := hx'
    refine wpAny_bind (wpAny_isInstance (T := "StopIteration") (b := true) ⟨o, ho, hc'⟩ isSubtype_stop ?_)
    exact wpAny_pure ⟨rfl, I.turned (t' := s.toks) (fun b o hb q => he' b o hb q) f0 f1 f3 f4 f5⟩
  self := fun A i s Q E st h => let ⟨⟨_, he⟩, _⟩ := st; wpAny_pyIter_enum he h
def iEnumT (K : PySem.W.Frag) (ta : TA) : TI := fun σ H R => ta σ H fun vs H1 => ∃ a xs, vs = [.ref a] ∧ ((SqL K H1 a xs ∧ R (Ite K a) H1) ∨ (SqT K H1 a xs ∧ R (IteT K a) H1))
open PyProof.Rows in
theorem pi_enumT {X : Cx} {e : Expr} {ta : TA} {p pos tpos : Pos} {elts : List Expr} {kk : Nat} (hg : Gl X "enumerate") (hm : X.mg "enumerate" = none) (ha : PA X [e] ta) (hs : starEach [e] X.env = [(false, eval e X.env)] := by rfl) :
    PI X (.Tuple elts kk tpos) (.Call (.Name "enumerate" p) [e] [] pos) (iEnumT X.K ta) := by
  refine ⟨fun pins s σ H R I h => ?_⟩
  refine Call_ (ld_blt I hg hm boot_enumerate (PyProof.Rows.callWith_type1 (thn (ha.run pos pins s σ H _ I h) fun us s1 ⟨vs, H1, I1, r1, q1⟩ => ?_) hs rfl))
  obtain ⟨a, xs, ex, q1⟩ := q1
  subst ex
  cases r1 with
  | cons r rr =>
    cases rr
    cases r
    have key : ∀ b, b ∈ [s1.heap.objs.size + 1, s1.heap.objs.size] → FpOk X pins H1 b := fun b hb => by
      have e' : b = s1.heap.objs.size + 1 ∨ b = s1.heap.objs.size := by simpa using hb
      have hle : s1.heap.objs.size ≤ b := by
        rcases e' with z | z
        · rw [z]; exact Nat.le_add_right _ _
        · rw [z]; exact Nat.le_refl _
      exact I1.fpOk hle (I1.hok.fresh hle)
    rcases q1 with ⟨hq, q⟩ | ⟨hq, q⟩
    · obtain ⟨its, rv, p', hz⟩ := I1.list hq
      refine call_enumerate_list p'.isList fun h' he hit hsz hk => wpAny_pyIter_enum he ?_
      have I2 : Inv X pins σ H1 { s1 with heap := h' } := I1.kept (t' := s1.toks) hk
      exact ⟨s1.heap.objs.size + 1, [s1.heap.objs.size + 1, s1.heap.objs.size], _, _, H1, rfl, I2, turn_enum a (s1.heap.objs.size + 1) s1.heap.objs.size, ⟨⟨.none, he⟩, hit, Nat.succ_ne_self _⟩, key, q⟩
    · obtain ⟨its, rv, p', hz⟩ := I1.tuple hq
      have p2 : s1.heap.IsTuple a its.toArray := p'
      obtain ⟨oa, hoa, _⟩ := id p'
      have hal := Heap.lt_size hoa
      refine dl_call_enumerate (begins_tuple a its.toArray) p2 fun h' he hit hsz hk => wpAny_pyIter_enum he ?_
      have I2 : Inv X pins σ H1 { s1 with heap := h' } := I1.kept (t' := s1.toks) hk
      exact ⟨s1.heap.objs.size + 1, [s1.heap.objs.size + 1, s1.heap.objs.size], _, _, H1, rfl, I2, turn_enumT a (s1.heap.objs.size + 1) s1.heap.objs.size (Nat.ne_of_lt hal), ⟨⟨.none, he⟩, ⟨_, hit, rfl, rfl⟩, Nat.succ_ne_self _, Nat.ne_of_lt (Nat.lt_succ_of_lt hal)⟩, key, q⟩
end DL

namespace DL
open PySem L2
section
variable {X : Cx} {W : WD} {pos : Pos} {a b c : Expr} {fa fb fc : DEn} {es : List Expr}
/-! ### expressions that give a cell -/
abbrev DVn := DL.Env → Store → Out EV
def tV (G : Gd) (W : WD) (f : DVn) : TE := fun σ H Q => ∃ HF L ρ S, Rel G H HF L σ ρ S ∧ Post G W σ ρ H HF L (fun HF' L' v e => RepE G HF' L' v e) Q (f ρ S)
abbrev DV (X : Cx) (W : WD) (e : Expr) (f : DVn) : Prop := PE X e (tV (gd X W) W f)
abbrev DAE (X : Cx) (W : WD) (es : List Expr) (f : DAn) : Prop := PA X es (tA (gd X W) W f)
def mV (fa : DEn) : DVn := fun ρ S => (fa ρ S).bind fun d S1 => .ok (.v d) S1
theorem v1 (ha : DE X W a fa) : DV X W a (mV fa) := PE.imp ha fun σ H Q ⟨HF, L, ρ, S, R, p⟩ => ⟨HF, L, ρ, S, R, Post.bind p fun d S1 v H1 HF1 L1 e1 st1 R1 r1 p1 => p1.done R1 .no r1⟩
def mCel (i : Nat) : DVn := fun ρ S => match ρ[i]? with
  | some (some (.cel n)) => .ok (.cel n) S
  | _ => .bad
theorem vc (i : Nat) {x : Str} (hN : X.N[i]? = some x := by rfl) (hv : Vis X.env.scope x := by first | exact Or.inl rfl | exact Or.inr (Or.inl rfl) | exact Or.inr (Or.inr rfl)) (hd : (x == ("__debug__" : Str)) = false := by decide)
    (hcd : (x == ("__classdict__" : Str)) = false := by decide) : DV X W (.Name x pos) (mCel i) := by
  refine PE.imp (pe_var (i := i) hN hv hd hcd) fun σ H Q ⟨HF, L, ρ, S, R, p⟩ => ?_
  unfold mCel at p
  split at p
  · rename_i n e
    obtain ⟨v, h1, h2⟩ := R.env i _ e
    exact ⟨v, h1, p.done R .no h2⟩
  · exact p.elim
/-- a new cell, its content just laid at p -/
theorem Post.fresh {α : Type} {σ : L2.St} {ρ : DL.Env} {H HF : Hp} {L : List Addr} {S : Store} {Q : VK} {ds : List D} {vs : List V} {p : Addr} (R : Rel (gd X W) H HF L σ ρ S) (hp : H p = none) (r : Reps (gd X W) HF vs ds)
    (h : Post (gd X W) W σ ρ H HF L (fun HF' L' v e => RepE (gd X W) HF' L' v e) Q (.ok (.cel S.length) (S ++ [some (.lst ds)]))) : Q (.ref p) (upd H p (.lst vs)) := by
  obtain ⟨R', st⟩ := R.fresh hp r
  exact h _ _ _ _ st R' ⟨p, by rw [R.sl, List.getElem?_append_right (Nat.le_refl _)]; simp, rfl⟩
variable {fs : DDn}
def mNew (fs : DDn) : DVn := fun ρ S => (fs ρ S).bind fun xs S1 => if xs.length ≤ lim then .ok (.cel S1.length) (S1 ++ [some (.lst xs)]) else .bad
theorem vlst (hs : DA X W es fs) : DV X W (.List es pos) (mNew fs) :=
  PE.imp (pe_lst hs) fun σ H Q ⟨HF, L, ρ, S, R, p⟩ => ⟨HF, L, ρ, S, R, Post.bind p fun xs S1 vs H1 HF1 L1 e1 st1 R1 r1 p1 => by
    split at p1
    · rename_i hz
      exact ⟨by rw [r1.length]; exact Nat.le_trans hz lim_le, fun q hq => Post.fresh (α := EV) R1 hq r1 p1⟩
    · exact p1.elim⟩
/-- list(x) as a new cell -/
def mNewOf (fa : DEn) : DVn := fun ρ S => (fa ρ S).bind fun x S1 => match gList [x] with
  | some (.lst xs) => .ok (.cel S1.length) (S1 ++ [some (.lst xs)])
  | _ => .bad
theorem vlist {p : Pos} (hm : X.mg "list" = none) (ha : DE X W a fa) (hg : Gl X "list" := by rfl) (he : starEach (a :: []) X.env = (false, eval a X.env) :: starEach [] X.env := by rfl) (hpl : (backTo pos (starEach [] X.env)).any (·.1) = false := by rfl) :
    DV X W (.Call (.Name "list" p) [a] [] pos) (mNewOf fa) :=
  PE.imp (pe_callTy call_list_of hg hm PyProof.Rows.boot_list (pa_cons ha pa_nil he) (by decide) (by decide) he hpl) fun σ H Q ⟨HF, L, ρ, S, R, p⟩ => ⟨HF, L, ρ, S, R, Post.bind p fun x S1 v H1 HF1 L1 e1 st1 R1 r1 p1 => by
    cases x with
    | tup ds => cases r1 with
      | tup h1 h2 => exact ⟨_, _, rfl, .inr (SqT.mono R1.sub h1), fun l hl => Post.fresh (α := EV) R1 hl h2 p1⟩
    | lst ds => cases r1 with
      | lst h1 h2 => exact ⟨_, _, rfl, .inl (SqL.of (R1.sub _ _ h1)), fun l hl => Post.fresh (α := EV) R1 hl h2 p1⟩
    | rol ds => cases r1 with
      | rol h1 h2 => exact ⟨_, _, rfl, .inl (R1.sub.seq h1), fun l hl => Post.fresh (α := EV) R1 hl h2 p1⟩
    | _ => exact p1.elim⟩
def mNewRg (fa : DEn) : DVn := fun ρ S => (fa ρ S).bind fun x S1 => match x with
  | .int n => if n ≤ 1000000 ∧ -1000000 ≤ n then .ok (.cel S1.length) (S1 ++ [some (.lst (rgD 0 n))]) else .bad
  | _ => .bad
theorem vlistRg {p p2 pos2 : Pos} (hc : X.calm = true) (hm : X.mg "list" = none) (hm2 : X.mg "range" = none) (ha : DE X W a fa) (hg : Gl X "list" := by rfl) (hg2 : Gl X "range" := by rfl)
    (na : starEach [a] X.env = (false, eval a X.env) :: starEach [] X.env := by rfl) (na2 : starEach [Expr.Call (.Name "range" p2) [a] [] pos2] X.env = (false, eval (.Call (.Name "range" p2) [a] [] pos2) X.env) :: starEach [] X.env := by rfl) :
    DV X W (.Call (.Name "list" p) [.Call (.Name "range" p2) [a] [] pos2] [] pos) (mNewRg fa) :=
  PE.imp (pe_listRg hc hg hm (prg_1 hg2 hm2 ha na) na2) fun σ H Q ⟨HF, L, ρ, S, R, p⟩ => ⟨HF, L, ρ, S, R, Post.bind p fun x S1 v H1 HF1 L1 e1 st1 R1 r1 p1 => by
    split at p1
    · rename_i n
      cases r1
      split at p1
      · rename_i hz
        exact ⟨n, rfl, ⟨by omega, by omega, by omega, by omega, by omega⟩, fun q hq => Post.fresh (α := EV) R1 hq (rgD_reps 0 n) p1⟩
      · exact p1.elim
    · exact p1.elim⟩
/-- a cell given up: its value from now on -/
def mFrz (i : Nat) : DEn := fun ρ S => match ρ[i]? with
  | some (some (.cel n)) => match S[n]? with
    | some (some (.lst ds)) => .ok (.lst ds) (S.set n none)
    | _ => .bad
  | _ => .bad
theorem xfrz (i : Nat) {x : Str} (hN : X.N[i]? = some x := by rfl) (hv : Vis X.env.scope x := by first | exact Or.inl rfl | exact Or.inr (Or.inl rfl) | exact Or.inr (Or.inr rfl)) (hd : (x == ("__debug__" : Str)) = false := by decide)
    (hcd : (x == ("__classdict__" : Str)) = false := by decide) : DE X W (.Name x pos) (mFrz i) := by
  refine PE.imp (pe_var (i := i) hN hv hd hcd) fun σ H Q ⟨HF, L, ρ, S, R, p⟩ => ?_
  unfold mFrz at p
  split at p
  · rename_i n e
    split at p
    · rename_i ds e2
      obtain ⟨v, h1, pa, h2, h3⟩ := R.env i _ e
      subst h3
      obtain ⟨HF', R', st, r⟩ := R.freeze h2 e2
      exact ⟨_, h1, p _ _ _ _ st R' r⟩
    · exact p.elim
  · exact p.elim

/-! ### operations on a cell -/
/-- the cell's content for an operation whose answer is flat: op(cell, b), op(a, cell), f(cell) -/
def mCmpL (i : Nat) (g : D → D → Option Bool) (fb : DEn) : DTn := fun ρ S => match ρ[i]? with
  | some (some (.cel n)) => (fb ρ S).bind fun y S1 => match S1[n]? with
    | some (some (.lst ds)) => lift (g (.lst ds) y) S1
    | _ => .bad
  | _ => .bad
/-- lend a cell's content -/
theorem lend {G : Gd} {H HF : Hp} {L : List Addr} {σ : L2.St} {ρ : DL.Env} {S : Store} (R : Rel G H HF L σ ρ S) {n : Nat} {q : Addr} {ds : List D} (h1 : L[n]? = some q) (h2 : S[n]? = some (some (.lst ds))) :
    ∃ HB, Same HB H ∧ Same HF HB ∧ Rep G HB (.ref q) (.lst ds) := by
  obtain ⟨HB, R', st, r⟩ := R.freeze h1 h2
  exact ⟨HB, R'.sub, st.fro, r⟩
theorem tT.celL {i : Nat} {r : R2} {g : D → D → Option Bool} (hs : CmS (gd X W) r g) {σ : L2.St} {H : Hp} {Q : Bool → Hp → Prop} {Qv : VK} (h : tT (gd X W) W (mCmpL i g fb) σ H Q) (hq : ∀ b H', Q b H' → Qv (.bl b) H') :
    tOp r (tVar i) (tD (gd X W) W fb) σ H Qv := by
  obtain ⟨HF, L, ρ, S, R, p⟩ := h
  unfold mCmpL at p
  split at p
  · rename_i n hn
    obtain ⟨v, hv1, pa, hp1, hp2⟩ := R.env i _ hn
    subst hp2
    refine ⟨_, hv1, HF, L, ρ, S, R, Post.bind p fun y S1 w H1 HF1 L1 e1 st1 R1 r1 p1 => ?_⟩
    split at p1
    · rename_i ds hS
      obtain ⟨b, eb, p2⟩ := p1.lift
      obtain ⟨HB, s1, s2, rb⟩ := lend R1 (st1.lget hp1) hS
      exact hs (.lst ds) y (.ref pa) w H1 HB b Qv s1 rb (Rep.mono s2 r1) eb (hq b H1 (p2.done R1 .no rfl))
    · exact p1.elim
  · exact p.elim
theorem xcmpL {op : CmpOp} (i : Nat) {x : Str} {px : Pos} {g : D → D → Option Bool} (o : CmpO X W op g) (hb : DE X W b fb) (hm : behindInMarks op b = false := by first | rfl | exact nomark _) (hN : X.N[i]? = some x := by rfl) (hv : Vis X.env.scope x := by first | exact Or.inl rfl | exact Or.inr (Or.inl rfl) | exact Or.inr (Or.inr rfl)) (hd : (x == ("__debug__" : Str)) = false := by decide)
    (hcd : (x == ("__classdict__" : Str)) = false := by decide) : DE X W (.Compare (.Name x px) [op] [b] pos) (mB (mCmpL i g fb)) := by
  obtain ⟨r, h1, h2⟩ := o.has
  exact PE.imp (pe_cmpR h1 (pe_var (i := i) hN hv hd hcd) hb hm) fun σ H Q h => tT.celL h2 (tD.mB h) fun _ _ q => q
theorem ycmpL {op : CmpOp} (i : Nat) {x : Str} {px : Pos} {g : D → D → Option Bool} (o : CmpO X W op g) (hb : DE X W b fb) (hm : behindInMarks op b = false := by first | rfl | exact nomark _) (hN : X.N[i]? = some x := by rfl) (hv : Vis X.env.scope x := by first | exact Or.inl rfl | exact Or.inr (Or.inl rfl) | exact Or.inr (Or.inr rfl)) (hd : (x == ("__debug__" : Str)) = false := by decide)
    (hcd : (x == ("__classdict__" : Str)) = false := by decide) : DT X W (.Compare (.Name x px) [op] [b] pos) (mCmpL i g fb) := by
  obtain ⟨r, h1, h2⟩ := o.has
  exact PT.imp (pt_cmpR h1 (pe_var (i := i) hN hv hd hcd) hb hm) fun σ H Q h => tT.celL h2 h fun b _ q => ⟨b, rfl, q⟩
/-- f(cell), the answer flat -/
def mBiC (i : Nat) (g : List D → Option D) : DEn := fun ρ S => match ρ[i]? with
  | some (some (.cel n)) => match S[n]? with
    | some (some (.lst ds)) => match g [.lst ds] with
      | some d => if d.flat = true then .ok d S else .bad
      | none => .bad
    | _ => .bad
  | _ => .bad
theorem Rep.flatten {G : Gd} {HF HF' : Hp} {v : V} {d : D} (r : Rep G HF v d) (c : d.flat = true) : Rep G HF' v d := by
  cases d with
  | non => cases r; exact .non
  | bl _ => cases r; exact .bl _
  | int _ => cases r; exact .int _
  | str _ => cases r; exact .str _
  | _ => cases c
theorem Al.back {H HF H' HF' : Hp} (a : Al H HF H' HF') (HG : Hp) : ∃ HG', Al H HG H' HG' := by
  cases a with
  | no => exact ⟨_, .no⟩
  | new h ho => exact ⟨_, .new h ho⟩
  | ad h hq ho => exact ⟨_, .ad h hq ho⟩
theorem tD.biC {i : Nat} {r : List V → Hp → VK → Prop} {g : List D → Option D} (hs : CaS (gd X W) r g) {σ : L2.St} {H : Hp} {Q : VK} (h : tD (gd X W) W (mBiC i g) σ H Q) : tCB r (tCons (tVar i) tNil) σ H Q := by
  obtain ⟨HF, L, ρ, S, R, p⟩ := h
  unfold mBiC at p
  split at p
  · rename_i n hn
    split at p
    · rename_i ds hS
      split at p
      · rename_i d ed
        split at p
        · rename_i hf
          obtain ⟨v, hv1, pa, hp1, hp2⟩ := R.env i _ hn
          subst hp2
          obtain ⟨HB, s1, s2, rb⟩ := lend R hp1 hS
          refine ⟨_, hv1, hs [.lst ds] [.ref pa] H HB d Q s1 (.cons rb .nil) ed fun u H' HB' al ru => ?_⟩
          obtain ⟨HF', al'⟩ := al.back HF
          exact p.done R al' (ru.flatten hf)
        · exact p.elim
      · exact p.elim
    · exact p.elim
  · exact p.elim
theorem xbiC (i : Nat) {x f : Str} {id : String} {p px : Pos} {g : List D → Option D} (o : BiO X W (.builtin id) g) (hm : X.mg f = none) (hv : bootBuiltins f = some (.builtin id)) (hg : Gl X f := by rfl) (hn : f ≠ "__name__" := by decide) (hdb : (f == ("__debug__" : Str)) = false := by decide)
    (hN : X.N[i]? = some x := by rfl) (hvi : Vis X.env.scope x := by first | exact Or.inl rfl | exact Or.inr (Or.inl rfl) | exact Or.inr (Or.inr rfl)) (hd : (x == ("__debug__" : Str)) = false := by decide) (hcd : (x == ("__classdict__" : Str)) = false := by decide)
    (he : starEach [Expr.Name x px] X.env = (false, eval (.Name x px) X.env) :: starEach [] X.env := by rfl) (hpl : (backTo pos (starEach [] X.env)).any (·.1) = false := by rfl) : DE X W (.Call (.Name f p) [.Name x px] [] pos) (mBiC i g) := by
  obtain ⟨r, h1, h2⟩ := o.has
  exact PE.imp (pe_callB h1 hg hm hv (pa_cons (pe_var (i := i) hN hvi hd hcd) pa_nil he) hn hdb he hpl) fun σ H Q h => tD.biC h2 h
/-- tuple(cell): a tuple of its content -/
def mTupC (i : Nat) : DEn := fun ρ S => match ρ[i]? with
  | some (some (.cel n)) => match S[n]? with
    | some (some (.lst ds)) => .ok (.tup ds) S
    | _ => .bad
  | _ => .bad
theorem xtupC (i : Nat) {x : Str} {p px : Pos} (hm : X.mg "tuple" = none) (hg : Gl X "tuple" := by rfl) (hN : X.N[i]? = some x := by rfl) (hvi : Vis X.env.scope x := by first | exact Or.inl rfl | exact Or.inr (Or.inl rfl) | exact Or.inr (Or.inr rfl)) (hd : (x == ("__debug__" : Str)) = false := by decide) (hcd : (x == ("__classdict__" : Str)) = false := by decide)
    (he : starEach [Expr.Name x px] X.env = (false, eval (.Name x px) X.env) :: starEach [] X.env := by rfl) (hpl : (backTo pos (starEach [] X.env)).any (·.1) = false := by rfl) : DE X W (.Call (.Name "tuple" p) [.Name x px] [] pos) (mTupC i) := by
  refine PE.imp (pe_callTy call_tuple_of hg hm PyProof.Rows.boot_tuple (pa_cons (pe_var (i := i) hN hvi hd hcd) pa_nil he) (by decide) (by decide) he hpl) fun σ H Q ⟨HF, L, ρ, S, R, p⟩ => ?_
  unfold mTupC at p
  split at p
  · rename_i n hn
    split at p
    · rename_i ds hS
      obtain ⟨q, vs, h1, h2, h3, h4, h5⟩ := R.celAt hn hS
      exact ⟨_, h1, _, _, rfl, .inl ⟨SqL.of h3, fun l hl => p.done R (.new hl) (.tup (SqE.of upd_same) (h4.mono (same_upd (R.hf hl))))⟩⟩
    · exact p.elim
  · exact p.elim
/-- a method of a cell: what it does to the content, what it answers -/
theorem tyV_cel {K : PySem.W.Frag} {H : Hp} {q : Addr} {vs : List V} (h : H q = some (.lst vs)) : tyV K "list" (.ref q) H := .inl ⟨rfl, _, SqL.of h⟩
def mMet (i : Nat) (g : List D → List D → Option (List D × D)) (fs : DDn) : DEn := fun ρ S => match ρ[i]? with
  | some (some (.cel n)) => match S[n]? with
    | some (some (.lst _)) => (fs ρ S).bind fun ys S1 => match S1[n]? with
      | some (some (.lst ds)) => match g ds ys with
        | some (ds', d) => .ok d (S1.set n (some (.lst ds')))
        | none => .bad
      | _ => .bad
    | _ => .bad
  | _ => .bad
/-- r, by values, does what g says -/
def MeS (G : Gd) (r : V → List V → Hp → VK → Prop) (g : List D → List D → Option (List D × D)) : Prop := ∀ (q : Addr) (ds ys ds' : List D) (d : D) (vs ws : List V) (H HF : Hp) (Q : VK), H q = some (.lst vs) → Reps G HF vs ds → Reps G HF ws ys → Same HF H → g ds ys = some (ds', d) →
  (∀ u vs', Reps G HF vs' ds' → Rep G HF u d → Q u (upd H q (.lst vs'))) → r (.ref q) ws H Q
structure MeO (X : Cx) (W : WD) (name : Str) (id : String) (g : List D → List D → Option (List D × D)) : Prop where
  has : ∃ r, PlainAttrs "list" ∧ Slot "list" name id ∧ typeOf (.builtin id) = pure (.type "method_descriptor") ∧ MtR X id r ∧ MeS (gd X W) r g
theorem xmet (i : Nat) {x name : Str} {id : String} {g : List D → List D → Option (List D × D)} {px apos : Pos} {fs : DDn} (o : MeO X W name id g) (ha : DA X W (a :: es) fs) (hN : X.N[i]? = some x := by rfl) (hvi : Vis X.env.scope x := by first | exact Or.inl rfl | exact Or.inr (Or.inl rfl) | exact Or.inr (Or.inr rfl)) (hd : (x == ("__debug__" : Str)) = false := by decide) (hcd : (x == ("__classdict__" : Str)) = false := by decide)
    (hbase : attributeBase (.Name x px) name X.env (eval (.Name x px) X.env) = eval (.Name x px) X.env := by rfl)
    (hfew : ((backTo pos (starEach (a :: es) X.env)).all (fun x => !x.1) && (backToKw pos (keywordEach [] X.env)).all (fun x => x.1.isSome) && decide ((a :: es).length + ([] : List Keyword).length + (if ([] : List Keyword).isEmpty then 0 else 1) < 30)) = true := by rfl)
    (hline : (apos.endLine == pos.line) = true := by rfl) (hs : starEach (a :: es) X.env = (false, eval a X.env) :: starEach es X.env := by rfl) (hplain : (backTo pos (starEach es X.env)).any (·.1) = false := by rfl) :
    DE X W (.Call (.Attribute (.Name x px) name apos) (a :: es) [] pos) (mMet i g fs) := by
  obtain ⟨r, o1, o2, o3, o4, o5⟩ := o.has
  refine PE.imp (pe_bm o1 o2 o3 o4 (pe_var (i := i) hN hvi hd hcd) ha hbase hfew hline hs hplain) fun σ H Q ⟨HF, L, ρ, S, R, p⟩ => ?_
  unfold mMet at p
  split at p
  · rename_i n hn
    split at p
    · rename_i ds0 hS0
      obtain ⟨v, hv1, pa, hp1, hp2⟩ := R.env i _ hn
      subst hp2
      obtain ⟨q1, vs0, q2, q3⟩ := R.cell n pa _ hp1 hS0
      refine ⟨_, hv1, tyV_cel q2, HF, L, ρ, S, R, Post.bind p fun ys S1 ws H1 HF1 L1 e1 st1 R1 r1 p1 => ?_⟩
      split at p1
      · rename_i ds hS
        split at p1
        · rename_i ds' d eg
          have hp1' := st1.lget hp1
          obtain ⟨q4, vs, q5, q6⟩ := R1.cell n pa _ hp1' hS
          refine o5 pa ds ys ds' d vs ws H1 HF1 Q q5 q6 r1 R1.sub eg fun u vs' rv ru => ?_
          obtain ⟨R2, st2⟩ := R1.write hp1' hS rv
          exact p1 _ _ _ _ st2 R2 ru
        · exact p1.elim
      · exact p1.elim
    · exact p.elim
  · exact p.elim
/-- .. without arguments -/
theorem xmet0 (i : Nat) {x name : Str} {id : String} {g : List D → List D → Option (List D × D)} {px apos : Pos} (o : MeO X W name id g) (hN : X.N[i]? = some x := by rfl) (hvi : Vis X.env.scope x := by first | exact Or.inl rfl | exact Or.inr (Or.inl rfl) | exact Or.inr (Or.inr rfl)) (hd : (x == ("__debug__" : Str)) = false := by decide) (hcd : (x == ("__classdict__" : Str)) = false := by decide)
    (hbase : attributeBase (.Name x px) name X.env (eval (.Name x px) X.env) = eval (.Name x px) X.env := by rfl) (hline : (apos.endLine == pos.line) = true := by rfl) :
    DE X W (.Call (.Attribute (.Name x px) name apos) [] [] pos) (mMet i g mNil) := by
  obtain ⟨r, o1, o2, o3, o4, o5⟩ := o.has
  refine PE.imp (pe_bm0 o1 o2 o3 o4 (pe_var (i := i) hN hvi hd hcd) hbase hline) fun σ H Q ⟨HF, L, ρ, S, R, p⟩ => ?_
  unfold mMet at p
  split at p
  · rename_i n hn
    split at p
    · rename_i ds0 hS0
      obtain ⟨v, hv1, pa, hp1, hp2⟩ := R.env i _ hn
      subst hp2
      obtain ⟨q1, vs0, q2, q3⟩ := R.cell n pa _ hp1 hS0
      refine ⟨_, hv1, tyV_cel q2, ?_⟩
      have p : Post (gd X W) W σ ρ H HF L (fun HF' _ v d => Rep (gd X W) HF' v d) Q (match S[n]? with
        | some (some (.lst ds)) => match g ds [] with
          | some (ds', d) => .ok d (S.set n (some (.lst ds')))
          | none => .bad
        | _ => .bad) := p
      split at p
      · rename_i ds hS
        split at p
        · rename_i ds' d eg
          obtain ⟨q4, vs, q5, q6⟩ := R.cell n pa _ hp1 hS
          refine o5 pa ds [] ds' d vs [] H HF Q q5 q6 .nil R.sub eg fun u vs' rv ru => ?_
          obtain ⟨R2, st2⟩ := R.write hp1 hS rv
          exact p _ _ _ _ st2 R2 ru
        · exact p.elim
      · exact p.elim
    · exact p.elim
  · exact p.elim
def gApp : List D → List D → Option (List D × D)
  | ds, [y] => if ds.length < lim then some (ds ++ [y], .non) else none
  | _, _ => none
theorem meApp : MeO X W "append" "list.append" gApp := by
  refine ⟨rAppend, PySem.F.plainAttrs_list, PySem.F.slot_list_append, PySem.F.type_list_append, mt_append, fun q ds ys ds' d vs ws H HF Q hq r1 r2 sub e k => ?_⟩
  unfold gApp at e
  split at e
  · split at e
    · rename_i y hz
      cases e
      obtain ⟨w, rfl, rw'⟩ := r2.one
      exact ⟨q, vs, w, rfl, rfl, hq, by rw [r1.length]; exact Nat.lt_of_lt_of_le hz lim_le, k _ _ (r1.append (.cons rw' .nil)) .non⟩
    · cases e
  · cases e
def gPop : List D → List D → Option (List D × D)
  | ds, [] => (ds[ds.length - 1]?).map fun d => (ds.dropLast, d)
  | _, _ => none
theorem mePop : MeO X W "pop" "list.pop" gPop := by
  refine ⟨rPop, PySem.F.plainAttrs_list, PySem.F.slot_list_pop, PySem.F.type_list_pop, mt_pop, fun q ds ys ds' d vs ws H HF Q hq r1 r2 sub e k => ?_⟩
  unfold gPop at e
  split at e
  · cases h : ds[ds.length - 1]? with
    | none => rw [h] at e; cases e
    | some y =>
      rw [h] at e
      cases e
      cases r2
      obtain ⟨v, e1, e2⟩ := r1.get h
      exact ⟨q, vs, v, rfl, rfl, hq, by rw [r1.length]; exact e1, k _ _ r1.dropLast e2⟩
  · cases e
def gPopAt : List D → List D → Option (List D × D)
  | ds, [.int i] => if ds.length ≤ lim then (ixN ds.length i).bind fun k => (ds[k]?).map fun d => (ds.eraseIdx k, d) else none
  | _, _ => none
theorem mePopAt : MeO X W "pop" "list.pop" gPopAt := by
  refine ⟨rPopAt, PySem.F.plainAttrs_list, PySem.F.slot_list_pop, PySem.F.type_list_pop, mt_popAt, fun q ds ys ds' d vs ws H HF Q hq r1 r2 sub e k => ?_⟩
  unfold gPopAt at e
  split at e
  · rename_i i
    split at e
    · rename_i hz
      cases h : ixN ds.length i with
      | none => rw [h] at e; cases e
      | some j =>
        rw [h] at e
        cases h2 : ds[j]? with
        | none => simp only [Option.bind_some, h2] at e; cases e
        | some y =>
          simp only [Option.bind_some, h2, Option.map_some, Option.some.injEq, Prod.mk.injEq] at e
          obtain ⟨e1, e2⟩ := e
          subst e1; subst e2
          obtain ⟨w, rfl, rw'⟩ := r2.one
          cases rw'
          obtain ⟨v, g1, g2⟩ := r1.get h2
          obtain ⟨s1, s2, s3, s4⟩ := ixN_seq h
          have hz' : ds.length ≤ 1000000 := hz
          exact ⟨q, vs, i, j, v, rfl, rfl, hq, by omega, by omega, by rw [r1.length]; exact s1, g1, k _ _ (r1.erase j) g2⟩
    · cases e
  · cases e
end
end DL

namespace DL
open PySem PySem.Spec PyProof.Rows L2
/-! ### calls of the program's own defs -/
def cels : List EV → List Nat
  | [] => []
  | .v _ :: r => cels r
  | .cel n :: r => n :: cels r
  | .exn _ :: r => cels r
  | .lam _ _ :: r => cels r
def renum : Nat → List EV → List EV
  | _, [] => []
  | k, .v d :: r => .v d :: renum k r
  | k, .cel _ :: r => .cel k :: renum (k + 1) r
  | k, .exn x :: r => .exn x :: renum k r
  | k, .lam ws ds :: r => .lam ws ds :: renum k r
def getCs (S : Store) : List Nat → Option (List (Option Cell))
  | [] => some []
  | n :: ns => match S[n]? with
    | some (some c) => (getCs S ns).map (some c :: ·)
    | _ => none
def putCs (S : Store) : List Nat → List (Option Cell) → Store
  | n :: ns, c :: cs => putCs (S.set n c) ns cs
  | _, _ => S
def callD (f : Den) (es : List EV) (S : Store) : Out D :=
  if (cels es).Nodup then match getCs S (cels es) with
    | some cs => match f (renum 0 es) cs with
      | .ok d S' => if S'.length = (cels es).length then .ok d (putCs S (cels es) S') else .bad
      | .ex x S' => if S'.length = (cels es).length then .ex x (putCs S (cels es) S') else .bad
      | .bad => .bad
    | none => .bad
  else .bad
theorem putCs_length : ∀ (ns : List Nat) (S : Store) (cs : List (Option Cell)), (putCs S ns cs).length = S.length
  | [], _, _ => by unfold putCs; rfl
  | n :: ns, S, [] => by unfold putCs; rfl
  | n :: ns, S, c :: cs => by
    show (putCs (S.set n c) ns cs).length = S.length
    rw [putCs_length ns, List.length_set]
theorem putCs_not : ∀ (ns : List Nat) (S : Store) (cs : List (Option Cell)) {n : Nat}, n ∉ ns → (putCs S ns cs)[n]? = S[n]?
  | [], _, _, _, _ => by unfold putCs; rfl
  | m :: ns, S, [], _, _ => by unfold putCs; rfl
  | m :: ns, S, c :: cs, n, h => by
    show (putCs (S.set m c) ns cs)[n]? = S[n]?
    rw [putCs_not ns _ cs (fun z => h (List.mem_cons_of_mem _ z)), List.getElem?_set_ne (fun z => h (by rw [← z]; exact List.mem_cons_self))]
theorem putCs_mem : ∀ (ns : List Nat) (S : Store) (cs : List (Option Cell)) {k n : Nat}, ns.Nodup → cs.length = ns.length → ns[k]? = some n → n < S.length → (putCs S ns cs)[n]? = cs[k]?
  | [], _, _, _, _, _, _, h, _ => by simp at h
  | m :: ns, S, [], _, _, _, h, _, _ => by simp at h
  | m :: ns, S, c :: cs, 0, n, nd, hl, h, hn => by
    simp at h; subst h
    show (putCs (S.set m c) ns cs)[m]? = _
    rw [putCs_not ns _ cs (List.nodup_cons.mp nd).1, List.getElem?_set_self hn]
    rfl
  | m :: ns, S, c :: cs, k + 1, n, nd, hl, h, hn => by
    show (putCs (S.set m c) ns cs)[n]? = _
    rw [putCs_mem ns (S.set m c) cs (k := k) (List.nodup_cons.mp nd).2 (by simpa using hl) (by simpa using h) (by simpa using hn)]
    simp
theorem getCs_length {S : Store} : ∀ {ns : List Nat} {cs : List (Option Cell)}, getCs S ns = some cs → cs.length = ns.length
  | [], cs, h => by cases h; rfl
  | n :: ns, cs, h => by
    unfold getCs at h
    split at h
    · cases q : getCs S ns with
      | none => rw [q] at h; cases h
      | some cs' =>
        rw [q] at h; cases h
        simp [getCs_length q]
    · cases h
theorem getCs_get {S : Store} : ∀ {ns : List Nat} {cs : List (Option Cell)} {k n : Nat}, getCs S ns = some cs → ns[k]? = some n → S[n]? = cs[k]? ∧ n < S.length
  | [], _, _, _, _, h => by simp at h
  | m :: ns, cs, k, n, h, e => by
    unfold getCs at h
    split at h
    · rename_i c hc
      cases q : getCs S ns with
      | none => rw [q] at h; cases h
      | some cs' =>
        rw [q] at h; cases h
        cases k with
        | zero =>
          simp at e; subst e
          exact ⟨by rw [hc]; rfl, (List.getElem?_eq_some_iff.mp hc).1⟩
        | succ k =>
          obtain ⟨h1, h2⟩ := getCs_get q (k := k) (n := n) (by simpa using e)
          exact ⟨by rw [h1]; simp, h2⟩
    · cases h
def pick (L : List Addr) (ns : List Nat) : List Addr := ns.map fun n => L[n]?.getD 0
theorem pick_get {L : List Addr} {ns : List Nat} {k n : Nat} {a : Addr} (h : ns[k]? = some n) (e : L[n]? = some a) : (pick L ns)[k]? = some a := by
  unfold pick
  rw [List.getElem?_map, h]
  show some (L[n]?.getD 0) = some a
  rw [e]; rfl
section
variable {G : Gd} {H HF : Hp} {L : List Addr} {σ : L2.St} {ρ : DL.Env} {S : Store}
theorem renum_reps {HF : Hp} {L : List Addr} {M : List Addr} : ∀ {es : List EV} {vs : List V} {k : Nat}, RepEs G HF L vs es → (∀ j n a, (cels es)[j]? = some n → L[n]? = some a → M[k + j]? = some a) → RepEs G HF M vs (renum k es)
  | [], _, _, h, _ => by cases h; exact .nil
  | .v d :: es, _, k, h, f => by
    cases h with
    | cons h1 h2 => exact .cons h1 (renum_reps h2 f)
  | .exn x :: es, _, k, h, f => by
    cases h with
    | cons h1 h2 => exact .cons h1 (renum_reps h2 f)
  | .lam ws ds :: es, _, k, h, f => by
    cases h with
    | cons h1 h2 => exact .cons h1 (renum_reps h2 f)
  | .cel n :: es, _, k, h, f => by
    cases h with
    | cons h1 h2 =>
      obtain ⟨a, e1, e2⟩ := h1
      exact .cons ⟨a, f 0 n a rfl e1, e2⟩ (renum_reps (k := k + 1) h2 fun j m b q1 q2 => by
        have := f (j + 1) m b (by simpa [cels] using q1) q2
        rw [show k + (j + 1) = k + 1 + j by omega] at this
        exact this)
theorem cels_get {es : List EV} {vs : List V} (r : RepEs G HF L vs es) : ∀ {k n : Nat}, (cels es)[k]? = some n → ∃ a, L[n]? = some a := by
  induction r with
  | nil => intro k n h; simp [cels] at h
  | @cons v vs d ds h1 h2 ih =>
    cases d with
    | v d => exact fun h => ih h
    | exn x => exact fun h => ih h
    | lam ws ds => exact fun h => ih h
    | cel m =>
      intro k n h
      cases k with
      | zero =>
        simp [cels] at h; subst h
        obtain ⟨a, e1, _⟩ := h1
        exact ⟨a, e1⟩
      | succ k => exact ih (k := k) (by simpa [cels] using h)
theorem pick_at {es : List EV} {vs : List V} (r : RepEs G HF L vs es) {k : Nat} {a : Addr} (h : (pick L (cels es))[k]? = some a) : ∃ n, (cels es)[k]? = some n ∧ L[n]? = some a := by
  unfold pick at h
  rw [List.getElem?_map] at h
  cases q : (cels es)[k]? with
  | none => rw [q] at h; cases h
  | some n =>
    rw [q] at h
    obtain ⟨b, e⟩ := cels_get r q
    have h' : some (L[n]?.getD 0) = some a := h
    rw [e] at h'
    cases h'
    exact ⟨n, rfl, e⟩
/-- the callee's view -/
theorem Rel.enter (R : Rel G H HF L σ ρ S) {es : List EV} {vs : List V} {cs : List (Option Cell)} (r : RepEs G HF L vs es) (nd : (cels es).Nodup) (hc : getCs S (cels es) = some cs) :
    Rel G H HF (pick L (cels es)) [] [] cs ∧ RepEs G HF (pick L (cels es)) vs (renum 0 es) := by
  refine ⟨⟨R.sub, ?_, ?_, fun a ha => ?_, R.tab, R.nft, fun k a c h1 h2 => ?_, rfl, fun i e h => by simp at h⟩, renum_reps r fun j n a q1 q2 => by rw [Nat.zero_add]; exact pick_get q1 q2⟩
  · refine List.pairwise_iff_getElem.mpr fun i j hi hj hij e => ?_
    obtain ⟨n, n1, n2⟩ := pick_at r (List.getElem?_eq_getElem hj)
    obtain ⟨m, m1, m2⟩ := pick_at r ((List.getElem?_eq_getElem hi).trans (congrArg some e))
    have hnm : n = m := nodup_get R.nd n2 m2
    subst hnm
    have := nodup_get nd m1 n1
    omega
  · rw [getCs_length hc]; unfold pick; simp
  · obtain ⟨k, hk⟩ := List.mem_iff_getElem?.mp ha
    obtain ⟨n, _, n2⟩ := pick_at r hk
    exact R.liv a (List.mem_of_getElem? n2)
  · obtain ⟨n, n1, n2⟩ := pick_at r h1
    obtain ⟨e1, _⟩ := getCs_get hc n1
    exact R.cell n a c n2 (by rw [e1]; exact h2)
/-- back in the caller -/
theorem Rel.back (R : Rel G H HF L σ ρ S) {es : List EV} {vs : List V} {cs cs' : List (Option Cell)} {H' HF' : Hp} (r : RepEs G HF L vs es) (nd : (cels es).Nodup) (hc : getCs S (cels es) = some cs)
    (st : Step H HF (pick L (cels es)) H' HF' (pick L (cels es))) (R' : Rel G H' HF' (pick L (cels es)) [] [] cs') (hl : cs'.length = (cels es).length) :
    Rel G H' HF' L σ ρ (putCs S (cels es) cs') ∧ Step H HF L H' HF' L := by
  have sub : ∀ a, a ∈ pick L (cels es) → a ∈ L := fun a ha => by
    obtain ⟨k, hk⟩ := List.mem_iff_getElem?.mp ha
    obtain ⟨n, _, n2⟩ := pick_at r hk
    exact List.mem_of_getElem? n2
  refine ⟨⟨R'.sub, R.nd, by rw [putCs_length]; exact R.sl, fun a ha => ?_, R'.tab, R'.nft, fun n a c h1 h2 => ?_, R.el, fun i e h => ?_⟩,
    ⟨fun b o hb nt q => st.keep b o (fun z => hb (sub b z)) nt q, st.nn, st.fro, fun a o ha q nt z => st.new a o (fun y => ha (sub a y)) q nt z, [], by simp, by simp⟩⟩
  · by_cases hp : a ∈ pick L (cels es)
    · exact R'.liv a hp
    · obtain ⟨o, e, hm⟩ := R.liv a ha
      exact ⟨o, st.keep a o hp hm.nt e, hm⟩
  · by_cases hn : n ∈ cels es
    · obtain ⟨k, hk⟩ := List.mem_iff_getElem?.mp hn
      obtain ⟨_, hlt⟩ := getCs_get hc hk
      rw [putCs_mem _ _ _ nd hl hk hlt] at h2
      exact R'.cell k a c (pick_get hk h1) h2
    · rw [putCs_not _ _ _ hn] at h2
      obtain ⟨q1, q2⟩ := R.cell n a c h1 h2
      have na : a ∉ pick L (cels es) := fun z => by
        obtain ⟨k, hk⟩ := List.mem_iff_getElem?.mp z
        obtain ⟨m, m1, m2⟩ := pick_at r hk
        have := nodup_get R.nd h1 m2
        subst this
        exact hn (List.mem_of_getElem? m1)
      obtain ⟨o, e, hm⟩ := R.liv a (List.mem_of_getElem? h1)
      refine ⟨st.new a o na q1 hm e, q2.up ?_ st.fro⟩
      rw [e]
      exact st.keep a o na hm.nt e
  · obtain ⟨v, e1, e2⟩ := R.env i e h
    refine ⟨v, e1, ?_⟩
    cases e with
    | v d => exact Rep.mono st.fro e2
    | cel n => exact e2
    | exn x =>
      obtain ⟨b, cls, dd, k1, k2, k3⟩ := e2
      exact ⟨b, cls, dd, k1, k2, k3.mono st.fro⟩
    | lam ws ds => exact RepLam.mono st.fro e2
end
def PostF (G : Gd) (H HF : Hp) (L : List Addr) (Q : VK) (E : XK) : Out D → Prop
  | .ok d S' => ∀ v H' HF', Step H HF L H' HF' L → Rel G H' HF' L [] [] S' → Rep G HF' v d → Q v H'
  | .ex x S' => ∀ cls dd H' HF', Step H HF L H' HF' L → Rel G H' HF' L [] [] S' → ExRep G x HF' cls dd → E cls dd H'
  | .bad => False
/-- a def does what f says -/
def spD (G : Gd) (n : Nat) (f : Den) : Sp := fun vs H Q E => vs.length = n ∧ ∃ HF L es S, Rel G H HF L [] [] S ∧ RepEs G HF L vs es ∧ PostF G H HF L Q E (f es S)
theorem PostF.of {X : Cx} {W : WD} {σ : L2.St} {ρ : DL.Env} {H HF : Hp} {L : List Addr} {S : Store} {Q : VK} {f : Den} {es : List EV} {vs : List V} (R : Rel (gd X W) H HF L σ ρ S) (r : RepEs (gd X W) HF L vs es)
    (p : Post (gd X W) W σ ρ H HF L (fun HF' _ v d => Rep (gd X W) HF' v d) Q (callD f es S)) : spD (gd X W) vs.length f vs H Q (WE W.w σ) := by
  unfold callD at p
  split at p
  · rename_i nd
    split at p
    · rename_i cs hc
      obtain ⟨R1, r1⟩ := R.enter r nd hc
      refine ⟨rfl, HF, _, _, cs, R1, r1, ?_⟩
      cases q : f (renum 0 es) cs with
      | ok d S' =>
        rw [q] at p
        have p : Post (gd X W) W σ ρ H HF L (fun HF' _ v d => Rep (gd X W) HF' v d) Q (if S'.length = (cels es).length then .ok d (putCs S (cels es) S') else .bad) := p
        split at p
        · rename_i hl
          intro v H' HF' st R' rv
          obtain ⟨R2, st2⟩ := R.back r nd hc st R' hl
          exact p v H' HF' L st2 R2 rv
        · exact p.elim
      | ex x S' =>
        rw [q] at p
        have p : Post (gd X W) W σ ρ H HF L (fun HF' _ v d => Rep (gd X W) HF' v d) Q (if S'.length = (cels es).length then .ex x (putCs S (cels es) S') else .bad) := p
        split at p
        · rename_i hl
          intro cls dd H' HF' st R' rv
          obtain ⟨R2, st2⟩ := R.back r nd hc st R' hl
          exact p cls dd H' HF' L st2 R2 rv
        · exact p.elim
      | bad => rw [q] at p; exact p.elim
    · exact p.elim
  · exact p.elim
/-- a def of the text, by its name: it does what f says, at level k -/
structure Dfn (P : Program) (w : World) (G : Gd) (base : Heap) (k : Nat) (x : Str) (n : Nat) (f : Den) : Prop where
  has : ∃ (a : Addr) (fd : FuncData) (ps : List Str), G.mg x = some (.ref a) ∧ PySem.W.keepIn G.K (.ref a) = true ∧ Binds G.K fd ps [] ∧ ps.length = n ∧ FnOk P w G.K G.mg base (L2.CX P w) k a fd ps (spD G n f)
theorem Dfn.mono {P : Program} {w : World} {G : Gd} {base : Heap} {j k : Nat} {x : Str} {n : Nat} {f : Den} (d : Dfn P w G base j x n f) (h : j ≤ k) : Dfn P w G base k x n f := by
  obtain ⟨a, fd, ps, h1, h2, h3, h4, h5⟩ := d.has
  exact ⟨a, fd, ps, h1, h2, h3, h4, h5.mono h⟩
section
variable {X : Cx} {W : WD} {pos : Pos} {a b c : Expr} {fa fb fc : DEn} {es : List Expr}
def mNilE : DAn := fun _ S => .ok [] S
def mConsE (fa : DVn) (fs : DAn) : DAn := fun ρ S => (fa ρ S).bind fun x S1 => (fs ρ S1).bind fun xs S2 => .ok (x :: xs) S2
theorem e0 : DAE X W [] mNilE := PA.imp pa_nil fun σ H Q ⟨HF, L, ρ, S, R, p⟩ => p.done R .no .nil
theorem e1 {fv : DVn} {fs : DAn} (ha : DV X W a fv) (hs : DAE X W es fs) (he : starEach (a :: es) X.env = (false, eval a X.env) :: starEach es X.env := by rfl) : DAE X W (a :: es) (mConsE fv fs) :=
  PA.imp (pa_cons ha hs he) fun σ H Q ⟨HF, L, ρ, S, R, p⟩ => ⟨HF, L, ρ, S, R, Post.bind p fun x S1 v H1 HF1 L1 e1 st1 R1 r1 p1 =>
    ⟨HF1, L1, ρ, S1, R1, Post.bind p1 fun xs S2 vs H2 HF2 L2 e2 st2 R2 r2 p2 => p2.done R2 .no (.cons (RepE.mono st2 r1) r2)⟩⟩
def mCall (f : Den) (n : Nat) (fs : DAn) : DEn := fun ρ S => (fs ρ S).bind fun xs S1 => if xs.length = n then callD f xs S1 else .bad
theorem xcall {x : Str} {p : Pos} {k n : Nat} {f : Den} {fs : DAn} (d : Dfn X.prog X.w (gd X W) X.base k x n f) (hr : Room k X.A) (tk : Takes X W.w) (ha : DAE X W (a :: es) fs) (hg : Gl X x := by rfl) (hdb : (x == ("__debug__" : Str)) = false := by decide)
    (he : starEach (a :: es) X.env = (false, eval a X.env) :: starEach es X.env := by rfl) (hpl : (backTo pos (starEach es X.env)).any (·.1) = false := by rfl) : DE X W (.Call (.Name x p) (a :: es) [] pos) (mCall f n fs) := by
  obtain ⟨ad, fd, ps, h1, h2, h3, h4, h5⟩ := d.has
  refine PE.imp (pe_callS h5 hr hg h1 h2 h3 (fun σ => passAt tk σ) ha hdb he hpl) fun σ H Q ⟨HF, L, ρ, S, R, p⟩ => ⟨HF, L, ρ, S, R, Post.bind p fun xs S1 vs H1 HF1 L1 e1 st1 R1 r1 p1 => ?_⟩
  split at p1
  · rename_i hl
    have e : vs.length = n := by rw [r1.length]; exact hl
    have := PostF.of R1 r1 p1
    rw [e] at this
    exact this
  · exact p1.elim
/-- a call of a parameter that holds a def: T tells what the defs' names mean -/
def mCallL (i : Nat) (T : Str → Option (Nat × Den)) (fs : DAn) : DEn := fun ρ S => match ρ[i]? with
  | some (some (.v (.fn x))) => match T x with
    | some (n, f) => (fs ρ S).bind fun xs S1 => if xs.length = n then callD f xs S1 else .bad
    | none => .bad
  | _ => .bad
theorem xcallL (i : Nat) {y : Str} {p : Pos} {k : Nat} {T : Str → Option (Nat × Den)} {fs : DAn} (d : ∀ x n f, T x = some (n, f) → Dfn X.prog X.w (gd X W) X.base k x n f) (hr : Room k X.A) (tk : Takes X W.w) (ha : DAE X W (a :: es) fs)
    (hN : X.N[i]? = some y := by rfl) (hvi : Vis X.env.scope y := by first | exact Or.inl rfl | exact Or.inr (Or.inl rfl) | exact Or.inr (Or.inr rfl)) (hdb : (y == ("__debug__" : Str)) = false := by decide) (hcd : (y == ("__classdict__" : Str)) = false := by decide)
    (he : starEach (a :: es) X.env = (false, eval a X.env) :: starEach es X.env := by rfl) (hpl : (backTo pos (starEach es X.env)).any (·.1) = false := by rfl) : DE X W (.Call (.Name y p) (a :: es) [] pos) (mCallL i T fs) := by
  refine ⟨fun pins s σ H Q I ⟨HF, L, ρ, S, R, h⟩ => ?_⟩
  unfold mCallL at h
  split at h
  · rename_i x hx
    split at h
    · rename_i n f hT
      obtain ⟨ad, fd, ps, h1, h2, h3, h4, h5⟩ := (d x n f hT).has
      obtain ⟨v, hv1, hv2⟩ := R.env i _ hx
      have hv2 : Rep (gd X W) HF v (.fn x) := hv2
      cases hv2 with
      | @fn a' n' hm' =>
        have e : a' = ad := by
          have z : some (Value.ref a') = some (Value.ref ad) := hm'.symm.trans h1
          cases z; rfl
        subst e
        refine wpAny_Call_Name_kw (thn ((pe_var (pos := p) hN hvi hdb hcd).run pins s σ H (fun v H1 => v = .ref a' ∧ H1 = H) I ⟨.ref a', hv1, rfl, rfl⟩) fun u s1 ⟨v, H1, I1, r1, q1⟩ => ?_)
        obtain ⟨rfl, rfl⟩ := q1
        cases r1
        have ht : tA (gd X W) W fs σ H1 (fun vs H2 => spD (gd X W) n f vs H2 Q (WE W.w σ)) := ⟨HF, L, ρ, S, R, Post.bind h fun xs S1 vs H2 HF2 L2 e2 st2 R2 r2 p2 => by
          split at p2
          · rename_i hl
            have e : vs.length = n := by rw [r2.length]; exact hl
            have := PostF.of R2 r2 p2
            rw [e] at this
            exact this
          · exact p2.elim⟩
        refine PySem.W.callWith_K (h₀ := X.base) I.ok.mod.kin h2 (thn (ha.run pos pins s1 σ _ _ I1 ht) fun us s2 ⟨vs, H2, I2, r, q⟩ => ⟨I2.kIn, ?_⟩) he hpl
        exact run_fnS h5 hr h3 (passAt tk σ) I2 r q
    · exact h.elim
  · exact h.elim
end
end DL

namespace DL
open PySem PySem.Spec PyProof.Rows L2
/-! ### what a loop's or a comprehension's turn stores: names, tuples of them -/
inductive Tg where
  | nm (i : Nat) | tp (ts : List Tg)
mutual
def tgG (K : PySem.W.Frag) : Tg → TG
  | .nm i => gName i
  | .tp ts => gTup K ts.length (tgGs K ts)
def tgGs (K : PySem.W.Frag) : List Tg → TGs
  | [] => gNil
  | t :: ts => gCons (tgG K t) (tgGs K ts)
end
mutual
def Tg.slots : Tg → List Nat
  | .nm i => [i]
  | .tp ts => slotsL ts
def slotsL : List Tg → List Nat
  | [] => []
  | t :: ts => t.slots ++ slotsL ts
end
mutual
def asg : Tg → D → DL.Env → Option DL.Env
  | .nm i, d, ρ => some (ρ.set i (some (.v d)))
  | .tp ts, .tup ds, ρ => asgs ts ds ρ
  | .tp _, _, _ => none
def asgs : List Tg → List D → DL.Env → Option DL.Env
  | [], [], ρ => some ρ
  | t :: ts, d :: ds, ρ => (asg t d ρ).bind fun ρ' => asgs ts ds ρ'
  | _, _, _ => none
end
def sets (σ : L2.St) (ws : List (Nat × V)) : L2.St := ws.foldl (fun s w => s.set w.1 (some w.2)) σ
theorem asgs_len : ∀ {ts : List Tg} {ds : List D} {ρ ρ' : DL.Env}, asgs ts ds ρ = some ρ' → ds.length = ts.length
  | [], [], _, _, _ => rfl
  | [], _ :: _, _, _, e => by cases e
  | _ :: _, [], _, _, e => by cases e
  | t :: ts, d :: ds, ρ, ρ', e => by
    have e : (asg t d ρ).bind (fun ρ1 => asgs ts ds ρ1) = some ρ' := e
    cases q : asg t d ρ with
    | none => rw [q] at e; cases e
    | some ρ1 =>
      rw [q] at e
      have := asgs_len (ρ := ρ1) (ρ' := ρ') e
      simp [this]
section
variable {G : Gd} {H HF : Hp} {L : List Addr} {S : Store}
mutual
theorem tgG_ok : ∀ (t : Tg) {Q : L2.St → Hp → Prop} {d : D} {v : V} {σ : L2.St} {ρ ρ' : DL.Env}, Rel G H HF L σ ρ S → Rep G HF v d → asg t d ρ = some ρ' → (∀ ws : List (Nat × V), (∀ p ∈ ws, p.1 ∈ t.slots) → Rel G H HF L (sets σ ws) ρ' S → Q (sets σ ws) H) → tgG G.K t v σ H Q
  | .nm i, Q, d, v, σ, ρ, ρ', R, r, e, k => by
    cases e
    exact k [(i, v)] (by simp [Tg.slots]) (R.store (e := .v d) r i)
  | .tp ts, Q, d, v, σ, ρ, ρ', R, r, e, k => by
    cases d with
    | tup ds =>
      have e : asgs ts ds ρ = some ρ' := e
      cases r with
      | @tup a xs ds hs hr => exact ⟨a, xs, rfl, SqT.mono R.sub hs, by rw [hr.length]; exact asgs_len e, tgGs_ok ts R hr e k⟩
    | _ => cases e
theorem tgGs_ok : ∀ (ts : List Tg) {Q : L2.St → Hp → Prop} {ds : List D} {vs : List V} {σ : L2.St} {ρ ρ' : DL.Env}, Rel G H HF L σ ρ S → Reps G HF vs ds → asgs ts ds ρ = some ρ' → (∀ ws : List (Nat × V), (∀ p ∈ ws, p.1 ∈ slotsL ts) → Rel G H HF L (sets σ ws) ρ' S → Q (sets σ ws) H) → tgGs G.K ts vs σ H Q
  | [], Q, ds, vs, σ, ρ, ρ', R, r, e, k => by
    cases ds with
    | nil =>
      cases r
      cases e
      exact ⟨rfl, k [] (by simp) R⟩
    | cons _ _ => cases e
  | t :: ts, Q, ds, vs, σ, ρ, ρ', R, r, e, k => by
    cases ds with
    | nil => cases e
    | cons d ds =>
      cases r with
      | cons r1 r2 =>
        have e : (asg t d ρ).bind (fun ρ1 => asgs ts ds ρ1) = some ρ' := e
        cases q : asg t d ρ with
        | none => rw [q] at e; cases e
        | some ρ1 =>
          rw [q] at e
          refine ⟨_, _, rfl, tgG_ok t R r1 q fun ws hw R1 => tgGs_ok ts R1 r2 e fun us hu R2 => ?_⟩
          have e3 : sets (sets σ ws) us = sets σ (ws ++ us) := by unfold sets; rw [List.foldl_append]
          rw [e3] at R2 ⊢
          refine k (ws ++ us) (fun p hp => ?_) R2
          rcases List.mem_append.mp hp with z | z
          · exact List.mem_append_left _ (hw p z)
          · exact List.mem_append_right _ (hu p z)
end
end
section
variable {X : Cx} {W : WD} {pos : Pos}
theorem q1 {i : Nat} {x : Str} (hN : X.N.Nodup) (hi : X.N[i]? = some x := by rfl) (hx : Loc X.env.scope x := by first | exact Or.inl rfl | exact Or.inr rfl) (hf : X.fn x = true ∨ X.env.scope.names.lookup x = some .local := by first | exact .inl rfl | exact .inr rfl | assumption) : PG X (.Name x pos) (tgG X.K (.nm i)) := pg_name hN hi hx hf
theorem qs0 : PGs X [] (tgGs X.K []) := pgs_nil
theorem qs1 {e : Expr} {es : List Expr} {t : Tg} {ts : List Tg} (h1 : PG X e (tgG X.K t)) (h2 : PGs X es (tgGs X.K ts)) (hs : (assignEach (e :: es) X.env).map (·.2) = assign e X.env :: (assignEach es X.env).map (·.2) := by rfl) : PGs X (e :: es) (tgGs X.K (t :: ts)) := pgs_cons h1 h2 hs
theorem qt {es : List Expr} {k : Nat} {ts : List Tg} (hc : X.calm = true) (h : PGs X es (tgGs X.K ts)) (hn : (assignEach es X.env).length = ts.length := by rfl) (hst : (assignEach es X.env).findIdx? (·.1) = none := by rfl) : PG X (.Tuple es k pos) (tgG X.K (.tp ts)) := pg_tup hc h hn hst
end

/-! ### what is walked -/
structure ItD (G : Gd) (J : It) (HF : Hp) (ds : List D) : Prop where
  go : ∀ (i : Nat) (H1 HF1 : Hp), Same HF HF1 → Same HF1 H1 → i < ds.length → J.go i H1
  yld : ∀ (i : Nat) (x : V) (H1 HF1 H2 : Hp) (d : D), Same HF HF1 → Same HF1 H1 → ds[i]? = some d → J.yld i H1 x H2 → ∃ HF2, Al H1 HF1 H2 HF2 ∧ Rep G HF2 x d
  stop : ∀ (i : Nat) (H1 HF1 : Hp), Same HF HF1 → Same HF1 H1 → ds.length ≤ i → J.stop i H1
def tI (G : Gd) (W : WD) (f : DDn) : TI := fun σ H R => ∃ HF L ρ S, Rel G H HF L σ ρ S ∧ Post G W σ ρ H HF L (fun HF' _ J ds => ItD G J HF' ds) R (f ρ S)
abbrev DI (X : Cx) (W : WD) (tg e : Expr) (f : DDn) : Prop := PI X tg e (tI (gd X W) W f)
theorem PI.imp {X : Cx} {tg e : Expr} {t t' : TI} (h : PI X tg e t) (k : ∀ σ H R, t' σ H R → t σ H R) : PI X tg e t' := ⟨fun pins s σ H R I q => h.run pins s σ H R I (k σ H R q)⟩
theorem itd_list {G : Gd} {HF : Hp} {a : Addr} {xs : List V} {ds : List D} (h : SqL G.K HF a xs) (r : Reps G HF xs ds) : ItD G (Itl G.K a) HF ds where
  go := fun i H1 HF1 s1 s2 hi => ⟨xs, xs[i]'(by rw [r.length]; exact hi), (s1.trans s2).seq h, by simp⟩
  yld := fun i x H1 HF1 H2 d s1 s2 hd ⟨e, hx⟩ => by
    subst e
    obtain ⟨v, e1, e2⟩ := r.get hd
    have e3 := hx xs ((s1.trans s2).seq h)
    rw [e1] at e3; cases e3
    exact ⟨HF1, .no, Rep.mono s1 e2⟩
  stop := fun i H1 HF1 s1 s2 hi => ⟨xs, (s1.trans s2).seq h, by rw [r.length]; exact hi⟩
theorem itd_tup {G : Gd} {HF : Hp} {a : Addr} {xs : List V} {ds : List D} (h : SqE G.K HF a xs) (r : Reps G HF xs ds) : ItD G (Itt G.K a) HF ds where
  go := fun i H1 HF1 s1 s2 hi => ⟨xs, xs[i]'(by rw [r.length]; exact hi), SqT.mono (s1.trans s2) h, by simp⟩
  yld := fun i x H1 HF1 H2 d s1 s2 hd ⟨e, hx⟩ => by
    subst e
    obtain ⟨v, e1, e2⟩ := r.get hd
    have e3 := hx xs (SqT.mono (s1.trans s2) h)
    rw [e1] at e3; cases e3
    exact ⟨HF1, .no, Rep.mono s1 e2⟩
  stop := fun i H1 HF1 s1 s2 hi => ⟨xs, SqT.mono (s1.trans s2) h, by rw [r.length]; exact hi⟩
/-- a list or a tuple, as the value is -/
def iSeq (K : PySem.W.Frag) (tl : TE) : TI := fun σ H R => tl σ H fun x H1 => ∃ a, x = .ref a ∧ (((∃ xs, SqL K H1 a xs) ∧ R (Itl K a) H1) ∨ ((∃ xs, SqT K H1 a xs) ∧ R (Itt K a) H1))
theorem pi_seq {X : Cx} {tg l : Expr} {tl : TE} (hl : PE X l tl) : PI X tg l (iSeq X.K tl) := by
  refine ⟨fun pins s σ H R I h => ?_⟩
  refine thn (hl.run pins s σ H _ I h) fun v s1 ⟨x, H1, I1, r1, q1⟩ => ?_
  obtain ⟨a, e, q⟩ := q1
  subst e
  have r1' : v = Value.ref a := r1
  subst r1'
  rcases q with ⟨⟨xs, hq⟩, q⟩ | ⟨⟨xs, hq⟩, q⟩
  · obtain ⟨its, rv, p, hz⟩ := I1.list hq
    refine wpAny_pyIter_list p.isList ?_
    refine ⟨s1.heap.objs.size, [s1.heap.objs.size], _, _, H1, rfl, I1.kept (t' := s1.toks) fun b o e => Heap.get?_push_of_some _ e, turn_list a _, ⟨_, Heap.get?_push_size _ rfl, rfl, rfl⟩, fun b hb => ?_, q⟩
    have e : b = s1.heap.objs.size := by simpa using hb
    subst e
    exact I1.fpOk (Nat.le_refl _) (I1.hok.fresh (Nat.le_refl _))
  · obtain ⟨its, rv, p, hz⟩ := I1.tuple hq
    refine wpAny_pyIter_tuple (show s1.heap.IsTuple a its.toArray from p) ?_
    refine ⟨s1.heap.objs.size, [s1.heap.objs.size], _, _, H1, rfl, I1.kept (t' := s1.toks) fun b o e => Heap.get?_push_of_some _ e, turn_tuple a _, ⟨_, Heap.get?_push_size _ rfl, rfl, rfl⟩, fun b hb => ?_, q⟩
    have e : b = s1.heap.objs.size := by simpa using hb
    subst e
    exact I1.fpOk (Nat.le_refl _) (I1.hok.fresh (Nat.le_refl _))
section
variable {X : Cx} {W : WD} {pos : Pos} {a b c : Expr} {fa fb fc : DEn} {es : List Expr} {tg : Expr}
def D.items : D → Option (List D)
  | .tup ds => some ds
  | .lst ds => some ds
  | .rol ds => some ds
  | _ => none
def mIt (fa : DEn) : DDn := fun ρ S => (fa ρ S).bind fun x S1 => lift x.items S1
theorem i1 (ha : DE X W a fa) : DI X W tg a (mIt fa) :=
  PI.imp (pi_seq ha) fun σ H R ⟨HF, L, ρ, S, RR, p⟩ => ⟨HF, L, ρ, S, RR, Post.bind p fun x S1 v H1 HF1 L1 e1 st1 R1 r1 p1 => by
    obtain ⟨ds, ed, p2⟩ := p1.lift
    cases x with
    | tup ds' => cases ed; cases r1 with
      | tup h1 h2 => exact ⟨_, rfl, .inr ⟨⟨_, SqT.mono R1.sub h1⟩, p2.done R1 .no (itd_tup h1 h2)⟩⟩
    | lst ds' => cases ed; cases r1 with
      | lst h1 h2 => exact ⟨_, rfl, .inl ⟨⟨_, SqL.of (R1.sub _ _ h1)⟩, p2.done R1 .no (itd_list (SqL.of h1) h2)⟩⟩
    | rol ds' => cases ed; cases r1 with
      | rol h1 h2 => exact ⟨_, rfl, .inl ⟨⟨_, R1.sub.seq h1⟩, p2.done R1 .no (itd_list h1 h2)⟩⟩
    | _ => cases ed⟩
theorem itd_range {G : Gd} {HF : Hp} (lo : Int) (n : Nat) : ItD G (Itr lo n) HF ((List.range n).map fun i => D.int (lo + (i : Nat))) where
  go := fun i H1 HF1 s1 s2 hi => by show i < n; simpa using hi
  yld := fun i x H1 HF1 H2 d s1 s2 hd ⟨e, hx⟩ => by
    subst e; subst hx
    rw [List.getElem?_map] at hd
    cases q : (List.range n)[i]? with
    | none => rw [q] at hd; cases hd
    | some j =>
      rw [q] at hd
      cases hd
      obtain ⟨h1, h2⟩ := List.getElem?_eq_some_iff.mp q
      simp at h2
      subst h2
      exact ⟨HF1, .no, .int _⟩
  stop := fun i H1 HF1 s1 s2 hi => by show n ≤ i; simpa using hi
def mRg1 (fa : DEn) : DDn := fun ρ S => (fa ρ S).bind fun x S1 => match x with
  | .int n => if n ≤ 1000000000 ∧ -1000000000 ≤ n then .ok (rgD 0 n) S1 else .bad
  | _ => .bad
theorem i_range1 {p : Pos} (hm : X.mg "range" = none) (ha : DE X W a fa) (hg : Gl X "range" := by rfl) (hs : starEach [a] X.env = [(false, eval a X.env)] := by rfl) : DI X W tg (.Call (.Name "range" p) [a] [] pos) (mRg1 fa) :=
  PI.imp (pi_range1 hg hm (pa_cons ha pa_nil hs) hs) fun σ H R ⟨HF, L, ρ, S, RR, p⟩ => ⟨HF, L, ρ, S, RR, Post.bind p fun x S1 v H1 HF1 L1 e1 st1 R1 r1 p1 => by
    split at p1
    · rename_i n
      split at p1
      · rename_i hz
        cases r1
        refine ⟨n, rfl, by omega, by omega, p1.done R1 .no ?_⟩
        have := itd_range (G := gd X W) (HF := HF1) 0 n.toNat
        unfold rgD
        rw [show n - 0 = n by omega]
        exact this
      · exact p1.elim
    · exact p1.elim⟩
def mRg2 (fa fb : DEn) : DDn := fun ρ S => (fa ρ S).bind fun x S1 => (fb ρ S1).bind fun y S2 => match x, y with
  | .int m, .int n => if (m ≤ 1000000000 ∧ -1000000000 ≤ m) ∧ (n ≤ 1000000000 ∧ -1000000000 ≤ n) then .ok (rgD m n) S2 else .bad
  | _, _ => .bad
theorem i_range2 {p : Pos} (hm : X.mg "range" = none) (ha : DE X W a fa) (hb : DE X W b fb) (hg : Gl X "range" := by rfl) (hs : starEach [a, b] X.env = [(false, eval a X.env), (false, eval b X.env)] := by rfl) (hs2 : starEach [b] X.env = [(false, eval b X.env)] := by rfl) :
    DI X W tg (.Call (.Name "range" p) [a, b] [] pos) (mRg2 fa fb) :=
  PI.imp (pi_range2 hg hm (pa_cons ha (pa_cons hb pa_nil hs2) (hs.trans (by rw [hs2]))) hs hs2) fun σ H R ⟨HF, L, ρ, S, RR, p⟩ => ⟨HF, L, ρ, S, RR, Post.bind p fun x S1 v H1 HF1 L1 e1 st1 R1 r1 p1 => ⟨HF1, L1, ρ, S1, R1, Post.bind p1 fun y S2 w H2 HF2 L2 e2 st2 R2 r2 p2 => by
    split at p2
    · rename_i m n
      split at p2
      · rename_i hz
        cases r1; cases r2
        exact ⟨m, n, rfl, ⟨by omega, by omega, by omega, by omega⟩, p2.done R2 .no (itd_range m (n - m).toNat)⟩
      · exact p2.elim
    · exact p2.elim⟩⟩
/-- enumerate -/
def enumD (k : Nat) : List D → List D
  | [] => []
  | d :: ds => .tup [.int k, d] :: enumD (k + 1) ds
theorem enumD_get : ∀ (ds : List D) (k i : Nat), (enumD k ds)[i]? = (ds[i]?).map fun d => D.tup [.int ((k + i : Nat) : Int), d]
  | [], _, _ => by simp [enumD]
  | d :: ds, k, 0 => by simp [enumD]
  | d :: ds, k, i + 1 => by
    have := enumD_get ds (k + 1) i
    simp only [enumD, List.getElem?_cons_succ]
    rw [this, show k + 1 + i = k + (i + 1) by omega]
theorem enumD_length : ∀ (ds : List D) (k : Nat), (enumD k ds).length = ds.length
  | [], _ => rfl
  | d :: ds, k => by simp [enumD, enumD_length ds]
theorem itd_enumL {G : Gd} {HF : Hp} {a : Addr} {xs : List V} {ds : List D} (h : SqL G.K HF a xs) (r : Reps G HF xs ds) : ItD G (Ite G.K a) HF (enumD 0 ds) where
  go := fun i H1 HF1 s1 s2 hi => ⟨xs, xs[i]'(by rw [r.length]; rw [enumD_length] at hi; exact hi), (s1.trans s2).seq h, by simp⟩
  yld := fun i x H1 HF1 H2 d s1 s2 hd ⟨T, y, e1, e2, e3, e4⟩ => by
    subst e1; subst e3
    rw [enumD_get] at hd
    cases q : ds[i]? with
    | none => rw [q] at hd; cases hd
    | some d' =>
      rw [q] at hd
      cases hd
      obtain ⟨v, g1, g2⟩ := r.get q
      have e5 := e4 xs ((s1.trans s2).seq h)
      rw [g1] at e5; cases e5
      refine ⟨_, .new e2, .tup (SqE.of upd_same) (.cons ?_ (.cons (Rep.mono (s1.trans (same_upd (free_of s2 e2))) g2) .nil))⟩
      rw [Nat.zero_add]
      exact .int _
  stop := fun i H1 HF1 s1 s2 hi => ⟨xs, (s1.trans s2).seq h, by rw [r.length]; rw [enumD_length] at hi; exact hi⟩
theorem itd_enumT {G : Gd} {HF : Hp} {a : Addr} {xs : List V} {ds : List D} (h : SqE G.K HF a xs) (r : Reps G HF xs ds) : ItD G (IteT G.K a) HF (enumD 0 ds) where
  go := fun i H1 HF1 s1 s2 hi => ⟨xs, xs[i]'(by rw [r.length]; rw [enumD_length] at hi; exact hi), SqT.mono (s1.trans s2) h, by simp⟩
  yld := fun i x H1 HF1 H2 d s1 s2 hd ⟨T, y, e1, e2, e3, e4⟩ => by
    subst e1; subst e3
    rw [enumD_get] at hd
    cases q : ds[i]? with
    | none => rw [q] at hd; cases hd
    | some d' =>
      rw [q] at hd
      cases hd
      obtain ⟨v, g1, g2⟩ := r.get q
      have e5 := e4 xs (SqT.mono (s1.trans s2) h)
      rw [g1] at e5; cases e5
      refine ⟨_, .new e2, .tup (SqE.of upd_same) (.cons ?_ (.cons (Rep.mono (s1.trans (same_upd (free_of s2 e2))) g2) .nil))⟩
      rw [Nat.zero_add]
      exact .int _
  stop := fun i H1 HF1 s1 s2 hi => ⟨xs, SqT.mono (s1.trans s2) h, by rw [r.length]; rw [enumD_length] at hi; exact hi⟩
def mEnum (fa : DEn) : DDn := fun ρ S => (fa ρ S).bind fun x S1 => (lift x.items S1).bind fun ds S2 => .ok (enumD 0 ds) S2
theorem i_enum {p tpos : Pos} {elts : List Expr} {kk : Nat} (hm : X.mg "enumerate" = none) (ha : DE X W a fa) (hg : Gl X "enumerate" := by rfl) (hs : starEach [a] X.env = [(false, eval a X.env)] := by rfl) : DI X W (.Tuple elts kk tpos) (.Call (.Name "enumerate" p) [a] [] pos) (mEnum fa) :=
  PI.imp (pi_enumT hg hm (pa_cons ha pa_nil hs) hs) fun σ H R ⟨HF, L, ρ, S, RR, p⟩ => ⟨HF, L, ρ, S, RR, Post.bind p fun x S1 v H1 HF1 L1 e1 st1 R1 r1 p1 => by
    obtain ⟨ds, ed, p2⟩ := Post.liftB p1
    cases x with
    | tup ds' => cases ed; cases r1 with
      | tup h1 h2 => exact ⟨_, _, rfl, .inr ⟨SqT.mono R1.sub h1, p2.done R1 .no (itd_enumT h1 h2)⟩⟩
    | lst ds' => cases ed; cases r1 with
      | lst h1 h2 => exact ⟨_, _, rfl, .inl ⟨SqL.of (R1.sub _ _ h1), p2.done R1 .no (itd_enumL (SqL.of h1) h2)⟩⟩
    | rol ds' => cases ed; cases r1 with
      | rol h1 h2 => exact ⟨_, _, rfl, .inl ⟨R1.sub.seq h1, p2.done R1 .no (itd_enumL h1 h2)⟩⟩
    | _ => cases ed⟩
/-- zip of two tuples, of two lists -/
def zipD : List D → List D → List D
  | a :: r, b :: s => .tup [a, b] :: zipD r s
  | _, _ => []
theorem zipD_get : ∀ (xs ys : List D) (i : Nat) {d : D}, (zipD xs ys)[i]? = some d → ∃ a b, xs[i]? = some a ∧ ys[i]? = some b ∧ d = .tup [a, b]
  | [], _, _, _, h => by simp [zipD] at h
  | _ :: _, [], _, _, h => by simp [zipD] at h
  | a :: r, b :: s, 0, _, h => by simp [zipD] at h; exact ⟨a, b, rfl, rfl, h.symm⟩
  | a :: r, b :: s, i + 1, _, h => by
    obtain ⟨x, y, h1, h2, h3⟩ := zipD_get r s i (by simpa [zipD] using h)
    exact ⟨x, y, by simpa using h1, by simpa using h2, h3⟩
theorem zipD_length : ∀ (xs ys : List D), (zipD xs ys).length = min xs.length ys.length
  | [], _ => by simp [zipD]
  | _ :: _, [] => by simp [zipD]
  | a :: r, b :: s => by simp [zipD, zipD_length r s]
theorem itd_zipT {G : Gd} {HF : Hp} {a b : Addr} {xs ys : List V} {ds es : List D} (h : SqE G.K HF a xs) (k : SqE G.K HF b ys) (r : Reps G HF xs ds) (r' : Reps G HF ys es) : ItD G (RZ.ItzT G.K a b) HF (zipD ds es) where
  go := fun i H1 HF1 s1 s2 hi => by
    rw [zipD_length, ← r.length, ← r'.length] at hi
    exact ⟨xs, ys, xs[i]'(by omega), ys[i]'(by omega), SqT.mono (s1.trans s2) h, SqT.mono (s1.trans s2) k, by simp, by simp⟩
  yld := fun i x H1 HF1 H2 d s1 s2 hd ⟨T, u, v, e1, e2, e3, e4, e5⟩ => by
    subst e1; subst e3
    obtain ⟨p, q, q1, q2, q3⟩ := zipD_get _ _ _ hd
    subst q3
    obtain ⟨w1, g1, g2⟩ := r.get q1
    obtain ⟨w2, k1, k2⟩ := r'.get q2
    have z1 := e4 xs (SqT.mono (s1.trans s2) h)
    have z2 := e5 ys (SqT.mono (s1.trans s2) k)
    rw [g1] at z1; cases z1
    rw [k1] at z2; cases z2
    have m := s1.trans (same_upd (p := T) (o := .tup [u, v]) (free_of s2 e2))
    exact ⟨_, .new e2, .tup (SqE.of upd_same) (.cons (Rep.mono m g2) (.cons (Rep.mono m k2) .nil))⟩
  stop := fun i H1 HF1 s1 s2 hi => by
    rw [zipD_length, ← r.length, ← r'.length] at hi
    exact ⟨xs, ys, SqT.mono (s1.trans s2) h, SqT.mono (s1.trans s2) k, by omega⟩
theorem itd_zipL {G : Gd} {HF : Hp} {a b : Addr} {xs ys : List V} {ds es : List D} (h : SqL G.K HF a xs) (k : SqL G.K HF b ys) (r : Reps G HF xs ds) (r' : Reps G HF ys es) : ItD G (Itz G.K a b) HF (zipD ds es) where
  go := fun i H1 HF1 s1 s2 hi => by
    rw [zipD_length, ← r.length, ← r'.length] at hi
    exact ⟨xs, ys, xs[i]'(by omega), ys[i]'(by omega), (s1.trans s2).seq h, (s1.trans s2).seq k, by simp, by simp⟩
  yld := fun i x H1 HF1 H2 d s1 s2 hd ⟨T, u, v, e1, e2, e3, e4, e5⟩ => by
    subst e1; subst e3
    obtain ⟨p, q, q1, q2, q3⟩ := zipD_get _ _ _ hd
    subst q3
    obtain ⟨w1, g1, g2⟩ := r.get q1
    obtain ⟨w2, k1, k2⟩ := r'.get q2
    have z1 := e4 xs ((s1.trans s2).seq h)
    have z2 := e5 ys ((s1.trans s2).seq k)
    rw [g1] at z1; cases z1
    rw [k1] at z2; cases z2
    have m := s1.trans (same_upd (p := T) (o := .tup [u, v]) (free_of s2 e2))
    exact ⟨_, .new e2, .tup (SqE.of upd_same) (.cons (Rep.mono m g2) (.cons (Rep.mono m k2) .nil))⟩
  stop := fun i H1 HF1 s1 s2 hi => by
    rw [zipD_length, ← r.length, ← r'.length] at hi
    exact ⟨xs, ys, (s1.trans s2).seq h, (s1.trans s2).seq k, by omega⟩
def gZip : D → D → Option (List D)
  | .tup a, .tup b => some (zipD a b)
  | .lst a, .lst b => some (zipD a b)
  | _, _ => none
def mZip (fa fb : DEn) : DDn := fun ρ S => (fa ρ S).bind fun x S1 => (fb ρ S1).bind fun y S2 => lift (gZip x y) S2
theorem i_zip {p tpos : Pos} {elts : List Expr} {kk : Nat} (hm : X.mg "zip" = none) (ha : DE X W a fa) (hb : DE X W b fb) (hg : Gl X "zip" := by rfl) (hs : starEach [a, b] X.env = (false, eval a X.env) :: starEach [b] X.env := by rfl) (hs2 : starEach [b] X.env = (false, eval b X.env) :: starEach [] X.env := by rfl)
    (hpl : (backTo pos (starEach [b] X.env)).any (·.1) = false := by rfl) : DI X W (.Tuple elts kk tpos) (.Call (.Name "zip" p) [a, b] [] pos) (mZip fa fb) :=
  PI.imp (RZ.pi_zipA hg hm (pa_cons ha (pa_cons hb pa_nil hs2) hs) hs hpl) fun σ H R ⟨HF, L, ρ, S, RR, p⟩ => ⟨HF, L, ρ, S, RR, Post.bind p fun x S1 v H1 HF1 L1 e1 st1 R1 r1 p1 => ⟨HF1, L1, ρ, S1, R1, Post.bind p1 fun y S2 w H2 HF2 L2 e2 st2 R2 r2 p2 => by
    obtain ⟨ds, ed, p3⟩ := p2.lift
    have r1' := Rep.mono st2.fro r1
    unfold gZip at ed
    split at ed
    · cases ed
      cases r1' with
      | tup h1 h2 => cases r2 with
        | tup h3 h4 => exact ⟨_, _, _, _, rfl, .inr ⟨SqT.mono R2.sub h1, SqT.mono R2.sub h3, p3.done R2 .no (itd_zipT h1 h3 h2 h4)⟩⟩
    · cases ed
      cases r1' with
      | lst h1 h2 => cases r2 with
        | lst h3 h4 => exact ⟨_, _, _, _, rfl, .inl ⟨SqL.of (R2.sub _ _ h1), SqL.of (R2.sub _ _ h3), p3.done R2 .no (itd_zipL (SqL.of h1) (SqL.of h3) h2 h4)⟩⟩
    · cases ed⟩⟩
end
end DL

namespace DL
open PySem PySem.Spec PyProof.Rows L2
/-! ### slots -/
def wipeE (ρ : DL.Env) : List Nat → DL.Env
  | [] => ρ
  | v :: vs => (wipeE ρ vs).set v none
theorem wipeE_length (ρ : DL.Env) : ∀ vs : List Nat, (wipeE ρ vs).length = ρ.length
  | [] => rfl
  | v :: vs => by unfold wipeE; rw [List.length_set, wipeE_length ρ vs]
section
variable {G : Gd} {H HF H' HF' : Hp} {L L' : List Addr} {σ σ' : L2.St} {ρ ρ' : DL.Env} {S S' : Store}
theorem wipe_get : ∀ (vs : List Nat) {i : Nat} {e : EV} {v : V}, (wipeE ρ vs)[i]? = some (some e) → σ[i]? = some (some v) → (wipe σ vs)[i]? = some (some v) ∧ ρ[i]? = some (some e)
  | [], _, _, _, h1, h2 => ⟨h2, h1⟩
  | w :: vs, i, e, v, h1, h2 => by
    unfold wipeE at h1
    by_cases hi : w = i
    · subst hi
      by_cases hl : w < (wipeE ρ vs).length
      · rw [List.getElem?_set_self hl] at h1; cases h1
      · rw [List.getElem?_eq_none (by simpa using hl)] at h1; cases h1
    · rw [List.getElem?_set_ne hi] at h1
      obtain ⟨g1, g2⟩ := wipe_get vs h1 h2
      unfold wipe
      rw [List.getElem?_set_ne hi]
      exact ⟨g1, g2⟩
theorem wipeE_some : ∀ (vs : List Nat) {i : Nat} {e : EV}, (wipeE ρ vs)[i]? = some (some e) → ρ[i]? = some (some e)
  | [], _, _, h1 => h1
  | w :: vs, i, e, h1 => by
    unfold wipeE at h1
    by_cases hi : w = i
    · subst hi
      by_cases hl : w < (wipeE ρ vs).length
      · rw [List.getElem?_set_self hl] at h1; cases h1
      · rw [List.getElem?_eq_none (by simpa using hl)] at h1; cases h1
    · rw [List.getElem?_set_ne hi] at h1
      exact wipeE_some vs h1
theorem Rel.wipe (R : Rel G H HF L σ ρ S) (vs : List Nat) : Rel G H HF L (L2.wipe σ vs) (wipeE ρ vs) S :=
  ⟨R.sub, R.nd, R.sl, R.liv, R.tab, R.nft, R.cell, by rw [wipe_length, wipeE_length]; exact R.el, fun i e h => by
    obtain ⟨v, h1, h2⟩ := R.env i e (wipeE_some vs h)
    exact ⟨v, (wipe_get vs h h1).1, h2⟩⟩
/-- the slots of before, the heap of now -/
theorem Rel.reenv (R : Rel G H HF L σ ρ S) (st : Step H HF L H' HF' L') (R' : Rel G H' HF' L' σ' ρ' S') : Rel G H' HF' L' σ ρ S' :=
  ⟨R'.sub, R'.nd, R'.sl, R'.liv, R'.tab, R'.nft, R'.cell, R.el, fun i e h => by
    obtain ⟨v, h1, h2⟩ := R.env i e h
    exact ⟨v, h1, RepE.mono st h2⟩⟩
theorem wipe_set (σ : L2.St) (vs : List Nat) {i : Nat} (v : V) (hi : i ∈ vs) : L2.wipe (σ.set i (some v)) vs = L2.wipe σ vs := by
  induction vs with
  | nil => cases hi
  | cons w vs ih =>
    unfold L2.wipe
    by_cases hw : i ∈ vs
    · rw [ih hw]
    · have e : i = w := by
        rcases List.mem_cons.mp hi with z | z
        · exact z
        · exact absurd z hw
      subst e
      have out : ∀ (us : List Nat), i ∉ us → L2.wipe (σ.set i (some v)) us = (L2.wipe σ us).set i (some v) := by
        intro us hu
        induction us with
        | nil => rfl
        | cons u us ihu =>
          unfold L2.wipe
          rw [ihu (fun z => hu (List.mem_cons_of_mem _ z)), List.set_comm _ _ (fun z => hu (by rw [z]; exact List.mem_cons_self))]
      rw [out vs hw, List.set_set]
theorem wipe_wipe (σ : L2.St) (vs : List Nat) : L2.wipe (L2.wipe σ vs) vs = L2.wipe σ vs := by
  have set_wipe : ∀ (us : List Nat) (τ : L2.St) (i : Nat), L2.wipe (τ.set i none) us = (L2.wipe τ us).set i none := by
    intro us
    induction us with
    | nil => intro τ i; rfl
    | cons u us ih =>
      intro τ i
      unfold L2.wipe
      rw [ih]
      by_cases h : i = u
      · subst h; rfl
      · rw [List.set_comm _ _ h]
  induction vs with
  | nil => rfl
  | cons v vs ih =>
    show ((L2.wipe ((L2.wipe σ vs).set v none) vs).set v none) = (L2.wipe σ vs).set v none
    rw [set_wipe, ih, List.set_set]
theorem wipe_sets (vs : List Nat) : ∀ (ws : List (Nat × V)) (σ : L2.St), (∀ p ∈ ws, p.1 ∈ vs) → L2.wipe (sets σ ws) vs = L2.wipe σ vs
  | [], _, _ => rfl
  | w :: ws, σ, h => by
    show L2.wipe (sets (σ.set w.1 (some w.2)) ws) vs = _
    rw [wipe_sets vs ws _ fun p hp => h p (List.mem_cons_of_mem _ hp), wipe_set σ vs w.2 (h w List.mem_cons_self)]
/-- an object that is neither a cell nor said to stay: written -/
theorem Rel.aside (R : Rel G H HF L σ ρ S) {q : Addr} {o : HO} (hL : q ∉ L) (hF : HF q = none) (ht : ∀ ps, H q ≠ some (.tbl ps)) : Rel G (upd H q o) HF L σ ρ S := by
  have e : ∀ {n : Nat} {a : Addr}, L[n]? = some a → a ≠ q := fun h z => hL (by rw [← z]; exact List.mem_of_getElem? h)
  refine ⟨fun b u k => ?_, R.nd, R.sl, fun a ha => ?_, R.tab.up (fun b ps z => by rw [upd_ne (fun y => ht ps (by rw [← y]; exact z))]; exact z) (Same.refl _), R.nft, fun n a c h1 h2 => ?_, R.el, R.env⟩
  · rw [upd_ne (ne_of_none k hF)]; exact R.sub b u k
  · rw [upd_ne (fun z => hL (by rw [← z]; exact ha))]; exact R.liv a ha
  · obtain ⟨q1, q2⟩ := R.cell n a c h1 h2
    exact ⟨q1, q2.up (upd_ne (e h1)) (Same.refl _)⟩
/-- .. from now on it stays -/
theorem Rel.adopt (R : Rel G H HF L σ ρ S) {q : Addr} {o : HO} (hL : q ∉ L) (hF : HF q = none) (hH : H q = some o) (ho : Nt o := by intro _ h; cases h) : Rel G H (upd HF q o) L σ ρ S := by
  have e : ∀ {n : Nat} {a : Addr}, L[n]? = some a → a ≠ q := fun h z => hL (by rw [← z]; exact List.mem_of_getElem? h)
  refine ⟨fun b u k => ?_, R.nd, R.sl, R.liv, R.tab.up (fun _ _ z => z) (same_upd hF), nft_upd R.nft ho, fun n a c h1 h2 => ?_, R.el, fun i x h => ?_⟩
  · by_cases hb : b = q
    · subst hb; rw [upd_same] at k; cases k; exact hH
    · rw [upd_ne hb] at k; exact R.sub b u k
  · obtain ⟨q1, q2⟩ := R.cell n a c h1 h2
    exact ⟨by rw [upd_ne (e h1)]; exact q1, q2.up rfl (same_upd hF)⟩
  · obtain ⟨v, q1, q2⟩ := R.env i x h
    refine ⟨v, q1, ?_⟩
    cases x with
    | v d => exact Rep.mono (same_upd hF) q2
    | cel n => exact q2
    | exn x =>
      obtain ⟨b, cls, dd, k1, k2, k3⟩ := q2
      exact ⟨b, cls, dd, k1, k2, k3.mono (same_upd hF)⟩
    | lam ws ds => exact RepLam.mono (same_upd hF) q2
end

/-! ### comprehensions of one clause -/
/-- as bind, but nothing may be raised -/
def Out.bd {α β : Type} (o : Out α) (k : α → Store → Out β) : Out β := match o with
  | .ok a S => k a S
  | _ => .bad
def lcL (t : Tg) (tt : DTn) (fe : DEn) (ρ : DL.Env) : List D → Store → List D → Out (List D)
  | [], S, acc => .ok acc S
  | d :: ds, S, acc => match asg t d ρ with
    | none => .bad
    | some ρ1 => (tt ρ1 S).bd fun b S1 => if b = true then (fe ρ1 S1).bd fun y S2 => if acc.length < lim then lcL t tt fe ρ ds S2 (acc ++ [y]) else .bad else lcL t tt fe ρ ds S1 acc
def mLc (fi : DDn) (t : Tg) (tt : DTn) (fe : DEn) (vs : List Nat) : DEn := fun ρ S => (fi ρ S).bind fun ds S1 => (lcL t tt fe (wipeE ρ vs) ds S1 []).bind fun ys S2 => .ok (.lst ys) S2
section
variable {X : Cx} {W : WD} {pos : Pos} {a b c : Expr} {fa fb fc : DEn} {es : List Expr} {tg : Expr}
/-- the ends of a comprehension: what its list at D leads to -/
theorem lc_read {fi : DDn} {t : Tg} {tt : DTn} {fe : DEn} {vs : List Nat} (hsl : ∀ i ∈ t.slots, i ∈ vs) {σ : L2.St} {H : Hp} {Q : VK} (h : tD (gd X W) W (mLc fi t tt fe vs) σ H Q) :
    tLc (tI (gd X W) W fi) (tgG X.K t) (tT (gd X W) W.z tt) (tD (gd X W) W.z fe) vs σ H Q := by
  obtain ⟨HF, L, ρ, S, R, p⟩ := h
  refine ⟨HF, L, ρ, S, R, Post.bind p fun ds S1 J H1 HF1 L1 e1 st1 R1 rJ p1 => fun Dl hD => ?_⟩
  have hDL := R1.out hD
  have hDF := R1.hf hD
  -- the invariant
  refine ⟨fun i m Hh => m = ds.length - i ∧ i ≤ ds.length ∧ ∃ HFh Lh Sh acc vacc, Rel (gd X W) Hh HFh Lh σ ρ Sh ∧ Step H1 HF1 L1 Hh HFh Lh ∧ Hh Dl = some (.lst vacc) ∧ HFh Dl = none ∧ Dl ∉ Lh ∧ Reps (gd X W) HFh vacc acc ∧
    Post (gd X W) W σ ρ H1 HF1 L1 (fun HF' _ v d => Rep (gd X W) HF' v d) Q ((lcL t tt fe (wipeE ρ vs) (ds.drop i) Sh acc).bind fun ys S2 => .ok (.lst ys) S2), ⟨ds.length, by simp, Nat.zero_le _, HF1, L1, S1, [], [], R1.aside hDL hDF (by rw [hD]; simp), Step.put Step.refl hD, upd_same, hDF, hDL, .nil, by simpa using p1⟩, ?_⟩
  rintro i m Hh ⟨rfl, hi, HFh, Lh, Sh, acc, vacc, Rh, sth, hv, hFv, hLv, ra, ph⟩
  have s01 : Same HF1 HFh := sth.fro
  by_cases hlt : i < ds.length
  · refine .inr ⟨rJ.go i Hh HFh s01 Rh.sub hlt, fun H' => (ds.length - (i + 1)) = ds.length - (i + 1) ∧ i + 1 ≤ ds.length ∧ ∃ HFh Lh Sh acc vacc, Rel (gd X W) H' HFh Lh σ ρ Sh ∧ Step H1 HF1 L1 H' HFh Lh ∧ H' Dl = some (.lst vacc) ∧ HFh Dl = none ∧ Dl ∉ Lh ∧ Reps (gd X W) HFh vacc acc ∧
      Post (gd X W) W σ ρ H1 HF1 L1 (fun HF' _ v d => Rep (gd X W) HF' v d) Q ((lcL t tt fe (wipeE ρ vs) (ds.drop (i + 1)) Sh acc).bind fun ys S2 => .ok (.lst ys) S2), fun H' hw => ⟨_, by omega, hw⟩, fun x H2 hy => ?_⟩
    have ed : ds.drop i = ds[i] :: ds.drop (i + 1) := List.drop_eq_getElem_cons hlt
    rw [ed] at ph
    obtain ⟨HF2, al, rx⟩ := rJ.yld i x Hh HFh H2 ds[i] s01 Rh.sub (List.getElem?_eq_getElem hlt) hy
    obtain ⟨R2, st2⟩ := Rh.al al
    have nl : ∀ xs, Nt (.lst xs) := fun _ _ h => by cases h
    have hv2 := st2.keep Dl _ hLv (nl _) hv
    have hF2 := st2.new Dl _ hLv hFv (by trivial) hv
    have Rw := R2.wipe vs
    have ph : Post (gd X W) W σ ρ H1 HF1 L1 (fun HF' _ v d => Rep (gd X W) HF' v d) Q (Out.bind (match asg t ds[i] (wipeE ρ vs) with
      | none => .bad
      | some ρ1 => (tt ρ1 Sh).bd fun b S1 => if b = true then (fe ρ1 S1).bd fun y S2 => if acc.length < lim then lcL t tt fe (wipeE ρ vs) (ds.drop (i + 1)) S2 (acc ++ [y]) else .bad else lcL t tt fe (wipeE ρ vs) (ds.drop (i + 1)) S1 acc) fun ys S2 => .ok (.lst ys) S2) := ph
    cases ea : asg t ds[i] (wipeE ρ vs) with
    | none => rw [ea] at ph; exact ph.elim
    | some ρ1 =>
      rw [ea] at ph
      dsimp only at ph
      refine tgG_ok (G := gd X W) t Rw rx ea fun ws hws R3 => ⟨?_, ?_⟩
      · rw [wipe_sets vs ws _ fun p hp => hsl _ (hws p hp), wipe_wipe]
      -- the test
      refine ⟨HF2, Lh, ρ1, Sh, R3, ?_⟩
      cases et : tt ρ1 Sh with
      | bad => rw [et] at ph; exact ph.elim
      | ex x S' => rw [et] at ph; exact ph.elim
      | ok bb S3 =>
        rw [et] at ph
        intro b' H3 HF3 L3 st3 R4 eb
        cases eb
        have hv3 := st3.keep Dl _ hLv (nl _) hv2
        have hF3 := st3.new Dl _ hLv hF2 (by trivial) hv2
        have hL3 : Dl ∉ L3 := st3.keepL hLv hv2
        cases bb with
        | false =>
          rw [if_neg Bool.false_ne_true]
          exact ⟨rfl, hlt, HF3, L3, S3, acc, vacc, R2.reenv st3 R4, sth.trans (st2.trans st3), hv3, hF3, hL3, ra.mono (st2.fro.trans st3.fro), ph⟩
        | true =>
          rw [if_pos rfl]
          refine ⟨HF3, L3, ρ1, S3, R4, ?_⟩
          have ph : Post (gd X W) W σ ρ H1 HF1 L1 (fun HF' _ v d => Rep (gd X W) HF' v d) Q (Out.bind ((fe ρ1 S3).bd fun y S2 => if acc.length < lim then lcL t tt fe (wipeE ρ vs) (ds.drop (i + 1)) S2 (acc ++ [y]) else .bad) fun ys S2 => .ok (.lst ys) S2) := ph
          cases ef : fe ρ1 S3 with
          | bad => rw [ef] at ph; exact ph.elim
          | ex x S' => rw [ef] at ph; exact ph.elim
          | ok y S4 =>
            rw [ef] at ph
            have ph : Post (gd X W) W σ ρ H1 HF1 L1 (fun HF' _ v d => Rep (gd X W) HF' v d) Q (Out.bind (if acc.length < lim then lcL t tt fe (wipeE ρ vs) (ds.drop (i + 1)) S4 (acc ++ [y]) else .bad) fun ys S2 => .ok (.lst ys) S2) := ph
            intro v H4 HF4 L4 st4 R5 ry
            split at ph
            · rename_i hz
              have hv4 := st4.keep Dl _ hL3 (nl _) hv3
              have hF4 := st4.new Dl _ hL3 hF3 (by trivial) hv3
              have hL4 : Dl ∉ L4 := st4.keepL hL3 hv3
              refine ⟨vacc, hv4, by rw [ra.length]; exact Nat.lt_of_lt_of_le hz lim_le, rfl, hlt, HF4, L4, S4, acc ++ [y], vacc ++ [v], ?_, ?_, upd_same, hF4, hL4, (ra.mono (st2.fro.trans (st3.fro.trans st4.fro))).append (.cons ry .nil), ph⟩
              · exact ((R2.reenv st3 R4).reenv st4 R5).aside hL4 hF4 (by rw [hv4]; simp)
              · exact Step.put (sth.trans (st2.trans (st3.trans st4))) hD
            · exact ph.elim
  · have e : i = ds.length := by omega
    subst e
    refine .inl ⟨rJ.stop _ Hh HFh s01 Rh.sub (Nat.le_refl _), ?_⟩
    rw [List.drop_length] at ph
    have ph : Post (gd X W) W σ ρ H1 HF1 L1 (fun HF' _ v d => Rep (gd X W) HF' v d) Q (.ok (.lst acc) Sh) := ph
    refine ph (.ref Dl) Hh (upd HFh Dl (.lst vacc)) Lh ?_ (Rh.adopt hLv hFv hv) (.lst upd_same (ra.mono (same_upd hFv)))
    refine ⟨sth.keep, sth.nn, sth.fro.trans (same_upd hFv), fun b o hb e nt n => ?_, sth.ext⟩
    rw [upd_ne (fun z => by rw [z, hD] at n; cases n)]
    exact sth.new b o hb e nt n
end
end DL

namespace DL
open PySem PySem.Spec PyProof.Rows L2
section
variable {X : Cx} {W : WD} {pos : Pos} {a b c : Expr} {fa fb fc : DEn} {es : List Expr} {tg : Expr}
abbrev DTs (X : Cx) (W : WD) (ifs : List Expr) (f : DTn) : Prop := PTs X ifs (tT (gd X W) W f)
def mYes : DTn := fun _ S => .ok true S
theorem t0 : DTs X W [] mYes := ⟨fun pins s σ H Q I ⟨HF, L, ρ, S, R, p⟩ => pts_nil.run pins s σ H Q I (p.done R .no rfl)⟩
theorem t1 {tt : DTn} (h : DT X W a tt) : DTs X W [a] tt := ⟨fun pins s σ H Q I q => (pts_one h).run pins s σ H Q I q⟩
/-- [elt for target in iter if ..] -/
theorem xlc {elt iter : Expr} {ifs : List Expr} {scope : Scope} {own : List (Str × Nat)} {fi : DDn} {t : Tg} {tt : DTn} {fe : DEn} (hc : X.calm = true) (hN : X.N.Nodup) (hi : DI X W tg iter fi) (ok : BlkOk X.N X.env.scope scope own)
    (hg : ∀ (s : Shared) (H : Hp) (C : Addr) (cl : List (Str × Addr)) (fp : List Addr), PG (X.blk s H scope (compEnvC scope cl C X.env) fp) tg (tgG (X.blk s H scope (compEnvC scope cl C X.env) fp).K t))
    (ht : ∀ (s : Shared) (H : Hp) (C : Addr) (cl : List (Str × Addr)) (fp : List Addr), DTs (X.blk s H scope (compEnvC scope cl C X.env) fp) W.z ifs tt)
    (he : ∀ (s : Shared) (H : Hp) (C : Addr) (cl : List (Str × Addr)) (fp : List Addr), DE (X.blk s H scope (compEnvC scope cl C X.env) fp) W.z elt fe)
    (hsl : ∀ i ∈ t.slots, i ∈ own.map (·.2) := by decide) (hs : ∀ x, foldedSetIterable iter X.env x = pure x := by intro _; rfl) : DE X W (.ListComp elt [⟨tg, iter, ifs, 0⟩] scope pos) (mLc fi t tt fe (own.map (·.2))) :=
  PE.imp (pe_lc hc hN hi ok hg ht he hs) fun σ H Q h => lc_read hsl h

/-! ### statements -/
abbrev DS (X : Cx) (W : WD) (st : Stmt) (f : DSn) : Prop := PS X st (tS (gd X W) W f)
abbrev DSs (X : Cx) (W : WD) (st : List Stmt) (f : DSn) : Prop := PSs X st (tS (gd X W) W f)
def bindS {α : Type} (o : Out α) (ρ : DL.Env) (k : α → Store → Out (Ctl × DL.Env)) : Out (Ctl × DL.Env) := match o with
  | .ok a S => k a S
  | .ex x S => .ok (.ex x, ρ) S
  | .bad => .bad
theorem PostS.step {G : Gd} {D : Ends} {H HF H1 HF1 : Hp} {L L1 : List Addr} (st : Step H HF L H1 HF1 L1) : ∀ {o : Out (Ctl × DL.Env)}, PostS G W H HF L D o → PostS G W H1 HF1 L1 D o
  | .ok _ _, h => fun σ' H' HF' L' s2 => h σ' H' HF' L' (st.trans s2)
  | .ex _ _, h => h
  | .bad, h => h
theorem PostS.bind {α β : Type} {G : Gd} {D : Ends} {σ : L2.St} {ρ : DL.Env} {H HF : Hp} {L : List Addr} {P : Hp → List Addr → β → α → Prop} {Q : β → Hp → Prop} {k : α → Store → Out (Ctl × DL.Env)} :
    ∀ {o : Out α}, PostS G W H HF L D (bindS o ρ k) → (∀ d S' v H' HF' L', o = .ok d S' → Step H HF L H' HF' L' → Rel G H' HF' L' σ ρ S' → P HF' L' v d → PostS G W H' HF' L' D (k d S') → Q v H') → Post G W σ ρ H HF L P Q o
  | .ok d S', h, f => fun v H' HF' L' st R r => f d S' v H' HF' L' rfl st R r (PostS.step st h)
  | .ex x S', h, _ => fun cls dd H' HF' L' st R e => h σ H' HF' L' st R cls dd e
  | .bad, h, _ => h
theorem PostS.done {G : Gd} {D : Ends} {σ : L2.St} {ρ : DL.Env} {H HF : Hp} {L : List Addr} {c : Ctl} {S : Store} (h : PostS G W H HF L D (.ok (c, ρ) S)) (R : Rel G H HF L σ ρ S) : EndsD G W D HF σ H c := h σ H HF L .refl R
def mSkip : DSn := fun ρ S => .ok (.nx, ρ) S
def mSeq (f g : DSn) : DSn := fun ρ S => match f ρ S with
  | .ok (.nx, ρ1) S1 => g ρ1 S1
  | o => o
theorem s0 : DSs X W [] mSkip := PSs.imp pss_nil fun D σ H ⟨HF, L, ρ, S, R, p⟩ => p.done R
theorem PostS.seq {G : Gd} {D : Ends} {H HF : Hp} {L : List Addr} {f g : DSn} {ρ : DL.Env} {S : Store} (h : PostS G W H HF L D (mSeq f g ρ S)) : PostS G W H HF L { D with nx := tS G W g D } (f ρ S) := by
  unfold mSeq at h
  cases q : f ρ S with
  | bad => rw [q] at h; exact h
  | ex x S1 => rw [q] at h; exact h
  | ok cr S1 =>
    obtain ⟨c, ρ1⟩ := cr
    rw [q] at h
    cases c with
    | nx => exact fun σ' H' HF' L' st R => ⟨HF', L', ρ1, S1, R, PostS.step st h⟩
    | rt d => exact h
    | bk => exact h
    | ct => exact h
    | ex x => exact h
theorem s1 {st : Stmt} {rest : List Stmt} {f g : DSn} (h1 : DS X W st f) (h2 : DSs X W rest g) : DSs X W (st :: rest) (mSeq f g) :=
  PSs.imp (pss_cons h1 h2) fun D σ H ⟨HF, L, ρ, S, R, p⟩ => ⟨HF, L, ρ, S, R, PostS.seq p⟩
theorem sl {st : Stmt} {f : DSn} (h1 : DS X W st f) : DSs X W [st] f := pss_one h1
def mNever : DSn := fun _ _ => .bad
theorem snever {st : Stmt} : DS X W st mNever := PS.imp ps_never fun D σ H ⟨HF, L, ρ, S, R, p⟩ => p
theorem ssnever {st : List Stmt} : DSs X W st mNever := PSs.imp pss_never fun D σ H ⟨HF, L, ρ, S, R, p⟩ => p
theorem spass : DS X W (.Pass pos) mSkip := PS.imp ps_pass fun D σ H ⟨HF, L, ρ, S, R, p⟩ => p.done R
def mBreak : DSn := fun ρ S => .ok (.bk, ρ) S
def mCont : DSn := fun ρ S => .ok (.ct, ρ) S
theorem sbreak : DS X W (.Break pos) mBreak := PS.imp ps_break fun D σ H ⟨HF, L, ρ, S, R, p⟩ => p.done R
theorem scont : DS X W (.Continue pos) mCont := PS.imp ps_continue fun D σ H ⟨HF, L, ρ, S, R, p⟩ => p.done R
theorem sdoc {x j pos'} : DS X W (.Expr (.Constant (.str x) j pos) pos') mSkip := PS.imp ps_doc fun D σ H ⟨HF, L, ρ, S, R, p⟩ => p.done R
def mDrop (fa : DEn) : DSn := fun ρ S => bindS (fa ρ S) ρ fun _ S1 => .ok (.nx, ρ) S1
theorem sexpr (ha : DE X W a fa) (hs : swapsWith a none pos.line X.env = pure false := by rfl) : DS X W (.Expr a pos) (mDrop fa) :=
  PS.imp (ps_expr ha hs) fun D σ H ⟨HF, L, ρ, S, R, p⟩ => ⟨HF, L, ρ, S, R, PostS.bind p fun d S1 v H1 HF1 L1 e1 st1 R1 r1 p1 => p1.done R1⟩
def mRet (fa : DEn) : DSn := fun ρ S => bindS (fa ρ S) ρ fun d S1 => .ok (.rt d, ρ) S1
theorem sret (ha : DE X W a fa) : DS X W (.Return (some a) pos) (mRet fa) :=
  PS.imp (ps_ret ha) fun D σ H ⟨HF, L, ρ, S, R, p⟩ => ⟨HF, L, ρ, S, R, PostS.bind p fun d S1 v H1 HF1 L1 e1 st1 R1 r1 p1 => p1.done R1 v r1⟩
def mRetN : DSn := fun ρ S => .ok (.rt .non, ρ) S
theorem sretN : DS X W (.Return none pos) mRetN := PS.imp ps_retN fun D σ H ⟨HF, L, ρ, S, R, p⟩ => p.done R .non .non
def mIfS (t : DTn) (f g : DSn) : DSn := fun ρ S => bindS (t ρ S) ρ fun k S1 => if k = true then f ρ S1 else g ρ S1
theorem sif {tt : DTn} {u v : List Stmt} {f g : DSn} (ht : DT X W a tt) (hf : DSs X W u f) (hg : DSs X W v g) : DS X W (.If a u v pos) (mIfS tt f g) :=
  PS.imp (ps_if ht hf hg) fun D σ H ⟨HF, L, ρ, S, R, p⟩ => ⟨HF, L, ρ, S, R, PostS.bind p fun k S1 k' H1 HF1 L1 e1 st1 R1 r1 p1 => by
    cases r1
    cases k with
    | true => rw [if_pos rfl] at p1 ⊢; exact ⟨HF1, L1, ρ, S1, R1, p1⟩
    | false => rw [if_neg Bool.false_ne_true] at p1 ⊢; exact ⟨HF1, L1, ρ, S1, R1, p1⟩⟩
/-- x = e -/
def mSet (i : Nat) (fv : DVn) : DSn := fun ρ S => bindS (fv ρ S) ρ fun e S1 => .ok (.nx, ρ.set i (some e)) S1
theorem sset (i : Nat) {x : Str} {px : Pos} {fv : DVn} (hN : X.N.Nodup) (he : DV X W a fv) (hi : X.N[i]? = some x := by rfl) (hx : Loc X.env.scope x := by first | exact Or.inl rfl | exact Or.inr rfl) (hs : swapsWith a (some (.Name x px)) pos.line X.env = pure false := by rfl) (hf : X.fn x = true ∨ X.env.scope.names.lookup x = some .local := by first | exact .inl rfl | exact .inr rfl | assumption) :
    DS X W (.Assign [.Name x px] a pos) (mSet i fv) :=
  PS.imp (ps_set hN hi hx he hs hf) fun D σ H ⟨HF, L, ρ, S, R, p⟩ => ⟨HF, L, ρ, S, R, PostS.bind p fun d S1 v H1 HF1 L1 e1 st1 R1 r1 p1 => p1.done (R1.store r1 i)⟩
/-- x = [.. for ..] -/
def mSetLc (i : Nat) (f : DEn) : DSn := fun ρ S => bindS (f ρ S) ρ fun d S1 => .ok (.nx, ρ.set i (some (.v d))) S1
theorem ssetLc (i : Nat) {y : Str} {py : Pos} {elt iter : Expr} {ifs : List Expr} {scope : Scope} {own : List (Str × Nat)} {cpos : Pos} {fi : DDn} {t : Tg} {tt : DTn} {fe : DEn} (hc : X.calm = true) (hN : X.N.Nodup) (hi : DI X W tg iter fi) (ok : BlkOk X.N X.env.scope scope own)
    (hg : ∀ (s : Shared) (H : Hp) (C : Addr) (cl : List (Str × Addr)) (fp : List Addr), PG (X.blk s H scope (compEnvC scope cl C X.env) fp) tg (tgG (X.blk s H scope (compEnvC scope cl C X.env) fp).K t))
    (ht : ∀ (s : Shared) (H : Hp) (C : Addr) (cl : List (Str × Addr)) (fp : List Addr), DTs (X.blk s H scope (compEnvC scope cl C X.env) fp) W.z ifs tt)
    (he : ∀ (s : Shared) (H : Hp) (C : Addr) (cl : List (Str × Addr)) (fp : List Addr), DE (X.blk s H scope (compEnvC scope cl C X.env) fp) W.z elt fe)
    (hy : X.N[i]? = some y := by rfl) (hyl : X.env.scope.names.lookup y = some .local := by rfl) (hsw : swapsWith (.ListComp elt [⟨tg, iter, ifs, 0⟩] scope cpos) (some (.Name y py)) pos.line X.env = pure true := by exact sw_true rfl rfl rfl (by decide +kernel))
    (hsl : ∀ i ∈ t.slots, i ∈ own.map (·.2) := by decide) (hs : ∀ x, foldedSetIterable iter X.env x = pure x := by intro _; rfl) : DS X W (.Assign [.Name y py] (.ListComp elt [⟨tg, iter, ifs, 0⟩] scope cpos) pos) (mSetLc i (mLc fi t tt fe (own.map (·.2)))) :=
  PS.imp (ps_setLc (i := i) hc hN hy hyl hsw hi ok hg ht he hs) fun D σ H ⟨HF, L, ρ, S, R, p⟩ => lc_read hsl ⟨HF, L, ρ, S, R, PostS.bind p fun d S1 v H1 HF1 L1 e1 st1 R1 r1 p1 => p1.done (R1.store (e := .v d) r1 i)⟩
/-- x, y = a, b -/
def mPar2 (i j : Nat) (fs : DAn) : DSn := fun ρ S => bindS (fs ρ S) ρ fun es S1 => match es with
  | [u, v] => .ok (.nx, (ρ.set i (some u)).set j (some v)) S1
  | _ => .bad
theorem spar2 (i j : Nat) {x y : Str} {px py pt pt2 : Pos} {kt k2 : Nat} {fs : DAn} (hc : X.calm = true) (hN : X.N.Nodup) (ha : DAE X W [a, b] fs) (hij : i ≠ j := by decide) (hi : X.N[i]? = some x := by rfl) (hj : X.N[j]? = some y := by rfl) (hx : X.env.scope.names.lookup x = some .local := by rfl) (hy : X.env.scope.names.lookup y = some .local := by rfl)
    (hw : swappedStores [.Tuple [.Name x px, .Name y py] kt pt] (.Tuple [a, b] k2 pt2) X.env = pure (some [x, y]) := by rfl) (hs : swapsWithSole [.Tuple [.Name x px, .Name y py] kt pt] (.Tuple [a, b] k2 pt2) pos.line X.env = pure false := by rfl) :
    DS X W (.Assign [.Tuple [.Name x px, .Name y py] kt pt] (.Tuple [a, b] k2 pt2) pos) (mPar2 i j fs) :=
  PS.imp (ps_par hc hN hi hj hij hx hy ha hw hs) fun D σ H ⟨HF, L, ρ, S, R, p⟩ => ⟨HF, L, ρ, S, R, PostS.bind p fun es S1 vs H1 HF1 L1 e1 st1 R1 r1 p1 => by
    split at p1
    · cases r1 with
      | cons h1 h2 => cases h2 with
        | cons h3 h4 =>
          cases h4
          exact ⟨_, _, rfl, p1.done ((R1.store h1 i).store h3 j)⟩
    · exact p1.elim⟩
def mPar3 (i j l : Nat) (fs : DAn) : DSn := fun ρ S => bindS (fs ρ S) ρ fun es S1 => match es with
  | [u, v, w] => .ok (.nx, ((ρ.set i (some u)).set j (some v)).set l (some w)) S1
  | _ => .bad
theorem spar3 (i j l : Nat) {x y z : Str} {px py pz pt pt2 : Pos} {kt k2 : Nat} {fs : DAn} (hc : X.calm = true) (hN : X.N.Nodup) (ha : DAE X W [a, b, c] fs) (hij : i ≠ j := by decide) (hil : i ≠ l := by decide) (hjl : j ≠ l := by decide) (hi : X.N[i]? = some x := by rfl) (hj : X.N[j]? = some y := by rfl) (hl : X.N[l]? = some z := by rfl)
    (hx : X.env.scope.names.lookup x = some .local := by rfl) (hy : X.env.scope.names.lookup y = some .local := by rfl) (hz : X.env.scope.names.lookup z = some .local := by rfl)
    (hw : swappedStores [.Tuple [.Name x px, .Name y py, .Name z pz] kt pt] (.Tuple [a, b, c] k2 pt2) X.env = pure (some [x, y, z]) := by rfl) (hs : swapsWithSole [.Tuple [.Name x px, .Name y py, .Name z pz] kt pt] (.Tuple [a, b, c] k2 pt2) pos.line X.env = pure false := by rfl) :
    DS X W (.Assign [.Tuple [.Name x px, .Name y py, .Name z pz] kt pt] (.Tuple [a, b, c] k2 pt2) pos) (mPar3 i j l fs) :=
  PS.imp (ps_par3 hc hN hi hj hl hij hil hjl hx hy hz ha hw hs) fun D σ H ⟨HF, L, ρ, S, R, p⟩ => ⟨HF, L, ρ, S, R, PostS.bind p fun es S1 vs H1 HF1 L1 e1 st1 R1 r1 p1 => by
    split at p1
    · cases r1 with
      | cons h1 h2 => cases h2 with
        | cons h3 h4 => cases h4 with
          | cons h5 h6 =>
            cases h6
            exact ⟨_, _, _, rfl, p1.done (((R1.store h1 i).store h3 j).store h5 l)⟩
    · exact p1.elim⟩
/-- x += e and its like, of ints -/
def mAug (i : Nat) (g : Int → Int → Int) (fa : DEn) : DSn := fun ρ S => match ρ[i]? with
  | some (some (.v (.int m))) => bindS (fa ρ S) ρ fun d S1 => match d with
    | .int n => .ok (.nx, ρ.set i (some (.v (.int (g m n))))) S1
    | _ => .bad
  | _ => .bad
theorem saug (i : Nat) {x : Str} {px : Pos} {op : Operator} {g : Int → Int → Int} (hN : X.N.Nodup) (ho : PIp X op (ipI g)) (ha : DE X W a fa) (hi : X.N[i]? = some x := by rfl) (hx : Loc X.env.scope x := by first | exact Or.inl rfl | exact Or.inr rfl) (hf : X.fn x = true ∨ X.env.scope.names.lookup x = some .local := by first | exact .inl rfl | exact .inr rfl | assumption) :
    DS X W (.AugAssign (.Name x px) op a pos) (mAug i g fa) :=
  PS.imp (ps_aug hN hi hx ha ho hf) fun D σ H ⟨HF, L, ρ, S, R, p⟩ => by
    unfold mAug at p
    split at p
    · rename_i m hm
      obtain ⟨v, e1, e2⟩ := R.env i _ hm
      have e2 : Rep (gd X W) HF v (.int m) := e2
      cases e2
      refine ⟨_, e1, HF, L, ρ, S, R, PostS.bind p fun d S1 w H1 HF1 L1 e1 st1 R1 r1 p1 => ?_⟩
      split at p1
      · cases r1
        exact ⟨_, _, rfl, rfl, p1.done (R1.store (e := .v (.int _)) (.int _) i)⟩
      · exact p1.elim
    · exact p.elim
/-- targets of every kind: names, items of cells, tuples of these -/
abbrev DGn := D → DL.Env → Store → Out DL.Env
def PostG (G : Gd) (H HF : Hp) (L : List Addr) (Q : L2.St → Hp → Prop) : Out DL.Env → Prop
  | .ok ρ' S' => ∀ σ' H' HF' L', Step H HF L H' HF' L' → Rel G H' HF' L' σ' ρ' S' → Q σ' H'
  | _ => False
def tGt (G : Gd) (g : DGn) : TG := fun v σ H Q => ∃ HF L ρ S d, Rel G H HF L σ ρ S ∧ Rep G HF v d ∧ PostG G H HF L Q (g d ρ S)
def tGts (G : Gd) (g : List D → DL.Env → Store → Out DL.Env) : TGs := fun vs σ H Q => ∃ HF L ρ S ds, Rel G H HF L σ ρ S ∧ Reps G HF vs ds ∧ PostG G H HF L Q (g ds ρ S)
theorem PG.imp {t t' : TG} (h : PG X tg t) (k : ∀ v σ H Q, t' v σ H Q → t v σ H Q) : PG X tg t' := ⟨fun pins s σ H v u Q I r q => h.run pins s σ H v u Q I r (k v σ H Q q)⟩
theorem PGs.imp {t t' : TGs} (h : PGs X es t) (k : ∀ v σ H Q, t' v σ H Q → t v σ H Q) : PGs X es t' := ⟨fun pins s σ H v u Q I r q => h.run pins s σ H v u Q I r (k v σ H Q q)⟩
abbrev DG (X : Cx) (W : WD) (tg : Expr) (g : DGn) : Prop := PG X tg (tGt (gd X W) g)
abbrev DGs (X : Cx) (W : WD) (es : List Expr) (g : List D → DL.Env → Store → Out DL.Env) : Prop := PGs X es (tGts (gd X W) g)
def gNm (i : Nat) : DGn := fun d ρ S => .ok (ρ.set i (some (.v d))) S
theorem gname (i : Nat) {x : Str} (hN : X.N.Nodup) (hi : X.N[i]? = some x := by rfl) (hx : Loc X.env.scope x := by first | exact Or.inl rfl | exact Or.inr rfl) (hf : X.fn x = true ∨ X.env.scope.names.lookup x = some .local := by first | exact .inl rfl | exact .inr rfl | assumption) : DG X W (.Name x pos) (gNm i) :=
  PG.imp (pg_name hN hi hx hf) fun v σ H Q ⟨HF, L, ρ, S, d, R, r, p⟩ => p _ _ _ _ .refl (R.store (e := .v d) r i)
def gNil : List D → DL.Env → Store → Out DL.Env := fun ds ρ S => match ds with
  | [] => .ok ρ S
  | _ => .bad
def gCons (g : DGn) (gs : List D → DL.Env → Store → Out DL.Env) : List D → DL.Env → Store → Out DL.Env := fun ds ρ S => match ds with
  | d :: ds => (g d ρ S).bind fun ρ1 S1 => gs ds ρ1 S1
  | _ => .bad
theorem gs0 : DGs X W [] DL.gNil := PGs.imp pgs_nil fun vs σ H Q ⟨HF, L, ρ, S, ds, R, r, p⟩ => by
  cases ds with
  | nil => cases r; exact ⟨rfl, p _ _ _ _ .refl R⟩
  | cons _ _ => exact p.elim
theorem PostG.bind {G : Gd} {H HF : Hp} {L : List Addr} {Q Q1 : L2.St → Hp → Prop} {k : DL.Env → Store → Out DL.Env} : ∀ {o : Out DL.Env}, PostG G H HF L Q (o.bind k) →
    (∀ ρ1 S1 σ1 H1 HF1 L1, Step H HF L H1 HF1 L1 → Rel G H1 HF1 L1 σ1 ρ1 S1 → PostG G H1 HF1 L1 Q (k ρ1 S1) → Q1 σ1 H1) → PostG G H HF L Q1 o
  | .ok ρ1 S1, h, f => fun σ1 H1 HF1 L1 st R => f ρ1 S1 σ1 H1 HF1 L1 st R (by
    have h : PostG G H HF L Q (k ρ1 S1) := h
    cases q : k ρ1 S1 with
    | ok ρ2 S2 => rw [q] at h; exact fun σ' H' HF' L' s2 => h σ' H' HF' L' (st.trans s2)
    | ex x S2 => rw [q] at h; exact h
    | bad => rw [q] at h; exact h)
  | .ex _ _, h, _ => h
  | .bad, h, _ => h
theorem gs1 {g : DGn} {gs : List D → DL.Env → Store → Out DL.Env} (h1 : DG X W a g) (h2 : DGs X W es gs) (hs : (assignEach (a :: es) X.env).map (·.2) = assign a X.env :: (assignEach es X.env).map (·.2) := by rfl) : DGs X W (a :: es) (DL.gCons g gs) :=
  PGs.imp (pgs_cons h1 h2 hs) fun vs σ H Q ⟨HF, L, ρ, S, ds, R, r, p⟩ => by
    cases ds with
    | nil => exact p.elim
    | cons d ds =>
      cases r with
      | cons r1 r2 => exact ⟨_, _, rfl, HF, L, ρ, S, d, R, r1, PostG.bind p fun ρ1 S1 σ1 H1 HF1 L1 st R1 p1 => ⟨HF1, L1, ρ1, S1, ds, R1, r2.mono st.fro, p1⟩⟩
def gTp (gs : List D → DL.Env → Store → Out DL.Env) (n : Nat) : DGn := fun d ρ S => match d with
  | .tup ds => if ds.length = n then gs ds ρ S else .bad
  | _ => .bad
theorem gtup {k n : Nat} {gs : List D → DL.Env → Store → Out DL.Env} (hc : X.calm = true) (h : DGs X W es gs) (hn : (assignEach es X.env).length = n := by rfl) (hst : (assignEach es X.env).findIdx? (·.1) = none := by rfl) : DG X W (.Tuple es k pos) (gTp gs n) :=
  PG.imp (pg_tup hc h hn hst) fun v σ H Q ⟨HF, L, ρ, S, d, R, r, p⟩ => by
    cases d with
    | tup ds =>
      have p : PostG (gd X W) H HF L Q (if ds.length = n then gs ds ρ S else .bad) := p
      split at p
      · rename_i hl
        cases r with
        | tup h1 h2 => exact ⟨_, _, rfl, SqT.mono R.sub h1, by rw [h2.length]; exact hl, HF, L, ρ, S, ds, R, h2, p⟩
      · exact p.elim
    | _ => exact p.elim
/-- cell[i] = .. -/
def gIt (i : Nat) (fi : DEn) : DGn := fun d ρ S => match ρ[i]? with
  | some (some (.cel n)) => (fi ρ S).bd fun x S1 => match x, S1[n]? with
    | .int k, some (some (.lst ds)) => match ixN ds.length k with
      | some j => .ok ρ (S1.set n (some (.lst (ds.set j d))))
      | none => .bad
    | _, _ => .bad
  | _ => .bad
theorem gitem (i : Nat) {x : Str} {px : Pos} {fi : DEn} (hi : DE X W.z b fi) (hN : X.N[i]? = some x := by rfl) (hv : Vis X.env.scope x := by first | exact Or.inl rfl | exact Or.inr (Or.inl rfl) | exact Or.inr (Or.inr rfl)) (hd : (x == ("__debug__" : Str)) = false := by decide) (hcd : (x == ("__classdict__" : Str)) = false := by decide)
    (ha : ∀ v, assign (.Subscript (.Name x px) b pos) X.env v = (do
      let ov ← holding [v] (eval (.Name x px) X.env)
      let iv ← holding [v, ov] (eval b X.env)
      standAt pos
      holding [v, ov, iv] (setItem ov iv v)
      release [v, ov, iv] []) := by intro _; rfl) : DG X W (.Subscript (.Name x px) b pos) (gIt i fi) :=
  PG.imp (pg_sub (pe_var (i := i) hN hv hd hcd) hi set_list ha) fun v σ H Q ⟨HF, L, ρ, S, d, R, r, p⟩ => by
    unfold gIt at p
    split at p
    · rename_i n hn
      obtain ⟨w, hw1, pa, hp1, hp2⟩ := R.env i _ hn
      subst hp2
      refine ⟨_, hw1, HF, L, ρ, S, R, ?_⟩
      cases q : fi ρ S with
      | bad => rw [q] at p; exact p.elim
      | ex x S1 => rw [q] at p; exact p.elim
      | ok y S1 =>
        rw [q] at p
        replace p : PostG (gd X W) H HF L Q (match (generalizing := false) y, S1[n]? with
          | .int k, some (some (.lst ds)) => match (generalizing := false) ixN ds.length k with
            | some j => .ok ρ (S1.set n (some (.lst (ds.set j d))))
            | none => .bad
          | _, _ => .bad) := p
        intro u H1 HF1 L1 st1 R1 ru
        split at p
        · rename_i k ds hS
          cases ru
          split at p
          · rename_i j hj
            have hp1' := st1.lget hp1
            obtain ⟨q4, vs, q5, q6⟩ := R1.cell n pa _ hp1' hS
            obtain ⟨R2, st2⟩ := R1.write hp1' hS (q6.set j (Rep.mono st1.fro r))
            exact ⟨pa, vs, k, j, rfl, rfl, q5, by rw [q6.length]; exact hj, p _ _ _ _ (st1.trans st2) R2⟩
          · exact p.elim
        · exact p.elim
    · exact p.elim
def mAsg (fa : DEn) (g : DGn) : DSn := fun ρ S => bindS (fa ρ S) ρ fun d S1 => match g d ρ S1 with
  | .ok ρ' S2 => .ok (.nx, ρ') S2
  | _ => .bad
theorem sasg {g : DGn} (ha : DE X W a fa) (hg : DG X W tg g) (hs : swapsWithSole [tg] a pos.line X.env = pure false := by rfl) (hw : swappedStores [tg] a X.env = pure none := by rfl) (h1 : (assignEach [tg] X.env).map (·.2) = [assign tg X.env] := by rfl) : DS X W (.Assign [tg] a pos) (mAsg fa g) :=
  PS.imp (ps_asg ha hg hs hw h1) fun D σ H ⟨HF, L, ρ, S, R, p⟩ => ⟨HF, L, ρ, S, R, PostS.bind p fun d S1 v H1 HF1 L1 e1 st1 R1 r1 p1 => ⟨HF1, L1, ρ, S1, d, R1, r1, by
    cases q : g d ρ S1 with
    | ok ρ' S2 =>
      rw [q] at p1
      exact fun σ' H' HF' L' st2 R2 => p1 σ' H' HF' L' st2 R2
    | ex x S2 => rw [q] at p1; exact p1.elim
    | bad => rw [q] at p1; exact p1.elim⟩⟩
/-! ### loops -/
def forL (t : Tg) (body : DSn) : List D → DSn
  | [], ρ, S => .ok (.nx, ρ) S
  | d :: ds, ρ, S => match asg t d ρ with
    | none => .bad
    | some ρ1 => match body ρ1 S with
      | .ok (.nx, ρ2) S2 => forL t body ds ρ2 S2
      | .ok (.ct, ρ2) S2 => forL t body ds ρ2 S2
      | .ok (.bk, ρ2) S2 => .ok (.nx, ρ2) S2
      | .ok (.rt r, ρ2) S2 => .ok (.rt r, ρ2) S2
      | .ok (.ex x, ρ2) S2 => .ok (.ex x, ρ2) S2
      | _ => .bad
def mFor (fi : DDn) (t : Tg) (body : DSn) : DSn := fun ρ S => bindS (fi ρ S) ρ fun ds S1 => forL t body ds ρ S1
theorem sfor {iter : Expr} {fi : DDn} {t : Tg} {body : List Stmt} {fb : DSn} (hp : PassesOwn (model X.prog X.w) X.A X.env X.xe) (hc : X.calm = true) (hi : DI X W tg iter fi) (hg : PG X tg (tgG X.K t)) (hb : DSs X W body fb) (hs : ∀ x, foldedSetIterable iter X.env x = pure x := by intro _; rfl) :
    DS X W (.For tg iter body [] pos) (mFor fi t fb) := by
  refine PS.imp (ps_for hp hc hi hg hb hs) fun D σ H ⟨HF, L, ρ, S, R, p⟩ => ⟨HF, L, ρ, S, R, PostS.bind p fun ds S1 J H1 HF1 L1 e1 st1 R1 rJ p1 => ?_⟩
  refine ⟨fun i m σh Hh => m = ds.length - i ∧ i ≤ ds.length ∧ ∃ HFh Lh ρh Sh, Rel (gd X W) Hh HFh Lh σh ρh Sh ∧ Same HF1 HFh ∧ PostS (gd X W) W Hh HFh Lh D (forL t fb (ds.drop i) ρh Sh), ⟨ds.length, by simp, Nat.zero_le _, HF1, L1, ρ, S1, R1, Same.refl _, by simpa using p1⟩, ?_⟩
  rintro i m σh Hh ⟨rfl, hle, HFh, Lh, ρh, Sh, Rh, sm, ph⟩
  by_cases hlt : i < ds.length
  · refine .inr ⟨rJ.go i Hh HFh sm Rh.sub hlt, fun σ' H' => ∃ HFh Lh ρh Sh, Rel (gd X W) H' HFh Lh σ' ρh Sh ∧ Same HF1 HFh ∧ PostS (gd X W) W H' HFh Lh D (forL t fb (ds.drop (i + 1)) ρh Sh), fun σ' H' h => ⟨ds.length - (i + 1), by omega, rfl, hlt, h⟩, fun x H2 hy => ?_⟩
    have ed : ds.drop i = ds[i] :: ds.drop (i + 1) := List.drop_eq_getElem_cons hlt
    rw [ed] at ph
    obtain ⟨HF2, al, rx⟩ := rJ.yld i x Hh HFh H2 ds[i] sm Rh.sub (List.getElem?_eq_getElem hlt) hy
    obtain ⟨R2, st2⟩ := Rh.al al
    have ph : PostS (gd X W) W Hh HFh Lh D (match asg t ds[i] ρh with
      | none => .bad
      | some ρ1 => match fb ρ1 Sh with
        | .ok (.nx, ρ2) S2 => forL t fb (ds.drop (i + 1)) ρ2 S2
        | .ok (.ct, ρ2) S2 => forL t fb (ds.drop (i + 1)) ρ2 S2
        | .ok (.bk, ρ2) S2 => .ok (.nx, ρ2) S2
        | .ok (.rt r, ρ2) S2 => .ok (.rt r, ρ2) S2
        | .ok (.ex x, ρ2) S2 => .ok (.ex x, ρ2) S2
        | _ => .bad) := ph
    cases ea : asg t ds[i] ρh with
    | none => rw [ea] at ph; exact ph.elim
    | some ρ1 =>
      rw [ea] at ph
      dsimp only at ph
      refine tgG_ok (G := gd X W) t R2 rx ea fun ws hws R3 => ⟨HF2, Lh, ρ1, Sh, R3, ?_⟩
      cases q : fb ρ1 Sh with
      | bad => rw [q] at ph; exact ph.elim
      | ex x S2 => rw [q] at ph; exact ph.elim
      | ok cr S2 =>
        obtain ⟨c, ρ2⟩ := cr
        rw [q] at ph
        intro σ' H' HF' L' st3 R4
        cases c with
        | nx => exact ⟨HF', L', ρ2, S2, R4, sm.trans (st2.fro.trans st3.fro), PostS.step (st2.trans st3) ph⟩
        | ct => exact ⟨HF', L', ρ2, S2, R4, sm.trans (st2.fro.trans st3.fro), PostS.step (st2.trans st3) ph⟩
        | bk => exact ph σ' H' HF' L' (st2.trans st3) R4
        | rt r => exact ph σ' H' HF' L' (st2.trans st3) R4
        | ex x => exact ph σ' H' HF' L' (st2.trans st3) R4
  · have e : i = ds.length := by omega
    subst e
    rw [List.drop_length] at ph
    exact .inl ⟨rJ.stop _ Hh HFh sm Rh.sub (Nat.le_refl _), PostS.done (c := .nx) ph Rh⟩
def whileL (t : DTn) (body : DSn) : Nat → DSn
  | 0, _, _ => .bad
  | n + 1, ρ, S => bindS (t ρ S) ρ fun k S1 => if k = true then match body ρ S1 with
      | .ok (.nx, ρ2) S2 => whileL t body n ρ2 S2
      | .ok (.ct, ρ2) S2 => whileL t body n ρ2 S2
      | .ok (.bk, ρ2) S2 => .ok (.nx, ρ2) S2
      | .ok (.rt r, ρ2) S2 => .ok (.rt r, ρ2) S2
      | .ok (.ex x, ρ2) S2 => .ok (.ex x, ρ2) S2
      | _ => .bad
    else .ok (.nx, ρ) S1
theorem swhile (fuel : Nat) {tt : DTn} {body : List Stmt} {fb : DSn} (hp : PassesOwn (model X.prog X.w) X.A X.env X.xe) (ht : DT X W a tt) (hb : DSs X W body fb) : DS X W (.While a body [] pos) (whileL tt fb fuel) := by
  refine PS.imp (ps_while hp ht hb) fun D σ H ⟨HF, L, ρ, S, R, p⟩ => ?_
  refine ⟨fun m σh Hh => ∃ HFh Lh ρh Sh, Rel (gd X W) Hh HFh Lh σh ρh Sh ∧ PostS (gd X W) W Hh HFh Lh D (whileL tt fb m ρh Sh), ⟨fuel, HF, L, ρ, S, R, p⟩, ?_⟩
  rintro m σh Hh ⟨HFh, Lh, ρh, Sh, Rh, ph⟩
  cases m with
  | zero => exact ph.elim
  | succ n =>
    refine ⟨HFh, Lh, ρh, Sh, Rh, PostS.bind ph fun k S1 k' H1 HF1 L1 e1 st1 R1 r1 p1 => ?_⟩
    cases r1
    cases k with
    | false =>
      rw [if_neg Bool.false_ne_true] at p1 ⊢
      exact PostS.done (c := .nx) p1 R1
    | true =>
      rw [if_pos rfl] at p1 ⊢
      refine ⟨fun σ' H' => ∃ HFh Lh ρh Sh, Rel (gd X W) H' HFh Lh σ' ρh Sh ∧ PostS (gd X W) W H' HFh Lh D (whileL tt fb n ρh Sh), fun σ' H' h => ⟨n, Nat.lt_succ_self n, h⟩, HF1, L1, ρh, S1, R1, ?_⟩
      cases q : fb ρh S1 with
      | bad => rw [q] at p1; exact p1.elim
      | ex x S2 => rw [q] at p1; exact p1.elim
      | ok cr S2 =>
        obtain ⟨c, ρ2⟩ := cr
        rw [q] at p1
        intro σ' H' HF' L' st3 R4
        cases c with
        | nx => exact ⟨HF', L', ρ2, S2, R4, PostS.step st3 p1⟩
        | ct => exact ⟨HF', L', ρ2, S2, R4, PostS.step st3 p1⟩
        | bk => exact p1 σ' H' HF' L' st3 R4
        | rt r => exact p1 σ' H' HF' L' st3 R4
        | ex x => exact p1 σ' H' HF' L' st3 R4
end
/-! ### a def, by its body -/
def denB (N : Nat) (body : DSn) : Den := fun es S => match body (es.map some ++ List.replicate (N - es.length) none) S with
  | .ok (.rt d, _) S' => .ok d (S'.take S.length)
  | .ok (.nx, _) S' => .ok .non (S'.take S.length)
  | .ok (.ex x, _) S' => .ex x (S'.take S.length)
  | _ => .bad
section
variable {G : Gd} {H HF H' HF' : Hp} {L L' : List Addr} {σ : L2.St} {ρ : DL.Env} {S S' : Store}
theorem Rel.leave (R : Rel G H HF L [] [] S) (st : Step H HF L H' HF' L') (R' : Rel G H' HF' L' σ ρ S') : Step H HF L H' HF' L ∧ Rel G H' HF' L [] [] (S'.take S.length) := by
  obtain ⟨M, eM, nM⟩ := st.ext
  refine ⟨⟨st.keep, st.nn, st.fro, st.new, [], by simp, by simp⟩, ⟨R'.sub, R.nd, ?_, fun a ha => R'.liv a (by rw [eM]; exact List.mem_append_left _ ha), R'.tab, R'.nft, fun n a c h1 h2 => ?_, rfl, fun i e h => by simp at h⟩⟩
  · rw [List.length_take, R'.sl, R.sl, eM, List.length_append]
    omega
  · have hn : n < S.length := by rw [R.sl]; exact (List.getElem?_eq_some_iff.mp h1).1
    rw [List.getElem?_take_of_lt hn] at h2
    exact R'.cell n a c (st.lget h1) h2
theorem start_env {vs : List V} {es : List EV} {N : List Str} (r : RepEs G HF L vs es) : ∀ (i : Nat) (e : EV), (es.map some ++ List.replicate (N.length - es.length) none)[i]? = some (some e) → ∃ v, (L2.start N vs)[i]? = some (some v) ∧ RepE G HF L v e := by
  intro i e h
  have hi : i < es.length := by
    by_cases hi : i < es.length
    · exact hi
    · rw [List.getElem?_append_right (by simpa using hi), List.getElem?_replicate] at h
      split at h <;> cases h
  rw [List.getElem?_append_left (by simpa using hi), List.getElem?_map] at h
  have key : ∀ {es : List EV} {vs : List V} {i : Nat} {e : EV}, RepEs G HF L vs es → es[i]? = some e → ∃ v, vs[i]? = some v ∧ RepE G HF L v e := by
    intro es
    induction es with
    | nil => intro vs i e _ h; simp at h
    | cons x es ih =>
      intro vs i e r h
      cases r with
      | cons r1 r2 =>
        cases i with
        | zero => simp at h; subst h; exact ⟨_, rfl, r1⟩
        | succ i =>
          obtain ⟨v, g1, g2⟩ := ih r2 (i := i) (by simpa using h)
          exact ⟨v, by simpa using g1, g2⟩
  cases q : es[i]? with
  | none => rw [q] at h; cases h
  | some e' =>
    rw [q] at h
    cases h
    obtain ⟨v, g1, g2⟩ := key r q
    refine ⟨v, ?_, g2⟩
    unfold L2.start
    rw [List.getElem?_append_left (by rw [List.length_map, r.length]; exact hi), List.getElem?_map, g1]
    rfl
end
/-- the wish of a def's body about exceptions -/
abbrev WF (E : XK) : WD := ⟨fun cls d _ H => E cls d H, none⟩
theorem fnd_of {P : Program} {w : World} {G : Gd} {base : Heap} {x qual : Str} {st : Stmt} {f : Addr} {fd : FuncData} {N ps : List Str} {k n : Nat} {body : DSn} (F : Fun G.K x qual st f fd) (Sc : FnScope N ps (defScope st)) (hn : ps.length = n) (hnN : n ≤ N.length) (hG : G.xi = none := by rfl)
    (hbody : ∀ (cdv : Value) (A : Around) (outer : List PySem.Env) (s : Shared) (H : Hp) (E : XK), Room k (A.deeper (envOfC qual (defScope st) s.heap.objs.size f cdv)) →
      DSs (cxOf (L2.CX P w) P w G.K G.mg base N qual (defScope st) f cdv A outer s H E) (WF E) (defBody st) body) : FnOk P w G.K G.mg base (L2.CX P w) (k + 1) f fd ps (spD G n (denB N.length body)) := by
  obtain ⟨K, mg, xi⟩ := G
  obtain rfl : xi = none := hG
  refine F.okX Sc (fun vs H Q E h => h.1.trans hn.symm) fun cdv A outer s H vs Q E hr h => ⟨_, hbody cdv A outer s H E hr, ?_⟩
  obtain ⟨hl, HF, L, es, S, R, r, p⟩ := h
  have hle : es.length = n := by rw [← r.length]; exact hl
  refine ⟨HF, L, _, S, ⟨R.sub, R.nd, R.sl, R.liv, R.tab, R.nft, R.cell, ?_, start_env (N := N) r⟩, ?_⟩
  · unfold L2.start
    rw [List.length_append, List.length_append, List.length_map, List.length_map, List.length_replicate, List.length_replicate, r.length]
  · unfold denB at p
    cases q : body (es.map some ++ List.replicate (N.length - es.length) none) S with
    | bad => rw [q] at p; exact p.elim
    | ex x S' => rw [q] at p; exact p.elim
    | ok cr S' =>
      obtain ⟨c, ρ'⟩ := cr
      rw [q] at p
      intro σ' H' HF' L' st' R'
      obtain ⟨st2, R2⟩ := R.leave st' R'
      cases c with
      | nx => exact p .non H' HF' st2 R2 .non
      | rt d => exact fun v rv => p v H' HF' st2 R2 rv
      | ex x => exact fun cls dd ex => p cls dd H' HF' st2 R2 ex
      | bk => exact p.elim
      | ct => exact p.elim
theorem dfn_of {P : Program} {w : World} {G : Gd} {base : Heap} {x qual : Str} {st : Stmt} {f : Addr} {fd : FuncData} {N ps : List Str} {k n : Nat} {body : DSn} (F : Fun G.K x qual st f fd) (Sc : FnScope N ps (defScope st)) (hm : G.mg x = some (.ref f)) (hb : Binds G.K fd ps []) (hn : ps.length = n) (hnN : n ≤ N.length) (hG : G.xi = none)
    (hbody : ∀ (cdv : Value) (A : Around) (outer : List PySem.Env) (s : Shared) (H : Hp) (E : XK), Room k (A.deeper (envOfC qual (defScope st) s.heap.objs.size f cdv)) →
      DSs (cxOf (L2.CX P w) P w G.K G.mg base N qual (defScope st) f cdv A outer s H E) (WF E) (defBody st) body) : Dfn P w G base (k + 1) x n (denB N.length body) :=
  ⟨f, fd, ps, hm, F.kp, hb, hn, fnd_of F Sc hn hnN hG hbody⟩
end DL

namespace DL
open PySem PySem.Spec PyProof.Rows L2
theorem units65 {A : Around} {k : Nat} (hr : Room k A) : A.units + 65 < cLine := by have := hr.un; omega
theorem boot_len : bootBuiltins "len" = some (.builtin "len") := by decide +kernel
theorem boot_any : bootBuiltins "any" = some (.builtin "any") := by decide +kernel
theorem boot_all : bootBuiltins "all" = some (.builtin "all") := by decide +kernel
theorem boot_sorted : bootBuiltins "sorted" = some (.builtin "sorted") := by decide +kernel
theorem boot_max : bootBuiltins "max" = some (.builtin "max") := by decide +kernel
theorem boot_min : bootBuiltins "min" = some (.builtin "min") := by decide +kernel
theorem boot_sum : bootBuiltins "sum" = some (.builtin "sum") := by decide +kernel
theorem boot_abs : bootBuiltins "abs" = some (.builtin "abs") := by decide +kernel
theorem boot_int : bootBuiltins "int" = some (.type "int") := by decide +kernel
theorem boot_str : bootBuiltins "str" = some (.type "str") := by decide +kernel
theorem boot_bool : bootBuiltins "bool" = some (.type "bool") := by decide +kernel
theorem boot_tuple : bootBuiltins "tuple" = some (.type "tuple") := by decide +kernel
theorem boot_list : bootBuiltins "list" = some (.type "list") := by decide +kernel
theorem boot_dict : bootBuiltins "dict" = some (.type "dict") := by decide +kernel
section
variable {X : Cx} {W : WD} {pos : Pos} {a b c : Expr} {fa fb fc : DEn} {es : List Expr} {fs : DDn}
theorem xfnD {x : Str} {k n : Nat} {f : Den} (d : Dfn X.prog X.w (gd X W) X.base k x n f) (hg : Gl X x := by rfl) (hd : (x == ("__debug__" : Str)) = false := by decide) : DE X W (.Name x pos) (mC (.fn x)) := by
  obtain ⟨ad, fd, ps, h1, _⟩ := d.has
  exact xfn hg h1 hd
/-- a written negative number -/
theorem xneg {k : Nat} {i : Int} {p : Pos} : DE X W (.UnaryOp .USub (.Constant (.int i) k p) pos) (mC (.int (-i))) :=
  PE.imp (pe_un un_neg pe_int) fun σ H Q ⟨HF, L, ρ, S, R, p⟩ => ⟨_, rfl, p.done R .no (.int _)⟩
def mUSub (fa : DEn) : DEn := fun ρ S => (fa ρ S).bind fun x S1 => match x with
  | .int i => .ok (.int (-i)) S1
  | _ => .bad
theorem xusub (ha : DE X W a fa) : DE X W (.UnaryOp .USub a pos) (mUSub fa) :=
  PE.imp (pe_un un_neg ha) fun σ H Q ⟨HF, L, ρ, S, R, p⟩ => ⟨HF, L, ρ, S, R, Post.bind p fun x S1 v H1 HF1 L1 e1 st1 R1 r1 p1 => by
    split at p1
    · cases r1
      exact ⟨_, rfl, p1.done R1 .no (.int _)⟩
    · exact p1.elim⟩
/-- isinstance(x, (A, B)) -/
def isTy2 (d : D) (T U : String) : Option Bool := (isTy d T).bind fun k => if k = true then some true else isTy d U
def mIsT2 (T U : String) (fa : DEn) : DEn := fun ρ S => (fa ρ S).bind fun x S1 => lift ((isTy2 x T U).map D.bl) S1
theorem xisT2 {t u : Str} {T U : String} {p pt pu pp : Pos} {kk : Nat} (hm : X.mg "isinstance" = none) (hmT : X.mg t = none) (hvT : bootBuiltins t = some (.type T)) (hmU : X.mg u = none) (hvU : bootBuiltins u = some (.type U)) (ha : DE X W a fa) (hg : Gl X "isinstance" := by rfl)
    (hgT : Gl X t := by rfl) (hnT : t ≠ "__name__" := by decide) (hdT : (t == ("__debug__" : Str)) = false := by decide) (hgU : Gl X u := by rfl) (hnU : u ≠ "__name__" := by decide) (hdU : (u == ("__debug__" : Str)) = false := by decide)
    (he : starEach [a, .Tuple [.Name t pt, .Name u pu] kk pp] X.env = (false, eval a X.env) :: starEach [.Tuple [.Name t pt, .Name u pu] kk pp] X.env := by rfl) (he2 : starEach [.Tuple [.Name t pt, .Name u pu] kk pp] X.env = (false, eval (.Tuple [.Name t pt, .Name u pu] kk pp) X.env) :: starEach [] X.env := by rfl)
    (he3 : starEach [Expr.Name t pt, .Name u pu] X.env = (false, eval (.Name t pt) X.env) :: starEach [.Name u pu] X.env := by rfl) (he4 : starEach [Expr.Name u pu] X.env = (false, eval (.Name u pu) X.env) :: starEach [] X.env := by rfl)
    (hpl : (backTo pos (starEach [.Tuple [.Name t pt, .Name u pu] kk pp] X.env)).any (·.1) = false := by rfl) :
    DE X W (.Call (.Name "isinstance" p) [a, .Tuple [.Name t pt, .Name u pu] kk pp] [] pos) (mIsT2 T U fa) :=
  PE.imp (pe_callB call_isiT hg hm PyProof.Rows.boot_isinstance (pa_cons ha (pa_cons (pe_tup (pa_cons (pe_bltn (v := .ty T) hgT hmT hvT rfl hnT hdT) (pa_cons (pe_bltn (v := .ty U) hgU hmU hvU rfl hnU hdU) pa_nil he4) he3)) pa_nil he2) he) (by decide) (by decide) he hpl) fun σ H Q ⟨HF, L, ρ, S, R, p⟩ => ⟨HF, L, ρ, S, R, Post.bind p fun x S1 v H1 HF1 L1 e1 st1 R1 r1 p1 => by
    obtain ⟨d, ed, p2⟩ := p1.lift
    refine ⟨by show 2 ≤ sizeLine; decide, fun q hq => ?_⟩
    have R2 := (R1.frozen (o := .tup [.ty T, .ty U]) hq).1
    have ru := Rep.mono (same_upd (o := .tup [.ty T, .ty U]) (R1.hf hq)) r1
    cases et : x.ty with
    | none => unfold isTy2 isTy at ed; rw [et] at ed; cases ed
    | some tt =>
      cases ek : kitB tt T with
      | none => unfold isTy2 isTy at ed; rw [et] at ed; simp only [Option.bind_some, ek, Option.bind_none] at ed; cases ed
      | some k =>
        cases k with
        | true =>
          have e2 : d = .bl true := by
            unfold isTy2 isTy at ed; rw [et] at ed; simp only [Option.bind_some, ek, if_pos rfl] at ed; cases ed; rfl
          subst e2
          exact ⟨v, q, [.ty T, .ty U], .type tt, [.type T, .type U], true, rfl, upd_same, .cons (.ty T) (.cons (.ty U) .nil), ru.ty R2.sub et, kitAny_cons (kit_ty ek) (fun z => nomatch z) (fun _ => rfl), p2.done R1 (.new hq) (.bl true)⟩
        | false =>
          cases ek2 : kitB tt U with
          | none => unfold isTy2 isTy at ed; rw [et] at ed; simp only [Option.bind_some, ek, ek2, if_neg Bool.false_ne_true] at ed; cases ed
          | some k2 =>
            have e2 : d = .bl k2 := by
              unfold isTy2 isTy at ed; rw [et] at ed; simp only [Option.bind_some, ek, ek2, if_neg Bool.false_ne_true] at ed; cases ed; rfl
            subst e2
            exact ⟨v, q, [.ty T, .ty U], .type tt, [.type T, .type U], k2, rfl, upd_same, .cons (.ty T) (.cons (.ty U) .nil), ru.ty R2.sub et, kitAny_cons (kit_ty ek) (fun _ => kitAny_cons (kit_ty ek2) (fun e => by rw [e]; rfl) (fun e => e)) (fun z => nomatch z), p2.done R1 (.new hq) (.bl k2)⟩⟩
/-- x in cell, and its like -/
def mCmpR (i : Nat) (g : D → D → Option Bool) (fa : DEn) : DTn := fun ρ S => (fa ρ S).bind fun y S1 => match ρ[i]? with
  | some (some (.cel n)) => match S1[n]? with
    | some (some (.lst ds)) => lift (g y (.lst ds)) S1
    | _ => .bad
  | _ => .bad
theorem tT.celR {i : Nat} {r : R2} {g : D → D → Option Bool} (hs : CmS (gd X W) r g) {σ : L2.St} {H : Hp} {Q : Bool → Hp → Prop} {Qv : VK} (h : tT (gd X W) W (mCmpR i g fa) σ H Q) (hq : ∀ b H', Q b H' → Qv (.bl b) H') :
    tOp r (tD (gd X W) W fa) (tVar i) σ H Qv := by
  obtain ⟨HF, L, ρ, S, R, p⟩ := h
  refine ⟨HF, L, ρ, S, R, Post.bind p fun y S1 w H1 HF1 L1 e1 st1 R1 r1 p1 => ?_⟩
  split at p1
  · rename_i n hn
    split at p1
    · rename_i ds hS
      obtain ⟨b, eb, p2⟩ := p1.lift
      obtain ⟨v, hv1, pa, hp1, hp2⟩ := R1.env i _ hn
      subst hp2
      obtain ⟨HB, s1, s2, rb⟩ := lend R1 hp1 hS
      exact ⟨_, hv1, hs y (.lst ds) w (.ref pa) H1 HB b Qv s1 (Rep.mono s2 r1) rb eb (hq b H1 (p2.done R1 .no rfl))⟩
    · exact p1.elim
  · exact p1.elim
theorem xcmpR {op : CmpOp} (i : Nat) {x : Str} {px : Pos} {g : D → D → Option Bool} (o : CmpO X W op g) (ha : DE X W a fa) (hm : behindInMarks op (.Name x px) = false := by first | rfl | exact nomark _) (hN : X.N[i]? = some x := by rfl) (hv : Vis X.env.scope x := by first | exact Or.inl rfl | exact Or.inr (Or.inl rfl) | exact Or.inr (Or.inr rfl)) (hd : (x == ("__debug__" : Str)) = false := by decide)
    (hcd : (x == ("__classdict__" : Str)) = false := by decide) : DE X W (.Compare a [op] [.Name x px] pos) (mB (mCmpR i g fa)) := by
  obtain ⟨r, h1, h2⟩ := o.has
  exact PE.imp (pe_cmpR h1 ha (pe_var (i := i) hN hv hd hcd) hm) fun σ H Q h => tT.celR h2 (tD.mB h) fun _ _ q => q
theorem ycmpR {op : CmpOp} (i : Nat) {x : Str} {px : Pos} {g : D → D → Option Bool} (o : CmpO X W op g) (ha : DE X W a fa) (hm : behindInMarks op (.Name x px) = false := by first | rfl | exact nomark _) (hN : X.N[i]? = some x := by rfl) (hv : Vis X.env.scope x := by first | exact Or.inl rfl | exact Or.inr (Or.inl rfl) | exact Or.inr (Or.inr rfl)) (hd : (x == ("__debug__" : Str)) = false := by decide)
    (hcd : (x == ("__classdict__" : Str)) = false := by decide) : DT X W (.Compare a [op] [.Name x px] pos) (mCmpR i g fa) := by
  obtain ⟨r, h1, h2⟩ := o.has
  exact PT.imp (pt_cmpR h1 ha (pe_var (i := i) hN hv hd hcd) hm) fun σ H Q h => tT.celR h2 h fun b _ q => ⟨b, rfl, q⟩
/-- sorted of a list of intsOf -/
def insI (x : Int) : List Int → List Int
  | [] => [x]
  | y :: r => if x ≤ y then x :: y :: r else y :: insI x r
def sortI : List Int → List Int
  | [] => []
  | x :: r => insI x (sortI r)
theorem insI_perm (x : Int) : ∀ r : List Int, (insI x r).Perm (x :: r)
  | [] => .refl _
  | y :: r => by
    unfold insI
    split
    · exact .refl _
    · exact (List.Perm.cons y (insI_perm x r)).trans (.swap x y r)
theorem sortI_perm : ∀ r : List Int, (sortI r).Perm r
  | [] => .refl _
  | x :: r => (insI_perm x _).trans (.cons x (sortI_perm r))
theorem insI_sorted {x : Int} : ∀ {r : List Int}, r.Pairwise (· ≤ ·) → (insI x r).Pairwise (· ≤ ·)
  | [], _ => by simp [insI]
  | y :: r, h => by
    obtain ⟨h1, h2⟩ := List.pairwise_cons.mp h
    unfold insI
    split
    · rename_i hc
      refine List.pairwise_cons.mpr ⟨fun z hz => ?_, h⟩
      rcases List.mem_cons.mp hz with e | hz
      · rw [e]; exact hc
      · exact Int.le_trans hc (h1 z hz)
    · rename_i hc
      refine List.pairwise_cons.mpr ⟨fun z hz => ?_, insI_sorted h2⟩
      rcases List.mem_cons.mp ((insI_perm x r).mem_iff.mp hz) with e | hz
      · rw [e]; omega
      · exact h1 z hz
theorem sortI_sorted : ∀ r : List Int, (sortI r).Pairwise (· ≤ ·)
  | [] => .nil
  | x :: r => insI_sorted (sortI_sorted r)
def intsOf : List D → Option (List Int)
  | [] => some []
  | .int i :: r => (intsOf r).map (i :: ·)
  | _ => none
theorem Reps.intsOf {G : Gd} {HF : Hp} : ∀ {ds : List D} {vs : List V} {is : List Int}, Reps G HF vs ds → DL.intsOf ds = some is → vs = is.map V.int
  | [], _, _, h, e => by cases h; cases e; rfl
  | .int i :: ds, _, is, h, e => by
    cases h with
    | cons h1 h2 =>
      cases h1
      have e : (DL.intsOf ds).map (i :: ·) = some is := e
      cases q : DL.intsOf ds with
      | none => rw [q] at e; cases e
      | some is' =>
        rw [q] at e
        cases e
        rw [Reps.intsOf h2 q]
        rfl
  | .non :: ds, _, _, _, e => by cases e
  | .bl _ :: ds, _, _, _, e => by cases e
  | .str _ :: ds, _, _, _, e => by cases e
  | .tup _ :: ds, _, _, _, e => by cases e
  | .lst _ :: ds, _, _, _, e => by cases e
  | .rol _ :: ds, _, _, _, e => by cases e
  | .fn _ :: ds, _, _, _, e => by cases e
theorem reps_ints {G : Gd} {HF : Hp} : ∀ is : List Int, Reps G HF (is.map V.int) (is.map D.int)
  | [] => .nil
  | i :: is => .cons (.int i) (reps_ints is)
def gSorted : List D → Option D
  | [.lst ds] => (intsOf ds).map fun is => .lst ((sortI is).map D.int)
  | _ => none
theorem biSorted : BiO X W (.builtin "sorted") gSorted := by
  refine ⟨_, cr_sortedI, fun xs vs H HF d Q sub r e q => ?_⟩
  unfold gSorted at e
  split at e
  · rename_i ds
    obtain ⟨v, rfl, h⟩ := r.one
    cases h with
    | lst h1 h2 =>
      cases eb : intsOf ds with
      | none => rw [eb] at e; cases e
      | some is =>
        rw [eb] at e
        cases e
        have ev := h2.intsOf eb
        subst ev
        refine ⟨_, is, rfl, SqL.of (sub _ _ h1), fun ns' p hp hs hn => ?_⟩
        have en : ns' = sortI is := PySem.W.ksm_same (hp.trans (sortI_perm is).symm) hs (sortI_sorted is)
        subst en
        exact q _ _ _ (.new hn) (.lst upd_same (reps_ints _))
  · cases e
end
/-! ### constants of the module -/
theorem kon_int {G : Gd} {x : Str} {i : Int} {t : Tok} (h : G.mg x = some (.int i t)) : Kon G x (.int i) := ⟨.int i, _, h, ⟨t, rfl⟩, fun _ => .int i⟩
theorem kon_tup {G : Gd} {x : Str} {ad : Addr} {dd : Option Addr} {us : List Value} {vs : List V} {ds : List D} {n : Nat} {sl : Array (Option Value)} (h : G.mg x = some (.ref ad)) (l : G.K.lookup ad = some ⟨.type "tuple", dd, .seq us.toArray n, sl⟩)
    (hv : Vals vs us) (hl : us.length ≤ lim) (r : ∀ HF, Reps G HF vs ds) : Kon G x (.tup ds) :=
  ⟨.ref ad, _, h, rfl, fun HF => .tup (.inr ⟨_, us.toArray, n, l, rfl, rfl, by rw [List.size_toArray]; exact Nat.le_trans hl lim_le, by simpa using hv⟩) (r HF)⟩
/-! ### a law -/
def spLaw (K : PySem.W.Frag) : Sp := fun vs H Q _ => ∃ (a : Addr) (ns : List Int), vs = [.ref a] ∧ SqL K H a (ns.map V.int) ∧ ns.length ≤ 63 ∧ (∀ p ∈ tabsOf K, H p.1 = some (.tbl #[])) ∧ ∀ H', Q (.bl true) H'
def noTbl (H : Hp) : Hp := fun b => match H b with
  | some (.tbl _) => none
  | o => o
theorem noTbl_of {H : Hp} {b : Addr} {o : HO} (h : H b = some o) (ho : Nt o) : noTbl H b = some o := by
  unfold noTbl
  rw [h]
  split
  · rename_i e; cases e; exact absurd rfl (ho _)
  · rfl
theorem noTbl_rd {H : Hp} {a : Addr} {u : HO} (h : Rd H a u) (hu : Nt u) : Rd (noTbl H) a u := by
  rcases h with h | ⟨o, h⟩
  · exact .inl (noTbl_of h hu)
  · exact .inr ⟨o, noTbl_of h (fun _ z => by cases z)⟩
theorem law_fn {P : Program} {w : World} {G : Gd} {base : Heap} {k : Nat} {f : Den} {fa : Addr} {fd : FuncData} {ps : List Str} (h5 : FnOk P w G.K G.mg base (L2.CX P w) k fa fd ps (spD G 1 f))
    (hlaw : ∀ ns : List Int, ns.length ≤ 63 → ∃ S', f [.v (.rol (ns.map D.int))] [] = .ok (.bl true) S') : FnOk P w G.K G.mg base (L2.CX P w) k fa fd ps (spLaw G.K) := by
  refine h5.imp fun vs H Q E ⟨ad, ns, e1, e2, e3, hP, e4⟩ => ?_
  subst e1
  obtain ⟨S', hS⟩ := hlaw ns e3
  have tab : TabG G H (noTbl H) := fun p hp => ⟨#[], hP p hp, True.intro, fun pos cv hc => by
    have z : codeAmong pos [] = some cv := hc
    simp [codeAmong] at z⟩
  have s0 : Same (noTbl H) H := fun b o e => by
    unfold noTbl at e
    split at e
    · cases e
    · exact e
  have e2' : SqL G.K (noTbl H) ad (ns.map V.int) := by
    rcases e2 with h | h
    · exact .inl (noTbl_rd h (fun _ z => by cases z))
    · exact .inr h
  refine ⟨rfl, noTbl H, [], [.v (.rol (ns.map D.int))], [], ⟨s0, by simp, rfl, by simp, tab, fun b ps e => ?_, fun n a c h => by simp at h, rfl, fun i e h => by simp at h⟩, .cons (.rol e2' (reps_ints ns)) .nil, ?_⟩
  · unfold noTbl at e
    split at e
    · cases e
    · rename_i h; exact h _ e
  rw [hS]
  intro v H' HF' st R r
  have r : Rep G HF' v (.bl true) := r
  cases r
  exact e4 H'
theorem noCX {P : Program} {w : World} (H : Hp) (s : Shared) (e : Value) (s' : Shared) (h : L2.CX P w [] H s (fun _ _ _ => False) e s') : False := by
  obtain ⟨_, _, _, _, _, _, _, _, _, _, _, _, z⟩ := h
  exact z
end DL
namespace DL
open PySem PySem.Spec PyProof.Rows L2
/-- another maker than the law: its code object is written, its table among those that stay empty through the top -/
def mkOk (K : PySem.W.Frag) (ts : List Addr) (x : Str) : Bool := match PySem.W.tabIn K x with
  | some (c, P) => PySem.W.codeHdIn K c P && ts.contains P
  | none => true
theorem walk {ts : List Addr} {l : PySem.W.OpenLaw} {q : Program} {loose : List Str} {XP : (Str → Option Value) → Heap → Prop} {YP : World → Heap → Prop} {d d' : DefRec} {K : Params → PySem.W.Frag} {k : Nat} (hn : l.most = some 63) (hdf : d.params.defaults = []) (hr : Room k callerA)
    (hY : ∀ (w : World) (h : Heap), YP w h → (K w.params).In h) (hYt : ∀ (w : World) (h : Heap), YP w h → ∀ P ∈ ts, h.get? P = some (PySem.W.tabObj #[])) (hq : (recsOf q).find? (fun e => e.name == ("law" : Str)) = some d')
    (F : ∀ (w : World) (mg : Str → Option Value) (fa : Addr) (h : Heap), (K w.params).In h → h.Ns mainGlobals mg → mg d.name = some (.ref fa) →
      ∃ fd : FuncData, (∀ m ∈ makers, m.1 = "law" ∨ mkOk (K w.params) ts m.1 = true) ∧ PySem.W.noTabs (K w.params) = true ∧ (∀ (s : Shared) (u : Value), BindsTo s fd ⟨[u], []⟩ [("script", u)]) ∧ ∀ base : Heap, (K w.params).In base → base.Ns mainGlobals mg → (∀ m ∈ makers, ∀ c P, PySem.W.tabIn (K w.params) m.1 = some (c, P) → LamX.TabB base mg c P) → FnOk l.prog w (K w.params) mg base (L2.CX l.prog w) k fa fd ["script"] (spLaw (K w.params))) :
    PySem.W.WalkO q loose XP YP l.row.toRowW d [] (fun f vs => PySem.call f vs) := by
  refine Att.attach_callB hn hdf fun w s₀ s₁ mg mb fa o pm cd doc a vs ns G Y ho hd hcd hmg hobj hints hlen hbits hg => ?_
  have KX := hY w _ Y
  obtain ⟨fd, hms, hK, hb, hF⟩ := F w mg fa _ KX G.T.g hmg
  let cs : List (Addr × Addr) := makers.filterMap fun m => PySem.W.tabIn (K w.params) m.1
  have all : ∀ p ∈ cs, PySem.W.CodeHd s₁.heap p.1 p.2 ∧ s₁.heap.get? p.2 = some (PySem.W.tabObj #[]) := fun p hp => by
    obtain ⟨m, hm, e⟩ := List.mem_filterMap.mp hp
    rcases hms m hm with h | h
    · rw [h] at e
      exact PySem.W.tab_of G.T KX hq e
    · unfold mkOk at h
      rw [e] at h
      obtain ⟨h1, h2⟩ := Bool.and_eq_true_iff.mp h
      exact ⟨PySem.W.codeHd_of_K KX h1, hYt w _ Y _ (by simpa using h2)⟩
  have nT : ∀ p ∈ cs, (K w.params).lookup p.2 = none := fun p hp => by
    cases e : (K w.params).lookup p.2 with
    | none => rfl
    | some u =>
      have e1 := KX p.2 u e
      rw [(all p hp).2] at e1
      cases e1
      have h2 := List.all_eq_true.mp hK (p.2, _) (PySem.W.mem_of_lookupK e)
      exact absurd (show false = true from h2) Bool.false_ne_true
  refine LamX.law_callTs (cs := cs) KX G.T.g G.T.b G.T.builtins G.T.nolimit hg (fun p hp => (all p hp).2) nT (fun p hp => (all p hp).1) G.T.bmain hobj hints (Nat.le_trans hlen (by decide)) hr
    (fun base h1 h2 h3 => hF base h1 h2 fun m hm c P e => h3 (c, P) (List.mem_filterMap.mpr ⟨m, hm, e⟩)) hb (fun H hH hS => ⟨a, ns, rfl, hS, hlen, fun p hp => ?_, fun _ => rfl⟩) fun H e s' => noCX H s₁ e s'
  obtain ⟨x, c, hx, e⟩ := tabsOf_of hp
  exact hH (c, p.1) (List.mem_filterMap.mpr ⟨_, hx, e⟩)
end DL

/-! the layer of data: what the pieces are worth, one row a piece (for simp) -/
namespace DL
open PySem L2
section
variable {α β : Type} {a : α} {S : Store} {x : Exn} {k : α → Store → Out β} {ρ : DL.Env} {ks : α → Store → Out (Ctl × DL.Env)}
@[simp] theorem ev_bind_ok : (Out.ok a S).bind k = k a S := rfl
@[simp] theorem ev_bind_ex : (Out.ex x S : Out α).bind k = .ex x S := rfl
@[simp] theorem ev_bind_bad : (Out.bad : Out α).bind k = .bad := rfl
@[simp] theorem ev_bd_ok : (Out.ok a S).bd k = k a S := rfl
@[simp] theorem ev_lift_some : lift (some a) S = .ok a S := rfl
@[simp] theorem ev_lift_none : lift (none : Option α) S = .bad := rfl
@[simp] theorem ev_bindS_ok : bindS (.ok a S) ρ ks = ks a S := rfl
@[simp] theorem ev_bindS_ex : bindS (.ex x S : Out α) ρ ks = .ok (.ex x, ρ) S := rfl
end
section
variable {ρ : DL.Env} {S : Store} {fa fb fc : DEn} {ta tb : DTn} {fs : DDn} {i j l : Nat} {d : D} {g g' : D → D → Option D} {c c' : D → D → Option Bool}
theorem ev_var (h : ρ[i]? = some (some (.v d))) : mVar i ρ S = .ok d S := by unfold mVar; rw [h]
@[simp] theorem ev_var0 {r : DL.Env} : mVar 0 (some (.v d) :: r) S = .ok d S := rfl
@[simp] theorem ev_varS {r : DL.Env} {o : Option EV} : mVar (i + 1) (o :: r) S = mVar i r S := rfl
@[simp] theorem ev_C : mC d ρ S = .ok d S := rfl
@[simp] theorem ev_Op : mOp g fa fb ρ S = (fa ρ S).bind fun x S1 => (fb ρ S1).bind fun y S2 => lift (g x y) S2 := rfl
@[simp] theorem ev_Cmp : mCmp c fa fb ρ S = (fa ρ S).bind fun x S1 => (fb ρ S1).bind fun y S2 => lift (c x y) S2 := rfl
@[simp] theorem ev_B : mB ta ρ S = (ta ρ S).bind fun b S1 => .ok (.bl b) S1 := rfl
@[simp] theorem ev_Chain : mChain c c' fa fb fc ρ S = (fa ρ S).bind fun x S1 => (fb ρ S1).bind fun y S2 => (lift (c x y) S2).bind fun k S3 => if k = true then (fc ρ S3).bind fun z S4 => lift (c' y z) S4 else .ok false S3 := rfl
@[simp] theorem ev_And : mAnd fa fb ρ S = (fa ρ S).bind fun x S1 => (lift x.isB S1).bind fun k S2 => if k = true then fb ρ S2 else .ok (.bl false) S2 := rfl
@[simp] theorem ev_Or : mOr fa fb ρ S = (fa ρ S).bind fun x S1 => (lift x.isB S1).bind fun k S2 => if k = true then .ok (.bl true) S2 else fb ρ S2 := rfl
@[simp] theorem ev_Not : mNot fa ρ S = (fa ρ S).bind fun x S1 => (lift x.isB S1).bind fun k S2 => .ok (.bl (!k)) S2 := rfl
@[simp] theorem ev_isB {b : Bool} : D.isB (.bl b) = some b := rfl
@[simp] theorem ev_AndT : mAndT ta tb ρ S = (ta ρ S).bind fun k S1 => if k = true then tb ρ S1 else .ok false S1 := rfl
@[simp] theorem ev_OrT : mOrT ta tb ρ S = (ta ρ S).bind fun k S1 => if k = true then .ok true S1 else tb ρ S1 := rfl
@[simp] theorem ev_NotT : mNotT ta ρ S = (ta ρ S).bind fun k S1 => .ok (!k) S1 := rfl
@[simp] theorem ev_Tru : mTru fa ρ S = (fa ρ S).bind fun x S1 => lift x.tru S1 := rfl
@[simp] theorem ev_truB {b : Bool} : D.tru (.bl b) = some b := rfl
@[simp] theorem ev_If : mIf ta fa fb ρ S = (ta ρ S).bind fun k S1 => if k = true then fa ρ S1 else fb ρ S1 := rfl
@[simp] theorem ev_Nil : mNil ρ S = .ok [] S := rfl
@[simp] theorem ev_Cons : mCons fa fs ρ S = (fa ρ S).bind fun x S1 => (fs ρ S1).bind fun xs S2 => .ok (x :: xs) S2 := rfl
@[simp] theorem ev_Tup : mTup fs ρ S = (fs ρ S).bind fun xs S1 => if xs.length ≤ lim then .ok (.tup xs) S1 else .bad := rfl
@[simp] theorem ev_Lst : mLst fs ρ S = (fs ρ S).bind fun xs S1 => if xs.length ≤ lim then .ok (.lst xs) S1 else .bad := rfl
@[simp] theorem ev_Bi {gg : List D → Option D} : mBi gg fs ρ S = (fs ρ S).bind fun xs S1 => lift (gg xs) S1 := rfl
@[simp] theorem ev_Sl {fl fh : DOn} : mSl fa fl fh ρ S = (fa ρ S).bind fun x S1 => (fl ρ S1).bind fun l S2 => (fh ρ S2).bind fun h S3 => lift (gSl x l h) S3 := rfl
@[simp] theorem ev_NoPart : mNoPart ρ S = .ok none S := rfl
theorem ev_Part : mPart fa ρ S = (fa ρ S).bind fun x S1 => match x with
  | .int i => .ok (some i) S1
  | _ => .bad := rfl
@[simp] theorem ev_PartC {n : Int} : mPart (mC (.int n)) ρ S = .ok (some n) S := rfl
@[simp] theorem ev_IsT {T : String} : mIsT T fa ρ S = (fa ρ S).bind fun x S1 => lift ((isTy x T).map D.bl) S1 := rfl
@[simp] theorem ev_IsT2 {T U : String} : mIsT2 T U fa ρ S = (fa ρ S).bind fun x S1 => lift ((isTy2 x T U).map D.bl) S1 := rfl
/-! types -/
theorem kb_is : kitB "int" "str" = some false := by decide +kernel
theorem kb_ii : kitB "int" "int" = some true := by decide +kernel
theorem kb_ib : kitB "int" "bool" = some false := by decide +kernel
theorem kb_it : kitB "int" "tuple" = some false := by decide +kernel
theorem kb_il : kitB "int" "list" = some false := by decide +kernel
theorem kb_ss : kitB "str" "str" = some true := by decide +kernel
theorem kb_si : kitB "str" "int" = some false := by decide +kernel
theorem kb_sb : kitB "str" "bool" = some false := by decide +kernel
theorem kb_st : kitB "str" "tuple" = some false := by decide +kernel
theorem kb_sl : kitB "str" "list" = some false := by decide +kernel
theorem kb_bs : kitB "bool" "str" = some false := by decide +kernel
theorem kb_bi : kitB "bool" "int" = some true := by decide +kernel
theorem kb_bb : kitB "bool" "bool" = some true := by decide +kernel
theorem kb_bt : kitB "bool" "tuple" = some false := by decide +kernel
theorem kb_bl : kitB "bool" "list" = some false := by decide +kernel
theorem kb_ts : kitB "tuple" "str" = some false := by decide +kernel
theorem kb_ti : kitB "tuple" "int" = some false := by decide +kernel
theorem kb_tb : kitB "tuple" "bool" = some false := by decide +kernel
theorem kb_tt : kitB "tuple" "tuple" = some true := by decide +kernel
theorem kb_tl : kitB "tuple" "list" = some false := by decide +kernel
theorem kb_ls : kitB "list" "str" = some false := by decide +kernel
theorem kb_li : kitB "list" "int" = some false := by decide +kernel
theorem kb_lb : kitB "list" "bool" = some false := by decide +kernel
theorem kb_lt : kitB "list" "tuple" = some false := by decide +kernel
theorem kb_ll : kitB "list" "list" = some true := by decide +kernel
theorem kb_ns : kitB "NoneType" "str" = some false := by decide +kernel
theorem kb_ni : kitB "NoneType" "int" = some false := by decide +kernel
theorem kb_nb : kitB "NoneType" "bool" = some false := by decide +kernel
theorem kb_nt : kitB "NoneType" "tuple" = some false := by decide +kernel
theorem kb_nl : kitB "NoneType" "list" = some false := by decide +kernel
variable {n : Int} {z : Str} {b : Bool} {ds : List D}
@[simp] theorem ty_is : isTy (.int n) "str" = some false := kb_is
@[simp] theorem ty_ii : isTy (.int n) "int" = some true := kb_ii
@[simp] theorem ty_ib : isTy (.int n) "bool" = some false := kb_ib
@[simp] theorem ty_it : isTy (.int n) "tuple" = some false := kb_it
@[simp] theorem ty_il : isTy (.int n) "list" = some false := kb_il
@[simp] theorem ty_ss : isTy (.str z) "str" = some true := kb_ss
@[simp] theorem ty_si : isTy (.str z) "int" = some false := kb_si
@[simp] theorem ty_sb : isTy (.str z) "bool" = some false := kb_sb
@[simp] theorem ty_st : isTy (.str z) "tuple" = some false := kb_st
@[simp] theorem ty_sl : isTy (.str z) "list" = some false := kb_sl
@[simp] theorem ty_bs : isTy (.bl b) "str" = some false := kb_bs
@[simp] theorem ty_bi : isTy (.bl b) "int" = some true := kb_bi
@[simp] theorem ty_bb : isTy (.bl b) "bool" = some true := kb_bb
@[simp] theorem ty_bt : isTy (.bl b) "tuple" = some false := kb_bt
@[simp] theorem ty_bl : isTy (.bl b) "list" = some false := kb_bl
@[simp] theorem ty_ts : isTy (.tup ds) "str" = some false := kb_ts
@[simp] theorem ty_ti : isTy (.tup ds) "int" = some false := kb_ti
@[simp] theorem ty_tb : isTy (.tup ds) "bool" = some false := kb_tb
@[simp] theorem ty_tt : isTy (.tup ds) "tuple" = some true := kb_tt
@[simp] theorem ty_tl : isTy (.tup ds) "list" = some false := kb_tl
@[simp] theorem ty_ls : isTy (.lst ds) "str" = some false := kb_ls
@[simp] theorem ty_li : isTy (.lst ds) "int" = some false := kb_li
@[simp] theorem ty_lb : isTy (.lst ds) "bool" = some false := kb_lb
@[simp] theorem ty_lt : isTy (.lst ds) "tuple" = some false := kb_lt
@[simp] theorem ty_ll : isTy (.lst ds) "list" = some true := kb_ll
@[simp] theorem ty_ns : isTy .non "str" = some false := kb_ns
@[simp] theorem ty_ni : isTy .non "int" = some false := kb_ni
@[simp] theorem ty_nb : isTy .non "bool" = some false := kb_nb
@[simp] theorem ty_nt : isTy .non "tuple" = some false := kb_nt
@[simp] theorem ty_nl : isTy .non "list" = some false := kb_nl
/-! operations -/
variable {m k : Int} {xs ys : List D} {u v : Str}
@[simp] theorem g_add : gAdd (.int m) (.int n) = some (.int (m + n)) := rfl
@[simp] theorem g_sub : gSub (.int m) (.int n) = some (.int (m - n)) := rfl
theorem g_mod (h : 0 < n) : gMod (.int m) (.int n) = some (.int (m % n)) := if_pos h
theorem g_div (h : 0 < n ∧ n < 1073741824) : gDiv (.int m) (.int n) = some (.int (m / n)) := if_pos h
theorem g_mul (h : n.natAbs < 18446744073709551616) : gMul (.int m) (.int n) = some (.int (m * n)) := if_pos (.inr h)
theorem g_mulL (h : m.natAbs < 18446744073709551616) : gMul (.int m) (.int n) = some (.int (m * n)) := if_pos (.inl h)
theorem g_addT (h : xs.length + ys.length ≤ lim) : gAdd (.tup xs) (.tup ys) = some (.tup (xs ++ ys)) := if_pos h
theorem g_addL (h : xs.length + ys.length ≤ lim) : gAdd (.lst xs) (.lst ys) = some (.lst (xs ++ ys)) := if_pos h
@[simp] theorem g_i {p : Int → Int → Bool} : gI p (.int m) (.int n) = some (p m n) := rfl
@[simp] theorem g_ixT : gIx (.tup ds) (.int n) = atI ds n := rfl
@[simp] theorem g_ixL : gIx (.lst ds) (.int n) = atI ds n := rfl
@[simp] theorem g_ixR : gIx (.rol ds) (.int n) = atI ds n := rfl
@[simp] theorem g_lenT : gLen [.tup ds] = some (.int ds.length) := rfl
@[simp] theorem g_lenL : gLen [.lst ds] = some (.int ds.length) := rfl
@[simp] theorem g_lenR : gLen [.rol ds] = some (.int ds.length) := rfl
@[simp] theorem g_int : gInt [.int n] = some (.int n) := rfl
@[simp] theorem g_itemsT : D.items (.tup ds) = some ds := rfl
@[simp] theorem g_itemsL : D.items (.lst ds) = some ds := rfl
@[simp] theorem g_itemsR : D.items (.rol ds) = some ds := rfl
@[simp] theorem g_tupT : gTuple [.tup ds] = some (.tup ds) := rfl
@[simp] theorem g_tupL : gTuple [.lst ds] = some (.tup ds) := rfl
@[simp] theorem g_slT {lo hi : Option Int} : gSl (.tup ds) lo hi = some (.tup (cutD ds lo hi)) := rfl
@[simp] theorem g_slL {lo hi : Option Int} : gSl (.lst ds) lo hi = some (.lst (cutD ds lo hi)) := rfl
@[simp] theorem g_zipT : gZip (.tup xs) (.tup ys) = some (zipD xs ys) := rfl
/-! == -/
@[simp] theorem deq_ii : deq (.int m) (.int n) = (m == n) := rfl
@[simp] theorem deq_ss : deq (.str u) (.str v) = (u == v) := rfl
@[simp] theorem deq_is : deq (.int m) (.str v) = false := rfl
@[simp] theorem deq_si : deq (.str u) (.int m) = false := rfl
@[simp] theorem flat_i : D.flat (.int n) = true := rfl
@[simp] theorem flat_s : D.flat (.str u) = true := rfl
theorem okd_i : D.okd (.int n) = true := rfl
theorem deqs : ∀ (xs ys : List D), PyData.eqvAll (D.pys xs) (D.pys ys) = (decide (xs.length = ys.length) && (List.zipWith deq xs ys).all id)
  | [], [] => rfl
  | [], y :: ys => rfl
  | x :: xs, [] => rfl
  | x :: xs, y :: ys => by
    show (deq x y && PyData.eqvAll (D.pys xs) (D.pys ys)) = _
    rw [deqs xs ys]
    simp only [List.length_cons, List.zipWith_cons_cons, List.all_cons, id]
    rw [show (decide (xs.length + 1 = ys.length + 1)) = decide (xs.length = ys.length) by simp]
    cases deq x y <;> cases decide (xs.length = ys.length) <;> rfl
theorem deq_tt : deq (.tup xs) (.tup ys) = (decide (xs.length = ys.length) && (List.zipWith deq xs ys).all id) := deqs xs ys
theorem deq_ll : deq (.lst xs) (.lst ys) = (decide (xs.length = ys.length) && (List.zipWith deq xs ys).all id) := deqs xs ys
end
/-! statements -/
section
variable {ρ : DL.Env} {S : Store} {fa fb : DEn} {fv : DVn} {f g : DSn} {t : DTn} {i j : Nat} {d : D} {fs : DAn} {fi : DDn}
@[simp] theorem ev_Skip : mSkip ρ S = .ok (.nx, ρ) S := rfl
@[simp] theorem ev_Ret : mRet fa ρ S = bindS (fa ρ S) ρ fun d S1 => .ok (.rt d, ρ) S1 := rfl
@[simp] theorem ev_RetN : mRetN ρ S = .ok (.rt .non, ρ) S := rfl
@[simp] theorem ev_Drop : mDrop fa ρ S = bindS (fa ρ S) ρ fun _ S1 => .ok (.nx, ρ) S1 := rfl
@[simp] theorem ev_IfS : mIfS t f g ρ S = bindS (t ρ S) ρ fun k S1 => if k = true then f ρ S1 else g ρ S1 := rfl
@[simp] theorem ev_Set : mSet i fv ρ S = bindS (fv ρ S) ρ fun e S1 => .ok (.nx, ρ.set i (some e)) S1 := rfl
@[simp] theorem ev_SetLc : mSetLc i fa ρ S = bindS (fa ρ S) ρ fun d S1 => .ok (.nx, ρ.set i (some (.v d))) S1 := rfl
@[simp] theorem ev_V : mV fa ρ S = (fa ρ S).bind fun d S1 => .ok (.v d) S1 := rfl
@[simp] theorem ev_NilE : mNilE ρ S = .ok [] S := rfl
@[simp] theorem ev_ConsE : mConsE fv fs ρ S = (fv ρ S).bind fun x S1 => (fs ρ S1).bind fun xs S2 => .ok (x :: xs) S2 := rfl
@[simp] theorem ev_Call {F : Den} {n : Nat} : mCall F n fs ρ S = (fs ρ S).bind fun xs S1 => if xs.length = n then callD F xs S1 else .bad := rfl
@[simp] theorem ev_It : mIt fa ρ S = (fa ρ S).bind fun x S1 => lift x.items S1 := rfl
@[simp] theorem ev_Enum : mEnum fa ρ S = (fa ρ S).bind fun x S1 => (lift x.items S1).bind fun ds S2 => .ok (enumD 0 ds) S2 := rfl
@[simp] theorem ev_Zip : mZip fa fb ρ S = (fa ρ S).bind fun x S1 => (fb ρ S1).bind fun y S2 => lift (gZip x y) S2 := rfl
@[simp] theorem ev_For {tg : Tg} : mFor fi tg f ρ S = bindS (fi ρ S) ρ fun ds S1 => forL tg f ds ρ S1 := rfl
@[simp] theorem ev_Lc {tg : Tg} {vs : List Nat} : mLc fi tg t fa vs ρ S = (fi ρ S).bind fun ds S1 => (lcL tg t fa (wipeE ρ vs) ds S1 []).bind fun ys S2 => .ok (.lst ys) S2 := rfl
theorem seq_nx {ρ1 : DL.Env} {S1 : Store} (h : f ρ S = .ok (.nx, ρ1) S1) : mSeq f g ρ S = g ρ1 S1 := by unfold mSeq; rw [h]
theorem seq_rt {ρ1 : DL.Env} {S1 : Store} (h : f ρ S = .ok (.rt d, ρ1) S1) : mSeq f g ρ S = .ok (.rt d, ρ1) S1 := by unfold mSeq; rw [h]
theorem ev_Seq : mSeq f g ρ S = match f ρ S with
  | .ok (.nx, ρ1) S1 => g ρ1 S1
  | o => o := rfl
theorem denB_rt {N : Nat} {es : List EV} {ρ1 : DL.Env} {S1 : Store} (h : f (es.map some ++ List.replicate (N - es.length) none) S = .ok (.rt d, ρ1) S1) : denB N f es S = .ok d (S1.take S.length) := by unfold denB; rw [h]
theorem denB_nx {N : Nat} {es : List EV} {ρ1 : DL.Env} {S1 : Store} (h : f (es.map some ++ List.replicate (N - es.length) none) S = .ok (.nx, ρ1) S1) : denB N f es S = .ok .non (S1.take S.length) := by unfold denB; rw [h]
/-! calls without cells, with one cell ahead -/
theorem call1 {F : Den} {a r : D} (h : F [.v a] [] = .ok r []) : callD F [.v a] S = .ok r S := by
  unfold callD; simp [cels, getCs, renum, h, putCs]
theorem call2 {F : Den} {a b r : D} (h : F [.v a, .v b] [] = .ok r []) : callD F [.v a, .v b] S = .ok r S := by
  unfold callD; simp [cels, getCs, renum, h, putCs]
theorem call3 {F : Den} {a b c r : D} (h : F [.v a, .v b, .v c] [] = .ok r []) : callD F [.v a, .v b, .v c] S = .ok r S := by
  unfold callD; simp [cels, getCs, renum, h, putCs]
theorem call4 {F : Den} {a b c e r : D} (h : F [.v a, .v b, .v c, .v e] [] = .ok r []) : callD F [.v a, .v b, .v c, .v e] S = .ok r S := by
  unfold callD; simp [cels, getCs, renum, h, putCs]
theorem callC1 {F : Den} {n : Nat} {c c' : Cell} {r : D} (hs : S[n]? = some (some c)) (h : F [.cel 0] [some c] = .ok r [some c']) : callD F [.cel n] S = .ok r (S.set n (some c')) := by
  unfold callD; simp [cels, getCs, renum, h, putCs, hs]
theorem callC2 {F : Den} {n : Nat} {c c' : Cell} {a r : D} (hs : S[n]? = some (some c)) (h : F [.cel 0, .v a] [some c] = .ok r [some c']) : callD F [.cel n, .v a] S = .ok r (S.set n (some c')) := by
  unfold callD; simp [cels, getCs, renum, h, putCs, hs]
theorem callC3 {F : Den} {n : Nat} {c c' : Cell} {a b r : D} (hs : S[n]? = some (some c)) (h : F [.cel 0, .v a, .v b] [some c] = .ok r [some c']) : callD F [.cel n, .v a, .v b] S = .ok r (S.set n (some c')) := by
  unfold callD; simp [cels, getCs, renum, h, putCs, hs]
end
end DL

/-! the laws' common helpers as functions of data: the draws, a drawn word -/
namespace DL
open PySem L2
@[simp] theorem ev_IxC0 {n : Nat} {r : DL.Env} {S : Store} {fb : DEn} : mIxC 0 fb (some (.cel n) :: r) S = (fb (some (.cel n) :: r) S).bind fun y S1 => match y, S1[n]? with
    | .int k, some (some (.lst ds)) => lift (atI ds k) S1
    | _, _ => .bad := rfl
@[simp] theorem ev_It0 {n : Nat} {r : DL.Env} {S : Store} {fi : DEn} {d : D} : gIt 0 fi d (some (.cel n) :: r) S = (fi (some (.cel n) :: r) S).bd fun x S1 => match x, S1[n]? with
    | .int k, some (some (.lst ds)) => match ixN ds.length k with
      | some j => .ok (some (.cel n) :: r) (S1.set n (some (.lst (ds.set j d))))
      | none => .bad
    | _, _ => .bad := rfl
@[simp] theorem ev_Cel0 {n : Nat} {r : DL.Env} {S : Store} : mCel 0 (some (.cel n) :: r) S = .ok (.cel n) S := rfl
theorem ev_Asg {fa : DEn} {g : DGn} {ρ : DL.Env} {S : Store} : mAsg fa g ρ S = bindS (fa ρ S) ρ fun d S1 => match g d ρ S1 with
  | .ok ρ' S2 => .ok (.nx, ρ') S2
  | _ => .bad := rfl
def cb_taken : DSn :=
  (mSeq (mIfS (mCmp gGt (mIxC 0 (mC (.int 3))) (mC (.int 0))) (mSeq (mSet 3 (mV (mOp gMod (mBi gInt (mCons (mIxC 0 (mC (.int 3))) mNil)) (mVar 1))))
  (mSeq (mAsg (mOp gDiv (mIxC 0 (mC (.int 3))) (mVar 1)) (gIt 0 (mC (.int 3))))
  (mRet (mVar 3)))) mSkip)
  (mSeq (mAsg (mOp gAdd (mIxC 0 (mC (.int 1))) (mC (.int 1))) (gIt 0 (mC (.int 1))))
  (mSeq (mIfS (mCmp gGt (mIxC 0 (mC (.int 1))) (mBi gLen (mCons (mIxC 0 (mC (.int 0))) mNil))) (mSeq (mAsg (mOp gMod (mBi gInt (mCons (mOp gAdd (mOp gMul (mIxC 0 (mC (.int 2))) (mC (.int 48271))) (mC (.int 11))) mNil)) (mC (.int 2147483647))) (gIt 0 (mC (.int 2))))
  (mRet (mOp gMod (mBi gInt (mCons (mOp gDiv (mIxC 0 (mC (.int 2))) (mC (.int 7))) mNil)) (mVar 1)))) mSkip)
  (mSeq (mSet 2 (mV (mOp gIx (mIxC 0 (mC (.int 0))) (mOp gSub (mIxC 0 (mC (.int 1))) (mC (.int 1))))))
  (mSeq (mAsg (mOp gMod (mBi gInt (mCons (mOp gAdd (mOp gAdd (mOp gMul (mIxC 0 (mC (.int 2))) (mC (.int 48271))) (mVar 2)) (mC (.int 11))) mNil)) (mC (.int 2147483647))) (gIt 0 (mC (.int 2))))
  (mSeq (mIfS (mCmp gGe (mVar 2) (mOp gPow (mC (.int 10)) (mC (.int 18)))) (mAsg (mOp gDiv (mVar 2) (mVar 1)) (gIt 0 (mC (.int 3)))) mSkip)
  (mRet (mOp gMod (mBi gInt (mCons (mVar 2) mNil)) (mVar 1)))))))))
def cd_taken : Den := denB 4 cb_taken
/-- the row of draws: the script, the place, the seed, what is left of a great number -/
def row (ns : List Int) (p s r : Int) : Cell := .lst [.rol (ns.map D.int), .int p, .int s, .int r]
def RowOk (c : Cell) : Prop := ∃ ns p s r, c = row ns p s r ∧ 0 ≤ p
theorem pow18 : gPow (.int 10) (.int 18) = some (.int 1000000000000000000) := by
  have h : (if (0 : Int) ≤ 18 ∧ (18 : Int) ≤ 1000000 ∧ (10 : Int).natAbs < 18446744073709551616 then some (D.int ((10 : Int) ^ (18 : Int).toNat)) else none) = some (.int 1000000000000000000) := by
    rw [if_pos (by decide)]
    rfl
  exact h
theorem at0 {a b c d : D} : atI [a, b, c, d] 0 = some a := rfl
theorem at1 {a b c d : D} : atI [a, b, c, d] 1 = some b := rfl
theorem at2 {a b c d : D} : atI [a, b, c, d] 2 = some c := rfl
theorem at3 {a b c d : D} : atI [a, b, c, d] 3 = some d := rfl
theorem ix1 : ixN 4 1 = some 1 := rfl
theorem ix2 : ixN 4 2 = some 2 := rfl
theorem ix3 : ixN 4 3 = some 3 := rfl
theorem atI_ints {ns : List Int} {p : Int} (h0 : 0 ≤ p) (h1 : p < ns.length) : ∃ c, atI (ns.map D.int) p = some (.int c) := by
  obtain ⟨j, rfl⟩ : ∃ j : Nat, p = (j : Int) := ⟨p.toNat, by omega⟩
  have hj : j < ns.length := by omega
  exact ⟨ns[j], atI_nat (by rw [List.getElem?_map, List.getElem?_eq_getElem hj]; rfl)⟩
theorem taken {c : Cell} (h : RowOk c) {m : Int} (h0 : 0 < m) (h1 : m < 1073741824) : ∃ v c', 0 ≤ v ∧ v < m ∧ RowOk c' ∧ cd_taken [.cel 0, .v (.int m)] [some c] = .ok (.int v) [some c'] := by
  obtain ⟨ns, p, s, r, rfl, hp⟩ := h
  have mm : ∀ x : Int, 0 ≤ x % m ∧ x % m < m := fun x => ⟨Int.emod_nonneg x (by omega), Int.emod_lt_of_pos x h0⟩
  by_cases hr : 0 < r
  · refine ⟨r % m, row ns p s (r / m), (mm r).1, (mm r).2, ⟨ns, p, s, r / m, rfl, hp⟩, ?_⟩
    refine denB_rt (ρ1 := [some (.cel 0), some (.v (.int m)), none, some (.v (.int (r % m)))]) (S1 := [some (row ns p s (r / m))]) ?_
    simp [cb_taken, ev_Seq, row, at0, at1, at2, at3, hr, g_mod h0, g_div ⟨h0, h1⟩, ev_Asg, ix3]
  · by_cases hl : (ns.length : Int) < p + 1
    · refine ⟨((s * 48271 + 11) % 2147483647 / 7) % m, row ns (p + 1) ((s * 48271 + 11) % 2147483647) r, (mm _).1, (mm _).2, ⟨ns, _, _, _, rfl, by omega⟩, ?_⟩
      refine denB_rt (ρ1 := [some (.cel 0), some (.v (.int m)), none, none]) (S1 := [some (row ns (p + 1) ((s * 48271 + 11) % 2147483647) r)]) ?_
      simp [cb_taken, ev_Seq, row, at0, at1, at2, at3, hr, hl, g_mod, g_mod h0, g_div, g_mul, ev_Asg, ix1, ix2]
    · obtain ⟨v, hv⟩ := atI_ints (ns := ns) (p := p) hp (by omega)
      by_cases hb : 1000000000000000000 ≤ v
      · refine ⟨v % m, row ns (p + 1) ((s * 48271 + v + 11) % 2147483647) (v / m), (mm _).1, (mm _).2, ⟨ns, _, _, _, rfl, by omega⟩, ?_⟩
        refine denB_rt (ρ1 := [some (.cel 0), some (.v (.int m)), some (.v (.int v)), none]) (S1 := [some (row ns (p + 1) ((s * 48271 + v + 11) % 2147483647) (v / m))]) ?_
        simp [cb_taken, ev_Seq, row, at0, at1, at2, at3, hr, hl, hv, hb, pow18, g_mod, g_mod h0, g_div ⟨h0, h1⟩, g_mul, ev_Asg, ix1, ix2, ix3]
      · refine ⟨v % m, row ns (p + 1) ((s * 48271 + v + 11) % 2147483647) r, (mm _).1, (mm _).2, ⟨ns, _, _, _, rfl, by omega⟩, ?_⟩
        refine denB_rt (ρ1 := [some (.cel 0), some (.v (.int m)), some (.v (.int v)), none]) (S1 := [some (row ns (p + 1) ((s * 48271 + v + 11) % 2147483647) r)]) ?_
        simp [cb_taken, ev_Seq, row, at0, at1, at2, at3, hr, hl, hv, hb, pow18, g_mod, g_mod h0, g_mul, ev_Asg, ix1, ix2]
/-! ### loops -/
theorem forL_nx {tg : Tg} {body : DSn} : ∀ {ds : List D} (I : Nat → DL.Env → Store → Prop) (_ : ∀ i d ρ S, ds[i]? = some d → I i ρ S → ∃ ρ1 ρ2 S2, asg tg d ρ = some ρ1 ∧ body ρ1 S = .ok (.nx, ρ2) S2 ∧ I (i + 1) ρ2 S2) (ρ : DL.Env) (S : Store), I 0 ρ S → ∃ ρ' S', forL tg body ds ρ S = .ok (.nx, ρ') S' ∧ I ds.length ρ' S'
  | [], I, _, ρ, S, h0 => ⟨ρ, S, rfl, h0⟩
  | d :: ds, I, h, ρ, S, h0 => by
    obtain ⟨ρ1, ρ2, S2, e1, e2, h2⟩ := h 0 d ρ S rfl h0
    obtain ⟨ρ', S', e3, h3⟩ := forL_nx (fun i => I (i + 1)) (fun i d' ρ S hd hi => h (i + 1) d' ρ S (by simpa using hd) hi) ρ2 S2 h2
    refine ⟨ρ', S', ?_, h3⟩
    unfold forL
    rw [e1]
    dsimp only
    rw [e2]
    exact e3
theorem rgD_length (a b : Int) : (rgD a b).length = (b - a).toNat := by unfold rgD; simp
theorem rgD_get {a b : Int} {i : Nat} {d : D} (h : (rgD a b)[i]? = some d) : d = .int (a + i) := by
  unfold rgD at h
  rw [List.getElem?_map] at h
  cases q : (List.range (b - a).toNat)[i]? with
  | none => rw [q] at h; cases h
  | some j =>
    rw [q] at h
    cases h
    obtain ⟨h1, h2⟩ := List.getElem?_eq_some_iff.mp q
    simp at h2
    rw [h2]
/-! ### picks -/
def cb_pick : DSn := (mRet (mOp gIx (mVar 1) (mCall cd_taken 2 (mConsE (mCel 0) (mConsE (mV (mBi gLen (mCons (mVar 1) mNil))) mNilE)))))
def cd_pick : Den := denB 2 cb_pick
theorem atI_of {ds : List D} {v : Int} (h0 : 0 ≤ v) (h1 : v < ds.length) : ∃ i d, ds[i]? = some d ∧ v = (i : Nat) ∧ atI ds v = some d := by
  obtain ⟨j, rfl⟩ : ∃ j : Nat, v = (j : Int) := ⟨v.toNat, by omega⟩
  have hj : j < ds.length := by omega
  exact ⟨j, ds[j], List.getElem?_eq_getElem hj, rfl, atI_nat (List.getElem?_eq_getElem hj)⟩
theorem pick_spec {c : Cell} (h : RowOk c) {ds : List D} (h0 : ds ≠ []) (h1 : ds.length < 1073741824) : ∃ (i : Nat) (d : D) (c' : Cell), ds[i]? = some d ∧ RowOk c' ∧ cd_pick [.cel 0, .v (.lst ds)] [some c] = .ok d [some c'] := by
  have hp : 0 < ds.length := List.length_pos_iff.mpr h0
  obtain ⟨v, c', v0, v1, hc, e⟩ := taken h (m := ds.length) (by omega) (by omega)
  obtain ⟨i, d, e1, e2, e3⟩ := atI_of v0 v1
  refine ⟨i, d, c', e1, hc, denB_rt (ρ1 := [some (.cel 0), some (.v (.lst ds))]) (S1 := [some c']) ?_⟩
  have ec := callC2 (S := [some c]) (n := 0) (a := .int ds.length) rfl e
  simp [cb_pick, ec, e3]
/-! ### words -/
inductive Tk where
  | b (n : Nat) | l (h : Bool)
  deriving DecidableEq
def sH : D := .str "H"
def sV : D := .str "V"
def Tk.d : Tk → D
  | .b n => .int n
  | .l true => sH
  | .l false => sV
def wd (w : List Tk) : D := .tup (w.map Tk.d)
def dep : List Tk → Nat → Option Nat
  | [], k => some k
  | .b _ :: r, k => dep r (k + 1)
  | .l _ :: r, k => if 2 ≤ k then dep r (k - 1) else none
def nums : List Tk → List Nat
  | [] => []
  | .b n :: r => n :: nums r
  | .l _ :: r => nums r
theorem dep_append : ∀ (u v : List Tk) (k : Nat), dep (u ++ v) k = (dep u k).bind (dep v)
  | [], _, _ => rfl
  | .b _ :: r, v, k => by simp [dep, dep_append r v]
  | .l _ :: r, v, k => by
    simp only [List.cons_append, dep]
    split
    · exact dep_append r v _
    · rfl
theorem nums_append : ∀ (u v : List Tk), nums (u ++ v) = nums u ++ nums v
  | [], _ => rfl
  | .b _ :: r, v => by simp [nums, nums_append r v]
  | .l _ :: r, v => by simp [nums, nums_append r v]
theorem nums_le : ∀ (u : List Tk), (nums u).length ≤ u.length
  | [] => Nat.le_refl _
  | .b _ :: r => by simp [nums, nums_le r]
  | .l _ :: r => by simp only [nums, List.length_cons]; exact Nat.le_succ_of_le (nums_le r)
theorem dep_count : ∀ (u : List Tk) (k j : Nat), dep u k = some j → j + u.length = k + 2 * (nums u).length
  | [], k, j, h => by cases h; simp [nums]
  | .b _ :: r, k, j, h => by
    have := dep_count r (k + 1) j h
    simp [nums]; omega
  | .l _ :: r, k, j, h => by
    simp only [dep] at h
    split at h
    · have := dep_count r (k - 1) j h
      simp [nums]; omega
    · cases h
/-- a slicing word of so many blocks -/
structure Word (m : Nat) (w : List Tk) : Prop where
  pos : 1 ≤ m
  dep : dep w 0 = some 1
  nd : (nums w).Nodup
  lt : ∀ n ∈ nums w, n < m
  len : w.length = 2 * m - 1
theorem Word.nums {m : Nat} {w : List Tk} (h : Word m w) : (DL.nums w).length = m := by
  have := dep_count w 0 1 h.dep
  have := h.len
  have := h.pos
  omega
theorem okd_ints : ∀ (L : List Nat), (D.lst (L.map fun n : Nat => D.int (n : Int))).okd = true := by
  intro L
  have h1 : PyData.canLayAll0 (D.pys (L.map fun n : Nat => D.int (n : Int))) = true := by
    induction L with
    | nil => rfl
    | cons n L ih => exact ih
  have h2 : PyData.depthAll (D.pys (L.map fun n : Nat => D.int (n : Int))) = 0 := by
    induction L with
    | nil => rfl
    | cons n L ih =>
      have h1' : PyData.canLayAll0 (D.pys (L.map fun n : Nat => D.int (n : Int))) = true := h1
      show max 0 (PyData.depthAll (D.pys (L.map fun n : Nat => D.int (n : Int)))) = 0
      rw [ih h1']
      rfl
  show (PyData.canLayAll0 (D.pys (L.map fun n : Nat => D.int (n : Int))) && decide (PyData.depthAll (D.pys (L.map fun n : Nat => D.int (n : Int))) + 1 ≤ 64)) = true
  rw [h1, h2]
  rfl

def cb_word : DSn :=
  (mSeq (mSet 2 (mV (mOp gAdd (mC (.int 1)) (mCall cd_taken 2 (mConsE (mCel 0) (mConsE (mV (mVar 1)) mNilE))))))
  (mSeq (mPar3 4 5 6 (mConsE (mNewRg (mVar 2)) (mConsE (mV (mTup mNil)) (mConsE (mV (mC (.int 0))) mNilE))))
  (mSeq (mFor (mRg1 (mOp gSub (mOp gMul (mC (.int 2)) (mVar 2)) (mC (.int 1)))) (.nm 3) (mIfS (mAndT (mCmpL 4 gNe (mLst mNil)) (mOrT (mCmp gLt (mVar 6) (mC (.int 2))) (mCmp gEq (mCall cd_taken 2 (mConsE (mCel 0) (mConsE (mV (mC (.int 2))) mNilE))) (mC (.int 0))))) (mPar2 5 6 (mConsE (mV (mOp gAdd (mVar 5) (mTup (mCons (mMet 4 gPopAt (mCons (mCall cd_taken 2 (mConsE (mCel 0) (mConsE (mV (mBiC 4 gLen)) mNilE))) mNil)) mNil)))) (mConsE (mV (mOp gAdd (mVar 6) (mC (.int 1)))) mNilE))) (mPar2 5 6 (mConsE (mV (mOp gAdd (mVar 5) (mTup (mCons (mCall cd_pick 2 (mConsE (mCel 0) (mConsE (mV (mLst (mCons (mC (.str "H")) (mCons (mC (.str "V")) mNil)))) mNilE))) mNil)))) (mConsE (mV (mOp gSub (mVar 6) (mC (.int 1)))) mNilE)))))
  (mRet (mVar 5)))))
def cd_word : Den := denB 7 cb_word
def cb_turn : DSn := (mIfS (mAndT (mCmpL 4 gNe (mLst mNil)) (mOrT (mCmp gLt (mVar 6) (mC (.int 2))) (mCmp gEq (mCall cd_taken 2 (mConsE (mCel 0) (mConsE (mV (mC (.int 2))) mNilE))) (mC (.int 0))))) (mPar2 5 6 (mConsE (mV (mOp gAdd (mVar 5) (mTup (mCons (mMet 4 gPopAt (mCons (mCall cd_taken 2 (mConsE (mCel 0) (mConsE (mV (mBiC 4 gLen)) mNilE))) mNil)) mNil)))) (mConsE (mV (mOp gAdd (mVar 6) (mC (.int 1)))) mNilE))) (mPar2 5 6 (mConsE (mV (mOp gAdd (mVar 5) (mTup (mCons (mCall cd_pick 2 (mConsE (mCel 0) (mConsE (mV (mLst (mCons (mC (.str "H")) (mCons (mC (.str "V")) mNil)))) mNilE))) mNil)))) (mConsE (mV (mOp gSub (mVar 6) (mC (.int 1)))) mNilE))))
theorem turn_eq (ρ : DL.Env) (S : Store) : cb_turn ρ S = bindS (mAndT (mCmpL 4 gNe (mLst mNil)) (mOrT (mCmp gLt (mVar 6) (mC (.int 2))) (mCmp gEq (mCall cd_taken 2 (mConsE (mCel 0) (mConsE (mV (mC (.int 2))) mNilE))) (mC (.int 0)))) ρ S) ρ fun k S1 => if k = true then (mPar2 5 6 (mConsE (mV (mOp gAdd (mVar 5) (mTup (mCons (mMet 4 gPopAt (mCons (mCall cd_taken 2 (mConsE (mCel 0) (mConsE (mV (mBiC 4 gLen)) mNilE))) mNil)) mNil)))) (mConsE (mV (mOp gAdd (mVar 6) (mC (.int 1)))) mNilE))) ρ S1 else (mPar2 5 6 (mConsE (mV (mOp gAdd (mVar 5) (mTup (mCons (mCall cd_pick 2 (mConsE (mCel 0) (mConsE (mV (mLst (mCons (mC (.str "H")) (mCons (mC (.str "V")) mNil)))) mNilE))) mNil)))) (mConsE (mV (mOp gSub (mVar 6) (mC (.int 1)))) mNilE))) ρ S1 := rfl
@[simp] theorem ev_Par2 {i j : Nat} {fs : DAn} {ρ : DL.Env} {S : Store} : mPar2 i j fs ρ S = bindS (fs ρ S) ρ fun es S1 => match es with
  | [u, v] => .ok (.nx, (ρ.set i (some u)).set j (some v)) S1
  | _ => .bad := rfl
@[simp] theorem ev_Par3 {i j l : Nat} {fs : DAn} {ρ : DL.Env} {S : Store} : mPar3 i j l fs ρ S = bindS (fs ρ S) ρ fun es S1 => match es with
  | [u, v, w] => .ok (.nx, ((ρ.set i (some u)).set j (some v)).set l (some w)) S1
  | _ => .bad := rfl
/-- the slots in a turn -/
def eW (most many t : D) (u : List Tk) (k : Nat) : DL.Env := [some (.cel 0), some (.v most), some (.v many), some (.v t), some (.cel 1), some (.v (wd u)), some (.v (.int k))]
def cL (L : List Nat) : Cell := .lst (L.map fun n : Nat => D.int (n : Int))
theorem gNe_nil (L : List Nat) : gNe (.lst (L.map fun n : Nat => D.int (n : Int))) (.lst []) = some (decide (L ≠ [])) := by
  have e : gNe (.lst (L.map fun n : Nat => D.int (n : Int))) (.lst []) = some (!deq (.lst (L.map fun n : Nat => D.int (n : Int))) (.lst [])) := if_pos ⟨okd_ints L, okd_ints []⟩
  rw [e, deq_ll]
  cases L with
  | nil => rfl
  | cons n L => simp
theorem gEq_ii (m n : Int) : gEq (.int m) (.int n) = some (m == n) := rfl
theorem wd_len (u : List Tk) : (u.map Tk.d).length = u.length := List.length_map _
theorem add1 {u : List Tk} {t : Tk} (h : u.length + 1 ≤ lim) : gAdd (wd u) (.tup [t.d]) = some (wd (u ++ [t])) := by
  have e : gAdd (.tup (u.map Tk.d)) (.tup [t.d]) = some (.tup (u.map Tk.d ++ [t.d])) := g_addT (by simpa using h)
  unfold wd
  rw [e]
  simp
theorem lim_is : lim = 1000000 := rfl
theorem ixN_nat {n j : Nat} (h : j < n) : ixN n (j : Int) = some j := by
  unfold ixN
  rw [if_pos (by omega), if_pos (by omega)]
  simp
theorem erase_map {α β : Type} (f : α → β) : ∀ (L : List α) (j : Nat), (L.map f).eraseIdx j = (L.eraseIdx j).map f
  | [], _ => rfl
  | _ :: _, 0 => rfl
  | x :: L, j + 1 => by
    show f x :: (L.map f).eraseIdx j = f x :: (L.eraseIdx j).map f
    rw [erase_map f L j]
theorem erase_perm {α : Type} : ∀ {L : List α} {j : Nat} {n : α}, L[j]? = some n → L.Perm (n :: L.eraseIdx j)
  | [], _, _, h => by simp at h
  | x :: L, 0, n, h => by simp at h; subst h; exact .refl _
  | x :: L, j + 1, n, h => (List.Perm.cons x (erase_perm (L := L) (j := j) (by simpa using h))).trans (.swap n x _)
theorem pop_ok {L : List Nat} {v : Int} (h0 : 0 ≤ v) (h1 : v < L.length) (hl : L.length ≤ lim) : ∃ (j n : Nat), L[j]? = some n ∧ gPopAt (L.map fun n : Nat => D.int (n : Int)) [.int v] = some ((L.eraseIdx j).map fun n : Nat => D.int (n : Int), .int n) := by
  obtain ⟨j, rfl⟩ : ∃ j : Nat, v = (j : Int) := ⟨v.toNat, by omega⟩
  have hj : j < L.length := by omega
  refine ⟨j, L[j], List.getElem?_eq_getElem hj, ?_⟩
  have e : gPopAt (L.map fun n : Nat => D.int (n : Int)) [.int (j : Int)] = (ixN (L.map fun n : Nat => D.int (n : Int)).length j).bind fun k => ((L.map fun n : Nat => D.int (n : Int))[k]?).map fun d => ((L.map fun n : Nat => D.int (n : Int)).eraseIdx k, d) := if_pos (by simpa using hl)
  rw [e, ixN_nat (by simpa using hj)]
  simp [hj, erase_map]
/-- one turn -/
theorem turn_ok {most many t : D} {u : List Tk} {k m i : Nat} {L : List Nat} {c : Cell} (hc : RowOk c) (hd : dep u 0 = some k) (hp : (nums u ++ L).Perm (List.range m)) (hu : u.length = i) (hi : i < 2 * m - 1) (hm : m ≤ 100) :
    ∃ u' k' L' c', cb_turn (eW most many t u k) [some c, some (cL L)] = .ok (.nx, eW most many t u' k') [some c', some (cL L')] ∧ RowOk c' ∧ dep u' 0 = some k' ∧ (nums u' ++ L').Perm (List.range m) ∧ u'.length = i + 1 := by
  have hcnt := dep_count u 0 k hd
  have hlen : (nums u).length + L.length = m := by
    have := hp.length_eq
    simpa using this
  have hz : u.length + 1 ≤ lim := by rw [lim_is]; omega
  have letter : ∀ c, RowOk c → 2 ≤ k → (∀ ks, cb_turn (eW most many t u k) [some c, some (cL L)] = ks → ks = ks) → ∃ (b : Bool) (c' : Cell), RowOk c' ∧ (mPar2 5 6 (mConsE (mV (mOp gAdd (mVar 5) (mTup (mCons (mCall cd_pick 2 (mConsE (mCel 0) (mConsE (mV (mLst (mCons (mC (.str "H")) (mCons (mC (.str "V")) mNil)))) mNilE))) mNil)))) (mConsE (mV (mOp gSub (mVar 6) (mC (.int 1)))) mNilE))) (eW most many t u k) [some c, some (cL L)] = .ok (.nx, eW most many t (u ++ [.l b]) (k - 1)) [some c', some (cL L)] := by
    intro c hc hk _
    obtain ⟨j, d, c', e1, hc', e2⟩ := pick_spec hc (ds := [.str "H", .str "V"]) (by simp) (by decide)
    have ec := callC2 (S := [some c, some (cL L)]) (n := 0) rfl e2
    have hb : ∃ b : Bool, d = (Tk.l b).d := by
      match j, e1 with
      | 0, e1 => exact ⟨true, (Option.some.inj e1).symm⟩
      | 1, e1 => exact ⟨false, (Option.some.inj e1).symm⟩
      | j + 2, e1 => simp at e1
    obtain ⟨b, rfl⟩ := hb
    refine ⟨b, c', hc', ?_⟩
    have ek : (k : Int) - 1 = ((k - 1 : Nat) : Int) := by omega
    simp [eW, ec, add1 hz, lim_is, ek]
  have number : ∀ c, RowOk c → L ≠ [] → ∃ (n : Nat) (L' : List Nat) (c' : Cell), RowOk c' ∧ L.Perm (n :: L') ∧ (mPar2 5 6 (mConsE (mV (mOp gAdd (mVar 5) (mTup (mCons (mMet 4 gPopAt (mCons (mCall cd_taken 2 (mConsE (mCel 0) (mConsE (mV (mBiC 4 gLen)) mNilE))) mNil)) mNil)))) (mConsE (mV (mOp gAdd (mVar 6) (mC (.int 1)))) mNilE))) (eW most many t u k) [some c, some (cL L)] = .ok (.nx, eW most many t (u ++ [.b n]) (k + 1)) [some c', some (cL L')] := by
    intro c hc hL
    have hp1 : 0 < L.length := List.length_pos_iff.mpr hL
    obtain ⟨v, c', v0, v1, hc', e2⟩ := taken hc (m := L.length) (by omega) (by omega)
    obtain ⟨j, n, ej, ep⟩ := pop_ok v0 v1 (by rw [lim_is]; omega)
    have ec := callC2 (S := [some c, some (cL L)]) (n := 0) rfl e2
    refine ⟨n, L.eraseIdx j, c', hc', ?_, ?_⟩
    · exact erase_perm ej
    · have ad : gAdd (wd u) (.tup [.int (n : Int)]) = some (wd (u ++ [.b n])) := add1 (t := .b n) hz
      simp only [cL] at ec
      simp [eW, mMet, mBiC, cL, ec, ep, ad, lim_is]
  have useL : ∀ c, RowOk c → 2 ≤ k → ∃ u' k' L' c', (mPar2 5 6 (mConsE (mV (mOp gAdd (mVar 5) (mTup (mCons (mCall cd_pick 2 (mConsE (mCel 0) (mConsE (mV (mLst (mCons (mC (.str "H")) (mCons (mC (.str "V")) mNil)))) mNilE))) mNil)))) (mConsE (mV (mOp gSub (mVar 6) (mC (.int 1)))) mNilE))) (eW most many t u k) [some c, some (cL L)] = .ok (.nx, eW most many t u' k') [some c', some (cL L')] ∧ RowOk c' ∧ dep u' 0 = some k' ∧ (nums u' ++ L').Perm (List.range m) ∧ u'.length = i + 1 := by
    intro c hc hk
    obtain ⟨b, c', hc', e⟩ := letter c hc hk (fun _ _ => rfl)
    refine ⟨u ++ [.l b], k - 1, L, c', e, hc', ?_, ?_, by simp [hu]⟩
    · rw [dep_append, hd]
      show (if 2 ≤ k then dep [] (k - 1) else none) = _
      rw [if_pos hk]
      rfl
    · rw [nums_append]
      simpa [nums] using hp
  have useN : ∀ c, RowOk c → L ≠ [] → ∃ u' k' L' c', (mPar2 5 6 (mConsE (mV (mOp gAdd (mVar 5) (mTup (mCons (mMet 4 gPopAt (mCons (mCall cd_taken 2 (mConsE (mCel 0) (mConsE (mV (mBiC 4 gLen)) mNilE))) mNil)) mNil)))) (mConsE (mV (mOp gAdd (mVar 6) (mC (.int 1)))) mNilE))) (eW most many t u k) [some c, some (cL L)] = .ok (.nx, eW most many t u' k') [some c', some (cL L')] ∧ RowOk c' ∧ dep u' 0 = some k' ∧ (nums u' ++ L').Perm (List.range m) ∧ u'.length = i + 1 := by
    intro c hc hL
    obtain ⟨n, L', c', hc', hperm, e⟩ := number c hc hL
    refine ⟨u ++ [.b n], k + 1, L', c', e, hc', ?_, ?_, by simp [hu]⟩
    · rw [dep_append, hd]
      rfl
    · rw [nums_append]
      refine List.Perm.trans ?_ hp
      simp only [nums, List.append_assoc, List.singleton_append]
      exact List.Perm.append_left _ hperm.symm
  by_cases hL : L = []
  · have hk : 2 ≤ k := by
      subst hL
      simp at hlen
      omega
    obtain ⟨u', k', L', c', e, r⟩ := useL c hc hk
    refine ⟨u', k', L', c', ?_, r⟩
    rw [← e]
    have g := gNe_nil []
    subst hL
    have ht : mAndT (mCmpL 4 gNe (mLst mNil)) (mOrT (mCmp gLt (mVar 6) (mC (.int 2))) (mCmp gEq (mCall cd_taken 2 (mConsE (mCel 0) (mConsE (mV (mC (.int 2))) mNilE))) (mC (.int 0)))) (eW most many t u k) [some c, some (cL [])] = .ok false [some c, some (cL [])] := by
      simp only [cL, List.map_nil] at g ⊢
      simp [eW, mCmpL, g]
    rw [turn_eq, ht]
    rfl
  · have g := gNe_nil L
    rw [decide_eq_true hL] at g
    have ht : ∀ (tb : DTn), mAndT (mCmpL 4 gNe (mLst mNil)) tb (eW most many t u k) [some c, some (cL L)] = tb (eW most many t u k) [some c, some (cL L)] := by
      intro tb
      simp [eW, mCmpL, cL, g]
    rw [turn_eq, ht]
    by_cases hk : k < 2
    · have h2 : (mOrT (mCmp gLt (mVar 6) (mC (.int 2))) (mCmp gEq (mCall cd_taken 2 (mConsE (mCel 0) (mConsE (mV (mC (.int 2))) mNilE))) (mC (.int 0)))) (eW most many t u k) [some c, some (cL L)] = .ok true [some c, some (cL L)] := by
        have hk' : ((k : Int) < 2) := by omega
        simp [eW, hk']
      rw [h2]
      obtain ⟨u', k', L', c', e, r⟩ := useN c hc hL
      exact ⟨u', k', L', c', e, r⟩
    · obtain ⟨v, c1, v0, v1, hc1, e2⟩ := taken hc (m := 2) (by omega) (by omega)
      have ec := callC2 (S := [some c, some (cL L)]) (n := 0) rfl e2
      have h2 : (mOrT (mCmp gLt (mVar 6) (mC (.int 2))) (mCmp gEq (mCall cd_taken 2 (mConsE (mCel 0) (mConsE (mV (mC (.int 2))) mNilE))) (mC (.int 0)))) (eW most many t u k) [some c, some (cL L)] = .ok (v == 0) [some c1, some (cL L)] := by
        have hk' : ¬ ((k : Int) < 2) := by omega
        simp [eW, hk', ec, gEq_ii]
      rw [h2]
      by_cases hv : v = 0
      · obtain ⟨u', k', L', c', e, r⟩ := useN c1 hc1 hL
        refine ⟨u', k', L', c', ?_, r⟩
        rw [← e]
        subst hv
        rfl
      · obtain ⟨u', k', L', c', e, r⟩ := useL c1 hc1 (by omega)
        refine ⟨u', k', L', c', ?_, r⟩
        rw [← e]
        have : (v == 0) = false := by simpa using hv
        rw [this]
        rfl
theorem rg_nat (m : Nat) : rgD 0 m = (List.range m).map fun n : Nat => D.int (n : Int) := by
  unfold rgD
  simp
/-- a drawn word -/
theorem word_spec {c : Cell} (hc : RowOk c) {most : Nat} (h0 : 1 ≤ most) (h1 : most ≤ 100) : ∃ (m : Nat) (w : List Tk) (c' : Cell), m ≤ most ∧ Word m w ∧ RowOk c' ∧ cd_word [.cel 0, .v (.int most)] [some c] = .ok (wd w) [some c'] := by
  obtain ⟨v, c1, v0, v1, hc1, e1⟩ := taken hc (m := most) (by omega) (by omega)
  obtain ⟨m, em⟩ : ∃ m : Nat, 1 + v = (m : Int) := ⟨(1 + v).toNat, by omega⟩
  have hm1 : 1 ≤ m := by omega
  have hm2 : m ≤ most := by omega
  have ec := callC2 (S := [some c]) (n := 0) rfl e1
  let I : Nat → DL.Env → Store → Prop := fun i ρ S => ∃ (t : Option EV) (u : List Tk) (k : Nat) (L : List Nat) (c : Cell), ρ = [some (.cel 0), some (.v (.int most)), some (.v (.int m)), t, some (.cel 1), some (.v (wd u)), some (.v (.int k))] ∧ S = [some c, some (cL L)] ∧ RowOk c ∧ dep u 0 = some k ∧ (nums u ++ L).Perm (List.range m) ∧ u.length = i ∧ i ≤ 2 * m - 1
  have hI : ∀ i d ρ S, (rgD 0 (2 * (m : Int) - 1))[i]? = some d → I i ρ S → ∃ ρ1 ρ2 S2, asg (.nm 3) d ρ = some ρ1 ∧ cb_turn ρ1 S = .ok (.nx, ρ2) S2 ∧ I (i + 1) ρ2 S2 := by
    rintro i d ρ S hd ⟨t, u, k, L, c, rfl, rfl, hc, hk, hp, hu, hi⟩
    have hi' : i < 2 * m - 1 := by
      have := (List.getElem?_eq_some_iff.mp hd).1
      rw [rgD_length] at this
      omega
    obtain ⟨u', k', L', c', e, a1, a2, a3, a4⟩ := turn_ok (most := .int most) (many := .int m) (t := d) hc hk hp hu hi' (by omega)
    exact ⟨_, _, _, rfl, e, some (.v d), u', k', L', c', rfl, rfl, a1, a2, a3, a4, by omega⟩
  obtain ⟨ρ', S', e3, t, u, k, L, c', rfl, rfl, hc', hk, hp, hu, _⟩ := forL_nx I hI [some (.cel 0), some (.v (.int most)), some (.v (.int m)), none, some (.cel 1), some (.v (wd [])), some (.v (.int 0))] [some c1, some (cL (List.range m))] ⟨none, [], 0, List.range m, c1, rfl, rfl, hc1, rfl, by simp [nums], rfl, by omega⟩
  rw [rgD_length] at hu
  have hcnt := dep_count u 0 k hk
  have hlen : (nums u).length + L.length = m := by
    have := hp.length_eq
    simpa using this
  have hnil : L = [] := by
    have : (nums u).length ≤ m := by omega
    cases L with
    | nil => rfl
    | cons x L => simp at hlen; omega
  subst hnil
  rw [List.append_nil] at hp
  have hk1 : k = 1 := by simp at hlen; omega
  subst hk1
  refine ⟨m, u, c', hm2, ⟨hm1, hk, hp.nodup_iff.mpr List.nodup_range, fun n hn => by simpa using hp.mem_iff.mp hn, by omega⟩, hc', ?_⟩
  have er : mRg1 (mOp gSub (mOp gMul (mC (.int 2)) (mVar 2)) (mC (.int 1))) [some (.cel 0), some (.v (.int most)), some (.v (.int m)), none, some (.cel 1), some (.v (wd [])), some (.v (.int 0))] [some c1, some (cL (List.range m))] = .ok (rgD 0 (2 * (m : Int) - 1)) [some c1, some (cL (List.range m))] := by
    have h1 : (2 * (m : Int) - 1 ≤ 1000000000 ∧ -1000000000 ≤ 2 * (m : Int) - 1) := by omega
    simp [mRg1, g_mulL, h1]
  refine denB_rt (ρ1 := [some (.cel 0), some (.v (.int most)), some (.v (.int m)), t, some (.cel 1), some (.v (wd u)), some (.v (.int (1 : Nat)))]) (S1 := [some c', some (cL [])]) ?_
  refine (seq_nx (ρ1 := [some (.cel 0), some (.v (.int most)), some (.v (.int m)), none, none, none, none]) (S1 := [some c1]) ?_).trans ?_
  · simp [ec, em]
  refine (seq_nx (ρ1 := [some (.cel 0), some (.v (.int most)), some (.v (.int m)), none, some (.cel 1), some (.v (wd [])), some (.v (.int 0))]) (S1 := [some c1, some (cL (List.range m))]) ?_).trans ?_
  · have h1 : ((m : Int) ≤ 1000000 ∧ -1000000 ≤ (m : Int)) := by omega
    simp [mNewRg, h1, rg_nat, cL, wd, lim_is]
  refine (seq_nx (ρ1 := [some (.cel 0), some (.v (.int most)), some (.v (.int m)), t, some (.cel 1), some (.v (wd u)), some (.v (.int (1 : Nat)))]) (S1 := [some c', some (cL [])]) ?_).trans rfl
  rw [ev_For, er]
  exact e3
end DL

/-! the layer of data: exceptions of the program's own classes, raised -/
namespace DL
open PySem L2
theorem Reps.one1 {G : Gd} {HF : Hp} {vs : List V} {d : D} (r : Reps G HF vs [d]) : ∃ v, vs = [v] ∧ Rep G HF v d := by
  cases r with
  | cons h1 h2 => cases h2; exact ⟨_, rfl, h1⟩
/-- what __init__(self, f): self.f = f does with a fresh exception -/
def spInit (K : PySem.W.Frag) (f : Str) : Sp := fun vs H Q _ => ∃ (a C : Addr) (v : V), vs = [.ref a, v] ∧ OexC K C ∧ PySem.W.findIn K (.ref C) f = some none ∧ H a = some (exo a C none) ∧
  ∀ dx, H dx = none → dx ≠ a → Q .non (upd (upd H dx (exd dx [(f, v)])) a (exo a C (some dx)))
/-- a class of the program with such an __init__ -/
structure OwnE (P : Program) (w : World) (G : Gd) (base : Heap) (k : Nat) (x f : Str) : Prop where
  has : ∃ (C fI : Addr) (fd : FuncData) (ps : List Str), G.mg x = some (.ref C) ∧ OexC G.K C ∧ PySem.W.findIn G.K (.ref C) f = some none ∧ PySem.W.findIn G.K (.ref C) "__init__" = some (some (.ref fI)) ∧ PySem.W.typeIn G.K (.ref fI) = some (.type "function") ∧
    Binds G.K fd ps [] ∧ FnOk P w G.K G.mg base (L2.CX P w) k fI fd ps (spInit G.K f)
theorem OwnE.mono {P : Program} {w : World} {G : Gd} {base : Heap} {j k : Nat} {x f : Str} (o : OwnE P w G base j x f) (h : j ≤ k) : OwnE P w G base k x f := by
  obtain ⟨C, fI, fd, ps, h1, h2, h3, h4, h5, h6, h7⟩ := o.has
  exact ⟨C, fI, fd, ps, h1, h2, h3, h4, h5, h6, h7.mono h⟩
section
variable {X : Cx} {W : WD} {pos pos' p p2 : Pos} {a : Expr} {fa : DEn}
def mRaise1 (x f : Str) (fa : DEn) : DSn := fun ρ S => bindS (mCons fa mNil ρ S) ρ fun ds S1 => match ds with
  | [d] => .ok (.ex ⟨x, some (f, d)⟩, ρ) S1
  | _ => .bad
theorem passes0 : Passes (L2.CX X.prog X.w) X (fun _ _ _ => False) := fun _ _ _ _ _ _ _ ⟨_, _, _, _, _, _, _, _, _, _, _, _, h⟩ => h.elim
theorem heap_same {H1 : Hp} {a C dx : Addr} {u : HO} {fs : List (Str × V)} (ha : H1 a = none) (ne : dx ≠ a) : upd (del (upd (upd (upd H1 a (exo a C none)) dx u) a (exo a C (some dx))) a) dx (.xd fs) = upd H1 dx (.xd fs) := by
  funext b
  by_cases hb : b = dx
  · subst hb; rw [upd_same, upd_same]
  · rw [upd_ne hb, upd_ne hb]
    by_cases hc : b = a
    · subst hc; rw [del_same, ha]
    · rw [del_ne hc, upd_ne hc, upd_ne hb, upd_ne hc]
theorem sraise1 {x f : Str} {k : Nat} (o : OwnE X.prog X.w (gd X W) X.base k x f) (hr : Room (k + 1) X.A) (hc : X.calm = true) (tk : Takes X W.w) (ha : DE X W a fa) (hg : Gl X x := by rfl) (hdb : (x == ("__debug__" : Str)) = false := by decide)
    (he : starEach (a :: []) X.env = (false, eval a X.env) :: starEach [] X.env := by rfl) (hpl : (backTo pos' (starEach [] X.env)).any (·.1) = false := by rfl) :
    DS X W (.Raise (some (.Call (.Name x p) [a] [] pos')) none pos) (mRaise1 x f fa) := by
  obtain ⟨C, fI, fd, ps, gC, T, hno, iC, tI, hb, F⟩ := o.has
  refine PS.imp (ps_raise hc tk (pmk_oex (dvs := []) T iC tI F hr hb .nil passes0 hg gC (a1 ha a0 he) hdb he hpl)) fun D σ H ⟨HF, L, ρ, S, R, p⟩ => ⟨HF, L, ρ, S, R, PostS.bind p fun ds S1 vs H1 HF1 L1 e1 st1 R1 r1 p1 => ?_⟩
  split at p1
  · rename_i d
    obtain ⟨v, rfl, rv⟩ := Reps.one1 r1
    refine ⟨by simp, fun a ha => ?_⟩
    refine ⟨a, C, v, rfl, T, hno, upd_same, fun dx hdx ne => ⟨rfl, dx, [(f, v)], upd_same, ?_, ?_, ?_⟩⟩
    · rw [upd_ne ne, upd_same]
    · rw [upd_ne ne] at hdx; exact hdx
    · rw [upd_ne ne] at hdx
      rw [heap_same ha ne]
      obtain ⟨R2, st2⟩ := R1.frozen (o := .xd [(f, v)]) hdx
      exact p1 σ _ _ _ st2 R2 _ _ ⟨C, gC, rfl, dx, v, rfl, upd_same, Rep.mono (same_upd (R1.hf hdx)) rv⟩
  · exact p1.elim
/-- __init__(self, f): self.f = f keeps it -/
theorem fn_init {P : Program} {w : World} {G : Gd} {base : Heap} {f qual : Str} {st : Stmt} {fI : Addr} {fd : FuncData} {k : Nat} {q1 q2 q3 q4 : Pos} (F : Fun G.K "__init__" qual st fI fd) (Sc : FnScope ["self", f] ["self", f] (defScope st))
    (hb : defBody st = [.Assign [.Attribute (.Name "self" q1) f q2] (.Name f q3) q4]) (h0 : (f == ("__debug__" : Str)) = false := by decide) (h1 : (f == ("__classdict__" : Str)) = false := by decide)
    (hv0 : Vis (defScope st) "self" := by first | exact Or.inl rfl | exact Or.inr (Or.inl rfl) | exact Or.inr (Or.inr rfl)) (hv1 : Vis (defScope st) f := by first | exact Or.inl rfl | exact Or.inr (Or.inl rfl) | exact Or.inr (Or.inr rfl)) :
    FnOk P w G.K G.mg base (L2.CX P w) (k + 1) fI fd ["self", f] (spInit G.K f) := by
  refine F.okX Sc (fun vs H Q E ⟨a, C, v, e, _⟩ => by rw [e]; rfl) fun cdv A outer s H vs Q E hr h => ⟨tOst G.K f (tVar 0) (tVar 1), ?_, ?_⟩
  · rw [hb]
    exact pss_one (ps_ost (pe_var (i := 0) rfl hv0) (pe_var (i := 1) rfl hv1 h0 h1) rfl)
  · obtain ⟨a, C, v, rfl, T, hno, ha, hq⟩ := h
    refine ⟨v, rfl, .ref a, rfl, a, C, rfl, T, hno, .inl ⟨ha, fun dx n ne => hq dx n ne⟩⟩
/-- raise X('..'), X without an own __init__ -/
def mRaise0 (x : Str) : DSn := fun ρ S => .ok (.ex ⟨x, none⟩, ρ) S
structure OwnP (G : Gd) (x : Str) : Prop where
  has : ∃ (C : Addr) (bmB : List Value) (B newId initId : String), G.mg x = some (.ref C) ∧ ExcBaseFacts B newId initId bmB ∧ PySem.W.excIn G.K C bmB newId = true ∧ PySem.W.keepIn G.K (.ref C) = true ∧ PySem.W.subIn G.K (.ref C) (.type "BaseException") = some true ∧ PySem.W.typeIn G.K (.ref C) = some (.type "type")
theorem sraise0 {x m : Str} {j : Nat} (o : OwnP (gd X W) x) (hc : X.calm = true) (tk : Takes X W.w) (hg : Gl X x := by rfl) (hdb : (x == ("__debug__" : Str)) = false := by decide) :
    DS X W (.Raise (some (.Call (.Name x p) [.Constant (.str m) j p2] [] pos')) none pos) (mRaise0 x) := by
  obtain ⟨C, bmB, B, nw, ini, gC, F, q, kC, h1, h2⟩ := o.has
  refine PS.imp (ps_raise hc tk (pmk_own F q gC kC (raises_own h1 h2) hg hdb)) fun D σ H ⟨HF, L, ρ, S, R, p⟩ => ?_
  exact p.done R _ _ ⟨C, gC, rfl, rfl⟩
end
end DL
namespace DL
open PySem
/-- the statements of a class's text -/
def clsBody : Stmt → List Stmt
  | .ClassDef _ _ _ b _ _ _ _ _ _ _ => b
  | _ => []
end DL

/-! the layer of data: try: .. except X as e: .. -/
namespace DL
open PySem L2
/-! ### the caught exception's place in the representation -/
section
variable {K : PySem.W.Frag} {mg : Str → Option Value} {xi xj : Option (Addr × Value × Option Addr)} {HF : Hp}
theorem Rep.cx : ∀ {d : D} {v : V}, Rep ⟨K, mg, xi⟩ HF v d → Rep ⟨K, mg, xj⟩ HF v d := by
  intro d v h
  refine Rep.rec (motive_1 := fun v d _ => Rep ⟨K, mg, xj⟩ HF v d) (motive_2 := fun vs ds _ => Reps ⟨K, mg, xj⟩ HF vs ds) ?_ ?_ ?_ ?_ ?_ ?_ ?_ ?_ ?_ ?_ ?_ ?_ ?_ h
  · exact .non
  · exact fun b => .bl b
  · exact fun i => .int i
  · exact fun x => .str x
  · exact fun h1 _ h2 => .tup h1 h2
  · exact fun h1 _ h2 => .lst h1 h2
  · exact fun h1 _ h2 => .rol h1 h2
  · exact fun h1 => .fn h1
  · exact fun h1 => .rng h1
  · exact fun h1 h2 h3 _ h4 => .dck h1 h2 h3 h4
  · exact fun h1 h2 h3 _ h4 => .dct h1 h2 h3 h4
  · exact .nil
  · exact fun _ _ h1 h2 => .cons h1 h2
theorem Reps.cx : ∀ {ds : List D} {vs : List V}, Reps ⟨K, mg, xi⟩ HF vs ds → Reps ⟨K, mg, xj⟩ HF vs ds
  | [], _, h => by cases h; exact .nil
  | d :: ds, _, h => by
    cases h with
    | cons h1 h2 => exact .cons (Rep.cx h1) (Reps.cx h2)
theorem ExRep.cx {x : Exn} {cls : Value} {dd : Option Addr} (h : ExRep ⟨K, mg, xi⟩ x HF cls dd) : ExRep ⟨K, mg, xj⟩ x HF cls dd := by
  obtain ⟨C, h1, h2, h3⟩ := h
  refine ⟨C, h1, h2, ?_⟩
  cases q : x.arg with
  | none => rw [q] at h3; exact h3
  | some p =>
    rw [q] at h3
    obtain ⟨a, v, k1, k2, k3⟩ := h3
    exact ⟨a, v, k1, k2, Rep.cx k3⟩
def noex (ρ : DL.Env) : DL.Env := ρ.map fun o => match o with
  | some (.exn _) => none
  | some (.lam _ _) => none
  | o => o
variable {H : Hp} {L : List Addr} {σ : L2.St} {ρ : DL.Env} {S : Store}
theorem Rel.intoX (R : Rel ⟨K, mg, none⟩ H HF L σ ρ S) : Rel ⟨K, mg, xj⟩ H HF L σ ρ S := by
  refine ⟨R.sub, R.nd, R.sl, R.liv, R.tab, R.nft, fun n a c h1 h2 => ?_, R.el, fun i e h => ?_⟩
  · obtain ⟨q1, q2⟩ := R.cell n a c h1 h2
    refine ⟨q1, ?_⟩
    cases c with
    | lst ds =>
      obtain ⟨us, q3, q4⟩ := q2
      exact ⟨us, q3, (Reps.cx q4)⟩
    | dk kvs =>
      obtain ⟨us, q3, q5, q4⟩ := q2
      exact ⟨us, q3, q5, (Reps.cx q4)⟩
    | dt kvs =>
      obtain ⟨us, q3, q5, q4⟩ := q2
      exact ⟨us, q3, q5, (Reps.cx q4)⟩
  · obtain ⟨v, q1, q2⟩ := R.env i e h
    refine ⟨v, q1, ?_⟩
    cases e with
    | v d => exact Rep.cx q2
    | cel n => exact q2
    | exn x => obtain ⟨_, _, _, z, _⟩ := q2; cases z
    | lam ws ds => obtain ⟨_, _, _, _, z, _⟩ := q2; cases z
theorem Rel.outX (R : Rel ⟨K, mg, xj⟩ H HF L σ ρ S) (i : Nat) : Rel ⟨K, mg, none⟩ H HF L (σ.set i none) ((noex ρ).set i none) S := by
  refine ⟨R.sub, R.nd, R.sl, R.liv, R.tab, R.nft, fun n a c h1 h2 => ?_, ?_, fun j e h => ?_⟩
  · obtain ⟨q1, q2⟩ := R.cell n a c h1 h2
    refine ⟨q1, ?_⟩
    cases c with
    | lst ds =>
      obtain ⟨us, q3, q4⟩ := q2
      exact ⟨us, q3, (Reps.cx q4)⟩
    | dk kvs =>
      obtain ⟨us, q3, q5, q4⟩ := q2
      exact ⟨us, q3, q5, (Reps.cx q4)⟩
    | dt kvs =>
      obtain ⟨us, q3, q5, q4⟩ := q2
      exact ⟨us, q3, q5, (Reps.cx q4)⟩
  · unfold noex
    simpa using R.el
  · by_cases hj : j = i
    · subst hj
      by_cases hl : j < (noex ρ).length
      · rw [List.getElem?_set_self hl] at h; cases h
      · rw [List.getElem?_eq_none (by simpa using hl)] at h; cases h
    · rw [List.getElem?_set_ne (Ne.symm hj)] at h ⊢
      unfold noex at h
      rw [List.getElem?_map] at h
      cases q : ρ[j]? with
      | none => rw [q] at h; cases h
      | some o =>
        rw [q] at h
        cases o with
        | none => cases h
        | some e' =>
          cases e' with
          | v d =>
            cases h
            obtain ⟨v, q1, q2⟩ := R.env j _ q
            exact ⟨v, q1, Rep.cx q2⟩
          | cel n =>
            cases h
            exact R.env j _ q
          | exn x => cases h
          | lam ws ds => cases h
end
/-! ### the clause -/
/-- what an except clause does with an end of the body -/
def mTry (i : Nat) (c : Str → Option Bool) (fb fs : DSn) : DSn := fun ρ S => match fb ρ S with
  | .ok (.ex x, ρ1) S1 => match c x.cls with
    | some true => match fs (ρ1.set i (some (.exn x))) S1 with
      | .ok (.nx, ρ2) S2 => .ok (.nx, (noex ρ2).set i none) S2
      | .ok (.bk, ρ2) S2 => .ok (.bk, (noex ρ2).set i none) S2
      | .ok (.ct, ρ2) S2 => .ok (.ct, (noex ρ2).set i none) S2
      | .ok (.rt d, ρ2) S2 => .ok (.rt d, (noex ρ2).set i none) S2
      | _ => .bad
    | some false => .ok (.ex x, ρ1) S1
    | none => .bad
  | o => o
section
variable {X : Cx} {W : WD} {pos pos' np : Pos} {x n : Str} {i : Nat} {body suite : List Stmt} {b₀ : Stmt} {fb fs : DSn} {cat : Str → Option Bool} {Cx0 : Addr}
theorem stry (hxi : W.xi = none) (hs : X.stack = X.env :: X.outer) (hf : X.env.frame = some X.env.locals) (hN : X.N.Nodup) (hi : X.N[i]? = some n) (hln : X.env.kindOf n = some .local) (hc : Names X x (.ref Cx0)) (tk : Takes X W.w)
    (hcat : ∀ y b C, cat y = some b → X.mg y = some (.ref C) → PySem.W.exmOne X.K (.ref C) (.ref Cx0) = some b)
    (hb : ∀ (W' : WX) (pn : List (Addr × Obj)) (xe : Value → Shared → Prop), Takes (X.tr pn xe) W' → PassesOwn (model X.prog X.w) X.A X.env xe → DSs (X.tr pn xe) ⟨W', none⟩ body fb)
    (hsu : ∀ (a : Addr) (oe : Obj) (cls : Value) (d : Option Addr) (pn : List (Addr × Obj)), Zc cls d oe → (∃ vs, oe.data = .fields vs) → DSs (X.suite a ((a, oe) :: pn)) ⟨fun _ _ _ _ => False, some (a, cls, d)⟩ (b₀ :: suite) fs) :
    DS X W (.Try body [.ExceptHandler (some (.Name x np)) (some n) (b₀ :: suite) pos'] [] [] pos) (mTry i cat fb fs) := by
  obtain ⟨Ww, Wx⟩ := W
  obtain rfl : Wx = none := hxi
  refine PS.imp (ps_try_as (i := i) (tb := fun W' => tS (gd X ⟨W', none⟩) ⟨W', none⟩ fb) (ts := fun a cls d => tS (gd X ⟨fun _ _ _ _ => False, some (a, cls, d)⟩) ⟨fun _ _ _ _ => False, some (a, cls, d)⟩ fs) hs hf hN hi hln hc tk hb hsu) fun D σ H ⟨HF, L, ρ, S, R, p⟩ => ⟨HF, L, ρ, S, R, ?_⟩
  unfold mTry at p
  cases q : fb ρ S with
  | bad => rw [q] at p; exact p.elim
  | ex y S1 => rw [q] at p; exact p.elim
  | ok cr S1 =>
    obtain ⟨c, ρ1⟩ := cr
    rw [q] at p
    intro σ1 H1 HF1 L1 st1 R1
    cases c with
    | nx => exact p σ1 H1 HF1 L1 st1 R1
    | bk => exact p σ1 H1 HF1 L1 st1 R1
    | ct => exact p σ1 H1 HF1 L1 st1 R1
    | rt d => exact p σ1 H1 HF1 L1 st1 R1
    | ex y =>
      intro cls dd ex
      obtain ⟨C, gC, eC, _⟩ := id ex
      dsimp only at p
      cases hq : cat y.cls with
      | none => rw [hq] at p; exact p.elim
      | some b =>
        rw [hq] at p
        subst eC
        refine ⟨b, hcat _ _ _ hq gC, fun e a ha => ?_, fun e => ?_⟩
        · subst e
          dsimp only at p
          refine ⟨HF1, L1, ρ1.set i (some (.exn y)), S1, (R1.intoX (xj := some (a, .ref C, dd))).store (e := .exn y) ⟨a, .ref C, dd, rfl, rfl, ExRep.cx ex⟩ i, ?_⟩
          cases qs : fs (ρ1.set i (some (.exn y))) S1 with
          | bad => rw [qs] at p; exact p.elim
          | ex z S2 => rw [qs] at p; exact p.elim
          | ok cr S2 =>
            obtain ⟨c, ρ2⟩ := cr
            rw [qs] at p
            intro σ2 H2 HF2 L2 st2 R2
            cases c with
            | nx => exact p _ _ _ _ (st1.trans st2) (R2.outX i)
            | bk => exact p _ _ _ _ (st1.trans st2) (R2.outX i)
            | ct => exact p _ _ _ _ (st1.trans st2) (R2.outX i)
            | rt d => exact fun v rv => p _ _ _ _ (st1.trans st2) (R2.outX i) v (Rep.cx rv)
            | ex z => exact p.elim
        · subst e
          exact p σ1 H1 HF1 L1 st1 R1 _ _ ex
end
/-! ### isinstance(e, X), e.f -/
/-- isinstance(e, c), e the exception that the suite holds, with a dict or without -/
def rIsX (K : PySem.W.Frag) (cls : Value) (dd : Option Addr) (a : Addr) : List V → Hp → VK → Prop := fun xs H Q => ∃ (c : V) (cv : Value) (b : Bool) (C : Addr), xs = [.ref a, c] ∧ cls = .ref C ∧ ExcC K C ∧ (dd = none ∨ ∃ da fs, dd = some da ∧ H da = some (.xd fs)) ∧
  (∀ u, RelV c u → u = cv) ∧ PySem.W.kitOne K (.ref C) cv = some b ∧ Q (.bl b) H
theorem call_isX {X : Cx} {a : Addr} {oe : Obj} {cls : Value} {dd : Option Addr} {pn : List (Addr × Obj)} (hz : Zc cls dd oe) (hf : ∃ vs, oe.data = .fields vs) : CallR (X.suite a ((a, oe) :: pn)) (.builtin "isinstance") (rIsX X.K cls dd a) := by
  intro pn0 s σ H xs us Q I rv hx0
  obtain ⟨c, cv, b, C, rfl, eC, XC, hd, hcv, e, q⟩ := hx0
  subst eC
  cases rv with
  | cons rx rr =>
    cases rr with
    | cons rt rr =>
      cases rr
      cases rx
      have ec := hcv _ rt
      subst ec
      have hpin := (I.pin (a, oe) (List.mem_append.mpr (Or.inl List.mem_cons_self))).1
      obtain ⟨vs, hv⟩ := hf
      obtain ⟨od, J⟩ : ∃ od, PySem.W.InstAt s.heap a oe C od := by
        rcases hd with hd | ⟨da, fs, hd, ea⟩
        · refine ⟨none, ?_⟩
          subst hd
          obtain ⟨g1, g2, g3, g4⟩ := oe
          obtain ⟨h1, h2⟩ := hz
          dsimp only at h1 h2 hv
          subst h1 h2 hv
          exact ⟨hpin, rfl, rfl, trivial⟩
        · subst hd
          have hx : ObjOk X.prog X.w H s.heap da (.xd fs) := I.hok da _ ea
          obtain ⟨mA, hns, hr⟩ := hx
          obtain ⟨ob, hob, hlo⟩ := lookIn_ns hns
          exact ⟨some ob, hpin, hz.1, by unfold PySem.W.notCls; rw [hv] <;> rfl, by rw [hz.2]; exact hob⟩
      have hcl : (PySem.W.clsIn X.K C).isSome = true := by
        obtain ⟨cd, hc, _⟩ := PySem.W.any_some XC.hd
        rw [hc]; rfl
      exact PySem.W.kia_one (PySem.W.kitx_exc hcl XC.hg XC.hk XC.hs XC.ha XC.hn XC.ht XC.hm) I.kIn J e (fun z => nomatch z) fun tk => ⟨.bl b, H, I.kept (t' := tk) fun _ _ z => z, rfl, q⟩
/-- which classes' exceptions are of which classes -/
structure XTab (K : PySem.W.Frag) (mg : Str → Option Value) (tab : Str → Str → Option Bool) : Prop where
  is : ∀ y t b, tab y t = some b → ∀ C, mg y = some (.ref C) → ExcC K C ∧ ∃ CT, mg t = some (.ref CT) ∧ PySem.W.kitOne K (.ref C) (.ref CT) = some b
def mIsE (i : Nat) (tab : Str → Str → Option Bool) (t : Str) : DEn := fun ρ S => match ρ[i]? with
  | some (some (.exn x)) => lift ((tab x.cls t).map D.bl) S
  | _ => .bad
/-- which classes' exceptions have which field -/
structure XFld (K : PySem.W.Frag) (mg : Str → Option Value) (fl : Str → Str → Bool) : Prop where
  is : ∀ y f, fl y f = true → ∀ C, mg y = some (.ref C) → XfC K C ∧ PySem.W.findIn K (.ref C) f = some none
def mXf (i : Nat) (fl : Str → Str → Bool) (f : Str) : DEn := fun ρ S => match ρ[i]? with
  | some (some (.exn x)) => match x.arg with
    | some (g, d) => if fl x.cls f = true ∧ g = f then .ok d S else .bad
    | none => .bad
  | _ => .bad
section
variable {X : Cx} {pos p pe pt : Pos} {n t f : Str} {i : Nat} {tab : Str → Str → Option Bool} {a : Addr} {oe : Obj} {cls : Value} {dd : Option Addr} {pn : List (Addr × Obj)} {Ww : Value → Option Addr → L2.St → Hp → Prop}
theorem xisE (i : Nat) (T : XTab X.K X.mg tab) (CT : Addr) (gT : X.mg t = some (.ref CT)) (hz : Zc cls dd oe) (hf : ∃ vs, oe.data = .fields vs) (hm : X.mg "isinstance" = none) (hN : X.N[i]? = some n := by rfl)
    (hv : Vis X.env.scope n := by first | exact Or.inl rfl | exact Or.inr (Or.inl rfl) | exact Or.inr (Or.inr rfl)) (hg : Gl X "isinstance" := by rfl) (hgT : Gl X t := by rfl) (hd : (n == ("__debug__" : Str)) = false := by decide) (hcd : (n == ("__classdict__" : Str)) = false := by decide) (hdT : (t == ("__debug__" : Str)) = false := by decide)
    (he : starEach [Expr.Name n pe, .Name t pt] X.env = (false, eval (.Name n pe) X.env) :: starEach [.Name t pt] X.env := by rfl) (he2 : starEach [.Name t pt] X.env = (false, eval (.Name t pt) X.env) :: starEach [] X.env := by rfl) (hpl : (backTo pos (starEach [.Name t pt] X.env)).any (·.1) = false := by rfl) :
    DE (X.suite a ((a, oe) :: pn)) ⟨Ww, some (a, cls, dd)⟩ (.Call (.Name "isinstance" p) [.Name n pe, .Name t pt] [] pos) (mIsE i tab t) := by
  refine PE.imp (pe_callB (X := X.suite a ((a, oe) :: pn)) (call_isX (X := X) hz hf) hg hm PyProof.Rows.boot_isinstance (pa_cons (X := X.suite a ((a, oe) :: pn)) (pe_var (X := X.suite a ((a, oe) :: pn)) (i := i) hN hv hd hcd) (pa_cons (X := X.suite a ((a, oe) :: pn)) (pe_glob (X := X.suite a ((a, oe) :: pn)) (v := .ref CT) hgT gT rfl hdT) pa_nil he2) he) (by decide) (by decide) he hpl) fun σ H Q ⟨HF, L, ρ, S, R, q⟩ => ?_
  unfold mIsE at q
  split at q
  · rename_i x e
    obtain ⟨v, h1, a', cls', dd', h2, h3, h4⟩ := R.env i _ e
    cases h2
    obtain ⟨d, ed, q2⟩ := q.lift
    cases et : tab x.cls t with
    | none => rw [et] at ed; cases ed
    | some b =>
      rw [et] at ed
      cases ed
      obtain ⟨C, gC, eC, harg⟩ := h4
      obtain ⟨XC, CT', gT', hk⟩ := T.is _ _ _ et C gC
      have : CT' = CT := by rw [gT] at gT'; cases gT'; rfl
      subst this
      refine ⟨v, h1, ?_⟩
      subst h3
      refine ⟨.ref CT', .ref CT', b, C, rfl, eC, XC, ?_, fun u hu => hu, hk, q2.done R .no (.bl b)⟩
      cases qx : x.arg with
      | none => rw [qx] at harg; exact .inl harg
      | some g =>
        rw [qx] at harg
        obtain ⟨da, w, k1, k2, _⟩ := harg
        exact .inr ⟨da, _, k1, R.sub _ _ k2⟩
  · exact q.elim
theorem xxf {fl : Str → Str → Bool} (i : Nat) (T : XFld X.K X.mg fl) (hz : Zc cls dd oe) (hf : ∃ vs, oe.data = .fields vs) (hN : X.N[i]? = some n := by rfl)
    (hv : Vis X.env.scope n := by first | exact Or.inl rfl | exact Or.inr (Or.inl rfl) | exact Or.inr (Or.inr rfl)) (hd : (n == ("__debug__" : Str)) = false := by decide) (hcd : (n == ("__classdict__" : Str)) = false := by decide)
    (hb : attributeBase (.Name n pe) f X.env (eval (.Name n pe) X.env) = eval (.Name n pe) X.env := by rfl) :
    DE (X.suite a ((a, oe) :: pn)) ⟨Ww, some (a, cls, dd)⟩ (.Attribute (.Name n pe) f pos) (mXf i fl f) := by
  have key : ∀ {σ : L2.St} {H : Hp} {Q : VK}, tD (gd (X.suite a ((a, oe) :: pn)) ⟨Ww, some (a, cls, dd)⟩) ⟨Ww, some (a, cls, dd)⟩ (mXf i fl f) σ H Q →
      ∃ C, cls = .ref C ∧ (XfC X.K C ∧ PySem.W.findIn X.K (.ref C) f = some none) ∧ tXf a cls dd C f (tVar i) σ H Q := by
    intro σ H Q ⟨HF, L, ρ, S, R, q⟩
    unfold mXf at q
    split at q
    · rename_i x e
      obtain ⟨v, h1, a', cls', dd', h2, h3, h4⟩ := R.env i _ e
      cases h2
      obtain ⟨C, gC, eC, harg⟩ := h4
      cases qx : x.arg with
      | none => rw [qx] at q; exact q.elim
      | some p =>
        obtain ⟨g, d⟩ := p
        rw [qx] at q harg
        dsimp only at q harg
        split at q
        · rename_i hh
          obtain ⟨hfl, rfl⟩ := hh
          obtain ⟨da, w, k1, k2, k3⟩ := harg
          refine ⟨C, eC, T.is _ _ hfl C gC, v, h1, h3, eC, da, _, w, k1, R.sub _ _ k2, ?_, q.done R .no k3⟩
          simp
        · exact q.elim
    · exact q.elim
  by_cases hC : ∃ C, cls = .ref C ∧ (XfC X.K C ∧ PySem.W.findIn X.K (.ref C) f = some none)
  · obtain ⟨C, eC, h1, h2⟩ := hC
    refine PE.imp (pe_xf (X := X) h1 h2 hz hf (pe_var (X := X.suite a ((a, oe) :: pn)) (i := i) hN hv hd hcd) hb) fun σ H Q h => ?_
    obtain ⟨C', eC', _, k⟩ := key h
    rw [eC] at eC'
    cases eC'
    exact k
  · refine ⟨fun pins s σ H Q I h => ?_⟩
    obtain ⟨C', eC', h1, _⟩ := key h
    exact absurd ⟨C', eC', h1⟩ hC
end
end DL

/-! the layer of data: comprehensions of two clauses -/
namespace DL
open PySem PySem.Spec PyProof.Rows L2
def lcL2 (t : Tg) (tt : DTn) (fi : DDn) (vs1 : List Nat) (t1 : Tg) (tt1 : DTn) (fe : DEn) (ρ : DL.Env) : List D → Store → List D → Out (List D)
  | [], S, acc => .ok acc S
  | d :: ds, S, acc => match asg t d ρ with
    | none => .bad
    | some ρ1 => (tt ρ1 S).bd fun b S1 => if b = true then (fi ρ1 S1).bd fun es S2 => (lcL t1 tt1 fe (wipeE ρ1 vs1) es S2 acc).bd fun acc2 S3 => lcL2 t tt fi vs1 t1 tt1 fe ρ ds S3 acc2 else lcL2 t tt fi vs1 t1 tt1 fe ρ ds S1 acc
def mLc2 (fi : DDn) (t : Tg) (tt : DTn) (fi1 : DDn) (vs1 : List Nat) (t1 : Tg) (tt1 : DTn) (fe : DEn) (vs : List Nat) : DEn := fun ρ S => (fi ρ S).bind fun ds S1 => (lcL2 t tt fi1 vs1 t1 tt1 fe (wipeE ρ vs) ds S1 []).bind fun ys S2 => .ok (.lst ys) S2
section
variable {X : Cx} {W : WD} {pos : Pos} {a b c : Expr} {fa fb fc : DEn} {es : List Expr} {tg tg1 : Expr}
theorem lc2_read {fi fi1 : DDn} {t t1 : Tg} {tt tt1 : DTn} {fe : DEn} {vs vs1 : List Nat} (hsl : ∀ i ∈ t.slots, i ∈ vs) (hsl1 : ∀ i ∈ t1.slots, i ∈ vs1) {σ : L2.St} {H : Hp} {Q : VK} (h : tD (gd X W) W (mLc2 fi t tt fi1 vs1 t1 tt1 fe vs) σ H Q) :
    tLc2 (tI (gd X W) W fi) (tgG X.K t) (tT (gd X W) W.z tt) (tI (gd X W) W.z fi1) (tgG X.K t1) (tT (gd X W) W.z tt1) (tD (gd X W) W.z fe) vs vs1 σ H Q := by
  obtain ⟨HF, L, ρ, S, R, p⟩ := h
  refine ⟨HF, L, ρ, S, R, Post.bind p fun ds S1 J H1 HF1 L1 e1 st1 R1 rJ p1 => fun Dl hD => ?_⟩
  have hDL := R1.out hD
  have hDF := R1.hf hD
  refine ⟨fun i m Hh => m = ds.length - i ∧ i ≤ ds.length ∧ ∃ HFh Lh Sh acc vacc, Rel (gd X W) Hh HFh Lh σ ρ Sh ∧ Step H1 HF1 L1 Hh HFh Lh ∧ Hh Dl = some (.lst vacc) ∧ HFh Dl = none ∧ Dl ∉ Lh ∧ Reps (gd X W) HFh vacc acc ∧
    Post (gd X W) W σ ρ H1 HF1 L1 (fun HF' _ v d => Rep (gd X W) HF' v d) Q ((lcL2 t tt fi1 vs1 t1 tt1 fe (wipeE ρ vs) (ds.drop i) Sh acc).bind fun ys S2 => .ok (.lst ys) S2), ⟨ds.length, by simp, Nat.zero_le _, HF1, L1, S1, [], [], R1.aside hDL hDF (by rw [hD]; simp), Step.put Step.refl hD, upd_same, hDF, hDL, .nil, by simpa using p1⟩, ?_⟩
  rintro i m Hh ⟨rfl, hi, HFh, Lh, Sh, acc, vacc, Rh, sth, hv, hFv, hLv, ra, ph⟩
  have s01 : Same HF1 HFh := sth.fro
  by_cases hlt : i < ds.length
  · refine .inr ⟨rJ.go i Hh HFh s01 Rh.sub hlt, fun H' => (ds.length - (i + 1)) = ds.length - (i + 1) ∧ i + 1 ≤ ds.length ∧ ∃ HFh Lh Sh acc vacc, Rel (gd X W) H' HFh Lh σ ρ Sh ∧ Step H1 HF1 L1 H' HFh Lh ∧ H' Dl = some (.lst vacc) ∧ HFh Dl = none ∧ Dl ∉ Lh ∧ Reps (gd X W) HFh vacc acc ∧
      Post (gd X W) W σ ρ H1 HF1 L1 (fun HF' _ v d => Rep (gd X W) HF' v d) Q ((lcL2 t tt fi1 vs1 t1 tt1 fe (wipeE ρ vs) (ds.drop (i + 1)) Sh acc).bind fun ys S2 => .ok (.lst ys) S2), fun H' hw => ⟨_, by omega, hw⟩, fun x H2 hy => ?_⟩
    have ed : ds.drop i = ds[i] :: ds.drop (i + 1) := List.drop_eq_getElem_cons hlt
    rw [ed] at ph
    obtain ⟨HF2, al, rx⟩ := rJ.yld i x Hh HFh H2 ds[i] s01 Rh.sub (List.getElem?_eq_getElem hlt) hy
    obtain ⟨R2, st2⟩ := Rh.al al
    have nl : ∀ xs, Nt (.lst xs) := fun _ _ h => by cases h
    have hv2 : H2 Dl = some (.lst vacc) := st2.keep Dl _ hLv (nl _) hv
    have hF2 := st2.new Dl _ hLv hFv (by trivial) hv
    have Rw := R2.wipe vs
    have ph : Post (gd X W) W σ ρ H1 HF1 L1 (fun HF' _ v d => Rep (gd X W) HF' v d) Q (Out.bind (match asg t ds[i] (wipeE ρ vs) with
      | none => .bad
      | some ρ1 => (tt ρ1 Sh).bd fun b S1 => if b = true then (fi1 ρ1 S1).bd fun es S2 => (lcL t1 tt1 fe (wipeE ρ1 vs1) es S2 acc).bd fun acc2 S3 => lcL2 t tt fi1 vs1 t1 tt1 fe (wipeE ρ vs) (ds.drop (i + 1)) S3 acc2 else lcL2 t tt fi1 vs1 t1 tt1 fe (wipeE ρ vs) (ds.drop (i + 1)) S1 acc) fun ys S2 => .ok (.lst ys) S2) := ph
    cases ea : asg t ds[i] (wipeE ρ vs) with
    | none => rw [ea] at ph; exact ph.elim
    | some ρ1 =>
      rw [ea] at ph
      dsimp only at ph
      refine tgG_ok (G := gd X W) t Rw rx ea fun ws hws R3 => ⟨?_, ?_⟩
      · rw [wipe_sets vs ws _ fun p hp => hsl _ (hws p hp), wipe_wipe]
      generalize sets (L2.wipe σ vs) ws = σ2 at R3 ⊢
      refine ⟨HF2, Lh, ρ1, Sh, R3, ?_⟩
      cases et : tt ρ1 Sh with
      | bad => rw [et] at ph; exact ph.elim
      | ex x S' => rw [et] at ph; exact ph.elim
      | ok bb S3 =>
        rw [et] at ph
        intro b' H3 HF3 L3 st3 R4 eb
        cases eb
        have hv3 := st3.keep Dl _ hLv (nl _) hv2
        have hF3 := st3.new Dl _ hLv hF2 (by trivial) hv2
        have hL3 : Dl ∉ L3 := st3.keepL hLv hv2
        cases bb with
        | false =>
          rw [if_neg Bool.false_ne_true]
          exact ⟨rfl, hlt, HF3, L3, S3, acc, vacc, R2.reenv st3 R4, sth.trans (st2.trans st3), hv3, hF3, hL3, ra.mono (st2.fro.trans st3.fro), ph⟩
        | true =>
          rw [if_pos rfl]
          refine ⟨HF3, L3, ρ1, S3, R4, ?_⟩
          have ph : Post (gd X W) W σ ρ H1 HF1 L1 (fun HF' _ v d => Rep (gd X W) HF' v d) Q (Out.bind ((fi1 ρ1 S3).bd fun es S2 => (lcL t1 tt1 fe (wipeE ρ1 vs1) es S2 acc).bd fun acc2 S3 => lcL2 t tt fi1 vs1 t1 tt1 fe (wipeE ρ vs) (ds.drop (i + 1)) S3 acc2) fun ys S2 => .ok (.lst ys) S2) := ph
          cases ef : fi1 ρ1 S3 with
          | bad => rw [ef] at ph; exact ph.elim
          | ex x S' => rw [ef] at ph; exact ph.elim
          | ok es4 S4 =>
            rw [ef] at ph
            intro J1 H4 HF4 L4 st4 R5 rJ1
            have ph : Post (gd X W) W σ ρ H1 HF1 L1 (fun HF' _ v d => Rep (gd X W) HF' v d) Q (Out.bind ((lcL t1 tt1 fe (wipeE ρ1 vs1) es4 S4 acc).bd fun acc2 S3 => lcL2 t tt fi1 vs1 t1 tt1 fe (wipeE ρ vs) (ds.drop (i + 1)) S3 acc2) fun ys S2 => .ok (.lst ys) S2) := ph
            have hv4 := st4.keep Dl _ hL3 (nl _) hv3
            have hF4 := st4.new Dl _ hL3 hF3 (by trivial) hv3
            have hL4 : Dl ∉ L4 := st4.keepL hL3 hv3
            have Ro4 := (R2.reenv st3 R4).reenv st4 R5
            have sth4 := sth.trans (st2.trans (st3.trans st4))
            have ra4 := ra.mono (st2.fro.trans (st3.fro.trans st4.fro))
            refine ⟨fun j k Hh => k = es4.length - j ∧ j ≤ es4.length ∧ ∃ HFh Lh Sh acc vacc, Rel (gd X W) Hh HFh Lh σ ρ Sh ∧ Rel (gd X W) Hh HFh Lh σ2 ρ1 Sh ∧ Same HF4 HFh ∧ Step H1 HF1 L1 Hh HFh Lh ∧ Hh Dl = some (.lst vacc) ∧ HFh Dl = none ∧ Dl ∉ Lh ∧ Reps (gd X W) HFh vacc acc ∧
              Post (gd X W) W σ ρ H1 HF1 L1 (fun HF' _ v d => Rep (gd X W) HF' v d) Q (Out.bind ((lcL t1 tt1 fe (wipeE ρ1 vs1) (es4.drop j) Sh acc).bd fun acc2 S3 => lcL2 t tt fi1 vs1 t1 tt1 fe (wipeE ρ vs) (ds.drop (i + 1)) S3 acc2) fun ys S2 => .ok (.lst ys) S2),
              ⟨es4.length, by simp, Nat.zero_le _, HF4, L4, S4, acc, vacc, Ro4, R5, Same.refl _, sth4, hv4, hF4, hL4, ra4, by simpa using ph⟩, ?_⟩
            clear ph hv4 hF4 hL4 Ro4 sth4 ra4
            rintro j k Hk ⟨rfl, hj, HFk, Lk, Sk, acck, vacck, Rok, Rk, s4k, stk, hvk, hFk, hLk, rak, phk⟩
            by_cases hjl : j < es4.length
            · refine .inr ⟨rJ1.go j Hk HFk s4k Rk.sub hjl, fun H' => ∃ HFh Lh Sh acc vacc, Rel (gd X W) H' HFh Lh σ ρ Sh ∧ Rel (gd X W) H' HFh Lh σ2 ρ1 Sh ∧ Same HF4 HFh ∧ Step H1 HF1 L1 H' HFh Lh ∧ H' Dl = some (.lst vacc) ∧ HFh Dl = none ∧ Dl ∉ Lh ∧ Reps (gd X W) HFh vacc acc ∧
                Post (gd X W) W σ ρ H1 HF1 L1 (fun HF' _ v d => Rep (gd X W) HF' v d) Q (Out.bind ((lcL t1 tt1 fe (wipeE ρ1 vs1) (es4.drop (j + 1)) Sh acc).bd fun acc2 S3 => lcL2 t tt fi1 vs1 t1 tt1 fe (wipeE ρ vs) (ds.drop (i + 1)) S3 acc2) fun ys S2 => .ok (.lst ys) S2), fun H' hw => ⟨es4.length - (j + 1), by omega, rfl, hjl, hw⟩, fun x5 H5 hy5 => ?_⟩
              have ed1 : es4.drop j = es4[j] :: es4.drop (j + 1) := List.drop_eq_getElem_cons hjl
              rw [ed1] at phk
              obtain ⟨HF5, al5, rx5⟩ := rJ1.yld j x5 Hk HFk H5 es4[j] s4k Rk.sub (List.getElem?_eq_getElem hjl) hy5
              obtain ⟨R6, st6⟩ := Rk.al al5
              have Ro6 := Rok.reenv st6 R6
              have hv6 := st6.keep Dl _ hLk (nl _) hvk
              have hF6 := st6.new Dl _ hLk hFk (by trivial) hvk
              have Rw6 := R6.wipe vs1
              have phk : Post (gd X W) W σ ρ H1 HF1 L1 (fun HF' _ v d => Rep (gd X W) HF' v d) Q (Out.bind (Out.bd (match asg t1 es4[j] (wipeE ρ1 vs1) with
                | none => .bad
                | some ρ1 => (tt1 ρ1 Sk).bd fun b S1 => if b = true then (fe ρ1 S1).bd fun y S2 => if acck.length < lim then lcL t1 tt1 fe (wipeE _ vs1) (es4.drop (j + 1)) S2 (acck ++ [y]) else .bad else lcL t1 tt1 fe (wipeE _ vs1) (es4.drop (j + 1)) S1 acck) fun acc2 S3 => lcL2 t tt fi1 vs1 t1 tt1 fe (wipeE ρ vs) (ds.drop (i + 1)) S3 acc2) fun ys S2 => .ok (.lst ys) S2) := phk
              cases ea1 : asg t1 es4[j] (wipeE ρ1 vs1) with
              | none => rw [ea1] at phk; exact phk.elim
              | some ρ2 =>
                rw [ea1] at phk
                dsimp only at phk
                refine tgG_ok (G := gd X W) t1 Rw6 rx5 ea1 fun ws1 hws1 R7 => ⟨?_, ?_⟩
                · rw [wipe_sets vs1 ws1 _ fun p hp => hsl1 _ (hws1 p hp), wipe_wipe]
                refine ⟨HF5, Lk, ρ2, Sk, R7, ?_⟩
                cases et1 : tt1 ρ2 Sk with
                | bad => rw [et1] at phk; exact phk.elim
                | ex x S' => rw [et1] at phk; exact phk.elim
                | ok bb S8 =>
                  rw [et1] at phk
                  intro b' H8 HF8 L8 st8 R8 eb
                  cases eb
                  have hv8 := st8.keep Dl _ hLk (nl _) hv6
                  have hF8 := st8.new Dl _ hLk hF6 (by trivial) hv6
                  have hL8 : Dl ∉ L8 := st8.keepL hLk hv6
                  cases bb with
                  | false =>
                    rw [if_neg Bool.false_ne_true]
                    exact ⟨HF8, L8, S8, acck, vacck, Ro6.reenv st8 R8, R6.reenv st8 R8, s4k.trans (st6.fro.trans st8.fro), stk.trans (st6.trans st8), hv8, hF8, hL8, rak.mono (st6.fro.trans st8.fro), phk⟩
                  | true =>
                    rw [if_pos rfl]
                    refine ⟨HF8, L8, ρ2, S8, R8, ?_⟩
                    have phk : Post (gd X W) W σ ρ H1 HF1 L1 (fun HF' _ v d => Rep (gd X W) HF' v d) Q (Out.bind (Out.bd ((fe ρ2 S8).bd fun y S2 => if acck.length < lim then lcL t1 tt1 fe (wipeE ρ1 vs1) (es4.drop (j + 1)) S2 (acck ++ [y]) else .bad) fun acc2 S3 => lcL2 t tt fi1 vs1 t1 tt1 fe (wipeE ρ vs) (ds.drop (i + 1)) S3 acc2) fun ys S2 => .ok (.lst ys) S2) := phk
                    cases ee : fe ρ2 S8 with
                    | bad => rw [ee] at phk; exact phk.elim
                    | ex x S' => rw [ee] at phk; exact phk.elim
                    | ok y S9 =>
                      rw [ee] at phk
                      have phk : Post (gd X W) W σ ρ H1 HF1 L1 (fun HF' _ v d => Rep (gd X W) HF' v d) Q (Out.bind (Out.bd (if acck.length < lim then lcL t1 tt1 fe (wipeE ρ1 vs1) (es4.drop (j + 1)) S9 (acck ++ [y]) else .bad) fun acc2 S3 => lcL2 t tt fi1 vs1 t1 tt1 fe (wipeE ρ vs) (ds.drop (i + 1)) S3 acc2) fun ys S2 => .ok (.lst ys) S2) := phk
                      intro v H9 HF9 L9 st9 R9 ry
                      split at phk
                      · rename_i hz
                        have hv9 := st9.keep Dl _ hL8 (nl _) hv8
                        have hF9 := st9.new Dl _ hL8 hF8 (by trivial) hv8
                        have hL9 : Dl ∉ L9 := st9.keepL hL8 hv8
                        refine ⟨vacck, hv9, by rw [rak.length]; exact Nat.lt_of_lt_of_le hz lim_le, HF9, L9, S9, acck ++ [y], vacck ++ [v], ((Ro6.reenv st8 R8).reenv st9 R9).aside hL9 hF9 (by rw [hv9]; simp), ((R6.reenv st8 R8).reenv st9 R9).aside hL9 hF9 (by rw [hv9]; simp), s4k.trans (st6.fro.trans (st8.fro.trans st9.fro)), ?_, upd_same, hF9, hL9, (rak.mono (st6.fro.trans (st8.fro.trans st9.fro))).append (.cons ry .nil), phk⟩
                        exact Step.put (stk.trans (st6.trans (st8.trans st9))) hD
                      · exact phk.elim
            · have e : j = es4.length := by omega
              subst e
              refine .inl ⟨rJ1.stop _ Hk HFk s4k Rk.sub (Nat.le_refl _), rfl, hlt, HFk, Lk, Sk, acck, vacck, Rok, stk, hvk, hFk, hLk, rak, ?_⟩
              rw [List.drop_length] at phk
              exact phk
  · have e : i = ds.length := by omega
    subst e
    refine .inl ⟨rJ.stop _ Hh HFh s01 Rh.sub (Nat.le_refl _), ?_⟩
    rw [List.drop_length] at ph
    have ph : Post (gd X W) W σ ρ H1 HF1 L1 (fun HF' _ v d => Rep (gd X W) HF' v d) Q (.ok (.lst acc) Sh) := ph
    refine ph (.ref Dl) Hh (upd HFh Dl (.lst vacc)) Lh ?_ (Rh.adopt hLv hFv hv) (.lst upd_same (ra.mono (same_upd hFv)))
    refine ⟨sth.keep, sth.nn, sth.fro.trans (same_upd hFv), fun b o hb e nt n => ?_, sth.ext⟩
    rw [upd_ne (fun z => by rw [z, hD] at n; cases n)]
    exact sth.new b o hb e nt n
/-- [elt for target in iter if .. for target1 in iter1 if ..] -/
theorem xlc2 {elt iter iter1 : Expr} {ifs ifs1 : List Expr} {scope : Scope} {own : List (Str × Nat)} {vs1 : List Nat} {fi fi1 : DDn} {t t1 : Tg} {tt tt1 : DTn} {fe : DEn} (hc : X.calm = true) (hN : X.N.Nodup) (hi : DI X W tg iter fi) (ok : BlkOk X.N X.env.scope scope own)
    (hg : ∀ (s : Shared) (H : Hp) (C : Addr) (cl : List (Str × Addr)) (fp : List Addr), PG (X.blk s H scope (compEnvC scope cl C X.env) fp) tg (tgG (X.blk s H scope (compEnvC scope cl C X.env) fp).K t))
    (ht : ∀ (s : Shared) (H : Hp) (C : Addr) (cl : List (Str × Addr)) (fp : List Addr), DTs (X.blk s H scope (compEnvC scope cl C X.env) fp) W.z ifs tt)
    (hi1 : ∀ (s : Shared) (H : Hp) (C : Addr) (cl : List (Str × Addr)) (fp : List Addr), DI (X.blk s H scope (compEnvC scope cl C X.env) fp) W.z tg1 iter1 fi1)
    (hg1 : ∀ (s : Shared) (H : Hp) (C : Addr) (cl : List (Str × Addr)) (fp : List Addr), PG (X.blk s H scope (compEnvC scope cl C X.env) fp) tg1 (tgG (X.blk s H scope (compEnvC scope cl C X.env) fp).K t1))
    (ht1 : ∀ (s : Shared) (H : Hp) (C : Addr) (cl : List (Str × Addr)) (fp : List Addr), DTs (X.blk s H scope (compEnvC scope cl C X.env) fp) W.z ifs1 tt1)
    (he : ∀ (s : Shared) (H : Hp) (C : Addr) (cl : List (Str × Addr)) (fp : List Addr), DE (X.blk s H scope (compEnvC scope cl C X.env) fp) W.z elt fe)
    (hv : ∀ i ∈ vs1, i ∈ own.map (·.2) := by decide) (hsl : ∀ i ∈ t.slots, i ∈ own.map (·.2) := by decide) (hsl1 : ∀ i ∈ t1.slots, i ∈ vs1 := by decide) (hs : ∀ x, foldedSetIterable iter X.env x = pure x := by intro _; rfl) (hs1 : ∀ env x, foldedSetIterable iter1 env x = pure x := by intro _ _; rfl) :
    DE X W (.ListComp elt [⟨tg, iter, ifs, 0⟩, ⟨tg1, iter1, ifs1, 0⟩] scope pos) (mLc2 fi t tt fi1 vs1 t1 tt1 fe (own.map (·.2))) :=
  PE.imp (pe_lc2 hc hN hi ok hv hg ht hi1 hg1 ht1 he hs hs1) fun σ H Q h => lc2_read hsl hsl1 h
theorem ssetLc2 (i : Nat) {y : Str} {py : Pos} {elt iter iter1 : Expr} {ifs ifs1 : List Expr} {scope : Scope} {own : List (Str × Nat)} {vs1 : List Nat} {cpos : Pos} {fi fi1 : DDn} {t t1 : Tg} {tt tt1 : DTn} {fe : DEn} (hc : X.calm = true) (hN : X.N.Nodup) (hi : DI X W tg iter fi) (ok : BlkOk X.N X.env.scope scope own)
    (hg : ∀ (s : Shared) (H : Hp) (C : Addr) (cl : List (Str × Addr)) (fp : List Addr), PG (X.blk s H scope (compEnvC scope cl C X.env) fp) tg (tgG (X.blk s H scope (compEnvC scope cl C X.env) fp).K t))
    (ht : ∀ (s : Shared) (H : Hp) (C : Addr) (cl : List (Str × Addr)) (fp : List Addr), DTs (X.blk s H scope (compEnvC scope cl C X.env) fp) W.z ifs tt)
    (hi1 : ∀ (s : Shared) (H : Hp) (C : Addr) (cl : List (Str × Addr)) (fp : List Addr), DI (X.blk s H scope (compEnvC scope cl C X.env) fp) W.z tg1 iter1 fi1)
    (hg1 : ∀ (s : Shared) (H : Hp) (C : Addr) (cl : List (Str × Addr)) (fp : List Addr), PG (X.blk s H scope (compEnvC scope cl C X.env) fp) tg1 (tgG (X.blk s H scope (compEnvC scope cl C X.env) fp).K t1))
    (ht1 : ∀ (s : Shared) (H : Hp) (C : Addr) (cl : List (Str × Addr)) (fp : List Addr), DTs (X.blk s H scope (compEnvC scope cl C X.env) fp) W.z ifs1 tt1)
    (he : ∀ (s : Shared) (H : Hp) (C : Addr) (cl : List (Str × Addr)) (fp : List Addr), DE (X.blk s H scope (compEnvC scope cl C X.env) fp) W.z elt fe)
    (hy : X.N[i]? = some y := by rfl) (hyl : X.env.scope.names.lookup y = some .local := by rfl) (hsw : swapsWith (.ListComp elt [⟨tg, iter, ifs, 0⟩, ⟨tg1, iter1, ifs1, 0⟩] scope cpos) (some (.Name y py)) pos.line X.env = pure true := by exact sw_true rfl rfl rfl (by decide +kernel))
    (hv : ∀ i ∈ vs1, i ∈ own.map (·.2) := by decide) (hsl : ∀ i ∈ t.slots, i ∈ own.map (·.2) := by decide) (hsl1 : ∀ i ∈ t1.slots, i ∈ vs1 := by decide) (hs : ∀ x, foldedSetIterable iter X.env x = pure x := by intro _; rfl) (hs1 : ∀ env x, foldedSetIterable iter1 env x = pure x := by intro _ _; rfl) :
    DS X W (.Assign [.Name y py] (.ListComp elt [⟨tg, iter, ifs, 0⟩, ⟨tg1, iter1, ifs1, 0⟩] scope cpos) pos) (mSetLc i (mLc2 fi t tt fi1 vs1 t1 tt1 fe (own.map (·.2)))) :=
  PS.imp (ps_setLc2 (i := i) hc hN hy hyl hsw hi ok hv hg ht hi1 hg1 ht1 he hs hs1) fun D σ H ⟨HF, L, ρ, S, R, p⟩ => lc2_read hsl hsl1 ⟨HF, L, ρ, S, R, PostS.bind p fun d S1 v H1 HF1 L1 e1 st1 R1 r1 p1 => p1.done (R1.store (e := .v d) r1 i)⟩
end
end DL

/-! the layer of data: what is never reached; isinstance of a caught exception and a built-in class; raise X(f".."); x(lambda: ..) -/
namespace DL
open PySem PySem.Spec PyProof.Rows L2
section
variable {X : Cx} {W : WD} {pos : Pos}
/-! ### what is never reached -/
def mBadE : DEn := fun _ _ => .bad
def mBadT : DTn := fun _ _ => .bad
theorem xbad {e : Expr} : DE X W e mBadE := ⟨fun pins s σ H Q I ⟨HF, L, ρ, S, R, p⟩ => p.elim⟩
theorem ybad {e : Expr} : DT X W e mBadT := ⟨fun pins s σ H Q I ⟨HF, L, ρ, S, R, p⟩ => p.elim⟩
theorem sbad {st : Stmt} : DS X W st (fun _ _ => .bad) := ⟨fun pins s σ H D I ⟨HF, L, ρ, S, R, p⟩ => p.elim⟩
end
/-! ### isinstance(e, C), C a built-in class -/
structure XTabB (K : PySem.W.Frag) (mg : Str → Option Value) (tab : Str → String → Option Bool) : Prop where
  is : ∀ y t b, tab y t = some b → ∀ C, mg y = some (.ref C) → ExcC K C ∧ PySem.W.kitOne K (.ref C) (.type t) = some b
def mIsEB (i : Nat) (tab : Str → String → Option Bool) (t : String) : DEn := fun ρ S => match ρ[i]? with
  | some (some (.exn x)) => lift ((tab x.cls t).map D.bl) S
  | _ => .bad
section
variable {X : Cx} {pos p pe pt : Pos} {n t f : Str} {T : String} {i : Nat} {tab : Str → String → Option Bool} {a : Addr} {oe : Obj} {cls : Value} {dd : Option Addr} {pn : List (Addr × Obj)} {Ww : Value → Option Addr → L2.St → Hp → Prop}
theorem xisEB (i : Nat) (TB : XTabB X.K X.mg tab) (hz : Zc cls dd oe) (hf : ∃ vs, oe.data = .fields vs) (hm : X.mg "isinstance" = none) (hmT : X.mg t = none) (hvT : bootBuiltins t = some (.type T)) (hN : X.N[i]? = some n := by rfl)
    (hv : Vis X.env.scope n := by first | exact Or.inl rfl | exact Or.inr (Or.inl rfl) | exact Or.inr (Or.inr rfl)) (hg : Gl X "isinstance" := by rfl) (hgT : Gl X t := by rfl) (hnT : t ≠ "__name__" := by decide) (hd : (n == ("__debug__" : Str)) = false := by decide) (hcd : (n == ("__classdict__" : Str)) = false := by decide) (hdT : (t == ("__debug__" : Str)) = false := by decide)
    (he : starEach [Expr.Name n pe, .Name t pt] X.env = (false, eval (.Name n pe) X.env) :: starEach [.Name t pt] X.env := by rfl) (he2 : starEach [.Name t pt] X.env = (false, eval (.Name t pt) X.env) :: starEach [] X.env := by rfl) (hpl : (backTo pos (starEach [.Name t pt] X.env)).any (·.1) = false := by rfl) :
    DE (X.suite a ((a, oe) :: pn)) ⟨Ww, some (a, cls, dd)⟩ (.Call (.Name "isinstance" p) [.Name n pe, .Name t pt] [] pos) (mIsEB i tab T) := by
  refine PE.imp (pe_callB (X := X.suite a ((a, oe) :: pn)) (call_isX (X := X) hz hf) hg hm PyProof.Rows.boot_isinstance (pa_cons (X := X.suite a ((a, oe) :: pn)) (pe_var (X := X.suite a ((a, oe) :: pn)) (i := i) hN hv hd hcd) (pa_cons (X := X.suite a ((a, oe) :: pn)) (pe_bltn (X := X.suite a ((a, oe) :: pn)) (v := .ty T) hgT hmT hvT rfl hnT hdT) pa_nil he2) he) (by decide) (by decide) he hpl) fun σ H Q ⟨HF, L, ρ, S, R, q⟩ => ?_
  unfold mIsEB at q
  split at q
  · rename_i x e
    obtain ⟨v, h1, a', cls', dd', h2, h3, h4⟩ := R.env i _ e
    cases h2
    obtain ⟨d, ed, q2⟩ := q.lift
    cases et : tab x.cls T with
    | none => rw [et] at ed; cases ed
    | some b =>
      rw [et] at ed
      cases ed
      obtain ⟨C, gC, eC, harg⟩ := h4
      obtain ⟨XC, hk⟩ := TB.is _ _ _ et C gC
      refine ⟨v, h1, ?_⟩
      subst h3
      refine ⟨.ty T, .type T, b, C, rfl, eC, XC, ?_, fun u hu => hu, hk, q2.done R .no (.bl b)⟩
      cases qx : x.arg with
      | none => rw [qx] at harg; exact .inl harg
      | some g =>
        rw [qx] at harg
        obtain ⟨da, w, k1, k2, _⟩ := harg
        exact .inr ⟨da, _, k1, R.sub _ _ k2⟩
  · exact q.elim
end
/-! ### raise X(f'..') -/
theorem int_len : ∀ n : Nat, n < 1000 → (toString (n : Int) : Str).length ≤ 4 ∧ (toString (-(n : Int)) : Str).length ≤ 4 := by decide +kernel
theorem int_len' {i : Int} (h : i.natAbs < 1000 ∨ i = 2000) : (toString i : Str).length ≤ 4 := by
  rcases h with h | rfl
  rotate_left
  · decide +kernel
  rcases Int.natAbs_eq i with e | e
  · rw [e]; exact (int_len _ h).1
  · rw [e]; exact (int_len _ h).2
/-- the parts of a text, one behind the other: only how long it gets -/
def fJ : List DEn → Nat → DL.Env → Store → Out Unit
  | [], _, _, S => .ok () S
  | f :: fs, n, ρ, S => (f ρ S).bind fun d S1 => match d with
    | .str y => if n + y.length ≤ 1000000 then fJ fs (n + y.length) ρ S1 else .bad
    | .int i => if (i.natAbs < 1000 ∨ i = 2000) ∧ n + 4 ≤ 1000000 then fJ fs (n + 4) ρ S1 else .bad
    | _ => .bad
section
variable {X : Cx} {W : WD} {pos pos' p p2 : Pos}
inductive DJ (X : Cx) (W : WD) : List Expr → List DEn → Prop
  | nil : DJ X W [] []
  | str {m : Str} {j : Nat} {p : Pos} {es : List Expr} {fs : List DEn} : DJ X W es fs → DJ X W (.Constant (.str m) j p :: es) (mC (.str m) :: fs)
  | fmt {e : Expr} {f : DEn} {p : Pos} {es : List Expr} {fs : List DEn} : DE X W e f → DJ X W es fs → DJ X W (.FormattedValue e (-1) none p :: es) (f :: fs)
theorem str_app (x y : Str) : (x ++ y).length = x.length + y.length := Str.length_append x y
theorem fits6 {n : Nat} (h : n ≤ 1000000) : n ≤ sizeLine := Nat.le_trans h (by decide)
theorem DJ.run {es : List Expr} {fs : List DEn} (h : DJ X W es fs) : ∃ ts, PJ X es ts ∧ ∀ (acc : Str) (n : Nat) (σ : L2.St) (H : Hp) (Q : Hp → Prop), acc.length ≤ n → n ≤ 1000000 →
    (∃ HF L ρ S, Rel (gd X W) H HF L σ ρ S ∧ Post (gd X W) W σ ρ H HF L (fun _ _ (_ : Unit) (_ : Unit) => True) (fun _ H1 => Q H1) (fJ fs n ρ S)) → tJs ts acc σ H (fun _ H1 => Q H1) := by
  induction h with
  | nil => exact ⟨[], .nil, fun acc n σ H Q _ _ ⟨HF, L, ρ, S, R, q⟩ => q () H HF L .refl R trivial⟩
  | @str m j p es fs h ih =>
    obtain ⟨ts, h1, h2⟩ := ih
    refine ⟨_ :: ts, .cons (xstr (X := X) (W := W)) h1, fun acc n σ H Q ha hn ⟨HF, L, ρ, S, R, q⟩ => ⟨HF, L, ρ, S, R, Post.bind q fun d S1 v H1 HF1 L1 e1 st1 R1 r1 q1 => ?_⟩⟩
    cases e1
    cases r1
    have q1 : Post (gd X W) W σ ρ H1 HF1 L1 (fun _ _ (_ : Unit) (_ : Unit) => True) (fun _ H1 => Q H1) (if n + m.length ≤ 1000000 then fJ fs (n + m.length) ρ S else .bad) := q1
    split at q1
    · rename_i hz
      refine ⟨m, rfl, ?_, h2 _ _ _ _ _ (by rw [str_app]; omega) hz ⟨HF1, L1, ρ, S, R1, q1⟩⟩
      exact fits6 (by rw [str_app]; omega)
    · exact q1.elim
  | @fmt e f p es fs he h ih =>
    obtain ⟨ts, h1, h2⟩ := ih
    refine ⟨_ :: ts, .cons (pe_fmt he) h1, fun acc n σ H Q ha hn ⟨HF, L, ρ, S, R, q⟩ => ⟨HF, L, ρ, S, R, Post.bind q fun d S1 v H1 HF1 L1 e1 st1 R1 r1 q1 => ?_⟩⟩
    cases d with
    | str y =>
      cases r1
      have q1 : Post (gd X W) W σ ρ H1 HF1 L1 (fun _ _ (_ : Unit) (_ : Unit) => True) (fun _ H1 => Q H1) (if n + y.length ≤ 1000000 then fJ fs (n + y.length) ρ S1 else .bad) := q1
      split at q1
      · rename_i hz
        exact .inl ⟨y, rfl, fits6 (by omega), y, rfl, fits6 (by rw [str_app]; omega), h2 _ _ _ _ _ (by rw [str_app]; omega) hz ⟨HF1, L1, ρ, S1, R1, q1⟩⟩
      · exact q1.elim
    | int i =>
      cases r1
      have q1 : Post (gd X W) W σ ρ H1 HF1 L1 (fun _ _ (_ : Unit) (_ : Unit) => True) (fun _ H1 => Q H1) (if (i.natAbs < 1000 ∨ i = 2000) ∧ n + 4 ≤ 1000000 then fJ fs (n + 4) ρ S1 else .bad) := q1
      split at q1
      · rename_i hz
        have hl := int_len' hz.1
        refine .inr ⟨i, rfl, ?_, toString i, rfl, fits6 (by rw [str_app]; omega), h2 _ _ _ _ _ (by rw [str_app]; omega) hz.2 ⟨HF1, L1, ρ, S1, R1, q1⟩⟩
        by_cases h0 : i.natAbs = 0
        · rw [h0]; decide
        · have := (Nat.log2_lt h0 (k := 11)).mpr (by omega)
          omega
      · exact q1.elim
    | _ => exact q1.elim
def mRaiseF (x : Str) (fs : List DEn) : DSn := fun ρ S => bindS (fJ fs 0 ρ S) ρ fun _ S1 => .ok (.ex ⟨x, none⟩, ρ) S1
theorem sraiseF {x : Str} {v1 v2 : Expr} {rest : List Expr} {fs : List DEn} (o : OwnP (gd X W) x) (hc : X.calm = true) (tk : Takes X W.w) (h : DJ X W (v1 :: v2 :: rest) fs) (hg : Gl X x := by rfl) (hdb : (x == ("__debug__" : Str)) = false := by decide)
    (hs : starEach [Expr.JoinedStr (v1 :: v2 :: rest) p2] X.env = (false, eval (.JoinedStr (v1 :: v2 :: rest) p2) X.env) :: starEach [] X.env := by rfl) :
    DS X W (.Raise (some (.Call (.Name x p) [.JoinedStr (v1 :: v2 :: rest) p2] [] pos')) none pos) (mRaiseF x fs) := by
  obtain ⟨C, bmB, B, nw, ini, gC, F, q, kC, h1, h2⟩ := o.has
  obtain ⟨ts, j1, j2⟩ := h.run
  refine PS.imp (ps_raise hc tk (SkE.pmk_own1 F q gC kC (raises_own h1 h2) hg (pe_joined j1) hs hdb)) fun D σ H ⟨HF, L, ρ, S, R, p⟩ => ?_
  refine j2 Str.empty 0 σ H _ (Nat.le_refl _) (by decide) ⟨HF, L, ρ, S, R, ?_⟩
  refine PostS.bind p fun d S1 v H1 HF1 L1 e1 st1 R1 r1 p1 => ?_
  exact p1.done R1 _ _ ⟨C, gC, rfl, rfl⟩
end
end DL

/-! the layer of data: x(lambda: ..), x being a def that calls what it gets within a try -/
namespace DL
open PySem PySem.Spec PyProof.Rows L2 LamX
theorem takes_len {X : Cx} {W : WX} (tk : Takes X W) : Takes X (fun cls d σ H => σ.length = X.N.length → W cls d σ H) := fun u s' ⟨a, B, sI, pins, σ, H, cls, d, e, I, nb, up, sky, na, os, ag, w⟩ =>
  tk u s' ⟨a, B, sI, pins, σ, H, cls, d, e, I, nb, up, sky, na, os, ag, w I.len⟩
/-- what the def makes of the end of what it called -/
def lamEnd (N i : Nat) (cat : Str → Option Bool) (fs fr : DSn) : Out D → Out D
  | .ok _ S1 => match fr (List.replicate N none) S1 with
    | .ok (.rt d, _) S2 => .ok d S2
    | _ => .bad
  | .ex x S1 => match cat x.cls with
    | some true => match fs ((List.replicate N none).set i (some (.exn x))) S1 with
      | .ok (.rt d, _) S2 => .ok d S2
      | _ => .bad
    | _ => .bad
  | .bad => .bad
def mLam (N i : Nat) (cat : Str → Option Bool) (fs fr : DSn) (fb : DEn) : DEn := fun ρ S => lamEnd N i cat fs fr (fb ρ S)
section
variable {G : Gd} {H HF : Hp} {L : List Addr} {σ : L2.St} {ρ : DL.Env} {S : Store}
theorem Rel.plain (R : Rel G H HF L σ ρ S) {σ' : L2.St} {N : Nat} (hl : σ'.length = N) : Rel G H HF L σ' (List.replicate N none) S :=
  ⟨R.sub, R.nd, R.sl, R.liv, R.tab, R.nft, R.cell, by simp [hl], fun i e h => by
    rw [List.getElem?_replicate] at h
    split at h <;> cases h⟩
theorem Rel.tabs (R : Rel G H HF L σ ρ S) : Tabs (tabsOf G.K) H := fun p hp => by
  obtain ⟨ps, q1, q2, q3⟩ := R.tab p hp
  exact ⟨ps, q1, q2, fun pos cv hc => (let ⟨c, e1, e2⟩ := q3 pos cv hc; ⟨c, e1, R.sub _ _ e2⟩)⟩
open Classical in
/-- a lambda is made: its code object stays from then on -/
theorem Rel.lam (R : Rel G H HF L σ ρ S) {H1 : Hp} (eN : ExtN H H1) (T1 : Tabs (tabsOf G.K) H1) : ∃ HF1, Rel G H1 HF1 L σ ρ S ∧ Step H HF L H1 HF1 L ∧ ∀ c q, H1 c = some (CodeO c q) → HF1 c = some (CodeO c q) := by
  let HF1 : Hp := fun b => match HF b with
    | some o => some o
    | none => if ∃ q, H1 b = some (CodeO b q) then H1 b else none
  have some1 : ∀ {b o}, HF b = some o → HF1 b = some o := fun {b o} e => by show (match HF b with | some o => some o | none => _) = _; rw [e]
  have none1 : ∀ {b o}, HF b = none → HMut o → H b = some o → HF1 b = none := fun {b o} e hm eo => by
    show (match HF b with | some o => some o | none => if ∃ q, H1 b = some (CodeO b q) then H1 b else none) = _
    rw [e]
    refine if_neg fun ⟨q, z⟩ => ?_
    rw [eN _ _ eo hm.nt] at z
    cases z
    exact hm
  have fro : Same HF HF1 := fun b o e => some1 e
  have code : ∀ c q, H1 c = some (CodeO c q) → HF c = none → HF1 c = some (CodeO c q) := fun c q e z => by
    show (match HF c with | some o => some o | none => if ∃ q, H1 c = some (CodeO c q) then H1 c else none) = _
    rw [z]
    dsimp only
    rw [if_pos ⟨q, e⟩, e]
  have sub1 : Same HF1 H1 := fun b o e => by
    cases q : HF b with
    | some u =>
      rw [some1 q] at e
      cases e
      exact eN _ _ (R.sub _ _ q) (fun ps z => R.nft b ps (by rw [q, z]))
    | none =>
      have e : (match HF b with | some o => some o | none => if ∃ q, H1 b = some (CodeO b q) then H1 b else none) = some o := e
      rw [q] at e
      dsimp only at e
      split at e
      · exact e
      · cases e
  have allc : ∀ c q, H1 c = some (CodeO c q) → HF1 c = some (CodeO c q) := fun c q e => by
    cases z : HF c with
    | some u =>
      have y := sub1 c u (some1 z)
      rw [e] at y
      cases y
      exact some1 z
    | none => exact code c q e z
  refine ⟨HF1, ⟨sub1, R.nd, R.sl, fun a ha => ?_, fun p hp => ?_, fun b ps e => ?_, fun n a c h1 h2 => ?_, R.el, fun i x h => ?_⟩, ⟨fun b o _ nt e => eN _ _ e nt, fun b o nt e => ⟨o, nt, eN _ _ e nt⟩, fro, fun a o _ e hm eo => none1 e hm eo, [], by simp, by simp⟩, allc⟩
  · obtain ⟨o, e, hm⟩ := R.liv a ha
    exact ⟨o, eN _ _ e hm.nt, hm⟩
  · obtain ⟨ps, q1, q2, q3⟩ := T1 p hp
    refine ⟨ps, q1, q2, fun pos cv hc => ?_⟩
    obtain ⟨c', e1, e2⟩ := q3 pos cv hc
    exact ⟨c', e1, allc _ _ e2⟩
  · cases q : HF b with
    | some u => rw [some1 q] at e; cases e; exact R.nft b ps q
    | none =>
      have e : (match HF b with | some o => some o | none => if ∃ q, H1 b = some (CodeO b q) then H1 b else none) = some (.tbl ps) := e
      rw [q] at e
      dsimp only at e
      split at e
      · rename_i z
        obtain ⟨q', z⟩ := z
        rw [z] at e
        cases e
      · cases e
  · obtain ⟨q1, q2⟩ := R.cell n a c h1 h2
    obtain ⟨o, e, hm⟩ := R.liv a (List.mem_of_getElem? h1)
    exact ⟨none1 q1 hm e, q2.up (by rw [e]; exact eN _ _ e hm.nt) fro⟩
  · obtain ⟨v, h1, h2⟩ := R.env i x h
    refine ⟨v, h1, ?_⟩
    cases x with
    | v d => exact Rep.mono fro h2
    | cel n => exact h2
    | exn x =>
      obtain ⟨b, cls, dd, k1, k2, k3⟩ := h2
      exact ⟨b, cls, dd, k1, k2, k3.mono fro⟩
    | lam ws ds => exact RepLam.mono fro h2
end
section
variable {X : Cx}
abbrev zcx (X : Cx) (Ng : List Str) (x : Str) (sg : Scope) (g : Addr) (cdg : Value) (s : Shared) (H : Hp) : Cx := (cxOf C8.CX0 X.prog X.w X.K X.mg X.base Ng x sg g cdg X.A X.stack s H C8.E0).nox
abbrev Wz : WD := ⟨fun _ _ _ _ => False, none⟩
def dq (Q : VK) : Ends := { nx := fun _ H' => Q .non H', rt := Q }
def d1 (X : Cx) (fr : DSn) (Q : VK) : Ends := { dq Q with nx := fun σ' H' => tS ⟨X.K, X.mg, none⟩ Wz fr (dq Q) σ' H' }
def eLam (X : Cx) (CS : Addr) (N i : Nat) (fs fr : DSn) (Q : VK) : XK := fun cls d H' => ∃ b, PySem.W.exmOne X.K cls (.ref CS) = some b ∧
  (b = true → ∀ σ' : L2.St, σ'.length = N → ∀ a, H' a = none → tS ⟨X.K, X.mg, some (a, cls, d)⟩ ⟨fun _ _ _ _ => False, some (a, cls, d)⟩ fs { nx := fun σ'' H'' => (d1 X fr Q).nx (σ''.set i none) H'', rt := Q, bk := fun σ'' H'' => (d1 X fr Q).bk (σ''.set i none) H'', ct := fun σ'' H'' => (d1 X fr Q).ct (σ''.set i none) H'' } (σ'.set i (some (.ref a))) H') ∧ (b = false → False)
def TTd (X : Cx) (CS : Addr) (N i : Nat) (fs fr : DSn) : (XK → Hp → VK → Prop) → Hp → VK → Prop := fun tl H Q => ∀ σg : L2.St, σg.length = N → tl (eLam X CS N i fs fr Q) H (fun _ H' => (d1 X fr Q).nx σg H')
theorem gives_try {Ng : List Str} {x a ex n q : Str} {sg : Scope} {g CS : Addr} {cdg : Value} {i : Nat} {b₀ : Stmt} {suite rest : List Stmt} {p1 p2 p3 np pos' pos : Pos} {fs fr : DSn} (hge : sg.names.lookup ex = some .globalImplicit) (hme : X.mg ex = some (.ref CS)) (hde : (ex == ("__debug__" : Str)) = false)
    (hN : Ng.Nodup) (hi : Ng[i]? = some n) (h1 : 1 ≤ Ng.length) (hln : ∀ s : Shared, (envOfC x sg s.heap.objs.size g cdg).kindOf n = some .local)
    (hsu : ∀ (s : Shared) (H : Hp) (a : Addr) (oe : Obj) (cls : Value) (d : Option Addr) (pn : List (Addr × Obj)), Zc cls d oe → (∃ vs, oe.data = .fields vs) → DSs ((zcx X Ng x sg g cdg s H).suite a ((a, oe) :: pn)) ⟨fun _ _ _ _ => False, some (a, cls, d)⟩ (b₀ :: suite) fs)
    (hre : ∀ (s : Shared) (H : Hp), DSs (zcx X Ng x sg g cdg s H) Wz rest fr) :
    GivesTo X Ng x sg g cdg (.Try [.Expr (.Call (.Name a p1) [] [] p2) p3] [.ExceptHandler (some (.Name ex np)) (some n) (b₀ :: suite) pos'] [] [] pos :: rest) a q (TTd X CS Ng.length i fs fr) := by
  intro f c' s H Q tl act hc h
  have hgl : Gl (zcx X Ng x sg g cdg s H) ex := hge
  refine ⟨_, pss_cons (ps_try_as (X := zcx X Ng x sg g cdg s H) (c := .ref CS) (i := i) (Wout := fun _ _ _ _ => False) (ts := fun a cls d => tS ⟨X.K, X.mg, some (a, cls, d)⟩ ⟨fun _ _ _ _ => False, some (a, cls, d)⟩ fs)
      (tb := fun W D σ H => ∃ Ech : XK, (∀ cls d σ' H', Ech cls d H' → σ'.length = Ng.length → W cls d σ' H') ∧ σ[0]? = some (some (.ref f)) ∧ H c' = some (CodeO c' q) ∧ tl Ech H (fun _ H' => D.nx σ H'))
      rfl rfl hN hi (hln s) ⟨hgl, hde, .inl hme⟩ LamX.takes0 (fun W pn xe tk _ => ?_) (fun a oe cls d pn hz hf => hsu s H a oe cls d pn hz hf)) (hre s H), ?_⟩
  · refine ⟨fun pins s' σ H' D I h' => ?_⟩
    obtain ⟨Ech, hW, h1, h2, h3⟩ := h'
    have hp := act _ pn xe Ech p1 p2 (takes_len tk) hW
    have hq := pss_one (ps_expr (pos := p3) hp rfl)
    exact hq.run pins s' σ H' D I ⟨h1, h2, h3⟩
  · have hlen : (L2.start Ng [V.ref f]).length = Ng.length := by
      unfold L2.start
      simp
      omega
    refine ⟨eLam X CS Ng.length i fs fr Q, fun cls d σ' H' ⟨b, e1, e2, e3⟩ hl => ⟨b, e1, fun hb a ha => e2 hb σ' hl a ha, fun hb => (e3 hb)⟩, rfl, hc, h _ hlen⟩
end
section
variable {X : Cx} {W : WD}
theorem tlam_of {cat : Str → Option Bool} {CS : Addr} {N i : Nat} {fs fr : DSn} {fb : DEn} (hxi : W.xi = none)
    (hcat : ∀ y b C, cat y = some b → X.mg y = some (.ref C) → PySem.W.exmOne X.K (.ref C) (.ref CS) = some b) {σ : L2.St} {H : Hp} {Q : VK} (h : tD (gd X W) W (mLam N i cat fs fr fb) σ H Q) :
    tLam (tabsOf X.K) (TTd X CS N i fs fr) (fun E => tD ⟨X.K, X.mg, none⟩ (WF E) fb) σ H Q := by
  obtain ⟨Ww, Wx⟩ := W
  obtain rfl : Wx = none := hxi
  obtain ⟨HF, L, ρ, S, R, p⟩ := h
  refine ⟨R.tabs, fun H1 eN T1 σg hg => ?_⟩
  obtain ⟨HF1, R1, st1, _⟩ := R.lam eN T1
  refine ⟨HF1, L, ρ, S, R1, ?_⟩
  unfold mLam at p
  cases e : fb ρ S with
  | bad => rw [e] at p; exact p.elim
  | ok d S1 =>
    rw [e] at p
    intro v H2 HF2 L2 st2 R2 _
    refine ⟨HF2, L2, List.replicate N none, S1, R2.plain hg, ?_⟩
    unfold lamEnd at p
    dsimp only at p
    cases q : fr (List.replicate N none) S1 with
    | bad => rw [q] at p; exact p.elim
    | ex x S2 => rw [q] at p; exact p.elim
    | ok cr S2 =>
      obtain ⟨cc, ρ3⟩ := cr
      rw [q] at p
      cases cc with
      | rt d' =>
        intro σ' H3 HF3 L3 st3 R3 v' rv
        have st := st1.trans (st2.trans st3)
        exact p v' H3 HF3 L3 st (R.reenv st R3) rv
      | nx => exact p.elim
      | bk => exact p.elim
      | ct => exact p.elim
      | ex x => exact p.elim
  | ex x S1 =>
    rw [e] at p
    intro cls dd H2 HF2 L2 st2 R2 ex
    unfold lamEnd at p
    dsimp only at p
    cases hq : cat x.cls with
    | none => rw [hq] at p; exact p.elim
    | some b =>
      rw [hq] at p
      cases b with
      | false => exact p.elim
      | true =>
        obtain ⟨C, gC, eC, _⟩ := id ex
        subst eC
        refine ⟨true, hcat _ _ _ hq gC, fun _ σ' hl a ha => ?_, fun z => by cases z⟩
        have R2' := R2.plain (σ' := σ') (N := N) hl
        refine ⟨HF2, L2, (List.replicate N none).set i (some (.exn x)), S1, (R2'.intoX (xj := some (a, .ref C, dd))).store (e := .exn x) ⟨a, .ref C, dd, rfl, rfl, ExRep.cx ex⟩ i, ?_⟩
        dsimp only at p
        cases q : fs ((List.replicate N none).set i (some (.exn x))) S1 with
        | bad => rw [q] at p; exact p.elim
        | ex x S2 => rw [q] at p; exact p.elim
        | ok cr S2 =>
          obtain ⟨cc, ρ3⟩ := cr
          rw [q] at p
          cases cc with
          | rt d' =>
            intro σ3 H3 HF3 L3 st3 R3 v' rv
            have st := st1.trans (st2.trans st3)
            have R4 := R3.outX i
            exact p v' H3 HF3 L3 st (R.reenv st R4) (Rep.cx rv)
          | nx => exact p.elim
          | bk => exact p.elim
          | ct => exact p.elim
          | ex x => exact p.elim
/-- x(lambda: body) in the law -/
theorem xlam {x a ex n : Str} {st : Stmt} {g CS c P : Addr} {fd : FuncData} {k i : Nat} {Ng : List Str} {params : Arguments} {body : Expr} {scope : Scope} {b₀ : Stmt} {suite rest : List Stmt} {p lpos pos p1 p2 p3 np pos' pos2 : Pos} {fb : DEn} {fs fr : DSn} {cat : Str → Option Bool}
    (hxi : W.xi = none) (F : Fun X.K x x st g fd) (hm : X.mg x = some (.ref g)) (hb : L2.Binds X.K fd [a] []) (Sg : FnScope Ng [a] (defScope st)) (hst : defBody st = .Try [.Expr (.Call (.Name a p1) [] [] p2) p3] [.ExceptHandler (some (.Name ex np)) (some n) (b₀ :: suite) pos'] [] [] pos2 :: rest)
    (hge : (defScope st).names.lookup ex = some .globalImplicit) (hme : X.mg ex = some (.ref CS)) (hi : Ng[i]? = some n) (hln : ∀ (cdg : Value) (s : Shared), (envOfC x (defScope st) s.heap.objs.size g cdg).kindOf n = some .local)
    (hcat : ∀ y b C, cat y = some b → X.mg y = some (.ref C) → PySem.W.exmOne X.K (.ref C) (.ref CS) = some b)
    (hsu : ∀ (cdg : Value) (s : Shared) (H : Hp) (a : Addr) (oe : Obj) (cls : Value) (d : Option Addr) (pn : List (Addr × Obj)), Zc cls d oe → (∃ vs, oe.data = .fields vs) → DSs ((zcx X Ng x (defScope st) g cdg s H).suite a ((a, oe) :: pn)) ⟨fun _ _ _ _ => False, some (a, cls, d)⟩ (b₀ :: suite) fs)
    (hre : ∀ (cdg : Value) (s : Shared) (H : Hp), DSs (zcx X Ng x (defScope st) g cdg s H) Wz rest fr)
    (TB : TabB X.base X.mg c P) (hcode : X.env.code = .ref c) (et : PySem.W.tabIn X.K "law" = some (c, P)) (hok : tabsOk X.K = true) (hr : Room (k + 2) X.A) (L : LamS X.env.scope scope)
    (hbody : ∀ (A : Around) (outer : List PySem.Env) (s : Shared) (H : Hp) (E : XK) (f c' : Addr), Room k (A.deeper (lamEnv X scope s.heap.objs.size f c')) → DE (lamCx X A outer s H E scope f c') (WF E) body fb)
    (hq : X.env.qual ++ "<lambda>" = lamq := by rfl) (hdef : defaultsOf params X.env = ([], []) := by rfl)
    (hbind : ∀ (q : Str) (cl : List (Str × Addr)) (pm cv ctv : Value), bindArgs (PySem.W.kla_fn "<lambda>" q params body scope cl pm cv ctv) ⟨[], []⟩ = pure [] := by intros; rfl)
    (hg : Gl X x := by rfl) (hNg : Ng[0]? = some a := by rfl) (hva : Vis (defScope st) a := by first | exact Or.inl rfl | exact Or.inr (Or.inl rfl) | exact Or.inr (Or.inr rfl))
    (hde : (ex == ("__debug__" : Str)) = false := by decide) (hdb : (x == ("__debug__" : Str)) = false := by decide) (hd : (a == ("__debug__" : Str)) = false := by decide) (hcd : (a == ("__classdict__" : Str)) = false := by decide) :
    DE X W (.Call (.Name x p) [.Lambda params body scope lpos] [] pos) (mLam Ng.length i cat fs fr fb) := by
  obtain ⟨oc, od, kV, doc, pm, an, cdv, ct, osl, rfl, lk, hcd2⟩ := F.ex
  have h1 : 1 ≤ Ng.length := by
    cases Ng with
    | nil => cases hNg
    | cons _ _ => simp
  refine PE.imp (pe_lamcall (T := tabsOf X.K) (TT := TTd X CS Ng.length i fs fr) (t := fun E => tD ⟨X.K, X.mg, none⟩ (WF E) fb) hg hm F.kp lk hcd2 hb Sg hNg hva ?_ TB hcode ?_ ?_ hr L hdef hbind hbody hdb hd hcd) fun σ H Q h => tlam_of hxi hcat h
  · rw [hst, hq]
    exact gives_try hge hme hde Sg.nd hi h1 (hln cdv) (hsu cdv) (hre cdv)
  · rw [hq]; exact tabsOf_mem (x := "law") List.mem_cons_self et
  · intro p hp e
    rw [hq]
    exact tabsOk_of hok hp (tabsOf_mem (x := "law") List.mem_cons_self et) e
end
end DL
namespace DL
open PySem PySem.Spec PyProof.Rows L2 LamX
theorem lam_takes {X : Cx} {A : Around} {outer : List PySem.Env} {s : Shared} {H : Hp} {E : XK} {scope : Scope} {f c' : Addr} : Takes (lamCx X A outer s H E scope f c') (fun cls d _ H => E cls d H) :=
  takes_of (X := lamCx X A outer s H E scope f c') rfl rfl rfl rfl
/-- a def whose code object is known -/
theorem fnd_ofC {P : Program} {w : World} {G : Gd} {base : Heap} {x qual : Str} {st : Stmt} {f : Addr} {N ps : List Str} {k n : Nat} {body : DSn} {oc kV doc pm cdv ct : Value} {od an : Option Addr} {osl : Array (Option Value)}
    (lk : G.K.lookup f = some ⟨oc, od, .func (PySem.W.fnOf x qual (defArgs st) (defBody st) (defScope st) .none kV doc pm an cdv ct), osl⟩) (hcd : PySem.W.codeIn G.K cdv qual = true) (Sc : FnScope N ps (defScope st)) (hn : ps.length = n) (hnN : n ≤ N.length) (hG : G.xi = none := by rfl)
    (hbody : ∀ (A : Around) (outer : List PySem.Env) (s : Shared) (H : Hp) (E : XK), Room k (A.deeper (envOfC qual (defScope st) s.heap.objs.size f cdv)) →
      DSs (cxOf (L2.CX P w) P w G.K G.mg base N qual (defScope st) f cdv A outer s H E) (WF E) (defBody st) body) : FnOk P w G.K G.mg base (L2.CX P w) (k + 1) f (PySem.W.fnOf x qual (defArgs st) (defBody st) (defScope st) .none kV doc pm an cdv ct) ps (spD G n (denB N.length body)) := by
  obtain ⟨K, mg, xi⟩ := G
  obtain rfl : xi = none := hG
  refine fn_of lk hcd Sc (fun vs H Q E h => h.1.trans hn.symm) fun A outer s H vs Q E hr h => ⟨_, hbody A outer s H E hr, ?_⟩
  obtain ⟨hl, HF, L, es, S, R, r, p⟩ := h
  have hle : es.length = n := by rw [← r.length]; exact hl
  refine ⟨HF, L, _, S, ⟨R.sub, R.nd, R.sl, R.liv, R.tab, R.nft, R.cell, ?_, start_env (N := N) r⟩, ?_⟩
  · unfold L2.start
    rw [List.length_append, List.length_append, List.length_map, List.length_map, List.length_replicate, List.length_replicate, r.length]
  · unfold denB at p
    cases q : body (es.map some ++ List.replicate (N.length - es.length) none) S with
    | bad => rw [q] at p; exact p.elim
    | ex x S' => rw [q] at p; exact p.elim
    | ok cr S' =>
      obtain ⟨c, ρ'⟩ := cr
      rw [q] at p
      intro σ' H' HF' L' st' R'
      obtain ⟨st2, R2⟩ := R.leave st' R'
      cases c with
      | nx => exact p .non H' HF' st2 R2 .non
      | rt d => exact fun v rv => p v H' HF' st2 R2 rv
      | ex x => exact fun cls dd ex => p cls dd H' HF' st2 R2 ex
      | bk => exact p.elim
      | ct => exact p.elim
end DL

/-! the layer of data: t[::-1] of a tuple -/
namespace DL
open PySem PySem.Spec PyProof.Rows L2 HT
section
variable {prog : Program} {w : World} {A : Around} {E : Value → Shared → Prop} {s : Shared}
theorem back_parts (n : Nat) : Builtin.Slice.sliceAdjust none none (-1) (n : Int) = ((n : Int) - 1, -1) := rfl
theorem back_places (n : Nat) : Builtin.Slice.slicePlaces ((n : Int) - 1) (-1) (-1) = n := by
  unfold Builtin.Slice.slicePlaces
  rw [if_neg (by decide)]
  by_cases h : (n : Int) - 1 > -1
  · rw [if_pos h]
    have e : ((n : Int) - 1 - -1 - 1) / (- -1) = (n : Int) - 1 := by
      rw [show (- -1 : Int) = 1 by decide, Int.ediv_one]; omega
    rw [e]; omega
  · rw [if_neg h]; omega
theorem fm_congr {α β : Type} {f g : α → Option β} : ∀ (l : List α), (∀ m ∈ l, f m = g m) → l.filterMap f = l.filterMap g
  | [], _ => rfl
  | x :: l, h => by
    rw [List.filterMap_cons, List.filterMap_cons, h x List.mem_cons_self, fm_congr l fun m hm => h m (List.mem_cons_of_mem _ hm)]
theorem back_pick (xs : Array Value) : ((List.range xs.size).filterMap fun (m : Nat) => xs[((xs.size : Int) - 1 + (m : Int) * (-1)).toNat]?).toArray = xs.toList.reverse.toArray := by
  congr 1
  have e : ∀ m ∈ List.range xs.size, xs[((xs.size : Int) - 1 + (m : Int) * (-1)).toNat]? = xs.toList.reverse[m]? := fun m hm => by
    have hm := List.mem_range.mp hm
    have e1 : ((xs.size : Int) - 1 + (m : Int) * (-1)).toNat = xs.size - 1 - m := by omega
    rw [e1, List.getElem?_reverse (by simpa using hm)]
    simp
  rw [fm_congr _ e]
  have key : ∀ (l : List Value), (List.range l.length).filterMap (fun m => l[m]?) = l := by
    intro l
    induction l with
    | nil => rfl
    | cons x l ih =>
      rw [List.length_cons, List.range_succ_eq_map, List.filterMap_cons]
      simp only [List.getElem?_cons_zero, List.filterMap_map]
      congr 1
  have := key xs.toList.reverse
  simpa using this
theorem back_applied {sl : Addr} {vl vu vs : Value} {n : Nat} {Q : Int × Int × Nat → Shared → Prop} (hs : s.heap.IsSliceOf sl vl vu vs) (pl : IsPart vl none) (pu : IsPart vu none) (pt : IsPart vs (some (-1)))
    (h : Q ((n : Int) - 1, -1, n) s) : wpAny (model prog w) A (Builtin.Slice.sliceApplied (.ref sl) (pure (n : Int))) Q E s := by
  obtain ⟨oo, g1, g2, g3⟩ := id hs
  unfold Builtin.Slice.sliceApplied Builtin.Slice.sliceFields
  refine wpAny_bind (wpAny_bind (wpAny_field g1 g3 (x := vl) rfl (wpAny_bind (wpAny_field g1 g3 (x := vu) rfl (wpAny_bind (wpAny_field g1 g3 (x := vs) rfl (wpAny_pure ?_)))))))
  refine wpAny_bind (slicePart_ pt ?_)
  show wpAny _ _ (if ((-1 : Int) == 0) = true then _ else _) _ _ s
  rw [if_neg (by decide)]
  refine wpAny_bind (slicePart_ pl (wpAny_bind (slicePart_ pu (wpAny_bind (wpAny_pure ?_)))))
  show wpAny _ _ (match Builtin.Slice.sliceAdjust none none (-1) (n : Int) with | (lo, hi) => pure (lo, (-1 : Int), Builtin.Slice.slicePlaces lo hi (-1))) _ _ s
  rw [back_parts n]
  show wpAny _ _ (pure ((n : Int) - 1, (-1 : Int), Builtin.Slice.slicePlaces ((n : Int) - 1) (-1) (-1))) _ _ s
  rw [back_places]
  exact wpAny_pure h
theorem back_item {t sl : Addr} {items : Array Value} {vl vu vs : Value} {Q : Value → Shared → Prop} (ht : IsTup s.heap t items) (hs : s.heap.IsSliceOf sl vl vu vs) (pl : IsPart vl none) (pu : IsPart vu none) (pt : IsPart vs (some (-1)))
    (h : Q (.ref s.heap.objs.size) { s with heap := s.heap.push { cls := .type "tuple", data := .seq items.toList.reverse.toArray } }) (hz : items.size ≤ sizeLine) : wpAny (model prog w) A (getItem (.ref t) (.ref sl)) Q E s := by
  have hk : sizeOk (.seq items.toList.reverse.toArray) := by
    show items.toList.reverse.toArray.size ≤ sizeLine
    simpa using hz
  obtain ⟨oo, g1, g2, g3⟩ := id hs
  have hT : s.TypeIs (.ref sl) "slice" := ⟨oo, g1, g2⟩
  unfold getItem
  try with_reducible refine wpAny_holding ?_
  first | refine wpAny_bind (wpAny_pure ?_) | skip
  refine wpAny_bind (wpAny_sequenceKey ht.typeIs (by decide) ?_)
  refine wpAny_bind (wpAny_callSpecial?_slot (name := Str.ofString "__getitem__") ht.typeIs PyProof.Rows.slot_tuple_getitem (wpAny_call_entry PyProof.Rows.slot_tuple_getitem ht.typeIs entry_tuple_getitem ?_ (args_tuple_getitem _ _)))
  show wpAny _ _ (Builtin.Tuple.tupleItemsOf (.ref t) >>= _) _ _ s
  refine wpAny_bind (tupleItemsOf_ ht ?_)
  refine wpAny_bind (wpAny_typeOf hT ?_)
  rw [if_pos (by decide)]
  refine wpAny_bind (back_applied hs pl pu pt ?_)
  have hno : ¬ ((((items.size : Int) - 1) == 0 && (-1 : Int) == 1 && items.size == items.size) = true) := by
    intro q
    rw [Bool.and_eq_true, Bool.and_eq_true] at q
    exact absurd q.1.2 (by decide)
  show wpAny _ _ (if (((items.size : Int) - 1) == 0 && (-1 : Int) == 1 && items.size == items.size) = true then _ else _) _ _ s
  rw [if_neg hno, back_pick]
  first
    | exact wpAny_bind (m := Builtin.Tuple.tupleExact _) (wpAny_newObj_type (wpAny_pure ⟨_, rfl, wpAny_pure h⟩) hk)
    | exact wpAny_bind (m := Builtin.Tuple.tupleExact _) (wpAny_newObj_type (wpAny_bind (wpAny_pure (wpAny_pure ⟨_, rfl, wpAny_pure h⟩))) hk)
    | exact wpAny_bind (wpAny_bind (m := Builtin.Tuple.tupleExact _) (wpAny_newObj_type (wpAny_pure (wpAny_pure ⟨_, rfl, wpAny_pure h⟩)) hk))
    | exact wpAny_bind (wpAny_bind (m := Builtin.Tuple.tupleExact _) (wpAny_newObj_type (wpAny_pure ⟨_, rfl, wpAny_pure h⟩) hk))
end
section
variable {X : Cx}
def tRevA (K : PySem.W.Frag) (te : TE) : TE := fun σ H Q => te σ H fun x H1 => ∃ a xs, x = .ref a ∧ ((SqL K H1 a xs ∧ ∀ p, H1 p = none → Q (.ref p) (upd H1 p (.lst xs.reverse))) ∨ (SqT K H1 a xs ∧ ∀ p, H1 p = none → Q (.ref p) (upd H1 p (.tup xs.reverse))))
theorem pe_revA {e : Expr} {te : TE} {k : Nat} {p1 p2 p3 pos : Pos} (he : PE X e te) : PE X (.Subscript e (.Slice none none (some (.UnaryOp .USub (.Constant (.int 1) k p1) p2)) p3) pos) (tRevA X.K te) := by
  refine ⟨fun pins s σ H Q I h => ?_⟩
  refine Subscript_ (thn (he.run pins s σ H _ I h) fun v s1 ⟨x, H1, I1, r1, q1⟩ => ?_)
  obtain ⟨a, xs, ex, q⟩ := q1
  subst ex
  cases r1
  have pst : PO X (some (.UnaryOp .USub (.Constant (.int 1) k p1) p2)) (tPart (tUn (rU fun i => .int (-i)) (tC (.int 1)))) := po_some (pe_un un_neg pe_int)
  refine wpAny_Slice (thn (po_none.run pins s1 σ H1 (fun o G => o = none ∧ G = H1) I1 ⟨rfl, rfl⟩) fun vl s2 ⟨l, H2, I2, pl, el, e2⟩ => ?_)
  subst el e2
  refine thn (po_none.run pins s2 σ H2 (fun o G => o = none ∧ G = H2) I2 ⟨rfl, rfl⟩) fun vu s3 ⟨u, H3, I3, pu, eu, e3⟩ => ?_
  subst eu e3
  refine thn (pst.run pins s3 σ H3 (fun o G => o = some (-1) ∧ G = H3) I3 ⟨1, rfl, -1, rfl, rfl, rfl⟩) fun vs s4 ⟨o, H4, I4, ps, eo, e4⟩ => ?_
  subst eo e4
  have I5 : Inv X pins σ H4 { s4 with heap := s4.heap.push { cls := .type "slice", data := .fields #[vl, vu, vs] } } := I4.kept (t' := s4.toks) fun b ob q => Heap.get?_push_of_some _ q
  show wpAny (model X.prog X.w) X.A (subscriptTail e (.Slice none none (some (.UnaryOp .USub (.Constant (.int 1) k p1) p2)) p3) (.ref a) (.ref s4.heap.objs.size)) (EP X pins σ Q) X.xe { s4 with heap := s4.heap.push { cls := .type "slice", data := .fields #[vl, vu, vs] } }
  rcases q with ⟨hx, q⟩ | ⟨hx, q⟩
  · obtain ⟨its, r, ht, hz⟩ := I5.list hx
    have hlen := r.length
    refine tail_any (ops := [.ref a, .ref s4.heap.objs.size]) ht.isList.typeIs (PySem.slot_list_getitem.lookup) ?_ (by with_unfolding_all rfl)
    refine wpAny_getItem_list_slice ht.isList (Heap.IsSliceOf.new _ vl vu vs) pl pu ps (by decide) ?_ (by rw [List.size_toArray]; omega)
    rw [PySem.W.krv_pick]
    refine ⟨.ref _, _, I5.laid (t' := s4.toks) (o := .lst xs.reverse) (fun b ob q => Heap.get?_push_of_some _ q) (Nat.le_refl _) ?_, rfl, q _ (I5.hok.fresh (Nat.le_refl _))⟩
    exact ⟨by rw [List.length_reverse]; exact hz, _, 0, r.reverse, Heap.get?_push_size _ rfl⟩
  · obtain ⟨its, r, ht, hz⟩ := I5.tuple hx
    have hlen := r.length
    refine tail_any (ops := [.ref a, .ref s4.heap.objs.size]) ht.typeIs (PyProof.Rows.slot_tuple_getitem.lookup) ?_ (by with_unfolding_all rfl)
    refine back_item ht (Heap.IsSliceOf.new _ vl vu vs) pl pu ps ?_ (by rw [List.size_toArray]; omega)
    refine ⟨.ref _, _, I5.laid (t' := s4.toks) (o := .tup xs.reverse) (fun b ob q => Heap.get?_push_of_some _ q) (Nat.le_refl _) ?_, rfl, q _ (I5.hok.fresh (Nat.le_refl _))⟩
    exact ⟨by rw [List.length_reverse]; exact hz, _, r.reverse, IsTup.new _ _⟩
end
section
variable {X : Cx} {W : WD} {a : Expr} {fa : DEn}
def gRev : D → Option D
  | .tup ds => some (.tup ds.reverse)
  | .lst ds => some (.lst ds.reverse)
  | .rol ds => some (.lst ds.reverse)
  | _ => none
def mRev (fa : DEn) : DEn := fun ρ S => (fa ρ S).bind fun d S1 => lift (gRev d) S1
theorem xrev {k : Nat} {p1 p2 p3 pos : Pos} (ha : DE X W a fa) : DE X W (.Subscript a (.Slice none none (some (.UnaryOp .USub (.Constant (.int 1) k p1) p2)) p3) pos) (mRev fa) :=
  PE.imp (pe_revA ha) fun σ H Q ⟨HF, L, ρ, S, R, p⟩ => ⟨HF, L, ρ, S, R, Post.bind p fun d S1 v H1 HF1 L1 e1 st1 R1 r1 p1 => by
    obtain ⟨d', ed, p2⟩ := p1.lift
    cases d with
    | tup ds =>
      cases ed
      cases r1 with
      | tup h1 h2 => exact ⟨_, _, rfl, .inr ⟨SqT.mono R1.sub h1, fun q hq => p2.done R1 (.new hq) (.tup (SqE.of upd_same) (h2.reverse.mono (same_upd (R1.hf hq))))⟩⟩
    | lst ds =>
      cases ed
      cases r1 with
      | lst h1 h2 => exact ⟨_, _, rfl, .inl ⟨SqL.of (R1.sub _ _ h1), fun q hq => p2.done R1 (.new hq) (.lst upd_same (h2.reverse.mono (same_upd (R1.hf hq))))⟩⟩
    | rol ds =>
      cases ed
      cases r1 with
      | rol h1 h2 => exact ⟨_, _, rfl, .inl ⟨R1.sub.seq h1, fun q hq => p2.done R1 (.new hq) (.lst upd_same (h2.reverse.mono (same_upd (R1.hf hq))))⟩⟩
    | _ => cases ed⟩
end
end DL

/-! the layer of data: max, min, sum, abs, math.gcd -/
namespace DL
open PySem PySem.Spec PyProof.Rows L2
section
variable {prog : Program} {w : World} {A : Around} {E : Value → Shared → Prop} {s : Shared} {l : Addr} {xs : Array (Int × Tok)}
theorem iter_intTup {Q : Value → Shared → Prop} (hl : s.heap.IsTuple l (intItems xs))
    (h : ∀ s₂ : Shared, s₂ = { s with heap := s.heap.push { cls := .type "tuple_iterator", data := .fields #[.ref l, .int 0 0] } } →
      (s₂.heap.IsTupleIter s.heap.objs.size l 0 ∧ s₂.heap.IsTuple l (intItems xs)) → (∀ b ∈ [s.heap.objs.size, l], b < s₂.heap.objs.size) → l ≠ s.heap.objs.size → Q (.ref s.heap.objs.size) s₂) :
    wpAny (model prog w) A (pyIter (.ref l)) Q E s := by
  have hlt : l < s.heap.objs.size := by obtain ⟨_, e, _⟩ := hl; exact Heap.lt_size e
  refine wpAny_pyIter_tuple hl (h _ rfl ⟨⟨_, Heap.get?_push_size _ rfl, rfl, rfl⟩, hl.push _⟩ (fun b hb => ?_) (Nat.ne_of_lt hlt))
  show b < (s.heap.push _).objs.size
  rw [Heap.size_push]
  rcases List.mem_cons.mp hb with rfl | hb
  · exact Nat.lt_succ_self _
  · rcases List.mem_cons.mp hb with rfl | hb
    · exact Nat.lt_succ_of_lt hlt
    · cases hb
theorem old_keptT {h' : Heap} (hk : ∀ b o, b ∉ [s.heap.objs.size] → (s.heap.push { cls := .type "tuple_iterator", data := .fields #[.ref l, .int 0 0] }).get? b = some o → h'.get? b = some o) :
    ∀ b o, s.heap.get? b = some o → h'.get? b = some o := fun b o e => by
  refine hk b o (fun hm => ?_) (Heap.get?_push_of_some _ e)
  rcases List.mem_cons.mp hm with e1 | hm
  · exact absurd (e1 ▸ Heap.lt_size e) (Nat.lt_irrefl _)
  · cases hm
theorem max_intTup {Q : Value → Shared → Prop} (hh : A.handled = none) (hl : s.heap.IsTuple l (intItems xs)) (hne : 0 < xs.size)
    (h : ∀ v h' tk, (intItems xs)[argBest (fun i j => decide (numAt xs i > numAt xs j)) (xs.size - 1)]? = some v → (∀ b o, s.heap.get? b = some o → h'.get? b = some o) → Q v { s with heap := h', toks := tk }) :
    wpAny (model prog w) A (call (.builtin "max") [.ref l]) Q E s := by
  refine call_max_walk (iter_intTup hl fun s₂ e st hfp hlI => ?_)
  subst e
  refine ⟨_, _, _, _, _, _, _, rfl, Walks.tuple (A := A.in1) hh _ l hlI (intItems xs), st, hfp, by simpa [intItems] using hne, CmpOf.ints_gt (numAt xs) (fun _ _ => intItems_at), fun v h' tk hP hk => ?_⟩
  exact h v h' tk (by simpa [intItems] using hP) (old_keptT hk)
theorem min_intTup {Q : Value → Shared → Prop} (hh : A.handled = none) (hl : s.heap.IsTuple l (intItems xs)) (hne : 0 < xs.size)
    (h : ∀ v h' tk, (intItems xs)[argBest (fun i j => decide (numAt xs i < numAt xs j)) (xs.size - 1)]? = some v → (∀ b o, s.heap.get? b = some o → h'.get? b = some o) → Q v { s with heap := h', toks := tk }) :
    wpAny (model prog w) A (call (.builtin "min") [.ref l]) Q E s := by
  refine call_min_walk (iter_intTup hl fun s₂ e st hfp hlI => ?_)
  subst e
  refine ⟨_, _, _, _, _, _, _, rfl, Walks.tuple (A := A.in1) hh _ l hlI (intItems xs), st, hfp, by simpa [intItems] using hne, CmpOf.ints_lt (numAt xs) (fun _ _ => intItems_at), fun v h' tk hP hk => ?_⟩
  exact h v h' tk (by simpa [intItems] using hP) (old_keptT hk)
end
section
variable {prog : Program} {w : World} {A : Around} {E : Value → Shared → Prop} {s : Shared} {l : Addr} {its : List Value} {ns : List Int} {Q : Value → Shared → Prop}
theorem sum_intTup {xs : Array (Int × Tok)} (hh : A.handled = none) (hl : s.heap.IsTuple l (intItems xs))
    (h : ∀ h' tk t', (∀ b o, s.heap.get? b = some o → h'.get? b = some o) → Q (.int (preSum (numAt xs) xs.size) t') { s with heap := h', toks := tk }) :
    wpAny (model prog w) A (call (.builtin "sum") [.ref l]) Q E s := by
  refine call_sum_walkG (iter_intTup hl fun s₂ e st hfp hlI => ?_)
  subst e
  refine ⟨_, _, _, _, _, _, numAt xs, rfl, Walks.tuple (A := A.in1) hh _ l hlI (intItems xs), st, hfp, (fun _ _ => intItems_at), fun h' tk t' hk => ?_⟩
  have := h h' tk t' (old_keptT hk)
  simpa [intItems] using this
theorem sum_rawT (hh : A.handled = none) (hl : s.heap.IsTuple l its.toArray) (hi : IntsAre its ns)
    (h : ∀ h' tk t', (∀ b o, s.heap.get? b = some o → h'.get? b = some o) → Q (.int ns.sum t') { s with heap := h', toks := tk }) : wpAny (model prog w) A (call (.builtin "sum") [.ref l]) Q E s := by
  obtain ⟨xs, e⟩ := hi.allInts.items
  have hn : numsOf (intItems xs).toList = ns := by rw [← e]; exact hi.numsOf
  rw [nums_intItems] at hn
  rw [e] at hl
  refine sum_intTup hh hl fun h' tk t' hk => ?_
  have := h h' tk t' hk
  rw [preSum_eq, List.take_of_length_le (by simp), hn]; exact this
theorem max_rawT (hh : A.handled = none) (hl : s.heap.IsTuple l its.toArray) (hi : IntsAre its ns) (hne : 0 < ns.length)
    (h : ∀ h' tk M t', (∀ b o, s.heap.get? b = some o → h'.get? b = some o) → M ∈ ns → (∀ a, a ∈ ns → a ≤ M) → Q (.int M t') { s with heap := h', toks := tk }) : wpAny (model prog w) A (call (.builtin "max") [.ref l]) Q E s := by
  obtain ⟨xs, e⟩ := hi.allInts.items
  have hn : numsOf (intItems xs).toList = ns := by rw [← e]; exact hi.numsOf
  rw [nums_intItems] at hn
  subst hn
  rw [e] at hl
  have hsz : 0 < xs.size := by simpa using hne
  refine max_intTup hh hl hsz fun v h' tk hv hk => ?_
  obtain ⟨t, rfl⟩ := intItems_at hv
  obtain ⟨h1, h2⟩ := argBest_gt (numAt xs) (xs.size - 1)
  refine h h' tk _ t hk ?_ fun a ha => ?_
  · rw [numAt_eq]; exact PySem.getD_mem (by rw [List.length_map, Array.length_toList]; omega)
  · obtain ⟨j, hj, rfl⟩ := mem_getD ha
    rw [List.length_map, Array.length_toList] at hj
    rw [← numAt_eq]; exact h2 j (by omega)
theorem min_rawT (hh : A.handled = none) (hl : s.heap.IsTuple l its.toArray) (hi : IntsAre its ns) (hne : 0 < ns.length)
    (h : ∀ h' tk M t', (∀ b o, s.heap.get? b = some o → h'.get? b = some o) → M ∈ ns → (∀ a, a ∈ ns → M ≤ a) → Q (.int M t') { s with heap := h', toks := tk }) : wpAny (model prog w) A (call (.builtin "min") [.ref l]) Q E s := by
  obtain ⟨xs, e⟩ := hi.allInts.items
  have hn : numsOf (intItems xs).toList = ns := by rw [← e]; exact hi.numsOf
  rw [nums_intItems] at hn
  subst hn
  rw [e] at hl
  have hsz : 0 < xs.size := by simpa using hne
  refine min_intTup hh hl hsz fun v h' tk hv hk => ?_
  obtain ⟨t, rfl⟩ := intItems_at hv
  obtain ⟨h1, h2⟩ := argBest_lt (numAt xs) (xs.size - 1)
  refine h h' tk _ t hk ?_ fun a ha => ?_
  · rw [numAt_eq]; exact PySem.getD_mem (by rw [List.length_map, Array.length_toList]; omega)
  · obtain ⟨j, hj, rfl⟩ := mem_getD ha
    rw [List.length_map, Array.length_toList] at hj
    rw [← numAt_eq]; exact h2 j (by omega)
end
section
variable {X : Cx} {W : WD}
def rSumT (K : PySem.W.Frag) : List V → Hp → VK → Prop := fun vs H Q => ∃ (a : Addr) (ns : List Int), vs = [V.ref a] ∧ SqT K H a (ns.map V.int) ∧ Q (.int ns.sum) H
theorem cr_sumT (hc : X.calm = true) : CallR X (.builtin "sum") (rSumT X.K) := by
  intro pins s σ H vs us Q I r h
  obtain ⟨a, ns, rfl, hs, q⟩ := h
  obtain ⟨its, rv, hl, _⟩ := I.tuple hs
  rw [Vals.ref1 r]
  exact sum_rawT (I.ok.hd hc) hl rv.ints fun h' tk t' hk => ⟨.int _, H, I.kept hk, ⟨_, rfl⟩, q⟩
def rMaxT (K : PySem.W.Frag) : List V → Hp → VK → Prop := fun vs H Q => ∃ (a : Addr) (ns : List Int), vs = [V.ref a] ∧ SqT K H a (ns.map V.int) ∧ 0 < ns.length ∧ ∀ m, m ∈ ns → (∀ y, y ∈ ns → y ≤ m) → Q (.int m) H
def rMinT (K : PySem.W.Frag) : List V → Hp → VK → Prop := fun vs H Q => ∃ (a : Addr) (ns : List Int), vs = [V.ref a] ∧ SqT K H a (ns.map V.int) ∧ 0 < ns.length ∧ ∀ m, m ∈ ns → (∀ y, y ∈ ns → m ≤ y) → Q (.int m) H
theorem cr_maxT (hc : X.calm = true) : CallR X (.builtin "max") (rMaxT X.K) := by
  intro pins s σ H vs us Q I r h
  obtain ⟨a, ns, rfl, hs, hne, q⟩ := h
  obtain ⟨its, rv, hl, _⟩ := I.tuple hs
  rw [Vals.ref1 r]
  exact max_rawT (I.ok.hd hc) hl rv.ints hne fun h' tk m t' hk h1 h2 => ⟨.int _, H, I.kept hk, ⟨_, rfl⟩, q m h1 h2⟩
theorem cr_minT (hc : X.calm = true) : CallR X (.builtin "min") (rMinT X.K) := by
  intro pins s σ H vs us Q I r h
  obtain ⟨a, ns, rfl, hs, hne, q⟩ := h
  obtain ⟨its, rv, hl, _⟩ := I.tuple hs
  rw [Vals.ref1 r]
  exact min_rawT (I.ok.hd hc) hl rv.ints hne fun h' tk m t' hk h1 h2 => ⟨.int _, H, I.kept hk, ⟨_, rfl⟩, q m h1 h2⟩
end
section
variable {X : Cx} {W : WD}
def gMax2 : List D → Option D
  | [.int i, .int j] => some (.int (if j > i then j else i))
  | _ => none
def gMin2 : List D → Option D
  | [.int i, .int j] => some (.int (if j < i then j else i))
  | _ => none
theorem two_ints {G : Gd} {HF : Hp} {vs : List V} {i j : Int} (r : Reps G HF vs [.int i, .int j]) : vs = [.int i, .int j] := by
  cases r with
  | cons h1 h2 =>
    cases h2 with
    | cons h2 h3 =>
      cases h3
      cases h1
      cases h2
      rfl
theorem biMax2 (hc : X.calm = true) : BiO X W (.builtin "max") gMax2 := by
  refine ⟨_, call_max2 hc, fun xs vs H HF d Q sub r e q => ?_⟩
  unfold gMax2 at e
  split at e
  · cases e
    rw [two_ints r]
    exact ⟨_, _, rfl, q _ _ _ .no (.int _)⟩
  · cases e
theorem biMin2 (hc : X.calm = true) : BiO X W (.builtin "min") gMin2 := by
  refine ⟨_, call_min2 hc, fun xs vs H HF d Q sub r e q => ?_⟩
  unfold gMin2 at e
  split at e
  · cases e
    rw [two_ints r]
    exact ⟨_, _, rfl, q _ _ _ .no (.int _)⟩
  · cases e
def gAbs : List D → Option D
  | [.int i] => some (.int (if i < 0 then -i else i))
  | _ => none
theorem biAbs : BiO X W (.builtin "abs") gAbs := by
  refine ⟨_, call_abs, fun xs vs H HF d Q sub r e q => ?_⟩
  unfold gAbs at e
  split at e
  · cases e
    obtain ⟨v, rfl, h⟩ := r.one
    cases h
    exact ⟨_, rfl, q _ _ _ .no (.int _)⟩
  · cases e
def gSum : List D → Option D
  | [.lst ds] => (intsOf ds).map fun is => .int is.sum
  | [.tup ds] => (intsOf ds).map fun is => .int is.sum
  | _ => none
theorem biSum (hc : X.calm = true) : BiO X W (.builtin "sum") gSum := by
  refine ⟨_, CallR.or (cr_sum hc) (cr_sumT hc), fun xs vs H HF d Q sub r e q => ?_⟩
  unfold gSum at e
  split at e
  · rename_i ds
    cases eb : intsOf ds with
    | none => rw [eb] at e; cases e
    | some is =>
      rw [eb] at e
      cases e
      obtain ⟨v, rfl, h⟩ := r.one
      cases h with
      | lst h1 h2 =>
        have ev := h2.intsOf eb
        subst ev
        exact .inl ⟨_, is, rfl, SqL.of (sub _ _ h1), q _ _ _ .no (.int _)⟩
  · rename_i ds
    cases eb : intsOf ds with
    | none => rw [eb] at e; cases e
    | some is =>
      rw [eb] at e
      cases e
      obtain ⟨v, rfl, h⟩ := r.one
      cases h with
      | tup h1 h2 =>
        have ev := h2.intsOf eb
        subst ev
        exact .inr ⟨_, is, rfl, SqT.mono sub h1, q _ _ _ .no (.int _)⟩
  · cases e
def maxI : Int → List Int → Int
  | m, [] => m
  | m, x :: xs => maxI (if x > m then x else m) xs
def minI : Int → List Int → Int
  | m, [] => m
  | m, x :: xs => minI (if x < m then x else m) xs
theorem maxI_is : ∀ (xs : List Int) (m : Int), maxI m xs ∈ m :: xs ∧ ∀ y ∈ m :: xs, y ≤ maxI m xs
  | [], m => ⟨by simp [maxI], by simp [maxI]⟩
  | x :: xs, m => by
    obtain ⟨h1, h2⟩ := maxI_is xs (if x > m then x else m)
    have e : maxI m (x :: xs) = maxI (if x > m then x else m) xs := rfl
    rw [e]
    have h3 := h2 _ List.mem_cons_self
    generalize maxI (if x > m then x else m) xs = v at h1 h2 h3
    refine ⟨?_, fun y hy => ?_⟩
    · rcases List.mem_cons.mp h1 with z | z
      · rw [z]; split <;> simp
      · simp [z]
    · rcases List.mem_cons.mp hy with rfl | hy
      · split at h3 <;> omega
      · rcases List.mem_cons.mp hy with rfl | hy
        · split at h3 <;> omega
        · exact h2 y (List.mem_cons_of_mem _ hy)
theorem minI_is : ∀ (xs : List Int) (m : Int), minI m xs ∈ m :: xs ∧ ∀ y ∈ m :: xs, minI m xs ≤ y
  | [], m => ⟨by simp [minI], by simp [minI]⟩
  | x :: xs, m => by
    obtain ⟨h1, h2⟩ := minI_is xs (if x < m then x else m)
    have e : minI m (x :: xs) = minI (if x < m then x else m) xs := rfl
    rw [e]
    have h3 := h2 _ List.mem_cons_self
    generalize minI (if x < m then x else m) xs = v at h1 h2 h3
    refine ⟨?_, fun y hy => ?_⟩
    · rcases List.mem_cons.mp h1 with z | z
      · rw [z]; split <;> simp
      · simp [z]
    · rcases List.mem_cons.mp hy with rfl | hy
      · split at h3 <;> omega
      · rcases List.mem_cons.mp hy with rfl | hy
        · split at h3 <;> omega
        · exact h2 y (List.mem_cons_of_mem _ hy)
def gMax : List D → Option D
  | [.lst ds] => match intsOf ds with
    | some (m :: is) => some (.int (maxI m is))
    | _ => none
  | [.tup ds] => match intsOf ds with
    | some (m :: is) => some (.int (maxI m is))
    | _ => none
  | _ => none
def gMin : List D → Option D
  | [.lst ds] => match intsOf ds with
    | some (m :: is) => some (.int (minI m is))
    | _ => none
  | [.tup ds] => match intsOf ds with
    | some (m :: is) => some (.int (minI m is))
    | _ => none
  | _ => none
theorem biMax (hc : X.calm = true) : BiO X W (.builtin "max") gMax := by
  refine ⟨_, CallR.or (cr_max hc) (cr_maxT hc), fun xs vs H HF d Q sub r e q => ?_⟩
  unfold gMax at e
  split at e
  · rename_i ds
    split at e
    · rename_i m is eb
      cases e
      obtain ⟨v, rfl, h⟩ := r.one
      cases h with
      | lst h1 h2 =>
        have ev := h2.intsOf eb
        subst ev
        obtain ⟨g1, g2⟩ := maxI_is is m
        refine .inl ⟨_, m :: is, rfl, SqL.of (sub _ _ h1), by simp, fun y hy hm => ?_⟩
        have e1 := hm _ g1
        have e2 := g2 _ hy
        obtain rfl : y = maxI m is := by omega
        exact q _ _ _ .no (.int _)
    · cases e
  · rename_i ds
    split at e
    · rename_i m is eb
      cases e
      obtain ⟨v, rfl, h⟩ := r.one
      cases h with
      | tup h1 h2 =>
        have ev := h2.intsOf eb
        subst ev
        obtain ⟨g1, g2⟩ := maxI_is is m
        refine .inr ⟨_, m :: is, rfl, SqT.mono sub h1, by simp, fun y hy hm => ?_⟩
        have e1 := hm _ g1
        have e2 := g2 _ hy
        obtain rfl : y = maxI m is := by omega
        exact q _ _ _ .no (.int _)
    · cases e
  · cases e
theorem biMin (hc : X.calm = true) : BiO X W (.builtin "min") gMin := by
  refine ⟨_, CallR.or (cr_min hc) (cr_minT hc), fun xs vs H HF d Q sub r e q => ?_⟩
  unfold gMin at e
  split at e
  · rename_i ds
    split at e
    · rename_i m is eb
      cases e
      obtain ⟨v, rfl, h⟩ := r.one
      cases h with
      | lst h1 h2 =>
        have ev := h2.intsOf eb
        subst ev
        obtain ⟨g1, g2⟩ := minI_is is m
        refine .inl ⟨_, m :: is, rfl, SqL.of (sub _ _ h1), by simp, fun y hy hm => ?_⟩
        have e1 := hm _ g1
        have e2 := g2 _ hy
        obtain rfl : y = minI m is := by omega
        exact q _ _ _ .no (.int _)
    · cases e
  · rename_i ds
    split at e
    · rename_i m is eb
      cases e
      obtain ⟨v, rfl, h⟩ := r.one
      cases h with
      | tup h1 h2 =>
        have ev := h2.intsOf eb
        subst ev
        obtain ⟨g1, g2⟩ := minI_is is m
        refine .inr ⟨_, m :: is, rfl, SqT.mono sub h1, by simp, fun y hy hm => ?_⟩
        have e1 := hm _ g1
        have e2 := g2 _ hy
        obtain rfl : y = minI m is := by omega
        exact q _ _ _ .no (.int _)
    · cases e
  · cases e
def gGcd : List D → Option D
  | [.int i, .int j] => some (.int ((Nat.gcd i.natAbs j.natAbs : Nat) : Int))
  | _ => none
variable {a : Expr} {es : List Expr} {fs : DDn}
/-- a built-in function that the module has imported under a name -/
theorem xbg {x : Str} {id : String} {p pos : Pos} {g : List D → Option D} (o : BiO X W (.builtin id) g) (hm : X.mg x = some (.builtin id)) (ha : DA X W (a :: es) fs) (hg : Gl X x := by rfl) (hdb : (x == ("__debug__" : Str)) = false := by decide)
    (he : starEach (a :: es) X.env = (false, eval a X.env) :: starEach es X.env := by rfl) (hpl : (backTo pos (starEach es X.env)).any (·.1) = false := by rfl) : DE X W (.Call (.Name x p) (a :: es) [] pos) (mBi g fs) := by
  obtain ⟨r, h1, h2⟩ := o.has
  exact PE.imp (StS.pe_callG h1 hg hm ha hdb he hpl) fun σ H Q h => tD.bi h2 h
theorem biGcd : BiO X W (.builtin "math.gcd") gGcd := by
  refine ⟨_, cr_gcd, fun xs vs H HF d Q sub r e q => ?_⟩
  unfold gGcd at e
  split at e
  · cases e
    rw [two_ints r]
    exact ⟨_, _, rfl, q _ _ _ .no (.int _)⟩
  · cases e
end
end DL

/-! evaluation: comprehensions over lists of anything -/
namespace DL
open PySem L2
theorem rgD_nat (n : Nat) : rgD 0 (n : Int) = (List.range n).map fun i : Nat => D.int (i : Int) := by
  unfold rgD
  rw [show ((n : Int) - 0).toNat = n by omega]
  refine List.map_congr_left fun i _ => ?_
  simp
theorem filter_true {α : Type} (l : List α) : l.filter (fun _ => true) = l := List.filter_eq_self.mpr fun _ _ => rfl
theorem lcT {α : Type} {tg : Tg} {tt : DTn} {fe : DEn} {ρ : DL.Env} {S : Store} (emb : α → D) (f : α → Bool) (g : α → D) : ∀ (xs : List α), (∀ x ∈ xs, ∃ ρ1, asg tg (emb x) ρ = some ρ1 ∧ tt ρ1 S = .ok (f x) S ∧ (f x = true → fe ρ1 S = .ok (g x) S)) → ∀ acc : List D, acc.length + xs.length ≤ lim → lcL tg tt fe ρ (xs.map emb) S acc = .ok (acc ++ (xs.filter f).map g) S
  | [], h, acc, _ => by simp [lcL]
  | x :: xs, h, acc, hl => by
    obtain ⟨ρ1, e1, e2, e3⟩ := h x List.mem_cons_self
    rw [List.map_cons]
    unfold lcL
    rw [e1]
    dsimp only
    rw [e2]
    simp only [ev_bd_ok]
    have hl' : acc.length + (xs.length + 1) ≤ lim := by simpa using hl
    cases hf : f x with
    | false =>
      rw [if_neg Bool.false_ne_true, lcT emb f g xs (fun d hd => h d (List.mem_cons_of_mem _ hd)) acc (by omega)]
      simp [hf]
    | true =>
      rw [if_pos rfl, e3 hf]
      simp only [ev_bd_ok]
      rw [if_pos (by omega), lcT emb f g xs (fun d hd => h d (List.mem_cons_of_mem _ hd)) (acc ++ [g x]) (by simp; omega)]
      simp [hf]
end DL

/-! the layer of data: a tuple taken once (t * 1 is t) -/
namespace L2
open PySem PySem.Spec PyProof.Rows
theorem tuple_mul1 (l : Addr) (items : Array Value) (n : Nat) (dd : Option Addr) (sl : Array (Option Value)) (u : Tok) :
    Meets (Builtin.«tuple.__mul__» ⟨[.ref l, .int 1 u], []⟩) (fun _ R s => s.heap.get? l = some { cls := .type "tuple", dict := dd, data := .seq items n, slots := sl } ∧ R (.ok (.ret (Value.ref l))) s) :=
  .of_wp fun prog w A R s h => by
    obtain ⟨hp, g, d, tk, os⟩ := s
    obtain ⟨hl, h⟩ := h
    have f1 := AutoSeq1.idx_int
    wp_walk using wpAny_loadPart' hl
    exact ⟨_, rfl, h⟩
def rRepT1 (K : PySem.W.Frag) : R2 := fun x y H Q => ∃ l xs, x = .ref l ∧ y = .int 1 ∧ SqT K H l xs ∧ Q (.ref l) H
section
variable {X : Cx}
theorem op_repT1 : OpR X (binaryOp .Mult) (rRepT1 X.K) := by
  intro pins s σ H x y v u Q I rx ry h
  obtain ⟨l, xs, rfl, rfl, hT, q⟩ := h
  cases rx
  obtain ⟨t, rfl⟩ := ry
  obtain ⟨its, r, ⟨⟨cls, dd, data, sl⟩, ho, hc, n, hd⟩, hs⟩ := I.tuple hT
  simp only at hc hd
  subst hc hd
  exact wpAny_binaryOp_repeat_ref (T := "tuple") (U := "int") (by decide) ⟨_, ho, rfl⟩ (fun s' => typeIs_int s' 1 t) noFill_tuple_mul F.fills_int_mul F.slot_int_rmul repeat_tuple F.slot_int_index.lookup
    (call_meets F.slot_int_rmul (typeIs_int s 1 t) F.entry_int_rmul (F.args_int_rmul_2 _ _) (int_rmul_tuple 1 t l its.toArray n dd sl)
      ⟨ho, rfl, ⟨_, ho, rfl⟩, call_meets F.slot_tuple_mul ⟨_, ho, rfl⟩ F.entry_tuple_mul (F.args_tuple_mul_2 _ _) (tuple_mul1 l its.toArray n dd sl t) ⟨ho, ⟨.ref l, _, I, rfl, q⟩⟩⟩)
end
end L2
namespace DL
open PySem L2
def gMulT (x y : D) : Option D := match gMul x y with
  | some d => some d
  | none => match x, y with
    | .tup a, .int k => if k = 1 then some (.tup a) else none
    | _, _ => none
theorem gMulT_rep {a : List D} {k : Nat} (h0 : a ≠ []) (h1 : 1 ≤ k) (h2 : k ≤ 1000) (h3 : a.length ≤ 1000) : gMulT (.tup a) (.int (k : Int)) = some (.tup (List.replicate k a).flatten) := by
  unfold gMulT
  by_cases hk : k = 1
  · subst hk
    have e : gMul (.tup a) (.int ((1 : Nat) : Int)) = none := by
      show (if a ≠ [] ∧ (2 : Int) ≤ ((1 : Nat) : Int) ∧ ((1 : Nat) : Int) ≤ 1000 ∧ a.length ≤ 1000 then some (D.tup (List.replicate ((1 : Nat) : Int).toNat a).flatten) else none) = none
      exact if_neg fun z => by have := z.2.1; omega
    rw [e]
    simp
  · have e : gMul (.tup a) (.int (k : Int)) = some (.tup (List.replicate k a).flatten) := by
      show (if a ≠ [] ∧ (2 : Int) ≤ (k : Int) ∧ (k : Int) ≤ 1000 ∧ a.length ≤ 1000 then some (D.tup (List.replicate (k : Int).toNat a).flatten) else none) = _
      rw [if_pos ⟨h0, by omega, by omega, h3⟩, Int.toNat_natCast]
    rw [e]
section
variable {X : Cx} {W : WD}
theorem bMulT : BOp X W .Mult gMulT := by
  obtain ⟨r, hr, hs⟩ := (bMul (X := X) (W := W)).has
  refine ⟨_, OpR.or hr (op_repT1 (X := X)), fun x y v w H HF d Q sub rx ry e q => ?_⟩
  unfold gMulT at e
  split at e
  · rename_i d' e'
    cases e
    exact .inl (hs x y v w H HF _ Q sub rx ry e' q)
  · split at e
    · rename_i a k
      split at e
      · rename_i hk
        subst hk
        cases e
        cases ry
        cases rx with
        | tup h1 r1 => exact .inr ⟨_, _, rfl, rfl, SqT.mono sub h1, q _ _ _ .no (.tup h1 r1)⟩
      · cases e
    · cases e
end
end DL

/-! the layer of data: [c] * n as a new cell -/
namespace DL
open PySem L2
def mNewRep (fa fb : DEn) : DVn := fun ρ S => (fa ρ S).bind fun x S1 => (fb ρ S1).bind fun y S2 => match x, y with
  | .lst ds, .int k => if k ≤ 1000 ∧ -1000 ≤ k ∧ ds.length ≤ 1000 then .ok (.cel S2.length) (S2 ++ [some (.lst (List.replicate k.toNat ds).flatten)]) else .bad
  | _, _ => .bad
section
variable {X : Cx} {W : WD} {pos : Pos} {a b : Expr} {fa fb : DEn}
theorem vrep (ha : DE X W a fa) (hb : DE X W b fb) : DV X W (.BinOp a .Mult b pos) (mNewRep fa fb) :=
  PE.imp (pe_op op_rep ha hb) fun σ H Q ⟨HF, L, ρ, S, R, p⟩ => ⟨HF, L, ρ, S, R, Post.bind p fun x S1 v H1 HF1 L1 e1 st1 R1 r1 p1 => ⟨HF1, L1, ρ, S1, R1, Post.bind p1 fun y S2 w H2 HF2 L2 e2 st2 R2 r2 p2 => by
    have r1' := Rep.mono st2.fro r1
    cases y with
    | int k =>
      cases r2
      cases x with
      | lst ds =>
        dsimp only at p2
        split at p2
        · rename_i hz
          cases r1' with
          | lst h1 h2 =>
            refine ⟨_, _, _, rfl, rfl, R2.sub _ _ h1, by omega, by omega, ?_, fun q hq => Post.fresh (α := EV) R2 hq (h2.rep _) p2⟩
            rw [h2.length]
            have h0 : ds.length * k.toNat ≤ 1000 * 1000 := Nat.mul_le_mul hz.2.2 (by omega)
            exact Nat.le_trans h0 lim_le
        · exact p2.elim
      | _ => exact p2.elim
    | _ => cases x <;> exact p2.elim⟩⟩
end
end DL

/-! the layer of data: a + b of lists, each a value or a cell; the sum a value or a new cell -/
namespace DL
open PySem L2
def lstOf (S : Store) : EV → Option (List D)
  | .v (.lst ds) => some ds
  | .cel n => match S[n]? with
    | some (some (.lst ds)) => some ds
    | _ => none
  | _ => none
def mCatWith {α : Type} (k : List D → Store → Out α) (fa fb : DVn) : DL.Env → Store → Out α := fun ρ S => (fa ρ S).bind fun x S1 => (fb ρ S1).bind fun y S2 => match lstOf S2 x, lstOf S2 y with
  | some ds, some es => if ds.length + es.length ≤ lim then k (ds ++ es) S2 else .bad
  | _, _ => .bad
def mNewCat (fa fb : DVn) : DVn := mCatWith (fun ds S => .ok (.cel S.length) (S ++ [some (.lst ds)])) fa fb
def mCat (fa fb : DVn) : DEn := mCatWith (fun ds S => .ok (.lst ds) S) fa fb
section
variable {X : Cx} {W : WD} {pos : Pos} {a b : Expr} {fa fb : DVn}
theorem lstOf_rep {G : Gd} {H HF : Hp} {L : List Addr} {σ : L2.St} {ρ : DL.Env} {S : Store} (R : Rel G H HF L σ ρ S) {v : V} {e : EV} {ds : List D} (r : RepE G HF L v e) (h : lstOf S e = some ds) : ∃ p xs, v = .ref p ∧ H p = some (.lst xs) ∧ Reps G HF xs ds := by
  cases e with
  | v d =>
    cases d with
    | lst es =>
      obtain rfl : es = ds := Option.some.inj h
      have r : Rep G HF v (.lst es) := r
      cases r with
      | lst h1 h2 => exact ⟨_, _, rfl, R.sub _ _ h1, h2⟩
    | _ => cases h
  | cel n =>
    unfold lstOf at h
    dsimp only at h
    split at h
    · rename_i es e
      obtain rfl : es = ds := Option.some.inj h
      obtain ⟨p, h1, rfl⟩ := r
      obtain ⟨h2, vs, h3, h4⟩ := R.cell n p _ h1 e
      exact ⟨p, vs, rfl, h3, h4⟩
    · cases h
  | exn x => cases h
  | lam ws ds => cases h
theorem vcat (ha : DV X W a fa) (hb : DV X W b fb) : DV X W (.BinOp a .Add b pos) (mNewCat fa fb) :=
  PE.imp (pe_op op_cat ha hb) fun σ H Q ⟨HF, L, ρ, S, R, p⟩ => ⟨HF, L, ρ, S, R, Post.bind p fun x S1 v H1 HF1 L1 e1 st1 R1 r1 p1 => ⟨HF1, L1, ρ, S1, R1, Post.bind p1 fun y S2 w H2 HF2 L2 e2 st2 R2 r2 p2 => by
    have r1' := RepE.mono st2 r1
    split at p2
    · rename_i ds es h1 h2
      split at p2
      · rename_i hz
        obtain ⟨q, xs, rfl, k1, k2⟩ := lstOf_rep R2 r1' h1
        obtain ⟨q', ys, rfl, k3, k4⟩ := lstOf_rep R2 r2 h2
        refine ⟨_, _, _, _, rfl, rfl, k1, k3, ?_, fun t ht => Post.fresh (α := EV) R2 ht (k2.append k4) p2⟩
        rw [k2.length, k4.length]; exact Nat.le_trans hz lim_le
      · exact p2.elim
    · exact p2.elim⟩⟩
theorem xcat (ha : DV X W a fa) (hb : DV X W b fb) : DE X W (.BinOp a .Add b pos) (mCat fa fb) :=
  PE.imp (pe_op op_cat ha hb) fun σ H Q ⟨HF, L, ρ, S, R, p⟩ => ⟨HF, L, ρ, S, R, Post.bind p fun x S1 v H1 HF1 L1 e1 st1 R1 r1 p1 => ⟨HF1, L1, ρ, S1, R1, Post.bind p1 fun y S2 w H2 HF2 L2 e2 st2 R2 r2 p2 => by
    have r1' := RepE.mono st2 r1
    split at p2
    · rename_i ds es h1 h2
      split at p2
      · rename_i hz
        obtain ⟨q, xs, rfl, k1, k2⟩ := lstOf_rep R2 r1' h1
        obtain ⟨q', ys, rfl, k3, k4⟩ := lstOf_rep R2 r2 h2
        refine ⟨_, _, _, _, rfl, rfl, k1, k3, ?_, fun t ht => ?_⟩
        · rw [k2.length, k4.length]; exact Nat.le_trans hz lim_le
        · have hF : HF2 t = none := free_of R2.sub ht
          exact p2.done R2 (.new ht) (.lst upd_same ((k2.append k4).mono (same_upd hF)))
      · exact p2.elim
    · exact p2.elim⟩⟩
end
end DL

/-! the layer of data: a lambda of one parameter handed to a def, called there -/
namespace DL
open PySem PySem.Spec PyProof.Rows L2 LamX
/-- the slots of the lambda's frame: its parameter, what it captured, its own -/
def lamE (n : Nat) (d : D) (ds : List (Option D)) : DL.Env := some (.v d) :: (ds.map (fun o => o.map EV.v) ++ List.replicate n none)
def okO {α : Type} : Out α → Out α
  | .ok a S => .ok a S
  | _ => .bad
/-- the call of the lambda at the slot i -/
noncomputable def mLamC (ws : List (Option V)) (i n : Nat) (fb : DEn) (fa : DEn) : DEn := fun ρ S => match ρ[i]? with
  | some (some (.lam ws' ds)) => haveI := Classical.propDecidable (ws' = ws); if ws' = ws then (fa ρ S).bind fun d S1 => okO (fb (lamE n d ds) S1) else .bad
  | _ => .bad
theorem noCX' {P : Program} {w : World} {outer : List PySem.Env} {H : Hp} {s : Shared} {e : Value} {s' : Shared} (h : L2.CX P w outer H s C8.E0 e s') : False := by
  obtain ⟨_, _, _, _, _, _, _, _, _, _, _, _, z⟩ := h
  exact z
theorem Rel.lamF {K : PySem.W.Frag} {mg : Str → Option Value} {xi : Option (Addr × Value × Option Addr)} {H HF : Hp} {L : List Addr} {σ : L2.St} {ρ : DL.Env} {S : Store} (R : Rel ⟨K, mg, xi⟩ H HF L σ ρ S) {N : List Str} {n : Nat} {v : V} {d : D} {ws : List (Option V)} {ds : List (Option D)}
    (rv : Rep ⟨K, mg, xi⟩ HF v d) (hl : ws.length = ds.length) (hw : ∀ (j : Nat) (d : D), ds[j]? = some (some d) → ∃ u : V, ws[j]? = some (some u) ∧ Rep ⟨K, mg, xi⟩ HF u d) (hN : N.length = 1 + ds.length + n) : Rel ⟨K, mg, none⟩ H HF L (NdefX.startF N [v] ws) (lamE n d ds) S := by
  refine ⟨R.sub, R.nd, R.sl, R.liv, R.tab, R.nft, fun m a c h1 h2 => ?_, ?_, fun i e h => ?_⟩
  · obtain ⟨q1, q2⟩ := R.cell m a c h1 h2
    refine ⟨q1, ?_⟩
    cases c with
    | lst es =>
      obtain ⟨us, q3, q4⟩ := q2
      exact ⟨us, q3, Reps.cx q4⟩
    | dk kvs =>
      obtain ⟨us, q3, q5, q4⟩ := q2
      exact ⟨us, q3, q5, Reps.cx q4⟩
    | dt kvs =>
      obtain ⟨us, q3, q5, q4⟩ := q2
      exact ⟨us, q3, q5, Reps.cx q4⟩
  · unfold NdefX.startF lamE
    simp only [List.map_cons, List.map_nil, List.length_append, List.length_cons, List.length_nil, List.length_replicate, List.length_map]
    omega
  · unfold NdefX.startF
    unfold lamE at h
    match i, h with
    | 0, h =>
      cases h
      exact ⟨v, rfl, Rep.cx rv⟩
    | i + 1, h =>
      simp only [List.getElem?_cons_succ] at h
      by_cases hi : i < ds.length
      · rw [List.getElem?_append_left (by rw [List.length_map]; exact hi), List.getElem?_map] at h
        cases q : ds[i]? with
        | none => rw [q] at h; cases h
        | some o =>
          rw [q] at h
          cases o with
          | none => cases h
          | some d' =>
            cases h
            obtain ⟨u, k1, k2⟩ := hw i d' q
            refine ⟨u, ?_, Rep.cx k2⟩
            show ((some v) :: (ws ++ List.replicate (N.length - 1 - ws.length) none))[i + 1]? = _
            rw [List.getElem?_cons_succ, List.getElem?_append_left (by omega)]
            exact k1
      · rw [List.getElem?_append_right (by rw [List.length_map]; omega), List.getElem?_replicate] at h
        split at h <;> cases h
/-- the heap's part of it, without the slots -/
theorem Rel.lamBack {K : PySem.W.Frag} {mg : Str → Option Value} {xi : Option (Addr × Value × Option Addr)} {H HF : Hp} {L : List Addr} {σ : L2.St} {ρ : DL.Env} {S : Store} (R : Rel ⟨K, mg, xi⟩ H HF L σ ρ S) : Rel ⟨K, mg, none⟩ H HF L [] [] S := by
  refine ⟨R.sub, R.nd, R.sl, R.liv, R.tab, R.nft, fun m a c h1 h2 => ?_, rfl, fun i e h => by simp at h⟩
  obtain ⟨q1, q2⟩ := R.cell m a c h1 h2
  refine ⟨q1, ?_⟩
  cases c with
  | lst es =>
    obtain ⟨us, q3, q4⟩ := q2
    exact ⟨us, q3, Reps.cx q4⟩
  | dk kvs =>
    obtain ⟨us, q3, q5, q4⟩ := q2
    exact ⟨us, q3, q5, Reps.cx q4⟩
  | dt kvs =>
    obtain ⟨us, q3, q5, q4⟩ := q2
    exact ⟨us, q3, q5, Reps.cx q4⟩
section
variable {X : Cx}
/-- the frame of the def that got the lambda -/
abbrev zc (X : Cx) (Ng : List Str) (x : Str) (sg : Scope) (g : Addr) (cdg : Value) (s : Shared) (H : Hp) : Cx := cxOf (L2.CX X.prog X.w) X.prog X.w X.K X.mg X.base Ng x sg g cdg X.A X.stack s H C8.E0
/-- the lambda's words -/
abbrev lamNF (X : Cx) (params : Arguments) (scope : Scope) (c' : Addr) : NdefX.NF := ⟨"<lambda>", X.env.qual ++ "<lambda>", params, [], scope, cloFrom X.env.cells scope.names [], c'⟩
abbrev lcx (X : Cx) (N' : List Str) (params : Arguments) (scope : Scope) (c' f : Addr) (A : Around) (outer : List PySem.Env) (s : Shared) (H : Hp) : Cx := NdefX.ncx (L2.CX X.prog X.w) X.prog X.w X.K X.mg X.base N' (lamNF X params scope c') f A outer s H C8.E0
theorem xlamcall {pins : List (Addr × Obj)} {σ : L2.St} {H : Hp} {s : Shared} {Ng : List Str} {qg : Str} {sg : Scope} {g f c' : Addr} {cdg pm ctv : Value} {params : Arguments} {body : Expr} {scope : Scope} {k i n : Nat} {a p : Str} {N' fr : List Str} {ws : List (Option V)} {p1 p2 : Pos} {e : Expr} {fa fb : DEn} {t : Tok}
    (I : Inv X pins σ H s) (hf : s.heap.get? f = some (PySem.W.kla_obj "<lambda>" (X.env.qual ++ "<lambda>") params body scope (cloFrom X.env.cells scope.names []) pm c' ctv)) (hfn : H f = none) (hfr : f ∉ frs X.stack)
    (Sn : NdefX.NScope N' [p] fr scope) (hN' : N'.length = 1 + fr.length + n) (C : NdefX.CellsAt (cloFrom X.env.cells scope.names []) fr ws s.heap H)
    (hbind : ∀ u : Value, bindArgs (PySem.W.kla_fn "<lambda>" (X.env.qual ++ "<lambda>") params body scope (cloFrom X.env.cells scope.names []) pm (.ref c') ctv) ⟨[u], []⟩ = pure [(p, u)])
    (hr : Room (k + 1) (X.A.deeper (envOfC qg sg s.heap.objs.size g cdg)))
    (hbody : ∀ (A : Around) (outer : List PySem.Env) (s : Shared) (H : Hp), Room k (A.deeper (NdefX.envF (lamNF X params scope c') f s.heap.objs.size)) → DE (lcx X N' params scope c' f A outer s H) (WF C8.E0) body fb)
    (ha : DE (zc X Ng qg sg g cdg s H) ⟨fun _ _ _ _ => False, some (f, .str (X.env.qual ++ "<lambda>") t, some c')⟩ e fa)
    (hN : Ng[i]? = some a) (hv : Vis sg a) (hd : (a == ("__debug__" : Str)) = false := by decide) (hcd : (a == ("__classdict__" : Str)) = false := by decide)
    (he : starEach (e :: []) (zc X Ng qg sg g cdg s H).env = (false, eval e (zc X Ng qg sg g cdg s H).env) :: starEach [] (zc X Ng qg sg g cdg s H).env := by rfl) :
    DE (zc X Ng qg sg g cdg s H) ⟨fun _ _ _ _ => False, some (f, .str (X.env.qual ++ "<lambda>") t, some c')⟩ (.Call (.Name a p1) [e] [] p2) (mLamC ws i n fb fa) := by
  refine ⟨fun pinsZ sZ σZ HZ Q IZ ⟨HF, L, ρ, S, R, h⟩ => ?_⟩
  unfold mLamC at h
  cases hρ : ρ[i]? with
  | none => rw [hρ] at h; exact h.elim
  | some o => cases o with
    | none => rw [hρ] at h; exact h.elim
    | some ev => cases ev with
      | v d => rw [hρ] at h; exact h.elim
      | cel n => rw [hρ] at h; exact h.elim
      | exn x => rw [hρ] at h; exact h.elim
      | lam ws' ds =>
        rw [hρ] at h
        dsimp only at h
        split at h
        · rename_i hww
          subst hww
          obtain ⟨v, hv1, f', q', t', c2, hx, rfl, hcode, hlen, hreps⟩ := R.env i _ hρ
          cases hx
          refine wpAny_Call_Name_kw (thn ((pe_var (pos := p1) (i := i) hN hv hd hcd).run pinsZ sZ σZ HZ (fun v H1 => v = .ref f ∧ H1 = HZ) IZ ⟨.ref f, hv1, rfl, rfl⟩) fun u s1 ⟨v, H1, I1, r1, q1⟩ => ?_)
          obtain ⟨rfl, rfl⟩ := q1
          obtain rfl : u = Value.ref f := r1
          have keepf : ∀ {pins' : List (Addr × Obj)} {σ' : L2.St} {H' : Hp} {s' : Shared}, Inv (zc X Ng qg sg g cdg s H) pins' σ' H' s' → s'.heap.get? f = some (PySem.W.kla_obj "<lambda>" (X.env.qual ++ "<lambda>") params body scope (cloFrom X.env.cells scope.names []) pm c' ctv) := fun J =>
            J.base.keep f _ hf hfn hfr (fun z => nomatch (show f ∈ ([] : List Addr) from z))
          have ht : tA (gd (zc X Ng qg sg g cdg s H) ⟨fun _ _ _ _ => False, some (f, .str (X.env.qual ++ "<lambda>") t, some c')⟩) ⟨fun _ _ _ _ => False, some (f, .str (X.env.qual ++ "<lambda>") t, some c')⟩ (mConsE (mV fa) mNilE) σZ H1 (fun vs H2 => ∃ v d HF2 L2' S2, vs = [v] ∧ Rel (gd (zc X Ng qg sg g cdg s H) ⟨fun _ _ _ _ => False, some (f, .str (X.env.qual ++ "<lambda>") t, some c')⟩) H2 HF2 L2' σZ ρ S2 ∧ Same HF HF2 ∧ Rep (gd (zc X Ng qg sg g cdg s H) ⟨fun _ _ _ _ => False, some (f, .str (X.env.qual ++ "<lambda>") t, some c')⟩) HF2 v d ∧
              Post (gd (zc X Ng qg sg g cdg s H) ⟨fun _ _ _ _ => False, some (f, .str (X.env.qual ++ "<lambda>") t, some c')⟩) ⟨fun _ _ _ _ => False, some (f, .str (X.env.qual ++ "<lambda>") t, some c')⟩ σZ ρ H2 HF2 L2' (fun HF' _ v d => Rep (gd (zc X Ng qg sg g cdg s H) ⟨fun _ _ _ _ => False, some (f, .str (X.env.qual ++ "<lambda>") t, some c')⟩) HF' v d) Q (okO (fb (lamE n d ds) S2))) := by
            refine ⟨HF, L, ρ, S, R, ?_⟩
            unfold mConsE mV
            cases e1 : fa ρ S with
            | bad => rw [e1] at h; exact h.elim
            | ex x S1 => rw [e1] at h; exact h
            | ok d S1 =>
              rw [e1] at h
              intro vs H2 HF2 L2' st2 R2 rs
              cases rs with
              | @cons v1 vs' d1 ds' h1 h2 =>
                cases h2
                exact ⟨v1, d, HF2, L2', S1, rfl, R2, st2.fro, h1, h.step st2⟩
          have ha' : DAE (zc X Ng qg sg g cdg s H) ⟨fun _ _ _ _ => False, some (f, .str (X.env.qual ++ "<lambda>") t, some c')⟩ [e] (mConsE (mV fa) mNilE) := e1 (v1 ha) e0 he
          refine PySem.W.callWith_F ⟨_, _, _, _, keepf I1⟩ ?_ he
          refine thn (ha'.run p2 pinsZ s1 σZ H1 _ I1 ht) fun us s2 ⟨vs, H2, I2, r, v, d, HF2, L2', S2, evs, R2, sm, rv, hp⟩ => ?_
          subst evs
          cases r with
          | @cons v0 u vs0 us0 ru rn =>
            cases rn
            refine ⟨⟨_, _, _, _, keepf I2⟩, ?_⟩
            obtain ⟨⟨oc, vs, tt, hoc, hdc, hvc⟩, _, _⟩ := I2.hok c' _ (R2.sub _ _ (sm _ _ hcode))
            have un : Un (frs X.stack) [] H H2 s.heap s2.heap := I2.base
            have C2 : NdefX.CellsAt (cloFrom X.env.cells scope.names []) fr ws' s2.heap H2 := by
              refine ⟨C.len, fun y c e => ?_, C.inj, fun j y hy => ?_⟩
              · obtain ⟨n1, v, o, ho, hd⟩ := C.all y c e
                obtain ⟨sl, q⟩ := un.any ho n1 (by simp)
                exact ⟨un.free c o ho n1 (by simp), v, _, q, hd⟩
              · obtain ⟨c, hc, hw⟩ := C.has j y hy
                refine ⟨c, hc, fun v hv => ?_⟩
                obtain ⟨u', ru', o, ho, hd⟩ := hw v hv
                obtain ⟨sl, q⟩ := un.any ho (C.all y c hc).1 (by simp)
                exact ⟨u', ru', _, q, hd⟩
            have hlt : ds.length = fr.length := by rw [← hlen]; exact C.len
            have RL := Rel.lamF (N := N') (n := n) R2 rv hlen (fun j d hd => by
              obtain ⟨u, k1, k2⟩ := hreps j d hd
              exact ⟨u, k1, Rep.mono sm k2⟩) (by rw [hN', hlt])
            have rc : codeAny (model X.prog X.w) (X.A.deeper (envOfC qg sg s.heap.objs.size g cdg)) (.call (.ref f) ⟨[u], []⟩) (CR (L2.CX X.prog X.w) (zc X Ng qg sg g cdg s H).stack X.prog X.w H2 s2 Q C8.E0) s2 := by
              refine PySem.W.kla_callFunE hr.depth (keepf I2) rfl Sn.co Sn.gen rfl ⟨c', oc, vs, tt, rfl, hoc, hdc, hvc⟩ ?_
              rw [hbind u]
              refine wpAny_pure (wpAny_newFunctionEnv Sn.nocell (fun y hy => by
                obtain rfl : y = (p, u) := by simpa using hy
                exact Sn.par p (by simp)) (fun h₁ hns hsb => ⟨I2.nolimit.fresh _ hsb, ?_⟩) Sn.kind)
              show codeAny _ _ (.expr body (NdefX.envF (lamNF X params scope c') f s2.heap.objs.size)) _ _
              have kp : ∀ b o, s2.heap.get? b = some o → h₁.get? b = some o := fun b o e => hsb.extBut b o (Nat.ne_of_lt (Heap.lt_size e)) (Heap.get?_push_of_some _ e)
              have J : Inv (lcx X N' params scope c' f (X.A.deeper (envOfC qg sg s.heap.objs.size g cdg)) (zc X Ng qg sg g cdg s H).stack s2 H2) [] (NdefX.startF N' [v] ws') H2 { s2 with heap := h₁, toks := s2.toks + ([(p, u)] : List (Str × Value)).length } :=
                NdefX.inv_startN (us := [u]) Sn hr.hd I2.env0 rfl (.cons ru .nil) C2 hns kp
              have hb2 : tD (gd (lcx X N' params scope c' f (X.A.deeper (envOfC qg sg s.heap.objs.size g cdg)) (zc X Ng qg sg g cdg s H).stack s2 H2) (WF C8.E0)) (WF C8.E0) fb (NdefX.startF N' [v] ws') H2 Q := by
                refine ⟨HF2, L2', lamE n d ds, S2, RL, ?_⟩
                cases e2 : fb (lamE n d ds) S2 with
                | bad => rw [e2] at hp; exact hp.elim
                | ex x S3 => rw [e2] at hp; exact hp.elim
                | ok d' S3 =>
                  rw [e2] at hp
                  intro v' H3 HF3 L3 st3 R3 rv3
                  exact hp v' H3 HF3 L3 st3 (R2.reenv st3 R3.intoX) (Rep.cx rv3)
              refine PySem.W.kla_codeExpr (wpAny_mono ((hbody _ _ s2 H2 (hr.deeper _)).run [] _ _ H2 Q J hb2) (fun v s' hq => ?_) fun e s' hq => hq)
              obtain ⟨w', H', J', rv', q⟩ := hq
              exact ⟨w', H', J'.os, J'.bare, J'.base, J'.hok, rv', q⟩
            refine wpAny_call (codeAny_mono rc fun r s' hq => ?_)
            cases r with
            | error e => exact (noCX' hq).elim
            | ok fl =>
              cases fl with
              | ret u => exact I2.after hq
              | next => exact False.elim hq
              | brk => exact False.elim hq
              | cont => exact False.elim hq
        · exact h.elim
end
/-! ### the def wrong_index, given a lambda -/
def wrongL (F : D → Store → Out D) : List D → Nat → Store → Out D
  | [], _, S => .ok .non S
  | d :: ds, k, S => match F d S with
    | .ok r S1 => match r.tru with
      | some true => wrongL F ds (k + 1) S1
      | some false => .ok (.int (k : Int)) S1
      | none => .bad
    | _ => .bad
def capD (ρ : DL.Env) (j : Nat) : Option D := match ρ[j]? with
  | some (some (.v d)) => some d
  | _ => none
def mWrong (js : List Nat) (n : Nat) (fa fb : DEn) : DEn := fun ρ S => (fa ρ S).bind fun x S1 => match x.items with
  | some ds => wrongL (fun d S => okO (fb (lamE n d (js.map (capD ρ))) S)) ds 0 S1
  | none => .bad
noncomputable def bWr (ws : List (Option V)) (n : Nat) (fb : DEn) : DSn := mSeq (mFor (mEnum (mVar 0)) (.tp [(.nm 2), (.nm 3)]) (mIfS (mNotT (mTru (mLamC ws 1 n fb (mVar 3)))) (mRet (mVar 2)) mSkip)) (mRet (mC .non))
theorem forWr {ws : List (Option V)} {ds : List (Option D)} {n : Nat} {fb : DEn} {x : D} : ∀ (items : List D) (k : Nat) (y2 y3 : Option EV) (S S' : Store) (r : D), wrongL (fun d S => okO (fb (lamE n d ds) S)) items k S = .ok r S' →
    (r = .non ∧ ∃ z2 z3, forL (.tp [(.nm 2), (.nm 3)]) (mIfS (mNotT (mTru (mLamC ws 1 n fb (mVar 3)))) (mRet (mVar 2)) mSkip) (enumD k items) [some (.v x), some (.lam ws ds), y2, y3] S = .ok (.nx, [some (.v x), some (.lam ws ds), z2, z3]) S') ∨
    (∃ ρ', forL (.tp [(.nm 2), (.nm 3)]) (mIfS (mNotT (mTru (mLamC ws 1 n fb (mVar 3)))) (mRet (mVar 2)) mSkip) (enumD k items) [some (.v x), some (.lam ws ds), y2, y3] S = .ok (.rt r, ρ') S')
  | [], k, y2, y3, S, S', r, h => by
    cases h
    exact .inl ⟨rfl, y2, y3, rfl⟩
  | d :: items, k, y2, y3, S, S', r, h => by
    let ρ1 : DL.Env := [some (.v x), some (.lam ws ds), some (.v (.int (k : Int))), some (.v d)]
    have e0 : forL (.tp [(.nm 2), (.nm 3)]) (mIfS (mNotT (mTru (mLamC ws 1 n fb (mVar 3)))) (mRet (mVar 2)) mSkip) (enumD k (d :: items)) [some (.v x), some (.lam ws ds), y2, y3] S = (match (mIfS (mNotT (mTru (mLamC ws 1 n fb (mVar 3)))) (mRet (mVar 2)) mSkip) ρ1 S with
      | .ok (.nx, ρ2) S2 => forL (.tp [(.nm 2), (.nm 3)]) (mIfS (mNotT (mTru (mLamC ws 1 n fb (mVar 3)))) (mRet (mVar 2)) mSkip) (enumD (k + 1) items) ρ2 S2
      | .ok (.ct, ρ2) S2 => forL (.tp [(.nm 2), (.nm 3)]) (mIfS (mNotT (mTru (mLamC ws 1 n fb (mVar 3)))) (mRet (mVar 2)) mSkip) (enumD (k + 1) items) ρ2 S2
      | .ok (.bk, ρ2) S2 => .ok (.nx, ρ2) S2
      | .ok (.rt r, ρ2) S2 => .ok (.rt r, ρ2) S2
      | .ok (.ex x, ρ2) S2 => .ok (.ex x, ρ2) S2
      | _ => .bad) := rfl
    have ec : mLamC ws 1 n fb (mVar 3) ρ1 S = okO (fb (lamE n d ds) S) := by
      unfold mLamC
      show (haveI := Classical.propDecidable (ws = ws); if ws = ws then (mVar 3 ρ1 S).bind fun d S1 => okO (fb (lamE n d ds) S1) else .bad) = _
      rw [if_pos rfl]
      rfl
    unfold wrongL at h
    cases e1 : okO (fb (lamE n d ds) S) with
    | bad => rw [e1] at h; cases h
    | ex x S1 => rw [e1] at h; cases h
    | ok t S1 =>
      rw [e1] at h ec
      dsimp only at h
      cases et : t.tru with
      | none => rw [et] at h; cases h
      | some b =>
        rw [et] at h
        have eT : mTru (mLamC ws 1 n fb (mVar 3)) ρ1 S = .ok b S1 := by
          unfold mTru
          rw [ec]
          show DL.lift t.tru S1 = _
          rw [et]; rfl
        cases b with
        | true =>
          have eb : mIfS (mNotT (mTru (mLamC ws 1 n fb (mVar 3)))) (mRet (mVar 2)) mSkip ρ1 S = .ok (.nx, ρ1) S1 := by
            unfold mIfS mNotT
            rw [eT]; rfl
          rw [e0, eb]
          exact forWr items (k + 1) _ _ S1 S' r h
        | false =>
          cases h
          have eb : mIfS (mNotT (mTru (mLamC ws 1 n fb (mVar 3)))) (mRet (mVar 2)) mSkip ρ1 S = .ok (.rt (.int (k : Int)), ρ1) S' := by
            unfold mIfS mNotT
            rw [eT]; rfl
          rw [e0, eb]
          exact .inr ⟨ρ1, rfl⟩
theorem bWr_ok {ws : List (Option V)} {ds : List (Option D)} {n : Nat} {fb : DEn} {x : D} {items : List D} {S S' : Store} {r : D} (hi : x.items = some items) (h : wrongL (fun d S => okO (fb (lamE n d ds) S)) items 0 S = .ok r S') :
    ∃ ρ', bWr ws n fb [some (.v x), some (.lam ws ds), none, none] S = .ok (.rt r, ρ') S' := by
  have e0 : mEnum (mVar 0) [some (.v x), some (.lam ws ds), none, none] S = .ok (enumD 0 items) S := by
    show (DL.lift x.items S).bind _ = _
    rw [hi]; rfl
  unfold bWr mSeq mFor
  rw [e0]
  rcases forWr (ws := ws) (x := x) items 0 none none S S' r h with ⟨rfl, z2, z3, e⟩ | ⟨ρ', e⟩
  · refine ⟨[some (.v x), some (.lam ws ds), z2, z3], ?_⟩
    show (match forL _ _ (enumD 0 items) _ S with
      | .ok (.nx, ρ1) S1 => mRet (mC .non) ρ1 S1
      | o => o) = _
    rw [e]; rfl
  · refine ⟨ρ', ?_⟩
    show (match forL _ _ (enumD 0 items) _ S with
      | .ok (.nx, ρ1) S1 => mRet (mC .non) ρ1 S1
      | o => o) = _
    rw [e]
section
variable {X : Cx} {W : WD}
theorem xwrong {x mk : Str} {st : Stmt} {g c P : Addr} {fd : FuncData} {k n : Nat} {Ng : List Str} {params : Arguments} {body : Expr} {scope : Scope} {N' fr : List Str} {p v1' a1' : Str} {js : List Nat} {a : Expr} {fa fb : DEn} {pp lpos pos : Pos}
    (hxi : W.xi = none) (F : Fun X.K x x st g fd) (hm : X.mg x = some (.ref g)) (hb : L2.Binds X.K fd [v1', a1'] []) (Sg : FnScope Ng [v1', a1'] (defScope st)) (hNg : Ng.length = 4) (hNa : Ng[1]? = some a1') (hva : Vis (defScope st) a1')
    (hcal : ∀ (cdg : Value) (s : Shared) (H : Hp) (f c' : Addr) (t : Tok) (ws : List (Option V)), (∀ p1 p2 p3 : Pos, DE (zc X Ng x (defScope st) g cdg s H) ⟨fun _ _ _ _ => False, some (f, .str (X.env.qual ++ "<lambda>") t, some c')⟩ (.Name "value" p3) (mVar 3) → DE (zc X Ng x (defScope st) g cdg s H) ⟨fun _ _ _ _ => False, some (f, .str (X.env.qual ++ "<lambda>") t, some c')⟩ (.Call (.Name a1' p1) [.Name "value" p3] [] p2) (mLamC ws 1 n fb (mVar 3))) →
      DSs (zc X Ng x (defScope st) g cdg s H) ⟨fun _ _ _ _ => False, some (f, .str (X.env.qual ++ "<lambda>") t, some c')⟩ (defBody st) (bWr ws n fb))
    (ha : DE X W a fa) (TB : TabB X.base X.mg c P) (hcode : X.env.code = .ref c) (et : PySem.W.tabIn X.K mk = some (c, P)) (hmk : (mk, X.env.qual ++ "<lambda>") ∈ makers) (hok : tabsOk X.K = true) (hr : Room (k + 2) X.A)
    (Sn : NdefX.NScope N' [p] fr scope) (hN' : N'.length = 1 + fr.length + n) (hfree : ∀ y ∈ scope.names, y.2 = .free → X.env.scope.names.lookup y.1 = some .cell ∨ X.env.scope.names.lookup y.1 = some .free) (hfr : ∀ y ∈ fr, (y, NameKind.free) ∈ scope.names) (hjs : js.map (fun j => X.N[j]?) = fr.map some)
    (hbody : ∀ (A : Around) (outer : List PySem.Env) (s : Shared) (H : Hp) (c' f : Addr), Room k (A.deeper (NdefX.envF (lamNF X params scope c') f s.heap.objs.size)) → DE (lcx X N' params scope c' f A outer s H) (WF C8.E0) body fb)
    (hdef : defaultsOf params X.env = ([], []) := by rfl)
    (hbind : ∀ (q : Str) (cl : List (Str × Addr)) (pm cv ctv u : Value), bindArgs (PySem.W.kla_fn "<lambda>" q params body scope cl pm cv ctv) ⟨[u], []⟩ = pure [(p, u)] := by intros; rfl)
    (hg : Gl X x := by rfl) (hdb : (x == ("__debug__" : Str)) = false := by decide) (hd : (a1' == ("__debug__" : Str)) = false := by decide) (hcd : (a1' == ("__classdict__" : Str)) = false := by decide)
    (he : starEach (a :: [.Lambda params body scope lpos]) X.env = (false, eval a X.env) :: starEach [.Lambda params body scope lpos] X.env := by rfl) (hse : ∀ (E : PySem.Env) (p3 : Pos), starEach [Expr.Name "value" p3] E = (false, eval (.Name "value" p3) E) :: starEach [] E := by intros; rfl) :
    DE X W (.Call (.Name x pp) [a, .Lambda params body scope lpos] [] pos) (mWrong js n fa fb) := by
  obtain ⟨Ww, Wx⟩ := W
  obtain rfl : Wx = none := hxi
  obtain ⟨oc, od, kV, doc, pm, an, cdv, ct, osl, rfl, lk, hcd2⟩ := F.ex
  refine ⟨fun pins s σ H Q I ⟨HF, L, ρ, S, R, h⟩ => ?_⟩
  refine wpAny_Call_Name_kw (ld_glob I hg hm ?_ hdb)
  refine PySem.W.callWith_K (h₀ := X.base) I.ok.mod.kin F.kp ?_ he (by rfl)
  rw [he]
  show wpAny _ _ (spliced ((false, eval a X.env) :: backTo pos (starEach [Expr.Lambda params body scope lpos] X.env))) _ _ s
  have ht : tD (gd X ⟨Ww, none⟩) ⟨Ww, none⟩ fa σ H (fun v H1 => ∃ d HF1 L1 S1 items, Rel (gd X ⟨Ww, none⟩) H1 HF1 L1 σ ρ S1 ∧ Rep (gd X ⟨Ww, none⟩) HF1 v d ∧ d.items = some items ∧
      Post (gd X ⟨Ww, none⟩) ⟨Ww, none⟩ σ ρ H1 HF1 L1 (fun HF' _ v d => Rep (gd X ⟨Ww, none⟩) HF' v d) Q (wrongL (fun d S => okO (fb (lamE n d (js.map (capD ρ))) S)) items 0 S1)) := by
    refine ⟨HF, L, ρ, S, R, ?_⟩
    unfold mWrong at h
    cases e1 : fa ρ S with
    | bad => rw [e1] at h; exact h.elim
    | ex x S1 => rw [e1] at h; exact h
    | ok d S1 =>
      rw [e1, ev_bind_ok] at h
      cases e2 : d.items with
      | none => rw [e2] at h; exact h.elim
      | some items =>
        rw [e2] at h
        intro v H1 HF1 L1 st1 R1 r1
        exact ⟨d, HF1, L1, S1, items, R1, r1, e2, h.step st1⟩
  refine Calls.spliced_cons (thn (ha.run pins s σ H _ I ht) fun u s1 ⟨v, H1, I1, ru, d, HF1, L1, S1, items, R1, rv, hi, hp⟩ => ?_)
  show wpAny _ _ (spliced ((false, eval (.Lambda params body scope lpos) X.env) :: backTo pos (starEach [] X.env))) _ _ s1
  have hfc : ∀ y ∈ scope.names, y.2 = .free → ∃ c, X.env.cells.lookup y.1 = some c := fun y hy e => (hfree y hy e).elim (fun z => I.ok.has _ (.inl z)) fun z => I.ok.has _ (.inr z)
  refine Calls.spliced_cons (lam_make2 I1 TB hcode (tabsOf_mem hmk et) (fun p hp e => tabsOk_of hok hp (tabsOf_mem hmk et) e) R1.tabs hdef hfc fun f c' pm' ctv H2 s2 I2 eN T1 hf hfn hfrs hco => ?_)
  refine Calls.spliced_nil ⟨I2.kIn, ?_⟩
  obtain ⟨HF2, R2, st2, hallc⟩ := R1.lam eN T1
  have cap : NdefX.Caps X (cloFrom X.env.cells scope.names []) fr js := NdefX.Caps.made I.ok hfree hfr hjs
  have C := NdefX.cells_of I2 cap
  let ws : List (Option V) := js.map (NdefX.slotAt σ)
  let ds : List (Option D) := js.map (capD ρ)
  have rc : codeAny (model X.prog X.w) X.A (.call (.ref g) ⟨[u, .ref f], []⟩) (CR (L2.CX X.prog X.w) X.stack X.prog X.w H2 s2 Q C8.E0) s2 := by
    refine run_ofS (N := Ng) (ps := [v1', a1']) (us := [u, .ref f]) (vs := [v, .ref f]) lk hcd2 Sg hr I2.env0 (hb s2 [u, .ref f] I2.kIn rfl) (.cons ru (.cons rfl .nil)) rfl fun hr' => ?_
    let t : Tok := default
    have hl := hcal cdv s2 H2 f c' t ws (fun p1 p2 p3 hv3 => xlamcall I2 hf hfn hfrs Sn hN' C (fun u => hbind _ _ _ _ _ u) hr' (fun A outer s H hr2 => hbody A outer s H c' f hr2) hv3 hNa hva hd hcd (hse _ _))
    refine ⟨_, hl, ?_⟩
    have Rz : Rel ⟨X.K, X.mg, some (f, .str (X.env.qual ++ "<lambda>") t, some c')⟩ H2 HF2 L1 (L2.start Ng [v, .ref f]) [some (.v d), some (.lam ws ds), none, none] S1 := by
      have RX := R2.intoX (xj := some (f, .str (X.env.qual ++ "<lambda>") t, some c'))
      refine ⟨RX.sub, RX.nd, RX.sl, RX.liv, RX.tab, RX.nft, RX.cell, ?_, fun i e hh => ?_⟩
      · unfold L2.start
        simp [hNg]
      · match i, hh with
        | 0, hh =>
          cases hh
          exact ⟨v, rfl, Rep.cx (Rep.mono st2.fro rv)⟩
        | 1, hh =>
          cases hh
          refine ⟨.ref f, rfl, f, X.env.qual ++ "<lambda>", t, c', rfl, rfl, hallc _ _ hco, by simp [ws, ds], fun j d' hj => ?_⟩
          have hj' : (js.map (capD ρ))[j]? = some (some d') := hj
          rw [List.getElem?_map] at hj'
          cases q : js[j]? with
          | none => rw [q] at hj'; cases hj'
          | some j' =>
            rw [q] at hj'
            have hc : capD ρ j' = some d' := Option.some.inj hj'
            unfold capD at hc
            split at hc
            · rename_i d'' hρ
              cases hc
              obtain ⟨v', k1, k2⟩ := R2.env j' _ hρ
              refine ⟨v', ?_, Rep.cx k2⟩
              show (js.map (NdefX.slotAt σ))[j]? = _
              rw [List.getElem?_map, q]
              show some (NdefX.slotAt σ j') = _
              rw [NdefX.slotAt_of k1]
            · cases hc
        | 2, hh => cases hh
        | 3, hh => cases hh
        | i + 4, hh => simp at hh
    refine ⟨HF2, L1, _, S1, Rz, ?_⟩
    have hp2 := hp.step st2
    cases e3 : wrongL (fun d S => okO (fb (lamE n d (js.map (capD ρ))) S)) items 0 S1 with
    | bad => rw [e3] at hp2; exact hp2.elim
    | ex x S3 =>
      exfalso
      have nex : ∀ (l : List D) (k : Nat) (S : Store) (x : Exn) (S3 : Store), wrongL (fun d S => okO (fb (lamE n d (js.map (capD ρ))) S)) l k S ≠ .ex x S3 := fun l => by
        induction l with
        | nil => intro k S x S3 z; cases z
        | cons d l ih =>
          intro k S x S3 z
          unfold wrongL at z
          split at z
          · split at z
            · exact ih _ _ _ _ z
            · cases z
            · cases z
          · cases z
      exact nex _ _ _ _ _ e3
    | ok r S3 =>
      rw [e3] at hp2
      obtain ⟨ρ', e4⟩ := bWr_ok (ws := ws) (ds := ds) hi e3
      rw [e4]
      intro σ' H3 HF3 L3 st3 R3 v3 rv3
      exact hp2 v3 H3 HF3 L3 st3 (R2.reenv st3 (Rel.lamBack R3)) (Rep.cx rv3)
  refine wpAny_call (codeAny_mono rc fun r s' hq => ?_)
  cases r with
  | error e => exact (noCX' hq).elim
  | ok fl =>
    cases fl with
    | ret u => exact I2.after hq
    | next => exact False.elim hq
    | brk => exact False.elim hq
    | cont => exact False.elim hq
end
theorem lcx_takes {X : Cx} {N' : List Str} {params : Arguments} {scope : Scope} {c' f : Addr} {A : Around} {outer : List PySem.Env} {s : Shared} {H : Hp} : Takes (lcx X N' params scope c' f A outer s H) (WF C8.E0).w :=
  takes_of (X := lcx X N' params scope c' f A outer s H) rfl rfl rfl rfl
/-- a def whose code object is known -/
theorem dfn_ofC {P : Program} {w : World} {G : Gd} {base : Heap} {x : Str} {st : Stmt} {f : Addr} {N ps : List Str} {k n : Nat} {body : DSn} {oc kV doc pm cdv ct : Value} {od an : Option Addr} {osl : Array (Option Value)}
    (lk : G.K.lookup f = some ⟨oc, od, .func (PySem.W.fnOf x x (defArgs st) (defBody st) (defScope st) .none kV doc pm an cdv ct), osl⟩) (hcd : PySem.W.codeIn G.K cdv x = true) (hk : PySem.W.keepIn G.K (.ref f) = true) (hm : G.mg x = some (.ref f)) (hb : L2.Binds G.K (PySem.W.fnOf x x (defArgs st) (defBody st) (defScope st) .none kV doc pm an cdv ct) ps [])
    (Sc : FnScope N ps (defScope st)) (hn : ps.length = n) (hnN : n ≤ N.length) (hG : G.xi = none := by rfl)
    (hbody : ∀ (A : Around) (outer : List PySem.Env) (s : Shared) (H : Hp) (E : XK), Room k (A.deeper (envOfC x (defScope st) s.heap.objs.size f cdv)) →
      DSs (cxOf (L2.CX P w) P w G.K G.mg base N x (defScope st) f cdv A outer s H E) (WF E) (defBody st) body) : Dfn P w G base (k + 1) x n (denB N.length body) :=
  ⟨f, _, ps, hm, hk, hb, hn, fnd_ofC lk hcd Sc hn hnN hG hbody⟩
theorem free_by {sc scope : Scope} (h : (scope.names.all fun y => !decide (y.2 = .free) || decide (sc.names.lookup y.1 = some .cell) || decide (sc.names.lookup y.1 = some .free)) = true) : ∀ y ∈ scope.names, y.2 = .free → sc.names.lookup y.1 = some .cell ∨ sc.names.lookup y.1 = some .free := fun y hy e => by
  have z := List.all_eq_true.mp h y hy
  simp only [Bool.or_eq_true, Bool.not_eq_true', decide_eq_true_eq, decide_eq_false_iff_not] at z
  rcases z with (z | z) | z
  · exact absurd e z
  · exact .inl z
  · exact .inr z
end DL

/-! the layer of data: list(cell), sorted(cell) -/
namespace DL
open PySem PySem.Spec PyProof.Rows L2
section
variable {X : Cx} {W : WD} {pos : Pos}
def mLstC (i : Nat) : DEn := fun ρ S => match ρ[i]? with
  | some (some (.cel n)) => match S[n]? with
    | some (some (.lst ds)) => .ok (.lst ds) S
    | _ => .bad
  | _ => .bad
theorem xlstC (i : Nat) {x : Str} {p px : Pos} (hm : X.mg "list" = none) (hg : Gl X "list" := by rfl) (hN : X.N[i]? = some x := by rfl) (hvi : Vis X.env.scope x := by first | exact Or.inl rfl | exact Or.inr (Or.inl rfl) | exact Or.inr (Or.inr rfl)) (hd : (x == ("__debug__" : Str)) = false := by decide) (hcd : (x == ("__classdict__" : Str)) = false := by decide)
    (he : starEach [Expr.Name x px] X.env = (false, eval (.Name x px) X.env) :: starEach [] X.env := by rfl) (hpl : (backTo pos (starEach [] X.env)).any (·.1) = false := by rfl) : DE X W (.Call (.Name "list" p) [.Name x px] [] pos) (mLstC i) := by
  refine PE.imp (pe_callTy call_list_of hg hm PyProof.Rows.boot_list (pa_cons (pe_var (i := i) hN hvi hd hcd) pa_nil he) (by decide) (by decide) he hpl) fun σ H Q ⟨HF, L, ρ, S, R, p⟩ => ?_
  unfold mLstC at p
  split at p
  · rename_i n hn
    split at p
    · rename_i ds hS
      obtain ⟨q, vs, h1, h2, h3, h4, h5⟩ := R.celAt hn hS
      exact ⟨_, h1, _, _, rfl, .inl (SqL.of h3), fun l hl => p.done R (.new hl) (.lst upd_same (h4.mono (same_upd (R.hf hl))))⟩
    · exact p.elim
  · exact p.elim
def mNewLstC (i : Nat) : DVn := fun ρ S => match ρ[i]? with
  | some (some (.cel n)) => match S[n]? with
    | some (some (.lst ds)) => .ok (.cel S.length) (S ++ [some (.lst ds)])
    | _ => .bad
  | _ => .bad
theorem vlstC (i : Nat) {x : Str} {p px : Pos} (hm : X.mg "list" = none) (hg : Gl X "list" := by rfl) (hN : X.N[i]? = some x := by rfl) (hvi : Vis X.env.scope x := by first | exact Or.inl rfl | exact Or.inr (Or.inl rfl) | exact Or.inr (Or.inr rfl)) (hd : (x == ("__debug__" : Str)) = false := by decide) (hcd : (x == ("__classdict__" : Str)) = false := by decide)
    (he : starEach [Expr.Name x px] X.env = (false, eval (.Name x px) X.env) :: starEach [] X.env := by rfl) (hpl : (backTo pos (starEach [] X.env)).any (·.1) = false := by rfl) : DV X W (.Call (.Name "list" p) [.Name x px] [] pos) (mNewLstC i) := by
  refine PE.imp (pe_callTy call_list_of hg hm PyProof.Rows.boot_list (pa_cons (pe_var (i := i) hN hvi hd hcd) pa_nil he) (by decide) (by decide) he hpl) fun σ H Q ⟨HF, L, ρ, S, R, p⟩ => ?_
  unfold mNewLstC at p
  split at p
  · rename_i n hn
    split at p
    · rename_i ds hS
      obtain ⟨q, vs, h1, h2, h3, h4, h5⟩ := R.celAt hn hS
      exact ⟨_, h1, _, _, rfl, .inl (SqL.of h3), fun l hl => Post.fresh (α := EV) R hl h4 p⟩
    · exact p.elim
  · exact p.elim
def mSrtC (i : Nat) : DEn := fun ρ S => match ρ[i]? with
  | some (some (.cel n)) => match S[n]? with
    | some (some (.lst ds)) => lift (gSorted [.lst ds]) S
    | _ => .bad
  | _ => .bad
theorem xsrtC (i : Nat) {x : Str} {p px : Pos} (hm : X.mg "sorted" = none) (hv : bootBuiltins "sorted" = some (.builtin "sorted")) (hg : Gl X "sorted" := by rfl) (hN : X.N[i]? = some x := by rfl) (hvi : Vis X.env.scope x := by first | exact Or.inl rfl | exact Or.inr (Or.inl rfl) | exact Or.inr (Or.inr rfl)) (hd : (x == ("__debug__" : Str)) = false := by decide) (hcd : (x == ("__classdict__" : Str)) = false := by decide)
    (he : starEach [Expr.Name x px] X.env = (false, eval (.Name x px) X.env) :: starEach [] X.env := by rfl) (hpl : (backTo pos (starEach [] X.env)).any (·.1) = false := by rfl) : DE X W (.Call (.Name "sorted" p) [.Name x px] [] pos) (mSrtC i) := by
  refine PE.imp (pe_callB cr_sortedI hg hm hv (pa_cons (pe_var (i := i) hN hvi hd hcd) pa_nil he) (by decide) (by decide) he hpl) fun σ H Q ⟨HF, L, ρ, S, R, p⟩ => ?_
  unfold mSrtC at p
  split at p
  · rename_i n hn
    split at p
    · rename_i ds hS
      obtain ⟨q, vs, h1, h2, h3, h4, h5⟩ := R.celAt hn hS
      obtain ⟨d, e, p2⟩ := p.lift
      unfold gSorted at e
      dsimp only at e
      cases eb : intsOf ds with
      | none => rw [eb] at e; cases e
      | some is =>
        rw [eb] at e
        cases e
        have ev := h4.intsOf eb
        subst ev
        refine ⟨_, h1, _, is, rfl, SqL.of h3, fun ns' t ht hs hn' => ?_⟩
        have en : ns' = sortI is := PySem.W.ksm_same (ht.trans (sortI_perm is).symm) hs (sortI_sorted is)
        subst en
        exact p2.done R (.new hn') (.lst upd_same (reps_ints _))
    · exact p.elim
  · exact p.elim
end
end DL

/-! the layer of data: x.index(y) of a list that no one changes -/
namespace DL
open PySem PySem.Spec PyProof.Rows L2
section
variable {X : Cx} {W : WD} {pos : Pos} {a : Expr} {es : List Expr}
/-- the first place of an equal one -/
def idxD (y : D) : List D → Option Nat
  | [] => none
  | d :: ds => if deq d y = true then some 0 else (idxD y ds).map (· + 1)
theorem idxD_is (y : D) : ∀ (ds : List D) {j : Nat}, idxD y ds = some j → (∃ z, ds[j]? = some z ∧ deq z y = true) ∧ ∀ (m : Nat) (z : D), m < j → ds[m]? = some z → deq z y = false
  | [], _, h => by cases h
  | d :: ds, j, h => by
    unfold idxD at h
    split at h
    · rename_i c
      cases h
      exact ⟨⟨d, rfl, c⟩, fun m z hm => absurd hm (Nat.not_lt_zero _)⟩
    · rename_i c
      obtain ⟨k, hk, rfl⟩ := Option.map_eq_some_iff.mp h
      obtain ⟨⟨z, h1, h2⟩, h3⟩ := idxD_is y ds hk
      refine ⟨⟨z, by simpa using h1, h2⟩, fun m w hm hw => ?_⟩
      cases m with
      | zero =>
        obtain rfl : d = w := by simpa using hw
        cases e : deq d y
        · rfl
        · exact absurd e c
      | succ m => exact h3 m w (by omega) (by simpa using hw)
def gIdx (ds : List D) : List D → Option D
  | [y] => if y.flat = true ∧ ds.all D.flat = true then (idxD y ds).map fun j => .int (j : Nat) else none
  | _ => none
def mIdx (i : Nat) (fs : DDn) : DEn := fun ρ S => match ρ[i]? with
  | some (some (.v (.lst ds))) => (fs ρ S).bind fun ys S1 => lift (gIdx ds ys) S1
  | _ => .bad
theorem xidx (i : Nat) {x : Str} {px apos : Pos} {fs : DDn} (ha : DA X W (a :: es) fs) (hN : X.N[i]? = some x := by rfl) (hvi : Vis X.env.scope x := by first | exact Or.inl rfl | exact Or.inr (Or.inl rfl) | exact Or.inr (Or.inr rfl)) (hd : (x == ("__debug__" : Str)) = false := by decide) (hcd : (x == ("__classdict__" : Str)) = false := by decide)
    (hbase : attributeBase (.Name x px) "index" X.env (eval (.Name x px) X.env) = eval (.Name x px) X.env := by rfl)
    (hfew : ((backTo pos (starEach (a :: es) X.env)).all (fun x => !x.1) && (backToKw pos (keywordEach [] X.env)).all (fun x => x.1.isSome) && decide ((a :: es).length + ([] : List Keyword).length + (if ([] : List Keyword).isEmpty then 0 else 1) < 30)) = true := by rfl)
    (hline : (apos.endLine == pos.line) = true := by rfl) (hs : starEach (a :: es) X.env = (false, eval a X.env) :: starEach es X.env := by rfl) (hplain : (backTo pos (starEach es X.env)).any (·.1) = false := by rfl) :
    DE X W (.Call (.Attribute (.Name x px) "index" apos) (a :: es) [] pos) (mIdx i fs) := by
  refine PE.imp (pe_bm PySem.F.plainAttrs_list PySem.F.slot_list_index PySem.F.type_list_index mt_index (pe_var (i := i) hN hvi hd hcd) ha hbase hfew hline hs hplain) fun σ H Q ⟨HF, L, ρ, S, R, p⟩ => ?_
  unfold mIdx at p
  split at p
  · rename_i ds hn
    obtain ⟨v, hv1, hv2⟩ := R.env i _ hn
    have hv2 : Rep (gd X W) HF v (.lst ds) := hv2
    cases hv2 with
    | lst h1 h2 =>
      rename_i q vs
      refine ⟨_, hv1, .inl ⟨rfl, vs, SqL.of (R.sub _ _ h1)⟩, HF, L, ρ, S, R, Post.bind p fun ys S1 ws H1 HF1 L1 e1 st1 R1 r1 p1 => ?_⟩
      obtain ⟨d, ed, p2⟩ := p1.lift
      unfold gIdx at ed
      split at ed
      · rename_i y
        split at ed
        · rename_i hc
          obtain ⟨j, hj, rfl⟩ := Option.map_eq_some_iff.mp ed
          obtain ⟨⟨z, hz, hzy⟩, hno⟩ := idxD_is y ds hj
          have r2 := Reps.mono st1.fro h2
          obtain ⟨w, rfl, rw'⟩ := r1.one
          obtain ⟨u, hu, ru⟩ := r2.get hz
          refine ⟨q, vs, w, j, u, rfl, rfl, SqL.of (R1.sub _ _ (st1.fro _ _ h1)), rw'.flatV hc.1, r2.flatV hc.2, hu, ?_, fun m z' hm hz' => ?_, p2.done R1 .no (.int _)⟩
          · rw [ru.eqV rw' (List.all_eq_true.mp hc.2 z (List.mem_of_getElem? hz)) hc.1]; exact hzy
          · obtain ⟨d', hd', rd'⟩ := r2.get' hz'
            rw [rd'.eqV rw' (List.all_eq_true.mp hc.2 d' (List.mem_of_getElem? hd')) hc.1]
            exact hno m d' hm hd'
        · cases ed
      · cases ed
  · exact p.elim
/-! is, is not: None on the right, or truth values -/
def gIsB : D → D → Option Bool
  | .bl a, .bl b => some (decide (a = b))
  | _, _ => none
def gNotB : D → D → Option Bool
  | .bl a, .bl b => some (!decide (a = b))
  | _, _ => none
theorem cIsB : CmpO X W .Is gIsB := by
  refine ⟨_, op_isBl, fun x y v w H HF b Q sub rx ry e q => ?_⟩
  unfold gIsB at e
  split at e
  · cases rx
    cases ry
    cases e
    exact ⟨_, _, rfl, rfl, q⟩
  · cases e
theorem cNotB : CmpO X W .IsNot gNotB := by
  refine ⟨_, op_notBl, fun x y v w H HF b Q sub rx ry e q => ?_⟩
  unfold gNotB at e
  split at e
  · cases rx
    cases ry
    cases e
    exact ⟨_, _, rfl, rfl, q⟩
  · cases e
end
end DL

/-! the layer of data: len(set(xs)) of distinct ints -/
namespace DL
open PySem PySem.Spec PyProof.Rows L2
theorem nodup_le {α : Type} [BEq α] [LawfulBEq α] : ∀ {a b : List α}, a.Nodup → (∀ x ∈ a, x ∈ b) → a.length ≤ b.length
  | [], _, _, _ => Nat.zero_le _
  | x :: a, b, h, hs => by
    obtain ⟨h1, h2⟩ := List.nodup_cons.mp h
    have hx := hs x List.mem_cons_self
    have := nodup_le (b := b.erase x) h2 fun y hy => by
      have : y ≠ x := fun e => h1 (e ▸ hy)
      exact (List.mem_erase_of_ne this).mpr (hs y (List.mem_cons_of_mem _ hy))
    rw [List.length_erase_of_mem hx] at this
    have := List.length_pos_of_mem hx
    simp only [List.length_cons]
    omega
/-- each of the numbers once -/
def distI : List Int → List Int
  | [] => []
  | x :: xs => if x ∈ distI xs then distI xs else x :: distI xs
theorem distI_mem {y : Int} : ∀ {xs : List Int}, y ∈ distI xs ↔ y ∈ xs
  | [] => Iff.rfl
  | x :: xs => by
    unfold distI
    split
    · rename_i h
      rw [distI_mem (xs := xs), List.mem_cons]
      refine ⟨fun h => .inr h, fun h' => ?_⟩
      rcases h' with rfl | h'
      · exact distI_mem.mp h
      · exact h'
    · rw [List.mem_cons, List.mem_cons, distI_mem (xs := xs)]
theorem distI_nodup : ∀ xs : List Int, (distI xs).Nodup
  | [] => List.nodup_nil
  | x :: xs => by
    unfold distI
    split
    · exact distI_nodup xs
    · rename_i h
      exact List.nodup_cons.mpr ⟨h, distI_nodup xs⟩
theorem distI_len : ∀ xs : List Int, (distI xs).length ≤ xs.length
  | [] => Nat.le_refl _
  | x :: xs => by
    have := distI_len xs
    unfold distI
    split <;> simp only [List.length_cons] <;> omega
theorem distI_of : ∀ {xs : List Int}, xs.Nodup → distI xs = xs
  | [], _ => rfl
  | x :: xs, h => by
    obtain ⟨h1, h2⟩ := List.nodup_cons.mp h
    unfold distI
    rw [distI_of h2, if_neg h1]
section
variable {X : Cx} {W : WD}
def tLenSetT (K : PySem.W.Frag) (ta : TE) : TE := fun σ H Q => ta σ H fun x H1 => ∃ (l : Addr) (ns : List Int), x = V.ref l ∧ SqT K H1 l (ns.map V.int) ∧ ns.length < 64 ∧ Q (.int (distI ns).length) H1
theorem pe_lenSetT {a : Expr} {ta : TE} {p p2 q pos : Pos} (hc : X.calm = true) (hg : Gl X "len") (hm : X.mg "len" = none) (hg2 : Gl X "set") (hm2 : X.mg "set" = none) (ha : PE X a ta)
    (na : starEach [a] X.env = (false, eval a X.env) :: starEach [] X.env := by rfl) : PE X (.Call (.Name "len" p) [.Call (.Name "set" p2) [a] [] q] [] pos) (tLenSetT X.K ta) := by
  refine ⟨fun pins s σ H Q I h => ?_⟩
  refine Call_ (ld_blt I hg hm PySem.boot_len ?_)
  refine PyProof.Rows.callWith_builtin1 (PyProof.Rows.args_cons ?_ rfl) rfl rfl
  refine Call_ (ld_blt I hg2 hm2 PyProof.Rows.boot_set ?_)
  refine PyProof.Rows.callWith_type1 (PyProof.Rows.args_cons (thn (ha.run pins s σ H _ I h) fun v s1 ⟨x, H1, I1, r1, q1⟩ => PyProof.Rows.args_nil ?_) na) na rfl
  obtain ⟨l, ns, rfl, hq, h1, q1⟩ := q1
  cases r1
  obtain ⟨its, r, pl, hz⟩ := I1.tuple hq
  have hi : IntsAre its.toArray.toList ns := by simpa using r.ints
  refine call_set_tupI ns (I1.ok.hd hc) (show s1.heap.IsTuple l its.toArray from pl) hi (by unfold scanBound; omega) fun h' tk c R1 hcn hk => ?_
  refine PyProof.Rows.args_nil ?_
  obtain ⟨o, es, ep, t, ho, hex, hd, g, nd, hm2, hb, hf, hn, hr, hl2⟩ := R1
  have hll := distI_len ns
  have hsz : es.size = (distI ns).length := by
    have a1 := nodup_le nd (b := distI ns) fun x hx => by
      have := (hm2 x).mpr hx
      exact distI_mem.mpr (of_decide_eq_true this)
    have a2 := nodup_le (distI_nodup ns) (b := es.toList.map keyOf) fun x hx => (hm2 x).mp (decide_eq_true (distI_mem.mp hx))
    have b1 : (es.toList.map keyOf).length = es.size := by rw [List.length_map, Array.length_toList]
    rw [b1] at a1 a2
    omega
  have I2 : Inv X pins σ H1 { s1 with heap := h', toks := tk } := I1.kept hk
  refine call_len_set ho hex hd hf (by rw [hsz] <;> omega) ⟨.int (distI ns).length, H1, I2.tok _, ⟨_, by rw [hsz]⟩, q1⟩
def gLenSet : D → Option D
  | .tup ds => match intsOf ds with
    | some is => if is.length < 64 then some (.int ((distI is).length : Int)) else none
    | none => none
  | _ => none
def mLenSet (fa : DEn) : DEn := fun ρ S => (fa ρ S).bind fun x S1 => lift (gLenSet x) S1
theorem xlenSet {a : Expr} {fa : DEn} {p p2 q pos : Pos} (hc : X.calm = true) (hm : X.mg "len" = none) (hm2 : X.mg "set" = none) (ha : DE X W a fa) (hg : Gl X "len" := by rfl) (hg2 : Gl X "set" := by rfl)
    (na : starEach [a] X.env = (false, eval a X.env) :: starEach [] X.env := by rfl) : DE X W (.Call (.Name "len" p) [.Call (.Name "set" p2) [a] [] q] [] pos) (mLenSet fa) :=
  PE.imp (pe_lenSetT hc hg hm hg2 hm2 ha na) fun σ H Q ⟨HF, L, ρ, S, R, p⟩ => ⟨HF, L, ρ, S, R, Post.bind p fun x S1 v H1 HF1 L1 e1 st1 R1 r1 p1 => by
    obtain ⟨d, ed, p2⟩ := p1.lift
    unfold gLenSet at ed
    split at ed
    · rename_i ds
      split at ed
      · rename_i is eb
        split at ed
        · rename_i hc
          cases ed
          cases r1 with
          | tup h1 h2 =>
            have ev := h2.intsOf eb
            subst ev
            exact ⟨_, is, rfl, SqT.mono R1.sub h1, hc, p2.done R1 .no (.int _)⟩
        · cases ed
      · cases ed
    · cases ed⟩
end
end DL

/-! the layer of data: max(xs, default=d), min(xs, default=d) of a list of ints -/
namespace DL
open PySem PySem.W PySem.Spec PyProof.Rows L2
section
variable {prog : Program} {w : World} {A : Around} {E : Value → Shared → Prop} {s : Shared} {l : Addr} {xs : Array (Int × Tok)} {d : Value}
theorem max_intListD {Q : Value → Shared → Prop} (hh : A.handled = none) (hl : s.heap.IsList l (intItems xs))
    (h0 : xs.size = 0 → ∀ h' tk, (∀ b o, s.heap.get? b = some o → h'.get? b = some o) → Q d { s with heap := h', toks := tk })
    (h : 0 < xs.size → ∀ v h' tk, (intItems xs)[argBest (fun i j => decide (numAt xs i > numAt xs j)) (xs.size - 1)]? = some v → (∀ b o, s.heap.get? b = some o → h'.get? b = some o) → Q v { s with heap := h', toks := tk }) :
    wpAny (model prog w) A (call (.builtin "max") [.ref l] [(Str.ofString "default", d)]) Q E s := by
  have hsz : (intItems xs).size = xs.size := by simp [intItems]
  refine call_max_walkD (iter_listW (A := A.in1) hh hl fun s₂ e W st hfp hw hk => ?_)
  refine ⟨_, _, _, _, _, _, _, s.heap, (fun i j => decide (numAt xs i > numAt xs j)), rfl, W, st, hfp, hw, hk, fun hz s' m => ?_, fun hp => ⟨fun i j vi vj s Q E _ h1 h2 q => CmpOf.ints_gt (numAt xs) (fun _ _ => intItems_at) i j vi vj s Q E h1 h2 q, fun v s' hP m => ?_⟩⟩
  · obtain ⟨h', tk, rfl, hk'⟩ := moved_old e rfl m
    exact h0 (by omega) h' tk hk'
  · obtain ⟨h', tk, rfl, hk'⟩ := moved_old e rfl m
    rw [hsz] at hP
    exact h (by omega) v h' tk hP hk'
theorem min_intListD {Q : Value → Shared → Prop} (hh : A.handled = none) (hl : s.heap.IsList l (intItems xs))
    (h0 : xs.size = 0 → ∀ h' tk, (∀ b o, s.heap.get? b = some o → h'.get? b = some o) → Q d { s with heap := h', toks := tk })
    (h : 0 < xs.size → ∀ v h' tk, (intItems xs)[argBest (fun i j => decide (numAt xs i < numAt xs j)) (xs.size - 1)]? = some v → (∀ b o, s.heap.get? b = some o → h'.get? b = some o) → Q v { s with heap := h', toks := tk }) :
    wpAny (model prog w) A (call (.builtin "min") [.ref l] [(Str.ofString "default", d)]) Q E s := by
  have hsz : (intItems xs).size = xs.size := by simp [intItems]
  refine call_min_walkD (iter_listW (A := A.in1) hh hl fun s₂ e W st hfp hw hk => ?_)
  refine ⟨_, _, _, _, _, _, _, s.heap, (fun i j => decide (numAt xs i < numAt xs j)), rfl, W, st, hfp, hw, hk, fun hz s' m => ?_, fun hp => ⟨fun i j vi vj s Q E _ h1 h2 q => CmpOf.ints_lt (numAt xs) (fun _ _ => intItems_at) i j vi vj s Q E h1 h2 q, fun v s' hP m => ?_⟩⟩
  · obtain ⟨h', tk, rfl, hk'⟩ := moved_old e rfl m
    exact h0 (by omega) h' tk hk'
  · obtain ⟨h', tk, rfl, hk'⟩ := moved_old e rfl m
    rw [hsz] at hP
    exact h (by omega) v h' tk hP hk'
end
section
variable {prog : Program} {w : World} {A : Around} {E : Value → Shared → Prop} {s : Shared} {l : Addr} {its : List Value} {ns : List Int} {d : Value} {Q : Value → Shared → Prop}
theorem max_rawD (hh : A.handled = none) (hl : s.heap.IsList l its.toArray) (hi : IntsAre its ns)
    (h0 : ns = [] → ∀ h' tk, (∀ b o, s.heap.get? b = some o → h'.get? b = some o) → Q d { s with heap := h', toks := tk })
    (h : ∀ h' tk M t', (∀ b o, s.heap.get? b = some o → h'.get? b = some o) → M ∈ ns → (∀ a, a ∈ ns → a ≤ M) → Q (.int M t') { s with heap := h', toks := tk }) : wpAny (model prog w) A (call (.builtin "max") [.ref l] [(Str.ofString "default", d)]) Q E s := by
  obtain ⟨xs, e⟩ := hi.allInts.items
  have hn : numsOf (intItems xs).toList = ns := by rw [← e]; exact hi.numsOf
  rw [nums_intItems] at hn
  subst hn
  rw [e] at hl
  refine max_intListD hh hl (fun hz => h0 (by
    have : xs.toList.length = 0 := by rw [Array.length_toList]; exact hz
    rw [List.eq_nil_of_length_eq_zero this]; rfl)) fun hsz v h' tk hv hk => ?_
  obtain ⟨t, rfl⟩ := intItems_at hv
  obtain ⟨h1, h2⟩ := argBest_gt (numAt xs) (xs.size - 1)
  refine h h' tk _ t hk ?_ fun a ha => ?_
  · rw [numAt_eq]; exact PySem.getD_mem (by rw [List.length_map, Array.length_toList]; omega)
  · obtain ⟨j, hj, rfl⟩ := mem_getD ha
    rw [List.length_map, Array.length_toList] at hj
    rw [← numAt_eq]; exact h2 j (by omega)
theorem min_rawD (hh : A.handled = none) (hl : s.heap.IsList l its.toArray) (hi : IntsAre its ns)
    (h0 : ns = [] → ∀ h' tk, (∀ b o, s.heap.get? b = some o → h'.get? b = some o) → Q d { s with heap := h', toks := tk })
    (h : ∀ h' tk M t', (∀ b o, s.heap.get? b = some o → h'.get? b = some o) → M ∈ ns → (∀ a, a ∈ ns → M ≤ a) → Q (.int M t') { s with heap := h', toks := tk }) : wpAny (model prog w) A (call (.builtin "min") [.ref l] [(Str.ofString "default", d)]) Q E s := by
  obtain ⟨xs, e⟩ := hi.allInts.items
  have hn : numsOf (intItems xs).toList = ns := by rw [← e]; exact hi.numsOf
  rw [nums_intItems] at hn
  subst hn
  rw [e] at hl
  refine min_intListD hh hl (fun hz => h0 (by
    have : xs.toList.length = 0 := by rw [Array.length_toList]; exact hz
    rw [List.eq_nil_of_length_eq_zero this]; rfl)) fun hsz v h' tk hv hk => ?_
  obtain ⟨t, rfl⟩ := intItems_at hv
  obtain ⟨h1, h2⟩ := argBest_lt (numAt xs) (xs.size - 1)
  refine h h' tk _ t hk ?_ fun a ha => ?_
  · rw [numAt_eq]; exact PySem.getD_mem (by rw [List.length_map, Array.length_toList]; omega)
  · obtain ⟨j, hj, rfl⟩ := mem_getD ha
    rw [List.length_map, Array.length_toList] at hj
    rw [← numAt_eq]; exact h2 j (by omega)
end
section
variable {X : Cx} {W : WD}
def rMaxD (K : PySem.W.Frag) : List V → List V → Hp → VK → Prop := fun vs zs H Q => ∃ (a : Addr) (ns : List Int) (d : V), vs = [V.ref a] ∧ zs = [d] ∧ SqL K H a (ns.map V.int) ∧ (ns = [] → Q d H) ∧ ∀ m, m ∈ ns → (∀ y, y ∈ ns → y ≤ m) → Q (.int m) H
def rMinD (K : PySem.W.Frag) : List V → List V → Hp → VK → Prop := fun vs zs H Q => ∃ (a : Addr) (ns : List Int) (d : V), vs = [V.ref a] ∧ zs = [d] ∧ SqL K H a (ns.map V.int) ∧ (ns = [] → Q d H) ∧ ∀ m, m ∈ ns → (∀ y, y ∈ ns → m ≤ y) → Q (.int m) H
theorem cr_maxD (hc : X.calm = true) : CallRK X (.builtin "max") [Str.ofString "default"] (rMaxD X.K) := by
  intro pins s σ H vs zs us ws Q I r rz h
  obtain ⟨a, ns, d, rfl, rfl, hs, q0, q⟩ := h
  obtain rfl := Vals.ref1 r
  obtain ⟨w1, rfl, e1⟩ := vals1 rz
  obtain ⟨its, rv, hl, _⟩ := I.list hs
  exact max_rawD (I.ok.hd hc) hl.isList rv.ints (fun hz h' tk hk => ⟨d, H, I.kept hk, e1, q0 hz⟩) fun h' tk m t' hk h1 h2 => ⟨.int _, H, I.kept hk, ⟨_, rfl⟩, q m h1 h2⟩
theorem cr_minD (hc : X.calm = true) : CallRK X (.builtin "min") [Str.ofString "default"] (rMinD X.K) := by
  intro pins s σ H vs zs us ws Q I r rz h
  obtain ⟨a, ns, d, rfl, rfl, hs, q0, q⟩ := h
  obtain rfl := Vals.ref1 r
  obtain ⟨w1, rfl, e1⟩ := vals1 rz
  obtain ⟨its, rv, hl, _⟩ := I.list hs
  exact min_rawD (I.ok.hd hc) hl.isList rv.ints (fun hz h' tk hk => ⟨d, H, I.kept hk, e1, q0 hz⟩) fun h' tk m t' hk h1 h2 => ⟨.int _, H, I.kept hk, ⟨_, rfl⟩, q m h1 h2⟩
def gMaxD : D → D → Option D
  | .lst ds, y => match intsOf ds with
    | some [] => some y
    | some (m :: is) => some (.int (maxI m is))
    | none => none
  | _, _ => none
def mMaxD (fa fb : DEn) : DEn := fun ρ S => (fa ρ S).bind fun x S1 => (fb ρ S1).bind fun y S2 => lift (gMaxD x y) S2
theorem xmaxD {p pos kpos : Pos} {a b : Expr} {fa fb : DEn} (hc : X.calm = true) (hm : X.mg "max" = none) (hv : bootBuiltins "max" = some (.builtin "max")) (ha : DE X W a fa) (hb : DE X W b fb) (hg : Gl X "max" := by rfl)
    (hs : starEach [a] X.env = (false, eval a X.env) :: starEach [] X.env := by rfl)
    (he : backTo pos (starEach [a] X.env) = (false, eval a X.env) :: backTo pos (starEach [] X.env) := by rfl) (hpl : (backTo pos (starEach [a] X.env)).any (·.1) = false := by rfl)
    (hall : (backToKw pos (keywordEach [⟨some (Str.ofString "default"), b, kpos⟩] X.env)).all (·.1.isSome) = true := by rfl) (hnone : (backToKw pos (keywordEach [⟨some (Str.ofString "default"), b, kpos⟩] X.env)).any (·.1.isNone) = false := by rfl) (hks : (backToKw pos (keywordEach [⟨some (Str.ofString "default"), b, kpos⟩] X.env)).filterMap (·.1) = [Str.ofString "default"] := by rfl) :
    DE X W (.Call (.Name "max" p) [a] [⟨some (Str.ofString "default"), b, kpos⟩] pos) (mMaxD fa fb) :=
  PE.imp (pe_callBK (cr_maxD hc) hg hm hv (pa_cons ha pa_nil hs) (pk_cons hb pk_nil) (by decide) (by decide) he hpl hall hnone hks) fun σ H Q ⟨HF, L, ρ, S, R, p⟩ => ⟨HF, L, ρ, S, R, Post.bind p fun x S1 v H1 HF1 L1 e1 st1 R1 r1 p1 => ⟨HF1, L1, ρ, S1, R1, Post.bind p1 fun y S2 w H2 HF2 L2 e2 st2 R2 r2 p2 => by
    obtain ⟨d, ed, p3⟩ := p2.lift
    have r1' := Rep.mono st2.fro r1
    unfold gMaxD at ed
    split at ed
    · rename_i ds y'
      cases r1' with
      | lst h1 h2 =>
        split at ed
        · rename_i eb
          cases ed
          have ev := h2.intsOf eb
          subst ev
          exact ⟨_, [], w, rfl, rfl, SqL.of (R2.sub _ _ h1), fun _ => p3.done R2 .no r2, fun m hm => (by cases hm)⟩
        · rename_i m is eb
          cases ed
          have ev := h2.intsOf eb
          subst ev
          obtain ⟨g1, g2⟩ := maxI_is is m
          refine ⟨_, m :: is, w, rfl, rfl, SqL.of (R2.sub _ _ h1), fun z => (by cases z), fun z hz hm => ?_⟩
          have e1 := hm _ g1
          have e2 := g2 _ hz
          obtain rfl : z = maxI m is := by omega
          exact p3.done R2 .no (.int _)
        · cases ed
    · cases ed⟩⟩
def gMinD : D → D → Option D
  | .lst ds, y => match intsOf ds with
    | some [] => some y
    | some (m :: is) => some (.int (minI m is))
    | none => none
  | _, _ => none
def mMinD (fa fb : DEn) : DEn := fun ρ S => (fa ρ S).bind fun x S1 => (fb ρ S1).bind fun y S2 => lift (gMinD x y) S2
theorem xminD {p pos kpos : Pos} {a b : Expr} {fa fb : DEn} (hc : X.calm = true) (hm : X.mg "min" = none) (hv : bootBuiltins "min" = some (.builtin "min")) (ha : DE X W a fa) (hb : DE X W b fb) (hg : Gl X "min" := by rfl)
    (hs : starEach [a] X.env = (false, eval a X.env) :: starEach [] X.env := by rfl)
    (he : backTo pos (starEach [a] X.env) = (false, eval a X.env) :: backTo pos (starEach [] X.env) := by rfl) (hpl : (backTo pos (starEach [a] X.env)).any (·.1) = false := by rfl)
    (hall : (backToKw pos (keywordEach [⟨some (Str.ofString "default"), b, kpos⟩] X.env)).all (·.1.isSome) = true := by rfl) (hnone : (backToKw pos (keywordEach [⟨some (Str.ofString "default"), b, kpos⟩] X.env)).any (·.1.isNone) = false := by rfl) (hks : (backToKw pos (keywordEach [⟨some (Str.ofString "default"), b, kpos⟩] X.env)).filterMap (·.1) = [Str.ofString "default"] := by rfl) :
    DE X W (.Call (.Name "min" p) [a] [⟨some (Str.ofString "default"), b, kpos⟩] pos) (mMinD fa fb) :=
  PE.imp (pe_callBK (cr_minD hc) hg hm hv (pa_cons ha pa_nil hs) (pk_cons hb pk_nil) (by decide) (by decide) he hpl hall hnone hks) fun σ H Q ⟨HF, L, ρ, S, R, p⟩ => ⟨HF, L, ρ, S, R, Post.bind p fun x S1 v H1 HF1 L1 e1 st1 R1 r1 p1 => ⟨HF1, L1, ρ, S1, R1, Post.bind p1 fun y S2 w H2 HF2 L2 e2 st2 R2 r2 p2 => by
    obtain ⟨d, ed, p3⟩ := p2.lift
    have r1' := Rep.mono st2.fro r1
    unfold gMinD at ed
    split at ed
    · rename_i ds y'
      cases r1' with
      | lst h1 h2 =>
        split at ed
        · rename_i eb
          cases ed
          have ev := h2.intsOf eb
          subst ev
          exact ⟨_, [], w, rfl, rfl, SqL.of (R2.sub _ _ h1), fun _ => p3.done R2 .no r2, fun m hm => (by cases hm)⟩
        · rename_i m is eb
          cases ed
          have ev := h2.intsOf eb
          subst ev
          obtain ⟨g1, g2⟩ := minI_is is m
          refine ⟨_, m :: is, w, rfl, rfl, SqL.of (R2.sub _ _ h1), fun z => (by cases z), fun z hz hm => ?_⟩
          have e1 := hm _ g1
          have e2 := g2 _ hz
          obtain rfl : z = minI m is := by omega
          exact p3.done R2 .no (.int _)
        · cases ed
    · cases ed⟩⟩
end
end DL

/-! the layer of data: list(range(a, b)) -/
namespace DL
open PySem PySem.Spec PyProof.Rows L2
section
variable {X : Cx} {W : WD} {pos : Pos} {a b : Expr} {fa fb : DEn}
def mListRg2 (fa fb : DEn) : DEn := fun ρ S => (fa ρ S).bind fun x S1 => (fb ρ S1).bind fun y S2 => match x, y with
  | .int m, .int n => if (m ≤ 1000000 ∧ -1000000 ≤ m) ∧ (n ≤ 1000000 ∧ -1000000 ≤ n) then .ok (.lst (rgD m n)) S2 else .bad
  | _, _ => .bad
theorem xlistRg2 {p p2 pos2 : Pos} (hc : X.calm = true) (hm : X.mg "list" = none) (hm2 : X.mg "range" = none) (ha : DE X W a fa) (hb : DE X W b fb) (hg : Gl X "list" := by rfl) (hg2 : Gl X "range" := by rfl)
    (na : starEach [a, b] X.env = (false, eval a X.env) :: starEach [b] X.env := by rfl) (nb : starEach [b] X.env = (false, eval b X.env) :: starEach [] X.env := by rfl) (hp : (backTo pos2 (starEach [b] X.env)).any (·.1) = false := by rfl)
    (na2 : starEach [Expr.Call (.Name "range" p2) [a, b] [] pos2] X.env = (false, eval (.Call (.Name "range" p2) [a, b] [] pos2) X.env) :: starEach [] X.env := by rfl) :
    DE X W (.Call (.Name "list" p) [.Call (.Name "range" p2) [a, b] [] pos2] [] pos) (mListRg2 fa fb) :=
  PE.imp (pe_listRg hc hg hm (prg_2 hg2 hm2 ha hb na nb hp) na2) fun σ H Q ⟨HF, L, ρ, S, R, p⟩ => ⟨HF, L, ρ, S, R, Post.bind p fun x S1 v H1 HF1 L1 e1 st1 R1 r1 p1 => ⟨HF1, L1, ρ, S1, R1, Post.bind p1 fun y S2 w H2 HF2 L2 e2 st2 R2 r2 p2 => by
    split at p2
    · rename_i m n
      cases r1
      cases r2
      split at p2
      · rename_i hz
        refine ⟨m, n, rfl, rfl, ⟨by omega, by omega, by omega, by omega, by omega⟩, fun q hq => p2.done R2 (.new hq) (.lst upd_same (rgD_reps m n))⟩
      · exact p2.elim
    · exact p2.elim⟩⟩
end
end DL

/-! the layer of data: x.count(y) of a list that no one changes, flat items -/
namespace DL
open PySem PySem.Spec PyProof.Rows L2
section
variable {X : Cx}
def rCntF (K : PySem.W.Frag) : V → List V → Hp → VK → Prop := fun x xs H Q => ∃ (a : Addr) (ys : List V) (y : V), x = V.ref a ∧ xs = [y] ∧ SqL K H a ys ∧ flatV y = true ∧ ys.all flatV = true ∧ Q (.int (ys.countP (fun z => eqV z y) : Nat)) H
theorem countU {y : V} : ∀ {ys : List V} {us : List Value}, Vals ys us → ys.all flatV = true → us.countP (eqU y) = ys.countP (fun z => eqV z y)
  | _, _, .nil, _ => rfl
  | _, _, .cons r rs, h => by
    rw [List.all_cons, Bool.and_eq_true] at h
    rw [List.countP_cons, List.countP_cons, countU rs h.2, eqU_of r h.1]
theorem mt_countF : MtR X "list.count" (rCntF X.K) := by
  intro pins s σ H x xs v us Q I rx rxs h
  obtain ⟨a, ys, y, rfl, rfl, hs, fy, fys, q⟩ := h
  cases rx
  cases rxs with
  | cons ry rt =>
    rename_i uy ut
    cases rt
    obtain ⟨its, rv, ⟨⟨cls, dd, data, sl⟩, n, ho, hc, hdn, hd⟩, hlen⟩ := I.list hs
    simp only at hc hd
    subst hc hd
    refine call_meets PySem.F.slot_list_count ⟨_, ho, rfl⟩ PySem.F.entry_list_count (PySem.F.args_list_count_2 _ _)
      (SeqAt.list_countAt a its.toArray n dd sl uy (eqU y)) ⟨ho, fun u' hu' => mem_eqAt ry fy rv fys u' (by simpa using hu'), ?_⟩
    have ec : its.toArray.toList.countP (eqU y) = ys.countP (fun z => eqV z y) := countU rv fys
    refine ⟨.int (ys.countP (fun z => eqV z y) : Nat), H, I.tok _, ⟨s.toks, ?_⟩, q⟩
    show Value.int ((its.toArray.toList.countP (eqU y) : Nat) : Int) s.toks = Value.int _ s.toks
    rw [ec]
end
section
variable {X : Cx} {W : WD} {pos : Pos} {a : Expr} {es : List Expr}
theorem Reps.cntV {G : Gd} {HF : Hp} {y : D} {v : V} (r : Rep G HF v y) (c : y.flat = true) : ∀ {ds : List D} {vs : List V}, Reps G HF vs ds → ds.all D.flat = true → vs.countP (fun z => eqV z v) = ds.countP (fun z => deq z y)
  | _, _, .nil, _ => rfl
  | _, _, .cons h hs, f => by
    rw [List.all_cons, Bool.and_eq_true] at f
    rw [List.countP_cons, List.countP_cons, Reps.cntV r c hs f.2, h.eqV r f.1 c]
def gCnt (ds : List D) : List D → Option D
  | [y] => if y.flat = true ∧ ds.all D.flat = true then some (.int (ds.countP (fun z => deq z y) : Nat)) else none
  | _ => none
def mCnt (i : Nat) (fs : DDn) : DEn := fun ρ S => match ρ[i]? with
  | some (some (.v (.lst ds))) => (fs ρ S).bind fun ys S1 => lift (gCnt ds ys) S1
  | _ => .bad
theorem xcnt (i : Nat) {x : Str} {px apos : Pos} {fs : DDn} (ha : DA X W (a :: es) fs) (hN : X.N[i]? = some x := by rfl) (hvi : Vis X.env.scope x := by first | exact Or.inl rfl | exact Or.inr (Or.inl rfl) | exact Or.inr (Or.inr rfl)) (hd : (x == ("__debug__" : Str)) = false := by decide) (hcd : (x == ("__classdict__" : Str)) = false := by decide)
    (hbase : attributeBase (.Name x px) "count" X.env (eval (.Name x px) X.env) = eval (.Name x px) X.env := by rfl)
    (hfew : ((backTo pos (starEach (a :: es) X.env)).all (fun x => !x.1) && (backToKw pos (keywordEach [] X.env)).all (fun x => x.1.isSome) && decide ((a :: es).length + ([] : List Keyword).length + (if ([] : List Keyword).isEmpty then 0 else 1) < 30)) = true := by rfl)
    (hline : (apos.endLine == pos.line) = true := by rfl) (hs : starEach (a :: es) X.env = (false, eval a X.env) :: starEach es X.env := by rfl) (hplain : (backTo pos (starEach es X.env)).any (·.1) = false := by rfl) :
    DE X W (.Call (.Attribute (.Name x px) "count" apos) (a :: es) [] pos) (mCnt i fs) := by
  refine PE.imp (pe_bm PySem.F.plainAttrs_list PySem.F.slot_list_count PySem.F.type_list_count mt_countF (pe_var (i := i) hN hvi hd hcd) ha hbase hfew hline hs hplain) fun σ H Q ⟨HF, L, ρ, S, R, p⟩ => ?_
  unfold mCnt at p
  split at p
  · rename_i ds hn
    obtain ⟨v, hv1, hv2⟩ := R.env i _ hn
    have hv2 : Rep (gd X W) HF v (.lst ds) := hv2
    cases hv2 with
    | lst h1 h2 =>
      rename_i q vs
      refine ⟨_, hv1, .inl ⟨rfl, vs, SqL.of (R.sub _ _ h1)⟩, HF, L, ρ, S, R, Post.bind p fun ys S1 ws H1 HF1 L1 e1 st1 R1 r1 p1 => ?_⟩
      obtain ⟨d, ed, p2⟩ := p1.lift
      unfold gCnt at ed
      split at ed
      · rename_i y
        split at ed
        · rename_i hc
          cases ed
          have r2 := Reps.mono st1.fro h2
          obtain ⟨w, rfl, rw'⟩ := r1.one
          refine ⟨q, vs, w, rfl, rfl, SqL.of (R1.sub _ _ (st1.fro _ _ h1)), rw'.flatV hc.1, r2.flatV hc.2, ?_⟩
          rw [Reps.cntV rw' hc.1 r2 hc.2]
          exact p2.done R1 .no (.int _)
        · cases ed
      · cases ed
  · exact p.elim
end
end DL

/-! the layer of data: tuple(range(a)), tuple(range(a, b)) -/
namespace DL
open PySem PySem.Spec PyProof.Rows L2
section
variable {X : Cx} {W : WD} {pos : Pos} {a b : Expr} {fa fb : DEn}
def mTupRg (fa : DEn) : DEn := fun ρ S => (fa ρ S).bind fun x S1 => match x with
  | .int n => if n ≤ 1000000 ∧ -1000000 ≤ n then .ok (.tup (rgD 0 n)) S1 else .bad
  | _ => .bad
theorem xtupRg {p p2 pos2 : Pos} (hc : X.calm = true) (hm : X.mg "tuple" = none) (hm2 : X.mg "range" = none) (ha : DE X W a fa) (hg : Gl X "tuple" := by rfl) (hg2 : Gl X "range" := by rfl)
    (na : starEach [a] X.env = (false, eval a X.env) :: starEach [] X.env := by rfl) (na2 : starEach [Expr.Call (.Name "range" p2) [a] [] pos2] X.env = (false, eval (.Call (.Name "range" p2) [a] [] pos2) X.env) :: starEach [] X.env := by rfl) :
    DE X W (.Call (.Name "tuple" p) [.Call (.Name "range" p2) [a] [] pos2] [] pos) (mTupRg fa) :=
  PE.imp (pe_tupRg hc hg hm (prg_1 hg2 hm2 ha na) na2) fun σ H Q ⟨HF, L, ρ, S, R, p⟩ => ⟨HF, L, ρ, S, R, Post.bind p fun x S1 v H1 HF1 L1 e1 st1 R1 r1 p1 => by
    split at p1
    · rename_i n
      cases r1
      split at p1
      · rename_i hz
        refine ⟨n, rfl, ⟨by omega, by omega, by omega, by omega, by omega⟩, fun q hq => p1.done R1 (.new hq) (.tup (.inl upd_same) (rgD_reps 0 n))⟩
      · exact p1.elim
    · exact p1.elim⟩
def mTupRg2 (fa fb : DEn) : DEn := fun ρ S => (fa ρ S).bind fun x S1 => (fb ρ S1).bind fun y S2 => match x, y with
  | .int m, .int n => if (m ≤ 1000000 ∧ -1000000 ≤ m) ∧ (n ≤ 1000000 ∧ -1000000 ≤ n) then .ok (.tup (rgD m n)) S2 else .bad
  | _, _ => .bad
theorem xtupRg2 {p p2 pos2 : Pos} (hc : X.calm = true) (hm : X.mg "tuple" = none) (hm2 : X.mg "range" = none) (ha : DE X W a fa) (hb : DE X W b fb) (hg : Gl X "tuple" := by rfl) (hg2 : Gl X "range" := by rfl)
    (na : starEach [a, b] X.env = (false, eval a X.env) :: starEach [b] X.env := by rfl) (nb : starEach [b] X.env = (false, eval b X.env) :: starEach [] X.env := by rfl) (hp : (backTo pos2 (starEach [b] X.env)).any (·.1) = false := by rfl)
    (na2 : starEach [Expr.Call (.Name "range" p2) [a, b] [] pos2] X.env = (false, eval (.Call (.Name "range" p2) [a, b] [] pos2) X.env) :: starEach [] X.env := by rfl) :
    DE X W (.Call (.Name "tuple" p) [.Call (.Name "range" p2) [a, b] [] pos2] [] pos) (mTupRg2 fa fb) :=
  PE.imp (pe_tupRg hc hg hm (prg_2 hg2 hm2 ha hb na nb hp) na2) fun σ H Q ⟨HF, L, ρ, S, R, p⟩ => ⟨HF, L, ρ, S, R, Post.bind p fun x S1 v H1 HF1 L1 e1 st1 R1 r1 p1 => ⟨HF1, L1, ρ, S1, R1, Post.bind p1 fun y S2 w H2 HF2 L2 e2 st2 R2 r2 p2 => by
    split at p2
    · rename_i m n
      cases r1
      cases r2
      split at p2
      · rename_i hz
        refine ⟨m, n, rfl, rfl, ⟨by omega, by omega, by omega, by omega, by omega⟩, fun q hq => p2.done R2 (.new hq) (.tup (.inl upd_same) (rgD_reps m n))⟩
      · exact p2.elim
    · exact p2.elim⟩⟩
end
end DL

/-! the layer of data: x = {}, of which no more is asked -/
namespace DL
open PySem PySem.Spec PyProof.Rows L2
section
variable {G : Gd} {H HF : Hp} {L : List Addr} {σ : L2.St} {ρ : DL.Env} {S : Store}
theorem Rel.forget (R : Rel G H HF L σ ρ S) (i : Nat) (v : Option V) : Rel G H HF L (σ.set i v) (ρ.set i none) S := by
  refine ⟨R.sub, R.nd, R.sl, R.liv, R.tab, R.nft, R.cell, by simpa using R.el, fun j x h => ?_⟩
  by_cases hj : j = i
  · subst hj
    by_cases hl : j < ρ.length
    · rw [List.getElem?_set_self hl] at h
      cases h
    · rw [List.getElem?_eq_none (by simpa using hl)] at h; cases h
  · rw [List.getElem?_set_ne (Ne.symm hj)] at h ⊢
    exact R.env j x h
end
section
variable {X : Cx} {W : WD} {pos : Pos}
def mForget (i : Nat) : DSn := fun ρ S => .ok (.nx, ρ.set i none) S
theorem ssetD (i : Nat) {x : Str} {px pd : Pos} (hN : X.N.Nodup) (hi : X.N[i]? = some x := by rfl) (hx : Loc X.env.scope x := by first | exact Or.inl rfl | exact Or.inr rfl) (hs : swapsWith (.Dict [] [] pd) (some (.Name x px)) pos.line X.env = pure false := by rfl) (hf : X.fn x = true ∨ X.env.scope.names.lookup x = some .local := by first | exact .inl rfl | exact .inr rfl | assumption) :
    DS X W (.Assign [.Name x px] (.Dict [] [] pd) pos) (mForget i) :=
  PS.imp (ps_set hN hi hx pe_dnewK hs hf) fun D σ H ⟨HF, L, ρ, S, R, p⟩ => fun q hq => by
    have a : Al H HF (upd H q (.dK [])) (upd HF q (.dK [])) := .new hq
    exact p _ _ _ _ (R.al a).2 (Rel.forget (R.al a).1 i _)
end
end DL

/-! the layer of data: x.extend(t) with a tuple -/
namespace DL
open PySem PySem.Spec PyProof.Rows L2
set_option maxRecDepth 8000 in
theorem list_ext_tup (l : Addr) (items : Array Value) (n : Nat) (b : Addr) (items2 : Array Value) (n2 : Nat) (dd : Option Addr) (sl : Array (Option Value)) (hs0 : ¬(!items.isEmpty && Builtin.List.listTooLong (items.size + items2.size)) = true) (hs1 : items.size ≤ sizeLine) (hs2 : items.size + items2.size ≤ sizeLine + 1) :
    Meets (Builtin.«list.extend» ⟨[.ref l, .ref b], []⟩) (fun _ R s => s.heap.get? l = some { cls := .type "list", dict := none, data := .seq items n, slots := #[] } ∧ s.heap.get? b = some { cls := .type "tuple", dict := dd, data := .seq items2 n2, slots := sl } ∧ R (.ok (.ret Value.none)) { s with heap := s.heap.update l (Obj.mapSeq fun x => x ++ items2), toks := s.toks }) :=
  .of_wp fun prog w A R s h => by
    obtain ⟨hp, g, d, tk, os⟩ := s; obtain ⟨hl, hb, h⟩ := h; have f1 := AutoSeq1.idx_int; have f2 := AutoSeq1.sub_tuple_tuple; have f3 := AutoSeq1.sub_list_list; have f4 := AutoSeq1.sub_tuple_list; have f5 := AutoSeq1.sub_list_tuple;
    have hz' : (items ++ items2).size ≤ sizeLine + 1 := by rw [Array.size_append]; exact hs2
    wp_walk using (wpAny_updateSeq hl rfl (hz := hs1) (_hz' := hz')), wpAny_loadPart' hl, wpAny_loadPart' hb; exact ⟨_, rfl, h⟩
section
variable {X : Cx} {W : WD}
def rExtT (K : PySem.W.Frag) : V → List V → Hp → VK → Prop := fun x vs H Q => ∃ l b xs zs, x = V.ref l ∧ vs = [V.ref b] ∧ H l = some (.lst xs) ∧ SqT K H b zs ∧ xs.length + zs.length ≤ sizeLine ∧ Q .non (upd H l (.lst (xs ++ zs)))
theorem mt_extT : MtR X "list.extend" (rExtT X.K) := by
  intro pins s σ H x vs v us Q I rx rv h
  obtain ⟨l, b, xs, zs, rfl, rfl, hH, hB, hz, q⟩ := h
  cases rx
  obtain ⟨u, rfl, ru⟩ := rv.one
  cases ru
  obtain ⟨z, its, n, r, hl, e⟩ := I.lstM hH
  obtain ⟨its2, r2, pl2, hz2⟩ := I.tuple hB
  obtain ⟨⟨cls, dd, dt, sl⟩, ho, hc, n2, hd⟩ := pl2
  simp only at hc hd
  subst hc
  subst hd
  have hl2 := r2.length
  have hsz : its.toArray.size + its2.toArray.size ≤ sizeLine := by rw [List.size_toArray, List.size_toArray]; omega
  have hlong : ¬ (!its.toArray.isEmpty && Builtin.List.listTooLong (its.toArray.size + its2.toArray.size)) = true := by
    rw [notLongL hsz, Bool.and_false]
    exact Bool.false_ne_true
  refine call_meets F.slot_list_extend ⟨_, e, rfl⟩ F.entry_list_extend (F.args_list_extend_2 _ _)
    (list_ext_tup l its.toArray n b its2.toArray n2 dd sl hlong (by rw [List.size_toArray]; omega) (by omega)) ⟨e, ho, ?_⟩
  refine ⟨.non, _, I.lset (its' := its ++ its2) hH e (by simp) (r.append r2) ?_, rfl, q⟩
  rw [List.length_append]
  omega
def gExtend : List D → List D → Option (List D × D)
  | ds, [.tup ys] => if ds.length + ys.length ≤ lim then some (ds ++ ys, .non) else none
  | _, _ => none
theorem meExtend : MeO X W "extend" "list.extend" gExtend := by
  refine ⟨rExtT X.K, PySem.F.plainAttrs_list, PySem.F.slot_list_extend, PySem.F.type_list_extend, mt_extT, fun q ds ys ds' d vs ws H HF Q hq r1 r2 sub e k => ?_⟩
  unfold gExtend at e
  split at e
  · split at e
    · rename_i ts hz
      cases e
      obtain ⟨w, rfl, rw'⟩ := r2.one
      cases rw' with
      | tup h1 h2 => exact ⟨q, _, vs, _, rfl, rfl, hq, SqT.mono sub h1, by rw [r1.length, h2.length]; exact Nat.le_trans hz lim_le, k _ _ (r1.append h2) .non⟩
    · cases e
  · cases e
end
end DL

/-! the layer of data: ranges as values -/
namespace DL
open PySem PySem.Spec PyProof.Rows L2
section
variable {X : Cx} {W : WD} {pos : Pos} {a b : Expr} {fa fb : DEn} {tg : Expr}
theorem cr_range1 : CallR X (.type "range") (fun vs H Q => ∃ j, vs = [V.int j] ∧ ∀ p, H p = none → Q (.ref p) (upd H p (.rng 0 j))) := by
  intro pins s σ H vs us Q I r h
  obtain ⟨j, rfl, q⟩ := h
  obtain ⟨u1, rfl, ri⟩ := vals1 r
  obtain ⟨t, rfl⟩ := ri
  refine call_range_1 ⟨.ref s.heap.objs.size, upd H s.heap.objs.size (.rng 0 j), I.laid (t' := s.toks + 1 + 1) (fun b o e => Heap.get?_push_of_some _ e) (Nat.le_refl _) ?_, rfl, q _ (I.hok.fresh (Nat.le_refl _))⟩
  exact ⟨s.toks, t, s.toks + 1, Heap.get?_push_size _ rfl⟩
def gRgV : List D → Option D
  | [.int n] => some (.rng 0 n)
  | _ => none
theorem biRgV : BiO X W (.type "range") gRgV := by
  refine ⟨_, cr_range1, fun xs vs H HF d Q sub r e q => ?_⟩
  unfold gRgV at e
  split at e
  · cases e
    obtain ⟨v, rfl, h⟩ := r.one
    cases h
    exact ⟨_, rfl, fun p hp => q _ _ _ (.new hp) (.rng upd_same)⟩
  · cases e
theorem cr_lenR : CallR X (.builtin "len") (fun vs H Q => ∃ a lo hi, vs = [V.ref a] ∧ H a = some (.rng lo hi) ∧ hi - lo < 2 ^ 62 ∧ Q (.int ((hi - lo).toNat : Nat)) H) := by
  intro pins s σ H vs us Q I r h
  obtain ⟨a, lo, hi, rfl, ha, hz, q⟩ := h
  obtain ⟨u, rfl, ru⟩ := vals1 r
  obtain rfl : u = Value.ref a := ru
  obtain ⟨t1, t2, t3, ho⟩ := I.hok a _ ha
  exact call_len_range (n := (hi - lo).toNat) ho (by rw [rangeSize_one]; split <;> omega) (by omega) ⟨.int ((hi - lo).toNat : Nat), H, I.kept (t' := s.toks + 1 + 1) fun b o e => e, ⟨_, rfl⟩, q⟩
def gLenR : List D → Option D
  | [.rng lo hi] => if hi - lo < 1000000 then some (.int ((hi - lo).toNat : Nat)) else none
  | _ => none
theorem biLenR : BiO X W (.builtin "len") gLenR := by
  refine ⟨_, cr_lenR, fun xs vs H HF d Q sub r e q => ?_⟩
  unfold gLenR at e
  split at e
  · split at e
    · rename_i hz
      cases e
      obtain ⟨v, rfl, h⟩ := r.one
      cases h
      rename_i h1
      exact ⟨_, _, _, rfl, sub _ _ h1, by omega, q _ _ _ .no (.int _)⟩
    · cases e
  · cases e
def iRgV (tl : TE) : TI := fun σ H R => tl σ H fun x H1 => ∃ a lo hi, x = V.ref a ∧ H1 a = some (.rng lo hi) ∧ (-(2 ^ 62) ≤ lo ∧ lo < 2 ^ 62 ∧ -(2 ^ 62) ≤ hi ∧ hi < 2 ^ 62) ∧ R (Itr lo (hi - lo).toNat) H1
theorem pi_rgV {l : Expr} {tl : TE} (hl : PE X l tl) : PI X tg l (iRgV tl) := by
  refine ⟨fun pins s σ H R I h => ?_⟩
  refine thn (hl.run pins s σ H _ I h) fun v s1 ⟨x, H1, I1, r1, q1⟩ => ?_
  obtain ⟨a, lo, hi, rfl, ha, ⟨b1, b2, b3, b4⟩, q⟩ := q1
  cases r1
  obtain ⟨t1, t2, t3, ho⟩ := I1.hok a _ ha
  refine wpAny_pyIter_range ho (small_one b1 b2 b3 b4) ?_
  refine ⟨s1.heap.objs.size, [s1.heap.objs.size], _, _, H1, rfl, I1.kept (t' := s1.toks) fun b o e => Heap.get?_push_of_some _ e, turn_range _ lo (hi - lo).toNat, ?_, fun b hb => ?_, q⟩
  · have e1 : lo + ((0 : Nat) : Int) * 1 = lo := by simp
    have e2 : (((hi - lo).toNat : Nat) : Int) - ((0 : Nat) : Int) = Builtin.Range.rangeSize lo hi 1 := by rw [rangeSize_one]; split <;> omega
    show IsRangeIter _ _ (lo + ((0 : Nat) : Int) * 1) ((((hi - lo).toNat : Nat) : Int) - ((0 : Nat) : Int)) 1
    rw [e1, e2]
    exact Heap.get?_push_size _ rfl
  · have e : b = s1.heap.objs.size := by simpa using hb
    subst e
    exact I1.fpOk (Nat.le_refl _) (I1.hok.fresh (Nat.le_refl _))
def mRgIt (fa : DEn) : DDn := fun ρ S => (fa ρ S).bind fun x S1 => match x with
  | .rng lo hi => if (lo ≤ 1000000 ∧ -1000000 ≤ lo) ∧ (hi ≤ 1000000 ∧ -1000000 ≤ hi) then .ok (rgD lo hi) S1 else .bad
  | _ => .bad
theorem i_rgV (ha : DE X W a fa) : DI X W tg a (mRgIt fa) :=
  PI.imp (pi_rgV ha) fun σ H R ⟨HF, L, ρ, S, RR, p⟩ => ⟨HF, L, ρ, S, RR, Post.bind p fun x S1 v H1 HF1 L1 e1 st1 R1 r1 p1 => by
    split at p1
    · rename_i lo hi
      split at p1
      · rename_i hz
        cases r1
        rename_i h1
        exact ⟨_, lo, hi, rfl, R1.sub _ _ h1, ⟨by omega, by omega, by omega, by omega⟩, p1.done R1 .no (itd_range lo (hi - lo).toNat)⟩
      · exact p1.elim
    · exact p1.elim⟩
end
end DL

/-! the layer of data: a comprehension's list as a new cell -/
namespace DL
open PySem PySem.Spec PyProof.Rows L2
section
variable {G : Gd} {H HF : Hp} {L : List Addr} {σ : L2.St} {ρ : DL.Env} {S : Store}
theorem Rel.adoptC (R : Rel G H HF L σ ρ S) {p : Addr} {vs : List V} {ds : List D} (hL : p ∉ L) (hF : HF p = none) (hH : H p = some (.lst vs)) (hr : Reps G HF vs ds) : Rel G H HF (L ++ [p]) σ ρ (S ++ [some (.lst ds)]) := by
  refine ⟨R.sub, ?_, by simp [R.sl], fun a ha => ?_, R.tab, R.nft, fun n a c h1 h2 => ?_, R.el, fun i x h => ?_⟩
  · rw [List.nodup_append]
    refine ⟨R.nd, by simp, fun a ha b hb => ?_⟩
    have : b = p := by simpa using hb
    subst this
    exact fun z => hL (z ▸ ha)
  · rcases List.mem_append.mp ha with z | z
    · exact R.liv a z
    · have : a = p := by simpa using z
      subst this; exact ⟨_, hH, trivial⟩
  · by_cases hn : n < L.length
    · rw [List.getElem?_append_left hn] at h1
      rw [List.getElem?_append_left (by rw [R.sl]; exact hn)] at h2
      exact R.cell n a c h1 h2
    · have hn' : n = L.length := by
        have := (List.getElem?_eq_some_iff.mp h1).1
        simp at this; omega
      subst hn'
      rw [List.getElem?_append_right (Nat.le_refl _)] at h1
      rw [List.getElem?_append_right (by rw [R.sl]; exact Nat.le_refl _), R.sl] at h2
      simp at h1 h2
      subst h1; subst h2
      exact ⟨hF, vs, hH, hr⟩
  · obtain ⟨v, q1, q2⟩ := R.env i x h
    refine ⟨v, q1, ?_⟩
    cases x with
    | v d => exact q2
    | cel n =>
      obtain ⟨a, k1, k2⟩ := q2
      exact ⟨a, by rw [List.getElem?_append_left (List.getElem?_eq_some_iff.mp k1).1]; exact k1, k2⟩
    | exn x => exact q2
    | lam ws ds => exact q2
end
def mNewLc (fi : DDn) (t : Tg) (tt : DTn) (fe : DEn) (vs : List Nat) : DVn := fun ρ S => (fi ρ S).bind fun ds S1 => (lcL t tt fe (wipeE ρ vs) ds S1 []).bind fun ys S2 => .ok (.cel S2.length) (S2 ++ [some (.lst ys)])
section
variable {X : Cx} {W : WD} {pos : Pos} {a b c : Expr} {fa fb fc : DEn} {es : List Expr} {tg : Expr}
theorem lc_readV {fi : DDn} {t : Tg} {tt : DTn} {fe : DEn} {vs : List Nat} (hsl : ∀ i ∈ t.slots, i ∈ vs) {σ : L2.St} {H : Hp} {Q : VK} (h : tV (gd X W) W (mNewLc fi t tt fe vs) σ H Q) :
    tLc (tI (gd X W) W fi) (tgG X.K t) (tT (gd X W) W.z tt) (tD (gd X W) W.z fe) vs σ H Q := by
  obtain ⟨HF, L, ρ, S, R, p⟩ := h
  refine ⟨HF, L, ρ, S, R, Post.bind p fun ds S1 J H1 HF1 L1 e1 st1 R1 rJ p1 => fun Dl hD => ?_⟩
  have hDL := R1.out hD
  have hDF := R1.hf hD
  -- the invariant
  refine ⟨fun i m Hh => m = ds.length - i ∧ i ≤ ds.length ∧ ∃ HFh Lh Sh acc vacc, Rel (gd X W) Hh HFh Lh σ ρ Sh ∧ Step H1 HF1 L1 Hh HFh Lh ∧ Hh Dl = some (.lst vacc) ∧ HFh Dl = none ∧ Dl ∉ Lh ∧ Reps (gd X W) HFh vacc acc ∧
    Post (gd X W) W σ ρ H1 HF1 L1 (fun HF' L' v d => RepE (gd X W) HF' L' v d) Q ((lcL t tt fe (wipeE ρ vs) (ds.drop i) Sh acc).bind fun ys S2 => .ok (.cel S2.length) (S2 ++ [some (.lst ys)])), ⟨ds.length, by simp, Nat.zero_le _, HF1, L1, S1, [], [], R1.aside hDL hDF (by rw [hD]; simp), Step.put Step.refl hD, upd_same, hDF, hDL, .nil, by simpa using p1⟩, ?_⟩
  rintro i m Hh ⟨rfl, hi, HFh, Lh, Sh, acc, vacc, Rh, sth, hv, hFv, hLv, ra, ph⟩
  have s01 : Same HF1 HFh := sth.fro
  by_cases hlt : i < ds.length
  · refine .inr ⟨rJ.go i Hh HFh s01 Rh.sub hlt, fun H' => (ds.length - (i + 1)) = ds.length - (i + 1) ∧ i + 1 ≤ ds.length ∧ ∃ HFh Lh Sh acc vacc, Rel (gd X W) H' HFh Lh σ ρ Sh ∧ Step H1 HF1 L1 H' HFh Lh ∧ H' Dl = some (.lst vacc) ∧ HFh Dl = none ∧ Dl ∉ Lh ∧ Reps (gd X W) HFh vacc acc ∧
      Post (gd X W) W σ ρ H1 HF1 L1 (fun HF' L' v d => RepE (gd X W) HF' L' v d) Q ((lcL t tt fe (wipeE ρ vs) (ds.drop (i + 1)) Sh acc).bind fun ys S2 => .ok (.cel S2.length) (S2 ++ [some (.lst ys)])), fun H' hw => ⟨_, by omega, hw⟩, fun x H2 hy => ?_⟩
    have ed : ds.drop i = ds[i] :: ds.drop (i + 1) := List.drop_eq_getElem_cons hlt
    rw [ed] at ph
    obtain ⟨HF2, al, rx⟩ := rJ.yld i x Hh HFh H2 ds[i] s01 Rh.sub (List.getElem?_eq_getElem hlt) hy
    obtain ⟨R2, st2⟩ := Rh.al al
    have nl : ∀ xs, Nt (.lst xs) := fun _ _ h => by cases h
    have hv2 := st2.keep Dl _ hLv (nl _) hv
    have hF2 := st2.new Dl _ hLv hFv (by trivial) hv
    have Rw := R2.wipe vs
    have ph : Post (gd X W) W σ ρ H1 HF1 L1 (fun HF' L' v d => RepE (gd X W) HF' L' v d) Q (Out.bind (match asg t ds[i] (wipeE ρ vs) with
      | none => .bad
      | some ρ1 => (tt ρ1 Sh).bd fun b S1 => if b = true then (fe ρ1 S1).bd fun y S2 => if acc.length < lim then lcL t tt fe (wipeE ρ vs) (ds.drop (i + 1)) S2 (acc ++ [y]) else .bad else lcL t tt fe (wipeE ρ vs) (ds.drop (i + 1)) S1 acc) fun ys S2 => .ok (.cel S2.length) (S2 ++ [some (.lst ys)])) := ph
    cases ea : asg t ds[i] (wipeE ρ vs) with
    | none => rw [ea] at ph; exact ph.elim
    | some ρ1 =>
      rw [ea] at ph
      dsimp only at ph
      refine tgG_ok (G := gd X W) t Rw rx ea fun ws hws R3 => ⟨?_, ?_⟩
      · rw [wipe_sets vs ws _ fun p hp => hsl _ (hws p hp), wipe_wipe]
      -- the test
      refine ⟨HF2, Lh, ρ1, Sh, R3, ?_⟩
      cases et : tt ρ1 Sh with
      | bad => rw [et] at ph; exact ph.elim
      | ex x S' => rw [et] at ph; exact ph.elim
      | ok bb S3 =>
        rw [et] at ph
        intro b' H3 HF3 L3 st3 R4 eb
        cases eb
        have hv3 := st3.keep Dl _ hLv (nl _) hv2
        have hF3 := st3.new Dl _ hLv hF2 (by trivial) hv2
        have hL3 : Dl ∉ L3 := st3.keepL hLv hv2
        cases bb with
        | false =>
          rw [if_neg Bool.false_ne_true]
          exact ⟨rfl, hlt, HF3, L3, S3, acc, vacc, R2.reenv st3 R4, sth.trans (st2.trans st3), hv3, hF3, hL3, ra.mono (st2.fro.trans st3.fro), ph⟩
        | true =>
          rw [if_pos rfl]
          refine ⟨HF3, L3, ρ1, S3, R4, ?_⟩
          have ph : Post (gd X W) W σ ρ H1 HF1 L1 (fun HF' L' v d => RepE (gd X W) HF' L' v d) Q (Out.bind ((fe ρ1 S3).bd fun y S2 => if acc.length < lim then lcL t tt fe (wipeE ρ vs) (ds.drop (i + 1)) S2 (acc ++ [y]) else .bad) fun ys S2 => .ok (.cel S2.length) (S2 ++ [some (.lst ys)])) := ph
          cases ef : fe ρ1 S3 with
          | bad => rw [ef] at ph; exact ph.elim
          | ex x S' => rw [ef] at ph; exact ph.elim
          | ok y S4 =>
            rw [ef] at ph
            have ph : Post (gd X W) W σ ρ H1 HF1 L1 (fun HF' L' v d => RepE (gd X W) HF' L' v d) Q (Out.bind (if acc.length < lim then lcL t tt fe (wipeE ρ vs) (ds.drop (i + 1)) S4 (acc ++ [y]) else .bad) fun ys S2 => .ok (.cel S2.length) (S2 ++ [some (.lst ys)])) := ph
            intro v H4 HF4 L4 st4 R5 ry
            split at ph
            · rename_i hz
              have hv4 := st4.keep Dl _ hL3 (nl _) hv3
              have hF4 := st4.new Dl _ hL3 hF3 (by trivial) hv3
              have hL4 : Dl ∉ L4 := st4.keepL hL3 hv3
              refine ⟨vacc, hv4, by rw [ra.length]; exact Nat.lt_of_lt_of_le hz lim_le, rfl, hlt, HF4, L4, S4, acc ++ [y], vacc ++ [v], ?_, ?_, upd_same, hF4, hL4, (ra.mono (st2.fro.trans (st3.fro.trans st4.fro))).append (.cons ry .nil), ph⟩
              · exact ((R2.reenv st3 R4).reenv st4 R5).aside hL4 hF4 (by rw [hv4]; simp)
              · exact Step.put (sth.trans (st2.trans (st3.trans st4))) hD
            · exact ph.elim
  · have e : i = ds.length := by omega
    subst e
    refine .inl ⟨rJ.stop _ Hh HFh s01 Rh.sub (Nat.le_refl _), ?_⟩
    rw [List.drop_length] at ph
    have ph : Post (gd X W) W σ ρ H1 HF1 L1 (fun HF' L' v d => RepE (gd X W) HF' L' v d) Q (.ok (.cel Sh.length) (Sh ++ [some (.lst acc)])) := ph
    refine ph (.ref Dl) Hh HFh (Lh ++ [Dl]) ⟨sth.keep, sth.nn, sth.fro, sth.new, ?_⟩ (Rh.adoptC hLv hFv hv ra) ⟨Dl, by rw [Rh.sl, List.getElem?_append_right (Nat.le_refl _)]; simp, rfl⟩
    obtain ⟨M, eM, hM⟩ := sth.ext
    refine ⟨M ++ [Dl], by rw [eM, List.append_assoc], fun a ha o no => ?_⟩
    rcases List.mem_append.mp ha with z | z
    · exact hM a z o no
    · have : a = Dl := by simpa using z
      subst this; rw [hD]; simp
theorem vlc {elt iter : Expr} {ifs : List Expr} {scope : Scope} {own : List (Str × Nat)} {fi : DDn} {t : Tg} {tt : DTn} {fe : DEn} (hc : X.calm = true) (hN : X.N.Nodup) (hi : DI X W tg iter fi) (ok : BlkOk X.N X.env.scope scope own)
    (hg : ∀ (s : Shared) (H : Hp) (C : Addr) (cl : List (Str × Addr)) (fp : List Addr), PG (X.blk s H scope (compEnvC scope cl C X.env) fp) tg (tgG (X.blk s H scope (compEnvC scope cl C X.env) fp).K t))
    (ht : ∀ (s : Shared) (H : Hp) (C : Addr) (cl : List (Str × Addr)) (fp : List Addr), DTs (X.blk s H scope (compEnvC scope cl C X.env) fp) W.z ifs tt)
    (he : ∀ (s : Shared) (H : Hp) (C : Addr) (cl : List (Str × Addr)) (fp : List Addr), DE (X.blk s H scope (compEnvC scope cl C X.env) fp) W.z elt fe)
    (hsl : ∀ i ∈ t.slots, i ∈ own.map (·.2) := by decide) (hs : ∀ x, foldedSetIterable iter X.env x = pure x := by intro _; rfl) : DV X W (.ListComp elt [⟨tg, iter, ifs, 0⟩] scope pos) (mNewLc fi t tt fe (own.map (·.2))) :=
  PE.imp (pe_lc hc hN hi ok hg ht he hs) fun σ H Q h => lc_readV hsl h
def mSetLcV (i : Nat) (f : DVn) : DSn := fun ρ S => bindS (f ρ S) ρ fun e S1 => .ok (.nx, ρ.set i (some e)) S1
theorem ssetLcV (i : Nat) {y : Str} {py : Pos} {elt iter : Expr} {ifs : List Expr} {scope : Scope} {own : List (Str × Nat)} {cpos : Pos} {fi : DDn} {t : Tg} {tt : DTn} {fe : DEn} (hc : X.calm = true) (hN : X.N.Nodup) (hi : DI X W tg iter fi) (ok : BlkOk X.N X.env.scope scope own)
    (hg : ∀ (s : Shared) (H : Hp) (C : Addr) (cl : List (Str × Addr)) (fp : List Addr), PG (X.blk s H scope (compEnvC scope cl C X.env) fp) tg (tgG (X.blk s H scope (compEnvC scope cl C X.env) fp).K t))
    (ht : ∀ (s : Shared) (H : Hp) (C : Addr) (cl : List (Str × Addr)) (fp : List Addr), DTs (X.blk s H scope (compEnvC scope cl C X.env) fp) W.z ifs tt)
    (he : ∀ (s : Shared) (H : Hp) (C : Addr) (cl : List (Str × Addr)) (fp : List Addr), DE (X.blk s H scope (compEnvC scope cl C X.env) fp) W.z elt fe)
    (hy : X.N[i]? = some y := by rfl) (hyl : X.env.scope.names.lookup y = some .local := by rfl) (hsw : swapsWith (.ListComp elt [⟨tg, iter, ifs, 0⟩] scope cpos) (some (.Name y py)) pos.line X.env = pure true := by exact sw_true rfl rfl rfl (by decide +kernel))
    (hsl : ∀ i ∈ t.slots, i ∈ own.map (·.2) := by decide) (hs : ∀ x, foldedSetIterable iter X.env x = pure x := by intro _; rfl) : DS X W (.Assign [.Name y py] (.ListComp elt [⟨tg, iter, ifs, 0⟩] scope cpos) pos) (mSetLcV i (mNewLc fi t tt fe (own.map (·.2)))) :=
  PS.imp (ps_setLc (i := i) hc hN hy hyl hsw hi ok hg ht he hs) fun D σ H ⟨HF, L, ρ, S, R, p⟩ => lc_readV hsl ⟨HF, L, ρ, S, R, PostS.bind p fun d S1 v H1 HF1 L1 e1 st1 R1 r1 p1 => p1.done (R1.store (e := d) r1 i)⟩
end
end DL

/-! the layer of data: a cell that is a value from here on; sorted of a list of tuples of ints -/
namespace DL
open PySem PySem.Spec PyProof.Rows L2
def mThaw (i : Nat) : DSn := fun ρ S => match ρ[i]? with
  | some (some (.cel n)) => match S[n]? with
    | some (some (.lst ds)) => .ok (.nx, ρ.set i (some (.v (.lst ds)))) (S.set n none)
    | _ => .bad
  | _ => .bad
theorem mThaw_is (i : Nat) (ρ : DL.Env) (S : Store) : (∃ n ds, ρ[i]? = some (some (.cel n)) ∧ S[n]? = some (some (.lst ds)) ∧ mThaw i ρ S = .ok (.nx, ρ.set i (some (.v (.lst ds)))) (S.set n none)) ∨ mThaw i ρ S = .bad := by
  unfold mThaw
  split
  · rename_i n e
    split
    · rename_i ds e2
      exact .inl ⟨n, ds, e, e2, rfl⟩
    · exact .inr rfl
  · exact .inr rfl
section
variable {X : Cx} {W : WD}
theorem thaw (i : Nat) {st : List Stmt} {f : DSn} (h : DSs X W st f) : DSs X W st (mSeq (mThaw i) f) :=
  PSs.imp h fun D σ H ⟨HF, L, ρ, S, R, p⟩ => by
    rcases mThaw_is i ρ S with ⟨n, ds, e1, e2, e⟩ | e
    · have p' : PostS (gd X W) W H HF L D (f (ρ.set i (some (.v (.lst ds)))) (S.set n none)) := by
        unfold mSeq at p
        rw [e] at p
        exact p
      obtain ⟨v, h1, a, h2, h3⟩ := R.env i _ e1
      subst h3
      obtain ⟨HF', R', st, r⟩ := R.freeze h2 e2
      refine ⟨HF', L, _, _, ?_, PostS.step st p'⟩
      have q := R'.store (e := .v (.lst ds)) r i
      have eσ : σ.set i (some (.ref a)) = σ := by
        refine List.ext_getElem? fun j => ?_
        by_cases hj : j = i
        · subst hj
          rw [List.getElem?_set_self (List.getElem?_eq_some_iff.mp h1).1, h1]
        · rw [List.getElem?_set_ne (Ne.symm hj)]
      rw [eσ] at q
      exact q
    · unfold mSeq at p
      rw [e] at p
      exact p.elim
end
/-! tuples of ints -/
def tupD (n : List Int) : D := .tup (n.map D.int)
def tupI : D → Option (List Int)
  | .tup ds => intsOf ds
  | _ => none
def tupsI : List D → Option (List (List Int))
  | [] => some []
  | d :: ds => match tupI d, tupsI ds with
    | some n, some ns => some (n :: ns)
    | _, _ => none
theorem intsOf_eq : ∀ {ds : List D} {is : List Int}, intsOf ds = some is → ds = is.map D.int
  | [], _, e => by cases e; rfl
  | d :: ds, is, e => by
    cases d with
    | int i =>
      have e : (intsOf ds).map (i :: ·) = some is := e
      cases h : intsOf ds with
      | none => rw [h] at e; cases e
      | some js =>
        rw [h] at e
        cases e
        rw [List.map_cons, ← intsOf_eq h]
    | _ => cases e
theorem tupsI_eq : ∀ {ds : List D} {ns : List (List Int)}, tupsI ds = some ns → ds = ns.map tupD
  | [], _, e => by cases e; rfl
  | d :: ds, ns, e => by
    unfold tupsI at e
    cases h1 : tupI d with
    | none => rw [h1] at e; cases e
    | some n =>
      cases h2 : tupsI ds with
      | none => rw [h1, h2] at e; cases e
      | some ms =>
        rw [h1, h2] at e
        cases e
        rw [List.map_cons, ← tupsI_eq h2]
        congr 1
        cases d with
        | tup es => exact congrArg D.tup (intsOf_eq h1)
        | _ => cases h1
theorem code_inj {B : Int} : ∀ {m n : List Int}, m.length = n.length → TS.Bd B m → TS.Bd B n → TS.code B m = TS.code B n → m = n
  | [], [], _, _, _, _ => rfl
  | [], _ :: _, h, _, _, _ => by cases h
  | _ :: _, [], h, _, _, _ => by cases h
  | x :: m, y :: n, h, hm, hn, e => by
    have hl : m.length = n.length := by simpa using h
    rcases Int.lt_trichotomy x y with c | c | c
    · have := TS.code_lt hl hm.tail hn.tail c
      omega
    · subst c
      have h1 := TS.code_same (B := B) (d := x) hl
      have h2 := TS.code_same (B := B) (d := x) hl.symm
      have a1 : ¬ TS.code B m < TS.code B n := fun z => by have := h1.mpr z; omega
      have a2 : ¬ TS.code B n < TS.code B m := fun z => by have := h2.mpr z; omega
      rw [code_inj hl hm.tail hn.tail (by omega)]
    · have := TS.code_lt hl.symm hn.tail hm.tail c
      omega
def insT (B : Int) (x : List Int) : List (List Int) → List (List Int)
  | [] => [x]
  | y :: ys => if TS.code B x ≤ TS.code B y then x :: y :: ys else y :: insT B x ys
def sortT (B : Int) : List (List Int) → List (List Int)
  | [] => []
  | x :: xs => insT B x (sortT B xs)
theorem insT_perm (B : Int) (x : List Int) : ∀ ys, (insT B x ys).Perm (x :: ys)
  | [] => .refl _
  | y :: ys => by
    unfold insT
    split
    · exact .refl _
    · exact ((insT_perm B x ys).cons y).trans (.swap ..)
theorem sortT_perm (B : Int) : ∀ xs, (sortT B xs).Perm xs
  | [] => .refl _
  | x :: xs => (insT_perm B x _).trans ((sortT_perm B xs).cons x)
theorem insT_sorted (B : Int) (x : List Int) : ∀ {ys : List (List Int)}, ys.Pairwise (fun a b => TS.code B a ≤ TS.code B b) → (insT B x ys).Pairwise (fun a b => TS.code B a ≤ TS.code B b)
  | [], _ => List.pairwise_singleton _ _
  | y :: ys, h => by
    obtain ⟨h1, h2⟩ := List.pairwise_cons.mp h
    unfold insT
    split
    · rename_i c
      refine List.pairwise_cons.mpr ⟨fun b hb => ?_, h⟩
      rcases List.mem_cons.mp hb with rfl | hb
      · exact c
      · have := h1 b hb; omega
    · rename_i c
      refine List.pairwise_cons.mpr ⟨fun b hb => ?_, insT_sorted B x h2⟩
      rcases List.mem_cons.mp ((insT_perm B x ys).mem_iff.mp hb) with rfl | hb
      · omega
      · exact h1 b hb
theorem sortT_sorted (B : Int) : ∀ xs, (sortT B xs).Pairwise (fun a b => TS.code B a ≤ TS.code B b)
  | [] => .nil
  | x :: xs => insT_sorted B x (sortT_sorted B xs)
theorem map_inj_on {α β : Type} {f : α → β} : ∀ {l m : List α}, l.map f = m.map f → (∀ a ∈ l, ∀ b ∈ m, f a = f b → a = b) → l = m
  | [], [], _, _ => rfl
  | [], _ :: _, h, _ => by cases h
  | _ :: _, [], h, _ => by cases h
  | a :: l, b :: m, h, hi => by
    rw [List.map_cons, List.map_cons] at h
    injection h with h1 h2
    rw [hi a List.mem_cons_self b List.mem_cons_self h1, map_inj_on h2 fun x hx y hy => hi x (List.mem_cons_of_mem _ hx) y (List.mem_cons_of_mem _ hy)]
section
variable {G : Gd} {HF : Hp}
theorem reps_perm : ∀ {xs ys : List V}, xs.Perm ys → ∀ {ns : List (List Int)}, Reps G HF xs (ns.map tupD) → ∃ ms, ns.Perm ms ∧ Reps G HF ys (ms.map tupD) := by
  intro xs ys h
  induction h with
  | nil => intro ns r; exact ⟨ns, .refl _, r⟩
  | cons x _ ih =>
    intro ns r
    cases ns with
    | nil => cases r
    | cons n ns =>
      cases r with
      | cons r1 r2 =>
        obtain ⟨ms, h1, h2⟩ := ih r2
        exact ⟨n :: ms, h1.cons n, .cons r1 h2⟩
  | swap x y l =>
    intro ns r
    cases ns with
    | nil => cases r
    | cons n ns =>
      cases ns with
      | nil =>
        cases r with
        | cons r1 r2 => cases r2
      | cons m ns =>
        cases r with
        | cons r1 r2 =>
          cases r2 with
          | cons r2 r3 => exact ⟨m :: n :: ns, .swap .., .cons r2 (.cons r1 r3)⟩
  | trans _ _ ih1 ih2 =>
    intro ns r
    obtain ⟨ms, h1, h2⟩ := ih1 r
    obtain ⟨ks, h3, h4⟩ := ih2 h2
    exact ⟨ks, h1.trans h3, h4⟩
theorem tup_is {H : Hp} (sub : Same HF H) {x : V} {n : List Int} (r : Rep G HF x (tupD n)) : TupI G.K H x n := by
  unfold tupD at r
  cases r with
  | tup h1 h2 =>
    rename_i a vs
    have ev : vs = n.map V.int := h2.intsOf (intsOf_map' n)
    subst ev
    exact ⟨a, rfl, SqT.mono sub h1⟩
where
  intsOf_map' : ∀ xs : List Int, intsOf (xs.map D.int) = some xs
    | [] => rfl
    | x :: xs => by
      have := intsOf_map' xs
      simp [intsOf, this]
theorem reps_sorted {H : Hp} {B : Int} (sub : Same HF H) : ∀ {ys : List V} {ms : List (List Int)}, Reps G HF ys (ms.map tupD) → ys.Pairwise (fun x y => ∀ n m, TupI G.K H x n → TupI G.K H y m → TS.code B n ≤ TS.code B m) → ms.Pairwise (fun a b => TS.code B a ≤ TS.code B b)
  | _, [], _, _ => .nil
  | _, n :: ms, r, h => by
    cases r with
    | cons r1 r2 =>
      obtain ⟨h1, h2⟩ := List.pairwise_cons.mp h
      refine List.pairwise_cons.mpr ⟨fun m hm => ?_, reps_sorted sub r2 h2⟩
      obtain ⟨i, hi, e⟩ := List.getElem_of_mem hm
      obtain ⟨y, hy, ry⟩ := r2.get (i := i) (d := tupD m) (by rw [List.getElem?_map, List.getElem?_eq_getElem hi, e]; rfl)
      exact h1 y (List.mem_of_getElem? hy) n m (tup_is sub r1) (tup_is sub ry)
end
def boxed (d : Nat) (B : Int) (ns : List (List Int)) : Bool := decide (ns.length < 64) && ns.all fun n => decide (n.length = d) && n.all fun i => decide (0 ≤ i) && decide (i < B)
def gSortT (d : Nat) (B : Int) : List D → Option D
  | [.lst ds] => match tupsI ds with
    | some ns => if boxed d B ns = true then some (.lst ((sortT B ns).map tupD)) else none
    | none => none
  | _ => none
section
variable {X : Cx} {W : WD}
theorem biSortT {d : Nat} {B : Int} (hd : 1 ≤ d) : BiO X W (.builtin "sorted") (gSortT d B) := by
  refine ⟨_, cr_sortT (d := d) (B := B) hd, fun xs vs H HF z Q sub r e q => ?_⟩
  unfold gSortT at e
  split at e
  · rename_i ds
    split at e
    · rename_i ns en
      split at e
      · rename_i hb
        cases e
        obtain ⟨v, rfl, h⟩ := r.one
        cases h with
        | lst h1 h2 =>
          rename_i a us
          have ed := tupsI_eq en
          subst ed
          unfold boxed at hb
          rw [Bool.and_eq_true, decide_eq_true_eq, List.all_eq_true] at hb
          obtain ⟨h64, hall⟩ := hb
          have hm : ∀ n ∈ ns, n.length = d ∧ TS.Bd B n := fun n hn => by
            have := hall n hn
            rw [Bool.and_eq_true, decide_eq_true_eq, List.all_eq_true] at this
            exact ⟨this.1, fun m hm => by
              have := this.2 m hm
              rw [Bool.and_eq_true, decide_eq_true_eq, decide_eq_true_eq] at this
              exact this⟩
          have hlen : us.length = ns.length := by rw [h2.length, List.length_map]
          refine ⟨a, us, rfl, SqL.of (sub _ _ h1), by omega, fun x hx => ?_, fun ys p hp hs hn => ?_⟩
          · obtain ⟨i, hi, ex⟩ := List.getElem_of_mem hx
            obtain ⟨z, hz, rz⟩ := h2.get' (i := i) (v := x) (by rw [List.getElem?_eq_getElem hi, ex])
            rw [List.getElem?_map] at hz
            obtain ⟨n, hn, rfl⟩ := Option.map_eq_some_iff.mp hz
            exact ⟨n, tup_is sub rz, hm n (List.mem_of_getElem? hn)⟩
          · obtain ⟨ms, pm, rm⟩ := reps_perm hp.symm h2
            have so := reps_sorted sub rm hs
            have ec : ms.map (TS.code B) = (sortT B ns).map (TS.code B) := PySem.W.ksm_same ((pm.symm.trans (sortT_perm B ns).symm).map _) (List.pairwise_map.mpr so) (List.pairwise_map.mpr (sortT_sorted B ns))
            have em : ms = sortT B ns := map_inj_on ec fun x hx y hy e => by
              obtain ⟨l1, b1⟩ := hm x (pm.mem_iff.mpr hx)
              obtain ⟨l2, b2⟩ := hm y ((sortT_perm B ns).mem_iff.mp hy)
              exact code_inj (by omega) b1 b2 e
            subst em
            have hF : HF p = none := by
              cases h : HF p with
              | none => rfl
              | some o => have := sub _ _ h; rw [hn] at this; cases this
            exact q _ _ _ (.new hn) (.lst upd_same (rm.mono (same_upd hF)))
      · cases e
    · cases e
  · cases e
end
end DL

/-! the layer of data: zip of a tuple and a list -/
namespace DL
open PySem PySem.Spec PyProof.Rows L2
/-- the items of the tuple at a and of the list at b, of so many, in new pairs -/
def ItzM (K : PySem.W.Frag) (a b : Addr) (N M : Nat) : It :=
  ⟨fun i H => ∃ (xs ys : List V) (x y : V), SqT K H a xs ∧ SqL K H b ys ∧ xs.length = N ∧ ys.length = M ∧ xs[i]? = some x ∧ ys[i]? = some y,
    fun i H v H' => ∃ T x y, v = .ref T ∧ H T = none ∧ H' = upd H T (.tup [x, y]) ∧ (∀ xs, SqT K H a xs → xs[i]? = some x) ∧ ∀ ys, SqL K H b ys → ys[i]? = some y,
    fun i H => ∃ xs ys : List V, SqT K H a xs ∧ SqL K H b ys ∧ xs.length = N ∧ ys.length = M ∧ (N ≤ i ∨ M ≤ i)⟩
theorem sep_of {z TI TO i1 i2 a b : Addr} (D : ZipApart z TI TO i1 i2 a b) : ZipSep2 z TI TO i1 i2 [i1, a] [i2, b] where
  TIz := D.TIz
  TOz := D.TOz
  TITO := D.TITO
  TIi1 := D.TIi1
  mem1 := by simp
  zf1 := by simp [D.i1z.symm, D.l1z.symm]
  Tf1 := by simp [D.TOi1, D.l1TO.symm]
  TIi2 := D.TIi2
  mem2 := by simp
  zf2 := by simp [D.i2z.symm, D.l2z.symm]
  Tf2 := by simp [D.TOi2, D.l2TO.symm]
  sep1_2 := by simp [D.i12, D.l2i1.symm]
  sep2_1 := by simp [D.i12.symm, D.l1i2.symm]
theorem turn_zipM {P : Program} {w : World} {K : PySem.W.Frag} {elts : List Expr} {kk : Nat} {tpos : Pos} {a b z TI TO i1 i2 : Addr} {N M : Nat} (D : ZipApart z TI TO i1 i2 a b) :
    Turn P w K (.Tuple elts kk tpos) (ItzM K a b N M) [z, TI, TO, i1, i2] z (fun i h => (IsZip h z TI TO .none ∧ IsTupOf2 h TI (.ref i1) (.ref i2) ∧ (∃ x y, IsTupOf2 h TO x y) ∧ h.IsTupleIter i1 a i ∧ h.IsListIter i2 b i) ∧ i ≤ N ∧ i ≤ M) where
  mem := by simp
  obj := fun i h st c hc => by
    obtain ⟨⟨hz, hTI, ⟨x, y, hTO⟩, ⟨o1, e1, _, d1⟩, ⟨o2, e2, _, d2⟩⟩, _⟩ := st
    simp only [List.mem_cons, List.not_mem_nil, or_false] at hc
    rcases hc with rfl | rfl | rfl | rfl | rfl
    · exact ⟨_, hz, fun v q => nomatch q⟩
    · exact ⟨_, hTI, fun v q => nomatch q⟩
    · exact ⟨_, hTO, fun v q => nomatch q⟩
    · exact ⟨o1, e1, fun v q => by rw [d1] at q; cases q⟩
    · exact ⟨o2, e2, fun v q => by rw [d2] at q; cases q⟩
  keep := fun i h h' st k => by
    obtain ⟨⟨hz, hTI, ⟨x, y, hTO⟩, h1, h2⟩, l⟩ := st
    exact ⟨⟨k z (by simp) _ hz, k TI (by simp) _ hTI, ⟨x, y, k TO (by simp) _ hTO⟩, h1.at fun o q => k i1 (by simp) o q, h2.at fun o q => k i2 (by simp) o q⟩, l⟩
  item := by
    intro X hP hw hK hc i pins s σ H E I hf st hg
    subst hP hw hK
    obtain ⟨⟨hz, hTI, ⟨x0, y0, hTO⟩, h1, h2⟩, l1, l2⟩ := st
    obtain ⟨xs, ys, x, y, hqx, hqy, n1, n2, hx, hy⟩ := hg
    obtain ⟨its, rv, p, _⟩ := I.tuple hqx
    obtain ⟨its2, rv2, p2, _⟩ := I.list hqy
    have z1 : its.length = xs.length := rv.length.symm
    have z2 : its2.length = ys.length := rv2.length.symm
    have j1 := (List.getElem?_eq_some_iff.mp hx).1
    have j2 := (List.getElem?_eq_some_iff.mp hy).1
    have D1 := Draws.tuple (prog := X.prog) (w := X.w) (A := X.A.in1) (I.ok.hd hc) i1 a D.l1i1 its.toArray
    have D2 := Draws.list (prog := X.prog) (w := X.w) (A := X.A.in1) (I.ok.hd hc) i2 b D.l2i2 its2.toArray
    have hzl : z < s.heap.objs.size := Heap.lt_size hz
    refine wpAny_pyNext_zipD2_item (sep_of D) D1 D2 hz hTI hTO ⟨h1, p⟩ ⟨h2, p2.isList⟩ (by simp; omega) (by simp; omega) fun u u2 h' tk hu hu2 z' TO' st1 st2 hT hsz hk => ?_
    refine ⟨_, rfl, wpAny_letOwnedTupleGo_zip (s := { s with heap := h', toks := tk }) z' fun h'' z'' sb => ?_⟩
    have hu' : its[i]? = some u := by simpa using hu
    have hu2' : its2[i]? = some u2 := by simpa using hu2
    have ru : RelV x u := by
      obtain ⟨v, e1, e2⟩ := rv.get hx
      rw [hu'] at e1; cases e1; exact e2
    have ru2 : RelV y u2 := by
      obtain ⟨v, e1, e2⟩ := rv2.get hy
      rw [hu2'] at e1; cases e1; exact e2
    have hT2 : h''.get? s.heap.objs.size = some { cls := .type "tuple", data := .seq #[u, u2] } := (sb.2 _ (Nat.ne_of_gt hzl)).trans hT
    have new : ObjOk X.prog X.w (upd H s.heap.objs.size (.tup [x, y])) h'' s.heap.objs.size (.tup [x, y]) :=
      ⟨by show 2 ≤ sizeLine; decide, [u, u2], .cons ru (.cons ru2 .nil), ⟨_, hT2, rfl, _, rfl⟩⟩
    have I1 : Inv X pins σ (upd H s.heap.objs.size (.tup [x, y])) { s with heap := h'', toks := tk } :=
      I.turnedNew (t' := tk) (ch := [z, TI, TO, i1, i2]) (fun c o hb q => (sb.2 c (fun q' => hb (by simp [q']))).trans (hk c o (fun q' => hb (by simp [q'])) (fun q' => hb (by simp [q'])) (fun q' => hb (by simp [q'])) (fun q' => hb (by simp [q'])) q)) hf (Nat.le_refl _) new
    refine ⟨.ref s.heap.objs.size, _, I1, rfl, ⟨_, x, y, rfl, I.hok.fresh (Nat.le_refl _), rfl, fun l hl => by rw [I.tuple_inj hl hqx]; exact hx, fun l hl => by rw [I.list_inj hl hqy]; exact hy⟩, ⟨⟨z'', ?_, ⟨u, u2, ?_⟩, ?_, ?_⟩, by omega, by omega⟩, fun c hcm => ?_⟩
    · exact (sb.2 _ D.TIz).trans (hk _ _ D.TIz D.TITO D.TIi1 D.TIi2 hTI)
    · exact (sb.2 _ D.TOz).trans TO'
    · exact st1.1.at fun o q => (sb.2 _ D.i1z).trans q
    · exact st2.1.at fun o q => (sb.2 _ D.i2z).trans q
    · have hlt : c < s.heap.objs.size := by
        obtain ⟨o, e, _⟩ : ∃ o, s.heap.get? c = some o ∧ True := by
          simp only [List.mem_cons, List.not_mem_nil, or_false] at hcm
          rcases hcm with rfl | rfl | rfl | rfl | rfl
          · exact ⟨_, hz, trivial⟩
          · exact ⟨_, hTI, trivial⟩
          · exact ⟨_, hTO, trivial⟩
          · obtain ⟨o, e, _⟩ := h1; exact ⟨o, e, trivial⟩
          · obtain ⟨o, e, _⟩ := h2; exact ⟨o, e, trivial⟩
        exact Heap.lt_size e
      rw [upd_ne (Nat.ne_of_lt hlt)]
      exact (hf c hcm).1
  done := by
    intro X hP hw hK hc i pins s σ H E I hf st hg
    subst hP hw hK
    obtain ⟨⟨hz, hTI, ⟨x0, y0, hTO⟩, h1, h2⟩, l1, l2⟩ := st
    obtain ⟨xs, ys, hqx, hqy, n1, n2, hend⟩ := hg
    obtain ⟨its, rv, p, _⟩ := I.tuple hqx
    obtain ⟨its2, rv2, p2, _⟩ := I.list hqy
    have z1 : its.length = xs.length := rv.length.symm
    have z2 : its2.length = ys.length := rv2.length.symm
    have D1 := Draws.tuple (prog := X.prog) (w := X.w) (A := X.A.in1) (I.ok.hd hc) i1 a D.l1i1 its.toArray
    have D2 := Draws.list (prog := X.prog) (w := X.w) (A := X.A.in1) (I.ok.hd hc) i2 b D.l2i2 its2.toArray
    exact wpAny_pyNext_zipD2_end (sep_of D) D1 D2 hz hTI hTO ⟨h1, p⟩ ⟨h2, p2.isList⟩ (by simp; omega) (by simp; omega) (by simp; omega) fun h' tk hk => ⟨rfl, I.turnedL (t' := tk) (ch := [z, TI, TO, i1, i2]) (fun c o hb q =>
      hk c o (fun q' => hb (by simp [q'])) (fun q' => hb (by simp [q'])) (fun q' => hb (by simp [q'])) (fun q' => hb (by simp [q'])) q) hf⟩
  self := fun A i s Q E st h => wpAny_pyIter_zip st.1.1 h
def iZipM (K : PySem.W.Frag) (ta : TA) : TI := fun σ H R => ta σ H fun vs H1 => ∃ a b xs ys, vs = [.ref a, .ref b] ∧ SqT K H1 a xs ∧ SqL K H1 b ys ∧ R (ItzM K a b xs.length ys.length) H1
theorem pi_zipM {X : Cx} {e e2 : Expr} {ta : TA} {p pos tpos : Pos} {elts : List Expr} {kk : Nat} (hg : Gl X "zip") (hm : X.mg "zip" = none) (ha : PA X [e, e2] ta)
    (hs : starEach [e, e2] X.env = (false, eval e X.env) :: starEach [e2] X.env := by rfl) (hpl : (backTo pos (starEach [e2] X.env)).any (·.1) = false := by rfl) :
    PI X (.Tuple elts kk tpos) (.Call (.Name "zip" p) [e, e2] [] pos) (iZipM X.K ta) := by
  refine ⟨fun pins s σ H R I h => ?_⟩
  refine Call_ (ld_blt I hg hm PyProof.Rows.boot_zip (PyProof.Rows.callWith_type1 (thn (ha.run pos pins s σ H _ I h) fun us s1 ⟨vs, H1, I1, r1, q1⟩ => ?_) hs hpl))
  obtain ⟨a, b, xs, ys, rfl, hqx, hqy, q⟩ := q1
  obtain ⟨u, u2, rfl, r, r'⟩ := vals2 r1
  obtain rfl : u = Value.ref a := r
  obtain rfl : u2 = Value.ref b := r'
  obtain ⟨its, rv, p1, _⟩ := I1.tuple hqx
  obtain ⟨its2, rv2, p2, _⟩ := I1.list hqy
  obtain ⟨o1, ho1, _⟩ := id p1
  have la : a < s1.heap.objs.size := Heap.lt_size ho1
  have lb : b < s1.heap.objs.size := p2.lt
  refine zip_begins2 (begins_tuple a its.toArray) (begins_list b its2.toArray) (show s1.heap.IsTuple a its.toArray from p1) p2.isList fun h' hz hTI hTO h1 h2 hsz hk => wpAny_pyIter_zip hz ?_
  have I2 : Inv X pins σ H1 { s1 with heap := h' } := I1.kept (t' := s1.toks) hk
  refine ⟨s1.heap.objs.size + 4, [s1.heap.objs.size + 4, s1.heap.objs.size + 2, s1.heap.objs.size + 3, s1.heap.objs.size, s1.heap.objs.size + 1], _, _, H1, rfl, I2, turn_zipM (PySem.W.ktu_apart s1.heap.objs.size a b la lb), ⟨⟨hz, hTI, ⟨_, _, hTO⟩, ⟨_, h1, rfl, rfl⟩, ⟨_, h2, rfl, rfl⟩⟩, Nat.zero_le _, Nat.zero_le _⟩, fun c hcm => ?_, q⟩
  have hle : s1.heap.objs.size ≤ c := by
    simp only [List.mem_cons, List.not_mem_nil, or_false] at hcm
    rcases hcm with rfl | rfl | rfl | rfl | rfl <;> omega
  exact I1.fpOk hle (I1.hok.fresh hle)
theorem itd_zipM {G : Gd} {HF : Hp} {a b : Addr} {xs ys : List V} {ds es : List D} (h : SqE G.K HF a xs) (k : SqL G.K HF b ys) (r : Reps G HF xs ds) (r' : Reps G HF ys es) : ItD G (ItzM G.K a b xs.length ys.length) HF (zipD ds es) where
  go := fun i H1 HF1 s1 s2 hi => by
    rw [zipD_length, ← r.length, ← r'.length] at hi
    exact ⟨xs, ys, xs[i]'(by omega), ys[i]'(by omega), SqT.mono (s1.trans s2) h, (s1.trans s2).seq k, rfl, rfl, by simp, by simp⟩
  yld := fun i x H1 HF1 H2 d s1 s2 hd ⟨T, u, v, e1, e2, e3, e4, e5⟩ => by
    subst e1; subst e3
    obtain ⟨p, q, q1, q2, q3⟩ := zipD_get _ _ _ hd
    subst q3
    obtain ⟨w1, g1, g2⟩ := r.get q1
    obtain ⟨w2, k1, k2⟩ := r'.get q2
    have z1 := e4 xs (SqT.mono (s1.trans s2) h)
    have z2 := e5 ys ((s1.trans s2).seq k)
    rw [g1] at z1; cases z1
    rw [k1] at z2; cases z2
    have m := s1.trans (same_upd (p := T) (o := .tup [u, v]) (free_of s2 e2))
    exact ⟨_, .new e2, .tup (SqE.of upd_same) (.cons (Rep.mono m g2) (.cons (Rep.mono m k2) .nil))⟩
  stop := fun i H1 HF1 s1 s2 hi => by
    rw [zipD_length, ← r.length, ← r'.length] at hi
    exact ⟨xs, ys, SqT.mono (s1.trans s2) h, (s1.trans s2).seq k, rfl, rfl, by omega⟩
section
variable {X : Cx} {W : WD} {pos : Pos} {a b : Expr} {fa fb : DEn}
def gZipM : D → D → Option (List D)
  | .tup a, .lst b => some (zipD a b)
  | _, _ => none
def mZipM (fa fb : DEn) : DDn := fun ρ S => (fa ρ S).bind fun x S1 => (fb ρ S1).bind fun y S2 => lift (gZipM x y) S2
theorem i_zipM {p tpos : Pos} {elts : List Expr} {kk : Nat} (hm : X.mg "zip" = none) (ha : DE X W a fa) (hb : DE X W b fb) (hg : Gl X "zip" := by rfl) (hs : starEach [a, b] X.env = (false, eval a X.env) :: starEach [b] X.env := by rfl) (hs2 : starEach [b] X.env = (false, eval b X.env) :: starEach [] X.env := by rfl)
    (hpl : (backTo pos (starEach [b] X.env)).any (·.1) = false := by rfl) : DI X W (.Tuple elts kk tpos) (.Call (.Name "zip" p) [a, b] [] pos) (mZipM fa fb) :=
  PI.imp (pi_zipM hg hm (pa_cons ha (pa_cons hb pa_nil hs2) hs) hs hpl) fun σ H R ⟨HF, L, ρ, S, RR, p⟩ => ⟨HF, L, ρ, S, RR, Post.bind p fun x S1 v H1 HF1 L1 e1 st1 R1 r1 p1 => ⟨HF1, L1, ρ, S1, R1, Post.bind p1 fun y S2 w H2 HF2 L2 e2 st2 R2 r2 p2 => by
    obtain ⟨ds, ed, p3⟩ := p2.lift
    have r1' := Rep.mono st2.fro r1
    unfold gZipM at ed
    split at ed
    · cases ed
      cases r1' with
      | tup h1 h2 => cases r2 with
        | lst h3 h4 => exact ⟨_, _, _, _, rfl, SqT.mono R2.sub h1, SqL.of (R2.sub _ _ h3), p3.done R2 .no (itd_zipM h1 (SqL.of h3) h2 h4)⟩
    · cases ed⟩⟩
end
end DL

/-! the layer of data: products and quotients of long ints -/
namespace DL
open PySem L2
section
variable {X : Cx} {W : WD}
def gMulW : D → D → Option D
  | .int i, .int j => if i.natAbs.log2 + j.natAbs.log2 < 1000000 then some (.int (i * j)) else none
  | _, _ => none
theorem bMulW : BOp X W .Mult gMulW := by
  refine ⟨_, op_mulW, fun x y v w H HF d Q sub rx ry e q => ?_⟩
  unfold gMulW at e
  split at e
  · split at e
    · cases rx; cases ry; cases e
      exact ⟨_, _, rfl, rfl, by assumption, q _ _ _ .no (.int _)⟩
    · cases e
  · cases e
def gDivW : D → D → Option D
  | .int i, .int j => if 0 < j ∧ j.natAbs.log2 < 9000 then some (.int (i / j)) else none
  | _, _ => none
theorem bDivW : BOp X W .FloorDiv gDivW := by
  refine ⟨_, op_fdivW, fun x y v w H HF d Q sub rx ry e q => ?_⟩
  unfold gDivW at e
  split at e
  · split at e
    · cases rx; cases ry; cases e
      exact ⟨_, _, rfl, rfl, by assumption, q _ _ _ .no (.int _)⟩
    · cases e
  · cases e
end
end DL

/-! the layer of data: dicts of ints and texts as cells -/
namespace DL
open PySem PySem.Spec PyProof.Rows L2
abbrev KD := L2.Key × D
def keyD : D → Option L2.Key
  | .int i => some (.inl i)
  | .str x => some (.inr x)
  | _ => none
def valD (kvs : List KD) (k : L2.Key) : Option D := (kvs.find? fun kv => decide (kv.1 = k)).map (·.2)
def putD (kvs : List KD) (k : L2.Key) (d : D) : List KD :=
  if (kvs.any fun kv => decide (kv.1 = k)) = true then kvs.map (fun kv => if kv.1 = k then (kv.1, d) else kv) else kvs ++ [(k, d)]
theorem key_rep {G : Gd} {HF : Hp} {v : V} {d : D} {k : L2.Key} (r : Rep G HF v d) (h : keyD d = some k) : v = kV k := by
  cases d with
  | int i => cases r; cases h; rfl
  | str x => cases r; cases h; rfl
  | _ => cases h
/-- the heap's entries are these -/
def Ents (G : Gd) (HF : Hp) (us : List (L2.Key × V)) (kvs : List KD) : Prop := us.map (·.1) = kvs.map (·.1) ∧ Reps G HF (us.map (·.2)) (kvs.map (·.2))
theorem Ents.cons {G : Gd} {HF : Hp} {u : L2.Key × V} {us : List (L2.Key × V)} {kv : KD} {kvs : List KD} (h : Ents G HF (u :: us) (kv :: kvs)) : u.1 = kv.1 ∧ Rep G HF u.2 kv.2 ∧ Ents G HF us kvs := by
  obtain ⟨h1, h2⟩ := h
  rw [List.map_cons, List.map_cons] at h1 h2
  injection h1 with a b
  cases h2 with
  | cons c d => exact ⟨a, c, b, d⟩
theorem Ents.mk {G : Gd} {HF : Hp} {u : L2.Key × V} {us : List (L2.Key × V)} {kv : KD} {kvs : List KD} (a : u.1 = kv.1) (b : Rep G HF u.2 kv.2) (h : Ents G HF us kvs) : Ents G HF (u :: us) (kv :: kvs) :=
  ⟨by rw [List.map_cons, List.map_cons, a, h.1], .cons b h.2⟩
theorem Ents.val {G : Gd} {HF : Hp} {k : L2.Key} : ∀ {kvs : List KD} {us : List (L2.Key × V)}, Ents G HF us kvs → (∀ d, valD kvs k = some d → ∃ v, valV us k = some v ∧ Rep G HF v d) ∧ (valD kvs k).isSome = (valV us k).isSome
  | [], us, h => by
    have : us = [] := by simpa using h.1
    subst this
    exact ⟨fun d e => (by cases e), rfl⟩
  | kv :: kvs, [], h => by
    have := h.1
    cases this
  | kv :: kvs, u :: us, h => by
    obtain ⟨a, b, c⟩ := h.cons
    by_cases e : kv.1 = k
    · have e1 : valD (kv :: kvs) k = some kv.2 := by simp [valD, List.find?_cons, e]
      have e2 : valV (u :: us) k = some u.2 := valV_pos (a.trans e)
      rw [e1, e2]
      exact ⟨fun d ed => (by cases ed; exact ⟨_, rfl, b⟩), rfl⟩
    · have e1 : valD (kv :: kvs) k = valD kvs k := by simp [valD, List.find?_cons, e]
      have e2 : valV (u :: us) k = valV us k := valV_neg fun z => e (a.symm.trans z)
      rw [e1, e2]
      exact c.val
theorem Ents.any {G : Gd} {HF : Hp} {k : L2.Key} : ∀ {kvs : List KD} {us : List (L2.Key × V)}, Ents G HF us kvs → (us.any fun kv => decide (kv.1 = k)) = kvs.any fun kv => decide (kv.1 = k)
  | [], us, h => by
    have : us = [] := by simpa using h.1
    subst this
    rfl
  | kv :: kvs, [], h => by
    have := h.1
    cases this
  | kv :: kvs, u :: us, h => by
    obtain ⟨a, b, c⟩ := h.cons
    rw [List.any_cons, List.any_cons, a, c.any]
theorem Ents.over {G : Gd} {HF : Hp} {k : L2.Key} {v : V} {d : D} (r : Rep G HF v d) : ∀ {kvs : List KD} {us : List (L2.Key × V)}, Ents G HF us kvs → Ents G HF (us.map fun kv => if kv.1 = k then (kv.1, v) else kv) (kvs.map fun kv => if kv.1 = k then (kv.1, d) else kv)
  | [], us, h => by
    have : us = [] := by simpa using h.1
    subst this
    exact ⟨rfl, .nil⟩
  | kv :: kvs, [], h => by
    have := h.1
    cases this
  | kv :: kvs, u :: us, h => by
    obtain ⟨a, b, c⟩ := h.cons
    rw [List.map_cons, List.map_cons]
    by_cases e : kv.1 = k
    · rw [if_pos e, if_pos (a.trans e)]
      exact Ents.mk a r (c.over r)
    · rw [if_neg e, if_neg fun z => e (a.symm.trans z)]
      exact Ents.mk a b (c.over r)
theorem Ents.put {G : Gd} {HF : Hp} {k : L2.Key} {v : V} {d : D} {kvs : List KD} {us : List (L2.Key × V)} (h : Ents G HF us kvs) (r : Rep G HF v d) : Ents G HF (putK us k v) (putD kvs k d) := by
  unfold putK putD
  rw [h.any]
  split
  · exact h.over r
  · exact ⟨by rw [List.map_append, List.map_append, h.1]; rfl, by rw [List.map_append, List.map_append]; exact Reps.append h.2 (.cons r .nil)⟩
theorem Ents.len {G : Gd} {HF : Hp} {kvs : List KD} {us : List (L2.Key × V)} (h : Ents G HF us kvs) : us.length = kvs.length := by
  have := congrArg List.length h.1
  simpa using this
section
variable {G : Gd} {H HF : Hp} {L : List Addr} {σ : L2.St} {ρ : DL.Env} {S : Store}
/-- a dict's cell is written -/
theorem Rel.writeK (R : Rel G H HF L σ ρ S) {n : Nat} {a : Addr} {c : Cell} {us : List (L2.Key × V)} {kvs : List KD} (h1 : L[n]? = some a) (h2 : S[n]? = some (some c)) (hr : Ents G HF us kvs) :
    Rel G (upd H a (.dK us)) HF L σ ρ (S.set n (some (.dk kvs))) ∧ Step H HF L (upd H a (.dK us)) HF L := by
  have hm : a ∈ L := List.mem_of_getElem? h1
  have hn : n < L.length := (List.getElem?_eq_some_iff.mp h1).1
  obtain ⟨hF, _⟩ := R.cell n a c h1 h2
  obtain ⟨u0, hu0, hm0⟩ := R.liv a hm
  refine ⟨⟨fun b u q => ?_, R.nd, by simpa using R.sl, fun b hb => ?_, R.tab.up (nt_upd hu0 hm0.nt) (Same.refl _), R.nft, fun k b c' k1 k2 => ?_, R.el, R.env⟩, ⟨fun b u hb _ q => ?_, nn_upd (fun _ h => by cases h), Same.refl _, fun _ _ _ q _ _ => q, [], by simp, by simp⟩⟩
  · rw [upd_ne (ne_of_none q hF)]; exact R.sub b u q
  · by_cases hba : b = a
    · subst hba; exact ⟨_, upd_same, trivial⟩
    · rw [upd_ne hba]; exact R.liv b hb
  · by_cases hk : k = n
    · subst hk
      rw [h1] at k1; cases k1
      rw [List.getElem?_set_self (by rw [R.sl]; exact hn)] at k2
      cases k2
      exact ⟨hF, us, upd_same, hr.1, hr.2⟩
    · rw [List.getElem?_set_ne (Ne.symm hk)] at k2
      obtain ⟨q1, q2⟩ := R.cell k b c' k1 k2
      exact ⟨q1, q2.up (upd_ne (fun z => hk (nodup_get R.nd (by rw [← z]; exact k1) h1))) (Same.refl _)⟩
  · rw [upd_ne (fun z => hb (by rw [z]; exact hm))]; exact q
end
section
variable {X : Cx} {W : WD} {pos : Pos} {b : Expr} {fb : DEn}
def mIxD (i : Nat) (fb : DEn) : DEn := fun ρ S => match ρ[i]? with
  | some (some (.cel n)) => (fb ρ S).bind fun y S1 => match keyD y, S1[n]? with
    | some k, some (some (.dk kvs)) => lift (valD kvs k) S1
    | _, _ => .bad
  | _ => .bad
theorem xixD (hu : X.A.units + 64 < cLine) (i : Nat) {x : Str} {px : Pos} (hb : DE X W b fb) (hs : NoSl b := by exact fun _ _ => rfl) (hN : X.N[i]? = some x := by rfl) (hv : Vis X.env.scope x := by first | exact Or.inl rfl | exact Or.inr (Or.inl rfl) | exact Or.inr (Or.inr rfl)) (hd : (x == ("__debug__" : Str)) = false := by decide)
    (hcd : (x == ("__classdict__" : Str)) = false := by decide) : DE X W (.Subscript (.Name x px) b pos) (mIxD i fb) := by
  refine PE.imp (pe_dget (by omega) (pe_var (i := i) hN hv hd hcd) hb hs) fun σ H Q ⟨HF, L, ρ, S, R, p⟩ => ?_
  unfold mIxD at p
  split at p
  · rename_i n hn
    obtain ⟨v, hv1, pa, hp1, hp2⟩ := R.env i _ hn
    subst hp2
    refine ⟨_, hv1, HF, L, ρ, S, R, Post.bind p fun y S1 w H1 HF1 L1 e1 st1 R1 r1 p1 => ?_⟩
    split at p1
    · rename_i k kvs hk hS
      obtain ⟨d, ed, p2⟩ := p1.lift
      obtain ⟨q1, us, q2, q3, q4⟩ := R1.cell n pa _ (st1.lget hp1) hS
      have E : Ents (gd X W) HF1 us kvs := ⟨q3, q4⟩
      obtain ⟨u, e2, e3⟩ := E.val.1 d ed
      have ew := key_rep r1 hk
      subst ew
      exact ⟨pa, u, rfl, by rw [← e2]; exact DGet.k q2, p2.done R1 .no e3⟩
    · exact p1.elim
  · exact p.elim
end
end DL

/-! the layer of data: new dicts, d[k] = x, k in d; ranges downwards -/
namespace DL
open PySem PySem.Spec PyProof.Rows L2
section
variable {G : Gd} {H HF : Hp} {L : List Addr} {σ : L2.St} {ρ : DL.Env} {S : Store}
/-- a new dict that will be changed -/
theorem Rel.freshK (R : Rel G H HF L σ ρ S) {p : Addr} {us : List (L2.Key × V)} {kvs : List KD} (hp : H p = none) (hr : Ents G HF us kvs) :
    Rel G (upd H p (.dK us)) HF (L ++ [p]) σ ρ (S ++ [some (.dk kvs)]) ∧ Step H HF L (upd H p (.dK us)) HF (L ++ [p]) := by
  have hL := R.out hp
  have hF := R.hf hp
  have e : ∀ {n : Nat} {a : Addr}, L[n]? = some a → a ≠ p := fun h z => hL (by rw [← z]; exact List.mem_of_getElem? h)
  refine ⟨⟨R.sub.trans (same_upd hp), ?_, by simp [R.sl], fun a ha => ?_, R.tab.up (nt_new hp) (Same.refl _), R.nft, fun n a c h1 h2 => ?_, R.el, fun i x h => ?_⟩, ⟨fun b u _ _ q => same_upd hp b u q, nn_upd (fun _ h => by cases h), Same.refl _, fun a _ _ q _ _ => q, [p], rfl, fun a ha o _ q => ?_⟩⟩
  · rw [List.nodup_append]
    refine ⟨R.nd, by simp, fun a ha b hb => ?_⟩
    have : b = p := by simpa using hb
    subst this
    exact fun z => hL (z ▸ ha)
  · rcases List.mem_append.mp ha with z | z
    · rw [upd_ne (fun q => hL (by rw [← q]; exact z))]; exact R.liv a z
    · have : a = p := by simpa using z
      subst this; exact ⟨_, upd_same, trivial⟩
  · by_cases hn : n < L.length
    · rw [List.getElem?_append_left hn] at h1
      rw [List.getElem?_append_left (by rw [R.sl]; exact hn)] at h2
      obtain ⟨q1, q2⟩ := R.cell n a c h1 h2
      exact ⟨q1, q2.up (upd_ne (e h1)) (Same.refl _)⟩
    · have hn' : n = L.length := by
        have := (List.getElem?_eq_some_iff.mp h1).1
        simp at this; omega
      subst hn'
      rw [List.getElem?_append_right (Nat.le_refl _)] at h1
      rw [List.getElem?_append_right (by rw [R.sl]; exact Nat.le_refl _), R.sl] at h2
      simp at h1 h2
      subst h1; subst h2
      exact ⟨hF, us, upd_same, hr.1, hr.2⟩
  · obtain ⟨v, q1, q2⟩ := R.env i x h
    refine ⟨v, q1, ?_⟩
    cases x with
    | v d => exact q2
    | cel n =>
      obtain ⟨a, q3, q4⟩ := q2
      exact ⟨a, by rw [List.getElem?_append_left (List.getElem?_eq_some_iff.mp q3).1]; exact q3, q4⟩
    | exn x => exact q2
    | lam ws ds => exact q2
  · obtain rfl : a = p := by simpa using ha
    rw [hp] at q
    cases q
theorem Rel.lastK (R : Rel G H HF L σ ρ S) {p : Addr} {us : List (L2.Key × V)} {kvs : List KD} (hp : H p = none) (hr : Ents G HF us kvs) : (L ++ [p])[S.length]? = some p := by
  rw [R.sl, List.getElem?_append_right (Nat.le_refl _)]
  simp
end
section
variable {X : Cx} {W : WD} {pos : Pos} {a b c : Expr} {fa fb fc : DEn}
/-- {} -/
def mNewDk : DVn := fun _ S => .ok (.cel S.length) (S ++ [some (.dk [])])
theorem vnewD : DV X W (.Dict [] [] pos) mNewDk :=
  PE.imp pe_dnewK fun σ H Q ⟨HF, L, ρ, S, R, p⟩ => fun q hq => by
    have E : Ents (gd X W) HF ([] : List (L2.Key × V)) [] := ⟨rfl, .nil⟩
    obtain ⟨R', st⟩ := R.freshK hq E
    exact p _ _ _ _ st R' ⟨q, R.lastK hq E, rfl⟩
/-- {k: x} -/
def mNewD1 (fk fv : DEn) : DVn := fun ρ S => (fk ρ (S ++ [some (.dk [])])).bind fun y S1 => (fv ρ S1).bind fun d S2 => match keyD y, S2[S.length]? with
  | some k, some (some (.dk [])) => .ok (.cel S.length) (S2.set S.length (some (.dk [(k, d)])))
  | _, _ => .bad
theorem vnewD1 {k v : Expr} {fk fv : DEn} (hk : DE X W k fk) (hv : DE X W v fv) : DV X W (.Dict [some k] [v] pos) (mNewD1 fk fv) :=
  PE.imp (pe_disp (pps_cons hk hv pps_nil) rfl rfl (fun z => by cases z) (by simp)) fun σ H Q ⟨HF, L, ρ, S, R, p⟩ => fun q hq => by
    have E : Ents (gd X W) HF ([] : List (L2.Key × V)) [] := ⟨rfl, .nil⟩
    obtain ⟨R', st⟩ := R.freshK hq E
    have hl := R.lastK hq E
    unfold mNewD1 at p
    refine ⟨HF, _, ρ, _, R', Post.bind (p.step st) fun y S1 w H1 HF1 L1 e1 st1 R1 r1 p1 => ⟨HF1, L1, ρ, S1, R1, Post.bind p1 fun d S2 u H2 HF2 L2 e2 st2 R2 r2 p2 => ?_⟩⟩
    split at p2
    · rename_i kk hkk hS
      have h2 := st2.lget (st1.lget hl)
      obtain ⟨q1, us, q2, q3, q4⟩ := R2.cell S.length q _ h2 hS
      have : us = [] := by simpa using q3
      subst this
      have ew := key_rep (Rep.mono st2.fro r1) hkk
      subst ew
      have E2 : Ents (gd X W) HF2 [(kk, u)] [(kk, d)] := ⟨rfl, .cons r2 .nil⟩
      obtain ⟨R3, st3⟩ := R2.writeK h2 hS E2
      exact ⟨q2, [(kk, u)], rfl, by simp, p2 _ _ _ _ st3 R3 ⟨q, h2, rfl⟩⟩
    · exact p2.elim
/-- d[k] = .. -/
def gDk (i : Nat) (fi : DEn) : DGn := fun d ρ S => match ρ[i]? with
  | some (some (.cel n)) => (fi ρ S).bd fun x S1 => match keyD x, S1[n]? with
    | some k, some (some (.dk kvs)) => if kvs.length < 1000000 then .ok ρ (S1.set n (some (.dk (putD kvs k d)))) else .bad
    | _, _ => .bad
  | _ => .bad
theorem gdk (hu : X.A.units + 64 < cLine) (i : Nat) {x : Str} {px : Pos} {fi : DEn} (hi : DE X W.z b fi) (hN : X.N[i]? = some x := by rfl) (hv : Vis X.env.scope x := by first | exact Or.inl rfl | exact Or.inr (Or.inl rfl) | exact Or.inr (Or.inr rfl)) (hd : (x == ("__debug__" : Str)) = false := by decide) (hcd : (x == ("__classdict__" : Str)) = false := by decide)
    (ha : ∀ v, assign (.Subscript (.Name x px) b pos) X.env v = (do
      let ov ← holding [v] (eval (.Name x px) X.env)
      let iv ← holding [v, ov] (eval b X.env)
      standAt pos
      holding [v, ov, iv] (setItem ov iv v)
      release [v, ov, iv] []) := by intro _; rfl) : DG X W (.Subscript (.Name x px) b pos) (gDk i fi) :=
  PG.imp (pg_sub (pe_var (i := i) hN hv hd hcd) hi (set_dict (by omega)) ha) fun v σ H Q ⟨HF, L, ρ, S, d, R, r, p⟩ => by
    unfold gDk at p
    split at p
    · rename_i n hn
      obtain ⟨w, hw1, pa, hp1, hp2⟩ := R.env i _ hn
      subst hp2
      refine ⟨_, hw1, HF, L, ρ, S, R, ?_⟩
      cases q : fi ρ S with
      | bad => rw [q] at p; exact p.elim
      | ex x S1 => rw [q] at p; exact p.elim
      | ok y S1 =>
        rw [q] at p
        replace p : PostG (gd X W) H HF L Q (match (generalizing := false) keyD y, S1[n]? with
          | some k, some (some (.dk kvs)) => if kvs.length < 1000000 then .ok ρ (S1.set n (some (.dk (putD kvs k d)))) else .bad
          | _, _ => .bad) := p
        intro u H1 HF1 L1 st1 R1 ru
        split at p
        · rename_i k kvs hk hS
          split at p
          · rename_i hz
            have hp1' := st1.lget hp1
            obtain ⟨q4, us, q5, q6, q7⟩ := R1.cell n pa _ hp1' hS
            have E : Ents (gd X W) HF1 us kvs := ⟨q6, q7⟩
            have ew := key_rep ru hk
            subst ew
            obtain ⟨R2, st2⟩ := R1.writeK hp1' hS (E.put (k := k) (Rep.mono st1.fro r))
            exact ⟨pa, _, rfl, DPut.k q5 (by rw [E.len, sizeLine_eq]; omega), p _ _ _ _ (st1.trans st2) R2⟩
          · exact p.elim
        · exact p.elim
    · exact p.elim
end
end DL

/-! the layer of data: ranges downwards, x[i] += e, k in d -/
namespace DL
open PySem PySem.Spec PyProof.Rows L2
section
variable {X : Cx} {W : WD} {pos : Pos} {a b c : Expr} {fa fb fc : DEn} {tg : Expr}
theorem itd_rangeC {G : Gd} {HF : Hp} (lo c : Int) (n : Nat) : ItD G (Itc lo c n) HF ((List.range n).map fun i => D.int (lo + (i : Nat) * c)) where
  go := fun i H1 HF1 s1 s2 hi => by show i < n; simpa using hi
  yld := fun i x H1 HF1 H2 d s1 s2 hd ⟨e, hx⟩ => by
    subst e; subst hx
    rw [List.getElem?_map] at hd
    cases q : (List.range n)[i]? with
    | none => rw [q] at hd; cases hd
    | some j =>
      rw [q] at hd
      cases hd
      obtain ⟨h1, h2⟩ := List.getElem?_eq_some_iff.mp q
      simp at h2
      subst h2
      exact ⟨HF1, .no, .int _⟩
  stop := fun i H1 HF1 s1 s2 hi => by show n ≤ i; simpa using hi
/-- range(a, b, -1) -/
def rgDn (m n : Int) : List D := (List.range (m - n).toNat).map fun i => D.int (m + (i : Nat) * (-1))
def mRgDn (fa fb fc : DEn) : DDn := fun ρ S => (fa ρ S).bind fun x S1 => (fb ρ S1).bind fun y S2 => (fc ρ S2).bind fun z S3 => match x, y, z with
  | .int m, .int n, .int k => if k = -1 ∧ (m ≤ 1000000000 ∧ -1000000000 ≤ m) ∧ (n ≤ 1000000000 ∧ -1000000000 ≤ n) then .ok (rgDn m n) S3 else .bad
  | _, _, _ => .bad
theorem i_rangeDn {p : Pos} (hm : X.mg "range" = none) (ha : DE X W a fa) (hb : DE X W b fb) (hc : DE X W c fc) (hg : Gl X "range" := by rfl)
    (hs : starEach [a, b, c] X.env = (false, eval a X.env) :: starEach [b, c] X.env := by rfl) (hs2 : starEach [b, c] X.env = (false, eval b X.env) :: starEach [c] X.env := by rfl) (hs3 : starEach [c] X.env = (false, eval c X.env) :: starEach [] X.env := by rfl) (hpl : (backTo pos (starEach [b, c] X.env)).any (·.1) = false := by rfl) :
    DI X W tg (.Call (.Name "range" p) [a, b, c] [] pos) (mRgDn fa fb fc) :=
  PI.imp (pi_range3 hg hm (pa_cons ha (pa_cons hb (pa_cons hc pa_nil hs3) hs2) hs) hs hpl) fun σ H R ⟨HF, L, ρ, S, RR, p⟩ => ⟨HF, L, ρ, S, RR, Post.bind p fun x S1 v H1 HF1 L1 e1 st1 R1 r1 p1 => ⟨HF1, L1, ρ, S1, R1, Post.bind p1 fun y S2 w H2 HF2 L2 e2 st2 R2 r2 p2 => ⟨HF2, L2, ρ, S2, R2, Post.bind p2 fun z S3 u H3 HF3 L3 e3 st3 R3 r3 p3 => by
    split at p3
    · rename_i m n k
      split at p3
      · rename_i hz
        obtain ⟨rfl, h1, h2⟩ := hz
        cases r1; cases r2; cases r3
        exact ⟨m, n, -1, (m - n).toNat, rfl, RgC.neg (by omega) (by omega) (by omega) (by omega), p3.done R3 .no (itd_rangeC m (-1) (m - n).toNat)⟩
      · exact p3.elim
    · exact p3.elim⟩⟩⟩
/-- x[i] += e, of a list of ints -/
theorem get_list : PGet X (rIxL X.K) := by
  intro pins s σ H x y v u Q I rx ry h
  obtain ⟨p, xs, i, z, rfl, rfl, hq, he, q⟩ := h
  cases rx
  obtain ⟨t, rfl⟩ := ry
  obtain ⟨its, r, pl, hz⟩ := I.list hq
  obtain ⟨j, h1, h2, h3, h4, h5⟩ := atI_get he
  obtain ⟨w, ew, rw'⟩ := r.get h2
  have hl := r.length
  have hn := line63
  have fin : EP X pins σ Q w s := ⟨z, H, I, rw', q⟩
  by_cases h0 : 0 ≤ i
  · have hj : i.toNat = j := by
      rw [seqIndex_of h0 h5] at h1
      exact Option.some.inj h1
    exact wpAny_getItem_list pl.isList h0 (by omega) (by rw [hj]; simpa using ew) fin
  · have hj : (i + (its.toArray.size : Int)).toNat = j := by
      rw [seqIndex_neg (by omega) h4] at h1
      rw [List.size_toArray, ← hl]
      exact Option.some.inj h1
    exact wpAny_getItem_list_neg pl.isList (by omega) (by rw [List.size_toArray] <;> omega) (by omega) (by rw [hj]; simpa using ew) fin
def mAugIx (i : Nat) (fi fe : DEn) : DSn := fun ρ S => match ρ[i]? with
  | some (some (.cel n)) => bindS (fi ρ S) ρ fun x S1 => match x, S1[n]? with
    | .int k, some (some (.lst ds)) => match atI ds k with
      | some (.int m) => bindS (fe ρ S1) ρ fun y S2 => match y, S2[n]? with
        | .int e, some (some (.lst es)) => match ixN es.length k with
          | some j => .ok (.nx, ρ) (S2.set n (some (.lst (es.set j (.int (m + e))))))
          | none => .bad
        | _, _ => .bad
      | _ => .bad
    | _, _ => .bad
  | _ => .bad
theorem saugIx (i : Nat) {x : Str} {px tpos : Pos} (hb : DE X W b fa) (he : DE X W c fc) (hN : X.N[i]? = some x := by rfl) (hv : Vis X.env.scope x := by first | exact Or.inl rfl | exact Or.inr (Or.inl rfl) | exact Or.inr (Or.inr rfl)) (hd : (x == ("__debug__" : Str)) = false := by decide) (hcd : (x == ("__classdict__" : Str)) = false := by decide)
    (ha : ∀ ov iv new, augStore b ov iv new = (do holding [new, ov, iv] (setItem ov iv new); release [new, ov, iv] []; pure .next) := by intros; rfl) :
    DS X W (.AugAssign (.Subscript (.Name x px) b tpos) .Add c pos) (mAugIx i fa fc) :=
  PS.imp (ps_augS (pe_var (i := i) hN hv hd hcd) hb get_list he ip_add set_list ha) fun D σ H ⟨HF, L, ρ, S, R, p⟩ => by
    unfold mAugIx at p
    split at p
    · rename_i n hn
      obtain ⟨v, hv1, pa, hp1, hp2⟩ := R.env i _ hn
      subst hp2
      refine ⟨_, hv1, HF, L, ρ, S, R, PostS.bind p fun y S1 w H1 HF1 L1 e1 st1 R1 r1 p1 => ?_⟩
      split at p1
      · rename_i k ds hS
        cases r1
        split at p1
        · rename_i m hm
          obtain ⟨q1, vs, q2, q3⟩ := R1.cell n pa _ (st1.lget hp1) hS
          obtain ⟨u, e2, e3⟩ := q3.atI hm
          cases e3
          refine ⟨_, _, _, _, rfl, rfl, SqL.of q2, e2, HF1, L1, ρ, S1, R1, PostS.bind p1 fun y2 S2 w2 H2 HF2 L2 e22 st2 R2 r2 p2 => ?_⟩
          split at p2
          · rename_i e es hS2
            cases r2
            split at p2
            · rename_i j hj
              have hp3 := st2.lget (st1.lget hp1)
              obtain ⟨q4, vs2, q5, q6⟩ := R2.cell n pa _ hp3 hS2
              obtain ⟨R3, st3⟩ := R2.write hp3 hS2 (q6.set j (.int (m + e)))
              exact ⟨_, _, rfl, rfl, pa, vs2, k, j, rfl, rfl, q5, by rw [q6.length]; exact hj, p2 _ _ _ _ st3 R3⟩
            · exact p2.elim
          · exact p2.elim
        · exact p1.elim
      · exact p1.elim
    · exact p.elim
/-- an item of a list that is a cell or a value -/
def mIxE (i : Nat) (fb : DEn) : DEn := fun ρ S => match ρ[i]? with
  | some (some (.cel n)) => (fb ρ S).bind fun y S1 => match y, S1[n]? with
    | .int k, some (some (.lst ds)) => lift (atI ds k) S1
    | _, _ => .bad
  | some (some (.v (.lst ds))) => (fb ρ S).bind fun y S1 => match y with
    | .int k => lift (atI ds k) S1
    | _ => .bad
  | _ => .bad
theorem xixE (i : Nat) {x : Str} {px : Pos} {fb : DEn} (hb : DE X W b fb) (hs : PlainIx b := by exact fun _ _ => rfl) (hN : X.N[i]? = some x := by rfl) (hv : Vis X.env.scope x := by first | exact Or.inl rfl | exact Or.inr (Or.inl rfl) | exact Or.inr (Or.inr rfl)) (hd : (x == ("__debug__" : Str)) = false := by decide)
    (hcd : (x == ("__classdict__" : Str)) = false := by decide) : DE X W (.Subscript (.Name x px) b pos) (mIxE i fb) := by
  refine PE.imp (pe_ix ix_seq (pe_var (i := i) hN hv hd hcd) hb hs) fun σ H Q ⟨HF, L, ρ, S, R, p⟩ => ?_
  unfold mIxE at p
  split at p
  · rename_i n hn
    obtain ⟨v, hv1, pa, hp1, hp2⟩ := R.env i _ hn
    subst hp2
    refine ⟨_, hv1, HF, L, ρ, S, R, Post.bind p fun y S1 w H1 HF1 L1 e1 st1 R1 r1 p1 => ?_⟩
    split at p1
    · rename_i k ds hS
      cases r1
      obtain ⟨d, ed, p2⟩ := p1.lift
      obtain ⟨q1, vs, q2, q3⟩ := R1.cell n pa _ (st1.lget hp1) hS
      obtain ⟨u, e2, e3⟩ := q3.atI ed
      exact .inl ⟨_, _, _, _, rfl, rfl, SqL.of q2, e2, p2.done R1 .no e3⟩
    · exact p1.elim
  · rename_i ds hn
    obtain ⟨v, hv1, r0⟩ := R.env i _ hn
    have r0 : Rep (gd X W) HF v (.lst ds) := r0
    refine ⟨_, hv1, HF, L, ρ, S, R, Post.bind p fun y S1 w H1 HF1 L1 e1 st1 R1 r1 p1 => ?_⟩
    split at p1
    · cases r1
      obtain ⟨d, ed, p2⟩ := p1.lift
      cases r0 with
      | lst h1 h2 =>
        obtain ⟨u, e2, e3⟩ := h2.atI ed
        exact .inl ⟨_, _, _, _, rfl, rfl, SqL.of (R1.sub _ _ (st1.fro _ _ h1)), e2, p2.done R1 .no (Rep.mono st1.fro e3)⟩
    · exact p1.elim
  · exact p.elim
end
end DL

/-! the layer of data: bits -/
namespace DL
open PySem PySem.Spec PyProof.Rows L2
section
variable {X : Cx} {W : WD}
def gShl : D → D → Option D
  | .int i, .int j => if 0 ≤ j ∧ j ≤ 1000000 ∧ i.natAbs < 18446744073709551616 then some (.int (i * 2 ^ j.toNat)) else none
  | _, _ => none
theorem bShl : BOp X W .LShift gShl := by
  refine ⟨_, op_shl, fun x y v w H HF d Q sub rx ry e q => ?_⟩
  unfold gShl at e
  split at e
  · split at e
    · rename_i i j hz
      cases rx; cases ry; cases e
      exact ⟨_, _, rfl, rfl, ⟨hz.1, hz.2.1, by omega⟩, q _ _ _ .no (.int _)⟩
    · cases e
  · cases e
def gShr : D → D → Option D
  | .int i, .int j => if 0 ≤ j then some (.int (i / 2 ^ j.toNat)) else none
  | _, _ => none
theorem bShr : BOp X W .RShift gShr := by
  refine ⟨_, op_shr, fun x y v w H HF d Q sub rx ry e q => ?_⟩
  unfold gShr at e
  split at e
  · split at e
    · rename_i i j hz
      cases rx; cases ry; cases e
      exact ⟨_, _, rfl, rfl, hz, q _ _ _ .no (.int _)⟩
    · cases e
  · cases e
def gBits (f : Int → Int → Int) : D → D → Option D
  | .int i, .int j => some (.int (f i j))
  | _, _ => none
theorem bBits {op : Operator} {f : Int → Int → Int} (h : OpR X (binaryOp op) (rI0 fun i j => .int (f i j))) : BOp X W op (gBits f) := by
  refine ⟨_, h, fun x y v w H HF d Q sub rx ry e q => ?_⟩
  unfold gBits at e
  split at e
  · cases rx; cases ry; cases e
    exact ⟨_, _, rfl, rfl, q _ _ _ .no (.int _)⟩
  · cases e
abbrev gBand := gBits Builtin.bitAnd
abbrev gBor := gBits Builtin.bitOr
abbrev gBxor := gBits Builtin.bitXor
theorem bBand : BOp X W .BitAnd gBand := bBits op_and
theorem bBor : BOp X W .BitOr gBor := bBits op_or
theorem bBxor : BOp X W .BitXor gBxor := bBits op_xor
theorem ip_bits {op : Operator} {f : Int → Int → Int} (h : OpR X (inplaceOp op) (rI0 fun i j => .int (f i j))) : PIp X op (ipI f) := fun pins s σ H x y v u Q I r1 r2 q => by
  obtain ⟨i, j, rfl, rfl, q⟩ := q
  exact h pins s σ H _ _ _ _ Q I r1 r2 ⟨i, j, rfl, rfl, q⟩
theorem ip_band : PIp X .BitAnd (ipI Builtin.bitAnd) := ip_bits iop_and
theorem ip_bor : PIp X .BitOr (ipI Builtin.bitOr) := ip_bits iop_or
theorem ip_bxor : PIp X .BitXor (ipI Builtin.bitXor) := ip_bits iop_xor
end
end DL

/-! the layer of data: min(xs), max(xs) of values that can be compared place by place -/
namespace DL
open PySem PySem.W PySem.Spec PyProof.Rows L2
/-- x < y -/
def dlt (x y : D) : Bool := dataLt x.py y.py
/-- all of them can be compared -/
def cmpAll (ds : List D) : Bool := (ds.all fun x => ds.all fun y => alike x.py y.py) && ds.all (fun x => match x with | .non => false | _ => true) && (D.lst ds).okd
theorem cmpAll_of {ds : List D} (h : cmpAll ds = true) : AlikeAll (D.pys ds) ∧ PyData.canLayAll0 (D.pys ds) = true ∧ PyData.depthAll (D.pys ds) ≤ 63 := by
  unfold cmpAll at h
  rw [Bool.and_eq_true, Bool.and_eq_true, List.all_eq_true, List.all_eq_true] at h
  obtain ⟨⟨h1, h2⟩, h3⟩ := h
  have h3 : (PyData.canLayAll0 (D.pys ds) && decide (PyData.depthAll (D.pys ds) + 1 ≤ 64)) = true := h3
  rw [Bool.and_eq_true, decide_eq_true_eq] at h3
  refine ⟨⟨fun x hx y hy => ?_, fun x hx => ?_⟩, h3.1, by omega⟩
  · rw [D.pys_map] at hx hy
    obtain ⟨a, ha, rfl⟩ := List.mem_map.mp hx
    obtain ⟨b, hb, rfl⟩ := List.mem_map.mp hy
    exact List.all_eq_true.mp (h1 a ha) b hb
  · rw [D.pys_map] at hx
    obtain ⟨a, ha, rfl⟩ := List.mem_map.mp hx
    have := h2 a ha
    cases a with
    | non => cases this
    | _ => exact fun z => nomatch z
section
variable {X : Cx} {W : WD}
/-- the place of the best one -/
def bestAt (f : D → D → Bool) (d : D) (ds : List D) : Nat := argBest (fun i j => f ((d :: ds).getD i .non) ((d :: ds).getD j .non)) ds.length
def foldB (f : D → D → Bool) (d : D) (ds : List D) : D := ds.foldl (fun a y => if f y a = true then y else a) d
theorem bestAt_is (f : D → D → Bool) (d : D) (ds : List D) : (d :: ds)[bestAt f d ds]? = some (foldB f d ds) := by
  obtain ⟨h1, h2⟩ := argBest_fold f .non d ds ds.length (Nat.le_refl _)
  have hl : bestAt f d ds < (d :: ds).length := by rw [List.length_cons]; exact Nat.lt_succ_of_le h1
  rw [List.take_length] at h2
  rw [List.getElem?_eq_getElem hl]
  congr 1
  have h2 : (d :: ds).getD (bestAt f d ds) .non = foldB f d ds := h2
  rw [← h2, List.getD_eq_getElem?_getD, List.getElem?_eq_getElem hl]
  rfl
def rBest (K : PySem.W.Frag) (f : PyData → PyData → Bool) : List V → Hp → VK → Prop := fun vs H Q => ∃ (a : Addr) (xs : List V) (es : List PyData), vs = [V.ref a] ∧ (SqL K H a xs ∨ SqT K H a xs) ∧ DpAll K H xs es ∧ AlikeAll es ∧ PyData.depthAll es ≤ 63 ∧ 0 < es.length ∧
  ∀ v, xs[argBest (fun i j => f (es.getD i .none) (es.getD j .none)) (es.length - 1)]? = some v → Q v H
theorem pick_val {xs : List V} {its : List Value} (r : Vals xs its) {j : Nat} {u : Value} (h : its.toArray[j]? = some u) : ∃ v, xs[j]? = some v ∧ RelV v u := by
  have h : its[j]? = some u := by simpa using h
  have hj : j < xs.length := by rw [r.length]; exact (List.getElem?_eq_some_iff.mp h).1
  obtain ⟨u', e1, e2⟩ := Vals.get r (List.getElem?_eq_getElem hj)
  rw [h] at e1
  cases e1
  exact ⟨_, List.getElem?_eq_getElem hj, e2⟩
theorem cr_minA (hc : X.calm = true) (hu : X.A.units + 65 < cLine) : CallR X (.builtin "min") (rBest X.K fun x y => dataLt x y) := by
  intro pins s σ H vs us Q I r h
  obtain ⟨a, xs, es, rfl, hs, hd, ha, hdep, hn, q⟩ := h
  obtain rfl := Vals.ref1 r
  have fin : ∀ (its : List Value), Vals xs its → ∀ (as : List Addr), ReadsAll s.heap its.toArray.toList es as → ∀ (v : Value) (s' : Shared) (s2 : Shared) (o : Obj), s2 = { s with heap := s.heap.push o } → its.toArray[argBest (fun i j => dataLt (es.getD i .none) (es.getD j .none)) (its.toArray.size - 1)]? = some v → Moved [s.heap.objs.size] (fun a b => b = a) s2 s' → EP X pins σ Q v s' := fun its rv as hr v s' s2 o e hP m => by
    obtain ⟨h', tk, rfl, hk⟩ := moved_old e rfl m
    rw [readsAll_len hr] at hP
    obtain ⟨z, h1, h2⟩ := pick_val rv hP
    exact ⟨z, H, I.kept hk, h2, q z h1⟩
  rcases hs with hs | hs
  · obtain ⟨its, rv, hl, _⟩ := I.list hs
    obtain ⟨as, hr⟩ := Dp.readsAll I es xs its hd rv
    have hr : ReadsAll s.heap its.toArray.toList es as := by simpa using hr
    refine call_min_walkH (iter_listW (A := X.A.in1) (I.ok.hd hc) hl.isList fun s₂ e Wk st hfp hw hk => ?_)
    exact ⟨_, _, _, _, _, _, _, s.heap, _, rfl, Wk, st, hfp, by rw [readsAll_len hr]; exact hn, hw, hk, cmpIn_lt hr ha (by show X.A.units + 1 + _ < cLine; omega), fun v s' hP m => fin its rv as hr v s' s₂ _ e hP m⟩
  · obtain ⟨its, rv, hl, _⟩ := I.tuple hs
    obtain ⟨as, hr⟩ := Dp.readsAll I es xs its hd rv
    have hr : ReadsAll s.heap its.toArray.toList es as := by simpa using hr
    refine call_min_walkH (iter_tupleW (A := X.A.in1) (I.ok.hd hc) (show s.heap.IsTuple a its.toArray from hl) fun s₂ e Wk st hfp hw hk => ?_)
    exact ⟨_, _, _, _, _, _, _, s.heap, _, rfl, Wk, st, hfp, by rw [readsAll_len hr]; exact hn, hw, hk, cmpIn_lt hr ha (by show X.A.units + 1 + _ < cLine; omega), fun v s' hP m => fin its rv as hr v s' s₂ _ e hP m⟩
theorem cr_maxA (hc : X.calm = true) (hu : X.A.units + 65 < cLine) : CallR X (.builtin "max") (rBest X.K fun x y => dataLt y x) := by
  intro pins s σ H vs us Q I r h
  obtain ⟨a, xs, es, rfl, hs, hd, ha, hdep, hn, q⟩ := h
  obtain rfl := Vals.ref1 r
  have fin : ∀ (its : List Value), Vals xs its → ∀ (as : List Addr), ReadsAll s.heap its.toArray.toList es as → ∀ (v : Value) (s' : Shared) (s2 : Shared) (o : Obj), s2 = { s with heap := s.heap.push o } → its.toArray[argBest (fun i j => dataLt (es.getD j .none) (es.getD i .none)) (its.toArray.size - 1)]? = some v → Moved [s.heap.objs.size] (fun a b => b = a) s2 s' → EP X pins σ Q v s' := fun its rv as hr v s' s2 o e hP m => by
    obtain ⟨h', tk, rfl, hk⟩ := moved_old e rfl m
    rw [readsAll_len hr] at hP
    obtain ⟨z, h1, h2⟩ := pick_val rv hP
    exact ⟨z, H, I.kept hk, h2, q z h1⟩
  rcases hs with hs | hs
  · obtain ⟨its, rv, hl, _⟩ := I.list hs
    obtain ⟨as, hr⟩ := Dp.readsAll I es xs its hd rv
    have hr : ReadsAll s.heap its.toArray.toList es as := by simpa using hr
    refine call_max_walkH (iter_listW (A := X.A.in1) (I.ok.hd hc) hl.isList fun s₂ e Wk st hfp hw hk => ?_)
    exact ⟨_, _, _, _, _, _, _, s.heap, _, rfl, Wk, st, hfp, by rw [readsAll_len hr]; exact hn, hw, hk, cmpIn_gt hr ha (by show X.A.units + 1 + _ < cLine; omega), fun v s' hP m => fin its rv as hr v s' s₂ _ e hP m⟩
  · obtain ⟨its, rv, hl, _⟩ := I.tuple hs
    obtain ⟨as, hr⟩ := Dp.readsAll I es xs its hd rv
    have hr : ReadsAll s.heap its.toArray.toList es as := by simpa using hr
    refine call_max_walkH (iter_tupleW (A := X.A.in1) (I.ok.hd hc) (show s.heap.IsTuple a its.toArray from hl) fun s₂ e Wk st hfp hw hk => ?_)
    exact ⟨_, _, _, _, _, _, _, s.heap, _, rfl, Wk, st, hfp, by rw [readsAll_len hr]; exact hn, hw, hk, cmpIn_gt hr ha (by show X.A.units + 1 + _ < cLine; omega), fun v s' hP m => fin its rv as hr v s' s₂ _ e hP m⟩
def gBest (f : D → D → Bool) : List D → Option D
  | [.lst (d :: ds)] => if cmpAll (d :: ds) = true then some (foldB f d ds) else none
  | [.tup (d :: ds)] => if cmpAll (d :: ds) = true then some (foldB f d ds) else none
  | _ => none
abbrev gMinA := gBest dlt
abbrev gMaxA := gBest fun x y => dlt y x
theorem pys_getD : ∀ (ds : List D) (i : Nat), (D.pys ds).getD i .none = (ds.getD i .non).py
  | [], _ => rfl
  | d :: ds, 0 => rfl
  | d :: ds, i + 1 => pys_getD ds i
theorem pys_len (ds : List D) : (D.pys ds).length = ds.length := by rw [D.pys_map, List.length_map]
theorem biBest {b : String} {fp : PyData → PyData → Bool} {f : D → D → Bool} (hf : ∀ x y, f x y = fp x.py y.py) (hr : CallR X (.builtin b) (rBest X.K fp)) : BiO X W (.builtin b) (gBest f) := by
  refine ⟨_, hr, fun xs vs H HF z Q sub r e q => ?_⟩
  have go : ∀ (a : Addr) (us : List V) (d : D) (ds : List D), (SqL X.K HF a us ∨ SqE X.K HF a us) → Reps (gd X W) HF us (d :: ds) → cmpAll (d :: ds) = true → z = foldB f d ds → rBest X.K fp [V.ref a] H Q := fun a us d ds hs hr hb hz => by
    subst hz
    obtain ⟨c1, c2, c3⟩ := cmpAll_of hb
    refine ⟨a, us, D.pys (d :: ds), rfl, ?_, Reps.dp (d :: ds) (hr.mono sub) c2, c1, c3, by rw [pys_len]; simp, fun v hv => ?_⟩
    · rcases hs with h | h
      · rcases h with h | h
        · exact .inl (.inl (Rd.mono sub h))
        · exact .inl (.inr h)
      · exact .inr (SqT.mono sub h)
    · have ea : argBest (fun i j => fp ((D.pys (d :: ds)).getD i .none) ((D.pys (d :: ds)).getD j .none)) ((D.pys (d :: ds)).length - 1) = bestAt f d ds := by
        unfold bestAt
        rw [pys_len]
        simp only [pys_getD, hf]
        rfl
      rw [ea] at hv
      obtain ⟨w, e1, e2⟩ := hr.get (bestAt_is f d ds)
      rw [hv] at e1
      cases e1
      exact q _ _ _ .no e2
  unfold gBest at e
  split at e
  · split at e
    · cases e
      obtain ⟨v, rfl, h⟩ := r.one
      cases h with
      | lst h1 h2 => exact go _ _ _ _ (.inl (SqL.of h1)) h2 (by assumption) rfl
    · cases e
  · split at e
    · cases e
      obtain ⟨v, rfl, h⟩ := r.one
      cases h with
      | tup h1 h2 => exact go _ _ _ _ (.inr h1) h2 (by assumption) rfl
    · cases e
  · cases e
theorem biMinA (hc : X.calm = true) (hu : X.A.units + 65 < cLine) : BiO X W (.builtin "min") gMinA := biBest (fun _ _ => rfl) (cr_minA hc hu)
theorem biMaxA (hc : X.calm = true) (hu : X.A.units + 65 < cLine) : BiO X W (.builtin "max") gMaxA := biBest (fun _ _ => rfl) (cr_maxA hc hu)
end
/-! the order -/
theorem dlt_int (a b : Int) : dlt (.int a) (.int b) = decide (a < b) := by
  show PyProof.Rows.lexLt itemOrd [.inl a] [.inl b] = _
  rw [lex_cons]
  show (decide (a < b) || (!decide (b < a) && false)) = _
  simp
theorem dlt_nil (ys : List D) : dlt (.tup []) (.tup ys) = !ys.isEmpty := by
  cases ys with
  | nil => show PyProof.Rows.lexLt itemOrd [.inl 0] [.inl 0] = _; rw [lex_cons]; rfl
  | cons y ys => show PyProof.Rows.lexLt itemOrd [.inl 0] (.inl 1 :: (keyToks y.py ++ keyToksAll (D.pys ys))) = _; rw [lex_cons]; rfl
theorem dlt_cons {x y : D} (xs ys : List D) (h : alike x.py y.py = true) : dlt (.tup (x :: xs)) (.tup (y :: ys)) = if deq x y = true then dlt (.tup xs) (.tup ys) else dlt x y := by
  show PyProof.Rows.lexLt itemOrd (keyToksAll (x.py :: D.pys xs)) (keyToksAll (y.py :: D.pys ys)) = _
  by_cases e : deq x y = true
  · rw [if_pos e]; exact dataLt_all_yes h e
  · rw [if_neg e]; exact dataLt_all_no h (by cases q : deq x y with | false => exact q | true => exact absurd q e)
theorem dlt_irrefl (x : D) : dlt x x = false := lex_irrefl (O := itemOrd) _
theorem dlt_negTrans {x y z : D} (h1 : dlt x y = false) (h2 : dlt y z = false) : dlt x z = false := by
  cases q : dlt x z with
  | false => rfl
  | true =>
    rcases (listOrd itemOrd).negTrans (keyToks x.py) (keyToks y.py) (keyToks z.py) q with h | h
    · exact absurd (h.symm.trans h1) (by simp)
    · exact absurd (h.symm.trans h2) (by simp)
/-- the least one is one of them, and none is less -/
theorem foldB_least : ∀ (ds : List D) (d : D), foldB dlt d ds ∈ d :: ds ∧ ∀ x ∈ d :: ds, dlt x (foldB dlt d ds) = false
  | [], d => ⟨List.mem_cons_self, fun x hx => by
    obtain rfl : x = d := by simpa using hx
    exact dlt_irrefl x⟩
  | y :: ds, d => by
    have e : foldB dlt d (y :: ds) = foldB dlt (if dlt y d = true then y else d) ds := rfl
    obtain ⟨h1, h2⟩ := foldB_least ds (if dlt y d = true then y else d)
    rw [e]
    have h0 := h2 _ List.mem_cons_self
    by_cases c : dlt y d = true
    · rw [if_pos c] at h0 h1 h2 ⊢
      refine ⟨List.mem_cons_of_mem _ h1, fun x hx => ?_⟩
      rcases List.mem_cons.mp hx with rfl | hx
      · refine dlt_negTrans (y := y) ?_ h0
        cases k : dlt x y with
        | false => rfl
        | true => exact absurd ((listOrd itemOrd).trans _ _ _ k c) (by rw [show (listOrd itemOrd).blt (keyToks x.py) (keyToks x.py) = false from dlt_irrefl x]; simp)
      · exact h2 x hx
    · rw [if_neg c] at h0 h1 h2 ⊢
      refine ⟨?_, fun x hx => ?_⟩
      · rcases List.mem_cons.mp h1 with h | h
        · rw [h]; exact List.mem_cons_self
        · exact List.mem_cons_of_mem _ (List.mem_cons_of_mem _ h)
      · rcases List.mem_cons.mp hx with rfl | hx
        · exact h0
        · rcases List.mem_cons.mp hx with rfl | hx
          · exact dlt_negTrans (by simpa using c) h0
          · exact h2 x (List.mem_cons_of_mem _ hx)
end DL

/-! the layer of data: a cell read as a value while an expression that changes nothing is worked out -/
namespace DL
open PySem PySem.Spec PyProof.Rows L2
mutual
/-- no list in it -/
def D.tlike : D → Bool
  | .tup ds => D.tlikes ds
  | .non => true
  | .bl _ => true
  | .int _ => true
  | .str _ => true
  | _ => false
def D.tlikes : List D → Bool
  | [] => true
  | d :: ds => d.tlike && D.tlikes ds
end
def Cell.tlike : Cell → Bool
  | .lst ds => D.tlikes ds
  | .dk kvs => D.tlikes (kvs.map (·.2))
  | .dt kvs => D.tlikes (kvs.map (·.2))
mutual
theorem Rep.less {G : Gd} {H H' : Hp} (k : ∀ b o, (∀ xs, o ≠ HO.lst xs) → H b = some o → H' b = some o) : ∀ {d : D} {v : V}, d.tlike = true → Rep G H v d → Rep G H' v d
  | .non, _, _, h => by cases h; exact .non
  | .bl _, _, _, h => by cases h; exact .bl _
  | .int _, _, _, h => by cases h; exact .int _
  | .str _, _, _, h => by cases h; exact .str _
  | .tup ds, _, c, h => by
    cases h with
    | tup hs hr =>
      refine .tup ?_ (Reps.less k c hr)
      rcases hs with hs | hs
      · exact .inl (k _ _ (fun _ z => by cases z) hs)
      · exact .inr hs
  | .lst _, _, c, _ => by cases c
  | .rol _, _, c, _ => by cases c
  | .fn _, _, c, _ => by cases c
  | .rng _ _, _, c, _ => by cases c
  | .dck _ _, _, c, _ => by cases c
  | .dct _ _, _, c, _ => by cases c
theorem Reps.less {G : Gd} {H H' : Hp} (k : ∀ b o, (∀ xs, o ≠ HO.lst xs) → H b = some o → H' b = some o) : ∀ {ds : List D} {vs : List V}, D.tlikes ds = true → Reps G H vs ds → Reps G H' vs ds
  | [], _, _, h => by cases h; exact .nil
  | d :: ds, _, c, h => by
    have c : (d.tlike && D.tlikes ds) = true := c
    rw [Bool.and_eq_true] at c
    cases h with
    | cons h1 h2 => exact .cons (Rep.less k c.1 h1) (Reps.less k c.2 h2)
end
theorem CellAt.less {G : Gd} {H HF HF' : Hp} (k : ∀ b o, (∀ xs, o ≠ HO.lst xs) → HF b = some o → HF' b = some o) {a : Addr} {c : Cell} (t : c.tlike = true) (h : CellAt G H HF a c) : CellAt G H HF' a c := by
  cases c with
  | lst ds =>
    obtain ⟨vs, h1, h2⟩ := h
    exact ⟨vs, h1, h2.less k t⟩
  | dk kvs =>
    obtain ⟨us, h1, h2, h3⟩ := h
    exact ⟨us, h1, h2, h3.less k t⟩
  | dt kvs =>
    obtain ⟨us, h1, h2, h3⟩ := h
    exact ⟨us, h1, h2, h3.less k t⟩
/-- the other cells hold no lists of lists -/
def Plain (S : Store) (n : Nat) : Prop := ∀ k c, k ≠ n → S[k]? = some (some c) → c.tlike = true
noncomputable def mLend (i : Nat) (f : DEn) : DEn := fun ρ S => match ρ[i]? with
  | some (some (.cel n)) => match S[n]? with
    | some (some (.lst ds)) => match f (ρ.set i (some (.v (.lst ds)))) (S.set n none) with
      | .ok d S1 => @ite _ (S1 = S.set n none ∧ d.tlike = true ∧ Plain S n) (Classical.propDecidable _) (.ok d S) .bad
      | _ => .bad
    | _ => .bad
  | _ => .bad
theorem mLend_ok {i n : Nat} {f : DEn} {ρ : DL.Env} {S : Store} {ds : List D} {d : D} (h1 : ρ[i]? = some (some (.cel n))) (h2 : S[n]? = some (some (.lst ds))) (h3 : f (ρ.set i (some (.v (.lst ds)))) (S.set n none) = .ok d (S.set n none)) (h4 : d.tlike = true) (h5 : Plain S n) : mLend i f ρ S = .ok d S := by
  unfold mLend
  rw [h1]
  dsimp only
  rw [h2]
  dsimp only
  rw [h3]
  dsimp only
  rw [if_pos ⟨rfl, h4, h5⟩]
section
variable {X : Cx} {W : WD} {e : Expr} {f : DEn}
theorem xlend (i : Nat) (h : DE X W e f) : DE X W e (mLend i f) :=
  PE.imp h fun σ H Q ⟨HF, L, ρ, S, R, p⟩ => by
    unfold mLend at p
    split at p
    · rename_i n hn
      split at p
      · rename_i ds hS
        obtain ⟨u, hu, q, hq, rfl⟩ := R.env i _ hn
        obtain ⟨hF, vs, hv, hr⟩ := R.cell n q _ hq hS
        have hn' : n < L.length := (List.getElem?_eq_some_iff.mp hq).1
        have mono0 : Same HF (upd HF q (.lst vs)) := same_upd hF
        let HB : Hp := upd HF q (.lst vs)
        have bq : HB q = some (.lst vs) := upd_same
        have bne : ∀ {b}, b ≠ q → HB b = HF b := fun h => upd_ne h
        let S0 : Store := S.set n none
        let ρ0 : DL.Env := ρ.set i (some (.v (.lst ds)))
        have R0 : Rel (gd X W) H HB L σ ρ0 S0 := by
          refine ⟨fun b u hb => ?_, R.nd, by simpa [S0] using R.sl, R.liv, R.tab.up (fun _ _ e => e) mono0, nft_upd R.nft (fun _ h => by cases h), fun k b c' k1 k2 => ?_, by simpa [ρ0] using R.el, fun j x hx => ?_⟩
          · by_cases hb' : b = q
            · rw [hb', bq] at hb; cases hb; rw [hb']; exact hv
            · rw [bne hb'] at hb; exact R.sub b u hb
          · by_cases hk : k = n
            · subst hk
              rw [List.getElem?_set_self (by rw [R.sl]; exact hn')] at k2
              cases k2
            · rw [List.getElem?_set_ne (Ne.symm hk)] at k2
              obtain ⟨q1, q2⟩ := R.cell k b c' k1 k2
              have ne : b ≠ q := fun z => hk (nodup_get R.nd (by rw [← z]; exact k1) hq)
              exact ⟨by rw [bne ne]; exact q1, q2.up rfl mono0⟩
          · by_cases hj : j = i
            · subst hj
              rw [List.getElem?_set_self (List.getElem?_eq_some_iff.mp hn).1] at hx
              cases hx
              exact ⟨_, hu, .lst upd_same (hr.mono mono0)⟩
            · rw [List.getElem?_set_ne (Ne.symm hj)] at hx
              obtain ⟨v, q1, q2⟩ := R.env j x hx
              refine ⟨v, q1, ?_⟩
              cases x with
              | v d => exact Rep.mono mono0 q2
              | cel n => exact q2
              | exn x =>
                obtain ⟨b, cls, dd, k1, k2, k3⟩ := q2
                exact ⟨b, cls, dd, k1, k2, k3.mono mono0⟩
              | lam ws ds => exact RepLam.mono mono0 q2
        refine ⟨HB, L, ρ0, S0, R0, ?_⟩
        split at p
        · rename_i d S1 ef
          by_cases hc : S1 = S.set n none ∧ d.tlike = true ∧ Plain S n
          · rw [if_pos hc] at p
            obtain ⟨rfl, ht, hp⟩ := hc
            rw [show f ρ0 S0 = .ok d (S.set n none) from ef]
            intro v H' HF' L' st R' rv
            have el : L' = L := by
              obtain ⟨M, eM, _⟩ := st.ext
              have a1 := R'.sl
              have a2 := R.sl
              rw [List.length_set, a2, eM, List.length_append] at a1
              have : M = [] := List.eq_nil_of_length_eq_zero (by omega)
              rw [eM, this, List.append_nil]
            subst el
            have hq' : HF' q = some (.lst vs) := st.fro _ _ bq
            let HZ : Hp := fun b => if b = q then none else HF' b
            have zq : HZ q = none := if_pos rfl
            have zne : ∀ {b}, b ≠ q → HZ b = HF' b := fun h => if_neg h
            have low : ∀ b o, (∀ xs, o ≠ HO.lst xs) → HF' b = some o → HZ b = some o := fun b o ho hb => by
              have : b ≠ q := fun z => by subst z; rw [hq'] at hb; cases hb; exact ho _ rfl
              rw [zne this]; exact hb
            have fro : Same HF HZ := fun b o hb => by
              have : b ≠ q := fun z => by subst z; rw [hF] at hb; cases hb
              rw [zne this]
              exact st.fro _ _ (by rw [bne this]; exact hb)
            have sub : Same HZ H' := fun b o hb => by
              by_cases h : b = q
              · subst h; rw [zq] at hb; cases hb
              · rw [zne h] at hb; exact R'.sub b o hb
            have stZ : Step H HF L' H' HZ L' := by
              refine ⟨st.keep, st.nn, fro, fun a o ha hf hm ho => ?_, ⟨[], by simp, by simp⟩⟩
              have : a ≠ q := fun z => ha (by rw [z]; exact List.mem_of_getElem? hq)
              rw [zne this]
              exact st.new a o ha (by rw [bne this]; exact hf) hm ho
            refine p v H' HZ L' stZ ⟨sub, R'.nd, R.sl, R'.liv, fun t ht => ?_, fun b ps hb => ?_, fun k a c k1 k2 => ?_, R.el, fun j x hx => ?_⟩ (rv.less low ht)
            · obtain ⟨ps, q1, q2, q3⟩ := R'.tab t ht
              refine ⟨ps, q1, q2, fun pos cv hcv => ?_⟩
              obtain ⟨c, e1, e2⟩ := q3 pos cv hcv
              exact ⟨c, e1, low _ _ (fun xs z => by cases z) e2⟩
            · by_cases h : b = q
              · subst h; rw [zq] at hb; cases hb
              · rw [zne h] at hb; exact R'.nft b ps hb
            · by_cases hk : k = n
              · subst hk
                rw [hS] at k2
                cases k2
                rw [hq] at k1
                cases k1
                exact ⟨zq, vs, R'.sub _ _ hq', hr.mono fro⟩
              · obtain ⟨q1, q2⟩ := R'.cell k a c k1 (by rw [List.getElem?_set_ne (Ne.symm hk)]; exact k2)
                have ne : a ≠ q := fun z => by rw [z, hq'] at q1; cases q1
                exact ⟨by rw [zne ne]; exact q1, q2.less low (hp k c hk k2)⟩
            · obtain ⟨v, q1, q2⟩ := R.env j x hx
              exact ⟨v, q1, RepE.mono stZ q2⟩
          · rw [if_neg hc] at p
            exact p.elim
        · exact p.elim
      · exact p.elim
    · exact p.elim
end
end DL

/-! the layer of data: x in t, t a tuple or a list of any values -/
namespace DL
open PySem PySem.Spec PyProof.Rows L2
section
variable {X : Cx} {W : WD}
/-- x in y, of data -/
def rInT (K : PySem.W.Frag) (neg : Bool) : R2 := fun x y H Q => ∃ d ds, Dp K H x d ∧ (Dp K H y (.tuple ds) ∨ Dp K H y (.list ds)) ∧ SeqAt.shaped d = true ∧ PyData.canLayAll0 ds = true ∧ Q (.bl (neg != ds.any fun z => PyData.eqv z d)) H
theorem op_inT (hu : X.A.units + 65 < cLine) : OpR X (compareOp .In) (rInT X.K false) := by
  intro pins s σ H x y v u Q I rx ry h
  obtain ⟨d, ds, hd, he, sd, se, q⟩ := h
  obtain ⟨as, r1⟩ := Dp.reads I d x v hd rx
  rw [Bool.false_bne] at q
  rcases he with he | he
  · obtain ⟨bs, r2⟩ := Dp.reads I (.tuple ds) y u he ry
    exact SeqAt.in_tuple_reads r2 r1 se (SeqAt.canLay_of_shaped sd) (room_in_shaped sd hu) ⟨.bl _, H, I, rfl, q⟩
  · obtain ⟨bs, r2⟩ := Dp.reads I (.list ds) y u he ry
    exact SeqAt.in_list_reads r2 r1 se (SeqAt.canLay_of_shaped sd) (room_in_shaped sd hu) ⟨.bl _, H, I, rfl, q⟩
theorem op_notInT (hu : X.A.units + 65 < cLine) : OpR X (compareOp .NotIn) (rInT X.K true) := by
  intro pins s σ H x y v u Q I rx ry h
  obtain ⟨d, ds, hd, he, sd, se, q⟩ := h
  obtain ⟨as, r1⟩ := Dp.reads I d x v hd rx
  rw [Bool.true_bne] at q
  rcases he with he | he
  · obtain ⟨bs, r2⟩ := Dp.reads I (.tuple ds) y u he ry
    exact SeqAt.notIn_tuple_reads r2 r1 se (SeqAt.canLay_of_shaped sd) (room_in_shaped sd hu) ⟨.bl _, H, I, rfl, q⟩
  · obtain ⟨bs, r2⟩ := Dp.reads I (.list ds) y u he ry
    exact SeqAt.notIn_list_reads r2 r1 se (SeqAt.canLay_of_shaped sd) (room_in_shaped sd hu) ⟨.bl _, H, I, rfl, q⟩
def D.seq : D → Option (List D)
  | .tup ds => some ds
  | .lst ds => some ds
  | _ => none
def gInD : D → D → Option Bool := fun x y => match y.seq with
  | some ds => if x.okd = true ∧ y.okd = true then some (ds.any fun z => deq z x) else none
  | none => none
def gNotInD : D → D → Option Bool := fun x y => (gInD x y).map (!·)
theorem rep_seq {G : Gd} {H HF : Hp} {y : D} {v : V} {ds : List D} (sub : Same HF H) (r : Rep G HF v y) (e : y.seq = some ds) (c : y.okd = true) : (Dp G.K H v (.tuple (D.pys ds)) ∨ Dp G.K H v (.list (D.pys ds))) ∧ PyData.canLayAll0 (D.pys ds) = true := by
  have d := r.dps sub c
  have c : (y.py.canLay0 && decide (y.py.depth ≤ 64)) = true := c
  rw [Bool.and_eq_true] at c
  cases y with
  | tup es => cases e; exact ⟨.inl d, c.1⟩
  | lst es => cases e; exact ⟨.inr d, c.1⟩
  | _ => cases e
theorem cInD (hu : X.A.units + 65 < cLine) : CmpO X W .In gInD := by
  refine ⟨_, op_inT hu, fun x y v w H HF b Q sub rx ry e q => ?_⟩
  unfold gInD at e
  split at e
  · rename_i ds es
    split at e
    · rename_i hc
      cases e
      obtain ⟨h1, h2⟩ := rep_seq sub ry es hc.2
      exact ⟨x.py, D.pys ds, rx.dps sub hc.1, h1, hc.1, h2, by rw [pys_any, Bool.false_bne]; exact q⟩
    · cases e
  · cases e
theorem cNotInD (hu : X.A.units + 65 < cLine) : CmpO X W .NotIn gNotInD := by
  refine ⟨_, op_notInT hu, fun x y v w H HF b Q sub rx ry e q => ?_⟩
  unfold gNotInD gInD at e
  split at e
  · rename_i ds es
    split at e
    · rename_i hc
      cases e
      obtain ⟨h1, h2⟩ := rep_seq sub ry es hc.2
      exact ⟨x.py, D.pys ds, rx.dps sub hc.1, h1, hc.1, h2, by rw [pys_any, Bool.true_bne]; exact q⟩
    · cases e
  · cases e
end
end DL

/-! the layer of data: dicts as cells: k in d, sorted(d), list(d), len(d), d.get(k, x) -/
namespace DL
open PySem PySem.Spec PyProof.Rows L2
section
variable {X : Cx} {W : WD} {pos : Pos} {a b c : Expr} {fa fb fc : DEn}
theorem E_val {G : Gd} {HF : Hp} {us : List (L2.Key × V)} {kvs : List KD} (E : Ents G HF us kvs) (k : L2.Key) : (valD kvs k).isSome = (valV us k).isSome := E.val.2
def mDkIn (neg : Bool) (i : Nat) (fa : DEn) : DTn := fun ρ S => (fa ρ S).bind fun y S1 => match ρ[i]? with
  | some (some (.cel n)) => match keyD y, S1[n]? with
    | some k, some (some (.dk kvs)) => .ok (Bool.xor neg (valD kvs k).isSome) S1
    | _, _ => .bad
  | _ => .bad
theorem tT.dkIn {neg : Bool} {i : Nat} {σ : L2.St} {H : Hp} {Q : Bool → Hp → Prop} {Qv : VK} (h : tT (gd X W) W (mDkIn neg i fa) σ H Q) (hq : ∀ b H', Q b H' → Qv (.bl b) H') :
    (fun σ H (Q : VK) => tD (gd X W) W fa σ H fun y H1 => tVar i σ H1 fun x H2 => ∃ a o, x = .ref a ∧ DGet H2 a y o ∧ Q (.bl (Bool.xor neg o.isSome)) H2) σ H Qv := by
  obtain ⟨HF, L, ρ, S, R, p⟩ := h
  refine ⟨HF, L, ρ, S, R, Post.bind p fun y S1 w H1 HF1 L1 e1 st1 R1 r1 p1 => ?_⟩
  split at p1
  · rename_i n hn
    split at p1
    · rename_i k kvs hk hS
      obtain ⟨v, hv1, pa, hp1, hp2⟩ := R1.env i _ hn
      subst hp2
      obtain ⟨q1, us, q2, q3, q4⟩ := R1.cell n pa _ hp1 hS
      have E : Ents (gd X W) HF1 us kvs := ⟨q3, q4⟩
      have ew := key_rep r1 hk
      subst ew
      refine ⟨_, hv1, pa, valV us k, rfl, DGet.k q2, ?_⟩
      rw [← E_val E k]
      exact hq _ H1 (p1.done R1 .no rfl)
    · exact p1.elim
  · exact p1.elim
theorem xdkIn (hu : X.A.units + 64 < cLine) (i : Nat) {x : Str} {px : Pos} (ha : DE X W a fa) (hm : behindInMarks .In (.Name x px) = false := by first | rfl | exact nomark _) (hN : X.N[i]? = some x := by rfl) (hv : Vis X.env.scope x := by first | exact Or.inl rfl | exact Or.inr (Or.inl rfl) | exact Or.inr (Or.inr rfl)) (hd : (x == ("__debug__" : Str)) = false := by decide)
    (hcd : (x == ("__classdict__" : Str)) = false := by decide) : DE X W (.Compare a [.In] [.Name x px] pos) (mB (mDkIn false i fa)) :=
  PE.imp (pe_cmp (pc_din (by omega) ha (pe_var (i := i) hN hv hd hcd)) hm) fun σ H Q h => by
    have := tT.dkIn (Qv := Q) (tD.mB h) fun _ _ q => q
    simp only [Bool.false_xor] at this
    exact this
theorem ydkIn (hu : X.A.units + 64 < cLine) (i : Nat) {x : Str} {px : Pos} (ha : DE X W a fa) (hm : behindInMarks .In (.Name x px) = false := by first | rfl | exact nomark _) (hN : X.N[i]? = some x := by rfl) (hv : Vis X.env.scope x := by first | exact Or.inl rfl | exact Or.inr (Or.inl rfl) | exact Or.inr (Or.inr rfl)) (hd : (x == ("__debug__" : Str)) = false := by decide)
    (hcd : (x == ("__classdict__" : Str)) = false := by decide) : DT X W (.Compare a [.In] [.Name x px] pos) (mDkIn false i fa) :=
  PT.imp (pt_cmp (pc_din (by omega) ha (pe_var (i := i) hN hv hd hcd)) hm) fun σ H Q h => by
    have := tT.dkIn (Qv := fun x H1 => ∃ c, x = .bl c ∧ Q c H1) h fun b _ q => ⟨b, rfl, q⟩
    simp only [Bool.false_xor] at this
    exact this
theorem xdkNotIn (hu : X.A.units + 64 < cLine) (i : Nat) {x : Str} {px : Pos} (ha : DE X W a fa) (hm : behindInMarks .NotIn (.Name x px) = false := by first | rfl | exact nomark _) (hN : X.N[i]? = some x := by rfl) (hv : Vis X.env.scope x := by first | exact Or.inl rfl | exact Or.inr (Or.inl rfl) | exact Or.inr (Or.inr rfl)) (hd : (x == ("__debug__" : Str)) = false := by decide)
    (hcd : (x == ("__classdict__" : Str)) = false := by decide) : DE X W (.Compare a [.NotIn] [.Name x px] pos) (mB (mDkIn true i fa)) :=
  PE.imp (pe_cmp (pc_dnotin (by omega) ha (pe_var (i := i) hN hv hd hcd)) hm) fun σ H Q h => by
    have := tT.dkIn (Qv := Q) (tD.mB h) fun _ _ q => q
    simp only [Bool.true_xor] at this
    exact this
theorem ydkNotIn (hu : X.A.units + 64 < cLine) (i : Nat) {x : Str} {px : Pos} (ha : DE X W a fa) (hm : behindInMarks .NotIn (.Name x px) = false := by first | rfl | exact nomark _) (hN : X.N[i]? = some x := by rfl) (hv : Vis X.env.scope x := by first | exact Or.inl rfl | exact Or.inr (Or.inl rfl) | exact Or.inr (Or.inr rfl)) (hd : (x == ("__debug__" : Str)) = false := by decide)
    (hcd : (x == ("__classdict__" : Str)) = false := by decide) : DT X W (.Compare a [.NotIn] [.Name x px] pos) (mDkIn true i fa) :=
  PT.imp (pt_cmp (pc_dnotin (by omega) ha (pe_var (i := i) hN hv hd hcd)) hm) fun σ H Q h => by
    have := tT.dkIn (Qv := fun x H1 => ∃ c, x = .bl c ∧ Q c H1) h fun b _ q => ⟨b, rfl, q⟩
    simp only [Bool.true_xor] at this
    exact this
def kD : L2.Key → D
  | .inl i => .int i
  | .inr x => .str x
theorem kD_rep {G : Gd} {HF : Hp} (k : L2.Key) : Rep G HF (kV k) (kD k) := by
  cases k with
  | inl i => exact .int i
  | inr x => exact .str x
theorem kDs_rep {G : Gd} {HF : Hp} : ∀ ks : List L2.Key, Reps G HF (ks.map kV) (ks.map kD)
  | [] => .nil
  | k :: ks => .cons (kD_rep k) (kDs_rep ks)
def intsK : List KD → Option (List Int)
  | [] => some []
  | (.inl k, _) :: r => (intsK r).map (k :: ·)
  | _ => none
theorem intsK_is : ∀ {kvs : List KD} {ks : List Int}, intsK kvs = some ks → kvs.map (·.1) = ks.map Sum.inl
  | [], ks, h => by cases h; rfl
  | (.inl k, d) :: r, ks, h => by
    unfold intsK at h
    cases e : intsK r with
    | none => rw [e] at h; cases h
    | some ls =>
      rw [e] at h
      cases h
      rw [List.map_cons, List.map_cons, intsK_is e]
  | (.inr k, d) :: r, ks, h => by unfold intsK at h; cases h
/-- sorted(d), keys that are ints -/
def mSrtDk (i : Nat) : DEn := fun ρ S => match ρ[i]? with
  | some (some (.cel n)) => match S[n]? with
    | some (some (.dk kvs)) => match intsK kvs with
      | some ks => if ks.length < 64 then .ok (.lst ((sortI ks).map D.int)) S else .bad
      | none => .bad
    | _ => .bad
  | _ => .bad
theorem xsrtDk (hc : X.calm = true) (i : Nat) {x : Str} {p px : Pos} (hm : X.mg "sorted" = none) (hv : bootBuiltins "sorted" = some (.builtin "sorted")) (hg : Gl X "sorted" := by rfl) (hN : X.N[i]? = some x := by rfl) (hvi : Vis X.env.scope x := by first | exact Or.inl rfl | exact Or.inr (Or.inl rfl) | exact Or.inr (Or.inr rfl)) (hd : (x == ("__debug__" : Str)) = false := by decide) (hcd : (x == ("__classdict__" : Str)) = false := by decide)
    (he : starEach [Expr.Name x px] X.env = (false, eval (.Name x px) X.env) :: starEach [] X.env := by rfl) (hpl : (backTo pos (starEach [] X.env)).any (·.1) = false := by rfl) : DE X W (.Call (.Name "sorted" p) [.Name x px] [] pos) (mSrtDk i) := by
  refine PE.imp (pe_callB (call_sortedDI hc) hg hm hv (pa_cons (pe_var (i := i) hN hvi hd hcd) pa_nil he) (by decide) (by decide) he hpl) fun σ H Q ⟨HF, L, ρ, S, R, p⟩ => ?_
  unfold mSrtDk at p
  split at p
  · rename_i n hn
    split at p
    · rename_i kvs hS
      split at p
      · rename_i ks ek
        split at p
        · rename_i hl
          obtain ⟨v, hv1, pa, hp1, hp2⟩ := R.env i _ hn
          subst hp2
          obtain ⟨q1, us, q2, q3, q4⟩ := R.cell n pa _ hp1 hS
          refine ⟨_, hv1, pa, us, ks, rfl, .inl q2, by rw [q3, intsK_is ek], hl, fun ys t ht hs hn' => ?_⟩
          have en : ys = sortI ks := PySem.W.ksm_same (ht.trans (sortI_perm ks).symm) hs (sortI_sorted ks)
          subst en
          exact p.done R (.new hn') (.lst upd_same (reps_ints _))
        · exact p.elim
      · exact p.elim
    · exact p.elim
  · exact p.elim
/-- list(d) -/
def mLstDk (i : Nat) : DEn := fun ρ S => match ρ[i]? with
  | some (some (.cel n)) => match S[n]? with
    | some (some (.dk kvs)) => .ok (.lst (kvs.map fun kv => kD kv.1)) S
    | _ => .bad
  | _ => .bad
theorem xlstDk (hc : X.calm = true) (i : Nat) {x : Str} {p px : Pos} (hm : X.mg "list" = none) (hg : Gl X "list" := by rfl) (hN : X.N[i]? = some x := by rfl) (hvi : Vis X.env.scope x := by first | exact Or.inl rfl | exact Or.inr (Or.inl rfl) | exact Or.inr (Or.inr rfl)) (hd : (x == ("__debug__" : Str)) = false := by decide) (hcd : (x == ("__classdict__" : Str)) = false := by decide)
    (he : starEach [Expr.Name x px] X.env = (false, eval (.Name x px) X.env) :: starEach [] X.env := by rfl) (hpl : (backTo pos (starEach [] X.env)).any (·.1) = false := by rfl) : DE X W (.Call (.Name "list" p) [.Name x px] [] pos) (mLstDk i) := by
  refine PE.imp (pe_callTy (call_listD hc) hg hm PyProof.Rows.boot_list (pa_cons (pe_var (i := i) hN hvi hd hcd) pa_nil he) (by decide) (by decide) he hpl) fun σ H Q ⟨HF, L, ρ, S, R, p⟩ => ?_
  unfold mLstDk at p
  split at p
  · rename_i n hn
    split at p
    · rename_i kvs hS
      obtain ⟨v, hv1, pa, hp1, hp2⟩ := R.env i _ hn
      subst hp2
      obtain ⟨q1, us, q2, q3, q4⟩ := R.cell n pa _ hp1 hS
      refine ⟨_, hv1, pa, us, rfl, .inl q2, fun t hn' => ?_⟩
      have e : (us.map fun kv => kV kv.1) = (kvs.map (·.1)).map kV := by rw [← q3, List.map_map]; rfl
      have e2 : (kvs.map fun kv => kD kv.1) = (kvs.map (·.1)).map kD := by rw [List.map_map]; rfl
      rw [e2] at p
      rw [e]
      exact p.done R (.new hn') (.lst upd_same (kDs_rep _))
    · exact p.elim
  · exact p.elim
/-- len(d) -/
def mLenDk (i : Nat) : DEn := fun ρ S => match ρ[i]? with
  | some (some (.cel n)) => match S[n]? with
    | some (some (.dk kvs)) => .ok (.int (kvs.length : Int)) S
    | _ => .bad
  | _ => .bad
theorem xlenDk (i : Nat) {x : Str} {p px : Pos} (hm : X.mg "len" = none) (hv : bootBuiltins "len" = some (.builtin "len")) (hg : Gl X "len" := by rfl) (hN : X.N[i]? = some x := by rfl) (hvi : Vis X.env.scope x := by first | exact Or.inl rfl | exact Or.inr (Or.inl rfl) | exact Or.inr (Or.inr rfl)) (hd : (x == ("__debug__" : Str)) = false := by decide) (hcd : (x == ("__classdict__" : Str)) = false := by decide)
    (he : starEach [Expr.Name x px] X.env = (false, eval (.Name x px) X.env) :: starEach [] X.env := by rfl) (hpl : (backTo pos (starEach [] X.env)).any (·.1) = false := by rfl) : DE X W (.Call (.Name "len" p) [.Name x px] [] pos) (mLenDk i) := by
  refine PE.imp (pe_callB call_lenD hg hm hv (pa_cons (pe_var (i := i) hN hvi hd hcd) pa_nil he) (by decide) (by decide) he hpl) fun σ H Q ⟨HF, L, ρ, S, R, p⟩ => ?_
  unfold mLenDk at p
  split at p
  · rename_i n hn
    split at p
    · rename_i kvs hS
      obtain ⟨v, hv1, pa, hp1, hp2⟩ := R.env i _ hn
      subst hp2
      obtain ⟨q1, us, q2, q3, q4⟩ := R.cell n pa _ hp1 hS
      refine ⟨_, hv1, pa, us, rfl, q2, ?_⟩
      have E : Ents (gd X W) HF us kvs := ⟨q3, q4⟩
      rw [E.len]
      exact p.done R .no (.int _)
    · exact p.elim
  · exact p.elim
/-- d.get(k, x) -/
def mGetDk (i : Nat) (fa fb : DEn) : DEn := fun ρ S => match ρ[i]? with
  | some (some (.cel n)) => match S[n]? with
    | some (some (.dk _)) => (fa ρ S).bind fun y S1 => (fb ρ S1).bind fun z S2 => match keyD y, S2[n]? with
      | some k, some (some (.dk kvs)) => .ok ((valD kvs k).getD z) S2
      | _, _ => .bad
    | _ => .bad
  | _ => .bad
theorem xgetDk (hu : X.A.units + 64 < cLine) (i : Nat) {x : Str} {px apos : Pos} (ha : DE X W a fa) (hb : DE X W b fb) (m : M2 X (.Name x px) "get" apos a b pos) (hN : X.N[i]? = some x := by rfl) (hvi : Vis X.env.scope x := by first | exact Or.inl rfl | exact Or.inr (Or.inl rfl) | exact Or.inr (Or.inr rfl)) (hd : (x == ("__debug__" : Str)) = false := by decide) (hcd : (x == ("__classdict__" : Str)) = false := by decide) :
    DE X W (.Call (.Attribute (.Name x px) "get" apos) [a, b] [] pos) (mGetDk i fa fb) := by
  refine PE.imp (pe_dget2 (by omega) (pe_var (i := i) hN hvi hd hcd) ha hb m) fun σ H Q ⟨HF, L, ρ, S, R, p⟩ => ?_
  unfold mGetDk at p
  split at p
  · rename_i n hn
    split at p
    · rename_i kvs0 hS0
      obtain ⟨v, hv1, pa, hp1, hp2⟩ := R.env i _ hn
      subst hp2
      obtain ⟨q1, us, q2, q3, q4⟩ := R.cell n pa _ hp1 hS0
      refine ⟨_, hv1, pa, rfl, .inl ⟨us, .inl q2⟩, HF, L, ρ, S, R, Post.bind p fun y S1 w H1 HF1 L1 e1 st1 R1 r1 p1 => ⟨HF1, L1, ρ, S1, R1, Post.bind p1 fun z S2 u H2 HF2 L2 e2 st2 R2 r2 p2 => ?_⟩⟩
      split at p2
      · rename_i k kvs hk hS
        obtain ⟨q1, us, q2, q3, q4⟩ := R2.cell n pa _ (st2.lget (st1.lget hp1)) hS
        have E : Ents (gd X W) HF2 us kvs := ⟨q3, q4⟩
        have ew := key_rep r1 hk
        subst ew
        refine ⟨valV us k, DGet.k q2, p2.done R2 .no ?_⟩
        cases e : valD kvs k with
        | none =>
          have : valV us k = none := by
            have := E.val (k := k) |>.2
            rw [e] at this
            cases h : valV us k with
            | none => rfl
            | some x => rw [h] at this; cases this
          rw [this]
          exact r2
        | some d =>
          obtain ⟨v2, e2, e3⟩ := E.val.1 d e
          rw [e2]
          exact e3
      · exact p2.elim
    · exact p.elim
  · exact p.elim
/-- (a, b, ..) = a list -/
def gTpL (gs : List D → DL.Env → Store → Out DL.Env) (n : Nat) : DGn := fun d ρ S => match d with
  | .lst ds => if ds.length = n then gs ds ρ S else .bad
  | _ => .bad
theorem gtupL {es : List Expr} {k n : Nat} {gs : List D → DL.Env → Store → Out DL.Env} (hc : X.calm = true) (h : DGs X W es gs) (hn : (assignEach es X.env).length = n := by rfl) (hst : (assignEach es X.env).findIdx? (·.1) = none := by rfl) : DG X W (.Tuple es k pos) (gTpL gs n) :=
  PG.imp (pg_unl hc h hn hst) fun v σ H Q ⟨HF, L, ρ, S, d, R, r, p⟩ => by
    cases d with
    | lst ds =>
      have p : PostG (gd X W) H HF L Q (if ds.length = n then gs ds ρ S else .bad) := p
      split at p
      · rename_i hl
        cases r with
        | lst h1 h2 => exact ⟨_, _, rfl, SqL.of (R.sub _ _ h1), by rw [h2.length]; exact hl, HF, L, ρ, S, ds, R, h2, p⟩
      · exact p.elim
    | _ => exact p.elim
end
end DL

/-! helpers over the layer: lists, cells, calls, loops -/
namespace DL
open PySem L2
/-- a comprehension of two clauses without conditions -/
theorem lc2T {α β : Type} {tg tg1 : Tg} {fi : DDn} {vs1 : List Nat} {fe : DEn} {ρ : DL.Env} {S : Store} (emb : α → D) (emb1 : β → D) (ys : α → List β) (g : α → β → D) : ∀ (xs : List α),
    (∀ x ∈ xs, ∃ ρ1, asg tg (emb x) ρ = some ρ1 ∧ fi ρ1 S = .ok ((ys x).map emb1) S ∧ ∀ y ∈ ys x, ∃ ρ2, asg tg1 (emb1 y) (wipeE ρ1 vs1) = some ρ2 ∧ fe ρ2 S = .ok (g x y) S) →
    ∀ acc : List D, acc.length + (xs.flatMap ys).length ≤ lim → lcL2 tg mYes fi vs1 tg1 mYes fe ρ (xs.map emb) S acc = .ok (acc ++ xs.flatMap fun x => (ys x).map (g x)) S
  | [], h, acc, _ => by simp [lcL2]
  | x :: xs, h, acc, hl => by
    obtain ⟨ρ1, e1, e2, e3⟩ := h x List.mem_cons_self
    rw [List.flatMap_cons, List.length_append] at hl
    have l := lcT (tg := tg1) (tt := mYes) (fe := fe) (ρ := wipeE ρ1 vs1) (S := S) emb1 (fun _ => true) (g x) (ys x) (fun y hy => by
      obtain ⟨ρ2, k1, k2⟩ := e3 y hy
      exact ⟨ρ2, k1, rfl, fun _ => k2⟩) acc (by omega)
    rw [filter_true] at l
    rw [List.map_cons]
    unfold lcL2
    rw [e1]
    dsimp only
    rw [show mYes ρ1 S = .ok true S from rfl]
    simp only [ev_bd_ok, if_true]
    rw [e2]
    simp only [ev_bd_ok]
    rw [l]
    simp only [ev_bd_ok]
    rw [lc2T emb emb1 ys g xs (fun z hz => h z (List.mem_cons_of_mem _ hz)) _ (by rw [List.length_append, List.length_map]; omega)]
    simp [List.flatMap_cons]
theorem lcA1 {α : Type} {tg : Tg} {fe : DEn} {ρ : DL.Env} {S : Store} (emb g : α → D) (xs : List α) (h : ∀ x ∈ xs, ∃ ρ1, asg tg (emb x) ρ = some ρ1 ∧ fe ρ1 S = .ok (g x) S) (hl : xs.length ≤ lim) : lcL tg mYes fe ρ (xs.map emb) S [] = .ok (xs.map g) S := by
  have l := lcT (tg := tg) (tt := mYes) (fe := fe) (ρ := ρ) (S := S) emb (fun _ => true) g xs (fun x hx => by
    obtain ⟨ρ1, k1, k2⟩ := h x hx
    exact ⟨ρ1, k1, rfl, fun _ => k2⟩) [] (by simpa using hl)
  rw [filter_true] at l
  simpa using l

end DL
namespace Pr
open PySem L2 DL
theorem gMul_r {a b : Int} (h : b.natAbs < 18446744073709551616) : gMul (.int a) (.int b) = some (.int (a * b)) := by
  show (if a.natAbs < 18446744073709551616 ∨ b.natAbs < 18446744073709551616 then some (D.int (a * b)) else none) = _
  exact if_pos (Or.inr h)
theorem gMul_l {a b : Int} (h : a.natAbs < 18446744073709551616) : gMul (.int a) (.int b) = some (.int (a * b)) := by
  show (if a.natAbs < 18446744073709551616 ∨ b.natAbs < 18446744073709551616 then some (D.int (a * b)) else none) = _
  exact if_pos (Or.inl h)
def fr (a b : Int) : D := .tup [.int a, .int b]

theorem st_set {i : Nat} {f : DEn} {ρ : DL.Env} {S S1 : Store} {d : D} (h : f ρ S = .ok d S1) : mSet i (mV f) ρ S = .ok (.nx, ρ.set i (some (.v d))) S1 := by rw [ev_Set, ev_V, h]; rfl
def vv (d : D) : Option EV := some (.v d)
theorem t2 {fa fb : DEn} {ρ : DL.Env} {S S1 S2 : Store} {x y : D} (ha : fa ρ S = .ok x S1) (hb : fb ρ S1 = .ok y S2) : mTup (mCons fa (mCons fb mNil)) ρ S = .ok (.tup [x, y]) S2 := by
  have h2 : (2 : Nat) ≤ lim := by rw [lim_is]; decide
  have : mCons fa (mCons fb mNil) ρ S = .ok [x, y] S2 := by rw [ev_Cons, ha, ev_bind_ok, ev_Cons, hb]; rfl
  unfold mTup
  rw [this, ev_bind_ok, if_pos (show ([x, y] : List D).length ≤ lim from h2)]
theorem t3 {fa fb fc : DEn} {ρ : DL.Env} {S S1 S2 S3 : Store} {x y z : D} (ha : fa ρ S = .ok x S1) (hb : fb ρ S1 = .ok y S2) (hc : fc ρ S2 = .ok z S3) : mTup (mCons fa (mCons fb (mCons fc mNil))) ρ S = .ok (.tup [x, y, z]) S3 := by
  have h2 : (3 : Nat) ≤ lim := by rw [lim_is]; decide
  have : mCons fa (mCons fb (mCons fc mNil)) ρ S = .ok [x, y, z] S3 := by rw [ev_Cons, ha, ev_bind_ok, ev_Cons, hb, ev_bind_ok, ev_Cons, hc]; rfl
  unfold mTup
  rw [this, ev_bind_ok, if_pos (show ([x, y, z] : List D).length ≤ lim from h2)]

/-- a comprehension that draws: each item has what P says -/
theorem drawL {tg : Tg} {fe : DEn} {ρ : DL.Env} {P : D → Prop} {R : Store} (h : ∀ (d : D) (c : Cell), RowOk c → ∃ ρ1 x c', asg tg d ρ = some ρ1 ∧ P x ∧ RowOk c' ∧ fe ρ1 (some c :: R) = .ok x (some c' :: R)) : ∀ (ds : List D) (c : Cell) (acc : List D), RowOk c → acc.length + ds.length ≤ lim →
    ∃ (xs : List D) (c' : Cell), xs.length = ds.length ∧ (∀ x ∈ xs, P x) ∧ RowOk c' ∧ lcL tg mYes fe ρ ds (some c :: R) acc = .ok (acc ++ xs) (some c' :: R)
  | [], c, acc, hc, _ => ⟨[], c, rfl, (fun _ h => by cases h), hc, by simp [lcL]⟩
  | d :: ds, c, acc, hc, hl => by
    have hl' : acc.length + (ds.length + 1) ≤ lim := by simpa using hl
    obtain ⟨ρ1, x, c1, e0, hp, hc1, e1⟩ := h d c hc
    obtain ⟨xs, c2, h1, h2, hc2, e2⟩ := drawL h ds c1 (acc ++ [x]) hc1 (by rw [List.length_append]; simp; omega)
    refine ⟨x :: xs, c2, by simp [h1], fun q hq => ?_, hc2, ?_⟩
    · rcases List.mem_cons.mp hq with rfl | hq
      · exact hp
      · exact h2 q hq
    · unfold lcL
      rw [e0]
      dsimp only
      rw [show mYes ρ1 (some c :: R) = .ok true (some c :: R) from rfl]
      simp only [ev_bd_ok, if_true]
      rw [e1]
      simp only [ev_bd_ok]
      rw [if_pos (by omega), e2]
      simp
/-- a list of values of a kind is the image of a list of data -/
theorem as_map {α : Type} {emb : α → D} {P : α → Prop} : ∀ {xs : List D}, (∀ x ∈ xs, ∃ a, x = emb a ∧ P a) → ∃ as : List α, xs = as.map emb ∧ as.length = xs.length ∧ ∀ a ∈ as, P a
  | [], _ => ⟨[], rfl, rfl, fun _ h => by cases h⟩
  | x :: xs, h => by
    obtain ⟨a, e, p⟩ := h x List.mem_cons_self
    obtain ⟨as, e', hl, hp⟩ := as_map (xs := xs) fun y hy => h y (List.mem_cons_of_mem _ hy)
    refine ⟨a :: as, by rw [e, e']; rfl, by simp [hl], fun b hb => ?_⟩
    rcases List.mem_cons.mp hb with rfl | hb
    · exact p
    · exact hp b hb

theorem t4 {fa fb fc fd : DEn} {ρ : DL.Env} {S : Store} {x y z u : D} (ha : fa ρ S = .ok x S) (hb : fb ρ S = .ok y S) (hc : fc ρ S = .ok z S) (hd : fd ρ S = .ok u S) : mTup (mCons fa (mCons fb (mCons fc (mCons fd mNil)))) ρ S = .ok (.tup [x, y, z, u]) S := by
  have h2 : (4 : Nat) ≤ lim := by rw [lim_is]; decide
  have : mCons fa (mCons fb (mCons fc (mCons fd mNil))) ρ S = .ok [x, y, z, u] S := by rw [ev_Cons, ha, ev_bind_ok, ev_Cons, hb, ev_bind_ok, ev_Cons, hc, ev_bind_ok, ev_Cons, hd]; rfl
  unfold mTup
  rw [this, ev_bind_ok, if_pos (show ([x, y, z, u] : List D).length ≤ lim from h2)]
theorem l1 {fa : DEn} {ρ : DL.Env} {S : Store} {x : D} (ha : fa ρ S = .ok x S) : mLst (mCons fa mNil) ρ S = .ok (.lst [x]) S := by
  have h2 : (1 : Nat) ≤ lim := by rw [lim_is]; decide
  have : mCons fa mNil ρ S = .ok [x] S := by rw [ev_Cons, ha]; rfl
  unfold mLst
  rw [this, ev_bind_ok, if_pos (show ([x] : List D).length ≤ lim from h2)]
theorem cl1 {F : Den} {fa : DEn} {ρ : DL.Env} {S : Store} {x r : D} (ha : fa ρ S = .ok x S) (h : F [.v x] [] = .ok r []) : mCall F 1 (mConsE (mV fa) mNilE) ρ S = .ok r S := by
  rw [ev_Call, ev_ConsE, ev_V, ha]
  simp only [ev_bind_ok, ev_NilE, List.length_cons, List.length_nil, Nat.zero_add, if_true]
  exact call1 h
theorem cl2 {F : Den} {fa fb : DEn} {ρ : DL.Env} {S : Store} {x y r : D} (ha : fa ρ S = .ok x S) (hb : fb ρ S = .ok y S) (h : F [.v x, .v y] [] = .ok r []) : mCall F 2 (mConsE (mV fa) (mConsE (mV fb) mNilE)) ρ S = .ok r S := by
  rw [ev_Call, ev_ConsE, ev_V, ha]
  simp only [ev_bind_ok, ev_ConsE, ev_V, hb, ev_NilE, List.length_cons, List.length_nil, Nat.zero_add, if_true]
  exact call2 h
theorem cl3 {F : Den} {fa fb fc : DEn} {ρ : DL.Env} {S : Store} {x y z r : D} (ha : fa ρ S = .ok x S) (hb : fb ρ S = .ok y S) (hc : fc ρ S = .ok z S) (h : F [.v x, .v y, .v z] [] = .ok r []) : mCall F 3 (mConsE (mV fa) (mConsE (mV fb) (mConsE (mV fc) mNilE))) ρ S = .ok r S := by
  rw [ev_Call, ev_ConsE, ev_V, ha]
  simp only [ev_bind_ok, ev_ConsE, ev_V, hb, hc, ev_NilE, List.length_cons, List.length_nil, Nat.zero_add, if_true]
  exact call3 h
theorem cl4 {F : Den} {fa fb fc fd : DEn} {ρ : DL.Env} {S : Store} {x y z u r : D} (ha : fa ρ S = .ok x S) (hb : fb ρ S = .ok y S) (hc : fc ρ S = .ok z S) (hd : fd ρ S = .ok u S) (h : F [.v x, .v y, .v z, .v u] [] = .ok r []) : mCall F 4 (mConsE (mV fa) (mConsE (mV fb) (mConsE (mV fc) (mConsE (mV fd) mNilE)))) ρ S = .ok r S := by
  rw [ev_Call, ev_ConsE, ev_V, ha]
  simp only [ev_bind_ok, ev_ConsE, ev_V, hb, hc, hd, ev_NilE, List.length_cons, List.length_nil, Nat.zero_add, if_true]
  exact call4 h
theorem opI {g : D → D → Option D} {fa fb : DEn} {ρ : DL.Env} {S : Store} {x y z : D} (ha : fa ρ S = .ok x S) (hb : fb ρ S = .ok y S) (h : g x y = some z) : mOp g fa fb ρ S = .ok z S := by
  rw [ev_Op, ha, ev_bind_ok, hb, ev_bind_ok, h]; rfl

theorem forL_step {tg : Tg} {body : DSn} {d : D} {ds : List D} {ρ ρ1 ρ2 : DL.Env} {S S2 : Store} (h1 : asg tg d ρ = some ρ1) (h2 : body ρ1 S = .ok (.nx, ρ2) S2) : forL tg body (d :: ds) ρ S = forL tg body ds ρ2 S2 := by
  conv => lhs; unfold forL
  rw [h1]
  dsimp only
  rw [h2]

theorem metL {i n : Nat} {g : List D → List D → Option (List D × D)} {fs : DDn} {ρ : DL.Env} {S : Store} {ys ds ds' : List D} {d : D} (h1 : ρ[i]? = some (some (.cel n))) (h2 : S[n]? = some (some (.lst ds))) (h3 : fs ρ S = .ok ys S) (h4 : g ds ys = some (ds', d)) :
    mMet i g fs ρ S = .ok d (S.set n (some (.lst ds'))) := by
  unfold mMet
  rw [h1]
  dsimp only
  rw [h2]
  dsimp only
  rw [h3, ev_bind_ok, h2]
  dsimp only
  rw [h4]
theorem ixC {i n : Nat} {fb : DEn} {ρ : DL.Env} {S : Store} {ds : List D} {k : Int} {d : D} (h1 : ρ[i]? = some (some (.cel n))) (h2 : S[n]? = some (some (.lst ds))) (h3 : fb ρ S = .ok (.int k) S) (h4 : atI ds k = some d) : mIxC i fb ρ S = .ok d S := by
  unfold mIxC
  rw [h1]
  dsimp only
  rw [h3, ev_bind_ok, h2]
  dsimp only
  rw [h4]
  rfl
theorem cmpL {i n : Nat} {g : D → D → Option Bool} {fb : DEn} {ρ : DL.Env} {S : Store} {ds : List D} {y : D} {b : Bool} (h1 : ρ[i]? = some (some (.cel n))) (h2 : S[n]? = some (some (.lst ds))) (h3 : fb ρ S = .ok y S) (h4 : g (.lst ds) y = some b) : mCmpL i g fb ρ S = .ok b S := by
  unfold mCmpL
  rw [h1]
  dsimp only
  rw [h3, ev_bind_ok, h2]
  dsimp only
  rw [h4]
  rfl
theorem itL {i n j : Nat} {fi : DEn} {ρ : DL.Env} {S : Store} {ds : List D} {k : Int} {d : D} (h1 : ρ[i]? = some (some (.cel n))) (h2 : S[n]? = some (some (.lst ds))) (h3 : fi ρ S = .ok (.int k) S) (h4 : ixN ds.length k = some j) : gIt i fi d ρ S = .ok ρ (S.set n (some (.lst (ds.set j d)))) := by
  unfold gIt
  rw [h1]
  dsimp only
  rw [h3, ev_bd_ok, h2]
  dsimp only
  rw [h4]
theorem newCat {i n : Nat} {fb : DVn} {ρ : DL.Env} {S : Store} {ds es : List D} (h1 : ρ[i]? = some (some (.cel n))) (h2 : S[n]? = some (some (.lst ds))) (h3 : fb ρ S = .ok (.v (.lst es)) S) (h4 : ds.length + es.length ≤ lim) : mNewCat (mCel i) fb ρ S = .ok (.cel S.length) (S ++ [some (.lst (ds ++ es))]) := by
  unfold mNewCat mCatWith
  rw [show mCel i ρ S = .ok (.cel n) S by unfold mCel; rw [h1], ev_bind_ok, h3, ev_bind_ok]
  have e1 : lstOf S (.cel n) = some ds := by
    show (match S[n]? with
      | some (some (.lst ds)) => some ds
      | _ => none) = _
    rw [h2]
  have e2 : lstOf S (.v (.lst es)) = some es := rfl
  rw [e1, e2]
  dsimp only
  rw [if_pos h4]
/-- the loop over xs leads from one state to another -/
def Goes (tg : Tg) (body : DSn) (xs : List D) (ρ : DL.Env) (S : Store) (ρ1 : DL.Env) (S1 : Store) : Prop := ∀ ys, forL tg body (xs ++ ys) ρ S = forL tg body ys ρ1 S1
theorem Goes.one {tg : Tg} {body : DSn} {d : D} {ρ ρ1 ρ2 : DL.Env} {S S2 : Store} (h1 : asg tg d ρ = some ρ1) (h2 : body ρ1 S = .ok (.nx, ρ2) S2) : Goes tg body [d] ρ S ρ2 S2 := fun ys => forL_step h1 h2
theorem Goes.trans {tg : Tg} {body : DSn} {xs zs : List D} {ρ ρ1 ρ2 : DL.Env} {S S1 S2 : Store} (h1 : Goes tg body xs ρ S ρ1 S1) (h2 : Goes tg body zs ρ1 S1 ρ2 S2) : Goes tg body (xs ++ zs) ρ S ρ2 S2 := fun ys => by
  rw [List.append_assoc, h1, h2]
theorem Goes.end {tg : Tg} {body : DSn} {xs : List D} {ρ ρ1 : DL.Env} {S S1 : Store} (h : Goes tg body xs ρ S ρ1 S1) : forL tg body xs ρ S = .ok (.nx, ρ1) S1 := by
  have := h []
  rw [List.append_nil] at this
  rw [this]
  rfl

theorem okd_intsP (F : List Nat) : (D.lst (F.map fun i : Nat => D.int (i : Int))).okd = true := by
  have h : ∀ F : List Nat, PyData.canLayAll0 (D.pys (F.map fun i : Nat => D.int (i : Int))) = true ∧ PyData.depthAll (D.pys (F.map fun i : Nat => D.int (i : Int))) = 0 := by
    intro F
    induction F with
    | nil => exact ⟨rfl, rfl⟩
    | cons i F ih => exact ⟨ih.1, by show max 0 (PyData.depthAll (D.pys (F.map fun i : Nat => D.int (i : Int)))) = 0; rw [ih.2]; rfl⟩
  show (PyData.canLayAll0 (D.pys (F.map fun i : Nat => D.int (i : Int))) && decide (PyData.depthAll (D.pys (F.map fun i : Nat => D.int (i : Int))) + 1 ≤ 64)) = true
  rw [(h F).1, (h F).2]; rfl
theorem gNotIn_ints (i : Nat) (F : List Nat) : gNotIn (.int (i : Int)) (.lst (F.map fun i : Nat => D.int (i : Int))) = some (!decide (i ∈ F)) := by
  have e : gIn (.int (i : Int)) (.lst (F.map fun i : Nat => D.int (i : Int))) = some ((F.map fun i : Nat => D.int (i : Int)).any fun z => deq z (.int (i : Int))) := if_pos ⟨rfl, okd_intsP F⟩
  unfold gNotIn
  rw [e]
  have : ((F.map fun i : Nat => D.int (i : Int)).any fun z => deq z (.int (i : Int))) = decide (i ∈ F) := by
    induction F with
    | nil => rfl
    | cons j F ih =>
      have q : deq (.int (j : Int)) (.int (i : Int)) = decide (i = j) := by
        show ((j : Int) == (i : Int)) = _
        by_cases h : i = j
        · subst h; simp
        · rw [decide_eq_false h]; simp; omega
      have ih' := ih (if_pos ⟨rfl, okd_intsP F⟩)
      rw [List.map_cons, List.any_cons, q, ih']
      by_cases h : i = j <;> simp [h]
  rw [this]; rfl

def nI (i : Nat) : D := .int (i : Int)
theorem rg1 {f : DEn} {ρ : DL.Env} {S S1 : Store} {n : Nat} (h : f ρ S = .ok (.int (n : Int)) S1) (hn : n ≤ 1000000000) : mRg1 f ρ S = .ok ((List.range n).map nI) S1 := by
  show ((f ρ S).bind _) = _
  rw [h, ev_bind_ok]
  show (if (n : Int) ≤ 1000000000 ∧ -1000000000 ≤ (n : Int) then Out.ok (rgD 0 (n : Int)) S1 else .bad) = _
  rw [if_pos ⟨by omega, by omega⟩, rgD_nat]
  rfl
theorem rgD_from (a n : Nat) : rgD (a : Int) (n : Int) = (List.range' a (n - a)).map nI := by
  unfold rgD
  rw [show ((n : Int) - (a : Int)).toNat = n - a by omega, List.range'_eq_map_range, List.map_map]
  refine List.map_congr_left fun i _ => ?_
  show D.int ((a : Int) + (i : Int)) = D.int ((a + i : Nat) : Int)
  congr 1
/-- a comprehension with a condition over a list of anything -/
theorem lcF {α : Type} {tg : Tg} {tt : DTn} {fe : DEn} {ρ : DL.Env} {S : Store} (emb : α → D) (f : α → Bool) (g : α → D) (xs : List α) (h : ∀ x ∈ xs, ∃ ρ1, asg tg (emb x) ρ = some ρ1 ∧ tt ρ1 S = .ok (f x) S ∧ (f x = true → fe ρ1 S = .ok (g x) S)) (hl : xs.length ≤ lim) : lcL tg tt fe ρ (xs.map emb) S [] = .ok ((xs.filter f).map g) S := by
  have l := lcT (tg := tg) (tt := tt) (fe := fe) (ρ := ρ) (S := S) emb f g xs h [] (by simpa using hl)
  simpa using l
theorem intsOf_map : ∀ xs : List Int, intsOf (xs.map D.int) = some xs
  | [] => rfl
  | x :: xs => by
    have := intsOf_map xs
    simp [intsOf, this]
/-- sorted distinct numbers -/
theorem sortN (N : List Nat) : ∃ s : List Nat, gSorted [.lst (N.map nI)] = some (.lst (s.map nI)) ∧ s.Perm N ∧ (N.Nodup → s.Pairwise (· < ·)) := by
  let z : List Int := sortI (N.map fun n : Nat => (n : Int))
  have hp : z.Perm (N.map fun n : Nat => (n : Int)) := sortI_perm _
  have hnn : ∀ x ∈ z, 0 ≤ x := fun x hx => by
    obtain ⟨n, _, rfl⟩ := List.mem_map.mp (hp.mem_iff.mp hx)
    omega
  let s : List Nat := z.map Int.toNat
  have hs : s.map (fun n : Nat => (n : Int)) = z := by
    show (z.map Int.toNat).map _ = z
    rw [List.map_map]
    have : ∀ l : List Int, (∀ x ∈ l, 0 ≤ x) → l.map ((fun n : Nat => (n : Int)) ∘ Int.toNat) = l := fun l => by
      induction l with
      | nil => intro _; rfl
      | cons x l ih =>
        intro h
        rw [List.map_cons, ih fun y hy => h y (List.mem_cons_of_mem _ hy)]
        have := h x List.mem_cons_self
        congr 1
        show ((x.toNat : Nat) : Int) = x
        omega
    exact this z hnn
  have hsp : s.Perm N := by
    have h1 := hp.map Int.toNat
    rw [List.map_map] at h1
    have : (N.map (Int.toNat ∘ fun n : Nat => (n : Int))) = N := by
      have : (Int.toNat ∘ fun n : Nat => (n : Int)) = id := by funext n; simp
      rw [this, List.map_id]
    rw [this] at h1
    exact h1
  refine ⟨s, ?_, hsp, fun hn => ?_⟩
  · have mp : ∀ l : List Nat, l.map nI = (l.map fun n : Nat => (n : Int)).map D.int := fun l => by rw [List.map_map]; rfl
    have e := mp N
    have e2 : s.map nI = z.map D.int := by rw [mp s, hs]
    rw [e, e2]
    show (intsOf ((N.map fun n : Nat => (n : Int)).map D.int)).map _ = _
    rw [intsOf_map]; rfl
  · have h1 : z.Pairwise (· ≤ ·) := sortI_sorted _
    rw [← hs] at h1
    have h2 := List.pairwise_map.mp h1
    have h3 : s.Nodup := hsp.nodup_iff.mpr hn
    exact List.Pairwise.imp₂ (fun a b h h' => by have h : (a : Int) ≤ (b : Int) := h; have h' : a ≠ b := h'; omega) h2 h3
theorem gLen_t (l : List D) : gLen [.tup l] = some (.int (l.length : Int)) := rfl
theorem gLen_l (l : List D) : gLen [.lst l] = some (.int (l.length : Int)) := rfl
end Pr

/-! what comes out keeps Q, what is raised keeps E -/
namespace Pr
open PySem L2 DL
def Wp {α : Type} (o : Out α) (Q : α → Store → Prop) (E : Exn → Store → Prop) : Prop := match o with
  | .ok a S => Q a S
  | .ex x S => E x S
  | .bad => False
section
variable {α β : Type} {Q Q' : α → Store → Prop} {E E' : Exn → Store → Prop} {o : Out α} {S S1 : Store} {a : α}
theorem Wp.ok (h : o = .ok a S) (q : Q a S) : Wp o Q E := by rw [h]; exact q
theorem Wp.raises {x : Exn} (h : o = .ex x S) (q : E x S) : Wp o Q E := by rw [h]; exact q
theorem Wp.has (h : Wp o Q (fun _ _ => False)) : ∃ a S, o = .ok a S ∧ Q a S := by
  cases o with
  | ok a S => exact ⟨a, S, rfl, h⟩
  | ex x S => exact h.elim
  | bad => exact h.elim
theorem Wp.mono (h : Wp o Q E) (h1 : ∀ a S, Q a S → Q' a S) (h2 : ∀ x S, E x S → E' x S) : Wp o Q' E' := by
  cases o with
  | ok a S => exact h1 _ _ h
  | ex x S => exact h2 _ _ h
  | bad => exact h
theorem Wp.bind {p : Out β} {k : β → Store → Out α} (h : Wp p (fun b S => Wp (k b S) Q E) E) : Wp (p.bind k) Q E := by
  cases p with
  | ok a S => exact h
  | ex x S => exact h
  | bad => exact h
theorem Wp.lift {x : Option α} (h : x = some a) (q : Q a S) : Wp (lift x S) Q E := by rw [h]; exact q
end
section
variable {Q : Ctl × DL.Env → Store → Prop} {E : Exn → Store → Prop} {f g : DSn} {ρ ρ1 : DL.Env} {S S1 : Store} {fa fb : DEn} {d : D} {β : Type}
theorem Wp.bindS {p : Out β} {k : β → Store → Out (Ctl × DL.Env)} (h : Wp p (fun b S => Wp (k b S) Q E) (fun x S => Q (.ex x, ρ) S)) : Wp (bindS p ρ k) Q E := by
  cases p with
  | ok a S => exact h
  | ex x S => exact h
  | bad => exact h
/-- what follows the first part -/
def then_ (g : DSn) (Q : Ctl × DL.Env → Store → Prop) (E : Exn → Store → Prop) : Ctl × DL.Env → Store → Prop := fun cr S => match cr with
  | (.nx, ρ) => Wp (g ρ S) Q E
  | cr => Q cr S
theorem wseq (h : Wp (f ρ S) (then_ g Q E) E) : Wp (mSeq f g ρ S) Q E := by
  unfold mSeq
  cases e : f ρ S with
  | bad => rw [e] at h; exact h
  | ex x S1 => rw [e] at h; exact h
  | ok cr S1 =>
    rw [e] at h
    obtain ⟨c, r⟩ := cr
    cases c <;> exact h
theorem wset {i : Nat} (h : Wp (fa ρ S) (fun d S1 => Q (.nx, ρ.set i (some (.v d))) S1) (fun x S1 => Q (.ex x, ρ) S1)) : Wp (mSet i (mV fa) ρ S) Q E := by
  rw [ev_Set]
  exact Wp.bindS (Wp.bind h)
theorem wdrop (h : Wp (fa ρ S) (fun d S1 => Q (.nx, ρ) S1) (fun x S1 => Q (.ex x, ρ) S1)) : Wp (mDrop fa ρ S) Q E := by
  rw [ev_Drop]
  exact Wp.bindS h
theorem wret (h : Wp (fa ρ S) (fun d S1 => Q (.rt d, ρ) S1) (fun x S1 => Q (.ex x, ρ) S1)) : Wp (mRet fa ρ S) Q E := by
  rw [ev_Ret]
  exact Wp.bindS h
theorem wif {t : DTn} (h : Wp (t ρ S) (fun b S1 => if b = true then Wp (f ρ S1) Q E else Wp (g ρ S1) Q E) (fun x S1 => Q (.ex x, ρ) S1)) : Wp (mIfS t f g ρ S) Q E := by
  rw [ev_IfS]
  refine Wp.bindS (h.mono (fun b S1 q => ?_) fun _ _ q => q)
  cases b
  · exact q
  · exact q
theorem wasg {gg : DGn} (h : Wp (fa ρ S) (fun d S1 => ∃ ρ' S2, gg d ρ S1 = .ok ρ' S2 ∧ Q (.nx, ρ') S2) (fun x S1 => Q (.ex x, ρ) S1)) : Wp (mAsg fa gg ρ S) Q E := by
  unfold mAsg
  refine Wp.bindS (h.mono (fun b S1 q => ?_) fun _ _ q => q)
  obtain ⟨ρ', S2, e, q⟩ := q
  rw [e]
  exact q
theorem wfor {fi : DDn} {t : Tg} {ds : List D} (hi : fi ρ S = .ok ds S) (h : Wp (forL t f ds ρ S) Q E) : Wp (mFor fi t f ρ S) Q E := by
  rw [ev_For, hi]; exact h
theorem wthen (h : Wp (g ρ S) Q E) : then_ g Q E (.nx, ρ) S := h
/-- a loop: what holds ahead of each turn -/
theorem wloop {t : Tg} (I : Nat → DL.Env → Store → Prop) : ∀ (ds : List D) (k : Nat) {ρ : DL.Env} {S : Store}, I k ρ S →
    (∀ (j : Nat) (d : D) (ρ : DL.Env) (S : Store), ds[j]? = some d → I (k + j) ρ S → ∃ ρ1, asg t d ρ = some ρ1 ∧ Wp (f ρ1 S) (fun cr S1 => match cr with
      | (.nx, ρ2) => I (k + j + 1) ρ2 S1
      | (.ct, ρ2) => I (k + j + 1) ρ2 S1
      | (.rt r, ρ2) => Q (.rt r, ρ2) S1
      | (.bk, ρ2) => Q (.nx, ρ2) S1
      | (.ex x, ρ2) => Q (.ex x, ρ2) S1) fun _ _ => False) →
    (∀ ρ S, I (k + ds.length) ρ S → Q (.nx, ρ) S) → Wp (forL t f ds ρ S) Q E
  | [], k, ρ, S, h0, _, he => he ρ S h0
  | d :: ds, k, ρ, S, h0, hs, he => by
    obtain ⟨ρ1, e1, w⟩ := hs 0 d ρ S rfl h0
    unfold forL
    rw [e1]
    dsimp only
    cases e : f ρ1 S with
    | bad => rw [e] at w; exact w.elim
    | ex x S1 => rw [e] at w; exact w.elim
    | ok cr S1 =>
      rw [e] at w
      obtain ⟨c, r⟩ := cr
      have nxt : I (k + 0 + 1) r S1 → Wp (forL t f ds r S1) Q E := fun h => wloop I ds (k + 1) (by simpa using h) (fun j d ρ S hd hI => by
        have := hs (j + 1) d ρ S (by simpa using hd) (by rw [show k + (j + 1) = k + 1 + j by omega]; exact hI)
        rw [show k + (j + 1) + 1 = k + 1 + j + 1 by omega] at this
        exact this) fun ρ S h => he ρ S (by rw [List.length_cons, show k + (ds.length + 1) = k + 1 + ds.length by omega]; exact h)
      cases c with
      | nx => exact nxt w
      | ct => exact nxt w
      | rt r => exact w
      | bk => exact w
      | ex x => exact w
/-- the def itself -/
theorem wden {N : Nat} {es : List EV} {R : D → Store → Prop} (h : Wp (f (es.map some ++ List.replicate (N - es.length) none) S) (fun cr S1 => match cr with
      | (.rt d, _) => R d (S1.take S.length)
      | (.nx, _) => R .non (S1.take S.length)
      | (.ex x, _) => E x (S1.take S.length)
      | _ => False) (fun _ _ => False)) : Wp (denB N f es S) R E := by
  unfold denB
  cases e : f (es.map some ++ List.replicate (N - es.length) none) S with
  | bad => rw [e] at h; exact h
  | ex x S1 => rw [e] at h; exact h.elim
  | ok cr S1 =>
    rw [e] at h
    obtain ⟨c, r⟩ := cr
    cases c <;> exact h
end
section
variable {E : Exn → Store → Prop} {ρ : DL.Env} {S : Store} {α : Type}
variable {Q : D → Store → Prop} {fa fb : DEn}
theorem wop {g : D → D → Option D} (h : Wp (fa ρ S) (fun x S1 => Wp (fb ρ S1) (fun y S2 => ∃ z, g x y = some z ∧ Q z S2) E) E) : Wp (mOp g fa fb ρ S) Q E := by
  rw [ev_Op]
  exact Wp.bind (h.mono (fun x S1 q => Wp.bind (q.mono (fun y S2 ⟨z, e, q⟩ => by rw [e]; exact q) fun _ _ q => q)) fun _ _ q => q)
theorem wtup {fs : DDn} (h : Wp (fs ρ S) (fun xs S1 => xs.length ≤ lim ∧ Q (.tup xs) S1) E) : Wp (mTup fs ρ S) Q E := by
  rw [ev_Tup]
  exact Wp.bind (h.mono (fun xs S1 q => by rw [if_pos q.1]; exact q.2) fun _ _ q => q)
theorem wlst {fs : DDn} (h : Wp (fs ρ S) (fun xs S1 => xs.length ≤ lim ∧ Q (.lst xs) S1) E) : Wp (mLst fs ρ S) Q E := by
  rw [ev_Lst]
  exact Wp.bind (h.mono (fun xs S1 q => by rw [if_pos q.1]; exact q.2) fun _ _ q => q)
theorem wcons {Q : List D → Store → Prop} {fs : DDn} (h : Wp (fa ρ S) (fun x S1 => Wp (fs ρ S1) (fun xs S2 => Q (x :: xs) S2) E) E) : Wp (mCons fa fs ρ S) Q E := by
  rw [ev_Cons]
  exact Wp.bind (h.mono (fun x S1 q => Wp.bind (q.mono (fun y S2 q => q) fun _ _ q => q)) fun _ _ q => q)
theorem wnil {Q : List D → Store → Prop} (h : Q [] S) : Wp (mNil ρ S) Q E := h
/-- a draw -/
theorem wdraw {F : Den} {i n : Nat} {c : Cell} {fb : DEn} {B : Int} (hB : fb ρ S = .ok (.int B) S) (h0 : 0 < B) (h1 : B < 1073741824) (hc : RowOk c) (hρ : ρ[i]? = some (some (.cel n)) := by rfl) (hS : S[n]? = some (some c) := by rfl) (hF : F = cd_taken := by rfl)
    (q : ∀ a c', 0 ≤ a → a < B → RowOk c' → Q (.int a) (S.set n (some c'))) : Wp (mCall F 2 (mConsE (mCel i) (mConsE (mV fb) mNilE)) ρ S) Q E := by
  subst hF
  obtain ⟨a, c', a0, a1, hc', e⟩ := taken hc h0 h1
  refine Wp.ok ?_ (q a c' a0 a1 hc')
  have k := callC2 (S := S) (n := n) (F := cd_taken) hS e
  have hcel : mCel i ρ S = .ok (.cel n) S := by unfold mCel; rw [hρ]
  rw [ev_Call, ev_ConsE, hcel]
  simp only [ev_bind_ok, ev_ConsE, ev_V, hB, ev_NilE, List.length_cons, List.length_nil, Nat.zero_add, if_true]
  exact k
/-- one of a list -/
theorem wpick {F : Den} {i n : Nat} {c : Cell} {fb : DEn} {ds : List D} (hB : fb ρ S = .ok (.lst ds) S) (h0 : ds ≠ []) (h1 : ds.length < 1073741824) (hc : RowOk c) (hρ : ρ[i]? = some (some (.cel n)) := by rfl) (hS : S[n]? = some (some c) := by rfl) (hF : F = cd_pick := by rfl)
    (q : ∀ d c', d ∈ ds → RowOk c' → Q d (S.set n (some c'))) : Wp (mCall F 2 (mConsE (mCel i) (mConsE (mV fb) mNilE)) ρ S) Q E := by
  subst hF
  obtain ⟨j, d, c', hj, hc', e⟩ := pick_spec hc h0 h1
  refine Wp.ok ?_ (q d c' (List.mem_of_getElem? hj) hc')
  have k := callC2 (S := S) (n := n) (F := cd_pick) hS e
  have hcel : mCel i ρ S = .ok (.cel n) S := by unfold mCel; rw [hρ]
  rw [ev_Call, ev_ConsE, hcel]
  simp only [ev_bind_ok, ev_ConsE, ev_V, hB, ev_NilE, List.length_cons, List.length_nil, Nat.zero_add, if_true]
  exact k
/-- a def of the row alone and a value: a drawn thing -/
theorem wdrawn {F : Den} {i n : Nat} {c : Cell} {fb : DEn} {x : D} {R : D → Prop} (hB : fb ρ S = .ok x S) (hF : ∃ d c', F [.cel 0, .v x] [some c] = .ok d [some c'] ∧ RowOk c' ∧ R d) (hρ : ρ[i]? = some (some (.cel n)) := by rfl) (hS : S[n]? = some (some c) := by rfl)
    (q : ∀ d c', R d → RowOk c' → Q d (S.set n (some c'))) : Wp (mCall F 2 (mConsE (mCel i) (mConsE (mV fb) mNilE)) ρ S) Q E := by
  obtain ⟨d, c', e, hc', hR⟩ := hF
  refine Wp.ok ?_ (q d c' hR hc')
  have k := callC2 (S := S) (n := n) (F := F) hS e
  have hcel : mCel i ρ S = .ok (.cel n) S := by unfold mCel; rw [hρ]
  rw [ev_Call, ev_ConsE, hcel]
  simp only [ev_bind_ok, ev_ConsE, ev_V, hB, ev_NilE, List.length_cons, List.length_nil, Nat.zero_add, if_true]
  exact k
theorem callX1 {F : Den} {a : D} {S : Store} {x : Exn} (h : F [.v a] [] = .ex x []) : callD F [.v a] S = .ex x S := by
  unfold callD; simp [cels, getCs, renum, h, putCs]
theorem callX2 {F : Den} {a b : D} {S : Store} {x : Exn} (h : F [.v a, .v b] [] = .ex x []) : callD F [.v a, .v b] S = .ex x S := by
  unfold callD; simp [cels, getCs, renum, h, putCs]
theorem callX3 {F : Den} {a b c : D} {S : Store} {x : Exn} (h : F [.v a, .v b, .v c] [] = .ex x []) : callD F [.v a, .v b, .v c] S = .ex x S := by
  unfold callD; simp [cels, getCs, renum, h, putCs]
theorem callX4 {F : Den} {a b c e : D} {S : Store} {x : Exn} (h : F [.v a, .v b, .v c, .v e] [] = .ex x []) : callD F [.v a, .v b, .v c, .v e] S = .ex x S := by
  unfold callD; simp [cels, getCs, renum, h, putCs]
theorem xl1 {F : Den} {fa : DEn} {ρ : DL.Env} {S : Store} {x : D} {e : Exn} (ha : fa ρ S = .ok x S) (h : F [.v x] [] = .ex e []) : mCall F 1 (mConsE (mV fa) mNilE) ρ S = .ex e S := by
  rw [ev_Call, ev_ConsE, ev_V, ha]
  simp only [ev_bind_ok, ev_NilE, List.length_cons, List.length_nil, Nat.zero_add, if_true]
  exact callX1 h
theorem xl2 {F : Den} {fa fb : DEn} {ρ : DL.Env} {S : Store} {x y : D} {e : Exn} (ha : fa ρ S = .ok x S) (hb : fb ρ S = .ok y S) (h : F [.v x, .v y] [] = .ex e []) : mCall F 2 (mConsE (mV fa) (mConsE (mV fb) mNilE)) ρ S = .ex e S := by
  rw [ev_Call, ev_ConsE, ev_V, ha]
  simp only [ev_bind_ok, ev_ConsE, ev_V, hb, ev_NilE, List.length_cons, List.length_nil, Nat.zero_add, if_true]
  exact callX2 h
theorem xl3 {F : Den} {fa fb fc : DEn} {ρ : DL.Env} {S : Store} {x y z : D} {e : Exn} (ha : fa ρ S = .ok x S) (hb : fb ρ S = .ok y S) (hc : fc ρ S = .ok z S) (h : F [.v x, .v y, .v z] [] = .ex e []) : mCall F 3 (mConsE (mV fa) (mConsE (mV fb) (mConsE (mV fc) mNilE))) ρ S = .ex e S := by
  rw [ev_Call, ev_ConsE, ev_V, ha]
  simp only [ev_bind_ok, ev_ConsE, ev_V, hb, hc, ev_NilE, List.length_cons, List.length_nil, Nat.zero_add, if_true]
  exact callX3 h
theorem xl4 {F : Den} {fa fb fc fd : DEn} {ρ : DL.Env} {S : Store} {x y z u : D} {e : Exn} (ha : fa ρ S = .ok x S) (hb : fb ρ S = .ok y S) (hc : fc ρ S = .ok z S) (hd : fd ρ S = .ok u S) (h : F [.v x, .v y, .v z, .v u] [] = .ex e []) : mCall F 4 (mConsE (mV fa) (mConsE (mV fb) (mConsE (mV fc) (mConsE (mV fd) mNilE)))) ρ S = .ex e S := by
  rw [ev_Call, ev_ConsE, ev_V, ha]
  simp only [ev_bind_ok, ev_ConsE, ev_V, hb, hc, hd, ev_NilE, List.length_cons, List.length_nil, Nat.zero_add, if_true]
  exact callX4 h
/-- a lambda's end: what is raised is told -/
theorem lam_ex {N i : Nat} {cat : Str → Option Bool} {fs fr : DSn} {fb : DEn} {S : Store} {x : Exn} {r : D} (h : fb ρ S = .ex x S) (hr : ∀ S, lamEnd N i cat fs fr (.ex x S) = .ok r S) : mLam N i cat fs fr fb ρ S = .ok r S := by
  unfold mLam
  rw [h, hr]
/-- another answer behind the others -/
theorem app_lam {i : Nat} {f : DEn} {ρ : DL.Env} {S : Store} {ds : List D} {x : D} (h : f ρ S = .ok x S) (hl : ds.length ≤ 1000) (hi : ρ[i]? = some (some (.v (.lst ds))) := by rfl) : mSet i (mV (mOp gAdd (mVar i) (mLst (mCons f mNil)))) ρ S = .ok (.nx, ρ.set i (some (.v (.lst (ds ++ [x]))))) S := by
  refine st_set (opI (ev_var hi) (l1 h) ?_)
  exact g_addL (by rw [lim_is]; simp; omega)
end

theorem watI {ds : List D} {j : Nat} {d : D} (h : ds[j]? = some d) : atI ds (j : Int) = some d := by
  obtain ⟨h1, _⟩ := List.getElem?_eq_some_iff.mp h
  unfold L2.atI ixN
  rw [if_pos (by omega), if_pos (by omega)]
  simpa using h
theorem wisE {tab : Str → Str → Option Bool} {i : Nat} {t c : Str} {a : Option (Str × D)} {b : Bool} {ρ : DL.Env} {S : Store} (h : tab c t = some b) (hi : ρ[i]? = some (some (.exn ⟨c, a⟩)) := by rfl) : mIsE i tab t ρ S = .ok (.bl b) S := by
  unfold mIsE; rw [hi]; dsimp only; rw [h]; rfl
theorem wxf {fld : Str → Str → Bool} {i : Nat} {f : Str} {x : Str} {d : D} {ρ : DL.Env} {S : Store} (h : fld x f = true) (hi : ρ[i]? = some (some (.exn ⟨x, some (f, d)⟩)) := by rfl) : mXf i fld f ρ S = .ok d S := by
  unfold mXf; rw [hi]; dsimp only; rw [if_pos ⟨h, rfl⟩]
theorem wcut_to {ds : List D} {n : Nat} (h : n ≤ ds.length) : cutD ds none (some (n : Int)) = ds.take n := by
  unfold cutD
  have h1 : HT.sIx ds.length 0 none = 0 := rfl
  have h2 : HT.sIx ds.length ds.length (some (n : Int)) = n := by
    unfold HT.sIx
    simp
    rw [if_neg (by omega)]
    omega
  rw [h1, h2]
  simp
theorem wcut_from {ds : List D} {n : Nat} (h : n ≤ ds.length) : cutD ds (some (n : Int)) none = ds.drop n := by
  unfold cutD
  have h1 : HT.sIx ds.length 0 (some (n : Int)) = n := by
    unfold HT.sIx
    simp
    rw [if_neg (by omega)]
    omega
  have h2 : HT.sIx ds.length ds.length none = ds.length := rfl
  rw [h1, h2]
  exact List.take_of_length_le (by rw [List.length_drop]; omega)

section
variable {E : Exn → Store → Prop} {ρ : DL.Env} {S : Store}
theorem wmet {Q : D → Store → Prop} {i n : Nat} {g : List D → List D → Option (List D × D)} {fs : DDn} {ds0 : List D} (h : Wp (fs ρ S) (fun ys S1 => ∃ ds ds' d, S1[n]? = some (some (.lst ds)) ∧ g ds ys = some (ds', d) ∧ Q d (S1.set n (some (.lst ds')))) E) (h1 : ρ[i]? = some (some (.cel n)) := by rfl) (h2 : S[n]? = some (some (.lst ds0)) := by rfl) : Wp (mMet i g fs ρ S) Q E := by
  unfold mMet
  rw [h1]
  dsimp only
  rw [h2]
  dsimp only
  refine Wp.bind (h.mono (fun ys S1 q => ?_) fun _ _ q => q)
  obtain ⟨ds, ds', d, e1, e2, q⟩ := q
  rw [e1]
  dsimp only
  rw [e2]
  exact q
theorem wconsV {Q : List EV → Store → Prop} {fa : DEn} {fs : DAn} (h : Wp (fa ρ S) (fun x S1 => Wp (fs ρ S1) (fun xs S2 => Q (.v x :: xs) S2) E) E) : Wp (mConsE (mV fa) fs ρ S) Q E := by
  rw [ev_ConsE, ev_V]
  exact Wp.bind (Wp.bind (h.mono (fun x S1 q => Wp.bind q) fun _ _ q => q))
theorem wconsN {Q : List EV → Store → Prop} {fs : DAn} {f0 : DDn} {xs : List D} (h0 : f0 ρ S = .ok xs S) (hl : xs.length ≤ 1000) (h : Wp (fs ρ (S ++ [some (.lst xs)])) (fun ys S2 => Q (.cel S.length :: ys) S2) E) : Wp (mConsE (mNew f0) fs ρ S) Q E := by
  rw [ev_ConsE]
  have : mNew f0 ρ S = .ok (.cel S.length) (S ++ [some (.lst xs)]) := by
    unfold mNew
    rw [h0, ev_bind_ok, if_pos (by rw [lim_is]; omega)]
  rw [this]
  refine Wp.bind ?_
  show Wp ((fs ρ (S ++ [some (.lst xs)])).bind _) _ _
  exact Wp.bind h
theorem wnilE {Q : List EV → Store → Prop} (h : Q [] S) : Wp (mNilE ρ S) Q E := h
theorem wpar2 {Q : Ctl × DL.Env → Store → Prop} {i j : Nat} {fs : DAn} (h : Wp (fs ρ S) (fun es S1 => ∃ u v, es = [u, v] ∧ Q (.nx, (ρ.set i (some u)).set j (some v)) S1) (fun x S1 => Q (.ex x, ρ) S1)) : Wp (mPar2 i j fs ρ S) Q E := by
  rw [ev_Par2]
  refine Wp.bindS (h.mono (fun es S1 q => ?_) fun _ _ q => q)
  obtain ⟨u, v, rfl, q⟩ := q
  exact q
theorem wpar3 {Q : Ctl × DL.Env → Store → Prop} {i j l : Nat} {fs : DAn} (h : Wp (fs ρ S) (fun es S1 => ∃ u v w, es = [u, v, w] ∧ Q (.nx, ((ρ.set i (some u)).set j (some v)).set l (some w)) S1) (fun x S1 => Q (.ex x, ρ) S1)) : Wp (mPar3 i j l fs ρ S) Q E := by
  rw [ev_Par3]
  refine Wp.bindS (h.mono (fun es S1 q => ?_) fun _ _ q => q)
  obtain ⟨u, v, w, rfl, q⟩ := q
  exact q
theorem wrg1 {Q : List D → Store → Prop} {f : DEn} (h : Wp (f ρ S) (fun d S1 => ∃ n : Nat, d = .int (n : Int) ∧ n ≤ 1000000000 ∧ Q ((List.range n).map nI) S1) E) : Wp (mRg1 f ρ S) Q E := by
  unfold mRg1
  refine Wp.bind (h.mono (fun d S1 q => ?_) fun _ _ q => q)
  obtain ⟨n, rfl, hn, q⟩ := q
  show Wp (if (n : Int) ≤ 1000000000 ∧ -1000000000 ≤ (n : Int) then Out.ok (rgD 0 (n : Int)) S1 else .bad) Q E
  rw [if_pos ⟨by omega, by omega⟩, rgD_nat]
  exact q
/-- a loop over what is drawn first -/
theorem wforI {Q : Ctl × DL.Env → Store → Prop} {f : DSn} {fi : DDn} {t : Tg} (hi : Wp (fi ρ S) (fun ds S1 => Wp (forL t f ds ρ S1) Q E) (fun x S1 => Q (.ex x, ρ) S1)) : Wp (mFor fi t f ρ S) Q E := by
  rw [ev_For]
  exact Wp.bindS hi
theorem range_get {n j : Nat} {d : D} (h : ((List.range n).map nI)[j]? = some d) : j < n ∧ d = nI j := by
  obtain ⟨h1, h2⟩ := List.getElem?_eq_some_iff.mp h
  have hj : j < n := by simpa using h1
  refine ⟨hj, ?_⟩
  rw [← h2]
  simp
end

section
variable {E : Exn → Store → Prop} {ρ : DL.Env} {S : Store}
/-- a lambda whose body draws and raises -/
theorem wlamX {Q : D → Store → Prop} {N i : Nat} {cat : Str → Option Bool} {fs fr : DSn} {fb : DEn} (h : Wp (fb ρ S) (fun x S1 => False) (fun x S1 => ∃ r, lamEnd N i cat fs fr (.ex x S1) = .ok r S1 ∧ Q r S1)) : Wp (mLam N i cat fs fr fb ρ S) Q E := by
  unfold mLam
  cases e : fb ρ S with
  | ok a S1 => rw [e] at h; exact h.elim
  | bad => rw [e] at h; exact h.elim
  | ex x S1 =>
    rw [e] at h
    obtain ⟨r, e1, q⟩ := h
    rw [e1]
    exact q
theorem app_cell {i : Nat} {f : DEn} {ds : List D} {x : D} (h : f ρ S = .ok x S) (hl : ds.length ≤ 1000) (hi : ρ[i]? = some (some (.v (.lst ds))) := by rfl) : mSet i (mNewCat (mV (mVar i)) (mV (mLst (mCons f mNil)))) ρ S = .ok (.nx, ρ.set i (some (.cel S.length))) (S ++ [some (.lst (ds ++ [x]))]) := by
  rw [ev_Set]
  have e1 : mV (mVar i) ρ S = .ok (.v (.lst ds)) S := by rw [ev_V, ev_var hi]; rfl
  have e2 : mV (mLst (mCons f mNil)) ρ S = .ok (.v (.lst [x])) S := by rw [ev_V, l1 h]; rfl
  have e : mNewCat (mV (mVar i)) (mV (mLst (mCons f mNil))) ρ S = .ok (.cel S.length) (S ++ [some (.lst (ds ++ [x]))]) := by
    unfold mNewCat mCatWith
    rw [e1, ev_bind_ok, e2, ev_bind_ok]
    show (if ds.length + [x].length ≤ lim then _ else _) = _
    rw [if_pos (by rw [lim_is]; simp; omega)]
  rw [e]
  rfl
theorem l1s {fa : DEn} {x : D} (ha : fa ρ S = .ok x S) : mLst (mCons fa mNil) ρ S = .ok (.lst [x]) S := l1 ha
theorem t1w {fa : DEn} {x : D} (ha : fa ρ S = .ok x S) : mTup (mCons fa mNil) ρ S = .ok (.tup [x]) S := by
  rw [ev_Tup, ev_Cons, ha]
  show (if ([x] : List D).length ≤ lim then Out.ok (D.tup [x]) S else .bad) = _
  rw [if_pos (by rw [lim_is]; simp)]
end

section
variable {ρ : DL.Env} {S : Store}
/-- another answer behind those of a cell -/
theorem cat_lam {i n : Nat} {f : DEn} {ds : List D} {x : D} (h : f ρ S = .ok x S) (hl : ds.length ≤ 1000) (hS : S[n]? = some (some (.lst ds))) (hi : ρ[i]? = some (some (.cel n)) := by rfl) : mSet i (mV (mCat (mCel i) (mV (mLst (mCons f mNil))))) ρ S = .ok (.nx, ρ.set i (some (.v (.lst (ds ++ [x]))))) S := by
  refine st_set ?_
  have e1 : mCel i ρ S = .ok (.cel n) S := by unfold mCel; rw [hi]
  have e2 : mV (mLst (mCons f mNil)) ρ S = .ok (.v (.lst [x])) S := by rw [ev_V, l1 h]; rfl
  unfold mCat mCatWith
  rw [e1, ev_bind_ok, e2, ev_bind_ok]
  have e3 : lstOf S (.cel n) = some ds := by
    show (match S[n]? with
      | some (some (.lst ds)) => some ds
      | _ => none) = _
    rw [hS]
  rw [e3]
  show (if ds.length + [x].length ≤ lim then Out.ok (D.lst (ds ++ [x])) S else _) = _
  rw [if_pos (by rw [lim_is]; simp; omega)]
theorem met_lam {i n : Nat} {f : DEn} {ds : List D} {x : D} (h : f ρ S = .ok x S) (hl : ds.length ≤ 1000) (hS : S[n]? = some (some (.lst ds))) (hi : ρ[i]? = some (some (.cel n)) := by rfl) : mDrop (mMet i gApp (mCons f mNil)) ρ S = .ok (.nx, ρ) (S.set n (some (.lst (ds ++ [x])))) := by
  rw [ev_Drop, metL (ys := [x]) (ds := ds) (ds' := ds ++ [x]) (d := .non) hi hS (by rw [ev_Cons, h]; rfl) (by
    show (if ds.length < lim then some (ds ++ [x], D.non) else none) = _
    rw [if_pos (by rw [lim_is]; omega)])]
  rfl
theorem tail_get (c : Cell) (R : Store) (x : Cell) : (some c :: R ++ [some x])[R.length + 1]? = some (some x) := by
  rw [List.cons_append, List.getElem?_cons_succ, List.getElem?_append_right (Nat.le_refl _)]
  simp
theorem tail_set (c : Cell) (R : Store) (x y : Cell) : (some c :: R ++ [some x]).set (R.length + 1) (some y) = some c :: R ++ [some y] := by
  rw [List.cons_append, List.set_cons_succ, List.set_append_right _ _ (Nat.le_refl _)]
  simp
theorem cons1 {fa : DEn} {fs : DDn} {S1 S2 : Store} {x : D} {xs : List D} (h : fa ρ S = .ok x S1) (h2 : fs ρ S1 = .ok xs S2) : mCons fa fs ρ S = .ok (x :: xs) S2 := by
  rw [ev_Cons, h, ev_bind_ok, h2]; rfl
theorem lstOk {fs : DDn} {S1 : Store} {xs : List D} (h : fs ρ S = .ok xs S1) (hl : xs.length ≤ 1000) : mLst fs ρ S = .ok (.lst xs) S1 := by
  rw [ev_Lst, h, ev_bind_ok, if_pos (by rw [lim_is]; omega)]
theorem tupOk {fs : DDn} {S1 : Store} {xs : List D} (h : fs ρ S = .ok xs S1) (hl : xs.length ≤ 1000) : mTup fs ρ S = .ok (.tup xs) S1 := by
  rw [ev_Tup, h, ev_bind_ok, if_pos (by rw [lim_is]; omega)]
theorem denB_ex {N : Nat} {f : DSn} {es : List EV} {ρ1 : DL.Env} {S S1 : Store} {x : Exn} (h : f (es.map some ++ List.replicate (N - es.length) none) S = .ok (.ex x, ρ1) S1) : denB N f es S = .ex x (S1.take S.length) := by unfold denB; rw [h]
theorem seq_ex {f g : DSn} {ρ ρ1 : DL.Env} {S S1 : Store} {x : Exn} (h : f ρ S = .ok (.ex x, ρ1) S1) : mSeq f g ρ S = .ok (.ex x, ρ1) S1 := by unfold mSeq; rw [h]
theorem drop_ex {f : DEn} {ρ : DL.Env} {S : Store} {x : Exn} (h : f ρ S = .ex x S) : mDrop f ρ S = .ok (.ex x, ρ) S := by rw [ev_Drop, h]; rfl
theorem drop_ok {f : DEn} {ρ : DL.Env} {S S1 : Store} {d : D} (h : f ρ S = .ok d S1) : mDrop f ρ S = .ok (.nx, ρ) S1 := by rw [ev_Drop, h]; rfl
theorem set_ex {i : Nat} {f : DEn} {ρ : DL.Env} {S : Store} {x : Exn} (h : f ρ S = .ex x S) : mSet i (mV f) ρ S = .ok (.ex x, ρ) S := by rw [ev_Set, ev_V, h]; rfl
theorem forL_ex {tg : Tg} {body : DSn} {d : D} {ds : List D} {ρ ρ1 ρ2 : DL.Env} {S S2 : Store} {x : Exn} (h1 : asg tg d ρ = some ρ1) (h2 : body ρ1 S = .ok (.ex x, ρ2) S2) : forL tg body (d :: ds) ρ S = .ok (.ex x, ρ2) S2 := by
  conv => lhs; unfold forL
  rw [h1]
  dsimp only
  rw [h2]
theorem wrongL_at {F : D → Store → Out D} {S : Store} {d : D} {rest : List D} (hd : F d S = .ok (.bl false) S) : ∀ (ds : List D) (k : Nat), (∀ x ∈ ds, F x S = .ok (.bl true) S) → wrongL F (ds ++ d :: rest) k S = .ok (nI (k + ds.length)) S
  | [], k, _ => by
    show wrongL F (d :: rest) k S = _
    unfold wrongL
    rw [hd]
    rfl
  | x :: ds, k, h => by
    rw [List.cons_append]
    unfold wrongL
    rw [h x List.mem_cons_self]
    dsimp only
    rw [show (D.bl true).tru = some true from rfl]
    dsimp only
    rw [wrongL_at hd ds (k + 1) fun y hy => h y (List.mem_cons_of_mem _ hy), List.length_cons, show k + 1 + ds.length = k + (ds.length + 1) by omega]
end

theorem wdrawn3 {E : Exn → Store → Prop} {ρ : DL.Env} {S : Store} {Q : D → Store → Prop} {F : Den} {i n : Nat} {c : Cell} {fb fd : DEn} {x y : D} {R : D → Prop} (hB : fb ρ S = .ok x S) (hD : fd ρ S = .ok y S) (hF : ∃ d c', F [.cel 0, .v x, .v y] [some c] = .ok d [some c'] ∧ RowOk c' ∧ R d) (hρ : ρ[i]? = some (some (.cel n)) := by rfl) (hS : S[n]? = some (some c) := by rfl)
    (q : ∀ d c', R d → RowOk c' → Q d (S.set n (some c'))) : Wp (mCall F 3 (mConsE (mCel i) (mConsE (mV fb) (mConsE (mV fd) mNilE))) ρ S) Q E := by
  obtain ⟨d, c', e, hc', hR⟩ := hF
  refine Wp.ok ?_ (q d c' hR hc')
  have k := callC3 (S := S) (n := n) (F := F) hS e
  have hcel : mCel i ρ S = .ok (.cel n) S := by unfold mCel; rw [hρ]
  rw [ev_Call, ev_ConsE, hcel]
  simp only [ev_bind_ok, ev_ConsE, ev_V, hB, hD, ev_NilE, List.length_cons, List.length_nil, Nat.zero_add, if_true]
  exact k

theorem wcmp {E : Exn → Store → Prop} {ρ : DL.Env} {S : Store} {Q : Bool → Store → Prop} {fa fb : DEn} {g : D → D → Option Bool} (h : Wp (fa ρ S) (fun x S1 => Wp (fb ρ S1) (fun y S2 => ∃ z, g x y = some z ∧ Q z S2) E) E) : Wp (mCmp g fa fb ρ S) Q E := by
  rw [ev_Cmp]
  exact Wp.bind (h.mono (fun x S1 q => Wp.bind (q.mono (fun y S2 ⟨z, e, q⟩ => by rw [e]; exact q) fun _ _ q => q)) fun _ _ q => q)

theorem wnx {E : Exn → Store → Prop} {ρ : DL.Env} {S : Store} {f : DSn} {I : DL.Env → Store → Prop} {Q : Ctl × DL.Env → Store → Prop} (h : Wp (f ρ S) (fun cr S1 => cr.1 = Ctl.nx ∧ I cr.2 S1) (fun _ _ => False)) (q : ∀ ρ1 S1, I ρ1 S1 → Q (.nx, ρ1) S1) : Wp (f ρ S) Q E :=
  h.mono (fun cr S1 k => by
    obtain ⟨c, r⟩ := cr
    obtain ⟨rfl, k2⟩ : c = Ctl.nx ∧ I r S1 := k
    exact q _ _ k2) fun _ _ k => k.elim

/-- a comprehension of one clause without a condition -/
theorem wlcL {E : Exn → Store → Prop} {Q : List D → Store → Prop} {tg : Tg} {fe : DEn} {ρ : DL.Env} (I : Nat → List D → Store → Prop) : ∀ (ds : List D) (k : Nat) {acc : List D} {S : Store}, I k acc S →
    (∀ (j : Nat) (d : D) (acc : List D) (S : Store), ds[j]? = some d → I (k + j) acc S → ∃ ρ1, asg tg d ρ = some ρ1 ∧ Wp (fe ρ1 S) (fun y S1 => acc.length < lim ∧ I (k + j + 1) (acc ++ [y]) S1) (fun _ _ => False)) →
    (∀ acc S, I (k + ds.length) acc S → Q acc S) → Wp (lcL tg mYes fe ρ ds S acc) Q E
  | [], k, acc, S, h0, _, he => he acc S h0
  | d :: ds, k, acc, S, h0, hs, he => by
    obtain ⟨ρ1, e1, w⟩ := hs 0 d acc S rfl h0
    unfold lcL
    rw [e1]
    dsimp only
    rw [show mYes ρ1 S = .ok true S from rfl]
    simp only [ev_bd_ok, if_true]
    cases e : fe ρ1 S with
    | bad => rw [e] at w; exact w.elim
    | ex x S1 => rw [e] at w; exact w.elim
    | ok y S1 =>
      rw [e] at w
      obtain ⟨hl, h1⟩ := w
      simp only [ev_bd_ok]
      rw [if_pos hl]
      refine wlcL I ds (k + 1) (by simpa using h1) (fun j d acc S hd hI => ?_) fun acc S h => he acc S (by rw [List.length_cons, show k + (ds.length + 1) = k + 1 + ds.length by omega]; exact h)
      have := hs (j + 1) d acc S (by simpa using hd) (by rw [show k + (j + 1) = k + 1 + j by omega]; exact hI)
      rw [show k + (j + 1) + 1 = k + 1 + j + 1 by omega] at this
      exact this
theorem wlc {E : Exn → Store → Prop} {Q : D → Store → Prop} {fi : DDn} {tg : Tg} {fe : DEn} {vs : List Nat} {ρ : DL.Env} {S : Store} (h : Wp (fi ρ S) (fun ds S1 => Wp (lcL tg mYes fe (wipeE ρ vs) ds S1 []) (fun ys S2 => Q (.lst ys) S2) E) E) : Wp (mLc fi tg mYes fe vs ρ S) Q E := by
  rw [ev_Lc]
  exact Wp.bind (h.mono (fun ds S1 q => Wp.bind q) fun _ _ q => q)
theorem wbi {E : Exn → Store → Prop} {Q : D → Store → Prop} {gg : List D → Option D} {fs : DDn} {ρ : DL.Env} {S : Store} (h : Wp (fs ρ S) (fun xs S1 => ∃ d, gg xs = some d ∧ Q d S1) E) : Wp (mBi gg fs ρ S) Q E := by
  rw [ev_Bi]
  exact Wp.bind (h.mono (fun xs S1 ⟨d, e, q⟩ => by rw [e]; exact q) fun _ _ q => q)
/-- a comprehension's list as a new cell -/
theorem wsetLcV {E : Exn → Store → Prop} {Q : Ctl × DL.Env → Store → Prop} {i : Nat} {fi : DDn} {tg : Tg} {fe : DEn} {vs : List Nat} {ρ : DL.Env} {S : Store} (h : Wp (fi ρ S) (fun ds S1 => Wp (lcL tg mYes fe (wipeE ρ vs) ds S1 []) (fun ys S2 => Q (.nx, ρ.set i (some (.cel S2.length))) (S2 ++ [some (.lst ys)])) (fun x S1 => Q (.ex x, ρ) S1)) (fun x S1 => Q (.ex x, ρ) S1)) : Wp (mSetLcV i (mNewLc fi tg mYes fe vs) ρ S) Q E := by
  unfold mSetLcV mNewLc
  exact Wp.bindS (Wp.bind (h.mono (fun ds S1 q => Wp.bind q) fun _ _ q => q))
end Pr

/-! helpers over the layer: dicts of ints and texts -/
namespace Pr
open PySem L2 DL
/-- the first statement is done, the rest follows (no then_ for the unifier to open) -/
theorem wsq {Q : Ctl × DL.Env → Store → Prop} {E : Exn → Store → Prop} {f g : DSn} {ρ ρ1 : DL.Env} {S S1 : Store} (h : f ρ S = .ok (.nx, ρ1) S1) (k : Wp (g ρ1 S1) Q E) : Wp (mSeq f g ρ S) Q E := wseq (Wp.ok h (wthen k))
def NoX : Exn → Store → Prop := fun _ _ => False
/-- it ends without a jump, and I holds -/
def Nx (I : DL.Env → Store → Prop) : Ctl × DL.Env → Store → Prop := fun cr S => cr.1 = Ctl.nx ∧ I cr.2 S
theorem Nx.mk {I : DL.Env → Store → Prop} {ρ : DL.Env} {S : Store} (h : I ρ S) : Nx I (.nx, ρ) S := ⟨rfl, h⟩
theorem wsqW {Q : Ctl × DL.Env → Store → Prop} {E : Exn → Store → Prop} {f g : DSn} {ρ : DL.Env} {S : Store} {I : DL.Env → Store → Prop} (h : Wp (f ρ S) (Nx I) NoX) (k : ∀ ρ1 S1, I ρ1 S1 → Wp (g ρ1 S1) Q E) : Wp (mSeq f g ρ S) Q E := wseq (wnx h fun ρ1 S1 i => wthen (k ρ1 S1 i))
/-- a turn that ends without a jump, as wloop asks for it -/
theorem wturn {Q : Ctl × DL.Env → Store → Prop} {f : DSn} {ρ : DL.Env} {S : Store} {I : DL.Env → Store → Prop} (h : Wp (f ρ S) (Nx I) NoX) (q : ∀ ρ1 S1, I ρ1 S1 → Q (.nx, ρ1) S1) : Wp (f ρ S) Q (fun _ _ => False) :=
  h.mono (fun cr S1 k => by
    obtain ⟨c, r⟩ := cr
    obtain ⟨rfl, k2⟩ : c = Ctl.nx ∧ I r S1 := k
    exact q _ _ k2) fun _ _ k => k.elim
/-- a draw whose bound is drawn -/
theorem wdrawW {E : Exn → Store → Prop} {ρ : DL.Env} {S : Store} {Q : D → Store → Prop} {F : Den} {i n : Nat} {fb : DEn} (hB : Wp (fb ρ S) (fun d S1 => ∃ B c, d = .int B ∧ 0 < B ∧ B < 1073741824 ∧ RowOk c ∧ S1[n]? = some (some c) ∧ ∀ a c', 0 ≤ a → a < B → RowOk c' → Q (.int a) (S1.set n (some c'))) E) (hρ : ρ[i]? = some (some (.cel n)) := by rfl) (hF : F = cd_taken := by rfl) : Wp (mCall F 2 (mConsE (mCel i) (mConsE (mV fb) mNilE)) ρ S) Q E := by
  subst hF
  have hcel : ∀ S, mCel i ρ S = .ok (.cel n) S := fun S => by unfold mCel; rw [hρ]
  rw [ev_Call, ev_ConsE, hcel, ev_bind_ok, ev_ConsE, ev_V]
  refine Wp.bind (Wp.bind (Wp.bind (Wp.bind (hB.mono (fun d S1 q => ?_) fun _ _ q => q))))
  obtain ⟨B, c, rfl, h0, h1, hc, hS, q⟩ := q
  obtain ⟨a, c', a0, a1, hc', e⟩ := taken hc h0 h1
  have k := callC2 (S := S1) (n := n) (F := cd_taken) hS e
  show Wp (callD cd_taken [.cel n, .v (.int B)] S1) Q E
  rw [k]
  exact q a c' a0 a1 hc'
theorem ixDk {i n : Nat} {fb : DEn} {ρ : DL.Env} {S : Store} {kvs : List KD} {y d : D} {k : L2.Key} (h1 : ρ[i]? = some (some (.cel n))) (h2 : S[n]? = some (some (.dk kvs))) (h3 : fb ρ S = .ok y S) (h4 : keyD y = some k) (h5 : valD kvs k = some d) : mIxD i fb ρ S = .ok d S := by
  unfold mIxD
  rw [h1]
  dsimp only
  rw [h3, ev_bind_ok, h4, h2]
  dsimp only
  rw [h5]
  rfl
theorem putDk {i n : Nat} {fi : DEn} {ρ : DL.Env} {S : Store} {kvs : List KD} {y d : D} {k : L2.Key} (h1 : ρ[i]? = some (some (.cel n))) (h2 : S[n]? = some (some (.dk kvs))) (h3 : fi ρ S = .ok y S) (h4 : keyD y = some k) (h5 : kvs.length ≤ 1000) : gDk i fi d ρ S = .ok ρ (S.set n (some (.dk (putD kvs k d)))) := by
  unfold gDk
  rw [h1]
  dsimp only
  rw [h3, ev_bd_ok, h4, h2]
  dsimp only
  rw [if_pos (by omega)]
/-- it returns v -/
def Rt (v : D) : Ctl × DL.Env → Store → Prop := fun cr _ => ∃ ρ, cr = (.rt v, ρ)
theorem rtI {v : D} {ρ : DL.Env} {S : Store} : Rt v (.rt v, ρ) S := ⟨ρ, rfl⟩
theorem denR {N : Nat} {f : DSn} {es : List EV} {v : D} (h : Wp (f (es.map some ++ List.replicate (N - es.length) none) []) (Rt v) NoX) : denB N f es [] = .ok v [] := by
  unfold denB
  cases e : f (es.map some ++ List.replicate (N - es.length) none) [] with
  | bad => rw [e] at h; exact h.elim
  | ex x S1 => rw [e] at h; exact h.elim
  | ok cr S1 =>
    rw [e] at h
    obtain ⟨ρ, rfl⟩ : Rt v cr S1 := h
    rfl
theorem rets {f : DEn} {v : D} {ρ : DL.Env} {S S1 : Store} (h : f ρ S = .ok v S1) : Wp (mRet f ρ S) (Rt v) NoX := wret (Wp.ok h rtI)
/-- a dict of numbers: what f tells of each of l -/
def LD {α : Type} (e : α → D) (f : Nat → α) (l : List Nat) : List KD := l.map fun j : Nat => ((Sum.inl (j : Int) : L2.Key), e (f j))
theorem LD_val {α : Type} {e : α → D} {f : Nat → α} {j : Nat} : ∀ {l : List Nat}, j ∈ l → valD (LD e f l) (.inl (j : Int)) = some (e (f j))
  | [], h => by cases h
  | x :: l, h => by
    by_cases hx : x = j
    · subst hx
      simp [LD, valD, List.find?_cons]
    · have hj : j ∈ l := by
        rcases List.mem_cons.mp h with z | z
        · exact absurd z.symm hx
        · exact z
      have := LD_val (e := e) (f := f) hj
      have ne : ¬ ((Sum.inl (x : Int) : L2.Key) = .inl (j : Int)) := fun z => hx (by injection z with z; omega)
      have e1 : valD (LD e f (x :: l)) (.inl (j : Int)) = valD (LD e f l) (.inl (j : Int)) := by
        show ((((Sum.inl (x : Int), e (f x)) :: LD e f l).find? fun kv => decide (kv.1 = .inl (j : Int))).map (·.2)) = _
        rw [List.find?_cons, decide_eq_false (p := ((Sum.inl (x : Int) : L2.Key) = .inl (j : Int))) ne]
        rfl
      rw [e1, this]
theorem LD_any {α : Type} {e : α → D} {f : Nat → α} {j : Nat} {l : List Nat} : ((LD e f l).any fun kv => decide (kv.1 = (.inl (j : Int) : L2.Key))) = decide (j ∈ l) := by
  induction l with
  | nil => rfl
  | cons x l ih =>
    show ((((Sum.inl (x : Int), e (f x)) : KD) :: LD e f l).any fun kv => decide (kv.1 = .inl (j : Int))) = _
    rw [List.any_cons, ih]
    have : decide ((Sum.inl (x : Int) : L2.Key) = .inl (j : Int)) = decide (j = x) := decide_eq_decide.mpr ⟨fun z => by injection z with z; omega, fun z => by rw [z]⟩
    rw [this]
    by_cases h : j = x <;> simp [h]
theorem LD_val0 {α : Type} {e : α → D} {f : Nat → α} {j : Nat} {l : List Nat} (h : j ∉ l) : valD (LD e f l) (.inl (j : Int)) = none := by
  unfold valD
  have : (LD e f l).find? (fun kv => decide (kv.1 = (.inl (j : Int) : L2.Key))) = none := by
    rw [List.find?_eq_none]
    intro kv hk
    have a := LD_any (e := e) (f := f) (j := j) (l := l)
    rw [decide_eq_false h] at a
    have := List.any_eq_false.mp a kv hk
    exact this
  rw [this]; rfl
theorem LD_put {α : Type} {e : α → D} {f : Nat → α} {j : Nat} {l : List Nat} (h : j ∉ l) (x : D) : putD (LD e f l) (.inl (j : Int)) x = LD e f l ++ [(.inl (j : Int), x)] := by
  unfold putD
  rw [LD_any, decide_eq_false h]
  rfl
theorem LD_snoc {α : Type} {e : α → D} {f : Nat → α} {j : Nat} {l : List Nat} : LD e f l ++ [((.inl (j : Int) : L2.Key), e (f j))] = LD e f (l ++ [j]) := by
  unfold LD
  rw [List.map_append]
  rfl
theorem LD_len {α : Type} {e : α → D} {f : Nat → α} {l : List Nat} : (LD e f l).length = l.length := List.length_map _
theorem LD_put2 {α : Type} {e : α → D} {f : Nat → α} {j : Nat} {l : List Nat} (h : j ∉ l) (x y : D) : putD (LD e f l ++ [(.inl (j : Int), x)]) (.inl (j : Int)) y = LD e f l ++ [(.inl (j : Int), y)] := by
  unfold putD
  rw [if_pos (by simp)]
  rw [List.map_append]
  congr 1
  · have : ∀ kv ∈ LD e f l, (fun kv : KD => if kv.1 = (.inl (j : Int) : L2.Key) then (kv.1, y) else kv) kv = kv := fun kv hk => by
      have a := LD_any (e := e) (f := f) (j := j) (l := l)
      rw [decide_eq_false h] at a
      have := List.any_eq_false.mp a kv hk
      exact if_neg (by simpa using this)
    rw [List.map_congr_left this]
    exact List.map_id' _
  · simp
theorem LD_val2 {α : Type} {e : α → D} {f : Nat → α} {j : Nat} {l : List Nat} (h : j ∉ l) (x : D) : valD (LD e f l ++ [(.inl (j : Int), x)]) (.inl (j : Int)) = some x := by
  have a := LD_val0 (e := e) (f := f) h
  unfold valD at a ⊢
  rw [Option.map_eq_none_iff] at a
  rw [List.find?_append, a]
  simp
end Pr

/-! plain values, the defs that many laws share -/
namespace Cm
open PySem L2 DL Pr
/-- plain values without bools, at most n deep -/
inductive Sm : Nat → D → Prop
  | non (n : Nat) : Sm n .non
  | int (n : Nat) (i : Int) : Sm n (.int i)
  | str (n : Nat) (z : Str) : (D.str z).okd = true → Sm n (.str z)
  | tup (n : Nat) (ds : List D) : (∀ d ∈ ds, Sm n d) → Sm (n + 1) (.tup ds)
  | lst (n : Nat) (ds : List D) : (∀ d ∈ ds, Sm n d) → Sm (n + 1) (.lst ds)
def Lay (k : Nat) (d : D) : Prop := d.py.canLay0 = true ∧ d.py.depth ≤ k
theorem lay_all {k : Nat} : ∀ {ds : List D}, (∀ d ∈ ds, Lay k d) → PyData.canLayAll0 (D.pys ds) = true ∧ PyData.depthAll (D.pys ds) ≤ k
  | [], _ => ⟨rfl, Nat.zero_le _⟩
  | d :: ds, h => by
    obtain ⟨a, b⟩ := h d List.mem_cons_self
    obtain ⟨a', b'⟩ := lay_all (ds := ds) fun d hd => h d (List.mem_cons_of_mem _ hd)
    refine ⟨?_, ?_⟩
    · show (d.py.canLay0 && PyData.canLayAll0 (D.pys ds)) = true
      rw [a, a']; rfl
    · show max d.py.depth (PyData.depthAll (D.pys ds)) ≤ k
      omega
theorem lay_tup {k : Nat} {ds : List D} (h : ∀ d ∈ ds, Lay k d) : Lay (k + 1) (.tup ds) := ⟨(lay_all h).1, Nat.succ_le_succ (lay_all h).2⟩
theorem lay_lst {k : Nat} {ds : List D} (h : ∀ d ∈ ds, Lay k d) : Lay (k + 1) (.lst ds) := ⟨(lay_all h).1, Nat.succ_le_succ (lay_all h).2⟩
theorem lay_okd {k : Nat} {d : D} (h : Lay k d) (hk : k ≤ 64) : d.okd = true := by
  show (d.py.canLay0 && decide (d.py.depth ≤ 64)) = true
  rw [h.1, decide_eq_true (Nat.le_trans h.2 hk)]
  rfl
theorem lay_int {k : Nat} (n : Int) : Lay k (.int n) := ⟨rfl, Nat.zero_le _⟩
theorem lay_bl {k : Nat} (b : Bool) : Lay k (.bl b) := ⟨rfl, Nat.zero_le _⟩
theorem lay_str {k : Nat} {z : Str} (h : (D.str z).okd = true) : Lay k (.str z) := by
  have h : ((D.str z).py.canLay0 && decide ((D.str z).py.depth ≤ 64)) = true := h
  rw [Bool.and_eq_true] at h
  exact ⟨h.1, Nat.zero_le _⟩
theorem Sm.lay {n : Nat} {d : D} (h : Sm n d) : Lay n d := by
  induction h with
  | non n => exact ⟨rfl, Nat.zero_le _⟩
  | int n i => exact lay_int i
  | str n z h => exact lay_str h
  | tup n ds _ ih => exact lay_tup ih
  | lst n ds _ ih => exact lay_lst ih
theorem Sm.okd {n : Nat} {d : D} (h : Sm n d) (hn : n ≤ 64) : d.okd = true := lay_okd h.lay hn
theorem zip_iff {n m : Nat} : ∀ {ds es : List D}, (∀ d ∈ ds, ∀ {e : D}, Sm m e → (deq d e = true ↔ d = e)) → (∀ e ∈ es, Sm m e) → ((decide (ds.length = es.length) && (List.zipWith deq ds es).all id) = true ↔ ds = es)
  | [], [], _, _ => by simp
  | [], e :: es, _, _ => by simp
  | d :: ds, [], _, _ => by simp
  | d :: ds, e :: es, h, h' => by
    have a := h d List.mem_cons_self (h' e List.mem_cons_self)
    have b := zip_iff (n := n) (ds := ds) (es := es) (fun d hd => h d (List.mem_cons_of_mem _ hd)) fun e he => h' e (List.mem_cons_of_mem _ he)
    simp only [List.length_cons, List.zipWith_cons_cons, List.all_cons, id, Bool.and_eq_true, decide_eq_true_eq, List.cons.injEq, Nat.add_right_cancel_iff] at b ⊢
    rw [← b, ← a]
    constructor
    · rintro ⟨x, y, z⟩; exact ⟨y, x, z⟩
    · rintro ⟨y, x, z⟩; exact ⟨x, y, z⟩
theorem Sm.deq {n m : Nat} {d e : D} (h : Sm n d) (h' : Sm m e) : DL.deq d e = true ↔ d = e := by
  induction h generalizing m e with
  | non n => cases h' <;> first | exact ⟨fun _ => rfl, fun _ => rfl⟩ | exact ⟨fun z => (by cases z), fun z => (by cases z)⟩
  | int n i =>
    cases h' with
    | int m j =>
      rw [deq_ii]
      constructor
      · intro z; rw [beq_iff_eq] at z; rw [z]
      · intro z; cases z; simp
    | _ => exact ⟨fun z => (by cases z), fun z => (by cases z)⟩
  | str n z _ =>
    cases h' with
    | str m y _ =>
      rw [deq_ss]
      constructor
      · intro k; rw [beq_iff_eq] at k; rw [k]
      · intro k; cases k; simp
    | _ => exact ⟨fun z => (by cases z), fun z => (by cases z)⟩
  | tup n ds _ ih =>
    cases h' with
    | tup m es he =>
      rw [deq_tt, zip_iff (n := n) (fun d hd _ k => ih d hd k) he]
      exact ⟨fun z => by rw [z], fun z => by cases z; rfl⟩
    | _ => exact ⟨fun z => (by cases z), fun z => (by cases z)⟩
  | lst n ds _ ih =>
    cases h' with
    | lst m es he =>
      rw [deq_ll, zip_iff (n := n) (fun d hd _ k => ih d hd k) he]
      exact ⟨fun z => by rw [z], fun z => by cases z; rfl⟩
    | _ => exact ⟨fun z => (by cases z), fun z => (by cases z)⟩
theorem bool_of {a b : Bool} {p : Prop} (h : a = true ↔ p) (h' : b = true ↔ p) : a = b := by
  cases a <;> cases b <;> simp_all
theorem gEq_sm {n m : Nat} {d e : D} {b : Bool} (h : Sm n d) (h' : Sm m e) (hn : n ≤ 64) (hm : m ≤ 64) (hb : b = true ↔ d = e) : gEq d e = some b := by
  have : gEq d e = some (DL.deq d e) := if_pos ⟨h.okd hn, h'.okd hm⟩
  rw [this, bool_of (h.deq h') hb]
theorem gNe_sm {n m : Nat} {d e : D} {b : Bool} (h : Sm n d) (h' : Sm m e) (hn : n ≤ 64) (hm : m ≤ 64) (hb : b = true ↔ d = e) : gNe d e = some (!b) := by
  have : gNe d e = some (!DL.deq d e) := if_pos ⟨h.okd hn, h'.okd hm⟩
  rw [this, bool_of (h.deq h') hb]
/-- x in [..], the values images of data of one kind -/
theorem gIn_sm {α : Type} [DecidableEq α] {n : Nat} {emb : α → D} (he : ∀ a, Sm n (emb a)) (hn : n < 64) (hi : ∀ a b, emb a = emb b → a = b) (a : α) (l : List α) : gIn (emb a) (.lst (l.map emb)) = some (decide (a ∈ l)) := by
  have ok : (D.lst (l.map emb)).okd = true := (Sm.lst n _ fun d hd => by obtain ⟨x, _, rfl⟩ := List.mem_map.mp hd; exact he x).okd (by omega)
  have e : gIn (emb a) (.lst (l.map emb)) = some ((l.map emb).any fun z => DL.deq z (emb a)) := if_pos ⟨(he a).okd (by omega), ok⟩
  rw [e]
  congr 1
  refine bool_of (p := a ∈ l) ?_ (by simp)
  rw [List.any_eq_true]
  constructor
  · rintro ⟨d, hd, q⟩
    obtain ⟨x, hx, rfl⟩ := List.mem_map.mp hd
    rw [(he x).deq (he a)] at q
    rw [← hi _ _ q]; exact hx
  · intro h
    exact ⟨emb a, List.mem_map.mpr ⟨a, h, rfl⟩, ((he a).deq (he a)).mpr rfl⟩
theorem gNotIn_sm {α : Type} [DecidableEq α] {n : Nat} {emb : α → D} (he : ∀ a, Sm n (emb a)) (hn : n < 64) (hi : ∀ a b, emb a = emb b → a = b) (a : α) (l : List α) : gNotIn (emb a) (.lst (l.map emb)) = some (!decide (a ∈ l)) := by
  unfold gNotIn
  rw [gIn_sm he hn hi]
  rfl
/-! comprehensions whose tests draw -/
theorem wlcT {E : Exn → Store → Prop} {Q : List D → Store → Prop} {tg : Tg} {tt : DTn} {fe : DEn} {ρ : DL.Env} (I : Nat → List D → Store → Prop) : ∀ (ds : List D) (k : Nat) {acc : List D} {S : Store}, I k acc S →
    (∀ (j : Nat) (d : D) (acc : List D) (S : Store), ds[j]? = some d → I (k + j) acc S → ∃ ρ1, asg tg d ρ = some ρ1 ∧ Wp (tt ρ1 S) (fun b S1 => if b = true then Wp (fe ρ1 S1) (fun y S2 => acc.length < lim ∧ I (k + j + 1) (acc ++ [y]) S2) (fun _ _ => False) else I (k + j + 1) acc S1) (fun _ _ => False)) →
    (∀ acc S, I (k + ds.length) acc S → Q acc S) → Wp (lcL tg tt fe ρ ds S acc) Q E
  | [], k, acc, S, h0, _, he => he acc S h0
  | d :: ds, k, acc, S, h0, hs, he => by
    obtain ⟨ρ1, e1, w⟩ := hs 0 d acc S rfl h0
    have nxt : ∀ acc S, I (k + 1) acc S → Wp (lcL tg tt fe ρ ds S acc) Q E := fun acc S h => wlcT I ds (k + 1) h (fun j d acc S hd hI => by
      have := hs (j + 1) d acc S (by simpa using hd) (by rw [show k + (j + 1) = k + 1 + j by omega]; exact hI)
      rw [show k + (j + 1) + 1 = k + 1 + j + 1 by omega] at this
      exact this) fun acc S h => he acc S (by rw [List.length_cons, show k + (ds.length + 1) = k + 1 + ds.length by omega]; exact h)
    unfold lcL
    rw [e1]
    dsimp only
    cases et : tt ρ1 S with
    | bad => rw [et] at w; exact w.elim
    | ex x S1 => rw [et] at w; exact w.elim
    | ok b S1 =>
      rw [et] at w
      simp only [ev_bd_ok]
      cases b with
      | false => exact nxt _ _ w
      | true =>
        have w : Wp (fe ρ1 S1) (fun y S2 => acc.length < lim ∧ I (k + 0 + 1) (acc ++ [y]) S2) (fun _ _ => False) := w
        simp only [if_true]
        cases e : fe ρ1 S1 with
        | bad => rw [e] at w; exact w.elim
        | ex x S2 => rw [e] at w; exact w.elim
        | ok y S2 =>
          rw [e] at w
          obtain ⟨hl, h1⟩ := w
          simp only [ev_bd_ok]
          rw [if_pos hl]
          exact nxt _ _ h1
theorem wlcG {E : Exn → Store → Prop} {Q : D → Store → Prop} {fi : DDn} {tg : Tg} {tt : DTn} {fe : DEn} {vs : List Nat} {ρ : DL.Env} {S : Store} (h : Wp (fi ρ S) (fun ds S1 => Wp (lcL tg tt fe (wipeE ρ vs) ds S1 []) (fun ys S2 => Q (.lst ys) S2) E) E) : Wp (mLc fi tg tt fe vs ρ S) Q E := by
  rw [ev_Lc]
  exact Wp.bind (h.mono (fun ds S1 q => Wp.bind q) fun _ _ q => q)
/-! the law's comparison -/
theorem tru_of {f : DEn} {ρ : DL.Env} {S S1 : Store} {b : Bool} (h : f ρ S = .ok (.bl b) S1) : mTru f ρ S = .ok b S1 := by
  rw [ev_Tru, h]; rfl
theorem filter_false {α : Type} (l : List α) : l.filter (fun _ => false) = [] := List.filter_eq_nil_iff.mpr fun _ _ => by simp
def cb_alike (rec : Den) : DSn :=
  (mSeq (mIfS (mTru (mIsT2 "tuple" "list" (mVar 1))) (mSeq (mIfS (mOrT (mNotT (mTru (mIsT2 "tuple" "list" (mVar 0)))) (mCmp gNe (mIsT "list" (mVar 0)) (mIsT "list" (mVar 1)))) (mRet (mC (.bl false))) mSkip)
  (mSeq (mIfS (mCmp gNe (mBi gLen (mCons (mVar 0) mNil)) (mBi gLen (mCons (mVar 1) mNil))) (mRet (mC (.bl false))) mSkip)
  (mRet (mB (mCmp gEq (mLc (mRg1 (mBi gLen (mCons (mVar 1) mNil))) (.nm 2) (mNotT (mTru (mCall rec 2 (mConsE (mV (mOp gIx (mVar 0) (mVar 2))) (mConsE (mV (mOp gIx (mVar 1) (mVar 2))) mNilE))))) (mVar 2) [2]) (mLst mNil)))))) mSkip)
  (mSeq (mIfS (mOrT (mCmp gIsN (mVar 1) (mC .non)) (mTru (mIsT "str" (mVar 1)))) (mRet (mAnd (mB (mCmp gEq (mVar 0) (mVar 1))) (mB (mCmp gEq (mIsT "str" (mVar 0)) (mIsT "str" (mVar 1)))))) mSkip)
  (mRet (mAnd (mIsT "int" (mVar 0)) (mAnd (mB (mCmp gEq (mIsT "bool" (mVar 0)) (mIsT "bool" (mVar 1)))) (mB (mCmp gEq (mVar 0) (mVar 1))))))))
def cd_alike : Nat → Den
  | 0 => denB 3 mNever
  | n + 1 => denB 3 (cb_alike (cd_alike n))
theorem gEq_bb (a b : Bool) : gEq (.bl a) (.bl b) = some (a == b) := by cases a <;> cases b <;> decide +kernel
theorem gNe_bb (a b : Bool) : gNe (.bl a) (.bl b) = some (!(a == b)) := by cases a <;> cases b <;> decide +kernel
theorem gEq_iiX (m n : Int) : gEq (.int m) (.int n) = some (m == n) := rfl
theorem gNe_iiX (m n : Int) : gNe (.int m) (.int n) = some (!(m == n)) := rfl
theorem gEq_nil0 : gEq (.lst []) (.lst []) = some true := by decide +kernel
theorem gEq_sx {z : Str} (h : (D.str z).okd = true) : gEq (.str z) (.str z) = some true := by
  have e : gEq (.str z) (.str z) = some (deq (.str z) (.str z)) := if_pos ⟨h, h⟩
  rw [e, deq_ss]; simp
theorem ty2_t (ds : List D) : isTy2 (.tup ds) "tuple" "list" = some true := by unfold isTy2; simp
theorem ty2_l (ds : List D) : isTy2 (.lst ds) "tuple" "list" = some true := by unfold isTy2; simp
theorem ty2_i (n : Int) : isTy2 (.int n) "tuple" "list" = some false := by unfold isTy2; simp
theorem ty2_s (z : Str) : isTy2 (.str z) "tuple" "list" = some false := by unfold isTy2; simp
theorem ty2_b (z : Bool) : isTy2 (.bl z) "tuple" "list" = some false := by unfold isTy2; simp
theorem kb_nt : kitB "NoneType" "tuple" = some false := by decide +kernel
theorem kb_nl : kitB "NoneType" "list" = some false := by decide +kernel
theorem ty2_n : isTy2 .non "tuple" "list" = some false := by unfold isTy2 isTy; simp [D.ty, kb_nt, kb_nl]
theorem gEq_nn : gEq .non .non = some true := by decide +kernel
/-- values that are alike to themselves -/
inductive Pl : Nat → D → Prop
  | non (n : Nat) : Pl (n + 1) .non
  | bl (n : Nat) (b : Bool) : Pl (n + 1) (.bl b)
  | int (n : Nat) (i : Int) : Pl (n + 1) (.int i)
  | str (n : Nat) (z : Str) : (D.str z).okd = true → Pl (n + 1) (.str z)
  | tup (n : Nat) (ds : List D) : ds.length ≤ 100000 → (∀ d ∈ ds, Pl n d) → Pl (n + 1) (.tup ds)
  | lst (n : Nat) (ds : List D) : ds.length ≤ 100000 → (∀ d ∈ ds, Pl n d) → Pl (n + 1) (.lst ds)
theorem alike_seq {n : Nat} {ds : List D} (mk : List D → D) (hmk : (∀ ds, mk ds = .tup ds) ∨ (∀ ds, mk ds = .lst ds)) (hl : ds.length ≤ 100000) (ih : ∀ d ∈ ds, cd_alike n [.v d, .v d] [] = .ok (.bl true) []) :
    cd_alike (n + 1) [.v (mk ds), .v (mk ds)] [] = .ok (.bl true) [] := by
  have t2 : isTy2 (mk ds) "tuple" "list" = some true := by
    rcases hmk with h | h
    · rw [h]; exact ty2_t ds
    · rw [h]; exact ty2_l ds
  have tl : ∃ b, isTy (mk ds) "list" = some b := by
    rcases hmk with h | h
    · rw [h]; exact ⟨_, ty_tl⟩
    · rw [h]; exact ⟨_, ty_ll⟩
  obtain ⟨b, tl⟩ := tl
  have gl : gLen [mk ds] = some (.int (ds.length : Int)) := by
    rcases hmk with h | h
    · rw [h]; exact g_lenT
    · rw [h]; exact g_lenL
  have gx : ∀ i : Nat, i < ds.length → ∃ d, d ∈ ds ∧ gIx (mk ds) (.int (i : Int)) = some d := fun i hi => by
    refine ⟨ds[i], List.getElem_mem hi, ?_⟩
    rcases hmk with h | h
    · rw [h, g_ixT]; exact atI_nat (List.getElem?_eq_getElem hi)
    · rw [h, g_ixL]; exact atI_nat (List.getElem?_eq_getElem hi)
  refine denB_rt (ρ1 := [some (.v (mk ds)), some (.v (mk ds)), none]) (S1 := []) (seq_rt ?_)
  have l := lcT (tg := .nm 2) (tt := mNotT (mTru (mCall (cd_alike n) 2 (mConsE (mV (mOp gIx (mVar 0) (mVar 2))) (mConsE (mV (mOp gIx (mVar 1) (mVar 2))) mNilE))))) (fe := mVar 2) (ρ := [some (.v (mk ds)), some (.v (mk ds)), none]) (S := []) (fun i : Nat => D.int (i : Int)) (fun _ => false) (fun i : Nat => D.int (i : Int)) (List.range ds.length) (fun i hi => by
    obtain ⟨d, hd, e⟩ := gx i (List.mem_range.mp hi)
    have c := call2 (S := []) (ih d hd)
    exact ⟨[some (.v (mk ds)), some (.v (mk ds)), some (.v (.int (i : Int)))], rfl, by simp [e, c], fun h => by cases h⟩) [] (by rw [lim_is]; simp; omega)
  rw [filter_false] at l
  have e1 : mLc (mRg1 (mBi gLen (mCons (mVar 1) mNil))) (.nm 2) (mNotT (mTru (mCall (cd_alike n) 2 (mConsE (mV (mOp gIx (mVar 0) (mVar 2))) (mConsE (mV (mOp gIx (mVar 1) (mVar 2))) mNilE))))) (mVar 2) [2] [some (.v (mk ds)), some (.v (mk ds)), none] [] = .ok (.lst []) [] := by
    rw [ev_Lc]
    have e0 : mRg1 (mBi gLen (mCons (mVar 1) mNil)) [some (.v (mk ds)), some (.v (mk ds)), none] [] = .ok ((List.range ds.length).map fun i : Nat => D.int (i : Int)) [] := by
      have e2 : mBi gLen (mCons (mVar 1) mNil) [some (.v (mk ds)), some (.v (mk ds)), none] [] = .ok (.int (ds.length : Int)) [] := by simp [gl]
      unfold mRg1
      rw [e2, ev_bind_ok]
      dsimp only
      rw [if_pos (by omega), rgD_nat]
    rw [e0]
    show (lcL _ _ _ (wipeE _ _) _ [] []).bind _ = _
    rw [show wipeE [some (.v (mk ds)), some (.v (mk ds)), none] [2] = [some (.v (mk ds)), some (.v (mk ds)), none] from rfl, l]
    rfl
  have e0 : mTru (mIsT2 "tuple" "list" (mVar 1)) [some (.v (mk ds)), some (.v (mk ds)), none] [] = .ok true [] := by simp [t2]
  change mIfS _ _ _ [some (.v (mk ds)), some (.v (mk ds)), none] [] = _
  rw [ev_IfS, e0, ev_bindS_ok, if_pos rfl]
  refine (seq_nx (ρ1 := [some (.v (mk ds)), some (.v (mk ds)), none]) (S1 := []) (by simp [t2, tl, gNe_bb])).trans ((seq_nx (ρ1 := [some (.v (mk ds)), some (.v (mk ds)), none]) (S1 := []) (by simp [gl, gNe_iiX])).trans ?_)
  rw [ev_Ret, ev_B, ev_Cmp, e1]
  simp [gEq_nil0, lim_is]
theorem alike : ∀ {n : Nat} {d : D}, Pl n d → cd_alike n [.v d, .v d] [] = .ok (.bl true) [] := by
  intro n d h
  induction h with
  | non n =>
    refine denB_rt (ρ1 := [some (.v .non), some (.v .non), none]) (S1 := []) ?_
    refine (seq_nx (ρ1 := [some (.v .non), some (.v .non), none]) (S1 := []) (by simp [ty2_n])).trans (seq_rt ?_)
    have : gIsN .non .non = some true := rfl
    simp [this, gEq_bb, gEq_nn]
  | bl n b =>
    refine denB_rt (ρ1 := [some (.v (.bl b)), some (.v (.bl b)), none]) (S1 := []) ?_
    refine (seq_nx (ρ1 := [some (.v (.bl b)), some (.v (.bl b)), none]) (S1 := []) (by simp [ty2_b])).trans ((seq_nx (ρ1 := [some (.v (.bl b)), some (.v (.bl b)), none]) (S1 := []) ?_).trans ?_)
    · have : gIsN (.bl b) .non = some false := rfl
      simp [this]
    · simp [gEq_bb]
  | int n i =>
    refine denB_rt (ρ1 := [some (.v (.int i)), some (.v (.int i)), none]) (S1 := []) ?_
    refine (seq_nx (ρ1 := [some (.v (.int i)), some (.v (.int i)), none]) (S1 := []) (by simp [ty2_i])).trans ((seq_nx (ρ1 := [some (.v (.int i)), some (.v (.int i)), none]) (S1 := []) ?_).trans ?_)
    · have : gIsN (.int i) .non = some false := rfl
      simp [this]
    · simp [gEq_bb, gEq_iiX]
  | str n z hz =>
    refine denB_rt (ρ1 := [some (.v (.str z)), some (.v (.str z)), none]) (S1 := []) ?_
    refine (seq_nx (ρ1 := [some (.v (.str z)), some (.v (.str z)), none]) (S1 := []) (by simp [ty2_s])).trans (seq_rt ?_)
    have : gIsN (.str z) .non = some false := rfl
    simp [this, gEq_bb, gEq_sx hz]
  | tup n ds hl _ ih => exact alike_seq .tup (.inl fun _ => rfl) hl ih
  | lst n ds hl _ ih => exact alike_seq .lst (.inr fun _ => rfl) hl ih
/-! the program's small checks -/
def cb_is_integer : DSn :=
  (mRet (mAnd (mIsT "int" (mVar 0)) (mNot (mIsT "bool" (mVar 0)))))
def cd_is_integer : Den := denB 1 cb_is_integer
def cb_is_between : DSn :=
  (mRet (mAnd (mCall cd_is_integer 1 (mConsE (mV (mVar 0)) mNilE)) (mB (mChain gLe gLe (mVar 1) (mVar 0) (mVar 2)))))
def cd_is_between : Den := denB 3 cb_is_between
def cb_is_tuple_of : DSn :=
  (mRet (mAnd (mIsT "tuple" (mVar 0)) (mB (mChain gLe gLe (mVar 1) (mBi gLen (mCons (mVar 0) mNil)) (mVar 2)))))
def cd_is_tuple_of : Den := denB 3 cb_is_tuple_of
def cb_is_ascending : DSn :=
  (mRet (mBi gAll (mCons (mLc (mZip (mVar 0) (mSl (mVar 0) (mPart (mC (.int 1))) mNoPart)) (.tp [(.nm 1), (.nm 2)]) mYes (mB (mCmp gLt (mVar 1) (mVar 2))) [1, 2]) mNil)))
def cd_is_ascending : Den := denB 3 cb_is_ascending
theorem is_integer_int (i : Int) : cd_is_integer [.v (.int i)] [] = .ok (.bl true) [] := rfl
theorem is_integer_bl (b : Bool) : cd_is_integer [.v (.bl b)] [] = .ok (.bl false) [] := by
  refine denB_rt (ρ1 := [vv (.bl b)]) (S1 := []) ?_
  show cb_is_integer [vv (.bl b)] [] = _
  unfold cb_is_integer vv
  simp
theorem is_integer_no {d : D} (h : isTy d "int" = some false) : cd_is_integer [.v d] [] = .ok (.bl false) [] := by
  refine denB_rt (ρ1 := [vv d]) (S1 := []) ?_
  show cb_is_integer [vv d] [] = _
  unfold cb_is_integer vv
  simp [h]
theorem is_between_int (i lo hi : Int) : cd_is_between [.v (.int i), .v (.int lo), .v (.int hi)] [] = .ok (.bl (decide (lo ≤ i) && decide (i ≤ hi))) [] := by
  have e := call1 (S := []) (is_integer_int i)
  refine denB_rt (ρ1 := [some (.v (.int i)), some (.v (.int lo)), some (.v (.int hi))]) (S1 := []) ?_
  by_cases h : lo ≤ i <;> simp [cb_is_between, e, h]
theorem is_between_bl (b : Bool) (lo hi : D) : cd_is_between [.v (.bl b), .v lo, .v hi] [] = .ok (.bl false) [] := by
  have e := call1 (S := []) (is_integer_bl b)
  refine denB_rt (ρ1 := [some (.v (.bl b)), some (.v lo), some (.v hi)]) (S1 := []) ?_
  simp [cb_is_between, e]
theorem is_between_no {d : D} (h : isTy d "int" = some false) (lo hi : D) : cd_is_between [.v d, .v lo, .v hi] [] = .ok (.bl false) [] := by
  have e := call1 (S := []) (is_integer_no h)
  refine denB_rt (ρ1 := [some (.v d), some (.v lo), some (.v hi)]) (S1 := []) ?_
  simp [cb_is_between, e]
theorem is_tuple_of_tup (ds : List D) (lo hi : Int) : cd_is_tuple_of [.v (.tup ds), .v (.int lo), .v (.int hi)] [] = .ok (.bl (decide (lo ≤ (ds.length : Int)) && decide ((ds.length : Int) ≤ hi))) [] := by
  refine denB_rt (ρ1 := [some (.v (.tup ds)), some (.v (.int lo)), some (.v (.int hi))]) (S1 := []) ?_
  by_cases h : lo ≤ (ds.length : Int) <;> simp [cb_is_tuple_of, h]
theorem is_tuple_of_ok {ds : List D} {lo hi : Int} (h : lo ≤ (ds.length : Int)) (h' : (ds.length : Int) ≤ hi) : cd_is_tuple_of [.v (.tup ds), .v (.int lo), .v (.int hi)] [] = .ok (.bl true) [] := by
  rw [is_tuple_of_tup, decide_eq_true h, decide_eq_true h']; rfl
theorem is_between_ok {i lo hi : Int} (h : lo ≤ i) (h' : i ≤ hi) : cd_is_between [.v (.int i), .v (.int lo), .v (.int hi)] [] = .ok (.bl true) [] := by
  rw [is_between_int, decide_eq_true h, decide_eq_true h']; rfl
theorem is_tuple_of_no {d : D} (h : isTy d "tuple" = some false) (lo hi : D) : cd_is_tuple_of [.v d, .v lo, .v hi] [] = .ok (.bl false) [] := by
  refine denB_rt (ρ1 := [some (.v d), some (.v lo), some (.v hi)]) (S1 := []) ?_
  simp [cb_is_tuple_of, h]
theorem gAll_map {α : Type} (f : α → Bool) (l : List α) : gAll [.lst (l.map fun x => D.bl (f x))] = some (.bl (l.all f)) := by
  show (bools (l.map fun x => D.bl (f x))).map _ = _
  have : ∀ l : List α, bools (l.map fun x => D.bl (f x)) = some (l.map f) := fun l => by
    induction l with
    | nil => rfl
    | cons x l ih => show (bools (l.map fun x => D.bl (f x))).map _ = _; rw [ih]; rfl
  rw [this]
  simp [List.all_map]
theorem cmp_ok {g : D → D → Option Bool} {fa fb : DEn} {ρ : DL.Env} {S S1 S2 : Store} {x y : D} {b : Bool} (ha : fa ρ S = .ok x S1) (hb : fb ρ S1 = .ok y S2) (h : g x y = some b) : mCmp g fa fb ρ S = .ok b S2 := by
  rw [ev_Cmp, ha, ev_bind_ok, hb, ev_bind_ok, h]; rfl
theorem if_skip {t : DTn} {f : DSn} {ρ : DL.Env} {S S1 : Store} (h : t ρ S = .ok false S1) : mIfS t f mSkip ρ S = .ok (.nx, ρ) S1 := by
  rw [ev_IfS, h]; rfl
theorem if_go {t : DTn} {f g : DSn} {ρ : DL.Env} {S S1 : Store} (h : t ρ S = .ok true S1) : mIfS t f g ρ S = f ρ S1 := by
  rw [ev_IfS, h]; rfl
theorem if_el {t : DTn} {f g : DSn} {ρ : DL.Env} {S S1 : Store} (h : t ρ S = .ok false S1) : mIfS t f g ρ S = g ρ S1 := by
  rw [ev_IfS, h]; rfl
theorem not_ok {t : DTn} {ρ : DL.Env} {S S1 : Store} {b : Bool} (h : t ρ S = .ok b S1) : mNotT t ρ S = .ok (!b) S1 := by
  rw [ev_NotT, h]; rfl
theorem and_no {t u : DTn} {ρ : DL.Env} {S S1 : Store} (h : t ρ S = .ok false S1) : mAndT t u ρ S = .ok false S1 := by
  rw [ev_AndT, h]; rfl
theorem and_go {t u : DTn} {ρ : DL.Env} {S S1 : Store} (h : t ρ S = .ok true S1) : mAndT t u ρ S = u ρ S1 := by
  rw [ev_AndT, h]; rfl
theorem or_yes {t u : DTn} {ρ : DL.Env} {S S1 : Store} (h : t ρ S = .ok true S1) : mOrT t u ρ S = .ok true S1 := by
  rw [ev_OrT, h]; rfl
theorem or_go {t u : DTn} {ρ : DL.Env} {S S1 : Store} (h : t ρ S = .ok false S1) : mOrT t u ρ S = u ρ S1 := by
  rw [ev_OrT, h]; rfl
end Cm

/-! membership, least tuples -/
namespace Cm
open PySem L2 DL Pr
theorem gInD_any {α : Type} [DecidableEq α] {n : Nat} {emb : α → D} (he : ∀ a, Sm n (emb a)) (hi : ∀ a b, emb a = emb b → a = b) (a : α) (l : List α) : ((l.map emb).any fun z => DL.deq z (emb a)) = decide (a ∈ l) := by
  refine bool_of (p := a ∈ l) ?_ (by simp)
  rw [List.any_eq_true]
  constructor
  · rintro ⟨d, hd, q⟩
    obtain ⟨x, hx, rfl⟩ := List.mem_map.mp hd
    rw [(he x).deq (he a)] at q
    rw [← hi _ _ q]; exact hx
  · intro h
    exact ⟨emb a, List.mem_map.mpr ⟨a, h, rfl⟩, ((he a).deq (he a)).mpr rfl⟩
theorem gInD_lst {α : Type} [DecidableEq α] {n : Nat} {emb : α → D} (he : ∀ a, Sm n (emb a)) (hn : n < 64) (hi : ∀ a b, emb a = emb b → a = b) (a : α) (l : List α) : gInD (emb a) (.lst (l.map emb)) = some (decide (a ∈ l)) := by
  have ok : (D.lst (l.map emb)).okd = true := (Sm.lst n _ fun d hd => by obtain ⟨x, _, rfl⟩ := List.mem_map.mp hd; exact he x).okd (by omega)
  have e : gInD (emb a) (.lst (l.map emb)) = some ((l.map emb).any fun z => DL.deq z (emb a)) := if_pos ⟨(he a).okd (by omega), ok⟩
  rw [e, gInD_any he hi]
theorem gInD_tup {α : Type} [DecidableEq α] {n : Nat} {emb : α → D} (he : ∀ a, Sm n (emb a)) (hn : n < 64) (hi : ∀ a b, emb a = emb b → a = b) (a : α) (l : List α) : gInD (emb a) (.tup (l.map emb)) = some (decide (a ∈ l)) := by
  have ok : (D.tup (l.map emb)).okd = true := (Sm.tup n _ fun d hd => by obtain ⟨x, _, rfl⟩ := List.mem_map.mp hd; exact he x).okd (by omega)
  have e : gInD (emb a) (.tup (l.map emb)) = some ((l.map emb).any fun z => DL.deq z (emb a)) := if_pos ⟨(he a).okd (by omega), ok⟩
  rw [e, gInD_any he hi]
theorem gNotInD_of {x y : D} {b : Bool} (h : gInD x y = some b) : gNotInD x y = some (!b) := by unfold gNotInD; rw [h]; rfl
theorem sm_nI (a : Nat) : Sm 0 (nI a) := .int 0 _
theorem nI_inj (a b : Nat) (h : nI a = nI b) : a = b := by
  have h : D.int (a : Int) = D.int (b : Int) := h
  injection h with h; omega
theorem int_inj (a b : Int) (h : D.int a = D.int b) : a = b := by injection h
theorem in_nI_lst (a : Nat) (l : List Nat) : gInD (nI a) (.lst (l.map nI)) = some (decide (a ∈ l)) := gInD_lst sm_nI (by decide) nI_inj a l
theorem in_nI_tup (a : Nat) (l : List Nat) : gInD (nI a) (.tup (l.map nI)) = some (decide (a ∈ l)) := gInD_tup sm_nI (by decide) nI_inj a l
/-! tuples of ints in their order -/
theorem alike_ints : ∀ (a b : List Int), PySem.W.alikeAll (D.pys (a.map D.int)) (D.pys (b.map D.int)) = true
  | [], _ => by unfold PySem.W.alikeAll; rfl
  | _ :: _, [] => rfl
  | x :: a, y :: b => by
    show (true && PySem.W.alikeAll (D.pys (a.map D.int)) (D.pys (b.map D.int))) = true
    rw [alike_ints a b]; rfl
theorem sm_tupI {n : Nat} (l : List Int) : Sm (n + 1) (tupD l) := .tup n _ fun d hd => by obtain ⟨i, _, rfl⟩ := List.mem_map.mp hd; exact .int n i
theorem cmp_tups (ls : List (List Int)) : cmpAll (ls.map tupD) = true := by
  unfold cmpAll
  rw [Bool.and_eq_true, Bool.and_eq_true, List.all_eq_true, List.all_eq_true]
  refine ⟨⟨fun x hx => ?_, fun x hx => ?_⟩, (Sm.lst 1 _ fun d hd => ?_ : Sm 2 _).okd (by decide)⟩
  · obtain ⟨a, _, rfl⟩ := List.mem_map.mp hx
    rw [List.all_eq_true]
    intro y hy
    obtain ⟨b, _, rfl⟩ := List.mem_map.mp hy
    exact alike_ints a b
  · obtain ⟨a, _, rfl⟩ := List.mem_map.mp hx
    rfl
  · obtain ⟨a, _, rfl⟩ := List.mem_map.mp hd
    exact sm_tupI a
theorem cmp_ints (ls : List Int) : cmpAll (ls.map D.int) = true := by
  unfold cmpAll
  rw [Bool.and_eq_true, Bool.and_eq_true, List.all_eq_true, List.all_eq_true]
  refine ⟨⟨fun x hx => ?_, fun x hx => ?_⟩, (Sm.lst 0 _ fun d hd => ?_ : Sm 1 _).okd (by decide)⟩
  · obtain ⟨a, _, rfl⟩ := List.mem_map.mp hx
    rw [List.all_eq_true]
    intro y hy
    obtain ⟨b, _, rfl⟩ := List.mem_map.mp hy
    rfl
  · obtain ⟨a, _, rfl⟩ := List.mem_map.mp hx
    rfl
  · obtain ⟨a, _, rfl⟩ := List.mem_map.mp hd
    exact .int 0 a
/-- less, place by place -/
def lexI : List Int → List Int → Bool
  | [], ys => !ys.isEmpty
  | _ :: _, [] => false
  | x :: xs, y :: ys => if x = y then lexI xs ys else decide (x < y)
theorem dlt_tupD : ∀ (a b : List Int), dlt (tupD a) (tupD b) = lexI a b
  | [], b => by
    show dlt (.tup []) (.tup (b.map D.int)) = _
    rw [dlt_nil]
    cases b <;> rfl
  | x :: a, [] => by
    have h : ∀ l, PyProof.Rows.lexLt PyProof.Rows.itemOrd (Sum.inl (1 : Int) :: l) [Sum.inl 0] = false := fun l => by
      rw [PyProof.Rows.lex_cons]; rfl
    exact h (PySem.W.keyToks (PyData.int x) ++ PySem.W.keyToksAll (D.pys (a.map D.int)))
  | x :: a, y :: b => by
    show dlt (.tup (.int x :: a.map D.int)) (.tup (.int y :: b.map D.int)) = _
    rw [dlt_cons _ _ rfl, deq_ii, dlt_int]
    have ih := dlt_tupD a b
    have ih : dlt (.tup (a.map D.int)) (.tup (b.map D.int)) = lexI a b := ih
    rw [ih]
    show _ = (if x = y then lexI a b else decide (x < y))
    by_cases h : x = y <;> simp [h]
theorem lexI_total : ∀ {a b : List Int}, a.length = b.length → lexI a b = false → lexI b a = false → a = b
  | [], [], _, _, _ => rfl
  | x :: a, y :: b, hl, h1, h2 => by
    unfold lexI at h1 h2
    by_cases h : x = y
    · subst h
      rw [if_pos rfl] at h1 h2
      rw [lexI_total (by simpa using hl) h1 h2]
    · rw [if_neg h] at h1
      rw [if_neg (Ne.symm h)] at h2
      rw [decide_eq_false_iff_not] at h1 h2
      omega
theorem min_tups {ls : List (List Int)} (h : ls ≠ []) : ∃ r ∈ ls, gMinA [.lst (ls.map tupD)] = some (tupD r) ∧ ∀ x ∈ ls, lexI x r = false := by
  cases ls with
  | nil => exact absurd rfl h
  | cons x ls =>
    have e : gMinA [.lst ((x :: ls).map tupD)] = some (foldB dlt (tupD x) (ls.map tupD)) := if_pos (cmp_tups (x :: ls))
    obtain ⟨h1, h2⟩ := foldB_least (ls.map tupD) (tupD x)
    have h1 : foldB dlt (tupD x) (ls.map tupD) ∈ (x :: ls).map tupD := h1
    obtain ⟨r, hr, er⟩ := List.mem_map.mp h1
    refine ⟨r, hr, by rw [e, er], fun y hy => ?_⟩
    have := h2 (tupD y) (by rw [← List.map_cons]; exact List.mem_map.mpr ⟨y, hy, rfl⟩)
    rw [← er, dlt_tupD] at this
    exact this
/-- the first least of numbers -/
theorem min_intsA {ls : List Int} (h : ls ≠ []) : ∃ r ∈ ls, (gMinA [.lst (ls.map D.int)] = some (.int r) ∧ gMinA [.tup (ls.map D.int)] = some (.int r)) ∧ ∀ x ∈ ls, r ≤ x := by
  cases ls with
  | nil => exact absurd rfl h
  | cons x ls =>
    have e : gMinA [.lst ((x :: ls).map D.int)] = some (foldB dlt (.int x) (ls.map D.int)) := if_pos (cmp_ints (x :: ls))
    have e' : gMinA [.tup ((x :: ls).map D.int)] = some (foldB dlt (.int x) (ls.map D.int)) := if_pos (cmp_ints (x :: ls))
    obtain ⟨h1, h2⟩ := foldB_least (ls.map D.int) (.int x)
    have h1 : foldB dlt (.int x) (ls.map D.int) ∈ (x :: ls).map D.int := h1
    obtain ⟨r, hr, er⟩ := List.mem_map.mp h1
    refine ⟨r, hr, ⟨by rw [e, er], by rw [e', er]⟩, fun y hy => ?_⟩
    have := h2 (.int y) (by rw [← List.map_cons]; exact List.mem_map.mpr ⟨y, hy, rfl⟩)
    rw [← er, dlt_int, decide_eq_false_iff_not] at this
    omega
end Cm
namespace Cm
open PySem L2 DL Pr
/-- a while loop of m turns -/
theorem wwhile {Q : Ctl × DL.Env → Store → Prop} {E : Exn → Store → Prop} {t : DTn} {body : DSn} (I : Nat → DL.Env → Store → Prop) (m : Nat)
    (hs : ∀ k ρ S, k < m → I k ρ S → t ρ S = .ok true S ∧ Wp (body ρ S) (Nx (I (k + 1))) NoX) (he : ∀ ρ S, I m ρ S → t ρ S = .ok false S ∧ Q (.nx, ρ) S) :
    ∀ (fuel k : Nat) {ρ : DL.Env} {S : Store}, k ≤ m → m < k + fuel → I k ρ S → Wp (whileL t body fuel ρ S) Q E
  | 0, k, _, _, h1, h2, _ => by omega
  | fuel + 1, k, ρ, S, h1, h2, h => by
    unfold whileL
    by_cases hk : k = m
    · subst hk
      obtain ⟨e, q⟩ := he ρ S h
      rw [e]
      exact q
    · obtain ⟨e, w⟩ := hs k ρ S (by omega) h
      rw [e, ev_bindS_ok, if_pos rfl]
      cases eb : body ρ S with
      | bad => rw [eb] at w; exact w.elim
      | ex x S1 => rw [eb] at w; exact w.elim
      | ok cr S1 =>
        rw [eb] at w
        obtain ⟨c, r⟩ := cr
        obtain ⟨rfl, i⟩ : c = Ctl.nx ∧ I (k + 1) r S1 := w
        exact wwhile I m hs he fuel (k + 1) (by omega) (by omega) i
end Cm
namespace Cm
open PySem L2 DL Pr
/-- a call of a def that draws, its arguments drawn -/
theorem wcall3 {E : Exn → Store → Prop} {ρ : DL.Env} {S : Store} {Q : D → Store → Prop} {F : Den} {i n : Nat} {fb fd : DEn} (hB : Wp (fb ρ S) (fun x S1 => Wp (fd ρ S1) (fun y S2 => ∃ c d c', S2[n]? = some (some c) ∧ F [.cel 0, .v x, .v y] [some c] = .ok d [some c'] ∧ Q d (S2.set n (some c'))) E) E) (hρ : ρ[i]? = some (some (.cel n)) := by rfl) : Wp (mCall F 3 (mConsE (mCel i) (mConsE (mV fb) (mConsE (mV fd) mNilE))) ρ S) Q E := by
  have hcel : ∀ S, mCel i ρ S = .ok (.cel n) S := fun S => by unfold mCel; rw [hρ]
  rw [ev_Call, ev_ConsE, hcel, ev_bind_ok, ev_ConsE, ev_V]
  refine Wp.bind (Wp.bind (Wp.bind (Wp.bind (hB.mono (fun x S1 q => ?_) fun _ _ q => q))))
  show Wp ((mConsE (mV fd) mNilE ρ S1).bind _) _ _
  rw [ev_ConsE, ev_V]
  refine Wp.bind (Wp.bind (Wp.bind (q.mono (fun y S2 q => ?_) fun _ _ q => q)))
  obtain ⟨c, d, c', hS, e, q⟩ := q
  have k := callC3 (S := S2) (n := n) (F := F) hS e
  show Wp (callD F [.cel n, .v x, .v y] S2) Q E
  rw [k]
  exact q
/-- the grouping of a row of statements doesn't matter -/
theorem seq_assoc (f g h : DSn) (ρ : DL.Env) (S : Store) : mSeq (mSeq f g) h ρ S = mSeq f (mSeq g h) ρ S := by
  unfold mSeq
  cases f ρ S with
  | bad => rfl
  | ex x S1 => rfl
  | ok cr S1 =>
    obtain ⟨c, r⟩ := cr
    cases c <;> rfl
theorem wassoc {Q : Ctl × DL.Env → Store → Prop} {E : Exn → Store → Prop} {f g h : DSn} {ρ : DL.Env} {S : Store} (k : Wp (mSeq (mSeq f g) h ρ S) Q E) : Wp (mSeq f (mSeq g h) ρ S) Q E := by rw [← seq_assoc]; exact k
end Cm

/-! the layer of data: dicts whose keys are pairs of ints, as cells -/
namespace DL
open PySem PySem.Spec PyProof.Rows L2
abbrev TK := List L2.Key
abbrev TD := TK × D
def intsKT : List D → Option TK
  | [] => some []
  | .int i :: r => (intsKT r).map (Sum.inl i :: ·)
  | _ => none
def keyT : D → Option TK
  | .tup ds => if ds.length = 2 then intsKT ds else none
  | _ => none
theorem intsKT_is {G : Gd} {HF : Hp} : ∀ {ds : List D} {vs : List V} {k : TK}, Reps G HF vs ds → intsKT ds = some k → vs = k.map kV ∧ ∃ is : List Int, vs = is.map V.int ∧ is.length = ds.length
  | [], _, k, r, h => by cases r; cases h; exact ⟨rfl, [], rfl, rfl⟩
  | d :: ds, _, k, r, h => by
    cases d with
    | int i =>
      have h : (intsKT ds).map (Sum.inl i :: ·) = some k := h
      obtain ⟨k', hk, rfl⟩ := Option.map_eq_some_iff.mp h
      cases r with
      | cons r1 r2 =>
        cases r1
        obtain ⟨e, is, e2, e3⟩ := intsKT_is r2 hk
        exact ⟨by rw [e]; rfl, i :: is, by rw [e2]; rfl, by simp [e3]⟩
    | _ => cases h
def isIntV : Value → Bool
  | .int _ _ => true
  | _ => false
/-- no constant of the program is a tuple of two or three ints -/
def keyFree (K : PySem.W.Frag) : Bool := K.all fun p => match p.2.cls, p.2.data with
  | .type c, .seq its _ => !(c == "tuple" && its.size == 2 && its.toList.all isIntV)
  | _, _ => true
theorem ints_val : ∀ {is : List Int} {us : List Value}, Vals (is.map V.int) us → us.all isIntV = true
  | [], _, r => by cases r; rfl
  | i :: is, _, r => by
    cases r with
    | cons r1 r2 =>
      obtain ⟨t, rfl⟩ := r1
      rw [List.all_cons, ints_val r2]
      rfl
theorem key_rep' {G : Gd} {HF : Hp} {v : V} {d : D} {k : TK} (hk : keyFree G.K = true) (r : Rep G HF v d) (h : keyT d = some k) : ∃ b, v = .ref b ∧ HF b = some (.tup (k.map kV)) := by
  cases d with
  | tup ds =>
    have h : (if ds.length = 2 then intsKT ds else none) = some k := h
    split at h
    · rename_i hl
      cases r with
      | tup h1 h2 =>
        obtain ⟨e, is, e2, e3⟩ := intsKT_is h2 h
        subst e
        rcases h1 with h1 | ⟨o, its, n, k1, k2, k3, _, k5⟩
        · exact ⟨_, rfl, h1⟩
        · have a := List.all_eq_true.mp hk _ (PySem.W.mem_of_lookupK k1)
          dsimp only at a
          rw [k2, k3] at a
          rw [e2] at k5
          have a1 := ints_val k5
          have a2 : its.size = 2 := by
            have : (is.map V.int).length = its.toList.length := k5.length
            rw [List.length_map, e3] at this
            rw [← Array.length_toList, ← this]
            exact hl
          have a : (!("tuple" == "tuple" && its.size == 2 && its.toList.all isIntV)) = true := a
          rw [a1] at a
          simp [a2] at a
    · cases h
  | _ => cases h
def valT (kvs : List TD) (k : TK) : Option D := (kvs.find? fun kv => decide (kv.1 = k)).map (·.2)
def putT (kvs : List TD) (k : TK) (d : D) : List TD :=
  if (kvs.any fun kv => decide (kv.1 = k)) = true then kvs.map (fun kv => if kv.1 = k then (kv.1, d) else kv) else kvs ++ [(k, d)]
/-- the heap's entries are these -/
def EntT (G : Gd) (HF : Hp) (us : List (TK × V)) (kvs : List TD) : Prop := us.map (·.1) = kvs.map (·.1) ∧ Reps G HF (us.map (·.2)) (kvs.map (·.2))
theorem EntT.cons {G : Gd} {HF : Hp} {u : TK × V} {us : List (TK × V)} {kv : TD} {kvs : List TD} (h : EntT G HF (u :: us) (kv :: kvs)) : u.1 = kv.1 ∧ Rep G HF u.2 kv.2 ∧ EntT G HF us kvs := by
  obtain ⟨h1, h2⟩ := h
  rw [List.map_cons, List.map_cons] at h1 h2
  injection h1 with a b
  cases h2 with
  | cons c d => exact ⟨a, c, b, d⟩
theorem EntT.mk {G : Gd} {HF : Hp} {u : TK × V} {us : List (TK × V)} {kv : TD} {kvs : List TD} (a : u.1 = kv.1) (b : Rep G HF u.2 kv.2) (h : EntT G HF us kvs) : EntT G HF (u :: us) (kv :: kvs) :=
  ⟨by rw [List.map_cons, List.map_cons, a, h.1], .cons b h.2⟩
theorem EntT.val {G : Gd} {HF : Hp} {k : TK} : ∀ {kvs : List TD} {us : List (TK × V)}, EntT G HF us kvs → (∀ d, valT kvs k = some d → ∃ v, valV us k = some v ∧ Rep G HF v d) ∧ (valT kvs k).isSome = (valV us k).isSome
  | [], us, h => by
    have : us = [] := by simpa using h.1
    subst this
    exact ⟨fun d e => (by cases e), rfl⟩
  | kv :: kvs, [], h => by
    have := h.1
    cases this
  | kv :: kvs, u :: us, h => by
    obtain ⟨a, b, c⟩ := h.cons
    by_cases e : kv.1 = k
    · have e1 : valT (kv :: kvs) k = some kv.2 := by simp [valT, List.find?_cons, e]
      have e2 : valV (u :: us) k = some u.2 := valV_pos (a.trans e)
      rw [e1, e2]
      exact ⟨fun d ed => (by cases ed; exact ⟨_, rfl, b⟩), rfl⟩
    · have e1 : valT (kv :: kvs) k = valT kvs k := by simp [valT, List.find?_cons, e]
      have e2 : valV (u :: us) k = valV us k := valV_neg fun z => e (a.symm.trans z)
      rw [e1, e2]
      exact c.val
theorem EntT.any {G : Gd} {HF : Hp} {k : TK} : ∀ {kvs : List TD} {us : List (TK × V)}, EntT G HF us kvs → (us.any fun kv => decide (kv.1 = k)) = kvs.any fun kv => decide (kv.1 = k)
  | [], us, h => by
    have : us = [] := by simpa using h.1
    subst this
    rfl
  | kv :: kvs, [], h => by
    have := h.1
    cases this
  | kv :: kvs, u :: us, h => by
    obtain ⟨a, b, c⟩ := h.cons
    rw [List.any_cons, List.any_cons, a, c.any]
theorem EntT.over {G : Gd} {HF : Hp} {k : TK} {v : V} {d : D} (r : Rep G HF v d) : ∀ {kvs : List TD} {us : List (TK × V)}, EntT G HF us kvs → EntT G HF (us.map fun kv => if kv.1 = k then (kv.1, v) else kv) (kvs.map fun kv => if kv.1 = k then (kv.1, d) else kv)
  | [], us, h => by
    have : us = [] := by simpa using h.1
    subst this
    exact ⟨rfl, .nil⟩
  | kv :: kvs, [], h => by
    have := h.1
    cases this
  | kv :: kvs, u :: us, h => by
    obtain ⟨a, b, c⟩ := h.cons
    rw [List.map_cons, List.map_cons]
    by_cases e : kv.1 = k
    · rw [if_pos e, if_pos (a.trans e)]
      exact EntT.mk a r (c.over r)
    · rw [if_neg e, if_neg fun z => e (a.symm.trans z)]
      exact EntT.mk a b (c.over r)
theorem EntT.put {G : Gd} {HF : Hp} {k : TK} {v : V} {d : D} {kvs : List TD} {us : List (TK × V)} (h : EntT G HF us kvs) (r : Rep G HF v d) : EntT G HF (putK us k v) (putT kvs k d) := by
  unfold putK putT
  rw [h.any]
  split
  · exact h.over r
  · exact ⟨by rw [List.map_append, List.map_append, h.1]; rfl, by rw [List.map_append, List.map_append]; exact Reps.append h.2 (.cons r .nil)⟩
theorem EntT.len {G : Gd} {HF : Hp} {kvs : List TD} {us : List (TK × V)} (h : EntT G HF us kvs) : us.length = kvs.length := by
  have := congrArg List.length h.1
  simpa using this
section
variable {G : Gd} {H HF : Hp} {L : List Addr} {σ : L2.St} {ρ : DL.Env} {S : Store}
/-- a dict's cell is written -/
theorem Rel.writeT (R : Rel G H HF L σ ρ S) {n : Nat} {a : Addr} {c : Cell} {us : List (TK × V)} {kvs : List TD} (h1 : L[n]? = some a) (h2 : S[n]? = some (some c)) (hr : EntT G HF us kvs) :
    Rel G (upd H a (.dT us)) HF L σ ρ (S.set n (some (.dt kvs))) ∧ Step H HF L (upd H a (.dT us)) HF L := by
  have hm : a ∈ L := List.mem_of_getElem? h1
  have hn : n < L.length := (List.getElem?_eq_some_iff.mp h1).1
  obtain ⟨hF, _⟩ := R.cell n a c h1 h2
  obtain ⟨u0, hu0, hm0⟩ := R.liv a hm
  refine ⟨⟨fun b u q => ?_, R.nd, by simpa using R.sl, fun b hb => ?_, R.tab.up (nt_upd hu0 hm0.nt) (Same.refl _), R.nft, fun k b c' k1 k2 => ?_, R.el, R.env⟩, ⟨fun b u hb _ q => ?_, nn_upd (fun _ h => by cases h), Same.refl _, fun _ _ _ q _ _ => q, [], by simp, by simp⟩⟩
  · rw [upd_ne (ne_of_none q hF)]; exact R.sub b u q
  · by_cases hba : b = a
    · subst hba; exact ⟨_, upd_same, trivial⟩
    · rw [upd_ne hba]; exact R.liv b hb
  · by_cases hk : k = n
    · subst hk
      rw [h1] at k1; cases k1
      rw [List.getElem?_set_self (by rw [R.sl]; exact hn)] at k2
      cases k2
      exact ⟨hF, us, upd_same, hr.1, hr.2⟩
    · rw [List.getElem?_set_ne (Ne.symm hk)] at k2
      obtain ⟨q1, q2⟩ := R.cell k b c' k1 k2
      exact ⟨q1, q2.up (upd_ne (fun z => hk (nodup_get R.nd (by rw [← z]; exact k1) h1))) (Same.refl _)⟩
  · rw [upd_ne (fun z => hb (by rw [z]; exact hm))]; exact q
end
section
variable {G : Gd} {H HF : Hp} {L : List Addr} {σ : L2.St} {ρ : DL.Env} {S : Store}
/-- a new dict that will be changed -/
theorem Rel.freshT (R : Rel G H HF L σ ρ S) {p : Addr} {us : List (TK × V)} {kvs : List TD} (hp : H p = none) (hr : EntT G HF us kvs) :
    Rel G (upd H p (.dT us)) HF (L ++ [p]) σ ρ (S ++ [some (.dt kvs)]) ∧ Step H HF L (upd H p (.dT us)) HF (L ++ [p]) := by
  have hL := R.out hp
  have hF := R.hf hp
  have e : ∀ {n : Nat} {a : Addr}, L[n]? = some a → a ≠ p := fun h z => hL (by rw [← z]; exact List.mem_of_getElem? h)
  refine ⟨⟨R.sub.trans (same_upd hp), ?_, by simp [R.sl], fun a ha => ?_, R.tab.up (nt_new hp) (Same.refl _), R.nft, fun n a c h1 h2 => ?_, R.el, fun i x h => ?_⟩, ⟨fun b u _ _ q => same_upd hp b u q, nn_upd (fun _ h => by cases h), Same.refl _, fun a _ _ q _ _ => q, [p], rfl, fun a ha o _ q => ?_⟩⟩
  · rw [List.nodup_append]
    refine ⟨R.nd, by simp, fun a ha b hb => ?_⟩
    have : b = p := by simpa using hb
    subst this
    exact fun z => hL (z ▸ ha)
  · rcases List.mem_append.mp ha with z | z
    · rw [upd_ne (fun q => hL (by rw [← q]; exact z))]; exact R.liv a z
    · have : a = p := by simpa using z
      subst this; exact ⟨_, upd_same, trivial⟩
  · by_cases hn : n < L.length
    · rw [List.getElem?_append_left hn] at h1
      rw [List.getElem?_append_left (by rw [R.sl]; exact hn)] at h2
      obtain ⟨q1, q2⟩ := R.cell n a c h1 h2
      exact ⟨q1, q2.up (upd_ne (e h1)) (Same.refl _)⟩
    · have hn' : n = L.length := by
        have := (List.getElem?_eq_some_iff.mp h1).1
        simp at this; omega
      subst hn'
      rw [List.getElem?_append_right (Nat.le_refl _)] at h1
      rw [List.getElem?_append_right (by rw [R.sl]; exact Nat.le_refl _), R.sl] at h2
      simp at h1 h2
      subst h1; subst h2
      exact ⟨hF, us, upd_same, hr.1, hr.2⟩
  · obtain ⟨v, q1, q2⟩ := R.env i x h
    refine ⟨v, q1, ?_⟩
    cases x with
    | v d => exact q2
    | cel n =>
      obtain ⟨a, q3, q4⟩ := q2
      exact ⟨a, by rw [List.getElem?_append_left (List.getElem?_eq_some_iff.mp q3).1]; exact q3, q4⟩
    | exn x => exact q2
    | lam ws ds => exact q2
  · obtain rfl : a = p := by simpa using ha
    rw [hp] at q
    cases q
theorem Rel.lastT (R : Rel G H HF L σ ρ S) {p : Addr} {us : List (TK × V)} {kvs : List TD} (hp : H p = none) (hr : EntT G HF us kvs) : (L ++ [p])[S.length]? = some p := by
  rw [R.sl, List.getElem?_append_right (Nat.le_refl _)]
  simp
end
section
variable {X : Cx} {W : WD} {pos : Pos} {b : Expr} {fb : DEn}
def mIxT (i : Nat) (fb : DEn) : DEn := fun ρ S => match ρ[i]? with
  | some (some (.cel n)) => (fb ρ S).bind fun y S1 => match keyT y, S1[n]? with
    | some k, some (some (.dt kvs)) => lift (valT kvs k) S1
    | _, _ => .bad
  | _ => .bad
theorem xixT (hu : X.A.units + 64 < cLine) (hkf : keyFree X.K = true) (i : Nat) {x : Str} {px : Pos} (hb : DE X W b fb) (hs : NoSl b := by exact fun _ _ => rfl) (hN : X.N[i]? = some x := by rfl) (hv : Vis X.env.scope x := by first | exact Or.inl rfl | exact Or.inr (Or.inl rfl) | exact Or.inr (Or.inr rfl)) (hd : (x == ("__debug__" : Str)) = false := by decide)
    (hcd : (x == ("__classdict__" : Str)) = false := by decide) : DE X W (.Subscript (.Name x px) b pos) (mIxT i fb) := by
  refine PE.imp (pe_dget (by omega) (pe_var (i := i) hN hv hd hcd) hb hs) fun σ H Q ⟨HF, L, ρ, S, R, p⟩ => ?_
  unfold mIxT at p
  split at p
  · rename_i n hn
    obtain ⟨v, hv1, pa, hp1, hp2⟩ := R.env i _ hn
    subst hp2
    refine ⟨_, hv1, HF, L, ρ, S, R, Post.bind p fun y S1 w H1 HF1 L1 e1 st1 R1 r1 p1 => ?_⟩
    split at p1
    · rename_i k kvs hk hS
      obtain ⟨d, ed, p2⟩ := p1.lift
      obtain ⟨q1, us, q2, q3, q4⟩ := R1.cell n pa _ (st1.lget hp1) hS
      have E : EntT (gd X W) HF1 us kvs := ⟨q3, q4⟩
      obtain ⟨u, e2, e3⟩ := E.val.1 d ed
      obtain ⟨kb, rfl, ekb⟩ := key_rep' hkf r1 hk
      exact ⟨pa, u, rfl, by rw [← e2]; exact DGet.t q2 (R1.sub _ _ ekb), p2.done R1 .no e3⟩
    · exact p1.elim
  · exact p.elim
end
section
variable {X : Cx} {W : WD} {pos : Pos} {a b c : Expr} {fa fb fc : DEn}
/-- {} -/
def mNewDt : DVn := fun _ S => .ok (.cel S.length) (S ++ [some (.dt [])])
theorem vnewT : DV X W (.Dict [] [] pos) mNewDt :=
  PE.imp pe_dnewT fun σ H Q ⟨HF, L, ρ, S, R, p⟩ => fun q hq => by
    have E : EntT (gd X W) HF ([] : List (TK × V)) [] := ⟨rfl, .nil⟩
    obtain ⟨R', st⟩ := R.freshT hq E
    exact p _ _ _ _ st R' ⟨q, R.lastT hq E, rfl⟩
/-- d[k] = .. -/
def gDt (i : Nat) (fi : DEn) : DGn := fun d ρ S => match ρ[i]? with
  | some (some (.cel n)) => (fi ρ S).bd fun x S1 => match keyT x, S1[n]? with
    | some k, some (some (.dt kvs)) => if kvs.length < 1000000 then .ok ρ (S1.set n (some (.dt (putT kvs k d)))) else .bad
    | _, _ => .bad
  | _ => .bad
theorem gdt (hu : X.A.units + 64 < cLine) (hkf : keyFree X.K = true) (i : Nat) {x : Str} {px : Pos} {fi : DEn} (hi : DE X W.z b fi) (hN : X.N[i]? = some x := by rfl) (hv : Vis X.env.scope x := by first | exact Or.inl rfl | exact Or.inr (Or.inl rfl) | exact Or.inr (Or.inr rfl)) (hd : (x == ("__debug__" : Str)) = false := by decide) (hcd : (x == ("__classdict__" : Str)) = false := by decide)
    (ha : ∀ v, assign (.Subscript (.Name x px) b pos) X.env v = (do
      let ov ← holding [v] (eval (.Name x px) X.env)
      let iv ← holding [v, ov] (eval b X.env)
      standAt pos
      holding [v, ov, iv] (setItem ov iv v)
      release [v, ov, iv] []) := by intro _; rfl) : DG X W (.Subscript (.Name x px) b pos) (gDt i fi) :=
  PG.imp (pg_sub (pe_var (i := i) hN hv hd hcd) hi (set_dict (by omega)) ha) fun v σ H Q ⟨HF, L, ρ, S, d, R, r, p⟩ => by
    unfold gDt at p
    split at p
    · rename_i n hn
      obtain ⟨w, hw1, pa, hp1, hp2⟩ := R.env i _ hn
      subst hp2
      refine ⟨_, hw1, HF, L, ρ, S, R, ?_⟩
      cases q : fi ρ S with
      | bad => rw [q] at p; exact p.elim
      | ex x S1 => rw [q] at p; exact p.elim
      | ok y S1 =>
        rw [q] at p
        replace p : PostG (gd X W) H HF L Q (match (generalizing := false) keyT y, S1[n]? with
          | some k, some (some (.dt kvs)) => if kvs.length < 1000000 then .ok ρ (S1.set n (some (.dt (putT kvs k d)))) else .bad
          | _, _ => .bad) := p
        intro u H1 HF1 L1 st1 R1 ru
        split at p
        · rename_i k kvs hk hS
          split at p
          · rename_i hz
            have hp1' := st1.lget hp1
            obtain ⟨q4, us, q5, q6, q7⟩ := R1.cell n pa _ hp1' hS
            have E : EntT (gd X W) HF1 us kvs := ⟨q6, q7⟩
            obtain ⟨kb, rfl, ekb⟩ := key_rep' hkf ru hk
            obtain ⟨R2, st2⟩ := R1.writeT hp1' hS (E.put (k := k) (Rep.mono st1.fro r))
            exact ⟨pa, _, rfl, DPut.t q5 (R1.sub _ _ ekb) (by rw [E.len, sizeLine_eq]; omega), p _ _ _ _ (st1.trans st2) R2⟩
          · exact p.elim
        · exact p.elim
    · exact p.elim
end
section
variable {X : Cx} {W : WD} {pos : Pos} {a b c : Expr} {fa fb fc : DEn}
theorem E_valT {G : Gd} {HF : Hp} {us : List (TK × V)} {kvs : List TD} (E : EntT G HF us kvs) (k : TK) : (valT kvs k).isSome = (valV us k).isSome := E.val.2
def mDtIn (neg : Bool) (i : Nat) (fa : DEn) : DTn := fun ρ S => (fa ρ S).bind fun y S1 => match ρ[i]? with
  | some (some (.cel n)) => match keyT y, S1[n]? with
    | some k, some (some (.dt kvs)) => .ok (Bool.xor neg (valT kvs k).isSome) S1
    | _, _ => .bad
  | _ => .bad
theorem tT.dtIn (hkf : keyFree X.K = true) {neg : Bool} {i : Nat} {σ : L2.St} {H : Hp} {Q : Bool → Hp → Prop} {Qv : VK} (h : tT (gd X W) W (mDtIn neg i fa) σ H Q) (hq : ∀ b H', Q b H' → Qv (.bl b) H') :
    (fun σ H (Q : VK) => tD (gd X W) W fa σ H fun y H1 => tVar i σ H1 fun x H2 => ∃ a o, x = .ref a ∧ DGet H2 a y o ∧ Q (.bl (Bool.xor neg o.isSome)) H2) σ H Qv := by
  obtain ⟨HF, L, ρ, S, R, p⟩ := h
  refine ⟨HF, L, ρ, S, R, Post.bind p fun y S1 w H1 HF1 L1 e1 st1 R1 r1 p1 => ?_⟩
  split at p1
  · rename_i n hn
    split at p1
    · rename_i k kvs hk hS
      obtain ⟨v, hv1, pa, hp1, hp2⟩ := R1.env i _ hn
      subst hp2
      obtain ⟨q1, us, q2, q3, q4⟩ := R1.cell n pa _ hp1 hS
      have E : EntT (gd X W) HF1 us kvs := ⟨q3, q4⟩
      obtain ⟨kb, rfl, ekb⟩ := key_rep' hkf r1 hk
      refine ⟨_, hv1, pa, valV us k, rfl, DGet.t q2 (R1.sub _ _ ekb), ?_⟩
      rw [← E_valT E k]
      exact hq _ H1 (p1.done R1 .no rfl)
    · exact p1.elim
  · exact p1.elim
theorem xdtIn (hu : X.A.units + 64 < cLine) (hkf : keyFree X.K = true) (i : Nat) {x : Str} {px : Pos} (ha : DE X W a fa) (hm : behindInMarks .In (.Name x px) = false := by first | rfl | exact nomark _) (hN : X.N[i]? = some x := by rfl) (hv : Vis X.env.scope x := by first | exact Or.inl rfl | exact Or.inr (Or.inl rfl) | exact Or.inr (Or.inr rfl)) (hd : (x == ("__debug__" : Str)) = false := by decide)
    (hcd : (x == ("__classdict__" : Str)) = false := by decide) : DE X W (.Compare a [.In] [.Name x px] pos) (mB (mDtIn false i fa)) :=
  PE.imp (pe_cmp (pc_din (by omega) ha (pe_var (i := i) hN hv hd hcd)) hm) fun σ H Q h => by
    have := tT.dtIn hkf (Qv := Q) (tD.mB h) fun _ _ q => q
    simp only [Bool.false_xor] at this
    exact this
theorem ydtIn (hu : X.A.units + 64 < cLine) (hkf : keyFree X.K = true) (i : Nat) {x : Str} {px : Pos} (ha : DE X W a fa) (hm : behindInMarks .In (.Name x px) = false := by first | rfl | exact nomark _) (hN : X.N[i]? = some x := by rfl) (hv : Vis X.env.scope x := by first | exact Or.inl rfl | exact Or.inr (Or.inl rfl) | exact Or.inr (Or.inr rfl)) (hd : (x == ("__debug__" : Str)) = false := by decide)
    (hcd : (x == ("__classdict__" : Str)) = false := by decide) : DT X W (.Compare a [.In] [.Name x px] pos) (mDtIn false i fa) :=
  PT.imp (pt_cmp (pc_din (by omega) ha (pe_var (i := i) hN hv hd hcd)) hm) fun σ H Q h => by
    have := tT.dtIn hkf (Qv := fun x H1 => ∃ c, x = .bl c ∧ Q c H1) h fun b _ q => ⟨b, rfl, q⟩
    simp only [Bool.false_xor] at this
    exact this
theorem xdtNotIn (hu : X.A.units + 64 < cLine) (hkf : keyFree X.K = true) (i : Nat) {x : Str} {px : Pos} (ha : DE X W a fa) (hm : behindInMarks .NotIn (.Name x px) = false := by first | rfl | exact nomark _) (hN : X.N[i]? = some x := by rfl) (hv : Vis X.env.scope x := by first | exact Or.inl rfl | exact Or.inr (Or.inl rfl) | exact Or.inr (Or.inr rfl)) (hd : (x == ("__debug__" : Str)) = false := by decide)
    (hcd : (x == ("__classdict__" : Str)) = false := by decide) : DE X W (.Compare a [.NotIn] [.Name x px] pos) (mB (mDtIn true i fa)) :=
  PE.imp (pe_cmp (pc_dnotin (by omega) ha (pe_var (i := i) hN hv hd hcd)) hm) fun σ H Q h => by
    have := tT.dtIn hkf (Qv := Q) (tD.mB h) fun _ _ q => q
    simp only [Bool.true_xor] at this
    exact this
theorem ydtNotIn (hu : X.A.units + 64 < cLine) (hkf : keyFree X.K = true) (i : Nat) {x : Str} {px : Pos} (ha : DE X W a fa) (hm : behindInMarks .NotIn (.Name x px) = false := by first | rfl | exact nomark _) (hN : X.N[i]? = some x := by rfl) (hv : Vis X.env.scope x := by first | exact Or.inl rfl | exact Or.inr (Or.inl rfl) | exact Or.inr (Or.inr rfl)) (hd : (x == ("__debug__" : Str)) = false := by decide)
    (hcd : (x == ("__classdict__" : Str)) = false := by decide) : DT X W (.Compare a [.NotIn] [.Name x px] pos) (mDtIn true i fa) :=
  PT.imp (pt_cmp (pc_dnotin (by omega) ha (pe_var (i := i) hN hv hd hcd)) hm) fun σ H Q h => by
    have := tT.dtIn hkf (Qv := fun x H1 => ∃ c, x = .bl c ∧ Q c H1) h fun b _ q => ⟨b, rfl, q⟩
    simp only [Bool.true_xor] at this
    exact this
/-- d.get(k, x) -/
def mGetDt (i : Nat) (fa fb : DEn) : DEn := fun ρ S => match ρ[i]? with
  | some (some (.cel n)) => match S[n]? with
    | some (some (.dt _)) => (fa ρ S).bind fun y S1 => (fb ρ S1).bind fun z S2 => match keyT y, S2[n]? with
      | some k, some (some (.dt kvs)) => .ok ((valT kvs k).getD z) S2
      | _, _ => .bad
    | _ => .bad
  | _ => .bad
theorem xgetDt (hu : X.A.units + 64 < cLine) (hkf : keyFree X.K = true) (i : Nat) {x : Str} {px apos : Pos} (ha : DE X W a fa) (hb : DE X W b fb) (m : M2 X (.Name x px) "get" apos a b pos) (hN : X.N[i]? = some x := by rfl) (hvi : Vis X.env.scope x := by first | exact Or.inl rfl | exact Or.inr (Or.inl rfl) | exact Or.inr (Or.inr rfl)) (hd : (x == ("__debug__" : Str)) = false := by decide) (hcd : (x == ("__classdict__" : Str)) = false := by decide) :
    DE X W (.Call (.Attribute (.Name x px) "get" apos) [a, b] [] pos) (mGetDt i fa fb) := by
  refine PE.imp (pe_dget2 (by omega) (pe_var (i := i) hN hvi hd hcd) ha hb m) fun σ H Q ⟨HF, L, ρ, S, R, p⟩ => ?_
  unfold mGetDt at p
  split at p
  · rename_i n hn
    split at p
    · rename_i kvs0 hS0
      obtain ⟨v, hv1, pa, hp1, hp2⟩ := R.env i _ hn
      subst hp2
      obtain ⟨q1, us, q2, q3, q4⟩ := R.cell n pa _ hp1 hS0
      refine ⟨_, hv1, pa, rfl, .inr ⟨us, .inl q2⟩, HF, L, ρ, S, R, Post.bind p fun y S1 w H1 HF1 L1 e1 st1 R1 r1 p1 => ⟨HF1, L1, ρ, S1, R1, Post.bind p1 fun z S2 u H2 HF2 L2 e2 st2 R2 r2 p2 => ?_⟩⟩
      split at p2
      · rename_i k kvs hk hS
        obtain ⟨q1, us, q2, q3, q4⟩ := R2.cell n pa _ (st2.lget (st1.lget hp1)) hS
        have E : EntT (gd X W) HF2 us kvs := ⟨q3, q4⟩
        obtain ⟨kb, rfl, ekb⟩ := key_rep' hkf r1 hk
        refine ⟨valV us k, DGet.t q2 (R2.sub _ _ (st2.fro _ _ ekb)), p2.done R2 .no ?_⟩
        cases e : valT kvs k with
        | none =>
          have : valV us k = none := by
            have := E.val (k := k) |>.2
            rw [e] at this
            cases h : valV us k with
            | none => rfl
            | some x => rw [h] at this; cases this
          rw [this]
          exact r2
        | some d =>
          obtain ⟨v2, e2, e3⟩ := E.val.1 d e
          rw [e2]
          exact e3
      · exact p2.elim
    · exact p.elim
  · exact p.elim
end
/-- a constant within a constant -/
theorem kon_in {G : Gd} {HF : Hp} {a : Addr} {dd : Option Addr} {us : List Value} {vs : List V} {ds : List D} {n : Nat} {sl : Array (Option Value)} (l : G.K.lookup a = some ⟨.type "tuple", dd, .seq us.toArray n, sl⟩) (hv : Vals vs us) (hl : us.length ≤ lim) (r : Reps G HF vs ds) : Rep G HF (.ref a) (.tup ds) :=
  .tup (.inr ⟨_, us.toArray, n, l, rfl, rfl, by rw [List.size_toArray]; exact Nat.le_trans hl lim_le, by simpa using hv⟩) r
/-- what never changes is counted with what is known not to change -/
theorem Rel.adopts {G : Gd} {H : Hp} {L : List Addr} {σ : L2.St} {ρ : DL.Env} {S : Store} : ∀ {us : List (TK × V)} {bs : List Addr} {HF : Hp}, Rel G H HF L σ ρ S → IsKeys H us bs → ∃ HF', Rel G H HF' L σ ρ S ∧ Step H HF L H HF' L ∧ Reps G HF' (bs.map V.ref) (us.map fun kv => D.tup (kv.1.map kD))
  | [], bs, HF, R, h => by
    cases h
    exact ⟨HF, R, .refl, .nil⟩
  | u :: us, bs, HF, R, h => by
    cases h with
    | cons h1 h2 =>
      rename_i b bs
      obtain ⟨R1, st1⟩ := R.adoptT h1
      obtain ⟨HF2, R2, st2, r⟩ := Rel.adopts R1 h2
      exact ⟨HF2, R2, st1.trans st2, .cons (.tup (.inl (st2.fro _ _ upd_same)) (kDs_rep _)) r⟩
section
variable {X : Cx} {W : WD} {pos : Pos} {a b c : Expr} {fa fb fc : DEn}
/-- list(d) -/
def mLstDt (i : Nat) : DEn := fun ρ S => match ρ[i]? with
  | some (some (.cel n)) => match S[n]? with
    | some (some (.dt kvs)) => .ok (.lst (kvs.map fun kv => D.tup (kv.1.map kD))) S
    | _ => .bad
  | _ => .bad
theorem xlstDt (hc : X.calm = true) (i : Nat) {x : Str} {p px : Pos} (hm : X.mg "list" = none) (hg : Gl X "list" := by rfl) (hN : X.N[i]? = some x := by rfl) (hvi : Vis X.env.scope x := by first | exact Or.inl rfl | exact Or.inr (Or.inl rfl) | exact Or.inr (Or.inr rfl)) (hd : (x == ("__debug__" : Str)) = false := by decide) (hcd : (x == ("__classdict__" : Str)) = false := by decide)
    (he : starEach [Expr.Name x px] X.env = (false, eval (.Name x px) X.env) :: starEach [] X.env := by rfl) (hpl : (backTo pos (starEach [] X.env)).any (·.1) = false := by rfl) : DE X W (.Call (.Name "list" p) [.Name x px] [] pos) (mLstDt i) := by
  refine PE.imp (pe_callTy (call_list_dT hc) hg hm PyProof.Rows.boot_list (pa_cons (pe_var (i := i) hN hvi hd hcd) pa_nil he) (by decide) (by decide) he hpl) fun σ H Q ⟨HF, L, ρ, S, R, p⟩ => ?_
  unfold mLstDt at p
  split at p
  · rename_i n hn
    split at p
    · rename_i kvs hS
      obtain ⟨v, hv1, pa, hp1, hp2⟩ := R.env i _ hn
      subst hp2
      obtain ⟨q1, us, q2, q3, q4⟩ := R.cell n pa _ hp1 hS
      refine ⟨_, hv1, pa, us, rfl, .inl q2, fun t bs hn' hks => ?_⟩
      obtain ⟨HF2, R2, st2, r2⟩ := R.adopts hks
      obtain ⟨R3, st3⟩ := R2.frozen (o := .lst (bs.map V.ref)) hn'
      refine p _ _ _ _ (st2.trans st3) R3 (.lst upd_same ?_)
      have e2 : (kvs.map fun kv => D.tup (kv.1.map kD)) = us.map fun kv => D.tup (kv.1.map kD) := by
        have := congrArg (List.map fun k : TK => D.tup (k.map kD)) q3
        rw [List.map_map, List.map_map] at this
        exact this.symm
      rw [e2]
      exact r2.mono st3.fro
    · exact p.elim
  · exact p.elim
end
end DL

/-! the layer of data: x[i] |= e -/
namespace DL
open PySem PySem.Spec PyProof.Rows L2
section
variable {X : Cx} {W : WD} {pos : Pos} {a b c : Expr} {fa fb fc : DEn} {tg : Expr}
def mAugIxF (g : Int → Int → Int) (i : Nat) (fi fe : DEn) : DSn := fun ρ S => match ρ[i]? with
  | some (some (.cel n)) => bindS (fi ρ S) ρ fun x S1 => match x, S1[n]? with
    | .int k, some (some (.lst ds)) => match atI ds k with
      | some (.int m) => bindS (fe ρ S1) ρ fun y S2 => match y, S2[n]? with
        | .int e, some (some (.lst es)) => match ixN es.length k with
          | some j => .ok (.nx, ρ) (S2.set n (some (.lst (es.set j (.int (g m e))))))
          | none => .bad
        | _, _ => .bad
      | _ => .bad
    | _, _ => .bad
  | _ => .bad
theorem saugIxF {op : Operator} {g : Int → Int → Int} (hip : PIp X op (ipI g)) (i : Nat) {x : Str} {px tpos : Pos} (hb : DE X W b fa) (he : DE X W c fc) (hN : X.N[i]? = some x := by rfl) (hv : Vis X.env.scope x := by first | exact Or.inl rfl | exact Or.inr (Or.inl rfl) | exact Or.inr (Or.inr rfl)) (hd : (x == ("__debug__" : Str)) = false := by decide) (hcd : (x == ("__classdict__" : Str)) = false := by decide)
    (ha : ∀ ov iv new, augStore b ov iv new = (do holding [new, ov, iv] (setItem ov iv new); release [new, ov, iv] []; pure .next) := by intros; rfl) :
    DS X W (.AugAssign (.Subscript (.Name x px) b tpos) op c pos) (mAugIxF g i fa fc) :=
  PS.imp (ps_augS (pe_var (i := i) hN hv hd hcd) hb get_list he hip set_list ha) fun D σ H ⟨HF, L, ρ, S, R, p⟩ => by
    unfold mAugIxF at p
    split at p
    · rename_i n hn
      obtain ⟨v, hv1, pa, hp1, hp2⟩ := R.env i _ hn
      subst hp2
      refine ⟨_, hv1, HF, L, ρ, S, R, PostS.bind p fun y S1 w H1 HF1 L1 e1 st1 R1 r1 p1 => ?_⟩
      split at p1
      · rename_i k ds hS
        cases r1
        split at p1
        · rename_i m hm
          obtain ⟨q1, vs, q2, q3⟩ := R1.cell n pa _ (st1.lget hp1) hS
          obtain ⟨u, e2, e3⟩ := q3.atI hm
          cases e3
          refine ⟨_, _, _, _, rfl, rfl, SqL.of q2, e2, HF1, L1, ρ, S1, R1, PostS.bind p1 fun y2 S2 w2 H2 HF2 L2 e22 st2 R2 r2 p2 => ?_⟩
          split at p2
          · rename_i e es hS2
            cases r2
            split at p2
            · rename_i j hj
              have hp3 := st2.lget (st1.lget hp1)
              obtain ⟨q4, vs2, q5, q6⟩ := R2.cell n pa _ hp3 hS2
              obtain ⟨R3, st3⟩ := R2.write hp3 hS2 (q6.set j (.int (g m e)))
              exact ⟨_, _, rfl, rfl, pa, vs2, k, j, rfl, rfl, q5, by rw [q6.length]; exact hj, p2 _ _ _ _ st3 R3⟩
            · exact p2.elim
          · exact p2.elim
        · exact p1.elim
      · exact p1.elim
    · exact p.elim
end
end DL

/-! the layer of data: a, b = x, y where a comprehension reads a name: by way of a tuple -/
namespace DL
open PySem PySem.Spec PyProof.Rows L2
section
variable {X : Cx} {W : WD} {pos : Pos} {a b : Expr}
theorem spar2C (i j : Nat) {x y : Str} {px py pt pt2 : Pos} {kt k2 : Nat} {fs : DAn} (hc : X.calm = true) (hN : X.N.Nodup) (ha : DAE X W [a, b] fs) (hi : X.N[i]? = some x := by rfl) (hj : X.N[j]? = some y := by rfl)
    (hx : Loc X.env.scope x := by first | exact Or.inl rfl | exact Or.inr rfl) (hy : Loc X.env.scope y := by first | exact Or.inl rfl | exact Or.inr rfl) (hfx : X.fn x = true ∨ X.env.scope.names.lookup x = some .local := by first | exact .inl rfl | exact .inr rfl | assumption) (hfy : X.fn y = true ∨ X.env.scope.names.lookup y = some .local := by first | exact .inl rfl | exact .inr rfl | assumption)
    (hs : swapsWithSole [.Tuple [.Name x px, .Name y py] kt pt] (.Tuple [a, b] k2 pt2) pos.line X.env = pure false := by rfl) (hw : swappedStores [.Tuple [.Name x px, .Name y py] kt pt] (.Tuple [a, b] k2 pt2) X.env = pure none := by rfl)
    (h1 : (assignEach [.Tuple [.Name x px, .Name y py] kt pt] X.env).map (·.2) = [assign (.Tuple [.Name x px, .Name y py] kt pt) X.env] := by rfl)
    (hs1 : (assignEach [Expr.Name x px, .Name y py] X.env).map (·.2) = assign (.Name x px) X.env :: (assignEach [Expr.Name y py] X.env).map (·.2) := by rfl) (hs2 : (assignEach [Expr.Name y py] X.env).map (·.2) = assign (.Name y py) X.env :: (assignEach [] X.env).map (·.2) := by rfl)
    (hn : (assignEach [Expr.Name x px, .Name y py] X.env).length = 2 := by rfl) (hst : (assignEach [Expr.Name x px, .Name y py] X.env).findIdx? (·.1) = none := by rfl) (hse : starEach [a, b] X.env = (false, eval a X.env) :: starEach [b] X.env := by rfl) (hpl : (backTo pt2 (starEach [b] X.env)).any (·.1) = false := by rfl) :
    DS X W (.Assign [.Tuple [.Name x px, .Name y py] kt pt] (.Tuple [a, b] k2 pt2) pos) (mPar2 i j fs) :=
  PS.imp (ps_asg (pe_tup ha) (pg_tup hc (pgs_cons (pg_name hN hi hx hfx) (pgs_cons (pg_name hN hj hy hfy) pgs_nil hs2) hs1) hn hst) hs hw h1) fun D σ H ⟨HF, L, ρ, S, R, p⟩ => ⟨HF, L, ρ, S, R, PostS.bind p fun es S1 vs H1 HF1 L1 e1 st1 R1 r1 p1 => by
    split at p1
    · cases r1 with
      | cons h1 h2 => cases h2 with
        | cons h3 h4 =>
          cases h4
          refine ⟨by show 2 ≤ sizeLine; rw [sizeLine_eq]; decide, fun q hq => ?_⟩
          obtain ⟨R2, st2⟩ := R1.frozen (o := .tup [_, _]) hq
          refine ⟨q, _, rfl, SqT.of upd_same, rfl, _, _, rfl, _, _, rfl, rfl, ?_⟩
          exact p1 _ _ _ _ st2 ((R2.store (RepE.mono st2 h1) i).store (RepE.mono st2 h3) j)
    · exact p1.elim⟩
end
end DL

/-! for (a, b), c in d.items(): a locked dict whose keys are tuples -/
namespace L2
open PySem PySem.Spec PyProof.Rows
section
variable {X : Cx} {pins : List (Addr × Obj)} {σ : St} {H : Hp} {s : Shared} {d : Addr} {o : Obj}
theorem Inv.frzTv {kvs : List (List Key × V)} (I : Inv X pins σ H s) (h : H d = some (.frz o (.dT kvs))) :
    (d == sysModules) = false ∧ s.heap.get? d = some o ∧ o.ExactDict ∧ ∃ (es : Array DictEntry) (ep : Nat), o.data = .dict es ep ∧ es.size = kvs.length ∧
      ∀ (i : Nat) (k : List Key) (v : V), kvs[i]? = some (k, v) → ∃ (en : DictEntry) (q : Addr), es[i]? = some en ∧ en.key = .ref q ∧ H q = some (.tup (k.map kV)) ∧ RelV v en.val := by
  obtain ⟨hd, z, hs, xs, pr, o', es, ep, ho, hx, hdt, he, _⟩ := I.hok d _ h
  rw [hd] at ho
  cases ho
  refine ⟨hs, hd, hx, es, ep, hdt, ?_, fun i k v e => ?_⟩
  · have l1 : es.size = xs.length := size_of_entries he
    have l2 : kvs.length = xs.length := Paired.length pr
    omega
  · obtain ⟨b, hb, e1, e2, e3⟩ := paired_get pr e
    have q := entry_at he i
    rw [hb] at q
    exact ⟨_, b.2.1, q, rfl, e2, e3⟩
end
/-- the pairs of the locked dict at d, each a new tuple; the key's own tuple first -/
def Itit (d : Addr) (o : Obj) (kvs : List (List Key × V)) : It :=
  ⟨fun i H => H d = some (.frz o (.dT kvs)) ∧ i < kvs.length, fun i H x H' => ∃ (T : Addr) (k : List Key) (v : V) (q : Addr), kvs[i]? = some (k, v) ∧ x = .ref T ∧ H T = none ∧ H q = some (.tup (k.map kV)) ∧ H' = upd H T (.tup [.ref q, v]), fun i H => H d = some (.frz o (.dT kvs)) ∧ kvs.length ≤ i⟩
section
variable {P : Program} {w : World} {K : PySem.W.Frag} {d : Addr} {o : Obj} {es : Array DictEntry} {ep : Nat}
theorem turn_itemsT {kvs : List (List Key × V)} {elts : List Expr} {kk : Nat} {tpos : Pos} (it : Addr) (hod : o.data = .dict es ep) :
    Turn P w K (.Tuple elts kk tpos) (Itit d o kvs) [it] it (fun i h => ∃ ok ov, IsItemIter h it d i kvs.length ep ok ov) where
  mem := by simp
  obj := fun i h st b hb => by
    have e : b = it := by simpa using hb
    subst e
    obtain ⟨ok, ov, e⟩ := st
    exact ⟨_, e, fun v z => nomatch z⟩
  keep := fun i h h' st k => let ⟨ok, ov, e⟩ := st; ⟨ok, ov, k it (by simp) _ e⟩
  item := by
    intro X hP hw hK hc i pins s σ H E I hf st hg
    subst hP hw hK
    obtain ⟨hd, hi⟩ := hg
    obtain ⟨hs, hgd, hx, es', ep', hdt, hsz, ent⟩ := I.frzTv hd
    obtain ⟨rfl, rfl⟩ := dict_ep hod hdt
    obtain ⟨⟨k, v⟩, hkv⟩ : ∃ p, kvs[i]? = some p := ⟨kvs[i], List.getElem?_eq_getElem hi⟩
    obtain ⟨en, q, hen, hkey, hq, rv⟩ := ent i k v hkv
    obtain ⟨ok, ov, he⟩ := st
    rw [← hsz] at he
    have hi' : i < es'.size := by omega
    have een : es'[i] = en := by
      rw [Array.getElem?_eq_getElem hi'] at hen
      exact Option.some.inj hen
    have hlt : it < s.heap.objs.size := Heap.lt_size he
    refine DT.nextI he (es := es') (ep := ep') ⟨o, hgd, hx, hdt⟩ hi' fun h' ho hT hz hk => ?_
    refine ⟨_, rfl, wpAny_letOwnedTupleGo_items (s := { s with heap := h' }) ho fun h'' he' sb => ?_⟩
    have hT2 : h''.get? s.heap.objs.size = some { cls := .type "tuple", data := .seq #[es'[i].key, es'[i].val] } := (sb.2 _ (Nat.ne_of_gt hlt)).trans hT
    have new : ObjOk X.prog X.w (upd H s.heap.objs.size (.tup [.ref q, v])) h'' s.heap.objs.size (.tup [.ref q, v]) :=
      ⟨by show 2 ≤ sizeLine; decide, [es'[i].key, es'[i].val], .cons (by rw [een, hkey]; rfl) (.cons (by rw [een]; exact rv) .nil), ⟨_, hT2, rfl, _, rfl⟩⟩
    have I1 : Inv X pins σ (upd H s.heap.objs.size (.tup [.ref q, v])) { s with heap := h'' } :=
      I.turnedNew (t' := s.toks) (ch := [it]) (fun b ob hb e => (sb.2 b (by simpa using hb)).trans (hk b ob (by simpa using hb) e)) hf (Nat.le_refl _) new
    refine ⟨.ref s.heap.objs.size, _, I1, rfl, ⟨_, k, v, q, hkv, rfl, I.hok.fresh (Nat.le_refl _), hq, rfl⟩, ⟨es'[i].key, es'[i].val, ?_⟩, fun b hb => ?_⟩
    · rw [← hsz]; exact he'
    · have e : b = it := by simpa using hb
      rw [e, upd_ne (Nat.ne_of_lt hlt)]
      exact (hf it (by simp)).1
  done := by
    intro X hP hw hK hc i pins s σ H E I hf st hg
    subst hP hw hK
    obtain ⟨hd, hi⟩ := hg
    obtain ⟨f0, f1, f2, f3, f4, f5⟩ := hf it (by simp)
    obtain ⟨hs, hgd, hx, es', ep', hdt, hsz, ent⟩ := I.frzTv hd
    obtain ⟨rfl, rfl⟩ := dict_ep hod hdt
    obtain ⟨ok, ov, he⟩ := st
    rw [← hsz] at he
    exact DT.endI (I.ok.hd hc) he (es := es') (ep := ep') ⟨o, hgd, hx, hdt⟩ (by omega) fun h' eb => ⟨rfl, I.turned (t' := s.toks) (fun b ob hb e => eb b ob hb e) f0 f1 f3 f4 f5⟩
  self := fun A i s Q E st h => let ⟨_, _, e⟩ := st; PySem.W.kcp_self e h
end
def iItemsT (td : TE) : TI := fun σ H R => td σ H fun x H1 => ∃ d o kvs, x = .ref d ∧ H1 d = some (.frz o (.dT kvs)) ∧ R (Itit d o kvs) H1
section
variable {X : Cx} {e : Expr} {td : TE} {apos cpos : Pos}
theorem pi_itemsT {elts : List Expr} {kk : Nat} {tpos : Pos} (he : PE X e td) (hbase : attributeBase e "items" X.env (eval e X.env) = eval e X.env := by rfl) (hline : (apos.endLine == cpos.line) = true := by rfl) :
    PI X (.Tuple elts kk tpos) (.Call (.Attribute e "items" apos) [] [] cpos) (iItemsT td) := by
  refine ⟨fun pins s σ H R I h => ?_⟩
  refine wpAny_Call_method (T := "dict") (id := "dict.items") hbase rfl hline F.plainAttrs_dict F.slot_dict_items F.type_dict_items (thn (he.run pins s σ H _ I h) fun u s1 ⟨x, H1, I1, rx, d, o, kvs, ex, hd, q⟩ => ?_)
  subst ex
  obtain rfl : u = Value.ref d := rx
  obtain ⟨hs, hgd, hx, es, ep, hdt, hsz, ent⟩ := I1.frzTv hd
  have raw : DT.Raw s1.heap d es ep := ⟨o, hgd, hx, hdt⟩
  refine ⟨raw.typeIs, ?_, ?_⟩
  · intro b hb
    cases hb
    exact ⟨o, hgd, hx.2.1⟩
  have I2 : Inv X pins σ H1 { s1 with heap := s1.heap.push { cls := .type "dict_items", data := .fields #[.ref d] } } := I1.kept (t' := s1.toks) fun b ob q => Heap.get?_push_of_some _ q
  have fin : wpAny (model X.prog X.w) X.A (pyIter (.ref s1.heap.objs.size)) (PIE X pins σ (.Tuple elts kk tpos) R) X.xe { s1 with heap := s1.heap.push { cls := .type "dict_items", data := .fields #[.ref d] } } := by
    refine DT.iterI (d := d) ⟨_, Heap.get?_push_size _ rfl, rfl, rfl⟩ (raw.push _) (pi_one (tk := s1.toks) I2 _ (turn_itemsT _ hdt) ⟨.none, .none, ?_⟩ q)
    rw [← hsz]
    exact Heap.get?_push_size _ rfl
  show wpAny _ _ (callWith cpos (.builtin "dict.items") [.ref d] [] []) _ X.xe s1
  exact method_meetsIn F.slot_dict_items F.entry_dict_items rfl (PySem.evalArgs_none ⟨rfl, raw.typeIs, F.args_dict_items_1 _, _, DT.meetsItems (es := es) (ep := ep) hs, ⟨raw, fin⟩⟩)
end
end L2

/-! the layer of data: dicts with tuples as keys, given back: known objects; for (a, b), c in d.items() -/
namespace DL
open PySem PySem.Spec PyProof.Rows L2
def tLockV (t : TE) : TE := fun σ H Q => t σ H fun x H1 => ∃ d u, x = V.ref d ∧ H1 d = some u ∧ Mut (some u) ∧ ∀ od, Q x (upd H1 d (.frz od u))
theorem pe_lockV {X : Cx} {e : Expr} {t : TE} (h : PE X e t) : PE X e (tLockV t) :=
  ⟨fun pins s σ H Q I hw => thn (h.run pins s σ H _ I hw) fun v s1 ⟨x, H1, I1, r, d, u, ex, hd, mu, q⟩ => by
    obtain ⟨od, I2⟩ := I1.lock hd mu
    exact ⟨x, _, I2, r, q od⟩⟩
section
variable {G : Gd} {H HF : Hp} {L : List Addr} {σ : L2.St} {ρ : DL.Env} {S : Store}
/-- the dict's cell at a is locked: what is known then; its slot's place is none -/
theorem Rel.lockT (R : Rel G H HF L σ ρ S) {n : Nat} {a : Addr} {us : List (TK × V)} (od : Obj) {c : Cell} (h1 : L[n]? = some a) (h2 : S[n]? = some (some c)) (ho : H a = some (.dT us)) :
    Rel G (upd H a (.frz od (.dT us))) (upd HF a (.frz od (.dT us))) L σ ρ (S.set n none) ∧ Step H HF L (upd H a (.frz od (.dT us))) (upd HF a (.frz od (.dT us))) L := by
  have hmem : a ∈ L := List.mem_of_getElem? h1
  have hn : n < L.length := (List.getElem?_eq_some_iff.mp h1).1
  obtain ⟨hF, _⟩ := R.cell n a _ h1 h2
  have nt : Nt (.frz od (.dT us)) := by intro _ h; cases h
  refine ⟨⟨fun b u q => ?_, R.nd, by simpa using R.sl, fun b hb => ?_, R.tab.up (fun b ps e => ?_) (same_upd hF), nft_upd R.nft nt, fun k b c' k1 k2 => ?_, R.el, fun i x h => ?_⟩, ⟨fun b o hb _ q => ?_, fun b o nto q => ?_, same_upd hF, fun b o hb q _ _ => ?_, [], by simp, by simp⟩⟩
  · by_cases hb : b = a
    · subst hb; rw [upd_same] at q ⊢; exact q
    · rw [upd_ne hb] at q ⊢; exact R.sub b u q
  · by_cases hb' : b = a
    · subst hb'; exact ⟨_, upd_same, trivial⟩
    · rw [upd_ne hb']; exact R.liv b hb
  · rw [upd_ne (fun z => by subst z; rw [ho] at e; cases e)]; exact e
  · by_cases hk : k = n
    · subst hk
      rw [List.getElem?_set_self (by rw [R.sl]; exact hn)] at k2
      cases k2
    · rw [List.getElem?_set_ne (Ne.symm hk)] at k2
      obtain ⟨q1, q2⟩ := R.cell k b c' k1 k2
      have ne : b ≠ a := fun z => hk (nodup_get R.nd (by rw [← z]; exact k1) h1)
      exact ⟨by rw [upd_ne ne]; exact q1, q2.up (upd_ne ne) (same_upd hF)⟩
  · obtain ⟨v, q1, q2⟩ := R.env i x h
    refine ⟨v, q1, ?_⟩
    cases x with
    | v d => exact Rep.mono (same_upd hF) q2
    | cel n => exact q2
    | exn x =>
      obtain ⟨b, cls, dd, k1, k2, k3⟩ := q2
      exact ⟨b, cls, dd, k1, k2, k3.mono (same_upd hF)⟩
    | lam ws ds => exact RepLam.mono (same_upd hF) q2
  · rw [upd_ne (fun z => hb (by rw [z]; exact hmem))]; exact q
  · by_cases hb : b = a
    · subst hb; exact ⟨_, nt, upd_same⟩
    · exact ⟨o, nto, by rw [upd_ne hb]; exact q⟩
  · rw [upd_ne (fun z => hb (by rw [z]; exact hmem))]; exact q
end
section
variable {X : Cx} {W : WD} {pos : Pos} {a b c : Expr} {fa fb fc : DEn}
/-- a dict's cell as a value, given up -/
def mFrzD (i : Nat) : DEn := fun ρ S => match ρ[i]? with
  | some (some (.cel n)) => match S[n]? with
    | some (some (.dt kvs)) => .ok (.dct (kvs.map (·.1)) (kvs.map (·.2))) (S.set n none)
    | _ => .bad
  | _ => .bad
theorem xfrzD (i : Nat) {x : Str} (hN : X.N[i]? = some x := by rfl) (hv : Vis X.env.scope x := by first | exact Or.inl rfl | exact Or.inr (Or.inl rfl) | exact Or.inr (Or.inr rfl)) (hd : (x == ("__debug__" : Str)) = false := by decide)
    (hcd : (x == ("__classdict__" : Str)) = false := by decide) : DE X W (.Name x pos) (mFrzD i) := by
  refine PE.imp (pe_lockV (pe_var (i := i) hN hv hd hcd)) fun σ H Q ⟨HF, L, ρ, S, R, p⟩ => ?_
  unfold mFrzD at p
  split at p
  · rename_i n hn
    obtain ⟨v, hv1, pa, hp1, hp2⟩ := R.env i _ hn
    subst hp2
    split at p
    · rename_i kvs hS
      obtain ⟨q1, us, q2, q3, q4⟩ := R.cell n pa _ hp1 hS
      refine ⟨_, hv1, pa, _, rfl, q2, trivial, fun od => ?_⟩
      obtain ⟨R2, st2⟩ := R.lockT od hp1 hS q2
      exact p _ _ _ _ st2 R2 (.dct upd_same q3 rfl (q4.mono st2.fro))
    · exact p.elim
  · exact p.elim
/-- the pairs of a dict value -/
def itemsT (ks : List TK) (vs : List D) : List D := List.zipWith (fun k v => D.tup [.tup (k.map kD), v]) ks vs
theorem itd_itemsT {G : Gd} {HF : Hp} {d : Addr} {o : Obj} {us : List (TK × V)} {ds : List D} (h : HF d = some (.frz o (.dT us))) (r : Reps G HF (us.map (·.2)) ds) : ItD G (Itit d o us) HF (itemsT (us.map (·.1)) ds) where
  go := fun i H1 HF1 s1 s2 hi => ⟨(s1.trans s2) _ _ h, by
    unfold itemsT at hi
    rw [List.length_zipWith, List.length_map] at hi
    omega⟩
  yld := fun i x H1 HF1 H2 d' s1 s2 hd ⟨T, k, v, q, e1, e2, e3, eq, e4⟩ => by
    subst e2; subst e4
    unfold itemsT at hd
    rw [List.getElem?_zipWith] at hd
    rw [List.getElem?_map, e1] at hd
    cases qq : ds[i]? with
    | none => rw [qq] at hd; cases hd
    | some y =>
      rw [qq] at hd
      cases hd
      obtain ⟨w, g1, g2⟩ := r.get qq
      rw [List.getElem?_map, e1] at g1
      cases g1
      have sm : Same HF1 (upd HF1 q (.tup (k.map kV))) := fun c u e => by
        by_cases hc : c = q
        · subst hc
          have := s2 _ _ e
          rw [eq] at this; cases this
          exact upd_same
        · rw [upd_ne hc]; exact e
      have neq : q ≠ T := fun z => by subst z; rw [eq] at e3; cases e3
      have fr : (upd HF1 q (.tup (k.map kV))) T = none := by
        rw [upd_ne (Ne.symm neq)]
        exact free_of s2 e3
      refine ⟨_, .ad e3 eq, .tup (SqE.of upd_same) (.cons (.tup (SqE.of (by rw [upd_ne neq]; exact upd_same)) (kDs_rep _)) (.cons (Rep.mono (s1.trans (sm.trans (same_upd fr))) g2) .nil))⟩
  stop := fun i H1 HF1 s1 s2 hi => ⟨(s1.trans s2) _ _ h, by
    unfold itemsT at hi
    have := r.length
    rw [List.length_map] at this
    rw [List.length_zipWith, List.length_map] at hi
    omega⟩
def mItT (fa : DEn) : DDn := fun ρ S => (fa ρ S).bind fun x S1 => match x with
  | .dct ks vs => .ok (itemsT ks vs) S1
  | _ => .bad
theorem i_itemsT {elts : List Expr} {kk : Nat} {tpos apos cpos : Pos} (ha : DE X W a fa) (hbase : attributeBase a "items" X.env (eval a X.env) = eval a X.env := by rfl) (hline : (apos.endLine == cpos.line) = true := by rfl) :
    DI X W (.Tuple elts kk tpos) (.Call (.Attribute a "items" apos) [] [] cpos) (mItT fa) :=
  PI.imp (pi_itemsT ha hbase hline) fun σ H R ⟨HF, L, ρ, S, RR, p⟩ => ⟨HF, L, ρ, S, RR, Post.bind p fun x S1 v H1 HF1 L1 e1 st1 R1 r1 p1 => by
    cases x with
    | dct ks vs =>
      cases r1 with
      | dct h1 h2 h3 h4 =>
        subst h2; subst h3
        exact ⟨_, _, _, rfl, R1.sub _ _ h1, p1.done R1 .no (itd_itemsT h1 h4)⟩
    | _ => exact p1.elim⟩
end
end DL

namespace Pr
open PySem PySem.Spec PyProof.Rows L2 DL

def top (i : Nat) : Stmt := PySem.Challenge.pw_chipfloor_k93_whole_more_registers.main.body.getD i (.Pass ⟨0, 0, 0, 0⟩)
/-- the built-ins' names mean what they mean -/
structure Bi (mg : Str → Option Value) : Prop where
  all : mg "all" = none
  any : mg "any" = none
  bool : mg "bool" = none
  enumerate : mg "enumerate" = none
  int : mg "int" = none
  isinstance : mg "isinstance" = none
  len : mg "len" = none
  list : mg "list" = none
  max : mg "max" = none
  min : mg "min" = none
  range : mg "range" = none
  sum : mg "sum" = none
  tuple : mg "tuple" = none
  zip : mg "zip" = none
def k_LONGEST_DELAY : D := (.int 50)
def k_MOST_GATES : D := (.int 8)
def k_MOST_REGISTERS : D := (.int 9)
def k_MOST_WIRES : D := (.int 20)
def xcat : Str → Option Bool := fun y => if y = "BadCircuit" then some true else none
def xtab : Str → Str → Option Bool := fun y t => if y = "BadCircuit" then (none) else none
def xfld : Str → Str → Bool := fun y f => if y = "BadCircuit" then decide (f = "index") else false
/-- the exceptions' classes mean what they mean -/
structure Exs (P : Program) (w : World) (K : PySem.W.Frag) (mg : Str → Option Value) (base : Heap) : Prop where
  own_BadCircuit : OwnE P w ⟨K, mg, none⟩ base 1 "BadCircuit" "index"
  tab : XTab K mg xtab
  fld : XFld K mg xfld
abbrev st_init_BadCircuit : Stmt := (DL.clsBody (top 3)).getD 0 (.Pass ⟨0, 0, 0, 0⟩)
theorem sc_init_BadCircuit : FnScope ["self", "index"] ["self", "index"] (defScope st_init_BadCircuit) := ⟨rfl, rfl, rfl, by decide +kernel, rfl, by decide +kernel, by decide +kernel⟩
abbrev st_wrong_index : Stmt := top 8
theorem sc_wrong_index : FnScope ["values", "is_right", "index", "value"] ["values", "is_right"] (defScope st_wrong_index) := ⟨rfl, rfl, rfl, by decide +kernel, rfl, by decide +kernel, by decide +kernel⟩

/-! ## _law_taken -/
abbrev st__law_taken : Stmt := top 30
theorem sc__law_taken : FnScope ["row", "many", "cell", "found"] ["row", "many"] (defScope st__law_taken) := ⟨rfl, rfl, rfl, by decide +kernel, rfl, by decide +kernel, by decide +kernel⟩
def b__law_taken : DSn :=
  (mSeq (mIfS (mCmp gGt (mIxC 0 (mC (.int 3))) (mC (.int 0))) (mSeq (mSet 3 (mV (mOp gMod (mBi gInt (mCons (mIxC 0 (mC (.int 3))) mNil)) (mVar 1))))
  (mSeq (mAsg (mOp gDiv (mIxC 0 (mC (.int 3))) (mVar 1)) (gIt 0 (mC (.int 3))))
  (mRet (mVar 3)))) mSkip)
  (mSeq (mAsg (mOp gAdd (mIxC 0 (mC (.int 1))) (mC (.int 1))) (gIt 0 (mC (.int 1))))
  (mSeq (mIfS (mCmp gGt (mIxC 0 (mC (.int 1))) (mBi gLen (mCons (mIxC 0 (mC (.int 0))) mNil))) (mSeq (mAsg (mOp gMod (mBi gInt (mCons (mOp gAdd (mOp gMul (mIxC 0 (mC (.int 2))) (mC (.int 48271))) (mC (.int 11))) mNil)) (mC (.int 2147483647))) (gIt 0 (mC (.int 2))))
  (mRet (mOp gMod (mBi gInt (mCons (mOp gDiv (mIxC 0 (mC (.int 2))) (mC (.int 7))) mNil)) (mVar 1)))) mSkip)
  (mSeq (mSet 2 (mV (mOp gIx (mIxC 0 (mC (.int 0))) (mOp gSub (mIxC 0 (mC (.int 1))) (mC (.int 1))))))
  (mSeq (mAsg (mOp gMod (mBi gInt (mCons (mOp gAdd (mOp gAdd (mOp gMul (mIxC 0 (mC (.int 2))) (mC (.int 48271))) (mVar 2)) (mC (.int 11))) mNil)) (mC (.int 2147483647))) (gIt 0 (mC (.int 2))))
  (mSeq (mIfS (mCmp gGe (mVar 2) (mOp gPow (mC (.int 10)) (mC (.int 18)))) (mAsg (mOp gDiv (mVar 2) (mVar 1)) (gIt 0 (mC (.int 3)))) mSkip)
  (mRet (mOp gMod (mBi gInt (mCons (mVar 2) mNil)) (mVar 1)))))))))
def d__law_taken : Den := denB 4 b__law_taken
theorem ok__law_taken {P : Program} {w : World} {K : PySem.W.Frag} {mg : Str → Option Value} {base : Heap} {a : Addr} {fd : FuncData} (B : Bi mg)
    (F : Fun K "_law_taken" "_law_taken" st__law_taken a fd) (hm : mg "_law_taken" = some (.ref a)) (hb : Binds K fd ["row", "many"] []) : Dfn P w ⟨K, mg, none⟩ base 3 "_law_taken" 2 d__law_taken := by
  refine dfn_of (k := 2) (N := ["row", "many", "cell", "found"]) (G := ⟨K, mg, none⟩) F sc__law_taken hm hb rfl (by decide) rfl fun cdv A outer s H E hr => ?_
  have hu := hr.units
  have hu5 := units65 hr
  have nd := sc__law_taken.nd
  have tk := takes_of (X := cxOf (L2.CX P w) P w K mg base ["row", "many", "cell", "found"] "_law_taken" (defScope st__law_taken) a cdv A outer s H E) rfl rfl rfl rfl
  have hp := passes_of (X := cxOf (L2.CX P w) P w K mg base ["row", "many", "cell", "found"] "_law_taken" (defScope st__law_taken) a cdv A outer s H E) rfl
  exact (s1 (sif (ycmp cGt (xixC 0 xint) xint) (s1 (sset 3 nd (v1 (xop bMod (xbt biInt B.int DL.boot_int (a1 (xixC 0 xint) a0)) (xv 1))))
  (s1 (sasg (xop bDiv (xixC 0 xint) (xv 1)) (gitem 0 xint))
  (sl (sret (xv 3))))) s0)
  (s1 (sasg (xop bAdd (xixC 0 xint) xint) (gitem 0 xint))
  (s1 (sif (ycmp cGt (xixC 0 xint) (xbi biLen B.len DL.boot_len (a1 (xixC 0 xint) a0))) (s1 (sasg (xop bMod (xbt biInt B.int DL.boot_int (a1 (xop bAdd (xop bMul (xixC 0 xint) xint) xint) a0)) xint) (gitem 0 xint))
  (sl (sret (xop bMod (xbt biInt B.int DL.boot_int (a1 (xop bDiv (xixC 0 xint) xint) a0)) (xv 1))))) s0)
  (s1 (sset 2 nd (v1 (xix (xixC 0 xint) (xop bSub (xixC 0 xint) xint))))
  (s1 (sasg (xop bMod (xbt biInt B.int DL.boot_int (a1 (xop bAdd (xop bAdd (xop bMul (xixC 0 xint) xint) (xv 2)) xint) a0)) xint) (gitem 0 xint))
  (s1 (sif (ycmp cGe (xv 2) (xop bPow xint xint)) (sl (sasg (xop bDiv (xv 2) (xv 1)) (gitem 0 xint))) s0)
  (sl (sret (xop bMod (xbt biInt B.int DL.boot_int (a1 (xv 2) a0)) (xv 1))))))))))

/-! ## _law_pick -/
abbrev st__law_pick : Stmt := top 31
theorem sc__law_pick : FnScope ["row", "things"] ["row", "things"] (defScope st__law_pick) := ⟨rfl, rfl, rfl, by decide +kernel, rfl, by decide +kernel, by decide +kernel⟩
def b__law_pick : DSn :=
  (mRet (mOp gIx (mVar 1) (mCall d__law_taken 2 (mConsE (mCel 0) (mConsE (mV (mBi gLen (mCons (mVar 1) mNil))) mNilE)))))
def d__law_pick : Den := denB 2 b__law_pick
theorem ok__law_pick {P : Program} {w : World} {K : PySem.W.Frag} {mg : Str → Option Value} {base : Heap} {a : Addr} {fd : FuncData} (B : Bi mg) (D__law_taken : Dfn P w ⟨K, mg, none⟩ base 3 "_law_taken" 2 d__law_taken)
    (F : Fun K "_law_pick" "_law_pick" st__law_pick a fd) (hm : mg "_law_pick" = some (.ref a)) (hb : Binds K fd ["row", "things"] []) : Dfn P w ⟨K, mg, none⟩ base 4 "_law_pick" 2 d__law_pick := by
  refine dfn_of (k := 3) (N := ["row", "things"]) (G := ⟨K, mg, none⟩) F sc__law_pick hm hb rfl (by decide) rfl fun cdv A outer s H E hr => ?_
  have hu := hr.units
  have hu5 := units65 hr
  have nd := sc__law_pick.nd
  have tk := takes_of (X := cxOf (L2.CX P w) P w K mg base ["row", "things"] "_law_pick" (defScope st__law_pick) a cdv A outer s H E) rfl rfl rfl rfl
  have hp := passes_of (X := cxOf (L2.CX P w) P w K mg base ["row", "things"] "_law_pick" (defScope st__law_pick) a cdv A outer s H E) rfl
  exact (sl (sret (xix (xv 1) (xcall D__law_taken (hr.mono (by decide)) tk (e1 (vc 0) (e1 (v1 (xbi biLen B.len DL.boot_len (a1 (xv 1) a0))) e0))))))

/-! ## _law_circuit -/
abbrev st__law_circuit : Stmt := top 32
theorem sc__law_circuit : FnScope ["row", "most", "turn", "many", "top", "delays", "wires", "least", "one", "other", "gate"] ["row", "most"] (defScope st__law_circuit) := ⟨rfl, rfl, rfl, by decide +kernel, rfl, by decide +kernel, by decide +kernel⟩
def b__law_circuit : DSn :=
  (mSeq (mAsg (mTup (mCons (mOp gAdd (mC (.int 1)) (mCall d__law_taken 2 (mConsE (mCel 0) (mConsE (mV (mVar 1)) mNilE)))) (mCons (mCall d__law_pick 2 (mConsE (mCel 0) (mConsE (mV (mLst (mCons (mC (.int 3)) (mCons (mC (.int 10)) (mCons (mC (.int 51)) mNil))))) mNilE))) mNil))) (gTp (DL.gCons (gNm 3) (DL.gCons (gNm 4) DL.gNil)) 2))
  (mSeq (mPar2 5 6 (mConsE (mV (mBi gTuple (mCons (mLc (mRg1 (mVar 3)) (.nm 10) mYes (mCall d__law_taken 2 (mConsE (mCel 0) (mConsE (mV (mVar 4)) mNilE))) [10]) mNil))) (mConsE (mNew mNil) mNilE)))
  (mSeq (mFor (mRg1 (mCall d__law_taken 2 (mConsE (mCel 0) (mConsE (mV (mOp gAdd (mOp gMul (mC (.int 2)) (mVar 3)) (mC (.int 2)))) mNilE)))) (.nm 2) (mSeq (mPar2 8 9 (mConsE (mV (mCall d__law_taken 2 (mConsE (mCel 0) (mConsE (mV (mVar 3)) mNilE)))) (mConsE (mV (mCall d__law_taken 2 (mConsE (mCel 0) (mConsE (mV (mVar 3)) mNilE)))) mNilE)))
  (mSeq (mSet 7 (mV (mIf (mCmp gLt (mVar 8) (mVar 9)) (mC (.int 0)) (mC (.int 1)))))
  (mDrop (mMet 6 gApp (mCons (mTup (mCons (mVar 8) (mCons (mVar 9) (mCons (mOp gAdd (mVar 7) (mCall d__law_taken 2 (mConsE (mCel 0) (mConsE (mV (mCall d__law_pick 2 (mConsE (mCel 0) (mConsE (mV (mLst (mCons (mC (.int 1)) (mCons (mC (.int 2)) (mCons (mC (.int 4)) mNil))))) mNilE)))) mNilE)))) mNil)))) mNil))))))
  (mRet (mTup (mCons (mVar 5) (mCons (mTupC 6) mNil)))))))
def d__law_circuit : Den := denB 11 b__law_circuit
theorem ok__law_circuit {P : Program} {w : World} {K : PySem.W.Frag} {mg : Str → Option Value} {base : Heap} {a : Addr} {fd : FuncData} (B : Bi mg) (D__law_pick : Dfn P w ⟨K, mg, none⟩ base 4 "_law_pick" 2 d__law_pick) (D__law_taken : Dfn P w ⟨K, mg, none⟩ base 3 "_law_taken" 2 d__law_taken)
    (F : Fun K "_law_circuit" "_law_circuit" st__law_circuit a fd) (hm : mg "_law_circuit" = some (.ref a)) (hb : Binds K fd ["row", "most"] []) : Dfn P w ⟨K, mg, none⟩ base 5 "_law_circuit" 2 d__law_circuit := by
  refine dfn_of (k := 4) (N := ["row", "most", "turn", "many", "top", "delays", "wires", "least", "one", "other", "gate"]) (G := ⟨K, mg, none⟩) F sc__law_circuit hm hb rfl (by decide) rfl fun cdv A outer s H E hr => ?_
  have hu := hr.units
  have hu5 := units65 hr
  have nd := sc__law_circuit.nd
  have tk := takes_of (X := cxOf (L2.CX P w) P w K mg base ["row", "most", "turn", "many", "top", "delays", "wires", "least", "one", "other", "gate"] "_law_circuit" (defScope st__law_circuit) a cdv A outer s H E) rfl rfl rfl rfl
  have hp := passes_of (X := cxOf (L2.CX P w) P w K mg base ["row", "most", "turn", "many", "top", "delays", "wires", "least", "one", "other", "gate"] "_law_circuit" (defScope st__law_circuit) a cdv A outer s H E) rfl
  exact (s1 (sasg (xtup (a1 (xop bAdd xint (xcall D__law_taken (hr.mono (by decide)) tk (e1 (vc 0) (e1 (v1 (xv 1)) e0)))) (a1 (xcall D__law_pick (hr.mono (by decide)) tk (e1 (vc 0) (e1 (v1 (xlst (a1 xint (a1 xint (a1 xint a0))))) e0))) a0))) (gtup rfl (gs1 (gname 3 nd) (gs1 (gname 4 nd) gs0))))
  (s1 (spar2 5 6 rfl nd (e1 (v1 (xbt biTuple B.tuple DL.boot_tuple (a1 (xlc (own := [("gate", 10)]) (t := (.nm 10)) rfl nd (i_range1 B.range (xv 3)) (by show BlkOk ["row", "most", "turn", "many", "top", "delays", "wires", "least", "one", "other", "gate"] (defScope st__law_circuit) _ _; exact blkOk_by (by decide +kernel)) (fun _ _ _ _ _ => (q1 nd)) (fun _ _ _ _ _ => t0) (fun _ _ _ _ _ => (xcall D__law_taken (hr.mono (by decide)) L2.takes0 (e1 (vc 0) (e1 (v1 (xv 4)) e0))))) a0))) (e1 (vlst a0) e0)))
  (s1 (sfor hp rfl (i_range1 B.range (xcall D__law_taken (hr.mono (by decide)) tk (e1 (vc 0) (e1 (v1 (xop bAdd (xop bMul xint (xv 3)) xint)) e0)))) (t := (.nm 2)) (q1 nd) (s1 (spar2 8 9 rfl nd (e1 (v1 (xcall D__law_taken (hr.mono (by decide)) tk (e1 (vc 0) (e1 (v1 (xv 3)) e0)))) (e1 (v1 (xcall D__law_taken (hr.mono (by decide)) tk (e1 (vc 0) (e1 (v1 (xv 3)) e0)))) e0)))
  (s1 (sset 7 nd (v1 (xif (ycmp cLt (xv 8) (xv 9)) xint xint)))
  (sl (sexpr (xmet 6 meApp (a1 (xtup (a1 (xv 8) (a1 (xv 9) (a1 (xop bAdd (xv 7) (xcall D__law_taken (hr.mono (by decide)) tk (e1 (vc 0) (e1 (v1 (xcall D__law_pick (hr.mono (by decide)) tk (e1 (vc 0) (e1 (v1 (xlst (a1 xint (a1 xint (a1 xint a0))))) e0)))) e0)))) a0)))) a0)))))))
  (sl (sret (xtup (a1 (xv 5) (a1 (xtupC 6 B.tuple) a0))))))))

/-! ## is_tuple_of -/
abbrev st_is_tuple_of : Stmt := top 7
theorem sc_is_tuple_of : FnScope ["value", "least", "most"] ["value", "least", "most"] (defScope st_is_tuple_of) := ⟨rfl, rfl, rfl, by decide +kernel, rfl, by decide +kernel, by decide +kernel⟩
def b_is_tuple_of : DSn :=
  (mRet (mAnd (mIsT "tuple" (mVar 0)) (mB (mChain gLe gLe (mVar 1) (mBi gLen (mCons (mVar 0) mNil)) (mVar 2)))))
def d_is_tuple_of : Den := denB 3 b_is_tuple_of
theorem ok_is_tuple_of {P : Program} {w : World} {K : PySem.W.Frag} {mg : Str → Option Value} {base : Heap} {a : Addr} {fd : FuncData} (B : Bi mg)
    (F : Fun K "is_tuple_of" "is_tuple_of" st_is_tuple_of a fd) (hm : mg "is_tuple_of" = some (.ref a)) (hb : Binds K fd ["value", "least", "most"] []) : Dfn P w ⟨K, mg, none⟩ base 3 "is_tuple_of" 3 d_is_tuple_of := by
  refine dfn_of (k := 2) (N := ["value", "least", "most"]) (G := ⟨K, mg, none⟩) F sc_is_tuple_of hm hb rfl (by decide) rfl fun cdv A outer s H E hr => ?_
  have hu := hr.units
  have hu5 := units65 hr
  have nd := sc_is_tuple_of.nd
  have tk := takes_of (X := cxOf (L2.CX P w) P w K mg base ["value", "least", "most"] "is_tuple_of" (defScope st_is_tuple_of) a cdv A outer s H E) rfl rfl rfl rfl
  have hp := passes_of (X := cxOf (L2.CX P w) P w K mg base ["value", "least", "most"] "is_tuple_of" (defScope st_is_tuple_of) a cdv A outer s H E) rfl
  exact (sl (sret (xand (xisT B.isinstance B.tuple DL.boot_tuple (xv 0)) (xone (xchain cLe cLe (xv 1) (xbi biLen B.len DL.boot_len (a1 (xv 0) a0)) (xv 2))))))

/-! ## is_integer -/
abbrev st_is_integer : Stmt := top 5
theorem sc_is_integer : FnScope ["value"] ["value"] (defScope st_is_integer) := ⟨rfl, rfl, rfl, by decide +kernel, rfl, by decide +kernel, by decide +kernel⟩
def b_is_integer : DSn :=
  (mRet (mAnd (mIsT "int" (mVar 0)) (mNot (mIsT "bool" (mVar 0)))))
def d_is_integer : Den := denB 1 b_is_integer
theorem ok_is_integer {P : Program} {w : World} {K : PySem.W.Frag} {mg : Str → Option Value} {base : Heap} {a : Addr} {fd : FuncData} (B : Bi mg)
    (F : Fun K "is_integer" "is_integer" st_is_integer a fd) (hm : mg "is_integer" = some (.ref a)) (hb : Binds K fd ["value"] []) : Dfn P w ⟨K, mg, none⟩ base 3 "is_integer" 1 d_is_integer := by
  refine dfn_of (k := 2) (N := ["value"]) (G := ⟨K, mg, none⟩) F sc_is_integer hm hb rfl (by decide) rfl fun cdv A outer s H E hr => ?_
  have hu := hr.units
  have hu5 := units65 hr
  have nd := sc_is_integer.nd
  have tk := takes_of (X := cxOf (L2.CX P w) P w K mg base ["value"] "is_integer" (defScope st_is_integer) a cdv A outer s H E) rfl rfl rfl rfl
  have hp := passes_of (X := cxOf (L2.CX P w) P w K mg base ["value"] "is_integer" (defScope st_is_integer) a cdv A outer s H E) rfl
  exact (sl (sret (xand (xisT B.isinstance B.int DL.boot_int (xv 0)) (xone (xnot (xisT B.isinstance B.bool DL.boot_bool (xv 0)))))))

/-! ## is_between -/
abbrev st_is_between : Stmt := top 6
theorem sc_is_between : FnScope ["value", "least", "most"] ["value", "least", "most"] (defScope st_is_between) := ⟨rfl, rfl, rfl, by decide +kernel, rfl, by decide +kernel, by decide +kernel⟩
def b_is_between : DSn :=
  (mRet (mAnd (mCall d_is_integer 1 (mConsE (mV (mVar 0)) mNilE)) (mB (mChain gLe gLe (mVar 1) (mVar 0) (mVar 2)))))
def d_is_between : Den := denB 3 b_is_between
theorem ok_is_between {P : Program} {w : World} {K : PySem.W.Frag} {mg : Str → Option Value} {base : Heap} {a : Addr} {fd : FuncData} (B : Bi mg) (D_is_integer : Dfn P w ⟨K, mg, none⟩ base 3 "is_integer" 1 d_is_integer)
    (F : Fun K "is_between" "is_between" st_is_between a fd) (hm : mg "is_between" = some (.ref a)) (hb : Binds K fd ["value", "least", "most"] []) : Dfn P w ⟨K, mg, none⟩ base 4 "is_between" 3 d_is_between := by
  refine dfn_of (k := 3) (N := ["value", "least", "most"]) (G := ⟨K, mg, none⟩) F sc_is_between hm hb rfl (by decide) rfl fun cdv A outer s H E hr => ?_
  have hu := hr.units
  have hu5 := units65 hr
  have nd := sc_is_between.nd
  have tk := takes_of (X := cxOf (L2.CX P w) P w K mg base ["value", "least", "most"] "is_between" (defScope st_is_between) a cdv A outer s H E) rfl rfl rfl rfl
  have hp := passes_of (X := cxOf (L2.CX P w) P w K mg base ["value", "least", "most"] "is_between" (defScope st_is_between) a cdv A outer s H E) rfl
  exact (sl (sret (xand (xcall D_is_integer (hr.mono (by decide)) tk (e1 (v1 (xv 0)) e0)) (xone (xchain cLe cLe (xv 1) (xv 0) (xv 2))))))

/-! ## is_wire -/
abbrev st_is_wire : Stmt := top 17
theorem sc_is_wire : FnScope ["value", "many"] ["value", "many"] (defScope st_is_wire) := ⟨rfl, rfl, rfl, by decide +kernel, rfl, by decide +kernel, by decide +kernel⟩
def b_is_wire : DSn :=
  (mSeq (mIfS (mOrT (mNotT (mTru (mCall d_is_tuple_of 3 (mConsE (mV (mVar 0)) (mConsE (mV (mC (.int 3))) (mConsE (mV (mC (.int 3))) mNilE)))))) (mNotT (mTru (mCall d_is_between 3 (mConsE (mV (mOp gIx (mVar 0) (mC (.int 2)))) (mConsE (mV (mC (.int 0))) (mConsE (mV (mC k_MOST_REGISTERS)) mNilE))))))) (mRet (mC (.bl false))) mSkip)
  (mRet (mAnd (mCall d_is_between 3 (mConsE (mV (mOp gIx (mVar 0) (mC (.int 0)))) (mConsE (mV (mC (.int 0))) (mConsE (mV (mOp gSub (mVar 1) (mC (.int 1)))) mNilE)))) (mCall d_is_between 3 (mConsE (mV (mOp gIx (mVar 0) (mC (.int 1)))) (mConsE (mV (mC (.int 0))) (mConsE (mV (mOp gSub (mVar 1) (mC (.int 1)))) mNilE)))))))
def d_is_wire : Den := denB 2 b_is_wire
theorem ok_is_wire {P : Program} {w : World} {K : PySem.W.Frag} {mg : Str → Option Value} {base : Heap} {a : Addr} {fd : FuncData} (B : Bi mg) (K_MOST_REGISTERS : Kon ⟨K, mg, none⟩ "MOST_REGISTERS" k_MOST_REGISTERS) (D_is_tuple_of : Dfn P w ⟨K, mg, none⟩ base 3 "is_tuple_of" 3 d_is_tuple_of) (D_is_between : Dfn P w ⟨K, mg, none⟩ base 4 "is_between" 3 d_is_between)
    (F : Fun K "is_wire" "is_wire" st_is_wire a fd) (hm : mg "is_wire" = some (.ref a)) (hb : Binds K fd ["value", "many"] []) : Dfn P w ⟨K, mg, none⟩ base 5 "is_wire" 2 d_is_wire := by
  refine dfn_of (k := 4) (N := ["value", "many"]) (G := ⟨K, mg, none⟩) F sc_is_wire hm hb rfl (by decide) rfl fun cdv A outer s H E hr => ?_
  have hu := hr.units
  have hu5 := units65 hr
  have nd := sc_is_wire.nd
  have tk := takes_of (X := cxOf (L2.CX P w) P w K mg base ["value", "many"] "is_wire" (defScope st_is_wire) a cdv A outer s H E) rfl rfl rfl rfl
  have hp := passes_of (X := cxOf (L2.CX P w) P w K mg base ["value", "many"] "is_wire" (defScope st_is_wire) a cdv A outer s H E) rfl
  exact (s1 (sif (PW.pt (wor (ynot (ytru (xcall D_is_tuple_of (hr.mono (by decide)) tk (e1 (v1 (xv 0)) (e1 (v1 xint) (e1 (v1 xint) e0)))))) (wor1 (ynot (ytru (xcall D_is_between (hr.mono (by decide)) tk (e1 (v1 (xix (xv 0) xint)) (e1 (v1 xint) (e1 (v1 (xk K_MOST_REGISTERS)) e0))))))))) (sl (sret xbl)) s0)
  (sl (sret (xand (xcall D_is_between (hr.mono (by decide)) tk (e1 (v1 (xix (xv 0) xint)) (e1 (v1 xint) (e1 (v1 (xop bSub (xv 1) xint)) e0)))) (xone (xcall D_is_between (hr.mono (by decide)) tk (e1 (v1 (xix (xv 0) xint)) (e1 (v1 xint) (e1 (v1 (xop bSub (xv 1) xint)) e0)))))))))

/-! ## bare_pairs -/
abbrev st_bare_pairs : Stmt := top 18
theorem sc_bare_pairs : FnScope ["wires", "one", "other", "registers"] ["wires"] (defScope st_bare_pairs) := ⟨rfl, rfl, rfl, by decide +kernel, rfl, by decide +kernel, by decide +kernel⟩
def b_bare_pairs : DSn :=
  (mRet (mLc (mIt (mVar 0)) (.tp [(.nm 1), (.nm 2), (.nm 3)]) (mCmp gEq (mVar 3) (mC (.int 0))) (mTup (mCons (mVar 1) (mCons (mVar 2) mNil))) [1, 2, 3]))
def d_bare_pairs : Den := denB 4 b_bare_pairs
theorem ok_bare_pairs {P : Program} {w : World} {K : PySem.W.Frag} {mg : Str → Option Value} {base : Heap} {a : Addr} {fd : FuncData} (B : Bi mg)
    (F : Fun K "bare_pairs" "bare_pairs" st_bare_pairs a fd) (hm : mg "bare_pairs" = some (.ref a)) (hb : Binds K fd ["wires"] []) : Dfn P w ⟨K, mg, none⟩ base 3 "bare_pairs" 1 d_bare_pairs := by
  refine dfn_of (k := 2) (N := ["wires", "one", "other", "registers"]) (G := ⟨K, mg, none⟩) F sc_bare_pairs hm hb rfl (by decide) rfl fun cdv A outer s H E hr => ?_
  have hu := hr.units
  have hu5 := units65 hr
  have nd := sc_bare_pairs.nd
  have tk := takes_of (X := cxOf (L2.CX P w) P w K mg base ["wires", "one", "other", "registers"] "bare_pairs" (defScope st_bare_pairs) a cdv A outer s H E) rfl rfl rfl rfl
  have hp := passes_of (X := cxOf (L2.CX P w) P w K mg base ["wires", "one", "other", "registers"] "bare_pairs" (defScope st_bare_pairs) a cdv A outer s H E) rfl
  exact (sl (sret (xlc (own := [("one", 1), ("other", 2), ("registers", 3)]) (t := (.tp [(.nm 1), (.nm 2), (.nm 3)])) rfl nd (i1 (xv 0)) (by show BlkOk ["wires", "one", "other", "registers"] (defScope st_bare_pairs) _ _; exact blkOk_by (by decide +kernel)) (fun _ _ _ _ _ => (qt rfl (qs1 (q1 nd) (qs1 (q1 nd) (qs1 (q1 nd) qs0))))) (fun _ _ _ _ _ => (t1 (ycmp (cEq hu) (xv 3) xint))) (fun _ _ _ _ _ => (xtup (a1 (xv 1) (a1 (xv 2) a0)))))))

/-! ## free_gates -/
abbrev st_free_gates : Stmt := top 20
theorem sc_free_gates : FnScope ["left", "pairs", "gate", "one", "other"] ["left", "pairs"] (defScope st_free_gates) := ⟨rfl, rfl, rfl, by decide +kernel, rfl, by decide +kernel, by decide +kernel⟩
def b_free_gates : DSn :=
  (mRet (mLc (mIt (mVar 0)) (.nm 2) (mNotT (mTru (mBi gAny (mCons (mLc (mIt (mVar 1)) (.tp [(.nm 3), (.nm 4)]) mYes (mAnd (mB (mCmp gEq (mVar 4) (mVar 2))) (mB (mCmp gIn (mVar 3) (mVar 0)))) [3, 4]) mNil)))) (mVar 2) [2]))
def d_free_gates : Den := denB 5 b_free_gates
theorem ok_free_gates {P : Program} {w : World} {K : PySem.W.Frag} {mg : Str → Option Value} {base : Heap} {a : Addr} {fd : FuncData} (B : Bi mg)
    (F : Fun K "free_gates" "free_gates" st_free_gates a fd) (hm : mg "free_gates" = some (.ref a)) (hb : Binds K fd ["left", "pairs"] []) : Dfn P w ⟨K, mg, none⟩ base 3 "free_gates" 2 d_free_gates := by
  refine dfn_of (k := 2) (N := ["left", "pairs", "gate", "one", "other"]) (G := ⟨K, mg, none⟩) F sc_free_gates hm hb rfl (by decide) rfl fun cdv A outer s H E hr => ?_
  have hu := hr.units
  have hu5 := units65 hr
  have nd := sc_free_gates.nd
  have tk := takes_of (X := cxOf (L2.CX P w) P w K mg base ["left", "pairs", "gate", "one", "other"] "free_gates" (defScope st_free_gates) a cdv A outer s H E) rfl rfl rfl rfl
  have hp := passes_of (X := cxOf (L2.CX P w) P w K mg base ["left", "pairs", "gate", "one", "other"] "free_gates" (defScope st_free_gates) a cdv A outer s H E) rfl
  exact (sl (sret (xlc (own := [("gate", 2)]) (t := (.nm 2)) rfl nd (i1 (xv 0)) (by show BlkOk ["left", "pairs", "gate", "one", "other"] (defScope st_free_gates) _ _; exact blkOk_by (by decide +kernel)) (fun _ _ _ _ _ => (q1 nd)) (fun _ _ _ _ _ => (t1 (ynot (ytru (xbi (biAny rfl) B.any DL.boot_any (a1 (xlc (own := [("one", 3), ("other", 4)]) (t := (.tp [(.nm 3), (.nm 4)])) rfl nd (i1 (xv 1)) (by show BlkOk ["left", "pairs", "gate", "one", "other"] (relS _ (defScope st_free_gates)) _ _; exact blkOk_by (by decide +kernel)) (fun _ _ _ _ _ => (qt rfl (qs1 (q1 nd) (qs1 (q1 nd) qs0)))) (fun _ _ _ _ _ => t0) (fun _ _ _ _ _ => (xand (xcmp (cEq hu) (xv 4) (xv 2)) (xone (xcmp (cIn hu5) (xv 3) (xv 0)))))) a0)))))) (fun _ _ _ _ _ => (xv 2)))))

/-! ## in_order -/
abbrev st_in_order : Stmt := top 19
theorem sc_in_order : FnScope ["many", "wires", "pairs", "order", "left", "free", "gate"] ["many", "wires"] (defScope st_in_order) := ⟨rfl, rfl, rfl, by decide +kernel, rfl, by decide +kernel, by decide +kernel⟩
def b_in_order : DSn :=
  (mSeq (mSet 2 (mV (mCall d_bare_pairs 1 (mConsE (mV (mVar 1)) mNilE))))
  (mSeq (mSet 3 (mV (mLst mNil)))
  (mSeq (mSet 4 (mV (mListRg (mVar 0))))
  (mSeq (mSet 5 (mV (mCall d_free_gates 2 (mConsE (mV (mVar 4)) (mConsE (mV (mVar 2)) mNilE)))))
  (mSeq (whileL (mTru (mVar 5)) (mSeq (mSet 3 (mV (mOp gAdd (mVar 3) (mVar 5))))
  (mSeq (mSetLc 4 (mLc (mIt (mVar 4)) (.nm 6) (mCmp gNotIn (mVar 6) (mVar 5)) (mVar 6) [6]))
  (mSet 5 (mV (mCall d_free_gates 2 (mConsE (mV (mVar 4)) (mConsE (mV (mVar 2)) mNilE))))))) 1000)
  (mRet (mVar 3)))))))
def d_in_order : Den := denB 7 b_in_order
theorem ok_in_order {P : Program} {w : World} {K : PySem.W.Frag} {mg : Str → Option Value} {base : Heap} {a : Addr} {fd : FuncData} (B : Bi mg) (D_bare_pairs : Dfn P w ⟨K, mg, none⟩ base 3 "bare_pairs" 1 d_bare_pairs) (D_free_gates : Dfn P w ⟨K, mg, none⟩ base 3 "free_gates" 2 d_free_gates)
    (F : Fun K "in_order" "in_order" st_in_order a fd) (hm : mg "in_order" = some (.ref a)) (hb : Binds K fd ["many", "wires"] []) : Dfn P w ⟨K, mg, none⟩ base 4 "in_order" 2 d_in_order := by
  refine dfn_of (k := 3) (N := ["many", "wires", "pairs", "order", "left", "free", "gate"]) (G := ⟨K, mg, none⟩) F sc_in_order hm hb rfl (by decide) rfl fun cdv A outer s H E hr => ?_
  have hu := hr.units
  have hu5 := units65 hr
  have nd := sc_in_order.nd
  have tk := takes_of (X := cxOf (L2.CX P w) P w K mg base ["many", "wires", "pairs", "order", "left", "free", "gate"] "in_order" (defScope st_in_order) a cdv A outer s H E) rfl rfl rfl rfl
  have hp := passes_of (X := cxOf (L2.CX P w) P w K mg base ["many", "wires", "pairs", "order", "left", "free", "gate"] "in_order" (defScope st_in_order) a cdv A outer s H E) rfl
  exact (s1 (sset 2 nd (v1 (xcall D_bare_pairs (hr.mono (by decide)) tk (e1 (v1 (xv 1)) e0))))
  (s1 (sset 3 nd (v1 (xlst a0)))
  (s1 (sset 4 nd (v1 (xlistRg rfl B.list B.range (xv 0))))
  (s1 (sset 5 nd (v1 (xcall D_free_gates (hr.mono (by decide)) tk (e1 (v1 (xv 4)) (e1 (v1 (xv 2)) e0)))))
  (s1 (swhile 1000 hp (ytru (xv 5)) (s1 (sset 3 nd (v1 (xop bAdd (xv 3) (xv 5))))
  (s1 (ssetLc 4 (own := [("gate", 6)]) (t := (.nm 6)) rfl nd (i1 (xv 4)) (by show BlkOk ["many", "wires", "pairs", "order", "left", "free", "gate"] (defScope st_in_order) _ _; exact blkOk_by (by decide +kernel)) (fun _ _ _ _ _ => (q1 nd)) (fun _ _ _ _ _ => (t1 (ycmp (cNotIn hu5) (xv 6) (xv 5)))) (fun _ _ _ _ _ => (xv 6)))
  (sl (sset 5 nd (v1 (xcall D_free_gates (hr.mono (by decide)) tk (e1 (v1 (xv 4)) (e1 (v1 (xv 2)) e0)))))))))
  (sl (sret (xv 3))))))))

/-! ## check_circuit -/
abbrev st_check_circuit : Stmt := top 16
theorem sc_check_circuit : FnScope ["delays", "wires", "index", "delay"] ["delays", "wires"] (defScope st_check_circuit) := ⟨rfl, rfl, rfl, by decide +kernel, rfl, by decide +kernel, by decide +kernel⟩
def b_check_circuit : DSn :=
  (mSeq (mIfS (mOrT (mNotT (mTru (mCall d_is_tuple_of 3 (mConsE (mV (mVar 0)) (mConsE (mV (mC (.int 1))) (mConsE (mV (mC k_MOST_GATES)) mNilE)))))) (mNotT (mTru (mBi gAll (mCons (mLc (mIt (mVar 0)) (.nm 3) mYes (mCall d_is_between 3 (mConsE (mV (mVar 3)) (mConsE (mV (mC (.int 0))) (mConsE (mV (mC k_LONGEST_DELAY)) mNilE)))) [3]) mNil))))) (mRaise1 "BadCircuit" "index" (mC .non)) mSkip)
  (mSeq (mIfS (mNotT (mTru (mCall d_is_tuple_of 3 (mConsE (mV (mVar 1)) (mConsE (mV (mC (.int 0))) (mConsE (mV (mC k_MOST_WIRES)) mNilE)))))) (mRaise1 "BadCircuit" "index" (mC .non)) mSkip)
  (mSeq (mSet 2 (mV (mWrong [0] 0 (mVar 1) (mCall d_is_wire 2 (mConsE (mV (mVar 0)) (mConsE (mV (mBi gLen (mCons (mVar 1) mNil))) mNilE))))))
  (mSeq (mIfS (mCmp gNotN (mVar 2) (mC .non)) (mRaise1 "BadCircuit" "index" (mVar 2)) mSkip)
  (mIfS (mCmp gLt (mBi gLen (mCons (mCall d_in_order 2 (mConsE (mV (mBi gLen (mCons (mVar 0) mNil))) (mConsE (mV (mVar 1)) mNilE))) mNil)) (mBi gLen (mCons (mVar 0) mNil))) (mRaise1 "BadCircuit" "index" (mC .non)) mSkip)))))
def d_check_circuit : Den := denB 4 b_check_circuit
theorem ok_check_circuit {P : Program} {w : World} {K : PySem.W.Frag} {mg : Str → Option Value} {base : Heap} {a : Addr} (B : Bi mg) (EX : Exs P w K mg base) (K_MOST_GATES : Kon ⟨K, mg, none⟩ "MOST_GATES" k_MOST_GATES) (K_LONGEST_DELAY : Kon ⟨K, mg, none⟩ "LONGEST_DELAY" k_LONGEST_DELAY) (K_MOST_WIRES : Kon ⟨K, mg, none⟩ "MOST_WIRES" k_MOST_WIRES) (D_is_tuple_of : Dfn P w ⟨K, mg, none⟩ base 3 "is_tuple_of" 3 d_is_tuple_of) (D_is_between : Dfn P w ⟨K, mg, none⟩ base 4 "is_between" 3 d_is_between) (D_is_wire : Dfn P w ⟨K, mg, none⟩ base 5 "is_wire" 2 d_is_wire) (D_in_order : Dfn P w ⟨K, mg, none⟩ base 4 "in_order" 2 d_in_order) {c0 P0 : Addr} (TB : LamX.TabB base mg c0 P0) (ht : PySem.W.tabIn K "check_circuit" = some (c0, P0)) (hok : tabsOk K = true) {a_wrong_index : Addr} {fd_wrong_index : FuncData} (F_wrong_index : Fun K "wrong_index" "wrong_index" st_wrong_index a_wrong_index fd_wrong_index) (m_wrong_index : mg "wrong_index" = some (.ref a_wrong_index)) (b_wrong_index : Binds K fd_wrong_index ["values", "is_right"] [])
    {oc kV doc pm ct : Value} {od an : Option Addr} {osl : Array (Option Value)} (lk : K.lookup a = some ⟨oc, od, .func (PySem.W.fnOf "check_circuit" "check_circuit" (defArgs st_check_circuit) (defBody st_check_circuit) (defScope st_check_circuit) .none kV doc pm an (.ref c0) ct), osl⟩) (hcd : PySem.W.codeIn K (.ref c0) "check_circuit" = true) (hk : PySem.W.keepIn K (.ref a) = true) (hm : mg "check_circuit" = some (.ref a)) (hb : Binds K (PySem.W.fnOf "check_circuit" "check_circuit" (defArgs st_check_circuit) (defBody st_check_circuit) (defScope st_check_circuit) .none kV doc pm an (.ref c0) ct) ["delays", "wires"] []) :
    Dfn P w ⟨K, mg, none⟩ base 8 "check_circuit" 2 d_check_circuit := by
  refine dfn_ofC (k := 7) (N := ["delays", "wires", "index", "delay"]) (G := ⟨K, mg, none⟩) lk hcd hk hm hb sc_check_circuit rfl (by decide) rfl fun A outer s H E hr => ?_
  have hu := hr.units
  have hu5 := units65 hr
  have nd := sc_check_circuit.nd
  have tk := takes_of (X := (cxOf (L2.CX P w) P w K mg base ["delays", "wires", "index", "delay"] "check_circuit" (defScope st_check_circuit) a (.ref c0) A outer s H E)) rfl rfl rfl rfl
  have hp := passes_of (X := (cxOf (L2.CX P w) P w K mg base ["delays", "wires", "index", "delay"] "check_circuit" (defScope st_check_circuit) a (.ref c0) A outer s H E)) rfl
  exact (s1 (sif (PW.pt (wor (ynot (ytru (xcall D_is_tuple_of (hr.mono (by decide)) tk (e1 (v1 (xv 0)) (e1 (v1 xint) (e1 (v1 (xk K_MOST_GATES)) e0)))))) (wor1 (ynot (ytru (xbi (biAll rfl) B.all DL.boot_all (a1 (xlc (own := [("delay", 3)]) (t := (.nm 3)) rfl nd (i1 (xv 0)) (by show BlkOk ["delays", "wires", "index", "delay"] (defScope st_check_circuit) _ _; exact blkOk_by (by decide +kernel)) (fun _ _ _ _ _ => (q1 nd)) (fun _ _ _ _ _ => t0) (fun _ _ _ _ _ => (xcall D_is_between (hr.mono (by decide)) L2.takes0 (e1 (v1 (xv 3)) (e1 (v1 xint) (e1 (v1 (xk K_LONGEST_DELAY)) e0)))))) a0))))))) (sl (sraise1 EX.own_BadCircuit (hr.mono (by decide)) rfl tk xnon)) s0)
  (s1 (sif (ynot (ytru (xcall D_is_tuple_of (hr.mono (by decide)) tk (e1 (v1 (xv 1)) (e1 (v1 xint) (e1 (v1 (xk K_MOST_WIRES)) e0)))))) (sl (sraise1 EX.own_BadCircuit (hr.mono (by decide)) rfl tk xnon)) s0)
  (s1 (sset 2 nd (v1 (xwrong (k := 5) (mk := "check_circuit") (p := "wire") (N' := ["wire", "delays"]) (fr := ["delays"]) (js := [0]) (n := 0) rfl F_wrong_index m_wrong_index b_wrong_index sc_wrong_index rfl rfl (Or.inl rfl) (fun _ _ _ _ _ _ _ hcall => by
    have nd := sc_wrong_index.nd
    exact (s1 (sfor (passes_of rfl) rfl (i_enum B.enumerate (xv 0)) (t := (.tp [(.nm 2), (.nm 3)])) (qt rfl (qs1 (q1 nd) (qs1 (q1 nd) qs0))) (sl (sif (ynot (ytru (hcall _ _ _ (xv 3)))) (sl (sret (xv 2))) s0))) (sl (sret xnon)))) (xv 1) TB rfl ht (show (("check_circuit" : Str), ("check_circuit.<locals>.<lambda>" : Str)) ∈ makers by decide +kernel) hok (hr.mono (by decide)) (NdefX.nscope_by (by decide +kernel)) rfl (free_by (sc := defScope st_check_circuit) (by decide +kernel)) (by decide +kernel) rfl (fun A2 outer2 s2 H2 c2 f2 hr2 => by
    have hr := hr2; have hu := hr.units; have hu5 := units65 hr
    exact (xcall D_is_wire (hr.mono (by decide)) DL.lcx_takes (e1 (v1 (xv 0)) (e1 (v1 (xbi biLen B.len DL.boot_len (a1 (xv 1) a0))) e0)))))))
  (s1 (sif (ycmp cIsNot (xv 2) xnon) (sl (sraise1 EX.own_BadCircuit (hr.mono (by decide)) rfl tk (xv 2))) s0)
  (sl (sif (ycmp cLt (xbi biLen B.len DL.boot_len (a1 (xcall D_in_order (hr.mono (by decide)) tk (e1 (v1 (xbi biLen B.len DL.boot_len (a1 (xv 0) a0))) (e1 (v1 (xv 1)) e0))) a0)) (xbi biLen B.len DL.boot_len (a1 (xv 0) a0))) (sl (sraise1 EX.own_BadCircuit (hr.mono (by decide)) rfl tk xnon)) s0))))))

/-! ## arrivals -/
abbrev st_arrivals : Stmt := top 21
theorem sc_arrivals : FnScope ["delays", "wires", "sums", "pairs", "gate", "one", "other"] ["delays", "wires"] (defScope st_arrivals) := ⟨rfl, rfl, rfl, by decide +kernel, rfl, by decide +kernel, by decide +kernel⟩
def b_arrivals : DSn :=
  (mSeq (mSet 2 (mNewRep (mLst (mCons (mC (.int 0)) mNil)) (mBi gLen (mCons (mVar 0) mNil))))
  (mSeq (mSet 3 (mV (mCall d_bare_pairs 1 (mConsE (mV (mVar 1)) mNilE))))
  (mSeq (mFor (mIt (mCall d_in_order 2 (mConsE (mV (mBi gLen (mCons (mVar 0) mNil))) (mConsE (mV (mVar 1)) mNilE)))) (.nm 4) (mAsg (mOp gAdd (mOp gIx (mVar 0) (mVar 4)) (mMaxD (mLc (mIt (mVar 3)) (.tp [(.nm 5), (.nm 6)]) (mCmp gEq (mVar 6) (mVar 4)) (mIxC 2 (mVar 5)) [5, 6]) (mC (.int 0)))) (gIt 2 (mVar 4))))
  (mRet (mFrz 2)))))
def d_arrivals : Den := denB 7 b_arrivals
theorem ok_arrivals {P : Program} {w : World} {K : PySem.W.Frag} {mg : Str → Option Value} {base : Heap} {a : Addr} {fd : FuncData} (B : Bi mg) (D_bare_pairs : Dfn P w ⟨K, mg, none⟩ base 3 "bare_pairs" 1 d_bare_pairs) (D_in_order : Dfn P w ⟨K, mg, none⟩ base 4 "in_order" 2 d_in_order)
    (F : Fun K "arrivals" "arrivals" st_arrivals a fd) (hm : mg "arrivals" = some (.ref a)) (hb : Binds K fd ["delays", "wires"] []) : Dfn P w ⟨K, mg, none⟩ base 5 "arrivals" 2 d_arrivals := by
  refine dfn_of (k := 4) (N := ["delays", "wires", "sums", "pairs", "gate", "one", "other"]) (G := ⟨K, mg, none⟩) F sc_arrivals hm hb rfl (by decide) rfl fun cdv A outer s H E hr => ?_
  have hu := hr.units
  have hu5 := units65 hr
  have nd := sc_arrivals.nd
  have tk := takes_of (X := cxOf (L2.CX P w) P w K mg base ["delays", "wires", "sums", "pairs", "gate", "one", "other"] "arrivals" (defScope st_arrivals) a cdv A outer s H E) rfl rfl rfl rfl
  have hp := passes_of (X := cxOf (L2.CX P w) P w K mg base ["delays", "wires", "sums", "pairs", "gate", "one", "other"] "arrivals" (defScope st_arrivals) a cdv A outer s H E) rfl
  exact (s1 (sset 2 nd (vrep (xlst (a1 xint a0)) (xbi biLen B.len DL.boot_len (a1 (xv 0) a0))))
  (s1 (sset 3 nd (v1 (xcall D_bare_pairs (hr.mono (by decide)) tk (e1 (v1 (xv 1)) e0))))
  (s1 (sfor hp rfl (i1 (xcall D_in_order (hr.mono (by decide)) tk (e1 (v1 (xbi biLen B.len DL.boot_len (a1 (xv 0) a0))) (e1 (v1 (xv 1)) e0)))) (t := (.nm 4)) (q1 nd) (sl (sasg (xop bAdd (xix (xv 0) (xv 4)) (xmaxD rfl B.max DL.boot_max (xlc (own := [("one", 5), ("other", 6)]) (t := (.tp [(.nm 5), (.nm 6)])) rfl nd (i1 (xv 3)) (by show BlkOk ["delays", "wires", "sums", "pairs", "gate", "one", "other"] (defScope st_arrivals) _ _; exact blkOk_by (by decide +kernel)) (fun _ _ _ _ _ => (qt rfl (qs1 (q1 nd) (qs1 (q1 nd) qs0)))) (fun _ _ _ _ _ => (t1 (ycmp (cEq hu) (xv 6) (xv 4)))) (fun _ _ _ _ _ => (xixC 2 (xv 5)))) xint)) (gitem 2 (xv 4)))))
  (sl (sret (xfrz 2))))))

/-! ## with_lags -/
abbrev st_with_lags : Stmt := top 23
theorem sc_with_lags : FnScope ["wires", "lags", "one", "other", "registers"] ["wires", "lags"] (defScope st_with_lags) := ⟨rfl, rfl, rfl, by decide +kernel, rfl, by decide +kernel, by decide +kernel⟩
def b_with_lags : DSn :=
  (mRet (mBi gTuple (mCons (mLc (mIt (mVar 0)) (.tp [(.nm 2), (.nm 3), (.nm 4)]) mYes (mTup (mCons (mVar 2) (mCons (mVar 3) (mCons (mOp gSub (mOp gAdd (mVar 4) (mOp gIx (mVar 1) (mVar 3))) (mOp gIx (mVar 1) (mVar 2))) mNil)))) [2, 3, 4]) mNil)))
def d_with_lags : Den := denB 5 b_with_lags
theorem ok_with_lags {P : Program} {w : World} {K : PySem.W.Frag} {mg : Str → Option Value} {base : Heap} {a : Addr} {fd : FuncData} (B : Bi mg)
    (F : Fun K "with_lags" "with_lags" st_with_lags a fd) (hm : mg "with_lags" = some (.ref a)) (hb : Binds K fd ["wires", "lags"] []) : Dfn P w ⟨K, mg, none⟩ base 3 "with_lags" 2 d_with_lags := by
  refine dfn_of (k := 2) (N := ["wires", "lags", "one", "other", "registers"]) (G := ⟨K, mg, none⟩) F sc_with_lags hm hb rfl (by decide) rfl fun cdv A outer s H E hr => ?_
  have hu := hr.units
  have hu5 := units65 hr
  have nd := sc_with_lags.nd
  have tk := takes_of (X := cxOf (L2.CX P w) P w K mg base ["wires", "lags", "one", "other", "registers"] "with_lags" (defScope st_with_lags) a cdv A outer s H E) rfl rfl rfl rfl
  have hp := passes_of (X := cxOf (L2.CX P w) P w K mg base ["wires", "lags", "one", "other", "registers"] "with_lags" (defScope st_with_lags) a cdv A outer s H E) rfl
  exact (sl (sret (xbt biTuple B.tuple DL.boot_tuple (a1 (xlc (own := [("one", 2), ("other", 3), ("registers", 4)]) (t := (.tp [(.nm 2), (.nm 3), (.nm 4)])) rfl nd (i1 (xv 0)) (by show BlkOk ["wires", "lags", "one", "other", "registers"] (defScope st_with_lags) _ _; exact blkOk_by (by decide +kernel)) (fun _ _ _ _ _ => (qt rfl (qs1 (q1 nd) (qs1 (q1 nd) (qs1 (q1 nd) qs0))))) (fun _ _ _ _ _ => t0) (fun _ _ _ _ _ => (xtup (a1 (xv 2) (a1 (xv 3) (a1 (xop bSub (xop bAdd (xv 4) (xix (xv 1) (xv 3))) (xix (xv 1) (xv 2))) a0)))))) a0))))

/-! ## least_lags -/
abbrev st_least_lags : Stmt := top 24
theorem sc_least_lags : FnScope ["delays", "wires", "goal", "lags", "sums", "lag", "late"] ["delays", "wires", "goal"] (defScope st_least_lags) := ⟨rfl, rfl, rfl, by decide +kernel, rfl, by decide +kernel, by decide +kernel⟩
def b_least_lags : DSn :=
  (mSeq (mSet 3 (mV (mOp gMulT (mTup (mCons (mC (.int 0)) mNil)) (mBi gLen (mCons (mVar 0) mNil)))))
  (mSeq (whileL (mCmp gLt (mBi gMax (mCons (mVar 3) mNil)) (mBi gLen (mCons (mVar 0) mNil))) (mSeq (mSet 4 (mV (mCall d_arrivals 2 (mConsE (mV (mVar 0)) (mConsE (mV (mCall d_with_lags 2 (mConsE (mV (mVar 1)) (mConsE (mV (mVar 3)) mNilE)))) mNilE)))))
  (mSeq (mIfS (mCmp gLe (mBi gMax (mCons (mVar 4) mNil)) (mVar 2)) (mRet (mVar 3)) mSkip)
  (mSet 3 (mV (mBi gTuple (mCons (mLc (mZipM (mVar 3) (mVar 4)) (.tp [(.nm 5), (.nm 6)]) mYes (mIf (mCmp gGt (mVar 6) (mVar 2)) (mOp gAdd (mVar 5) (mC (.int 1))) (mVar 5)) [5, 6]) mNil)))))) 1000)
  (mRet (mC .non))))
def d_least_lags : Den := denB 7 b_least_lags
theorem ok_least_lags {P : Program} {w : World} {K : PySem.W.Frag} {mg : Str → Option Value} {base : Heap} {a : Addr} {fd : FuncData} (B : Bi mg) (D_arrivals : Dfn P w ⟨K, mg, none⟩ base 5 "arrivals" 2 d_arrivals) (D_with_lags : Dfn P w ⟨K, mg, none⟩ base 3 "with_lags" 2 d_with_lags)
    (F : Fun K "least_lags" "least_lags" st_least_lags a fd) (hm : mg "least_lags" = some (.ref a)) (hb : Binds K fd ["delays", "wires", "goal"] []) : Dfn P w ⟨K, mg, none⟩ base 6 "least_lags" 3 d_least_lags := by
  refine dfn_of (k := 5) (N := ["delays", "wires", "goal", "lags", "sums", "lag", "late"]) (G := ⟨K, mg, none⟩) F sc_least_lags hm hb rfl (by decide) rfl fun cdv A outer s H E hr => ?_
  have hu := hr.units
  have hu5 := units65 hr
  have nd := sc_least_lags.nd
  have tk := takes_of (X := cxOf (L2.CX P w) P w K mg base ["delays", "wires", "goal", "lags", "sums", "lag", "late"] "least_lags" (defScope st_least_lags) a cdv A outer s H E) rfl rfl rfl rfl
  have hp := passes_of (X := cxOf (L2.CX P w) P w K mg base ["delays", "wires", "goal", "lags", "sums", "lag", "late"] "least_lags" (defScope st_least_lags) a cdv A outer s H E) rfl
  exact (s1 (sset 3 nd (v1 (xop bMulT (xtup (a1 xint a0)) (xbi biLen B.len DL.boot_len (a1 (xv 0) a0)))))
  (s1 (swhile 1000 hp (ycmp cLt (xbi (biMax rfl) B.max DL.boot_max (a1 (xv 3) a0)) (xbi biLen B.len DL.boot_len (a1 (xv 0) a0))) (s1 (sset 4 nd (v1 (xcall D_arrivals (hr.mono (by decide)) tk (e1 (v1 (xv 0)) (e1 (v1 (xcall D_with_lags (hr.mono (by decide)) tk (e1 (v1 (xv 1)) (e1 (v1 (xv 3)) e0)))) e0)))))
  (s1 (sif (ycmp cLe (xbi (biMax rfl) B.max DL.boot_max (a1 (xv 4) a0)) (xv 2)) (sl (sret (xv 3))) s0)
  (sl (sset 3 nd (v1 (xbt biTuple B.tuple DL.boot_tuple (a1 (xlc (own := [("lag", 5), ("late", 6)]) (t := (.tp [(.nm 5), (.nm 6)])) rfl nd (i_zipM B.zip (xv 3) (xv 4)) (by show BlkOk ["delays", "wires", "goal", "lags", "sums", "lag", "late"] (defScope st_least_lags) _ _; exact blkOk_by (by decide +kernel)) (fun _ _ _ _ _ => (qt rfl (qs1 (q1 nd) (qs1 (q1 nd) qs0)))) (fun _ _ _ _ _ => t0) (fun _ _ _ _ _ => (xif (ycmp cGt (xv 6) (xv 2)) (xop bAdd (xv 5) xint) (xv 5)))) a0))))))))
  (sl (sret xnon))))

/-! ## least_period -/
abbrev st_least_period : Stmt := top 25
theorem sc_least_period : FnScope ["delays", "wires", "lags", "least", "better"] ["delays", "wires"] (defScope st_least_period) := ⟨rfl, rfl, rfl, by decide +kernel, rfl, by decide +kernel, by decide +kernel⟩
def b_least_period : DSn :=
  (mSeq (mDrop (mCall d_check_circuit 2 (mConsE (mV (mVar 0)) (mConsE (mV (mVar 1)) mNilE))))
  (mSeq (mSet 2 (mV (mOp gMulT (mTup (mCons (mC (.int 0)) mNil)) (mBi gLen (mCons (mVar 0) mNil)))))
  (mSeq (mSet 3 (mV (mBi gMax (mCons (mCall d_arrivals 2 (mConsE (mV (mVar 0)) (mConsE (mV (mVar 1)) mNilE))) mNil))))
  (mSeq (mSet 4 (mV (mCall d_least_lags 3 (mConsE (mV (mVar 0)) (mConsE (mV (mVar 1)) (mConsE (mV (mOp gSub (mVar 3) (mC (.int 1)))) mNilE))))))
  (mSeq (whileL (mCmp gNotN (mVar 4) (mC .non)) (mSeq (mSet 2 (mV (mVar 4)))
  (mSeq (mSet 3 (mV (mBi gMax (mCons (mCall d_arrivals 2 (mConsE (mV (mVar 0)) (mConsE (mV (mCall d_with_lags 2 (mConsE (mV (mVar 1)) (mConsE (mV (mVar 2)) mNilE)))) mNilE))) mNil))))
  (mSet 4 (mV (mCall d_least_lags 3 (mConsE (mV (mVar 0)) (mConsE (mV (mVar 1)) (mConsE (mV (mOp gSub (mVar 3) (mC (.int 1)))) mNilE)))))))) 1000)
  (mRet (mTup (mCons (mVar 3) (mCons (mVar 2) mNil)))))))))
def d_least_period : Den := denB 5 b_least_period
theorem ok_least_period {P : Program} {w : World} {K : PySem.W.Frag} {mg : Str → Option Value} {base : Heap} {a : Addr} {fd : FuncData} (B : Bi mg) (D_check_circuit : Dfn P w ⟨K, mg, none⟩ base 8 "check_circuit" 2 d_check_circuit) (D_arrivals : Dfn P w ⟨K, mg, none⟩ base 5 "arrivals" 2 d_arrivals) (D_least_lags : Dfn P w ⟨K, mg, none⟩ base 6 "least_lags" 3 d_least_lags) (D_with_lags : Dfn P w ⟨K, mg, none⟩ base 3 "with_lags" 2 d_with_lags)
    (F : Fun K "least_period" "least_period" st_least_period a fd) (hm : mg "least_period" = some (.ref a)) (hb : Binds K fd ["delays", "wires"] []) : Dfn P w ⟨K, mg, none⟩ base 9 "least_period" 2 d_least_period := by
  refine dfn_of (k := 8) (N := ["delays", "wires", "lags", "least", "better"]) (G := ⟨K, mg, none⟩) F sc_least_period hm hb rfl (by decide) rfl fun cdv A outer s H E hr => ?_
  have hu := hr.units
  have hu5 := units65 hr
  have nd := sc_least_period.nd
  have tk := takes_of (X := cxOf (L2.CX P w) P w K mg base ["delays", "wires", "lags", "least", "better"] "least_period" (defScope st_least_period) a cdv A outer s H E) rfl rfl rfl rfl
  have hp := passes_of (X := cxOf (L2.CX P w) P w K mg base ["delays", "wires", "lags", "least", "better"] "least_period" (defScope st_least_period) a cdv A outer s H E) rfl
  exact (s1 (sexpr (xcall D_check_circuit (hr.mono (by decide)) tk (e1 (v1 (xv 0)) (e1 (v1 (xv 1)) e0))))
  (s1 (sset 2 nd (v1 (xop bMulT (xtup (a1 xint a0)) (xbi biLen B.len DL.boot_len (a1 (xv 0) a0)))))
  (s1 (sset 3 nd (v1 (xbi (biMax rfl) B.max DL.boot_max (a1 (xcall D_arrivals (hr.mono (by decide)) tk (e1 (v1 (xv 0)) (e1 (v1 (xv 1)) e0))) a0))))
  (s1 (sset 4 nd (v1 (xcall D_least_lags (hr.mono (by decide)) tk (e1 (v1 (xv 0)) (e1 (v1 (xv 1)) (e1 (v1 (xop bSub (xv 3) xint)) e0))))))
  (s1 (swhile 1000 hp (ycmp cIsNot (xv 4) xnon) (s1 (sset 2 nd (v1 (xv 4)))
  (s1 (sset 3 nd (v1 (xbi (biMax rfl) B.max DL.boot_max (a1 (xcall D_arrivals (hr.mono (by decide)) tk (e1 (v1 (xv 0)) (e1 (v1 (xcall D_with_lags (hr.mono (by decide)) tk (e1 (v1 (xv 1)) (e1 (v1 (xv 2)) e0)))) e0))) a0))))
  (sl (sset 4 nd (v1 (xcall D_least_lags (hr.mono (by decide)) tk (e1 (v1 (xv 0)) (e1 (v1 (xv 1)) (e1 (v1 (xop bSub (xv 3) xint)) e0))))))))))
  (sl (sret (xtup (a1 (xv 3) (a1 (xv 2) a0))))))))))

/-! ## period -/
abbrev st_period : Stmt := top 22
theorem sc_period : FnScope ["delays", "wires"] ["delays", "wires"] (defScope st_period) := ⟨rfl, rfl, rfl, by decide +kernel, rfl, by decide +kernel, by decide +kernel⟩
def b_period : DSn :=
  (mSeq (mDrop (mCall d_check_circuit 2 (mConsE (mV (mVar 0)) (mConsE (mV (mVar 1)) mNilE))))
  (mRet (mBi gMax (mCons (mCall d_arrivals 2 (mConsE (mV (mVar 0)) (mConsE (mV (mVar 1)) mNilE))) mNil))))
def d_period : Den := denB 2 b_period
theorem ok_period {P : Program} {w : World} {K : PySem.W.Frag} {mg : Str → Option Value} {base : Heap} {a : Addr} {fd : FuncData} (B : Bi mg) (D_check_circuit : Dfn P w ⟨K, mg, none⟩ base 8 "check_circuit" 2 d_check_circuit) (D_arrivals : Dfn P w ⟨K, mg, none⟩ base 5 "arrivals" 2 d_arrivals)
    (F : Fun K "period" "period" st_period a fd) (hm : mg "period" = some (.ref a)) (hb : Binds K fd ["delays", "wires"] []) : Dfn P w ⟨K, mg, none⟩ base 9 "period" 2 d_period := by
  refine dfn_of (k := 8) (N := ["delays", "wires"]) (G := ⟨K, mg, none⟩) F sc_period hm hb rfl (by decide) rfl fun cdv A outer s H E hr => ?_
  have hu := hr.units
  have hu5 := units65 hr
  have nd := sc_period.nd
  have tk := takes_of (X := cxOf (L2.CX P w) P w K mg base ["delays", "wires"] "period" (defScope st_period) a cdv A outer s H E) rfl rfl rfl rfl
  have hp := passes_of (X := cxOf (L2.CX P w) P w K mg base ["delays", "wires"] "period" (defScope st_period) a cdv A outer s H E) rfl
  exact (s1 (sexpr (xcall D_check_circuit (hr.mono (by decide)) tk (e1 (v1 (xv 0)) (e1 (v1 (xv 1)) e0))))
  (sl (sret (xbi (biMax rfl) B.max DL.boot_max (a1 (xcall D_arrivals (hr.mono (by decide)) tk (e1 (v1 (xv 0)) (e1 (v1 (xv 1)) e0))) a0)))))

/-! ## rings_of -/
abbrev st_rings_of : Stmt := top 28
theorem sc_rings_of : FnScope ["many", "fewest", "rings", "ways", "longer", "gate", "gates", "registers", "more", "one", "other"] ["many", "fewest"] (defScope st_rings_of) := ⟨rfl, rfl, rfl, by decide +kernel, rfl, by decide +kernel, by decide +kernel⟩
def b_rings_of : DSn :=
  (mSeq (mSet 2 (mNew mNil))
  (mSeq (mSetLc 3 (mLc (mRg1 (mVar 0)) (.nm 5) mYes (mTup (mCons (mTup (mCons (mVar 5) mNil)) (mCons (mC (.int 0)) mNil))) [5]))
  (mSeq (whileL (mTru (mVar 3)) (mSeq (mSet 4 (mNew mNil))
  (mSeq (mFor (mIt (mVar 3)) (.tp [(.nm 6), (.nm 7)]) (mFor (mItT (mVar 1)) (.tp [(.tp [(.nm 9), (.nm 10)]), (.nm 8)]) (mIfS (mAndT (mCmp gEq (mVar 9) (mOp gIx (mVar 6) (mC (.int (-1))))) (mCmp gEq (mVar 10) (mOp gIx (mVar 6) (mC (.int 0))))) (mDrop (mMet 2 gApp (mCons (mTup (mCons (mVar 6) (mCons (mOp gAdd (mVar 7) (mVar 8)) mNil))) mNil))) (mIfS (mAndT (mCmp gEq (mVar 9) (mOp gIx (mVar 6) (mC (.int (-1))))) (mAndT (mCmp gGt (mVar 10) (mOp gIx (mVar 6) (mC (.int 0)))) (mCmp gNotIn (mVar 10) (mVar 6)))) (mDrop (mMet 4 gApp (mCons (mTup (mCons (mOp gAdd (mVar 6) (mTup (mCons (mVar 10) mNil))) (mCons (mOp gAdd (mVar 7) (mVar 8)) mNil))) mNil))) mSkip))))
  (mSet 3 (mV (mFrz 4))))) 1000)
  (mRet (mFrz 2)))))
def d_rings_of : Den := denB 11 b_rings_of
theorem ok_rings_of {P : Program} {w : World} {K : PySem.W.Frag} {mg : Str → Option Value} {base : Heap} {a : Addr} {fd : FuncData} (B : Bi mg)
    (F : Fun K "rings_of" "rings_of" st_rings_of a fd) (hm : mg "rings_of" = some (.ref a)) (hb : Binds K fd ["many", "fewest"] []) : Dfn P w ⟨K, mg, none⟩ base 3 "rings_of" 2 d_rings_of := by
  refine dfn_of (k := 2) (N := ["many", "fewest", "rings", "ways", "longer", "gate", "gates", "registers", "more", "one", "other"]) (G := ⟨K, mg, none⟩) F sc_rings_of hm hb rfl (by decide) rfl fun cdv A outer s H E hr => ?_
  have hu := hr.units
  have hu5 := units65 hr
  have nd := sc_rings_of.nd
  have tk := takes_of (X := cxOf (L2.CX P w) P w K mg base ["many", "fewest", "rings", "ways", "longer", "gate", "gates", "registers", "more", "one", "other"] "rings_of" (defScope st_rings_of) a cdv A outer s H E) rfl rfl rfl rfl
  have hp := passes_of (X := cxOf (L2.CX P w) P w K mg base ["many", "fewest", "rings", "ways", "longer", "gate", "gates", "registers", "more", "one", "other"] "rings_of" (defScope st_rings_of) a cdv A outer s H E) rfl
  exact (s1 (sset 2 nd (vlst a0))
  (s1 (ssetLc 3 (own := [("gate", 5)]) (t := (.nm 5)) rfl nd (i_range1 B.range (xv 0)) (by show BlkOk ["many", "fewest", "rings", "ways", "longer", "gate", "gates", "registers", "more", "one", "other"] (defScope st_rings_of) _ _; exact blkOk_by (by decide +kernel)) (fun _ _ _ _ _ => (q1 nd)) (fun _ _ _ _ _ => t0) (fun _ _ _ _ _ => (xtup (a1 (xtup (a1 (xv 5) a0)) (a1 xint a0)))))
  (s1 (swhile 1000 hp (ytru (xv 3)) (s1 (sset 4 nd (vlst a0))
  (s1 (sfor hp rfl (i1 (xv 3)) (t := (.tp [(.nm 6), (.nm 7)])) (qt rfl (qs1 (q1 nd) (qs1 (q1 nd) qs0))) (sl (sfor hp rfl (i_itemsT (xv 1)) (t := (.tp [(.tp [(.nm 9), (.nm 10)]), (.nm 8)])) (qt rfl (qs1 (qt rfl (qs1 (q1 nd) (qs1 (q1 nd) qs0))) (qs1 (q1 nd) qs0))) (sl (sif (PW.pt (wand (ycmp (cEq hu) (xv 9) (xix (xv 6) xneg)) (wand1 (ycmp (cEq hu) (xv 10) (xix (xv 6) xint))))) (sl (sexpr (xmet 2 meApp (a1 (xtup (a1 (xv 6) (a1 (xop bAdd (xv 7) (xv 8)) a0))) a0)))) (sl (sif (PW.pt (wand (ycmp (cEq hu) (xv 9) (xix (xv 6) xneg)) (wand (ycmp cGt (xv 10) (xix (xv 6) xint)) (wand1 (ycmp (cNotIn hu5) (xv 10) (xv 6)))))) (sl (sexpr (xmet 4 meApp (a1 (xtup (a1 (xop bAdd (xv 6) (xtup (a1 (xv 10) a0))) (a1 (xop bAdd (xv 7) (xv 8)) a0))) a0)))) s0)))))))
  (sl (sset 3 nd (v1 (xfrz 4)))))))
  (sl (sret (xfrz 2))))))

/-! ## fewest_registers -/
abbrev st_fewest_registers : Stmt := top 27
theorem sc_fewest_registers : FnScope ["wires", "fewest", "one", "other", "registers"] ["wires"] (defScope st_fewest_registers) := ⟨rfl, rfl, rfl, by decide +kernel, rfl, by decide +kernel, by decide +kernel⟩
def b_fewest_registers : DSn :=
  (mSeq (mSet 1 mNewDt)
  (mSeq (mFor (mIt (mVar 0)) (.tp [(.nm 2), (.nm 3), (.nm 4)]) (mAsg (mBi gMin2 (mCons (mVar 4) (mCons (mGetDt 1 (mTup (mCons (mVar 2) (mCons (mVar 3) mNil))) (mVar 4)) mNil))) (gDt 1 (mTup (mCons (mVar 2) (mCons (mVar 3) mNil))))))
  (mRet (mFrzD 1))))
def d_fewest_registers : Den := denB 5 b_fewest_registers
theorem ok_fewest_registers {P : Program} {w : World} {K : PySem.W.Frag} {mg : Str → Option Value} {base : Heap} {a : Addr} {fd : FuncData} (B : Bi mg) (hkf : keyFree K = true)
    (F : Fun K "fewest_registers" "fewest_registers" st_fewest_registers a fd) (hm : mg "fewest_registers" = some (.ref a)) (hb : Binds K fd ["wires"] []) : Dfn P w ⟨K, mg, none⟩ base 3 "fewest_registers" 1 d_fewest_registers := by
  refine dfn_of (k := 2) (N := ["wires", "fewest", "one", "other", "registers"]) (G := ⟨K, mg, none⟩) F sc_fewest_registers hm hb rfl (by decide) rfl fun cdv A outer s H E hr => ?_
  have hu := hr.units
  have hu5 := units65 hr
  have nd := sc_fewest_registers.nd
  have tk := takes_of (X := cxOf (L2.CX P w) P w K mg base ["wires", "fewest", "one", "other", "registers"] "fewest_registers" (defScope st_fewest_registers) a cdv A outer s H E) rfl rfl rfl rfl
  have hp := passes_of (X := cxOf (L2.CX P w) P w K mg base ["wires", "fewest", "one", "other", "registers"] "fewest_registers" (defScope st_fewest_registers) a cdv A outer s H E) rfl
  exact (s1 (sset 1 nd vnewT)
  (s1 (sfor hp rfl (i1 (xv 0)) (t := (.tp [(.nm 2), (.nm 3), (.nm 4)])) (qt rfl (qs1 (q1 nd) (qs1 (q1 nd) (qs1 (q1 nd) qs0)))) (sl (sasg (xbi (biMin2 rfl) B.min DL.boot_min (a1 (xv 4) (a1 (xgetDt hu hkf 1 (xtup (a1 (xv 2) (a1 (xv 3) a0))) (xv 4) ⟨rfl, rfl, rfl, rfl⟩) a0))) (gdt hu hkf 1 (xtup (a1 (xv 2) (a1 (xv 3) a0)))))))
  (sl (sret (xfrzD 1)))))

/-! ## ratio -/
abbrev st_ratio : Stmt := top 10
theorem sc_ratio : FnScope ["numerator", "denominator", "common"] ["numerator", "denominator"] (defScope st_ratio) := ⟨rfl, rfl, rfl, by decide +kernel, rfl, by decide +kernel, by decide +kernel⟩
def b_ratio : DSn :=
  (mSeq (mSet 2 (mV (mBi gGcd (mCons (mVar 0) (mCons (mVar 1) mNil)))))
  (mRet (mTup (mCons (mOp gDiv (mVar 0) (mVar 2)) (mCons (mOp gDiv (mVar 1) (mVar 2)) mNil)))))
def d_ratio : Den := denB 3 b_ratio
theorem ok_ratio {P : Program} {w : World} {K : PySem.W.Frag} {mg : Str → Option Value} {base : Heap} {a : Addr} {fd : FuncData} (B : Bi mg) (I_gcd : mg "gcd" = some (.builtin "math.gcd"))
    (F : Fun K "ratio" "ratio" st_ratio a fd) (hm : mg "ratio" = some (.ref a)) (hb : Binds K fd ["numerator", "denominator"] []) : Dfn P w ⟨K, mg, none⟩ base 3 "ratio" 2 d_ratio := by
  refine dfn_of (k := 2) (N := ["numerator", "denominator", "common"]) (G := ⟨K, mg, none⟩) F sc_ratio hm hb rfl (by decide) rfl fun cdv A outer s H E hr => ?_
  have hu := hr.units
  have hu5 := units65 hr
  have nd := sc_ratio.nd
  have tk := takes_of (X := cxOf (L2.CX P w) P w K mg base ["numerator", "denominator", "common"] "ratio" (defScope st_ratio) a cdv A outer s H E) rfl rfl rfl rfl
  have hp := passes_of (X := cxOf (L2.CX P w) P w K mg base ["numerator", "denominator", "common"] "ratio" (defScope st_ratio) a cdv A outer s H E) rfl
  exact (s1 (sset 2 nd (v1 (xbg biGcd I_gcd (a1 (xv 0) (a1 (xv 1) a0)))))
  (sl (sret (xtup (a1 (xop bDiv (xv 0) (xv 2)) (a1 (xop bDiv (xv 1) (xv 2)) a0))))))

/-! ## ring_bound -/
abbrev st_ring_bound : Stmt := top 26
theorem sc_ring_bound : FnScope ["delays", "wires", "best", "gates", "registers", "delay", "gate"] ["delays", "wires"] (defScope st_ring_bound) := ⟨rfl, rfl, rfl, by decide +kernel, rfl, by decide +kernel, by decide +kernel⟩
def b_ring_bound : DSn :=
  (mSeq (mDrop (mCall d_check_circuit 2 (mConsE (mV (mVar 0)) (mConsE (mV (mVar 1)) mNilE))))
  (mSeq (mSet 2 (mV (mC .non)))
  (mSeq (mFor (mIt (mCall d_rings_of 2 (mConsE (mV (mBi gLen (mCons (mVar 0) mNil))) (mConsE (mV (mCall d_fewest_registers 1 (mConsE (mV (mVar 1)) mNilE))) mNilE)))) (.tp [(.nm 3), (.nm 4)]) (mSeq (mSet 5 (mV (mBi gSum (mCons (mLc (mIt (mVar 3)) (.nm 6) mYes (mOp gIx (mVar 0) (mVar 6)) [6]) mNil))))
  (mIfS (mOrT (mCmp gIsN (mVar 2) (mC .non)) (mCmp gGt (mOp gMul (mVar 5) (mOp gIx (mVar 2) (mC (.int 1)))) (mOp gMul (mOp gIx (mVar 2) (mC (.int 0))) (mVar 4)))) (mSet 2 (mV (mCall d_ratio 2 (mConsE (mV (mVar 5)) (mConsE (mV (mVar 4)) mNilE))))) mSkip)))
  (mRet (mVar 2)))))
def d_ring_bound : Den := denB 7 b_ring_bound
theorem ok_ring_bound {P : Program} {w : World} {K : PySem.W.Frag} {mg : Str → Option Value} {base : Heap} {a : Addr} {fd : FuncData} (B : Bi mg) (D_check_circuit : Dfn P w ⟨K, mg, none⟩ base 8 "check_circuit" 2 d_check_circuit) (D_rings_of : Dfn P w ⟨K, mg, none⟩ base 3 "rings_of" 2 d_rings_of) (D_fewest_registers : Dfn P w ⟨K, mg, none⟩ base 3 "fewest_registers" 1 d_fewest_registers) (D_ratio : Dfn P w ⟨K, mg, none⟩ base 3 "ratio" 2 d_ratio)
    (F : Fun K "ring_bound" "ring_bound" st_ring_bound a fd) (hm : mg "ring_bound" = some (.ref a)) (hb : Binds K fd ["delays", "wires"] []) : Dfn P w ⟨K, mg, none⟩ base 9 "ring_bound" 2 d_ring_bound := by
  refine dfn_of (k := 8) (N := ["delays", "wires", "best", "gates", "registers", "delay", "gate"]) (G := ⟨K, mg, none⟩) F sc_ring_bound hm hb rfl (by decide) rfl fun cdv A outer s H E hr => ?_
  have hu := hr.units
  have hu5 := units65 hr
  have nd := sc_ring_bound.nd
  have tk := takes_of (X := cxOf (L2.CX P w) P w K mg base ["delays", "wires", "best", "gates", "registers", "delay", "gate"] "ring_bound" (defScope st_ring_bound) a cdv A outer s H E) rfl rfl rfl rfl
  have hp := passes_of (X := cxOf (L2.CX P w) P w K mg base ["delays", "wires", "best", "gates", "registers", "delay", "gate"] "ring_bound" (defScope st_ring_bound) a cdv A outer s H E) rfl
  exact (s1 (sexpr (xcall D_check_circuit (hr.mono (by decide)) tk (e1 (v1 (xv 0)) (e1 (v1 (xv 1)) e0))))
  (s1 (sset 2 nd (v1 xnon))
  (s1 (sfor hp rfl (i1 (xcall D_rings_of (hr.mono (by decide)) tk (e1 (v1 (xbi biLen B.len DL.boot_len (a1 (xv 0) a0))) (e1 (v1 (xcall D_fewest_registers (hr.mono (by decide)) tk (e1 (v1 (xv 1)) e0))) e0)))) (t := (.tp [(.nm 3), (.nm 4)])) (qt rfl (qs1 (q1 nd) (qs1 (q1 nd) qs0))) (s1 (sset 5 nd (v1 (xbi (biSum rfl) B.sum DL.boot_sum (a1 (xlc (own := [("gate", 6)]) (t := (.nm 6)) rfl nd (i1 (xv 3)) (by show BlkOk ["delays", "wires", "best", "gates", "registers", "delay", "gate"] (defScope st_ring_bound) _ _; exact blkOk_by (by decide +kernel)) (fun _ _ _ _ _ => (q1 nd)) (fun _ _ _ _ _ => t0) (fun _ _ _ _ _ => (xix (xv 0) (xv 6)))) a0))))
  (sl (sif (PW.pt (wor (ycmp cIs (xv 2) xnon) (wor1 (ycmp cGt (xop bMul (xv 5) (xix (xv 2) xint)) (xop bMul (xix (xv 2) xint) (xv 4)))))) (sl (sset 2 nd (v1 (xcall D_ratio (hr.mono (by decide)) tk (e1 (v1 (xv 5)) (e1 (v1 (xv 4)) e0)))))) s0))))
  (sl (sret (xv 2))))))

/-! ## law -/
abbrev st_law : Stmt := top 33
theorem sc_law : FnScope ["script", "row", "goal", "times", "slow", "back", "delays", "wires", "more", "at", "wire", "delay", "one", "other", "many"] ["script"] (defScope st_law) := ⟨rfl, rfl, rfl, by decide +kernel, rfl, by decide +kernel, by decide +kernel⟩
def b_law : DSn :=
  (mSeq (mSet 1 (mNew (mCons (mVar 0) (mCons (mC (.int 0)) (mCons (mC (.int 3893)) (mCons (mC (.int 0)) mNil))))))
  (mSeq (mAsg (mCall d__law_circuit 2 (mConsE (mCel 1) (mConsE (mV (mC (.int 6))) mNilE))) (gTp (DL.gCons (gNm 6) (DL.gCons (gNm 7) DL.gNil)) 2))
  (mSeq (mSet 2 (mV (mOp gIx (mCall d_least_period 2 (mConsE (mV (mVar 6)) (mConsE (mV (mVar 7)) mNilE))) (mC (.int 0)))))
  (mSeq (mIfS (mCmp gEq (mLc (mIt (mVar 7)) (.nm 10) (mCmp gGt (mOp gIx (mVar 10) (mC (.int 2))) (mC (.int 8))) (mVar 10) [10]) (mLst mNil)) (mSeq (mSet 8 (mV (mBi gTuple (mCons (mLc (mIt (mVar 7)) (.tp [(.nm 12), (.nm 13), (.nm 14)]) mYes (mTup (mCons (mVar 12) (mCons (mVar 13) (mCons (mOp gAdd (mVar 14) (mC (.int 1))) mNil)))) [12, 13, 14]) mNil))))
  (mIfS (mOrT (mCmp gNe (mCall d_period 2 (mConsE (mV (mVar 6)) (mConsE (mV (mVar 8)) mNilE))) (mBi gMax (mCons (mVar 6) mNil))) (mCmp gNe (mOp gIx (mCall d_least_period 2 (mConsE (mV (mVar 6)) (mConsE (mV (mVar 8)) mNilE))) (mC (.int 0))) (mBi gMax (mCons (mVar 6) mNil)))) (mRet (mC (.bl false))) mSkip)) mSkip)
  (mSeq (mSet 3 (mV (mOp gAdd (mC (.int 1)) (mCall d__law_taken 2 (mConsE (mCel 1) (mConsE (mV (mC (.int 3))) mNilE))))))
  (mSeq (mSet 4 (mV (mBi gTuple (mCons (mLc (mIt (mVar 6)) (.nm 11) mYes (mOp gMul (mVar 11) (mVar 3)) [11]) mNil))))
  (mSeq (mIfS (mAndT (mCmp gLe (mBi gMax (mCons (mVar 4) mNil)) (mC (.int 50))) (mOrT (mCmp gNe (mOp gIx (mCall d_least_period 2 (mConsE (mV (mVar 4)) (mConsE (mV (mVar 7)) mNilE))) (mC (.int 0))) (mOp gMul (mVar 2) (mVar 3))) (mCmp gNe (mCall d_period 2 (mConsE (mV (mVar 4)) (mConsE (mV (mVar 7)) mNilE))) (mOp gMul (mVar 3) (mCall d_period 2 (mConsE (mV (mVar 6)) (mConsE (mV (mVar 7)) mNilE))))))) (mRet (mC (.bl false))) mSkip)
  (mSeq (mIfS (mCmp gNe (mVar 7) (mTup mNil)) (mSeq (mSet 9 (mV (mCall d__law_taken 2 (mConsE (mCel 1) (mConsE (mV (mBi gLen (mCons (mVar 7) mNil))) mNilE)))))
  (mIfS (mCmp gGt (mOp gIx (mCall d_least_period 2 (mConsE (mV (mVar 6)) (mConsE (mV (mOp gAdd (mSl (mVar 7) mNoPart (mPart (mVar 9))) (mSl (mVar 7) (mPart (mOp gAdd (mVar 9) (mC (.int 1)))) mNoPart))) mNilE))) (mC (.int 0))) (mVar 2)) (mRet (mC (.bl false))) mSkip)) mSkip)
  (mSeq (mSet 5 (mV (mBi gTuple (mCons (mLc (mIt (mVar 7)) (.tp [(.nm 12), (.nm 13), (.nm 14)]) mYes (mTup (mCons (mVar 13) (mCons (mVar 12) (mCons (mVar 14) mNil)))) [12, 13, 14]) mNil))))
  (mRet (mAnd (mB (mCmp gEq (mOp gIx (mCall d_least_period 2 (mConsE (mV (mVar 6)) (mConsE (mV (mVar 5)) mNilE))) (mC (.int 0))) (mVar 2))) (mAnd (mB (mCmp gEq (mCall d_ring_bound 2 (mConsE (mV (mVar 6)) (mConsE (mV (mVar 5)) mNilE))) (mCall d_ring_bound 2 (mConsE (mV (mVar 6)) (mConsE (mV (mVar 7)) mNilE))))) (mB (mCmp gEq (mOp gIx (mCall d_least_period 2 (mConsE (mV (mVar 6)) (mConsE (mV (mTup mNil)) mNilE))) (mC (.int 0))) (mBi gMax (mCons (mVar 6) mNil))))))))))))))))
def d_law : Den := denB 15 b_law
theorem ok_law {P : Program} {w : World} {K : PySem.W.Frag} {mg : Str → Option Value} {base : Heap} {a : Addr} {fd : FuncData} (B : Bi mg) (D__law_circuit : Dfn P w ⟨K, mg, none⟩ base 5 "_law_circuit" 2 d__law_circuit) (D_least_period : Dfn P w ⟨K, mg, none⟩ base 9 "least_period" 2 d_least_period) (D_period : Dfn P w ⟨K, mg, none⟩ base 9 "period" 2 d_period) (D__law_taken : Dfn P w ⟨K, mg, none⟩ base 3 "_law_taken" 2 d__law_taken) (D_ring_bound : Dfn P w ⟨K, mg, none⟩ base 9 "ring_bound" 2 d_ring_bound)
    (F : Fun K "law" "law" st_law a fd) (hm : mg "law" = some (.ref a)) (hb : Binds K fd ["script"] []) : FnOk P w K mg base (L2.CX P w) 10 a fd ["script"] (spD ⟨K, mg, none⟩ 1 d_law) := by
  refine fnd_of (k := 9) (N := ["script", "row", "goal", "times", "slow", "back", "delays", "wires", "more", "at", "wire", "delay", "one", "other", "many"]) (G := ⟨K, mg, none⟩) F sc_law rfl (by decide) rfl fun cdv A outer s H E hr => ?_
  have hu := hr.units
  have hu5 := units65 hr
  have nd := sc_law.nd
  have tk := takes_of (X := cxOf (L2.CX P w) P w K mg base ["script", "row", "goal", "times", "slow", "back", "delays", "wires", "more", "at", "wire", "delay", "one", "other", "many"] "law" (defScope st_law) a cdv A outer s H E) rfl rfl rfl rfl
  have hp := passes_of (X := cxOf (L2.CX P w) P w K mg base ["script", "row", "goal", "times", "slow", "back", "delays", "wires", "more", "at", "wire", "delay", "one", "other", "many"] "law" (defScope st_law) a cdv A outer s H E) rfl
  exact (s1 (sset 1 nd (vlst (a1 (xv 0) (a1 xint (a1 xint (a1 xint a0))))))
  (s1 (sasg (xcall D__law_circuit (hr.mono (by decide)) tk (e1 (vc 1) (e1 (v1 xint) e0))) (gtup rfl (gs1 (gname 6 nd) (gs1 (gname 7 nd) gs0))))
  (s1 (sset 2 nd (v1 (xix (xcall D_least_period (hr.mono (by decide)) tk (e1 (v1 (xv 6)) (e1 (v1 (xv 7)) e0))) xint)))
  (s1 (sif (ycmp (cEq hu) (xlc (own := [("wire", 10)]) (t := (.nm 10)) rfl nd (i1 (xv 7)) (by show BlkOk ["script", "row", "goal", "times", "slow", "back", "delays", "wires", "more", "at", "wire", "delay", "one", "other", "many"] (defScope st_law) _ _; exact blkOk_by (by decide +kernel)) (fun _ _ _ _ _ => (q1 nd)) (fun _ _ _ _ _ => (t1 (ycmp cGt (xix (xv 10) xint) xint))) (fun _ _ _ _ _ => (xv 10))) (xlst a0)) (s1 (sset 8 nd (v1 (xbt biTuple B.tuple DL.boot_tuple (a1 (xlc (own := [("one", 12), ("other", 13), ("many", 14)]) (t := (.tp [(.nm 12), (.nm 13), (.nm 14)])) rfl nd (i1 (xv 7)) (by show BlkOk ["script", "row", "goal", "times", "slow", "back", "delays", "wires", "more", "at", "wire", "delay", "one", "other", "many"] (defScope st_law) _ _; exact blkOk_by (by decide +kernel)) (fun _ _ _ _ _ => (qt rfl (qs1 (q1 nd) (qs1 (q1 nd) (qs1 (q1 nd) qs0))))) (fun _ _ _ _ _ => t0) (fun _ _ _ _ _ => (xtup (a1 (xv 12) (a1 (xv 13) (a1 (xop bAdd (xv 14) xint) a0)))))) a0))))
  (sl (sif (PW.pt (wor (ycmp (cNe hu) (xcall D_period (hr.mono (by decide)) tk (e1 (v1 (xv 6)) (e1 (v1 (xv 8)) e0))) (xbi (biMax rfl) B.max DL.boot_max (a1 (xv 6) a0))) (wor1 (ycmp (cNe hu) (xix (xcall D_least_period (hr.mono (by decide)) tk (e1 (v1 (xv 6)) (e1 (v1 (xv 8)) e0))) xint) (xbi (biMax rfl) B.max DL.boot_max (a1 (xv 6) a0)))))) (sl (sret xbl)) s0))) s0)
  (s1 (sset 3 nd (v1 (xop bAdd xint (xcall D__law_taken (hr.mono (by decide)) tk (e1 (vc 1) (e1 (v1 xint) e0))))))
  (s1 (sset 4 nd (v1 (xbt biTuple B.tuple DL.boot_tuple (a1 (xlc (own := [("delay", 11)]) (t := (.nm 11)) rfl nd (i1 (xv 6)) (by show BlkOk ["script", "row", "goal", "times", "slow", "back", "delays", "wires", "more", "at", "wire", "delay", "one", "other", "many"] (defScope st_law) _ _; exact blkOk_by (by decide +kernel)) (fun _ _ _ _ _ => (q1 nd)) (fun _ _ _ _ _ => t0) (fun _ _ _ _ _ => (xop bMul (xv 11) (xv 3)))) a0))))
  (s1 (sif (PW.pt (wand (ycmp cLe (xbi (biMax rfl) B.max DL.boot_max (a1 (xv 4) a0)) xint) (wand1 (PW.pt (wor (ycmp (cNe hu) (xix (xcall D_least_period (hr.mono (by decide)) tk (e1 (v1 (xv 4)) (e1 (v1 (xv 7)) e0))) xint) (xop bMul (xv 2) (xv 3))) (wor1 (ycmp (cNe hu) (xcall D_period (hr.mono (by decide)) tk (e1 (v1 (xv 4)) (e1 (v1 (xv 7)) e0))) (xop bMul (xv 3) (xcall D_period (hr.mono (by decide)) tk (e1 (v1 (xv 6)) (e1 (v1 (xv 7)) e0))))))))))) (sl (sret xbl)) s0)
  (s1 (sif (ycmp (cNe hu) (xv 7) (xtup a0)) (s1 (sset 9 nd (v1 (xcall D__law_taken (hr.mono (by decide)) tk (e1 (vc 1) (e1 (v1 (xbi biLen B.len DL.boot_len (a1 (xv 7) a0))) e0)))))
  (sl (sif (ycmp cGt (xix (xcall D_least_period (hr.mono (by decide)) tk (e1 (v1 (xv 6)) (e1 (v1 (xop bAdd (xsl (xv 7) o0 (o1 (xv 9))) (xsl (xv 7) (o1 (xop bAdd (xv 9) xint)) o0))) e0))) xint) (xv 2)) (sl (sret xbl)) s0))) s0)
  (s1 (sset 5 nd (v1 (xbt biTuple B.tuple DL.boot_tuple (a1 (xlc (own := [("one", 12), ("other", 13), ("many", 14)]) (t := (.tp [(.nm 12), (.nm 13), (.nm 14)])) rfl nd (i1 (xv 7)) (by show BlkOk ["script", "row", "goal", "times", "slow", "back", "delays", "wires", "more", "at", "wire", "delay", "one", "other", "many"] (defScope st_law) _ _; exact blkOk_by (by decide +kernel)) (fun _ _ _ _ _ => (qt rfl (qs1 (q1 nd) (qs1 (q1 nd) (qs1 (q1 nd) qs0))))) (fun _ _ _ _ _ => t0) (fun _ _ _ _ _ => (xtup (a1 (xv 13) (a1 (xv 12) (a1 (xv 14) a0)))))) a0))))
  (sl (sret (xand (xcmp (cEq hu) (xix (xcall D_least_period (hr.mono (by decide)) tk (e1 (v1 (xv 6)) (e1 (v1 (xv 5)) e0))) xint) (xv 2)) (xand (xcmp (cEq hu) (xcall D_ring_bound (hr.mono (by decide)) tk (e1 (v1 (xv 6)) (e1 (v1 (xv 5)) e0))) (xcall D_ring_bound (hr.mono (by decide)) tk (e1 (v1 (xv 6)) (e1 (v1 (xv 7)) e0)))) (xone (xcmp (cEq hu) (xix (xcall D_least_period (hr.mono (by decide)) tk (e1 (v1 (xv 6)) (e1 (v1 (xtup a0)) e0))) xint) (xbi (biMax rfl) B.max DL.boot_max (a1 (xv 6) a0)))))))))))))))))

end Pr

namespace Pr
/-! rounds of pushes: mathematics -/
abbrev Rule := Nat × Nat × Int
def Sol (rs : List Rule) (v : Nat → Int) : Prop := ∀ r ∈ rs, v r.1 + r.2.2 ≤ v r.2.1
def InR (n : Nat) (rs : List Rule) : Prop := ∀ r ∈ rs, r.1 < n ∧ r.2.1 < n
structure Rnd (n : Nat) (rs : List Rule) (p q : Nat → Int) : Prop where
  up : ∀ i, i < n → p i ≤ q i
  hit : ∀ r ∈ rs, p r.1 + r.2.2 ≤ q r.2.1
  low : ∀ P, Sol rs P → (∀ i, i < n → p i ≤ P i) → ∀ i, i < n → q i ≤ P i
def sm (v : Nat → Int) : Nat → Int
  | 0 => 0
  | n + 1 => sm v n + v n
theorem sm_le {v w : Nat → Int} : ∀ {n : Nat}, (∀ i, i < n → v i ≤ w i) → sm v n ≤ sm w n
  | 0, _ => Int.le_refl _
  | n + 1, h => by
    have := sm_le (n := n) fun i hi => h i (by omega)
    have := h n (by omega)
    show sm v n + v n ≤ sm w n + w n
    omega
theorem sm_lt {v w : Nat → Int} : ∀ {n : Nat}, (∀ i, i < n → v i ≤ w i) → (∃ i, i < n ∧ v i < w i) → sm v n < sm w n
  | 0, _, ⟨i, hi, _⟩ => absurd hi (Nat.not_lt_zero _)
  | n + 1, h, ⟨i, hi, hl⟩ => by
    have h0 := h n (by omega)
    have h1 := sm_le (n := n) fun i hi => h i (by omega)
    show sm v n + v n < sm w n + w n
    by_cases e : i = n
    · subst e; omega
    · have := sm_lt (n := n) (fun i hi => h i (by omega)) ⟨i, by omega, hl⟩
      omega
theorem sm_nn {v : Nat → Int} : ∀ {n : Nat}, (∀ i, i < n → 0 ≤ v i) → 0 ≤ sm v n
  | 0, _ => Int.le_refl _
  | n + 1, h => by
    have := sm_nn (n := n) fun i hi => h i (by omega)
    have := h n (by omega)
    show 0 ≤ sm v n + v n
    omega
/-- a solution of least sum -/
structure Tight (n : Nat) (rs : List Rule) (L : Nat → Int) : Prop where
  sol : Sol rs L
  nn : ∀ i, i < n → 0 ≤ L i
  min : ∀ M, Sol rs M → (∀ i, i < n → 0 ≤ M i) → sm L n ≤ sm M n
theorem tight_ex {n : Nat} {rs : List Rule} : ∀ (k : Nat) (P : Nat → Int), Sol rs P → (∀ i, i < n → 0 ≤ P i) → (sm P n).toNat ≤ k → ∃ L, Tight n rs L
  | 0, P, h, h0, hk => ⟨P, h, h0, fun M _ hM => by
      have := sm_nn hM
      omega⟩
  | k + 1, P, h, h0, hk => by
    by_cases c : ∃ M, Sol rs M ∧ (∀ i, i < n → 0 ≤ M i) ∧ sm M n < sm P n
    · obtain ⟨M, m1, m2, m3⟩ := c
      have := sm_nn m2
      exact tight_ex k M m1 m2 (by omega)
    · refine ⟨P, h, h0, fun M m1 m2 => ?_⟩
      by_cases z : sm P n ≤ sm M n
      · exact z
      · exact absurd ⟨M, m1, m2, by omega⟩ c
def cA (L v : Nat → Int) : Nat → Nat
  | 0 => 0
  | n + 1 => cA L v n + if v n = L n then 1 else 0
theorem cA_le (L v : Nat → Int) : ∀ n, cA L v n ≤ n
  | 0 => Nat.le_refl _
  | n + 1 => by
    have := cA_le L v n
    show cA L v n + (if v n = L n then 1 else 0) ≤ n + 1
    split <;> omega
theorem cA_all {L v : Nat → Int} : ∀ {n : Nat}, n ≤ cA L v n → ∀ i, i < n → v i = L i
  | 0, _, i, hi => absurd hi (Nat.not_lt_zero _)
  | n + 1, h, i, hi => by
    have h : n + 1 ≤ cA L v n + (if v n = L n then 1 else 0) := h
    have := cA_le L v n
    by_cases c : v n = L n
    · rw [if_pos c] at h
      by_cases e : i = n
      · subst e; exact c
      · exact cA_all (n := n) (by omega) i (by omega)
    · rw [if_neg c] at h
      omega
theorem cA_mono {L v w : Nat → Int} : ∀ {n : Nat}, (∀ i, i < n → v i = L i → w i = L i) → cA L v n ≤ cA L w n
  | 0, _ => Nat.le_refl _
  | n + 1, h => by
    have := cA_mono (n := n) fun i hi => h i (by omega)
    have := h n (by omega)
    show cA L v n + (if v n = L n then 1 else 0) ≤ cA L w n + (if w n = L n then 1 else 0)
    by_cases c : v n = L n
    · rw [if_pos c, if_pos (h n (by omega) c)]; omega
    · rw [if_neg c]; omega
theorem cA_lt {L v w : Nat → Int} : ∀ {n : Nat}, (∀ i, i < n → v i = L i → w i = L i) → (∃ i, i < n ∧ v i ≠ L i ∧ w i = L i) → cA L v n < cA L w n
  | 0, _, ⟨i, hi, _⟩ => absurd hi (Nat.not_lt_zero _)
  | n + 1, h, ⟨i, hi, h1, h2⟩ => by
    have hm := cA_mono (n := n) fun i hi => h i (by omega)
    show cA L v n + (if v n = L n then 1 else 0) < cA L w n + (if w n = L n then 1 else 0)
    by_cases e : i = n
    · subst e
      rw [if_neg h1, if_pos h2]; omega
    · have := cA_lt (n := n) (fun i hi => h i (by omega)) ⟨i, by omega, h1, h2⟩
      by_cases c : v n = L n
      · rw [if_pos c, if_pos (h n (by omega) c)]; omega
      · rw [if_neg c]; omega
section
variable {n : Nat} {rs : List Rule} {L : Nat → Int}
/-- the solution, one less where v is not there yet -/
theorem lower (T : Tight n rs L) {v : Nat → Int} (A : Nat → Prop) (hA : ∃ i, i < n ∧ ¬ A i) (hpos : ∀ i, i < n → ¬ A i → 0 < L i) (hhit : ∀ r ∈ rs, A r.1 → ¬ A r.2.1 → L r.1 + r.2.2 < L r.2.1) : False := by
  classical
  let M : Nat → Int := fun i => if A i then L i else L i - 1
  have m1 : Sol rs M := fun r hr => by
    have := T.sol r hr
    show (if A r.1 then L r.1 else L r.1 - 1) + r.2.2 ≤ (if A r.2.1 then L r.2.1 else L r.2.1 - 1)
    by_cases c1 : A r.1
    · by_cases c2 : A r.2.1
      · rw [if_pos c1, if_pos c2]; exact this
      · have := hhit r hr c1 c2
        rw [if_pos c1, if_neg c2]; omega
    · rw [if_neg c1]
      split <;> omega
  have m2 : ∀ i, i < n → 0 ≤ M i := fun i hi => by
    show 0 ≤ (if A i then L i else L i - 1)
    by_cases c : A i
    · rw [if_pos c]; exact T.nn i hi
    · have := hpos i hi c
      rw [if_neg c]; omega
  have m3 := T.min M m1 m2
  have m4 : sm M n < sm L n := sm_lt (fun i hi => by
    show (if A i then L i else L i - 1) ≤ L i
    split <;> omega) (by
    obtain ⟨i, hi, c⟩ := hA
    refine ⟨i, hi, ?_⟩
    show (if A i then L i else L i - 1) < L i
    rw [if_neg c]; omega)
  omega
theorem grow (T : Tight n rs L) {v w : Nat → Int} (R : Rnd n rs v w) (hn : InR n rs) (h0 : ∀ i, i < n → 0 ≤ v i) (hl : ∀ i, i < n → v i ≤ L i) : n ≤ cA L v n ∨ cA L v n < cA L w n := by
  have hw := R.low L T.sol hl
  by_cases c : ∃ i, i < n ∧ v i ≠ L i
  · refine .inr (cA_lt (fun i hi e => ?_) ?_)
    · have := R.up i hi
      have := hw i hi
      omega
    · by_cases d : ∃ i, i < n ∧ v i ≠ L i ∧ w i = L i
      · exact d
      · exfalso
        refine lower T (v := v) (fun i => i < n → v i = L i) ?_ (fun i hi z => ?_) fun r hr a b => ?_
        · obtain ⟨i, hi, z⟩ := c
          exact ⟨i, hi, fun y => z (y hi)⟩
        · have := h0 i hi
          have := hl i hi
          have : v i ≠ L i := fun e => z fun _ => e
          omega
        · obtain ⟨i1, i2⟩ := hn r hr
          have e1 := a i1
          have e2 : v r.2.1 ≠ L r.2.1 := fun e => b fun _ => e
          have := R.hit r hr
          have := hw r.2.1 i2
          have : w r.2.1 ≠ L r.2.1 := fun e => d ⟨r.2.1, i2, e2, e⟩
          omega
  · left
    have : ∀ m, m ≤ n → m ≤ cA L v m := fun m => by
      induction m with
      | zero => intro _; exact Nat.le_refl _
      | succ m ih =>
        intro hm
        have := ih (by omega)
        have e : v m = L m := Classical.not_not.mp fun z => c ⟨m, by omega, z⟩
        show m + 1 ≤ cA L v m + (if v m = L m then 1 else 0)
        rw [if_pos e]; omega
    exact this n (Nat.le_refl _)
/-- the rounds from 0 on are there before the n-th -/
theorem there (T : Tight n rs L) (hn : InR n rs) (h1 : 1 ≤ n) {v : Nat → Nat → Int} (hz : ∀ i, i < n → v 0 i = 0) (hR : ∀ k, Rnd n rs (v k) (v (k + 1))) : ∀ k, (∀ i, i < n → 0 ≤ v k i ∧ v k i ≤ L i) ∧ (n ≤ cA L (v k) n ∨ k + 1 ≤ cA L (v k) n)
  | 0 => by
    refine ⟨fun i hi => by rw [hz i hi]; exact ⟨Int.le_refl _, T.nn i hi⟩, .inr ?_⟩
    by_cases c : ∃ i, i < n ∧ L i = 0
    · obtain ⟨i, hi, e⟩ := c
      have : ∀ m, i < m → 1 ≤ cA L (fun _ => 0) m := fun m => by
        induction m with
        | zero => intro h; omega
        | succ m ih =>
          intro h
          show 1 ≤ cA L (fun _ => 0) m + (if 0 = L m then 1 else 0)
          by_cases e2 : i = m
          · subst e2; rw [if_pos e.symm]; omega
          · have := ih (by omega); omega
      have := this n hi
      have e3 : cA L (v 0) n = cA L (fun _ => 0) n := by
        have : ∀ m, m ≤ n → cA L (v 0) m = cA L (fun _ => 0) m := fun m => by
          induction m with
          | zero => intro _; rfl
          | succ m ih =>
            intro hm
            show cA L (v 0) m + (if v 0 m = L m then 1 else 0) = cA L (fun _ => 0) m + (if 0 = L m then 1 else 0)
            rw [ih (by omega), hz m (by omega)]
        exact this n (Nat.le_refl _)
      rw [e3]; exact this
    · exfalso
      refine lower T (v := v 0) (fun _ => False) ⟨0, by omega, id⟩ (fun i hi _ => ?_) fun r hr a _ => a.elim
      have := T.nn i hi
      have : L i ≠ 0 := fun e => c ⟨i, hi, e⟩
      omega
  | k + 1 => by
    obtain ⟨h2, h3⟩ := there T hn h1 hz hR k
    have hu := (hR k).up
    have hlo := (hR k).low L T.sol fun i hi => (h2 i hi).2
    refine ⟨fun i hi => ⟨Int.le_trans (h2 i hi).1 (hu i hi), hlo i hi⟩, ?_⟩
    have g := grow T (hR k) hn (fun i hi => (h2 i hi).1) fun i hi => (h2 i hi).2
    have mono : cA L (v k) n ≤ cA L (v (k + 1)) n := cA_mono fun i hi e => by
      have := hu i hi
      have := hlo i hi
      omega
    omega
end
/-- the least solution of at least 0 -/
structure Lst (n : Nat) (rs : List Rule) (v : Nat → Int) : Prop where
  sol : Sol rs v
  nn : ∀ i, i < n → 0 ≤ v i
  low : ∀ P, Sol rs P → (∀ i, i < n → 0 ≤ P i) → ∀ i, i < n → v i ≤ P i
theorem Lst.uniq {n : Nat} {rs : List Rule} {v w : Nat → Int} (V : Lst n rs v) (W : Lst n rs w) : ∀ i, i < n → v i = w i := fun i hi => by
  have := V.low w W.sol W.nn i hi
  have := W.low v V.sol V.nn i hi
  omega
theorem below {n : Nat} {rs : List Rule} {v : Nat → Nat → Int} (hz : ∀ i, i < n → v 0 i = 0) (hR : ∀ k, Rnd n rs (v k) (v (k + 1))) {P : Nat → Int} (hP : Sol rs P) (h0 : ∀ i, i < n → 0 ≤ P i) : ∀ k, ∀ i, i < n → v k i ≤ P i
  | 0, i, hi => by rw [hz i hi]; exact h0 i hi
  | k + 1, i, hi => (hR k).low P hP (fun i hi => below hz hR hP h0 k i hi) i hi
theorem above {n : Nat} {rs : List Rule} {v : Nat → Nat → Int} (hz : ∀ i, i < n → v 0 i = 0) (hR : ∀ k, Rnd n rs (v k) (v (k + 1))) : ∀ k, ∀ i, i < n → 0 ≤ v k i
  | 0, i, hi => by rw [hz i hi]; exact Int.le_refl _
  | k + 1, i, hi => Int.le_trans (above hz hR k i hi) ((hR k).up i hi)
/-- a round that changes nothing ends at the least solution -/
theorem still {n : Nat} {rs : List Rule} (hn : InR n rs) {v : Nat → Nat → Int} (hz : ∀ i, i < n → v 0 i = 0) (hR : ∀ k, Rnd n rs (v k) (v (k + 1))) {k : Nat} (hs : ∀ i, i < n → v (k + 1) i = v k i) : Lst n rs (v k) :=
  ⟨fun r hr => by
    have h := (hR k).hit r hr
    rw [hs _ (hn r hr).2] at h
    exact h, above hz hR k, fun P hP h0 => below hz hR hP h0 k⟩
/-- the rounds come to rest if there is a solution -/
theorem rest {n : Nat} {rs : List Rule} (hn : InR n rs) (h1 : 1 ≤ n) {v : Nat → Nat → Int} (hz : ∀ i, i < n → v 0 i = 0) (hR : ∀ k, Rnd n rs (v k) (v (k + 1))) {P : Nat → Int} (hP : Sol rs P) (h0 : ∀ i, i < n → 0 ≤ P i) {k : Nat} (hk : n ≤ k + 1) : ∀ i, i < n → v (k + 1) i = v k i := by
  obtain ⟨L, T⟩ := tight_ex _ P hP h0 (Nat.le_refl _)
  have e : ∀ j, n ≤ j + 1 → ∀ i, i < n → v j i = L i := fun j hj => by
    obtain ⟨_, h⟩ := there T hn h1 hz hR j
    exact cA_all (by omega)
  intro i hi
  rw [e k hk i hi, e (k + 1) (by omega) i hi]
theorem Lst.congr {n : Nat} {rs : List Rule} (hn : InR n rs) {v w : Nat → Int} (V : Lst n rs v) (h : ∀ i, i < n → v i = w i) : Lst n rs w :=
  ⟨fun r hr => by rw [← h _ (hn r hr).1, ← h _ (hn r hr).2]; exact V.sol r hr, fun i hi => by rw [← h i hi]; exact V.nn i hi, fun P hP h0 i hi => by rw [← h i hi]; exact V.low P hP h0 i hi⟩
end Pr

/-! rounds: the law's and the program's -/
namespace Pr
open PySem L2 DL
/-! the law's round, in place -/
def gup (v : Nat → Int) (r : Rule) : Nat → Int := fun i => if i = r.2.1 then (if v r.1 + r.2.2 > v i then v r.1 + r.2.2 else v i) else v i
def gs (v : Nat → Int) (rs : List Rule) : Nat → Int := rs.foldl gup v
theorem gup_up (v : Nat → Int) (r : Rule) (i : Nat) : v i ≤ gup v r i := by
  unfold gup
  split
  · split <;> omega
  · omega
theorem gup_hit (v : Nat → Int) (r : Rule) : v r.1 + r.2.2 ≤ gup v r r.2.1 := by
  unfold gup
  rw [if_pos rfl]
  split <;> omega
theorem gs_up : ∀ (rs : List Rule) (v : Nat → Int) (i : Nat), v i ≤ gs v rs i
  | [], v, i => Int.le_refl _
  | r :: rs, v, i => Int.le_trans (gup_up v r i) (gs_up rs (gup v r) i)
theorem gs_hit : ∀ (rs : List Rule) (v : Nat → Int), ∀ r ∈ rs, v r.1 + r.2.2 ≤ gs v rs r.2.1
  | [], v, r, h => by cases h
  | s :: rs, v, r, h => by
    show _ ≤ gs (gup v s) rs r.2.1
    rcases List.mem_cons.mp h with rfl | h
    · exact Int.le_trans (gup_hit v r) (gs_up rs _ _)
    · have := gs_hit rs (gup v s) r h
      have := gup_up v s r.1
      omega
theorem gs_low {n : Nat} {rs0 : List Rule} (hn : InR n rs0) {P : Nat → Int} (hP : Sol rs0 P) : ∀ (rs : List Rule) (v : Nat → Int), (∀ r ∈ rs, r ∈ rs0) → (∀ i, i < n → v i ≤ P i) → ∀ i, i < n → gs v rs i ≤ P i
  | [], v, _, h, i, hi => h i hi
  | r :: rs, v, hs, h, i, hi => by
    refine gs_low hn hP rs (gup v r) (fun x hx => hs x (List.mem_cons_of_mem _ hx)) (fun j hj => ?_) i hi
    have hr := hs r List.mem_cons_self
    obtain ⟨h1, h2⟩ := hn r hr
    have := hP r hr
    have := h r.1 h1
    unfold gup
    split
    · rename_i e
      subst e
      split
      · omega
      · exact h _ hj
    · exact h j hj
theorem gs_rnd {n : Nat} {rs : List Rule} (hn : InR n rs) (v : Nat → Int) : Rnd n rs v (gs v rs) :=
  ⟨fun i _ => gs_up rs v i, gs_hit rs v, fun P hP h => gs_low hn hP rs v (fun _ h => h) h⟩
/-! the program's round, from the old places, with the rules' indexes -/
abbrev PS := Nat → Int × List Nat
def jup (p : PS) (k : Nat) (r : Rule) (f : PS) : PS := fun i => if i = r.2.1 ∧ (p r.1).1 + r.2.2 > (f r.2.1).1 then ((p r.1).1 + r.2.2, (p r.1).2 ++ [k]) else f i
def jrun (p : PS) : Nat → List Rule → PS → PS
  | _, [], f => f
  | k, r :: rs, f => jrun p (k + 1) rs (jup p k r f)
theorem jup_up (p : PS) (k : Nat) (r : Rule) (f : PS) (i : Nat) : jup p k r f i = f i ∨ (f i).1 < (jup p k r f i).1 := by
  unfold jup
  by_cases c : i = r.2.1 ∧ (p r.1).1 + r.2.2 > (f r.2.1).1
  · right
    rw [if_pos c]
    rw [c.1]; exact c.2
  · exact .inl (if_neg c)
theorem jup_hit (p : PS) (k : Nat) (r : Rule) (f : PS) : (p r.1).1 + r.2.2 ≤ (jup p k r f r.2.1).1 := by
  unfold jup
  by_cases c : r.2.1 = r.2.1 ∧ (p r.1).1 + r.2.2 > (f r.2.1).1
  · rw [if_pos c]; exact Int.le_refl _
  · rw [if_neg c]
    have : ¬ (p r.1).1 + r.2.2 > (f r.2.1).1 := fun z => c ⟨rfl, z⟩
    omega
theorem jrun_up (p : PS) : ∀ (rs : List Rule) (k : Nat) (f : PS) (i : Nat), jrun p k rs f i = f i ∨ (f i).1 < (jrun p k rs f i).1
  | [], k, f, i => .inl rfl
  | r :: rs, k, f, i => by
    have h1 := jup_up p k r f i
    have h2 := jrun_up p rs (k + 1) (jup p k r f) i
    show jrun p (k + 1) rs (jup p k r f) i = f i ∨ (f i).1 < (jrun p (k + 1) rs (jup p k r f) i).1
    rcases h1 with h1 | h1
    · rw [h1] at h2; exact h2
    · rcases h2 with h2 | h2
      · rw [h2]; exact .inr h1
      · right; omega
theorem jrun_le (p : PS) (rs : List Rule) (k : Nat) (f : PS) (i : Nat) : (f i).1 ≤ (jrun p k rs f i).1 := by
  rcases jrun_up p rs k f i with h | h
  · rw [h]; exact Int.le_refl _
  · omega
theorem jrun_hit (p : PS) : ∀ (rs : List Rule) (k : Nat) (f : PS), ∀ r ∈ rs, (p r.1).1 + r.2.2 ≤ (jrun p k rs f r.2.1).1
  | [], _, _, r, h => by cases h
  | s :: rs, k, f, r, h => by
    show _ ≤ (jrun p (k + 1) rs (jup p k s f) r.2.1).1
    rcases List.mem_cons.mp h with rfl | h
    · exact Int.le_trans (jup_hit p k r f) (jrun_le p rs _ _ _)
    · exact jrun_hit p rs (k + 1) _ r h
/-- what holds of all pushes that a round makes -/
theorem jrun_inv {p : PS} {Q : Nat → Int × List Nat → Prop} {rs0 : List Rule} (hr : ∀ r ∈ rs0, ∀ k, Q r.2.1 ((p r.1).1 + r.2.2, (p r.1).2 ++ [k])) : ∀ (rs : List Rule) (k : Nat) (f : PS), (∀ r ∈ rs, r ∈ rs0) → (∀ i, Q i (f i)) → ∀ i, Q i (jrun p k rs f i)
  | [], _, f, _, h, i => h i
  | r :: rs, k, f, hs, h, i => by
    refine jrun_inv hr rs (k + 1) (jup p k r f) (fun x hx => hs x (List.mem_cons_of_mem _ hx)) (fun j => ?_) i
    unfold jup
    by_cases c : j = r.2.1 ∧ (p r.1).1 + r.2.2 > (f r.2.1).1
    · rw [if_pos c, c.1]; exact hr r (hs r List.mem_cons_self) k
    · rw [if_neg c]; exact h j
theorem jrun_rnd {n : Nat} {rs : List Rule} (hn : InR n rs) (p : PS) : Rnd n rs (fun i => (p i).1) fun i => (jrun p 0 rs p i).1 :=
  ⟨fun i _ => jrun_le p rs 0 p i, jrun_hit p rs 0 p, fun P hP h i hi => by
    have := jrun_inv (p := p) (Q := fun i x => i < n → x.1 ≤ P i) (rs0 := rs) (fun r hr k _ => by
      have := hP r hr
      have := h r.1 (hn r hr).1
      show (p r.1).1 + r.2.2 ≤ P r.2.1
      have h : (p r.1).1 ≤ P r.1 := this
      omega) rs 0 p (fun _ h => h) (fun i hi => h i hi) i hi
    exact this⟩
def W (rs : List Rule) : Nat → PS
  | 0 => fun _ => (0, [])
  | k + 1 => jrun (W rs k) 0 rs (W rs k)
def V (rs : List Rule) : Nat → Nat → Int
  | 0 => fun _ => 0
  | k + 1 => gs (V rs k) rs
theorem W_len (rs : List Rule) : ∀ (k : Nat) (i : Nat), ((W rs k i).2).length ≤ k
  | 0, i => Nat.le_refl _
  | k + 1, i => jrun_inv (p := W rs k) (Q := fun _ x => x.2.length ≤ k + 1) (rs0 := rs) (fun r _ j => by
      have := W_len rs k r.1
      simp; omega) rs 0 (W rs k) (fun _ h => h) (fun j => by have := W_len rs k j; omega) i
theorem W_big {rs : List Rule} {g : Int} (hg : ∀ r ∈ rs, r.2.2 ≤ g) (h0 : 0 ≤ g) : ∀ (k : Nat) (i : Nat), (W rs k i).1 ≤ g * (k : Int)
  | 0, i => by show (0 : Int) ≤ g * ((0 : Nat) : Int); simp
  | k + 1, i => jrun_inv (p := W rs k) (Q := fun _ x => x.1 ≤ g * ((k + 1 : Nat) : Int)) (rs0 := rs) (fun r hr j => by
      have := W_big hg h0 k r.1
      have := hg r hr
      show (W rs k r.1).1 + r.2.2 ≤ g * ((k + 1 : Nat) : Int)
      rw [Int.natCast_add, Int.mul_add]
      simp
      omega) rs 0 (W rs k) (fun _ h => h) (fun j => by
      have := W_big hg h0 k j
      rw [Int.natCast_add, Int.mul_add]
      simp
      omega) i
/-- the program's places are the least ones if there are any -/
theorem W_lst {n : Nat} {rs : List Rule} (hn : InR n rs) (h1 : 1 ≤ n) {P : Nat → Int} (hP : Sol rs P) (h0 : ∀ i, i < n → 0 ≤ P i) : Lst n rs (fun i => (W rs (n - 1) i).1) ∧ ∀ i, i < n → W rs (n - 1 + 1) i = W rs (n - 1) i := by
  have hR : ∀ k, Rnd n rs (fun i => (W rs k i).1) (fun i => (W rs (k + 1) i).1) := fun k => jrun_rnd hn (W rs k)
  have hz : ∀ i, i < n → (W rs 0 i).1 = 0 := fun _ _ => rfl
  have hs := rest (v := fun k i => (W rs k i).1) hn h1 hz hR hP h0 (k := n - 1) (by omega)
  refine ⟨still (v := fun k i => (W rs k i).1) hn hz hR hs, fun i hi => ?_⟩
  rcases jrun_up (W rs (n - 1)) rs 0 (W rs (n - 1)) i with e | e
  · exact e
  · have h2 : (W rs (n - 1 + 1) i).1 = (W rs (n - 1) i).1 := hs i hi
    have h3 : (W rs (n - 1) i).1 < (W rs (n - 1 + 1) i).1 := e
    omega
theorem V_still {n : Nat} {rs : List Rule} (hn : InR n rs) {k : Nat} (hs : ∀ i, i < n → V rs (k + 1) i = V rs k i) : Lst n rs (V rs k) :=
  still (v := V rs) hn (fun _ _ => rfl) (fun k => gs_rnd hn (V rs k)) hs
theorem V_rest {n : Nat} {rs : List Rule} (hn : InR n rs) (h1 : 1 ≤ n) {P : Nat → Int} (hP : Sol rs P) (h0 : ∀ i, i < n → 0 ≤ P i) : ∀ i, i < n → V rs (n + 1) i = V rs n i :=
  rest (v := V rs) hn h1 (fun _ _ => rfl) (fun k => gs_rnd hn (V rs k)) hP h0 (by omega)
/-! data -/
def ruD (r : Rule) : D := .tup [nI r.1, nI r.2.1, .int r.2.2]
def vD (n : Nat) (v : Nat → Int) : List D := (List.range n).map fun i => .int (v i)
def puD (x : Int × List Nat) : D := .tup [.int x.1, .tup (x.2.map nI)]
def psD (n : Nat) (s : PS) : List D := (List.range n).map fun i => puD (s i)
theorem atI_nat' {ds : List D} {j : Nat} {d : D} (h : ds[j]? = some d) : atI ds (j : Int) = some d := by
  obtain ⟨h1, _⟩ := List.getElem?_eq_some_iff.mp h
  unfold L2.atI ixN
  rw [if_pos (by omega), if_pos (by omega)]
  simpa using h
theorem ixN_nat {n j : Nat} (h : j < n) : ixN n (j : Int) = some j := by
  unfold ixN
  rw [if_pos (by omega), if_pos (by omega)]
  simp
theorem rmap_at {f : Nat → D} {n j : Nat} (h : j < n) : atI ((List.range n).map f) (j : Int) = some (f j) := atI_nat' (by simp [h])
theorem rmap_set {f : Nat → D} {n j : Nat} {d : D} : ((List.range n).map f).set j d = (List.range n).map fun i => if i = j then d else f i := by
  apply List.ext_getElem?
  intro i
  rw [List.getElem?_set]
  by_cases h : j = i
  · subst h
    by_cases hl : j < n
    · simp [hl]
    · simp [hl]
  · rw [if_neg h]
    by_cases hl : i < n
    · simp [hl, Ne.symm h]
    · simp [hl]
theorem rmap_congr {f g : Nat → D} {n : Nat} (h : ∀ i, i < n → f i = g i) : (List.range n).map f = (List.range n).map g := List.map_congr_left fun i hi => h i (List.mem_range.mp hi)
theorem alikes {k : Nat} : ∀ ds : List D, (∀ d ∈ ds, d.py.canLay0 = true ∧ d.py.depth ≤ k) → PyData.canLayAll0 (D.pys ds) = true ∧ PyData.depthAll (D.pys ds) ≤ k
  | [], _ => ⟨rfl, Nat.zero_le _⟩
  | d :: ds, h => by
    obtain ⟨i1, i2⟩ := alikes ds fun x hx => h x (List.mem_cons_of_mem _ hx)
    obtain ⟨a1, a2⟩ := h d List.mem_cons_self
    refine ⟨?_, ?_⟩
    · show (d.py.canLay0 && PyData.canLayAll0 (D.pys ds)) = true
      rw [a1, i1]; rfl
    · show max d.py.depth (PyData.depthAll (D.pys ds)) ≤ k
      omega
theorem okd_lst {k : Nat} {ds : List D} (h : ∀ d ∈ ds, d.py.canLay0 = true ∧ d.py.depth ≤ k) (hk : k ≤ 60) : (D.lst ds).okd = true := by
  obtain ⟨i1, i2⟩ := alikes ds h
  show (PyData.canLayAll0 (D.pys ds) && decide (PyData.depthAll (D.pys ds) + 1 ≤ 64)) = true
  rw [i1, decide_eq_true (by omega)]; rfl
theorem okd_tup {k : Nat} {ds : List D} (h : ∀ d ∈ ds, d.py.canLay0 = true ∧ d.py.depth ≤ k) (hk : k ≤ 60) : (D.tup ds).okd = true := by
  obtain ⟨i1, i2⟩ := alikes ds h
  show (PyData.canLayAll0 (D.pys ds) && decide (PyData.depthAll (D.pys ds) + 1 ≤ 64)) = true
  rw [i1, decide_eq_true (by omega)]; rfl
theorem lay_int (i : Int) : (D.int i).py.canLay0 = true ∧ (D.int i).py.depth ≤ 0 := ⟨rfl, Nat.le_refl _⟩
theorem lay_tup {k : Nat} {ds : List D} (h : ∀ d ∈ ds, d.py.canLay0 = true ∧ d.py.depth ≤ k) : (D.tup ds).py.canLay0 = true ∧ (D.tup ds).py.depth ≤ k + 1 := by
  obtain ⟨i1, i2⟩ := alikes ds h
  exact ⟨i1, by show PyData.depthAll (D.pys ds) + 1 ≤ k + 1; omega⟩
theorem lay_pu (x : Int × List Nat) : (puD x).py.canLay0 = true ∧ (puD x).py.depth ≤ 2 := by
  refine lay_tup (k := 1) fun d hd => ?_
  rcases List.mem_cons.mp hd with rfl | hd
  · exact ⟨rfl, Nat.zero_le _⟩
  · obtain rfl : d = .tup (x.2.map nI) := by simpa using hd
    exact lay_tup (k := 0) fun d hd => by
      obtain ⟨i, _, rfl⟩ := List.mem_map.mp hd
      exact lay_int _
theorem okd_vD (n : Nat) (v : Nat → Int) : (D.lst (vD n v)).okd = true := okd_lst (k := 0) (fun d hd => by
  obtain ⟨i, _, rfl⟩ := List.mem_map.mp hd
  exact lay_int _) (by decide)
theorem okd_psD (n : Nat) (s : PS) : (D.lst (psD n s)).okd = true := okd_lst (k := 2) (fun d hd => by
  obtain ⟨i, _, rfl⟩ := List.mem_map.mp hd
  exact lay_pu _) (by decide)
theorem deq_rmap {f g : Nat → D} : ∀ l : List Nat, (List.zipWith deq (l.map f) (l.map g)).all id = l.all fun i => deq (f i) (g i)
  | [] => rfl
  | x :: l => by simp [deq_rmap l]
theorem deq_rng (f g : Nat → D) (n : Nat) : deq (.lst ((List.range n).map f)) (.lst ((List.range n).map g)) = (List.range n).all fun i => deq (f i) (g i) := by
  rw [deq_ll, deq_rmap]
  simp
theorem gEq_vD (n : Nat) (v w : Nat → Int) : gEq (.lst (vD n v)) (.lst (vD n w)) = some ((List.range n).all fun i => v i == w i) := by
  show (if _ then some (deq _ _) else none) = _
  rw [if_pos ⟨okd_vD n v, okd_vD n w⟩]
  exact congrArg some (deq_rng _ _ n)
theorem deq_nIs : ∀ l : List Nat, (List.zipWith deq (l.map nI) (l.map nI)).all id = true
  | [] => rfl
  | x :: l => by
    have : deq (nI x) (nI x) = true := by show ((x : Int) == (x : Int)) = true; simp
    show (deq (nI x) (nI x) && (List.zipWith deq (l.map nI) (l.map nI)).all id) = true
    rw [this, deq_nIs l]; rfl
theorem deq_pu (x : Int × List Nat) : deq (puD x) (puD x) = true := by
  unfold puD
  rw [deq_tt]
  have h1 : deq (.tup (x.2.map nI)) (.tup (x.2.map nI)) = true := by rw [deq_tt, deq_nIs]; simp
  have h2 : deq (.int x.1) (.int x.1) = true := by show (x.1 == x.1) = true; simp
  simp [h1]
theorem gNe_ps {n : Nat} {s t : PS} (h : ∀ i, i < n → s i = t i) : gNe (.lst (psD n s)) (.lst (psD n t)) = some false := by
  have e : psD n s = psD n t := rmap_congr fun i hi => by rw [h i hi]
  rw [e]
  show (if _ then some (!deq _ _) else none) = _
  rw [if_pos ⟨okd_psD n t, okd_psD n t⟩, show deq (.lst (psD n t)) (.lst (psD n t)) = true by
    refine (deq_rng (fun i => puD (t i)) (fun i => puD (t i)) n).trans ?_
    rw [List.all_eq_true]
    exact fun i _ => deq_pu _]
  rfl
end Pr

/-! circuits: sums of delays along bare wires; the order of the gates -/
namespace Pr
open PySem L2 DL
theorem vD_ix {n : Nat} {v : Nat → Int} {j : Nat} (h : j < n) : atI (vD n v) (j : Int) = some (.int (v j)) := rmap_at h
theorem vD_len (n : Nat) (v : Nat → Int) : (vD n v).length = n := by unfold vD; rw [List.length_map, List.length_range]
theorem all_rng {n : Nat} {f : Nat → Bool} : ((List.range n).all f = true) ↔ ∀ i, i < n → f i = true := by simp
theorem is_integer_int (i : Int) : d_is_integer [.v (.int i)] [] = .ok (.bl true) [] := rfl
theorem is_between_int (i lo hi : Int) : d_is_between [.v (.int i), .v (.int lo), .v (.int hi)] [] = .ok (.bl (decide (lo ≤ i) && decide (i ≤ hi))) [] := by
  have e := call1 (S := []) (is_integer_int i)
  refine denB_rt (ρ1 := [some (.v (.int i)), some (.v (.int lo)), some (.v (.int hi))]) (S1 := []) ?_
  by_cases h : lo ≤ i <;> simp [b_is_between, e, h]
theorem is_tuple_of_tup (ds : List D) (lo hi : Int) : d_is_tuple_of [.v (.tup ds), .v (.int lo), .v (.int hi)] [] = .ok (.bl (decide (lo ≤ (ds.length : Int)) && decide ((ds.length : Int) ≤ hi))) [] := by
  refine denB_rt (ρ1 := [some (.v (.tup ds)), some (.v (.int lo)), some (.v (.int hi))]) (S1 := []) ?_
  by_cases h : lo ≤ (ds.length : Int) <;> simp [b_is_tuple_of, h]
theorem tru_of {f : DEn} {ρ : DL.Env} {S S1 : Store} {b : Bool} (h : f ρ S = .ok (.bl b) S1) : mTru f ρ S = .ok b S1 := by
  rw [ev_Tru, h]; rfl
theorem bools_true : ∀ n : Nat, bools (List.replicate n (.bl true)) = some (List.replicate n true)
  | 0 => rfl
  | n + 1 => by rw [List.replicate_succ, List.replicate_succ]; show (bools (List.replicate n (.bl true))).map _ = _; rw [bools_true n]; rfl
theorem gAll_true {α : Type} (l : List α) : gAll [.lst (l.map fun _ => D.bl true)] = some (.bl true) := by
  show (bools (l.map fun _ => D.bl true)).map _ = _
  rw [List.map_const', bools_true]
  simp
theorem wrongL_true {F : D → Store → Out D} {S : Store} : ∀ (ds : List D) (k : Nat), (∀ d ∈ ds, F d S = .ok (.bl true) S) → wrongL F ds k S = .ok .non S
  | [], k, _ => rfl
  | d :: ds, k, h => by
    unfold wrongL
    rw [h d List.mem_cons_self]
    dsimp only
    rw [show (D.bl true).tru = some true from rfl]
    exact wrongL_true ds (k + 1) fun x hx => h x (List.mem_cons_of_mem _ hx)

theorem t1 {fa : DEn} {ρ : DL.Env} {S S1 : Store} {x : D} (ha : fa ρ S = .ok x S1) : mTup (mCons fa mNil) ρ S = .ok (.tup [x]) S1 := by
  have h2 : (1 : Nat) ≤ lim := by rw [lim_is]; decide
  have : mCons fa mNil ρ S = .ok [x] S1 := by rw [ev_Cons, ha]; rfl
  unfold mTup
  rw [this, ev_bind_ok, if_pos (show ([x] : List D).length ≤ lim from h2)]

theorem bools_map {α : Type} (f : α → Bool) : ∀ l : List α, bools (l.map fun x => D.bl (f x)) = some (l.map f)
  | [] => rfl
  | x :: l => by
    show (bools (l.map fun x => D.bl (f x))).map _ = _
    rw [bools_map f l]; rfl
theorem gAny_map {α : Type} (f : α → Bool) (l : List α) : gAny [.lst (l.map fun x => D.bl (f x))] = some (.bl (l.any f)) := by
  show (bools (l.map fun x => D.bl (f x))).map _ = _
  rw [bools_map]
  simp
theorem gAll_map {α : Type} (f : α → Bool) (l : List α) : gAll [.lst (l.map fun x => D.bl (f x))] = some (.bl (l.all f)) := by
  show (bools (l.map fun x => D.bl (f x))).map _ = _
  rw [bools_map]
  simp
/-! sums -/
def topO : List Int → Int
  | [] => 0
  | m :: is => maxI m is
def preds (rs : List Rule) (g : Nat) : List Nat := ((rs.filter fun r => r.2.2 == 0).filter fun r => r.2.1 == g).map fun r => r.1
def sf (dl : Nat → Int) (rs : List Rule) : Nat → Nat → Int
  | 0, _ => 0
  | k + 1, g => dl g + topO ((preds rs g).map (sf dl rs k))
/-- sums along bare wires: of no more than eight gates -/
def sv (dl : Nat → Int) (rs : List Rule) (g : Nat) : Int := sf dl rs 9 g
/-- bare wires go upwards -/
def Up (rs : List Rule) : Prop := ∀ r ∈ rs, r.2.2 = 0 → r.1 < r.2.1
/-- bare wires go to a higher level -/
structure Lv (n : Nat) (rs : List Rule) (lv : Nat → Nat) : Prop where
  h8 : n ≤ 8
  inr : InR n rs
  up : ∀ r ∈ rs, r.2.2 = 0 → lv r.1 < lv r.2.1
  top : ∀ i, i < n → lv i < n
theorem cnt_lt {p q : Nat → Bool} : ∀ {l : List Nat}, (∀ x ∈ l, p x = true → q x = true) → (∃ x ∈ l, q x = true ∧ p x = false) → (l.filter p).length < (l.filter q).length
  | [], _, ⟨x, h, _⟩ => by cases h
  | y :: l, hpq, ⟨x, hx, qx, px⟩ => by
    have le : ∀ l : List Nat, (∀ x ∈ l, p x = true → q x = true) → (l.filter p).length ≤ (l.filter q).length := fun l => by
      induction l with
      | nil => intro _; exact Nat.le_refl _
      | cons y l ih =>
        intro h
        have r := ih fun x hx => h x (List.mem_cons_of_mem _ hx)
        have hy := h y List.mem_cons_self
        rw [List.filter_cons, List.filter_cons]
        cases hp : p y with
        | false => rw [if_neg (by decide)]; split <;> simp <;> omega
        | true => rw [if_pos rfl, if_pos (hy hp)]; simp; omega
    have tl : ∀ x ∈ l, p x = true → q x = true := fun x hx => hpq x (List.mem_cons_of_mem _ hx)
    rw [List.filter_cons, List.filter_cons]
    rcases List.mem_cons.mp hx with rfl | hx
    · rw [px, qx, if_neg (by decide), if_pos rfl]
      have := le l tl
      simp
      omega
    · have r := cnt_lt tl ⟨x, hx, qx, px⟩
      have hy := hpq y List.mem_cons_self
      cases hp : p y with
      | false => rw [if_neg (by decide)]; split <;> simp <;> omega
      | true => rw [if_pos rfl, if_pos (hy hp)]; simp; omega
/-- levels from any rank -/
theorem lv_of {n : Nat} {rs : List Rule} (h8 : n ≤ 8) (hn : InR n rs) {rk : Nat → Nat} (h : ∀ r ∈ rs, r.2.2 = 0 → rk r.1 < rk r.2.1) : ∃ lv, Lv n rs lv := by
  refine ⟨fun g => ((List.range n).filter fun i => decide (rk i < rk g)).length, h8, hn, fun r hr h0 => ?_, fun i hi => ?_⟩
  · refine cnt_lt (fun x _ hx => ?_) ⟨r.1, List.mem_range.mpr (hn r hr).1, ?_, ?_⟩
    · have := of_decide_eq_true hx
      have := h r hr h0
      exact decide_eq_true (by omega)
    · exact decide_eq_true (h r hr h0)
    · exact decide_eq_false (by omega)
  · have := cnt_lt (p := fun j => decide (rk j < rk i)) (q := fun _ => true) (l := List.range n) (fun _ _ _ => rfl) ⟨i, List.mem_range.mpr hi, rfl, decide_eq_false (by omega)⟩
    rw [List.filter_eq_self.mpr (fun _ _ => rfl), List.length_range] at this
    exact this
theorem preds_lt {n : Nat} {rs : List Rule} {lv : Nat → Nat} (U : Lv n rs lv) {g p : Nat} (h : p ∈ preds rs g) : lv p < lv g ∧ p < n ∧ g < n := by
  obtain ⟨r, hr, rfl⟩ := List.mem_map.mp h
  obtain ⟨h1, h2⟩ := List.mem_filter.mp hr
  obtain ⟨h3, h4⟩ := List.mem_filter.mp h1
  have e1 : r.2.2 = 0 := by simpa using h4
  have e2 : r.2.1 = g := by simpa using h2
  have := U.up r h3 e1
  have := U.inr r h3
  rw [e2] at *
  exact ⟨by assumption, this.1, this.2⟩
theorem sf_eq {n : Nat} {dl : Nat → Int} {rs : List Rule} {lv : Nat → Nat} (U : Lv n rs lv) : ∀ (k g : Nat), lv g < k → sf dl rs k g = sf dl rs (lv g + 1) g
  | 0, g, h => by omega
  | k + 1, g, h => by
    show dl g + topO ((preds rs g).map (sf dl rs k)) = dl g + topO ((preds rs g).map (sf dl rs (lv g)))
    have : (preds rs g).map (sf dl rs k) = (preds rs g).map (sf dl rs (lv g)) := List.map_congr_left fun p hp => by
      have := (preds_lt U hp).1
      rw [sf_eq U k p (by omega)]
      exact (sf_eq U (lv g) p this).symm
    rw [this]
  termination_by k => k
  decreasing_by all_goals omega
theorem sv_is {n : Nat} {dl : Nat → Int} {rs : List Rule} {lv : Nat → Nat} (U : Lv n rs lv) (g : Nat) : sv dl rs g = dl g + topO ((preds rs g).map (sv dl rs)) := by
  show dl g + topO ((preds rs g).map (sf dl rs 8)) = _
  have : (preds rs g).map (sf dl rs 8) = (preds rs g).map (sv dl rs) := List.map_congr_left fun p hp => by
    obtain ⟨h1, h2, h3⟩ := preds_lt U hp
    have := U.top g h3
    have := U.h8
    unfold sv
    rw [sf_eq U 8 p (by omega), sf_eq U 9 p (by omega)]
  rw [this]
theorem topO_le {l : List Int} {x : Int} (h : x ∈ l) : x ≤ topO l := by
  cases l with
  | nil => cases h
  | cons m l => exact (maxI_is l m).2 x h
theorem topO_lt {l : List Int} {B : Int} (h0 : 0 ≤ B) (h : ∀ x ∈ l, x ≤ B) : topO l ≤ B := by
  cases l with
  | nil => exact h0
  | cons m l => exact h _ (maxI_is l m).1
theorem topO_nn {l : List Int} (h : ∀ x ∈ l, 0 ≤ x) : 0 ≤ topO l := by
  cases l with
  | nil => exact Int.le_refl _
  | cons m l => exact h _ (maxI_is l m).1
theorem sf_nn {dl : Nat → Int} {rs : List Rule} (h : ∀ g, 0 ≤ dl g) : ∀ (k g : Nat), 0 ≤ sf dl rs k g
  | 0, _ => Int.le_refl _
  | k + 1, g => by
    have := h g
    have : 0 ≤ topO ((preds rs g).map (sf dl rs k)) := topO_nn fun x hx => by
      obtain ⟨p, _, rfl⟩ := List.mem_map.mp hx
      exact sf_nn h k p
    show 0 ≤ dl g + topO ((preds rs g).map (sf dl rs k))
    omega
/-! the law's rounds -/
def bareR (dl : Nat → Int) (rs : List Rule) : List Rule := (rs.filter fun r => r.2.2 == 0).map fun r => (r.1, r.2.1, dl r.2.1)
theorem bareR_mem {dl : Nat → Int} {rs : List Rule} {g p : Nat} (h : p ∈ preds rs g) : (p, g, dl g) ∈ bareR dl rs := by
  obtain ⟨r, hr, rfl⟩ := List.mem_map.mp h
  obtain ⟨h1, h2⟩ := List.mem_filter.mp hr
  have e2 : r.2.1 = g := by simpa using h2
  exact List.mem_map.mpr ⟨r, h1, by rw [e2]⟩
theorem mem_bareR {dl : Nat → Int} {rs : List Rule} {r : Rule} (h : r ∈ bareR dl rs) : r.1 ∈ preds rs r.2.1 ∧ r.2.2 = dl r.2.1 := by
  obtain ⟨q, hq, rfl⟩ := List.mem_map.mp h
  exact ⟨List.mem_map.mpr ⟨q, List.mem_filter.mpr ⟨hq, by simp⟩, rfl⟩, rfl⟩
theorem bareR_sol {n : Nat} {lv : Nat → Nat} {dl : Nat → Int} {rs : List Rule} (U : Lv n rs lv) : Sol (bareR dl rs) (sv dl rs) := fun r hr => by
  obtain ⟨h1, h2⟩ := mem_bareR hr
  have := topO_le (List.mem_map.mpr ⟨r.1, h1, rfl⟩ : sv dl rs r.1 ∈ (preds rs r.2.1).map (sv dl rs))
  rw [sv_is U r.2.1, h2]
  omega
def Bst (dl : Nat → Int) (rs : List Rule) : Nat → Nat → Int
  | 0 => dl
  | k + 1 => gs (Bst dl rs k) (bareR dl rs)
theorem bareR_in {dl : Nat → Int} {n : Nat} {rs : List Rule} (h : InR n rs) : InR n (bareR dl rs) := fun r hr => by
  obtain ⟨q, hq, rfl⟩ := List.mem_map.mp hr
  exact h q (List.mem_filter.mp hq).1
theorem dl_le {n : Nat} {lv : Nat → Nat} {dl : Nat → Int} {rs : List Rule} (h0 : ∀ g, 0 ≤ dl g) (U : Lv n rs lv) (g : Nat) : dl g ≤ sv dl rs g := by
  rw [sv_is U g]
  have : 0 ≤ topO ((preds rs g).map (sv dl rs)) := topO_nn fun x hx => by
    obtain ⟨p, _, rfl⟩ := List.mem_map.mp hx
    exact sf_nn h0 _ _
  omega
theorem Bst_le {dl : Nat → Int} {n : Nat} {rs : List Rule} {lv : Nat → Nat} (h0 : ∀ g, 0 ≤ dl g) (U : Lv n rs lv) (hn : InR n rs) : ∀ k, ∀ i, i < n → Bst dl rs k i ≤ sv dl rs i
  | 0, i, _ => dl_le h0 U i
  | k + 1, i, hi => gs_low (bareR_in hn) (bareR_sol U) (bareR dl rs) (Bst dl rs k) (fun _ h => h) (Bst_le h0 U hn k) i hi
theorem Bst_ge {dl : Nat → Int} {n : Nat} {rs : List Rule} {lv : Nat → Nat} (h0 : ∀ g, 0 ≤ dl g) (U : Lv n rs lv) : ∀ k, (∀ i, dl i ≤ Bst dl rs k i) ∧ ∀ i, lv i < k → i < n → sv dl rs i ≤ Bst dl rs k i
  | 0 => ⟨fun i => Int.le_refl _, fun i h => by omega⟩
  | k + 1 => by
    obtain ⟨i1, i2⟩ := Bst_ge h0 U k
    have up : ∀ i, Bst dl rs k i ≤ Bst dl rs (k + 1) i := fun i => gs_up (bareR dl rs) (Bst dl rs k) i
    refine ⟨fun i => Int.le_trans (i1 i) (up i), fun i hi hn' => ?_⟩
    by_cases e : lv i < k
    · exact Int.le_trans (i2 i e hn') (up i)
    · rw [sv_is U i]
      have hB : ∀ p ∈ preds rs i, sv dl rs p + dl i ≤ Bst dl rs (k + 1) i := fun p hp => by
        obtain ⟨hlt, hpn, _⟩ := preds_lt U hp
        have h1 : Bst dl rs k p + dl i ≤ Bst dl rs (k + 1) i := gs_hit (bareR dl rs) (Bst dl rs k) _ (bareR_mem (dl := dl) hp)
        have := i2 p (by omega) hpn
        omega
      have h1 := Int.le_trans (i1 i) (up i)
      have : topO ((preds rs i).map (sv dl rs)) ≤ Bst dl rs (k + 1) i - dl i := topO_lt (by omega) fun x hx => by
        obtain ⟨p, hp, rfl⟩ := List.mem_map.mp hx
        have := hB p hp
        omega
      omega
theorem Bst_is {dl : Nat → Int} {n : Nat} {rs : List Rule} {lv : Nat → Nat} (h0 : ∀ g, 0 ≤ dl g) (U : Lv n rs lv) : ∀ i, i < n → Bst dl rs n i = sv dl rs i := fun i hi => by
  have := Bst_le h0 U U.inr n i hi
  have := (Bst_ge h0 U n).2 i (U.top i hi) hi
  omega
/-! the order of the gates -/
def bare (rs : List Rule) : List (Nat × Nat) := (rs.filter fun r => r.2.2 == 0).map fun r => (r.1, r.2.1)
def free (ps : List (Nat × Nat)) (L : List Nat) : List Nat := L.filter fun g => !(ps.any fun p => p.2 == g && decide (p.1 ∈ L))
theorem bare_preds {rs : List Rule} {g p : Nat} (h : p ∈ preds rs g) : (p, g) ∈ bare rs := by
  obtain ⟨r, hr, rfl⟩ := List.mem_map.mp h
  obtain ⟨h1, h2⟩ := List.mem_filter.mp hr
  have e2 : r.2.1 = g := by simpa using h2
  exact List.mem_map.mpr ⟨r, h1, by rw [e2]⟩
theorem free_pred {rs : List Rule} {L : List Nat} {g p : Nat} (hg : g ∈ free (bare rs) L) (hp : p ∈ preds rs g) : p ∉ L := fun hL => by
  obtain ⟨_, h2⟩ := List.mem_filter.mp hg
  have : ((bare rs).any fun p => p.2 == g && decide (p.1 ∈ L)) = true := by
    rw [List.any_eq_true]
    exact ⟨(p, g), bare_preds hp, by simp [hL]⟩
  rw [this] at h2
  exact absurd h2 (by decide)
/-- the least of those left is free -/
theorem free_some {n : Nat} {lv : Nat → Nat} {rs : List Rule} (U : Lv n rs lv) {L : List Nat} (h : L ≠ []) : free (bare rs) L ≠ [] := by
  have least : ∀ l : List Nat, l ≠ [] → ∃ m ∈ l, ∀ x ∈ l, lv m ≤ lv x := fun l => by
    induction l with
    | nil => intro h; exact absurd rfl h
    | cons a l ih =>
      intro _
      by_cases e : l = []
      · exact ⟨a, List.mem_cons_self, fun x hx => by subst e; simp at hx; rw [hx]; exact Nat.le_refl _⟩
      · obtain ⟨m, m1, m2⟩ := ih e
        by_cases c : lv a ≤ lv m
        · exact ⟨a, List.mem_cons_self, fun x hx => by
            rcases List.mem_cons.mp hx with rfl | hx
            · exact Nat.le_refl _
            · exact Nat.le_trans c (m2 x hx)⟩
        · exact ⟨m, List.mem_cons_of_mem _ m1, fun x hx => by
            rcases List.mem_cons.mp hx with rfl | hx
            · omega
            · exact m2 x hx⟩
  obtain ⟨m, m1, m2⟩ := least L h
  intro z
  have : m ∈ free (bare rs) L := List.mem_filter.mpr ⟨m1, by
    rw [Bool.not_eq_true', Bool.eq_false_iff]
    intro y
    obtain ⟨q, q1, q2⟩ := List.any_eq_true.mp y
    obtain ⟨r, r1, rfl⟩ := List.mem_map.mp q1
    obtain ⟨r2, r3⟩ := List.mem_filter.mp r1
    have q2 : (r.2.1 == m && decide (r.1 ∈ L)) = true := q2
    rw [Bool.and_eq_true] at q2
    have e1 : r.2.1 = m := by simpa using q2.1
    have e2 : r.1 ∈ L := of_decide_eq_true q2.2
    have e3 : r.2.2 = 0 := by simpa using r3
    have := U.up r r2 e3
    rw [e1] at this
    have := m2 _ e2
    omega⟩
  rw [z] at this
  cases this
/-- each behind those before it -/
def TopL (rs : List Rule) : List Nat → List Nat → Prop
  | _, [] => True
  | done, g :: l => (∀ p ∈ preds rs g, p ∈ done) ∧ TopL rs (done ++ [g]) l
theorem TopL.append {rs : List Rule} : ∀ {done a b : List Nat}, TopL rs done a → TopL rs (done ++ a) b → TopL rs done (a ++ b)
  | done, [], b, _, h => by simpa using h
  | done, g :: a, b, h1, h2 => ⟨h1.1, TopL.append h1.2 (by simpa using h2)⟩
theorem TopL.all {rs : List Rule} : ∀ {done F : List Nat}, (∀ g ∈ F, ∀ p ∈ preds rs g, p ∈ done) → TopL rs done F
  | _, [], _ => trivial
  | done, g :: F, h => ⟨h g List.mem_cons_self, TopL.all fun x hx p hp => List.mem_append_left _ (h x (List.mem_cons_of_mem _ hx) p hp)⟩
structure Ord (n : Nat) (rs : List Rule) (O L : List Nat) : Prop where
  perm : (O ++ L).Perm (List.range n)
  top : TopL rs [] O
theorem Ord.step {n : Nat} {rs : List Rule} (hn : InR n rs) {O L : List Nat} (h : Ord n rs O L) : Ord n rs (O ++ free (bare rs) L) (L.filter fun g => !decide (g ∈ free (bare rs) L)) := by
  have nd : (O ++ L).Nodup := h.perm.nodup_iff.mpr List.nodup_range
  have ndL := (List.nodup_append.mp nd).2.1
  refine ⟨?_, h.top.append (TopL.all fun g hg p hp => ?_)⟩
  · refine List.Perm.trans ?_ h.perm
    rw [List.append_assoc]
    refine List.Perm.append_left O ?_
    have e : (L.filter fun g => !decide (g ∈ free (bare rs) L)) = L.filter fun g => !(!((bare rs).any fun p => p.2 == g && decide (p.1 ∈ L))) := List.filter_congr fun g hg => by
      have : decide (g ∈ free (bare rs) L) = !((bare rs).any fun p => p.2 == g && decide (p.1 ∈ L)) := by
        rw [Bool.eq_iff_iff, decide_eq_true_iff]
        unfold free
        rw [List.mem_filter]
        exact ⟨fun z => z.2, fun z => ⟨hg, z⟩⟩
      rw [this]
    rw [e]
    exact List.filter_append_perm _ L
  · rw [List.nil_append]
    have hpn : p < n := by
      have := bare_preds hp
      obtain ⟨r, hr, e⟩ := List.mem_map.mp this
      have := (hn r (List.mem_filter.mp hr).1).1
      have e1 : r.1 = p := congrArg Prod.fst e
      omega
    have : p ∈ O ++ L := h.perm.mem_iff.mpr (List.mem_range.mpr hpn)
    rcases List.mem_append.mp this with z | z
    · exact z
    · exact absurd z (free_pred hg hp)
end Pr

/-! circuits: what the program and the law answer of periods -/
namespace Pr
open PySem L2 DL
structure Circ (n : Nat) (dl : Nat → Int) (rs : List Rule) : Prop where
  h1 : 1 ≤ n
  h8 : n ≤ 8
  d0 : ∀ g, 0 ≤ dl g
  d1 : ∀ g, dl g ≤ 50
  len : rs.length ≤ 20
  inr : InR n rs
  reg : ∀ r ∈ rs, 0 ≤ r.2.2 ∧ r.2.2 ≤ 9
  up : ∃ lv, Lv n rs lv
/-- what the sums ask of wires, moved or not -/
structure Net (n : Nat) (dl : Nat → Int) (rs : List Rule) (lv : Nat → Nat) : Prop where
  h1 : 1 ≤ n
  d0 : ∀ g, 0 ≤ dl g
  d1 : ∀ g, dl g ≤ 50
  len : rs.length ≤ 20
  lvl : Lv n rs lv
theorem Circ.net {n : Nat} {dl : Nat → Int} {rs : List Rule} (C : Circ n dl rs) : Net n dl rs C.up.choose := ⟨C.h1, C.d0, C.d1, C.len, C.up.choose_spec⟩
def wiresD (rs : List Rule) : D := .tup (rs.map ruD)
def delD (n : Nat) (dl : Nat → Int) : D := .tup (vD n dl)
def paD (p : Nat × Nat) : D := .tup [nI p.1, nI p.2]
theorem bare_spec (rs : List Rule) (hl : rs.length ≤ 1000) : d_bare_pairs [.v (wiresD rs)] [] = .ok (.lst ((bare rs).map paD)) [] := by
  let ρ : DL.Env := [vv (wiresD rs), none, none, none]
  have l := lcF (tg := .tp [(.nm 1), (.nm 2), (.nm 3)]) (tt := mCmp gEq (mVar 3) (mC (.int 0))) (fe := mTup (mCons (mVar 1) (mCons (mVar 2) mNil))) (ρ := ρ) (S := []) ruD (fun r => r.2.2 == 0) (fun r => paD (r.1, r.2.1)) rs (fun r hr => ⟨[vv (wiresD rs), vv (nI r.1), vv (nI r.2.1), vv (.int r.2.2)], rfl, rfl, fun _ => t2 (x := nI r.1) (y := nI r.2.1) rfl rfl⟩) (by rw [lim_is]; omega)
  refine denB_rt (ρ1 := ρ) (S1 := []) ?_
  show b_bare_pairs ρ [] = _
  unfold b_bare_pairs
  rw [ev_Ret, ev_Lc, show mIt (mVar 0) ρ [] = .ok (rs.map ruD) [] from rfl, ev_bind_ok, show wipeE ρ [1, 2, 3] = ρ from rfl, l]
  unfold bare
  rw [List.map_map]
  rfl
theorem gIn_nI (i : Nat) (F : List Nat) : gIn (nI i) (.lst (F.map nI)) = some (decide (i ∈ F)) := by
  have h := gNotIn_ints i F
  unfold gNotIn at h
  have h : (gIn (nI i) (.lst (F.map nI))).map (!·) = some (!decide (i ∈ F)) := h
  obtain ⟨b, hb, e⟩ := Option.map_eq_some_iff.mp h
  rw [hb]
  cases b <;> cases hd : decide (i ∈ F) <;> simp_all
theorem free_spec (ps : List (Nat × Nat)) (L : List Nat) (hp : ps.length ≤ 1000) (hL : L.length ≤ 1000) : d_free_gates [.v (.lst (L.map nI)), .v (.lst (ps.map paD))] [] = .ok (.lst ((free ps L).map nI)) [] := by
  let ρ : DL.Env := [vv (.lst (L.map nI)), vv (.lst (ps.map paD)), none, none, none]
  have l := lcF (tg := .nm 2) (tt := mNotT (mTru (mBi gAny (mCons (mLc (mIt (mVar 1)) (.tp [(.nm 3), (.nm 4)]) mYes (mAnd (mB (mCmp gEq (mVar 4) (mVar 2))) (mB (mCmp gIn (mVar 3) (mVar 0)))) [3, 4]) mNil)))) (fe := mVar 2) (ρ := ρ) (S := []) nI (fun g => !(ps.any fun p => p.2 == g && decide (p.1 ∈ L))) nI L (fun g hg => by
    let ρ1 : DL.Env := [vv (.lst (L.map nI)), vv (.lst (ps.map paD)), vv (nI g), none, none]
    refine ⟨ρ1, rfl, ?_, fun _ => rfl⟩
    have l2 := lcA1 (tg := .tp [(.nm 3), (.nm 4)]) (fe := mAnd (mB (mCmp gEq (mVar 4) (mVar 2))) (mB (mCmp gIn (mVar 3) (mVar 0)))) (ρ := ρ1) (S := []) paD (fun p => .bl (p.2 == g && decide (p.1 ∈ L))) ps (fun p hp' => by
      let ρ2 : DL.Env := [vv (.lst (L.map nI)), vv (.lst (ps.map paD)), vv (nI g), vv (nI p.1), vv (nI p.2)]
      refine ⟨ρ2, rfl, ?_⟩
      have e1 : mB (mCmp gEq (mVar 4) (mVar 2)) ρ2 [] = .ok (.bl (p.2 == g)) [] := by
        show Out.ok (D.bl (((p.2 : Int)) == (g : Int))) [] = _
        have : (((p.2 : Int)) == (g : Int)) = (p.2 == g) := by
          rw [Bool.eq_iff_iff]; simp; omega
        rw [this]
      have e2 : mB (mCmp gIn (mVar 3) (mVar 0)) ρ2 [] = .ok (.bl (decide (p.1 ∈ L))) [] := by
        show (lift (gIn (nI p.1) (.lst (L.map nI))) []).bind _ = _
        rw [gIn_nI]; rfl
      rw [ev_And, e1]
      simp only [ev_bind_ok, ev_isB, ev_lift_some]
      cases p.2 == g
      · rfl
      · rw [if_pos rfl, e2]; rfl) (by rw [lim_is]; omega)
    rw [ev_NotT, tru_of (b := ps.any fun p => p.2 == g && decide (p.1 ∈ L)) (S1 := []) (by
      rw [ev_Bi, ev_Cons, ev_Lc, show mIt (mVar 1) ρ1 [] = .ok (ps.map paD) [] from rfl, ev_bind_ok, show wipeE ρ1 [3, 4] = ρ1 from rfl, l2]
      simp only [ev_bind_ok, ev_Nil, gAny_map, ev_lift_some])]
    rfl) (by rw [lim_is]; omega)
  refine denB_rt (ρ1 := ρ) (S1 := []) ?_
  show b_free_gates ρ [] = _
  unfold b_free_gates
  rw [ev_Ret, ev_Lc, show mIt (mVar 0) ρ [] = .ok (L.map nI) [] from rfl, ev_bind_ok, show wipeE ρ [2] = ρ from rfl, l]
  rfl
def eI (n : Nat) (rs : List Rule) (O L F : List Nat) : DL.Env := [vv (nI n), vv (wiresD rs), vv (.lst ((bare rs).map paD)), vv (.lst (O.map nI)), vv (.lst (L.map nI)), vv (.lst (F.map nI)), none]
def bMore : DSn := (mSeq (mSet 3 (mV (mOp gAdd (mVar 3) (mVar 5))))
  (mSeq (mSetLc 4 (mLc (mIt (mVar 4)) (.nm 6) (mCmp gNotIn (mVar 6) (mVar 5)) (mVar 6) [6]))
  (mSet 5 (mV (mCall d_free_gates 2 (mConsE (mV (mVar 4)) (mConsE (mV (mVar 2)) mNilE)))))))
theorem bare_len (rs : List Rule) : (bare rs).length ≤ rs.length := by
  unfold bare
  rw [List.length_map]
  exact List.length_filter_le _ _
theorem more_step {n : Nat} {rs : List Rule} {O L : List Nat} (hl : rs.length ≤ 1000) (hO : O.length ≤ 1000) (hL : L.length ≤ 1000) :
    bMore (eI n rs O L (free (bare rs) L)) [] = .ok (.nx, eI n rs (O ++ free (bare rs) L) (L.filter fun g => !decide (g ∈ free (bare rs) L)) (free (bare rs) (L.filter fun g => !decide (g ∈ free (bare rs) L)))) [] := by
  let F := free (bare rs) L
  have hF : F.length ≤ L.length := List.length_filter_le _ _
  have s1 : mSet 3 (mV (mOp gAdd (mVar 3) (mVar 5))) (eI n rs O L F) [] = .ok (.nx, eI n rs (O ++ F) L F) [] := by
    refine (st_set (d := .lst ((O ++ F).map nI)) (S1 := []) (opI (x := .lst (O.map nI)) (y := .lst (F.map nI)) rfl rfl ?_)).trans rfl
    show (if (O.map nI).length + (F.map nI).length ≤ lim then some (D.lst (O.map nI ++ F.map nI)) else none) = _
    rw [if_pos (by rw [List.length_map, List.length_map, lim_is]; omega), List.map_append]
  let L' := L.filter fun g => !decide (g ∈ F)
  have l := lcF (tg := .nm 6) (tt := mCmp gNotIn (mVar 6) (mVar 5)) (fe := mVar 6) (ρ := eI n rs (O ++ F) L F) (S := []) nI (fun g => !decide (g ∈ F)) nI L (fun g hg => ⟨(eI n rs (O ++ F) L F).set 6 (some (.v (nI g))), rfl, by
    show lift (gNotIn (.int (g : Int)) (.lst (F.map nI))) [] = _
    rw [show gNotIn (.int (g : Int)) (.lst (F.map nI)) = _ from gNotIn_ints g F]; rfl, fun _ => rfl⟩) (by rw [lim_is]; omega)
  have s2 : mSetLc 4 (mLc (mIt (mVar 4)) (.nm 6) (mCmp gNotIn (mVar 6) (mVar 5)) (mVar 6) [6]) (eI n rs (O ++ F) L F) [] = .ok (.nx, eI n rs (O ++ F) L' F) [] := by
    rw [ev_SetLc, ev_Lc, show mIt (mVar 4) (eI n rs (O ++ F) L F) [] = .ok (L.map nI) [] from rfl, ev_bind_ok, show wipeE (eI n rs (O ++ F) L F) [6] = eI n rs (O ++ F) L F from rfl, l]
    rfl
  have hL' : L'.length ≤ L.length := List.length_filter_le _ _
  have s3 : mSet 5 (mV (mCall d_free_gates 2 (mConsE (mV (mVar 4)) (mConsE (mV (mVar 2)) mNilE)))) (eI n rs (O ++ F) L' F) [] = .ok (.nx, eI n rs (O ++ F) L' (free (bare rs) L')) [] :=
    (st_set (d := .lst ((free (bare rs) L').map nI)) (S1 := []) (cl2 (x := .lst (L'.map nI)) (y := .lst ((bare rs).map paD)) rfl rfl (free_spec _ _ (by have := bare_len rs; omega) (by omega)))).trans rfl
  unfold bMore
  exact (seq_nx s1).trans ((seq_nx s2).trans s3)
theorem order_loop {n : Nat} {rs : List Rule} {lv : Nat → Nat} (hl : rs.length ≤ 1000) (h8 : n ≤ 100) (hn : InR n rs) (U : Lv n rs lv) : ∀ (fuel : Nat) (O L : List Nat), L.length < fuel → Ord n rs O L →
    ∃ O', O'.Perm (List.range n) ∧ TopL rs [] O' ∧ whileL (mTru (mVar 5)) bMore fuel (eI n rs O L (free (bare rs) L)) [] = .ok (.nx, eI n rs O' [] []) []
  | 0, O, L, h, _ => by omega
  | fuel + 1, O, L, h, R => by
    have hlen := R.perm.length_eq
    rw [List.length_append, List.length_range] at hlen
    unfold whileL
    by_cases e : L = []
    · subst e
      exact ⟨O, by simpa using R.perm, R.top, rfl⟩
    · have hF := free_some U e
      have t : mTru (mVar 5) (eI n rs O L (free (bare rs) L)) [] = .ok true [] := by
        show lift (D.tru (.lst ((free (bare rs) L).map nI))) [] = _
        cases hf : free (bare rs) L with
        | nil => exact absurd hf hF
        | cons a l => rfl
      have R' := R.step hn
      have hlen' := R'.perm.length_eq
      rw [List.length_append, List.length_append, List.length_range] at hlen'
      have hpos : 0 < (free (bare rs) L).length := List.length_pos_iff.mpr hF
      obtain ⟨O', o1, o2, o3⟩ := order_loop hl h8 hn U fuel _ _ (by omega) R'
      refine ⟨O', o1, o2, ?_⟩
      rw [t, ev_bindS_ok, if_pos rfl, more_step (n := n) (O := O) (L := L) hl (by omega) (by omega)]
      exact o3
theorem order_spec {n : Nat} {dl : Nat → Int} {rs : List Rule} {lv : Nat → Nat} (C : Net n dl rs lv) : ∃ O, O.Perm (List.range n) ∧ TopL rs [] O ∧ d_in_order [.v (nI n), .v (wiresD rs)] [] = .ok (.lst (O.map nI)) [] := by
  have h8 := C.lvl.h8
  have hl := C.len
  obtain ⟨O, o1, o2, e⟩ := order_loop (n := n) (rs := rs) (by omega) (by omega) C.lvl.inr C.lvl 1000 [] (List.range n) (by rw [List.length_range]; omega) ⟨by simp, trivial⟩
  refine ⟨O, o1, o2, ?_⟩
  let x2 : Option EV := vv (.lst ((bare rs).map paD))
  let ρ0 : DL.Env := [vv (nI n), vv (wiresD rs), none, none, none, none, none]
  let ρ1 : DL.Env := [vv (nI n), vv (wiresD rs), x2, none, none, none, none]
  let ρ2 : DL.Env := [vv (nI n), vv (wiresD rs), x2, vv (.lst []), none, none, none]
  let ρ3 : DL.Env := [vv (nI n), vv (wiresD rs), x2, vv (.lst []), vv (.lst ((List.range n).map nI)), none, none]
  refine denB_rt (ρ1 := eI n rs O [] []) (S1 := []) ?_
  show b_in_order ρ0 [] = _
  unfold b_in_order
  refine (seq_nx (ρ1 := ρ1) (S1 := []) ?_).trans ((seq_nx (ρ1 := ρ2) (S1 := []) ?_).trans ((seq_nx (ρ1 := ρ3) (S1 := []) ?_).trans ((seq_nx (ρ1 := eI n rs [] (List.range n) (free (bare rs) (List.range n))) (S1 := []) ?_).trans ((seq_nx e).trans rfl))))
  · exact (st_set (d := .lst ((bare rs).map paD)) (S1 := []) (cl1 (x := wiresD rs) rfl (bare_spec rs (by omega)))).trans rfl
  · refine (st_set (d := .lst []) (S1 := []) ?_).trans rfl
    show (if ([] : List D).length ≤ lim then Out.ok (D.lst []) [] else .bad) = _
    exact if_pos (Nat.zero_le _)
  · refine (st_set (d := .lst ((List.range n).map nI)) (S1 := []) ?_).trans rfl
    show ((mVar 0 ρ2 []).bind _) = _
    rw [show mVar 0 ρ2 [] = .ok (.int (n : Int)) [] from rfl, ev_bind_ok]
    dsimp only
    rw [if_pos ⟨by omega, by omega⟩, rgD_nat]
    rfl
  · exact (st_set (d := .lst ((free (bare rs) (List.range n)).map nI)) (S1 := []) (cl2 (x := .lst ((List.range n).map nI)) (y := .lst ((bare rs).map paD)) rfl rfl (free_spec _ _ (by have := bare_len rs; omega) (by rw [List.length_range]; omega)))).trans rfl
end Pr

/-! circuits: check, arrivals, period, the law's period -/
namespace Pr
open PySem L2 DL
def mxl : List Int → Int
  | [] => 0
  | m :: is => maxI m is
def mnl : List Int → Int
  | [] => 0
  | m :: is => minI m is
def mxv (n : Nat) (v : Nat → Int) : Int := mxl ((List.range n).map v)
def mnv (n : Nat) (v : Nat → Int) : Int := mnl ((List.range n).map v)
theorem vD_map (n : Nat) (v : Nat → Int) : vD n v = ((List.range n).map v).map D.int := by unfold vD; rw [List.map_map]; rfl
theorem gMax_ints {l : List Int} (h : l ≠ []) : gMax [.lst (l.map D.int)] = some (.int (mxl l)) ∧ gMax [.tup (l.map D.int)] = some (.int (mxl l)) := by
  cases l with
  | nil => exact absurd rfl h
  | cons m l =>
    have e : intsOf ((m :: l).map D.int) = some (m :: l) := intsOf_map _
    refine ⟨?_, ?_⟩
    · show (match intsOf ((m :: l).map D.int) with
        | some (m :: is) => some (D.int (maxI m is))
        | _ => none) = _
      rw [e]; rfl
    · show (match intsOf ((m :: l).map D.int) with
        | some (m :: is) => some (D.int (maxI m is))
        | _ => none) = _
      rw [e]; rfl
theorem gMin_ints {l : List Int} (h : l ≠ []) : gMin [.lst (l.map D.int)] = some (.int (mnl l)) ∧ gMin [.tup (l.map D.int)] = some (.int (mnl l)) := by
  cases l with
  | nil => exact absurd rfl h
  | cons m l =>
    have e : intsOf ((m :: l).map D.int) = some (m :: l) := intsOf_map _
    refine ⟨?_, ?_⟩
    · show (match intsOf ((m :: l).map D.int) with
        | some (m :: is) => some (D.int (minI m is))
        | _ => none) = _
      rw [e]; rfl
    · show (match intsOf ((m :: l).map D.int) with
        | some (m :: is) => some (D.int (minI m is))
        | _ => none) = _
      rw [e]; rfl
theorem mxl_is {l : List Int} (h : l ≠ []) : mxl l ∈ l ∧ ∀ y ∈ l, y ≤ mxl l := by
  cases l with
  | nil => exact absurd rfl h
  | cons m l => exact maxI_is l m
theorem mnl_is {l : List Int} (h : l ≠ []) : mnl l ∈ l ∧ ∀ y ∈ l, mnl l ≤ y := by
  cases l with
  | nil => exact absurd rfl h
  | cons m l => exact minI_is l m
theorem rng_ne {n : Nat} (v : Nat → Int) (h : 1 ≤ n) : (List.range n).map v ≠ [] := fun z => by
  have := congrArg List.length z
  simp at this
  omega
theorem mxv_is {n : Nat} {v : Nat → Int} (h : 1 ≤ n) : (∃ i, i < n ∧ mxv n v = v i) ∧ ∀ i, i < n → v i ≤ mxv n v := by
  obtain ⟨a, b⟩ := mxl_is (rng_ne v h)
  obtain ⟨i, hi, e⟩ := List.mem_map.mp a
  exact ⟨⟨i, List.mem_range.mp hi, e.symm⟩, fun j hj => b _ (List.mem_map.mpr ⟨j, List.mem_range.mpr hj, rfl⟩)⟩
theorem mnv_is {n : Nat} {v : Nat → Int} (h : 1 ≤ n) : (∃ i, i < n ∧ mnv n v = v i) ∧ ∀ i, i < n → mnv n v ≤ v i := by
  obtain ⟨a, b⟩ := mnl_is (rng_ne v h)
  obtain ⟨i, hi, e⟩ := List.mem_map.mp a
  exact ⟨⟨i, List.mem_range.mp hi, e.symm⟩, fun j hj => b _ (List.mem_map.mpr ⟨j, List.mem_range.mpr hj, rfl⟩)⟩
theorem gMax_vD {n : Nat} (v : Nat → Int) (h : 1 ≤ n) : gMax [.lst (vD n v)] = some (.int (mxv n v)) ∧ gMax [.tup (vD n v)] = some (.int (mxv n v)) := by
  rw [vD_map]
  exact gMax_ints (rng_ne v h)
theorem gMin_vD {n : Nat} (v : Nat → Int) (h : 1 ≤ n) : gMin [.lst (vD n v)] = some (.int (mnv n v)) ∧ gMin [.tup (vD n v)] = some (.int (mnv n v)) := by
  rw [vD_map]
  exact gMin_ints (rng_ne v h)
theorem mxv_congr {n : Nat} {v w : Nat → Int} (h : ∀ i, i < n → v i = w i) : mxv n v = mxv n w := by
  unfold mxv
  rw [List.map_congr_left fun i hi => h i (List.mem_range.mp hi)]
theorem vD_congr {n : Nat} {v w : Nat → Int} (h : ∀ i, i < n → v i = w i) : vD n v = vD n w := rmap_congr fun i hi => by rw [h i hi]

theorem is_wire_spec {n : Nat} {r : Rule} (h1 : r.1 < n) (h2 : r.2.1 < n) (g1 : 0 ≤ r.2.2) (g2 : r.2.2 ≤ 9) : d_is_wire [.v (ruD r), .v (nI n)] [] = .ok (.bl true) [] := by
  let ρ : DL.Env := [vv (ruD r), vv (nI n)]
  have q0 : mTru (mCall d_is_tuple_of 3 (mConsE (mV (mVar 0)) (mConsE (mV (mC (.int 3))) (mConsE (mV (mC (.int 3))) mNilE)))) ρ [] = .ok true [] := tru_of (cl3 rfl rfl rfl (is_tuple_of_tup [nI r.1, nI r.2.1, .int r.2.2] 3 3))
  have q1 : mTru (mCall d_is_between 3 (mConsE (mV (mOp gIx (mVar 0) (mC (.int 2)))) (mConsE (mV (mC (.int 0))) (mConsE (mV (mC k_MOST_REGISTERS)) mNilE)))) ρ [] = .ok true [] := tru_of (by
    have := is_between_int r.2.2 0 9
    rw [decide_eq_true g1, decide_eq_true g2] at this
    exact cl3 (x := .int r.2.2) rfl rfl rfl this)
  have q2 : mCall d_is_between 3 (mConsE (mV (mOp gIx (mVar 0) (mC (.int 0)))) (mConsE (mV (mC (.int 0))) (mConsE (mV (mOp gSub (mVar 1) (mC (.int 1)))) mNilE))) ρ [] = .ok (.bl true) [] := by
    have := is_between_int (r.1 : Int) 0 ((n : Int) - 1)
    rw [decide_eq_true (by omega), decide_eq_true (by omega)] at this
    exact cl3 (x := .int (r.1 : Int)) rfl rfl rfl this
  have q3 : mCall d_is_between 3 (mConsE (mV (mOp gIx (mVar 0) (mC (.int 1)))) (mConsE (mV (mC (.int 0))) (mConsE (mV (mOp gSub (mVar 1) (mC (.int 1)))) mNilE))) ρ [] = .ok (.bl true) [] := by
    have := is_between_int (r.2.1 : Int) 0 ((n : Int) - 1)
    rw [decide_eq_true (by omega), decide_eq_true (by omega)] at this
    exact cl3 (x := .int (r.2.1 : Int)) rfl rfl rfl this
  refine denB_rt (ρ1 := ρ) (S1 := []) ?_
  show b_is_wire ρ [] = _
  unfold b_is_wire
  refine (seq_nx (ρ1 := ρ) (S1 := []) ?_).trans ?_
  · rw [ev_IfS, ev_OrT, ev_NotT, q0]
    simp only [ev_bind_ok, Bool.not_true, Bool.false_eq_true, if_false]
    rw [ev_NotT, q1]
    rfl
  · rw [ev_Ret, ev_And, q2]
    simp only [ev_bind_ok, ev_isB, ev_lift_some, if_true]
    rw [q3]
    rfl
theorem lenD (n : Nat) (dl : Nat → Int) : gLen [delD n dl] = some (nI n) := by
  unfold delD
  rw [gLen_t, vD_len]
  rfl
theorem check_circuit_spec {n : Nat} {dl : Nat → Int} {rs : List Rule} (C : Circ n dl rs) : d_check_circuit [.v (delD n dl), .v (wiresD rs)] [] = .ok .non [] := by
  have h1 := C.h1
  have h8 := C.h8
  let ρ0 : DL.Env := [vv (delD n dl), vv (wiresD rs), none, none]
  let ρ1 : DL.Env := [vv (delD n dl), vv (wiresD rs), vv .non, none]
  have ln : ∀ {ρ : DL.Env}, mVar 0 ρ [] = .ok (delD n dl) [] → mBi gLen (mCons (mVar 0) mNil) ρ [] = .ok (nI n) [] := fun h => by
    rw [ev_Bi, ev_Cons, h]
    simp only [ev_bind_ok, ev_Nil, lenD, ev_lift_some]
  refine denB_nx (ρ1 := ρ1) (S1 := []) ?_
  show b_check_circuit ρ0 [] = _
  unfold b_check_circuit
  refine (seq_nx (ρ1 := ρ0) (S1 := []) ?_).trans ((seq_nx (ρ1 := ρ0) (S1 := []) ?_).trans ((seq_nx (ρ1 := ρ1) (S1 := []) ?_).trans ((seq_nx (ρ1 := ρ1) (S1 := []) rfl).trans ?_)))
  · have q0 : mTru (mCall d_is_tuple_of 3 (mConsE (mV (mVar 0)) (mConsE (mV (mC (.int 1))) (mConsE (mV (mC k_MOST_GATES)) mNilE)))) ρ0 [] = .ok true [] := tru_of (by
      have := is_tuple_of_tup (vD n dl) 1 8
      rw [vD_len, decide_eq_true (by omega), decide_eq_true (by omega)] at this
      exact cl3 rfl rfl rfl this)
    have l1 := lcA1 (tg := .nm 3) (fe := mCall d_is_between 3 (mConsE (mV (mVar 3)) (mConsE (mV (mC (.int 0))) (mConsE (mV (mC k_LONGEST_DELAY)) mNilE)))) (ρ := ρ0) (S := []) (fun i : Nat => D.int (dl i)) (fun _ => .bl true) (List.range n) (fun i hi => ⟨ρ0.set 3 (some (.v (.int (dl i)))), rfl, by
      have := is_between_int (dl i) 0 50
      rw [decide_eq_true (C.d0 i), decide_eq_true (C.d1 i)] at this
      exact cl3 (x := .int (dl i)) rfl rfl rfl this⟩) (by rw [lim_is, List.length_range]; omega)
    have q1 : mTru (mBi gAll (mCons (mLc (mIt (mVar 0)) (.nm 3) mYes (mCall d_is_between 3 (mConsE (mV (mVar 3)) (mConsE (mV (mC (.int 0))) (mConsE (mV (mC k_LONGEST_DELAY)) mNilE)))) [3]) mNil)) ρ0 [] = .ok true [] := tru_of (by
      rw [ev_Bi, ev_Cons, ev_Lc, show mIt (mVar 0) ρ0 [] = .ok (vD n dl) [] from rfl, ev_bind_ok, show wipeE ρ0 [3] = ρ0 from rfl, show lcL (.nm 3) mYes _ ρ0 (vD n dl) [] [] = _ from l1]
      simp only [ev_bind_ok, ev_Nil, gAll_true, ev_lift_some])
    rw [ev_IfS, ev_OrT, ev_NotT, q0]
    simp only [ev_bind_ok, Bool.not_true, Bool.false_eq_true, if_false]
    rw [ev_NotT, q1]
    rfl
  · have := is_tuple_of_tup (rs.map ruD) 0 20
    have hl := C.len
    rw [List.length_map, decide_eq_true (by omega), decide_eq_true (by omega)] at this
    rw [ev_IfS, ev_NotT, tru_of (cl3 (F := d_is_tuple_of) (ρ := ρ0) (fa := mVar 1) (fb := mC (.int 0)) (fc := mC k_MOST_WIRES) (S := []) rfl rfl rfl this)]
    rfl
  · refine (st_set (d := .non) (S1 := []) ?_).trans rfl
    unfold mWrong
    rw [show mVar 1 ρ0 [] = .ok (wiresD rs) [] from rfl, ev_bind_ok]
    show wrongL _ (rs.map ruD) 0 [] = _
    refine wrongL_true _ _ fun d hd => ?_
    obtain ⟨r, hr, rfl⟩ := List.mem_map.mp hd
    have e : lamE 0 (ruD r) ([0].map (capD ρ0)) = [vv (ruD r), vv (delD n dl)] := rfl
    rw [e]
    obtain ⟨i1, i2⟩ := C.inr r hr
    obtain ⟨g1, g2⟩ := C.reg r hr
    have l : mBi gLen (mCons (mVar 1) mNil) [vv (ruD r), vv (delD n dl)] [] = .ok (nI n) [] := by
      rw [ev_Bi, ev_Cons, show mVar 1 [vv (ruD r), vv (delD n dl)] [] = .ok (delD n dl) [] from rfl]
      simp only [ev_bind_ok, ev_Nil, lenD, ev_lift_some]
    have c1 : mCall d_is_wire 2 (mConsE (mV (mVar 0)) (mConsE (mV (mBi gLen (mCons (mVar 1) mNil))) mNilE)) [vv (ruD r), vv (delD n dl)] [] = .ok (.bl true) [] := cl2 rfl l (is_wire_spec i1 i2 g1 g2)
    rw [c1]
    rfl
  · obtain ⟨O, o1, _, o3⟩ := order_spec C.net
    have l2 : mBi gLen (mCons (mCall d_in_order 2 (mConsE (mV (mBi gLen (mCons (mVar 0) mNil))) (mConsE (mV (mVar 1)) mNilE))) mNil) ρ1 [] = .ok (nI n) [] := by
      rw [ev_Bi, ev_Cons, cl2 (F := d_in_order) (ρ := ρ1) (fb := mVar 1) (x := nI n) (y := wiresD rs) (ln rfl) rfl o3]
      simp only [ev_bind_ok, ev_Nil, gLen_l, List.length_map, o1.length_eq, List.length_range, ev_lift_some]
      rfl
    rw [ev_IfS, ev_Cmp, l2, ev_bind_ok, ln rfl, ev_bind_ok]
    show bindS (Out.ok (decide ((n : Int) < (n : Int))) []) _ _ = _
    rw [decide_eq_false (by omega)]
    rfl
/-! arrivals -/
def eA (n : Nat) (dl : Nat → Int) (rs : List Rule) (x4 : Option EV) : DL.Env := [vv (delD n dl), vv (wiresD rs), some (.cel 0), vv (.lst ((bare rs).map paD)), x4, none, none]
def vC (n : Nat) (v : Nat → Int) : Store := [some (.lst (vD n v))]
def bArr : DSn := (mAsg (mOp gAdd (mOp gIx (mVar 0) (mVar 4)) (mMaxD (mLc (mIt (mVar 3)) (.tp [(.nm 5), (.nm 6)]) (mCmp gEq (mVar 6) (mVar 4)) (mIxC 2 (mVar 5)) [5, 6]) (mC (.int 0)))) (gIt 2 (mVar 4)))
theorem preds_bare (rs : List Rule) (g : Nat) : preds rs g = ((bare rs).filter fun p => p.2 == g).map fun p => p.1 := by
  unfold preds bare
  rw [List.filter_map, List.map_map]
  rfl
theorem gMaxD_ints (is : List Int) : gMaxD (.lst (is.map D.int)) (.int 0) = some (.int (topO is)) := by
  show (match intsOf (is.map D.int) with
    | some [] => some (D.int 0)
    | some (m :: is) => some (D.int (maxI m is))
    | none => none) = _
  rw [intsOf_map]
  cases is <;> rfl
theorem set_vC {n : Nat} {v : Nat → Int} {g : Nat} {x : Int} : (vC n v).set 0 (some (Cell.lst ((vD n v).set g (.int x)))) = vC n fun i => if i = g then x else v i := by
  show [some (Cell.lst ((vD n v).set g (.int x)))] = _
  unfold vD
  rw [rmap_set]
  have : ((List.range n).map fun i => if i = g then D.int x else D.int (v i)) = vD n fun i => if i = g then x else v i := rmap_congr fun i _ => by
    by_cases e : i = g <;> simp [e]
  rw [this]; rfl
theorem arr_step {n g : Nat} {dl v : Nat → Int} {rs : List Rule} (hn : InR n rs) (hl : rs.length ≤ 1000) (hg : g < n) : bArr (eA n dl rs (vv (nI g))) (vC n v) = .ok (.nx, eA n dl rs (vv (nI g))) (vC n fun i => if i = g then dl g + topO ((preds rs g).map v) else v i) := by
  let ρ := eA n dl rs (vv (nI g))
  have l := lcF (tg := .tp [(.nm 5), (.nm 6)]) (tt := mCmp gEq (mVar 6) (mVar 4)) (fe := mIxC 2 (mVar 5)) (ρ := ρ) (S := vC n v) paD (fun p => p.2 == g) (fun p => .int (v p.1)) (bare rs) (fun p hp => by
    obtain ⟨r, hr, rfl⟩ := List.mem_map.mp hp
    have h1 := (hn r (List.mem_filter.mp hr).1).1
    refine ⟨[vv (delD n dl), vv (wiresD rs), some (.cel 0), vv (.lst ((bare rs).map paD)), vv (nI g), vv (nI r.1), vv (nI r.2.1)], rfl, ?_, fun _ => ixC (n := 0) (k := (r.1 : Int)) rfl rfl rfl (vD_ix h1)⟩
    show Out.ok (((r.2.1 : Int)) == (g : Int)) (vC n v) = _
    have : (((r.2.1 : Int)) == (g : Int)) = (r.2.1 == g) := by rw [Bool.eq_iff_iff]; simp; omega
    rw [this]) (by have := bare_len rs; rw [lim_is]; omega)
  have em : mMaxD (mLc (mIt (mVar 3)) (.tp [(.nm 5), (.nm 6)]) (mCmp gEq (mVar 6) (mVar 4)) (mIxC 2 (mVar 5)) [5, 6]) (mC (.int 0)) ρ (vC n v) = .ok (.int (topO ((preds rs g).map v))) (vC n v) := by
    unfold mMaxD
    rw [ev_Lc, show mIt (mVar 3) ρ (vC n v) = .ok ((bare rs).map paD) (vC n v) from rfl, ev_bind_ok, show wipeE ρ [5, 6] = ρ from rfl, l]
    simp only [ev_bind_ok, ev_C]
    have : (((bare rs).filter fun p => p.2 == g).map fun p => D.int (v p.1)) = ((preds rs g).map v).map D.int := by
      rw [preds_bare, List.map_map, List.map_map]; rfl
    rw [this, gMaxD_ints]
    rfl
  have e : mOp gAdd (mOp gIx (mVar 0) (mVar 4)) (mMaxD (mLc (mIt (mVar 3)) (.tp [(.nm 5), (.nm 6)]) (mCmp gEq (mVar 6) (mVar 4)) (mIxC 2 (mVar 5)) [5, 6]) (mC (.int 0))) ρ (vC n v) = .ok (.int (dl g + topO ((preds rs g).map v))) (vC n v) :=
    opI (x := .int (dl g)) (opI (x := delD n dl) (y := nI g) rfl rfl (vD_ix hg)) em rfl
  have gI := itL (i := 2) (n := 0) (j := g) (ρ := ρ) (S := vC n v) (ds := vD n v) (k := (g : Int)) (fi := mVar 4) (d := .int (dl g + topO ((preds rs g).map v))) rfl rfl rfl (by rw [vD_len]; exact ixN_nat hg)
  unfold bArr
  rw [ev_Asg, show mOp gAdd _ _ (eA n dl rs (vv (nI g))) (vC n v) = _ from e, ev_bindS_ok, show gIt 2 (mVar 4) _ (eA n dl rs (vv (nI g))) (vC n v) = _ from gI]
  exact congrArg (Out.ok _) set_vC
theorem arr_loop {n : Nat} {dl : Nat → Int} {rs : List Rule} {lv : Nat → Nat} (hn : InR n rs) (hl : rs.length ≤ 1000) (U : Lv n rs lv) : ∀ (O done : List Nat) (v : Nat → Int) (x4 : Option EV), TopL rs done O → (∀ g ∈ O, g < n) → (∀ p ∈ done, v p = sv dl rs p) →
    ∃ (v' : Nat → Int) (y4 : Option EV), (∀ p ∈ done ++ O, v' p = sv dl rs p) ∧ forL (.nm 4) bArr (O.map nI) (eA n dl rs x4) (vC n v) = .ok (.nx, eA n dl rs y4) (vC n v')
  | [], done, v, x4, _, _, hv => ⟨v, x4, by simpa using hv, rfl⟩
  | g :: O, done, v, x4, ht, ho, hv => by
    have hs : dl g + topO ((preds rs g).map v) = sv dl rs g := by
      rw [sv_is U g, List.map_congr_left fun p hp => hv p (ht.1 p hp)]
    obtain ⟨v', y4, q1, q2⟩ := arr_loop hn hl U O (done ++ [g]) (fun i => if i = g then dl g + topO ((preds rs g).map v) else v i) (vv (nI g)) ht.2 (fun x hx => ho x (List.mem_cons_of_mem _ hx)) (fun p hp => by
      by_cases e : p = g
      · subst e; rw [if_pos rfl]; exact hs
      · rw [if_neg e]
        rcases List.mem_append.mp hp with hp | hp
        · exact hv p hp
        · exact absurd (by simpa using hp) e)
    refine ⟨v', y4, by simpa using q1, ?_⟩
    rw [List.map_cons]
    exact (forL_step (ρ1 := eA n dl rs (vv (nI g))) rfl (arr_step hn hl (ho g List.mem_cons_self))).trans q2
theorem rep_zero (n : Nat) : (List.replicate n ([.int 0] : List D)).flatten = vD n fun _ => 0 := by
  unfold vD
  induction n with
  | zero => rfl
  | succ n ih =>
    rw [List.replicate_succ', List.flatten_append, ih, List.range_succ, List.map_append]
    rfl
theorem arrivals_spec {n : Nat} {dl : Nat → Int} {rs : List Rule} {lv : Nat → Nat} (C : Net n dl rs lv) : d_arrivals [.v (delD n dl), .v (wiresD rs)] [] = .ok (.lst (vD n (sv dl rs))) [] := by
  have h8 := C.lvl.h8
  have hl := C.len
  obtain ⟨O, o1, o2, o3⟩ := order_spec C
  obtain ⟨v', y4, q1, q2⟩ := arr_loop C.lvl.inr (by omega) C.lvl O [] (fun _ => 0) none o2 (fun g hg => List.mem_range.mp (o1.mem_iff.mp hg)) (fun p hp => by cases hp) (dl := dl) (n := n)
  have ev : vD n v' = vD n (sv dl rs) := vD_congr fun i hi => q1 i (by rw [List.nil_append]; exact o1.mem_iff.mpr (List.mem_range.mpr hi))
  let ρ0 : DL.Env := [vv (delD n dl), vv (wiresD rs), none, none, none, none, none]
  let ρ1 : DL.Env := [vv (delD n dl), vv (wiresD rs), some (.cel 0), none, none, none, none]
  have ln : ∀ {ρ : DL.Env} {S : Store}, mVar 0 ρ S = .ok (delD n dl) S → mBi gLen (mCons (mVar 0) mNil) ρ S = .ok (nI n) S := fun h => by
    rw [ev_Bi, ev_Cons, h]
    simp only [ev_bind_ok, ev_Nil, lenD, ev_lift_some]
  refine denB_rt (ρ1 := eA n dl rs y4) (S1 := [none]) ?_
  show b_arrivals ρ0 [] = _
  unfold b_arrivals
  refine (seq_nx (ρ1 := ρ1) (S1 := vC n fun _ => 0) ?_).trans ((seq_nx (ρ1 := eA n dl rs none) (S1 := vC n fun _ => 0) ?_).trans ((seq_nx (ρ1 := eA n dl rs y4) (S1 := vC n v') ?_).trans ?_))
  · have z : mNewRep (mLst (mCons (mC (.int 0)) mNil)) (mBi gLen (mCons (mVar 0) mNil)) ρ0 [] = .ok (.cel 0) (vC n fun _ => 0) := by
      unfold mNewRep
      rw [l1 (x := .int 0) (show mC (.int 0) ρ0 [] = .ok (.int 0) [] from rfl), ev_bind_ok, ln (ρ := ρ0) rfl, ev_bind_ok]
      show (if (n : Int) ≤ 1000 ∧ -1000 ≤ (n : Int) ∧ ([D.int 0] : List D).length ≤ 1000 then _ else _) = _
      rw [if_pos (⟨by omega, by omega, by simp⟩ : (n : Int) ≤ 1000 ∧ -1000 ≤ (n : Int) ∧ ([D.int 0] : List D).length ≤ 1000), show ((n : Int)).toNat = n by simp, rep_zero]
      rfl
    rw [ev_Set, z]
    rfl
  · exact (st_set (d := .lst ((bare rs).map paD)) (S1 := vC n fun _ => 0) (cl1 (x := wiresD rs) rfl (bare_spec rs (by omega)))).trans rfl
  · rw [ev_For, ev_It, cl2 (F := d_in_order) (ρ := eA n dl rs none) (fb := mVar 1) (x := nI n) (y := wiresD rs) (ln rfl) rfl o3, ev_bind_ok, show (D.lst (O.map nI)).items = some (O.map nI) from rfl, ev_lift_some, ev_bindS_ok]
    exact q2
  · rw [← ev]
    rfl
theorem period_spec {n : Nat} {dl : Nat → Int} {rs : List Rule} (C : Circ n dl rs) : d_period [.v (delD n dl), .v (wiresD rs)] [] = .ok (.int (mxv n (sv dl rs))) [] := by
  let ρ : DL.Env := [vv (delD n dl), vv (wiresD rs)]
  refine denB_rt (ρ1 := ρ) (S1 := []) ?_
  show b_period ρ [] = _
  unfold b_period
  refine (seq_nx (ρ1 := ρ) (S1 := []) ?_).trans ?_
  · unfold mDrop
    rw [cl2 (F := d_check_circuit) (ρ := ρ) (fa := mVar 0) (fb := mVar 1) (S := []) rfl rfl (check_circuit_spec C)]
    rfl
  · rw [ev_Ret, ev_Bi, ev_Cons, cl2 (F := d_arrivals) (ρ := ρ) (fa := mVar 0) (fb := mVar 1) (S := []) rfl rfl (arrivals_spec C.net)]
    simp only [ev_bind_ok, ev_Nil, (gMax_vD _ C.h1).1, ev_lift_some]
    rfl
/-! the law's period -/
def eL (n : Nat) (dl : Nat → Int) (rs : List Rule) (x3 x4 x5 x6 : Option EV) : DL.Env := [vv (delD n dl), vv (wiresD rs), some (.cel 0), x3, x4, x5, x6]
def bLp : DSn := (mIfS (mCmp gEq (mVar 6) (mC (.int 0))) (mAsg (mBi gMax2 (mCons (mIxC 2 (mVar 5)) (mCons (mOp gAdd (mIxC 2 (mVar 4)) (mOp gIx (mVar 0) (mVar 5))) mNil))) (gIt 2 (mVar 5))) mSkip)
theorem lp_step {n : Nat} {dl v : Nat → Int} {rs : List Rule} {x3 : Option EV} {r : Rule} (h1 : r.1 < n) (h2 : r.2.1 < n) :
    bLp (eL n dl rs x3 (vv (nI r.1)) (vv (nI r.2.1)) (vv (.int r.2.2))) (vC n v) = .ok (.nx, eL n dl rs x3 (vv (nI r.1)) (vv (nI r.2.1)) (vv (.int r.2.2))) (vC n (if r.2.2 == 0 then gup v (r.1, r.2.1, dl r.2.1) else v)) := by
  let ρ := eL n dl rs x3 (vv (nI r.1)) (vv (nI r.2.1)) (vv (.int r.2.2))
  have c : mCmp gEq (mVar 6) (mC (.int 0)) ρ (vC n v) = .ok (r.2.2 == 0) (vC n v) := rfl
  unfold bLp
  rw [ev_IfS, show mCmp gEq (mVar 6) (mC (.int 0)) (eL n dl rs x3 (vv (nI r.1)) (vv (nI r.2.1)) (vv (.int r.2.2))) (vC n v) = _ from c, ev_bindS_ok]
  cases hb : (r.2.2 == 0)
  · rfl
  · rw [if_pos rfl, if_pos rfl]
    have i1 : mIxC 2 (mVar 5) ρ (vC n v) = .ok (.int (v r.2.1)) (vC n v) := ixC (n := 0) (k := (r.2.1 : Int)) rfl rfl rfl (vD_ix h2)
    have i2 : mIxC 2 (mVar 4) ρ (vC n v) = .ok (.int (v r.1)) (vC n v) := ixC (n := 0) (k := (r.1 : Int)) rfl rfl rfl (vD_ix h1)
    have i3 : mOp gIx (mVar 0) (mVar 5) ρ (vC n v) = .ok (.int (dl r.2.1)) (vC n v) := opI (x := delD n dl) (y := nI r.2.1) rfl rfl (vD_ix h2)
    let x : Int := if v r.1 + dl r.2.1 > v r.2.1 then v r.1 + dl r.2.1 else v r.2.1
    have e : mBi gMax2 (mCons (mIxC 2 (mVar 5)) (mCons (mOp gAdd (mIxC 2 (mVar 4)) (mOp gIx (mVar 0) (mVar 5))) mNil)) ρ (vC n v) = .ok (.int x) (vC n v) := by
      rw [ev_Bi, ev_Cons, i1]
      simp only [ev_bind_ok]
      rw [ev_Cons, opI (z := .int (v r.1 + dl r.2.1)) i2 i3 rfl]
      rfl
    have g := itL (i := 2) (n := 0) (j := r.2.1) (ρ := ρ) (S := vC n v) (ds := vD n v) (k := (r.2.1 : Int)) (fi := mVar 5) (d := .int x) rfl rfl rfl (by rw [vD_len]; exact ixN_nat h2)
    rw [ev_Asg, show mBi gMax2 _ (eL n dl rs x3 (vv (nI r.1)) (vv (nI r.2.1)) (vv (.int r.2.2))) (vC n v) = _ from e, ev_bindS_ok, show gIt 2 (mVar 5) (.int x) (eL n dl rs x3 (vv (nI r.1)) (vv (nI r.2.1)) (vv (.int r.2.2))) (vC n v) = _ from g]
    refine congrArg (Out.ok _) (set_vC.trans ?_)
    have : (fun i => if i = r.2.1 then x else v i) = gup v (r.1, r.2.1, dl r.2.1) := by
      funext i
      unfold gup
      by_cases e : i = r.2.1
      · subst e; exact (if_pos rfl).trans (if_pos rfl).symm
      · exact (if_neg e).trans (if_neg e).symm
    rw [this]
theorem lp_loop {n : Nat} {dl : Nat → Int} {rs : List Rule} {x3 : Option EV} : ∀ (qs : List Rule) (v : Nat → Int) (x4 x5 x6 : Option EV), InR n qs →
    ∃ y4 y5 y6, forL (.tp [(.nm 4), (.nm 5), (.nm 6)]) bLp (qs.map ruD) (eL n dl rs x3 x4 x5 x6) (vC n v) = .ok (.nx, eL n dl rs x3 y4 y5 y6) (vC n (gs v (bareR dl qs)))
  | [], v, x4, x5, x6, _ => ⟨x4, x5, x6, rfl⟩
  | r :: qs, v, x4, x5, x6, h => by
    obtain ⟨h1, h2⟩ := h r List.mem_cons_self
    obtain ⟨y4, y5, y6, e⟩ := lp_loop (n := n) (dl := dl) (rs := rs) (x3 := x3) qs (if r.2.2 == 0 then gup v (r.1, r.2.1, dl r.2.1) else v) (vv (nI r.1)) (vv (nI r.2.1)) (vv (.int r.2.2)) fun x hx => h x (List.mem_cons_of_mem _ hx)
    refine ⟨y4, y5, y6, ?_⟩
    rw [List.map_cons]
    refine (forL_step (ρ1 := eL n dl rs x3 (vv (nI r.1)) (vv (nI r.2.1)) (vv (.int r.2.2))) rfl (lp_step h1 h2)).trans (e.trans ?_)
    have : gs (if r.2.2 == 0 then gup v (r.1, r.2.1, dl r.2.1) else v) (bareR dl qs) = gs v (bareR dl (r :: qs)) := by
      unfold bareR
      cases hb : (r.2.2 == 0)
      · rw [List.filter_cons, hb]
        rfl
      · rw [List.filter_cons, hb]
        rfl
    rw [this]
def bLt : DSn := (mFor (mIt (mVar 1)) (.tp [(.nm 4), (.nm 5), (.nm 6)]) bLp)
theorem lp_turns {n : Nat} {dl : Nat → Int} {rs : List Rule} (hn : InR n rs) : ∀ (m k : Nat) (x3 x4 x5 x6 : Option EV),
    ∃ y3 y4 y5 y6, forL (.nm 3) bLt ((List.range' k m).map nI) (eL n dl rs x3 x4 x5 x6) (vC n (Bst dl rs k)) = .ok (.nx, eL n dl rs y3 y4 y5 y6) (vC n (Bst dl rs (k + m)))
  | 0, k, x3, x4, x5, x6 => ⟨x3, x4, x5, x6, rfl⟩
  | m + 1, k, x3, x4, x5, x6 => by
    obtain ⟨z4, z5, z6, e1⟩ := lp_loop (n := n) (dl := dl) (rs := rs) (x3 := vv (nI k)) rs (Bst dl rs k) x4 x5 x6 hn
    obtain ⟨y3, y4, y5, y6, e2⟩ := lp_turns hn m (k + 1) (vv (nI k)) z4 z5 z6
    refine ⟨y3, y4, y5, y6, ?_⟩
    rw [List.range'_succ, List.map_cons]
    refine (forL_step (ρ1 := eL n dl rs (vv (nI k)) x4 x5 x6) (ρ2 := eL n dl rs (vv (nI k)) z4 z5 z6) (S2 := vC n (Bst dl rs (k + 1))) rfl ?_).trans ?_
    · unfold bLt
      rw [ev_For, show mIt (mVar 1) (eL n dl rs (vv (nI k)) x4 x5 x6) (vC n (Bst dl rs k)) = .ok (rs.map ruD) (vC n (Bst dl rs k)) from rfl, ev_bindS_ok]
      exact e1
    · rw [show k + (m + 1) = k + 1 + m by omega]
      exact e2
end Pr

/-! circuits: wires moved by lags -/
namespace Pr
open PySem L2 DL
theorem denB_exn {N : Nat} {es : List EV} {f : DSn} {S : Store} {x : Exn} {ρ1 : DL.Env} {S1 : Store} (h : f (es.map some ++ List.replicate (N - es.length) none) S = .ok (.ex x, ρ1) S1) : denB N f es S = .ex x (S1.take S.length) := by unfold denB; rw [h]
theorem seq_exn {f g : DSn} {ρ ρ1 : DL.Env} {S S1 : Store} {x : Exn} (h : f ρ S = .ok (.ex x, ρ1) S1) : mSeq f g ρ S = .ok (.ex x, ρ1) S1 := by unfold mSeq; rw [h]
theorem lay_ru (r : Rule) : (ruD r).py.canLay0 = true ∧ (ruD r).py.depth ≤ 1 := lay_tup (k := 0) fun d hd => by
  rcases List.mem_cons.mp hd with rfl | hd
  · exact lay_int _
  · rcases List.mem_cons.mp hd with rfl | hd
    · exact lay_int _
    · obtain rfl : d = .int r.2.2 := by simpa using hd
      exact lay_int _
theorem deq_ru (r : Rule) : deq (ruD r) (ruD r) = true := by
  unfold ruD
  rw [deq_tt]
  have h : ∀ i : Int, deq (.int i) (.int i) = true := fun i => by show (i == i) = true; simp
  have h' : ∀ i : Nat, deq (nI i) (nI i) = true := fun i => h i
  simp [h, h']
theorem gNe_wires (rs : List Rule) : gNe (wiresD rs) (wiresD rs) = some false := by
  have ok : (wiresD rs).okd = true := okd_tup (k := 1) (fun d hd => by
    obtain ⟨r, _, rfl⟩ := List.mem_map.mp hd
    exact lay_ru r) (by decide)
  have dq : deq (wiresD rs) (wiresD rs) = true := by
    unfold wiresD
    rw [deq_tt]
    have : ∀ l : List Rule, (List.zipWith deq (l.map ruD) (l.map ruD)).all id = true := fun l => by
      induction l with
      | nil => rfl
      | cons r l ih =>
        show (deq (ruD r) (ruD r) && (List.zipWith deq (l.map ruD) (l.map ruD)).all id) = true
        rw [deq_ru, ih]; rfl
    rw [this]; simp
  show (if _ then some (!deq _ _) else none) = _
  rw [if_pos ⟨ok, ok⟩, dq]; rfl
def moved (v : Nat → Int) (rs : List Rule) : List Rule := rs.map fun r => (r.1, r.2.1, r.2.2 + v r.2.1 - v r.1)
theorem with_spec {n : Nat} {v : Nat → Int} {rs : List Rule} (hn : InR n rs) (hl : rs.length ≤ 1000) : d_with_lags [.v (wiresD rs), .v (delD n v)] [] = .ok (wiresD (moved v rs)) [] := by
  let ρ : DL.Env := [vv (wiresD rs), vv (delD n v), none, none, none]
  have l := lcA1 (tg := .tp [(.nm 2), (.nm 3), (.nm 4)]) (fe := mTup (mCons (mVar 2) (mCons (mVar 3) (mCons (mOp gSub (mOp gAdd (mVar 4) (mOp gIx (mVar 1) (mVar 3))) (mOp gIx (mVar 1) (mVar 2))) mNil)))) (ρ := ρ) (S := []) ruD (fun r => ruD (r.1, r.2.1, r.2.2 + v r.2.1 - v r.1)) rs (fun r hr => by
    obtain ⟨h1, h2⟩ := hn r hr
    let ρ' : DL.Env := [vv (wiresD rs), vv (delD n v), vv (nI r.1), vv (nI r.2.1), vv (.int r.2.2)]
    have z1 : mOp gIx (mVar 1) (mVar 3) ρ' [] = .ok (.int (v r.2.1)) [] := opI (x := delD n v) (y := nI r.2.1) rfl rfl (vD_ix h2)
    have z0 : mOp gIx (mVar 1) (mVar 2) ρ' [] = .ok (.int (v r.1)) [] := opI (x := delD n v) (y := nI r.1) rfl rfl (vD_ix h1)
    exact ⟨ρ', rfl, t3 (x := nI r.1) (y := nI r.2.1) (z := .int (r.2.2 + v r.2.1 - v r.1)) rfl rfl (opI (opI (x := .int r.2.2) rfl z1 rfl) z0 rfl)⟩) (by rw [lim_is]; omega)
  refine denB_rt (ρ1 := ρ) (S1 := []) ?_
  show b_with_lags ρ [] = _
  unfold b_with_lags
  rw [ev_Ret, ev_Bi, ev_Cons, ev_Lc, show mIt (mVar 0) ρ [] = .ok (rs.map ruD) [] from rfl, ev_bind_ok, show wipeE ρ [2, 3, 4] = ρ from rfl, l]
  unfold moved wiresD
  rw [List.map_map]
  rfl
def xLags : Exn := ⟨"BadLags", none⟩
def eK (n : Nat) (dl : Nat → Int) (rs : List Rule) (p : D) : DL.Env := [vv (delD n dl), vv (wiresD rs), vv p, vv (nI n), none, none, none]
theorem ck_len {n : Nat} {dl : Nat → Int} {rs : List Rule} {p : D} : mSet 3 (mV (mBi gLen (mCons (mVar 0) mNil))) [vv (delD n dl), vv (wiresD rs), vv p, none, none, none, none] [] = .ok (.nx, eK n dl rs p) [] := by
  refine (st_set (d := nI n) (S1 := []) ?_).trans rfl
  rw [ev_Bi, ev_Cons, show mVar 0 [vv (delD n dl), vv (wiresD rs), vv p, none, none, none, none] [] = .ok (delD n dl) [] from rfl]
  simp only [ev_bind_ok, ev_Nil, lenD, ev_lift_some]
end Pr

/-! k64: drawn circuits, the law -/
namespace Pr
open PySem L2 DL
theorem list_vD {ys : List Int} {n : Nat} (h : ys.length = n) : ys.map D.int = vD n fun i => ys.getD i 0 := by
  subst h
  unfold vD
  apply List.ext_getElem?
  intro i
  by_cases hi : i < ys.length
  · simp [hi]
  · simp [hi]
theorem draw {ρ : DL.Env} {c : Cell} {fb : DEn} {B : Int} {i : Nat} {R : Store} (hρ : ρ[i]? = some (some (.cel 0))) (hB : fb ρ (some c :: R) = .ok (.int B) (some c :: R)) (h0 : 0 < B) (h1 : B < 1073741824) (hc : RowOk c) :
    ∃ a c', 0 ≤ a ∧ a < B ∧ RowOk c' ∧ mCall d__law_taken 2 (mConsE (mCel i) (mConsE (mV fb) mNilE)) ρ (some c :: R) = .ok (.int a) (some c' :: R) := by
  obtain ⟨a, c', a0, a1, hc', e⟩ := taken hc h0 h1
  have k := callC2 (S := some c :: R) (n := 0) (F := d__law_taken) rfl e
  refine ⟨a, c', a0, a1, hc', ?_⟩
  have hcel : mCel i ρ (some c :: R) = .ok (.cel 0) (some c :: R) := by unfold mCel; rw [hρ]
  rw [ev_Call, ev_ConsE, hcel]
  simp only [ev_bind_ok, ev_ConsE, ev_V, hB, ev_NilE, List.length_cons, List.length_nil, Nat.zero_add, if_true]
  exact k
theorem draw2 {ρ : DL.Env} {c c1 : Cell} {fb : DEn} {B : Int} {i : Nat} {R : Store} (hρ : ρ[i]? = some (some (.cel 0))) (hB : fb ρ (some c :: R) = .ok (.int B) (some c1 :: R)) (h0 : 0 < B) (h1 : B < 1073741824) (hc : RowOk c1) :
    ∃ a c', 0 ≤ a ∧ a < B ∧ RowOk c' ∧ mCall d__law_taken 2 (mConsE (mCel i) (mConsE (mV fb) mNilE)) ρ (some c :: R) = .ok (.int a) (some c' :: R) := by
  obtain ⟨a, c', a0, a1, hc', e⟩ := taken hc h0 h1
  have k := callC2 (S := some c1 :: R) (n := 0) (F := d__law_taken) rfl e
  refine ⟨a, c', a0, a1, hc', ?_⟩
  have hcel : mCel i ρ (some c :: R) = .ok (.cel 0) (some c :: R) := by unfold mCel; rw [hρ]
  rw [ev_Call, ev_ConsE, hcel]
  simp only [ev_bind_ok, ev_ConsE, ev_V, hB, ev_NilE, List.length_cons, List.length_nil, Nat.zero_add, if_true]
  exact k
theorem pickN {ρ : DL.Env} {c : Cell} {fb : DEn} {ds : List D} {i : Nat} {R : Store} (hρ : ρ[i]? = some (some (.cel 0))) (hB : fb ρ (some c :: R) = .ok (.lst ds) (some c :: R)) (h0 : ds ≠ []) (h1 : ds.length < 1073741824) (hc : RowOk c) :
    ∃ (j : Nat) (d : D) (c' : Cell), ds[j]? = some d ∧ RowOk c' ∧ mCall d__law_pick 2 (mConsE (mCel i) (mConsE (mV fb) mNilE)) ρ (some c :: R) = .ok d (some c' :: R) := by
  obtain ⟨j, d, c', e1, hc', e2⟩ := pick_spec hc h0 h1
  have k := callC2 (S := some c :: R) (n := 0) (F := d__law_pick) rfl e2
  refine ⟨j, d, c', e1, hc', ?_⟩
  have hcel : mCel i ρ (some c :: R) = .ok (.cel 0) (some c :: R) := by unfold mCel; rw [hρ]
  rw [ev_Call, ev_ConsE, hcel]
  simp only [ev_bind_ok, ev_ConsE, ev_V, hB, ev_NilE, List.length_cons, List.length_nil, Nat.zero_add, if_true]
  exact k

theorem metL2 {i n : Nat} {g : List D → List D → Option (List D × D)} {fs : DDn} {ρ : DL.Env} {S S1 : Store} {ys ds0 ds ds' : List D} {d : D} (h1 : ρ[i]? = some (some (.cel n))) (h2 : S[n]? = some (some (.lst ds0))) (h3 : fs ρ S = .ok ys S1) (h2' : S1[n]? = some (some (.lst ds))) (h4 : g ds ys = some (ds', d)) :
    mMet i g fs ρ S = .ok d (S1.set n (some (.lst ds'))) := by
  unfold mMet
  rw [h1]
  dsimp only
  rw [h2]
  dsimp only
  rw [h3, ev_bind_ok, h2']
  dsimp only
  rw [h4]
/-! _law_circuit -/
def eQ (mo n : Nat) (top : Int) (ds : D) (x2 x7 x8 x9 : Option EV) : DL.Env := [some (.cel 0), vv (nI mo), x2, vv (nI n), vv (.int top), vv ds, some (.cel 1), x7, x8, x9, none]
def wC (rs : List Rule) : Option Cell := some (.lst (rs.map ruD))
structure Wires (n : Nat) (rs : List Rule) : Prop where
  inr : InR n rs
  reg : ∀ r ∈ rs, 0 ≤ r.2.2 ∧ r.2.2 ≤ 9
  up : Up rs
theorem Wires.snoc {n : Nat} {rs : List Rule} {r : Rule} (h : Wires n rs) (h1 : r.1 < n) (h2 : r.2.1 < n) (g1 : 0 ≤ r.2.2) (g2 : r.2.2 ≤ 9) (u : r.2.2 = 0 → r.1 < r.2.1) : Wires n (rs ++ [r]) := by
  have sp : ∀ x ∈ rs ++ [r], x ∈ rs ∨ x = r := fun x hx => by
    rcases List.mem_append.mp hx with hx | hx
    · exact .inl hx
    · exact .inr (by simpa using hx)
  refine ⟨fun x hx => ?_, fun x hx => ?_, fun x hx => ?_⟩
  · rcases sp x hx with hx | rfl
    · exact h.inr x hx
    · exact ⟨h1, h2⟩
  · rcases sp x hx with hx | rfl
    · exact h.reg x hx
    · exact ⟨g1, g2⟩
  · rcases sp x hx with hx | rfl
    · exact h.up x hx
    · exact u
def bWire : DSn := (mSeq (mPar2 8 9 (mConsE (mV (mCall d__law_taken 2 (mConsE (mCel 0) (mConsE (mV (mVar 3)) mNilE)))) (mConsE (mV (mCall d__law_taken 2 (mConsE (mCel 0) (mConsE (mV (mVar 3)) mNilE)))) mNilE)))
  (mSeq (mSet 7 (mV (mIf (mCmp gLt (mVar 8) (mVar 9)) (mC (.int 0)) (mC (.int 1)))))
  (mDrop (mMet 6 gApp (mCons (mTup (mCons (mVar 8) (mCons (mVar 9) (mCons (mOp gAdd (mVar 7) (mCall d__law_taken 2 (mConsE (mCel 0) (mConsE (mV (mCall d__law_pick 2 (mConsE (mCel 0) (mConsE (mV (mLst (mCons (mC (.int 1)) (mCons (mC (.int 2)) (mCons (mC (.int 4)) mNil))))) mNilE)))) mNilE)))) mNil)))) mNil)))))
theorem wire_step {mo n : Nat} {top : Int} {ds : D} {x2 x7 x8 x9 : Option EV} {c : Cell} {rs : List Rule} (hc : RowOk c) (h1 : 1 ≤ n) (h8 : n ≤ 8) (hs : Wires n rs) (hl : rs.length ≤ 100) :
    ∃ (r : Rule) (c' : Cell) (y7 y8 y9 : Option EV), RowOk c' ∧ Wires n (rs ++ [r]) ∧ bWire (eQ mo n top ds x2 x7 x8 x9) [some c, wC rs] = .ok (.nx, eQ mo n top ds x2 y7 y8 y9) [some c', wC (rs ++ [r])] := by
  obtain ⟨a, c1, a0, a1, hc1, e1⟩ := draw (ρ := eQ mo n top ds x2 x7 x8 x9) (i := 0) (fb := mVar 3) (B := (n : Int)) (R := [wC rs]) rfl rfl (by omega) (by omega) hc
  obtain ⟨b, c2, b0, b1, hc2, e2⟩ := draw (ρ := eQ mo n top ds x2 x7 x8 x9) (i := 0) (fb := mVar 3) (B := (n : Int)) (R := [wC rs]) rfl rfl (by omega) (by omega) hc1
  obtain ⟨o, rfl⟩ : ∃ o : Nat, a = (o : Int) := ⟨a.toNat, by omega⟩
  obtain ⟨p, rfl⟩ : ∃ p : Nat, b = (p : Int) := ⟨b.toNat, by omega⟩
  have s1 : mPar2 8 9 (mConsE (mV (mCall d__law_taken 2 (mConsE (mCel 0) (mConsE (mV (mVar 3)) mNilE)))) (mConsE (mV (mCall d__law_taken 2 (mConsE (mCel 0) (mConsE (mV (mVar 3)) mNilE)))) mNilE)) (eQ mo n top ds x2 x7 x8 x9) [some c, wC rs] = .ok (.nx, eQ mo n top ds x2 x7 (vv (nI o)) (vv (nI p))) [some c2, wC rs] := by
    rw [ev_Par2, ev_ConsE, ev_V, e1]
    simp only [ev_bind_ok, ev_ConsE, ev_V]
    rw [e2]
    simp only [ev_bind_ok, ev_NilE, ev_bindS_ok]
    rfl
  obtain ⟨le, hle, hle2, s2⟩ : ∃ le : Int, (0 ≤ le ∧ le ≤ 1) ∧ (le = 0 → o < p) ∧ mSet 7 (mV (mIf (mCmp gLt (mVar 8) (mVar 9)) (mC (.int 0)) (mC (.int 1)))) (eQ mo n top ds x2 x7 (vv (nI o)) (vv (nI p))) [some c2, wC rs] = .ok (.nx, eQ mo n top ds x2 (vv (.int le)) (vv (nI o)) (vv (nI p))) [some c2, wC rs] := by
    have t : mCmp gLt (mVar 8) (mVar 9) (eQ mo n top ds x2 x7 (vv (nI o)) (vv (nI p))) [some c2, wC rs] = .ok (decide ((o : Int) < (p : Int))) [some c2, wC rs] := rfl
    by_cases h : (o : Int) < (p : Int)
    · refine ⟨0, by omega, fun _ => by omega, (st_set (d := .int 0) (S1 := [some c2, wC rs]) ?_).trans rfl⟩
      rw [ev_If, t, decide_eq_true h]; rfl
    · refine ⟨1, by omega, fun z => by omega, (st_set (d := .int 1) (S1 := [some c2, wC rs]) ?_).trans rfl⟩
      rw [ev_If, t, decide_eq_false h]; rfl
  let ρ3 := eQ mo n top ds x2 (vv (.int le)) (vv (nI o)) (vv (nI p))
  have el : mLst (mCons (mC (.int 1)) (mCons (mC (.int 2)) (mCons (mC (.int 4)) mNil))) ρ3 [some c2, wC rs] = .ok (.lst [.int 1, .int 2, .int 4]) [some c2, wC rs] := by
    show (if ([.int 1, .int 2, .int 4] : List D).length ≤ lim then Out.ok (D.lst [.int 1, .int 2, .int 4]) [some c2, wC rs] else .bad) = _
    exact if_pos (by rw [lim_is]; decide)
  obtain ⟨pi, pd, c3, hpi, hc3, e3⟩ := pickN (ρ := ρ3) (i := 0) (fb := mLst (mCons (mC (.int 1)) (mCons (mC (.int 2)) (mCons (mC (.int 4)) mNil)))) (R := [wC rs]) rfl el (by simp) (by decide) hc2
  obtain ⟨w, hw, rfl⟩ : ∃ w : Int, (1 ≤ w ∧ w ≤ 4) ∧ pd = .int w := by
    match pi, hpi with
    | 0, h => exact ⟨1, by decide, (Option.some.inj h).symm⟩
    | 1, h => exact ⟨2, by decide, (Option.some.inj h).symm⟩
    | 2, h => exact ⟨4, by decide, (Option.some.inj h).symm⟩
    | k + 3, h => simp at h
  obtain ⟨q, c4, q0, q1, hc4, e4⟩ := draw2 (ρ := ρ3) (i := 0) (B := w) (R := [wC rs]) rfl e3 (by omega) (by omega) hc3
  have ev : mOp gAdd (mVar 7) (mCall d__law_taken 2 (mConsE (mCel 0) (mConsE (mV (mCall d__law_pick 2 (mConsE (mCel 0) (mConsE (mV (mLst (mCons (mC (.int 1)) (mCons (mC (.int 2)) (mCons (mC (.int 4)) mNil))))) mNilE)))) mNilE))) ρ3 [some c2, wC rs] = .ok (.int (le + q)) [some c4, wC rs] := by
    rw [ev_Op, show mVar 7 ρ3 [some c2, wC rs] = .ok (.int le) [some c2, wC rs] from rfl, ev_bind_ok, e4]
    rfl
  have et : mCons (mTup (mCons (mVar 8) (mCons (mVar 9) (mCons (mOp gAdd (mVar 7) (mCall d__law_taken 2 (mConsE (mCel 0) (mConsE (mV (mCall d__law_pick 2 (mConsE (mCel 0) (mConsE (mV (mLst (mCons (mC (.int 1)) (mCons (mC (.int 2)) (mCons (mC (.int 4)) mNil))))) mNilE)))) mNilE)))) mNil)))) mNil ρ3 [some c2, wC rs] = .ok [ruD (o, p, le + q)] [some c4, wC rs] := by
    rw [ev_Cons, t3 (x := nI o) (y := nI p) (z := .int (le + q)) (S1 := [some c2, wC rs]) (S2 := [some c2, wC rs]) (S := [some c2, wC rs]) rfl rfl ev]
    rfl
  have g : gApp (rs.map ruD) [ruD (o, p, le + q)] = some ((rs ++ [(o, p, le + q)]).map ruD, .non) := by
    show (if (rs.map ruD).length < lim then some (rs.map ruD ++ [ruD (o, p, le + q)], D.non) else none) = _
    rw [if_pos (by rw [List.length_map, lim_is]; omega), List.map_append]
    rfl
  have z := metL2 (i := 6) (n := 1) (ρ := ρ3) (S := [some c2, wC rs]) (S1 := [some c4, wC rs]) (ds := rs.map ruD) (ds0 := rs.map ruD) rfl rfl et rfl g
  refine ⟨(o, p, le + q), c4, vv (.int le), vv (nI o), vv (nI p), hc4, hs.snoc (by show o < n; omega) (by show p < n; omega) (by show 0 ≤ le + q; omega) (by show le + q ≤ 9; omega) (fun u => hle2 (by have u : le + q = 0 := u; omega)), ?_⟩
  unfold bWire
  refine (seq_nx s1).trans ((seq_nx s2).trans ?_)
  unfold mDrop
  rw [z]
  rfl
theorem wires_loop {mo n : Nat} {top : Int} {ds : D} (h1 : 1 ≤ n) (h8 : n ≤ 8) : ∀ (k k0 : Nat) (c : Cell) (rs : List Rule) (x2 x7 x8 x9 : Option EV), RowOk c → Wires n rs → rs.length + k ≤ 100 →
    ∃ (rs' : List Rule) (c' : Cell) (y2 y7 y8 y9 : Option EV), RowOk c' ∧ Wires n rs' ∧ rs'.length = rs.length + k ∧ forL (.nm 2) bWire ((List.range' k0 k).map nI) (eQ mo n top ds x2 x7 x8 x9) [some c, wC rs] = .ok (.nx, eQ mo n top ds y2 y7 y8 y9) [some c', wC rs']
  | 0, k0, c, rs, x2, x7, x8, x9, hc, hs, _ => ⟨rs, c, x2, x7, x8, x9, hc, hs, rfl, rfl⟩
  | k + 1, k0, c, rs, x2, x7, x8, x9, hc, hs, hk => by
    obtain ⟨r, c1, y7, y8, y9, hc1, hs1, e1⟩ := wire_step (mo := mo) (top := top) (ds := ds) (x2 := vv (nI k0)) (x7 := x7) (x8 := x8) (x9 := x9) hc h1 h8 hs (by omega)
    obtain ⟨rs', c', z2, z7, z8, z9, hc', hs', hl', e⟩ := wires_loop h1 h8 k (k0 + 1) c1 (rs ++ [r]) (vv (nI k0)) y7 y8 y9 hc1 hs1 (by simp; omega)
    refine ⟨rs', c', z2, z7, z8, z9, hc', hs', by rw [hl']; simp; omega, ?_⟩
    rw [List.range'_succ, List.map_cons]
    exact (forL_step (ρ1 := eQ mo n top ds (vv (nI k0)) x7 x8 x9) rfl e1).trans e
theorem law_circuit_spec {c : Cell} {mo : Nat} (hc : RowOk c) (h1 : 1 ≤ mo) (h8 : mo ≤ 8) : ∃ (n : Nat) (dl : Nat → Int) (rs : List Rule) (c' : Cell), Circ n dl rs ∧ n ≤ mo ∧ RowOk c' ∧ d__law_circuit [.cel 0, .v (nI mo)] [some c] = .ok (.tup [delD n dl, wiresD rs]) [some c'] := by
  let ρ0 : DL.Env := [some (.cel 0), vv (nI mo), none, none, none, none, none, none, none, none, none]
  obtain ⟨a, c1, a0, a1, hc1, e1⟩ := draw (ρ := ρ0) (i := 0) (fb := mVar 1) (B := (mo : Int)) (R := []) rfl rfl (by omega) (by omega) hc
  obtain ⟨n, en⟩ : ∃ n : Nat, (n : Int) = 1 + a := ⟨(1 + a).toNat, by omega⟩
  have el : mLst (mCons (mC (.int 3)) (mCons (mC (.int 10)) (mCons (mC (.int 51)) mNil))) ρ0 [some c1] = .ok (.lst [.int 3, .int 10, .int 51]) [some c1] := by
    show (if ([.int 3, .int 10, .int 51] : List D).length ≤ lim then Out.ok (D.lst [.int 3, .int 10, .int 51]) [some c1] else .bad) = _
    exact if_pos (by rw [lim_is]; decide)
  obtain ⟨pi, pd, c2, hpi, hc2, e2⟩ := pickN (ρ := ρ0) (i := 0) (fb := mLst (mCons (mC (.int 3)) (mCons (mC (.int 10)) (mCons (mC (.int 51)) mNil)))) (R := []) rfl el (by simp) (by decide) hc1
  obtain ⟨top, ht, rfl⟩ : ∃ w : Int, (1 ≤ w ∧ w ≤ 51) ∧ pd = .int w := by
    match pi, hpi with
    | 0, h => exact ⟨3, by decide, (Option.some.inj h).symm⟩
    | 1, h => exact ⟨10, by decide, (Option.some.inj h).symm⟩
    | 2, h => exact ⟨51, by decide, (Option.some.inj h).symm⟩
    | k + 3, h => simp at h
  let ρ1 : DL.Env := [some (.cel 0), vv (nI mo), none, vv (nI n), vv (.int top), none, none, none, none, none, none]
  have s1 : mAsg (mTup (mCons (mOp gAdd (mC (.int 1)) (mCall d__law_taken 2 (mConsE (mCel 0) (mConsE (mV (mVar 1)) mNilE)))) (mCons (mCall d__law_pick 2 (mConsE (mCel 0) (mConsE (mV (mLst (mCons (mC (.int 3)) (mCons (mC (.int 10)) (mCons (mC (.int 51)) mNil))))) mNilE))) mNil))) (gTp (DL.gCons (gNm 3) (DL.gCons (gNm 4) DL.gNil)) 2) ρ0 [some c] = .ok (.nx, ρ1) [some c2] := by
    have z1 : mOp gAdd (mC (.int 1)) (mCall d__law_taken 2 (mConsE (mCel 0) (mConsE (mV (mVar 1)) mNilE))) ρ0 [some c] = .ok (nI n) [some c1] := by
      rw [ev_Op, ev_C, ev_bind_ok, e1]; unfold nI; rw [en]; rfl
    rw [ev_Asg, t2 (x := nI n) (y := .int top) z1 e2]
    rfl
  obtain ⟨xs, c3, q1, q2, hc3, e3⟩ := drawL (tg := .nm 10) (fe := mCall d__law_taken 2 (mConsE (mCel 0) (mConsE (mV (mVar 4)) mNilE))) (ρ := ρ1) (P := fun x => ∃ a : Int, x = .int a ∧ 0 ≤ a ∧ a ≤ 50) (R := []) (fun d c hc => by
    obtain ⟨a, c', a0, a1, hc', e⟩ := draw (ρ := ρ1.set 10 (some (.v d))) (i := 0) (fb := mVar 4) (B := top) (R := []) rfl rfl (by omega) (by omega) hc
    exact ⟨_, .int a, c', rfl, ⟨a, rfl, a0, by omega⟩, hc', e⟩) ((List.range n).map nI) c2 [] hc2 (by rw [lim_is]; simp; omega)
  obtain ⟨ds, rfl, dl1, dl2⟩ := as_map (emb := D.int) (P := fun a => 0 ≤ a ∧ a ≤ 50) q2
  have hlen : ds.length = n := by rw [dl1, q1]; simp
  let dl : Nat → Int := fun i => ds.getD i 0
  have hdl : ds.map D.int = vD n dl := list_vD hlen
  have db : ∀ g, 0 ≤ dl g ∧ dl g ≤ 50 := fun g => by
    show 0 ≤ ds.getD g 0 ∧ ds.getD g 0 ≤ 50
    rw [List.getD_eq_getElem?_getD]
    cases h : ds[g]? with
    | none => exact ⟨by decide, by decide⟩
    | some x => exact dl2 x (List.mem_of_getElem? h)
  let ρ2 := eQ mo n top (delD n dl) none none none none
  have s2 : mPar2 5 6 (mConsE (mV (mBi gTuple (mCons (mLc (mRg1 (mVar 3)) (.nm 10) mYes (mCall d__law_taken 2 (mConsE (mCel 0) (mConsE (mV (mVar 4)) mNilE))) [10]) mNil))) (mConsE (mNew mNil) mNilE)) ρ1 [some c2] = .ok (.nx, ρ2) [some c3, wC []] := by
    have z1 : mBi gTuple (mCons (mLc (mRg1 (mVar 3)) (.nm 10) mYes (mCall d__law_taken 2 (mConsE (mCel 0) (mConsE (mV (mVar 4)) mNilE))) [10]) mNil) ρ1 [some c2] = .ok (delD n dl) [some c3] := by
      rw [List.nil_append, hdl] at e3
      rw [ev_Bi, ev_Cons, ev_Lc, rg1 (n := n) rfl (by omega), ev_bind_ok, show wipeE ρ1 [10] = ρ1 from rfl, e3]
      rfl
    have z2 : mNew mNil ρ1 [some c3] = .ok (.cel 1) [some c3, wC []] := by
      show (if ([] : List D).length ≤ lim then Out.ok (EV.cel 1) [some c3, some (.lst [])] else .bad) = _
      rw [if_pos (show ([] : List D).length ≤ lim from Nat.zero_le _)]
      rfl
    rw [ev_Par2, ev_ConsE, ev_V, z1]
    simp only [ev_bind_ok, ev_ConsE, z2, ev_NilE, ev_bindS_ok]
    rfl
  have hB : mOp gAdd (mOp gMul (mC (.int 2)) (mVar 3)) (mC (.int 2)) ρ2 [some c3, wC []] = .ok (.int (2 * (n : Int) + 2)) [some c3, wC []] := opI (opI (x := .int 2) (y := .int (n : Int)) rfl rfl (gMul_l (by decide))) rfl rfl
  obtain ⟨k, c4, k0, k1, hc4, e4⟩ := draw (ρ := ρ2) (i := 0) (R := [wC []]) rfl hB (by omega) (by omega) hc3
  obtain ⟨m, rfl⟩ : ∃ m : Nat, k = (m : Int) := ⟨k.toNat, by omega⟩
  obtain ⟨rs, c5, y2, y7, y8, y9, hc5, hs, hl, e5⟩ := wires_loop (mo := mo) (n := n) (top := top) (ds := delD n dl) (by omega) (by omega) m 0 c4 [] none none none none hc4 ⟨fun _ h => (by cases h), fun _ h => (by cases h), fun _ h => (by cases h)⟩ (by simp; omega)
  have hl : rs.length = m := by simpa using hl
  refine ⟨n, dl, rs, c5, ⟨by omega, by omega, fun g => (db g).1, fun g => (db g).2, by omega, hs.inr, hs.reg, ⟨fun i => i, ⟨by omega, hs.inr, hs.up, fun _ h => h⟩⟩⟩, by omega, hc5, ?_⟩
  refine denB_rt (ρ1 := eQ mo n top (delD n dl) y2 y7 y8 y9) (S1 := [some c5, wC rs]) ?_
  show b__law_circuit ρ0 [some c] = _
  unfold b__law_circuit
  refine (seq_nx s1).trans ((seq_nx s2).trans ((seq_nx (ρ1 := eQ mo n top (delD n dl) y2 y7 y8 y9) (S1 := [some c5, wC rs]) ?_).trans ?_))
  · rw [ev_For, rg1 e4 (by omega), ev_bindS_ok, List.range_eq_range']
    exact e5
  · rw [ev_Ret, t2 (x := delD n dl) (y := wiresD rs) (S := [some c5, wC rs]) (S1 := [some c5, wC rs]) (S2 := [some c5, wC rs]) rfl rfl]
    rfl
end Pr

/-! lags: what moves keep, the least ones -/
namespace Pr
open PySem L2 DL
/-- no wire has less than no register -/
def Val (rs : List Rule) (v : Nat → Int) : Prop := ∀ r ∈ rs, 0 ≤ r.2.2 + v r.2.1 - v r.1
def per (n : Nat) (dl : Nat → Int) (rs : List Rule) (v : Nat → Int) : Int := mxv n (sv dl (moved v rs))
theorem mem_moved {rs : List Rule} {v : Nat → Int} {r : Rule} (h : r ∈ moved v rs) : ∃ q ∈ rs, r = (q.1, q.2.1, q.2.2 + v q.2.1 - v q.1) := by
  obtain ⟨q, hq, rfl⟩ := List.mem_map.mp h
  exact ⟨q, hq, rfl⟩
theorem preds_moved {rs : List Rule} {v : Nat → Int} {g p : Nat} : p ∈ preds (moved v rs) g ↔ ∃ q ∈ rs, q.1 = p ∧ q.2.1 = g ∧ q.2.2 + v g - v p = 0 := by
  constructor
  · intro h
    obtain ⟨r, hr, rfl⟩ := List.mem_map.mp h
    obtain ⟨h1, h2⟩ := List.mem_filter.mp hr
    obtain ⟨h3, h4⟩ := List.mem_filter.mp h1
    obtain ⟨q, hq, rfl⟩ := mem_moved h3
    have e2 : q.2.1 = g := by simpa using h2
    have e1 : q.2.2 + v q.2.1 - v q.1 = 0 := by simpa using h4
    rw [e2] at e1
    exact ⟨q, hq, rfl, e2, e1⟩
  · rintro ⟨q, hq, rfl, rfl, h0⟩
    refine List.mem_map.mpr ⟨(q.1, q.2.1, q.2.2 + v q.2.1 - v q.1), List.mem_filter.mpr ⟨List.mem_filter.mpr ⟨List.mem_map.mpr ⟨q, hq, rfl⟩, ?_⟩, ?_⟩, rfl⟩
    · show ((q.2.2 + v q.2.1 - v q.1) == 0) = true
      rw [h0]
      rfl
    · show (q.2.1 == q.2.1) = true
      simp
section
variable {n : Nat} {dl : Nat → Int} {rs : List Rule} (C : Circ n dl rs)
include C
theorem moved_net {v : Nat → Int} (hv : Val rs v) : ∃ lv, Net n dl (moved v rs) lv := by
  have inr : InR n (moved v rs) := fun r hr => by
    obtain ⟨q, hq, rfl⟩ := mem_moved hr
    exact C.inr q hq
  let K := mxv n v
  obtain ⟨l0, L0⟩ := C.up
  have hK := (mxv_is (v := v) C.h1).2
  obtain ⟨lv, L⟩ := lv_of (rk := fun i => (K - v i).toNat * n + l0 i) C.h8 inr (fun r hr h0 => by
    obtain ⟨q, hq, rfl⟩ := mem_moved hr
    have h0 : q.2.2 + v q.2.1 - v q.1 = 0 := h0
    obtain ⟨i1, i2⟩ := C.inr q hq
    obtain ⟨g0, _⟩ := C.reg q hq
    have k1 := hK q.1 i1
    have k2 := hK q.2.1 i2
    show (K - v q.1).toNat * n + l0 q.1 < (K - v q.2.1).toNat * n + l0 q.2.1
    by_cases z : q.2.2 = 0
    · have u := L0.up q hq z
      have e : v q.1 = v q.2.1 := by omega
      rw [e]
      omega
    · have d : (K - v q.1).toNat + 1 ≤ (K - v q.2.1).toNat := by omega
      have m := Nat.mul_le_mul_right n d
      rw [Nat.add_mul, Nat.one_mul] at m
      have t := L0.top q.1 i1
      omega)
  exact ⟨lv, C.h1, C.d0, C.d1, by unfold moved; rw [List.length_map]; exact C.len, L⟩
theorem sv_nn (A : List Rule) (g : Nat) : 0 ≤ sv dl A g := sf_nn C.d0 _ _
/-- fewer bare wires, no greater sums -/
theorem sv_mono {A B : List Rule} {la lb : Nat → Nat} (LA : Lv n A la) (LB : Lv n B lb) {Q : Nat → Prop} (h : ∀ g, Q g → ∀ p ∈ preds A g, p ∈ preds B g ∧ Q p) : ∀ (k g : Nat), la g < k → Q g → sv dl A g ≤ sv dl B g
  | 0, g, hk, _ => by omega
  | k + 1, g, hk, hq => by
    rw [sv_is LA g, sv_is LB g]
    have : topO ((preds A g).map (sv dl A)) ≤ topO ((preds B g).map (sv dl B)) := by
      refine topO_lt (topO_nn fun x hx => ?_) fun x hx => ?_
      · obtain ⟨p, _, rfl⟩ := List.mem_map.mp hx
        exact sv_nn C B p
      · obtain ⟨p, hp, rfl⟩ := List.mem_map.mp hx
        obtain ⟨h1, h2⟩ := h g hq p hp
        have lt := (preds_lt LA hp).1
        have := sv_mono LA LB h k p (by omega) h2
        have := topO_le (List.mem_map.mpr ⟨p, h1, rfl⟩ : sv dl B p ∈ (preds B g).map (sv dl B))
        omega
    omega
/-- a late gate makes late what stands behind it -/
theorem late_next {A : List Rule} {lv : Nat → Nat} (L : Lv n A lv) {a b : Nat} (h : a ∈ preds A b) : sv dl A a ≤ sv dl A b := by
  rw [sv_is L b]
  have := topO_le (List.mem_map.mpr ⟨a, h, rfl⟩ : sv dl A a ∈ (preds A b).map (sv dl A))
  have := C.d0 b
  omega
/-- the late ones a register more -/
def lagUp (dl : Nat → Int) (rs : List Rule) (g : Int) (v : Nat → Int) (i : Nat) : Int := if sv dl (moved v rs) i > g then v i + 1 else v i
theorem lagUp_val {v : Nat → Int} {g : Int} (hv : Val rs v) : Val rs (lagUp dl rs g v) := fun r hr => by
  obtain ⟨lv, N⟩ := moved_net C hv
  have h := hv r hr
  by_cases z : r.2.2 + v r.2.1 - v r.1 = 0
  · have ln := late_next C N.lvl (preds_moved.mpr ⟨r, hr, rfl, rfl, z⟩)
    unfold lagUp
    split <;> split <;> omega
  · unfold lagUp
    split <;> split <;> omega
/-- lags with which no sum is above a goal stay above -/
theorem lagUp_below {u v : Nat → Int} {g : Int} (hv : Val rs v) (hu : Val rs u) (hp : per n dl rs u ≤ g) (h : ∀ i, i < n → v i ≤ u i) : ∀ i, i < n → lagUp dl rs g v i ≤ u i := fun i hi => by
  obtain ⟨lv, N⟩ := moved_net C hv
  obtain ⟨lu, M⟩ := moved_net C hu
  have key := sv_mono C N.lvl M.lvl (Q := fun j => j < n ∧ v j = u j) (fun b hb p hp' => by
    obtain ⟨q, hq, e1, e2, e0⟩ := preds_moved.mp hp'
    have pn : p < n := by rw [← e1]; exact (C.inr q hq).1
    have k := hu q hq
    rw [e1, e2] at k
    have := h p pn
    have := hb.2
    refine ⟨preds_moved.mpr ⟨q, hq, e1, e2, by omega⟩, pn, by omega⟩)
  unfold lagUp
  split
  · rename_i late
    by_cases e : v i = u i
    · have s := key (lv i + 1) i (by omega) ⟨hi, e⟩
      have : sv dl (moved u rs) i ≤ per n dl rs u := (mxv_is (v := sv dl (moved u rs)) C.h1).2 i hi
      omega
    · have := h i hi
      omega
  · exact h i hi
/-- a level that no lag has: all above may come down -/
def down (k : Int) (u : Nat → Int) (i : Nat) : Int := if u i > k then u i - 1 else u i
theorem down_ok {u : Nat → Int} {g k : Int} (hu : Val rs u) (hp : per n dl rs u ≤ g) (hk : ∀ i, i < n → u i ≠ k) : Val rs (down k u) ∧ per n dl rs (down k u) ≤ g := by
  have cases2 : ∀ r ∈ rs, 0 ≤ r.2.2 + down k u r.2.1 - down k u r.1 ∧ (r.2.2 + down k u r.2.1 - down k u r.1 = 0 → r.2.2 + u r.2.1 - u r.1 = 0) := fun r hr => by
    have h := hu r hr
    obtain ⟨i1, i2⟩ := C.inr r hr
    have k1 := hk r.1 i1
    have k2 := hk r.2.1 i2
    have g0 := (C.reg r hr).1
    unfold down
    split <;> split <;> exact ⟨by omega, by omega⟩
  have hd : Val rs (down k u) := fun r hr => (cases2 r hr).1
  refine ⟨hd, ?_⟩
  obtain ⟨lv, N⟩ := moved_net C hd
  obtain ⟨lu, M⟩ := moved_net C hu
  obtain ⟨i, hi, e⟩ := (mxv_is (v := sv dl (moved (down k u) rs)) C.h1).1
  have s := sv_mono C N.lvl M.lvl (Q := fun _ => True) (fun b _ p hp' => by
    obtain ⟨q, hq, e1, e2, e0⟩ := preds_moved.mp hp'
    have k2 := (cases2 q hq).2
    rw [e1, e2] at k2
    exact ⟨preds_moved.mpr ⟨q, hq, e1, e2, k2 e0⟩, trivial⟩) (lv i + 1) i (by omega) trivial
  have : sv dl (moved u rs) i ≤ per n dl rs u := (mxv_is (v := sv dl (moved u rs)) C.h1).2 i hi
  show mxv n (sv dl (moved (down k u) rs)) ≤ g
  omega
def sumN (n : Nat) (u : Nat → Int) : Int := ((List.range n).map u).sum
omit C in
theorem sum_lt : ∀ {l : List Nat} {u w : Nat → Int}, (∀ i ∈ l, u i ≤ w i) → (∃ i ∈ l, u i < w i) → (l.map u).sum < (l.map w).sum
  | [], _, _, _, ⟨_, h, _⟩ => by cases h
  | j :: l, u, w, h, ⟨i, hi, hlt⟩ => by
    have le : ∀ l : List Nat, (∀ i ∈ l, u i ≤ w i) → (l.map u).sum ≤ (l.map w).sum := fun l => by
      induction l with
      | nil => intro _; exact Int.le_refl _
      | cons j l ih =>
        intro h
        have := ih fun i hi => h i (List.mem_cons_of_mem _ hi)
        have := h j List.mem_cons_self
        rw [List.map_cons, List.map_cons, List.sum_cons, List.sum_cons]
        omega
    have t : ∀ i ∈ l, u i ≤ w i := fun i hi => h i (List.mem_cons_of_mem _ hi)
    rw [List.map_cons, List.map_cons, List.sum_cons, List.sum_cons]
    rcases List.mem_cons.mp hi with rfl | hi
    · have := le l t
      omega
    · have := sum_lt t ⟨i, hi, hlt⟩
      have := h j List.mem_cons_self
      omega
omit C in
theorem sum_nn {u : Nat → Int} (h : ∀ i, i < n → 0 ≤ u i) : 0 ≤ sumN n u := by
  have : ∀ l : List Nat, (∀ i ∈ l, 0 ≤ u i) → 0 ≤ (l.map u).sum := fun l => by
    induction l with
    | nil => intro _; exact Int.le_refl _
    | cons j l ih =>
      intro h
      have := ih fun i hi => h i (List.mem_cons_of_mem _ hi)
      have := h j List.mem_cons_self
      rw [List.map_cons, List.sum_cons]
      omega
  exact this _ fun i hi => h i (List.mem_range.mp hi)
omit C in
/-- of so many lags one above all the numbers of gates leaves a number out -/
theorem pigeon {u : Nat → Int} (h0 : ∀ i, i < n → 0 ≤ u i) {i : Nat} (hi : i < n) (hu : (n : Int) ≤ u i) : ∃ k : Nat, k < n ∧ ∀ j, j < n → u j ≠ (k : Int) := by
  refine Classical.byContradiction fun no => ?_
  have all : ∀ k : Nat, k < n → ∃ j, j < n ∧ u j = (k : Int) := fun k hk => Classical.byContradiction fun z => no ⟨k, hk, fun j hj e => z ⟨j, hj, e⟩⟩
  have sub : List.range n ⊆ ((List.range n).erase i).map fun j => (u j).toNat := fun k hk => by
    obtain ⟨j, hj, e⟩ := all k (List.mem_range.mp hk)
    have hk := List.mem_range.mp hk
    have ji : j ≠ i := fun z => by
      rw [z] at e
      omega
    exact List.mem_map.mpr ⟨j, (List.mem_erase_of_ne ji).mpr (List.mem_range.mpr hj), by show (u j).toNat = k; omega⟩
  have le := List.Nodup.length_le_of_subset List.nodup_range sub
  rw [List.length_map, List.length_erase_of_mem (List.mem_range.mpr hi), List.length_range] at le
  omega
theorem small {g : Int} : ∀ (s : Nat) (u : Nat → Int), Val rs u → (∀ i, i < n → 0 ≤ u i) → per n dl rs u ≤ g → sumN n u ≤ s → ∃ w, Val rs w ∧ (∀ i, i < n → 0 ≤ w i ∧ w i < n) ∧ per n dl rs w ≤ g
  | s, u, hu, h0, hp, hs => by
    by_cases z : ∀ i, i < n → u i < n
    · exact ⟨u, hu, fun i hi => ⟨h0 i hi, z i hi⟩, hp⟩
    · obtain ⟨i, hi, hn⟩ : ∃ i, i < n ∧ (n : Int) ≤ u i := Classical.byContradiction fun y => z fun i hi => Classical.byContradiction fun x => y ⟨i, hi, by omega⟩
      obtain ⟨k, hk, no⟩ := pigeon h0 hi hn
      obtain ⟨d1, d2⟩ := down_ok C hu hp no
      have lt : sumN n (down k u) < sumN n u := sum_lt (fun j _ => by unfold down; split <;> omega) ⟨i, List.mem_range.mpr hi, by unfold down; rw [if_pos (by omega)]; omega⟩
      have d0 : ∀ j, j < n → 0 ≤ down k u j := fun j hj => by
        have := h0 j hj
        unfold down
        split <;> omega
      have := sum_nn d0
      cases s with
      | zero => omega
      | succ s => exact small s (down k u) d1 d0 d2 (by omega)
/-- lags that do are to be had from 0 on, below the number of the gates -/
theorem small_of {u : Nat → Int} {g : Int} (hu : Val rs u) (hp : per n dl rs u ≤ g) : ∃ w, Val rs w ∧ (∀ i, i < n → 0 ≤ w i ∧ w i < n) ∧ per n dl rs w ≤ g := by
  -- all so much higher that none is below 0
  have hm := (mnv_is (v := u) C.h1).2
  let c := mnv n u
  have e : moved (fun i => u i - c) rs = moved u rs := by
    unfold moved
    refine List.map_congr_left fun r _ => ?_
    show (r.1, r.2.1, r.2.2 + (u r.2.1 - c) - (u r.1 - c)) = (r.1, r.2.1, r.2.2 + u r.2.1 - u r.1)
    congr 2
    omega
  have hw : Val rs (fun i => u i - c) := fun r hr => by
    have := hu r hr
    show 0 ≤ r.2.2 + (u r.2.1 - c) - (u r.1 - c)
    omega
  have h0 : ∀ i, i < n → 0 ≤ u i - c := fun i hi => by
    have := hm i hi
    show 0 ≤ u i - mnv n u
    omega
  refine small C (sumN n (fun i => u i - c)).toNat _ hw h0 (by unfold per; rw [e]; exact hp) ?_
  have := sum_nn (n := n) h0
  omega
end
end Pr

/-! the program's least lags -/
namespace Pr
open PySem L2 DL
theorem zip_rng {f g : Nat → D} : ∀ l : List Nat, zipD (l.map f) (l.map g) = l.map fun i => D.tup [f i, g i]
  | [] => rfl
  | i :: l => by
    show D.tup [f i, g i] :: zipD (l.map f) (l.map g) = _
    rw [zip_rng l]
    rfl
theorem seq_rt {f g : DSn} {ρ ρ1 : DL.Env} {S S1 : Store} {d : D} (h : f ρ S = .ok (.rt d, ρ1) S1) : mSeq f g ρ S = .ok (.rt d, ρ1) S1 := by unfold mSeq; rw [h]
theorem if_skip {t : DTn} {f : DSn} {ρ : DL.Env} {S : Store} (h : t ρ S = .ok false S) : mIfS t f mSkip ρ S = .ok (.nx, ρ) S := by
  rw [ev_IfS, h]
  rfl
theorem if_go {t : DTn} {f g : DSn} {ρ : DL.Env} {S : Store} (h : t ρ S = .ok true S) : mIfS t f g ρ S = f ρ S := by
  rw [ev_IfS, h]
  rfl
theorem cmp_ok {g : D → D → Option Bool} {fa fb : DEn} {ρ : DL.Env} {S : Store} {x y : D} {b : Bool} (ha : fa ρ S = .ok x S) (hb : fb ρ S = .ok y S) (h : g x y = some b) : mCmp g fa fb ρ S = .ok b S := by
  rw [ev_Cmp, ha, ev_bind_ok, hb, ev_bind_ok, h]
  rfl
theorem bi1 {g : List D → Option D} {fa : DEn} {ρ : DL.Env} {S : Store} {x y : D} (ha : fa ρ S = .ok x S) (h : g [x] = some y) : mBi g (mCons fa mNil) ρ S = .ok y S := by
  rw [ev_Bi, ev_Cons, ha]
  simp only [ev_bind_ok, ev_Nil, h]
  rfl
def eH (n : Nat) (dl : Nat → Int) (rs : List Rule) (g : Int) (v : Nat → Int) (x4 x5 x6 : Option EV) : DL.Env := [vv (delD n dl), vv (wiresD rs), vv (.int g), vv (delD n v), x4, x5, x6]
def tH : DTn := mCmp gLt (mBi gMax (mCons (mVar 3) mNil)) (mBi gLen (mCons (mVar 0) mNil))
def bH : DSn := (mSeq (mSet 4 (mV (mCall d_arrivals 2 (mConsE (mV (mVar 0)) (mConsE (mV (mCall d_with_lags 2 (mConsE (mV (mVar 1)) (mConsE (mV (mVar 3)) mNilE)))) mNilE)))))
  (mSeq (mIfS (mCmp gLe (mBi gMax (mCons (mVar 4) mNil)) (mVar 2)) (mRet (mVar 3)) mSkip)
  (mSet 3 (mV (mBi gTuple (mCons (mLc (mZipM (mVar 3) (mVar 4)) (.tp [(.nm 5), (.nm 6)]) mYes (mIf (mCmp gGt (mVar 6) (mVar 2)) (mOp gAdd (mVar 5) (mC (.int 1))) (mVar 5)) [5, 6]) mNil))))))
theorem sum_le {n : Nat} {v : Nat → Int} {K : Int} (h : ∀ i, i < n → v i ≤ K) : sumN n v ≤ K * n := by
  have : ∀ l : List Nat, (∀ i ∈ l, v i ≤ K) → (l.map v).sum ≤ K * l.length := fun l => by
    induction l with
    | nil => intro _; show (0 : Int) ≤ K * 0; omega
    | cons j l ih =>
      intro h
      have := ih fun i hi => h i (List.mem_cons_of_mem _ hi)
      have := h j List.mem_cons_self
      rw [List.map_cons, List.sum_cons, List.length_cons]
      have : K * ((l.length + 1 : Nat) : Int) = K * l.length + K := by grind
      omega
  have := this (List.range n) fun i hi => h i (List.mem_range.mp hi)
  rw [List.length_range] at this
  exact this
section
variable {n : Nat} {dl : Nat → Int} {rs : List Rule} (C : Circ n dl rs)
include C
theorem tH_is {g : Int} {v : Nat → Int} {x4 x5 x6 : Option EV} : tH (eH n dl rs g v x4 x5 x6) [] = .ok (decide (mxv n v < n)) [] :=
  cmp_ok (x := .int (mxv n v)) (y := nI n) (bi1 (x := delD n v) rfl (gMax_vD v C.h1).2) (bi1 (x := delD n dl) rfl (lenD n dl)) rfl
theorem arr_mv {g : Int} {v : Nat → Int} {x4 x5 x6 : Option EV} (hv : Val rs v) : mSet 4 (mV (mCall d_arrivals 2 (mConsE (mV (mVar 0)) (mConsE (mV (mCall d_with_lags 2 (mConsE (mV (mVar 1)) (mConsE (mV (mVar 3)) mNilE)))) mNilE)))) (eH n dl rs g v x4 x5 x6) [] = .ok (.nx, eH n dl rs g v (vv (.lst (vD n (sv dl (moved v rs))))) x5 x6) [] := by
  obtain ⟨lv, N⟩ := moved_net C hv
  have hl := C.len
  exact st_set (cl2 (x := delD n dl) rfl (cl2 (x := wiresD rs) (y := delD n v) rfl rfl (with_spec C.inr (by omega))) (arrivals_spec N))
theorem bH_end {g : Int} {v : Nat → Int} {x4 x5 x6 : Option EV} (hv : Val rs v) (h : per n dl rs v ≤ g) : ∃ ρ, bH (eH n dl rs g v x4 x5 x6) [] = .ok (.rt (delD n v), ρ) [] := by
  let ρ := eH n dl rs g v (vv (.lst (vD n (sv dl (moved v rs))))) x5 x6
  refine ⟨ρ, (seq_nx (arr_mv C hv)).trans (seq_rt ?_)⟩
  have t : mCmp gLe (mBi gMax (mCons (mVar 4) mNil)) (mVar 2) ρ [] = .ok true [] := by
    refine cmp_ok (x := .int (per n dl rs v)) (y := .int g) (bi1 (x := .lst (vD n (sv dl (moved v rs)))) rfl (gMax_vD _ C.h1).1) rfl ?_
    show some (decide (per n dl rs v ≤ g)) = _
    rw [decide_eq_true h]
  rw [if_go t]
  rfl
theorem bH_more {g : Int} {v : Nat → Int} {x4 x5 x6 : Option EV} (hv : Val rs v) (h : ¬ per n dl rs v ≤ g) : ∃ y4, bH (eH n dl rs g v x4 x5 x6) [] = .ok (.nx, eH n dl rs g (lagUp dl rs g v) y4 x5 x6) [] := by
  let s := sv dl (moved v rs)
  let ρ := eH n dl rs g v (vv (.lst (vD n s))) x5 x6
  have h8 := C.h8
  refine ⟨vv (.lst (vD n s)), (seq_nx (arr_mv C hv)).trans ((seq_nx (ρ1 := ρ) (S1 := []) (if_skip ?_)).trans ?_)⟩
  · refine cmp_ok (x := .int (per n dl rs v)) (y := .int g) (bi1 (x := .lst (vD n s)) rfl (gMax_vD _ C.h1).1) rfl ?_
    show some (decide (per n dl rs v ≤ g)) = _
    rw [decide_eq_false h]
  · have l := lcA1 (tg := .tp [(.nm 5), (.nm 6)]) (fe := mIf (mCmp gGt (mVar 6) (mVar 2)) (mOp gAdd (mVar 5) (mC (.int 1))) (mVar 5)) (ρ := wipeE ρ [5, 6]) (S := []) (fun i : Nat => D.tup [.int (v i), .int (s i)]) (fun i => .int (lagUp dl rs g v i)) (List.range n) (fun i hi => by
      refine ⟨[vv (delD n dl), vv (wiresD rs), vv (.int g), vv (delD n v), vv (.lst (vD n s)), vv (.int (v i)), vv (.int (s i))], rfl, ?_⟩
      rw [ev_If, cmp_ok (g := gGt) (x := .int (s i)) (y := .int g) (b := decide (s i > g)) (S := []) rfl rfl rfl, ev_bind_ok]
      unfold lagUp
      by_cases z : s i > g
      · rw [decide_eq_true z, if_pos rfl, if_pos z]
        rfl
      · rw [decide_eq_false z, if_neg (by decide), if_neg z]
        rfl) (by rw [lim_is, List.length_range]; omega)
    have z : mZipM (mVar 3) (mVar 4) ρ [] = .ok ((List.range n).map fun i => D.tup [.int (v i), .int (s i)]) [] := by
      show Out.ok (zipD ((List.range n).map fun i => D.int (v i)) ((List.range n).map fun i => D.int (s i))) [] = _
      rw [zip_rng]
    refine (st_set (d := delD n (lagUp dl rs g v)) (S1 := []) ?_).trans rfl
    show mBi _ _ ρ [] = _
    rw [ev_Bi, ev_Cons, ev_Lc, z, ev_bind_ok, l]
    rfl
theorem hl_loop {g : Int} : ∀ (fuel : Nat) (v : Nat → Int) (x4 x5 x6 : Option EV), Val rs v → (∀ i, i < n → 0 ≤ v i ∧ v i ≤ n) → (∀ u, Val rs u → per n dl rs u ≤ g → (∀ i, i < n → 0 ≤ u i) → ∀ i, i < n → v i ≤ u i) → (n : Int) * n - sumN n v < fuel →
    (∃ w ρ, whileL tH bH fuel (eH n dl rs g v x4 x5 x6) [] = .ok (.rt (delD n w), ρ) [] ∧ Val rs w ∧ (∀ i, i < n → 0 ≤ w i ∧ w i ≤ n) ∧ per n dl rs w ≤ g) ∨ (∃ ρ, whileL tH bH fuel (eH n dl rs g v x4 x5 x6) [] = .ok (.nx, ρ) [] ∧ ∀ u, Val rs u → g < per n dl rs u)
  | 0, v, x4, x5, x6, _, hb, _, hf => by
    have := sum_le (n := n) (v := v) (K := n) fun i hi => (hb i hi).2
    omega
  | fuel + 1, v, x4, x5, x6, hv, hb, hl, hf => by
    have t := tH_is C (g := g) (v := v) (x4 := x4) (x5 := x5) (x6 := x6)
    by_cases m : mxv n v < n
    · rw [decide_eq_true m] at t
      by_cases p : per n dl rs v ≤ g
      · obtain ⟨ρ, e⟩ := bH_end C (x4 := x4) (x5 := x5) (x6 := x6) hv p
        refine .inl ⟨v, ρ, ?_, hv, hb, p⟩
        unfold whileL
        rw [t, ev_bindS_ok, if_pos rfl, e]
      · obtain ⟨y4, e⟩ := bH_more C (x4 := x4) (x5 := x5) (x6 := x6) hv p
        have hb' : ∀ i, i < n → 0 ≤ lagUp dl rs g v i ∧ lagUp dl rs g v i ≤ n := fun i hi => by
          have := (mxv_is (v := v) C.h1).2 i hi
          have := hb i hi
          unfold lagUp
          split <;> omega
        obtain ⟨i, hi, ei⟩ := (mxv_is (v := sv dl (moved v rs)) C.h1).1
        have lt : sumN n v < sumN n (lagUp dl rs g v) := sum_lt (fun j _ => by unfold lagUp; split <;> omega) ⟨i, List.mem_range.mpr hi, by
          have : sv dl (moved v rs) i > g := by
            have : per n dl rs v = sv dl (moved v rs) i := ei
            omega
          unfold lagUp
          rw [if_pos this]
          omega⟩
        have r := hl_loop fuel (lagUp dl rs g v) y4 x5 x6 (lagUp_val C hv) hb' (fun u hu hp h0 => lagUp_below C hv hu hp (hl u hu hp h0)) (by omega)
        have w : whileL tH bH (fuel + 1) (eH n dl rs g v x4 x5 x6) [] = whileL tH bH fuel (eH n dl rs g (lagUp dl rs g v) y4 x5 x6) [] := by
          conv => lhs; unfold whileL
          rw [t, ev_bindS_ok, if_pos rfl, e]
        rw [w]
        exact r
    · rw [decide_eq_false m] at t
      refine .inr ⟨eH n dl rs g v x4 x5 x6, ?_, fun u hu => ?_⟩
      · unfold whileL
        rw [t, ev_bindS_ok]
        rfl
      · refine Classical.byContradiction fun no => ?_
        obtain ⟨w, w1, w2, w3⟩ := small_of C hu (show per n dl rs u ≤ g by omega)
        obtain ⟨i, hi, ei⟩ := (mxv_is (v := v) C.h1).1
        have := hl w w1 w3 (fun j hj => (w2 j hj).1) i hi
        have := (w2 i hi).2
        omega
theorem least_lags_spec (g : Int) : ∃ d, d_least_lags [.v (delD n dl), .v (wiresD rs), .v (.int g)] [] = .ok d [] ∧ ((∃ w, d = delD n w ∧ Val rs w ∧ (∀ i, i < n → 0 ≤ w i ∧ w i ≤ n) ∧ per n dl rs w ≤ g) ∨ (d = .non ∧ ∀ u, Val rs u → g < per n dl rs u)) := by
  have h1 := C.h1
  have h8 := C.h8
  let ρ0 : DL.Env := [vv (delD n dl), vv (wiresD rs), vv (.int g), none, none, none, none]
  have z0 : Val rs (fun _ => 0) := fun r hr => by
    have := (C.reg r hr).1
    show 0 ≤ r.2.2 + 0 - 0
    omega
  have s3 : mSet 3 (mV (mOp gMulT (mTup (mCons (mC (.int 0)) mNil)) (mBi gLen (mCons (mVar 0) mNil)))) ρ0 [] = .ok (.nx, eH n dl rs g (fun _ => 0) none none none) [] := by
    refine (st_set (d := delD n fun _ => 0) (S1 := []) (opI (x := .tup [.int 0]) (y := nI n) (t1w rfl) (bi1 (x := delD n dl) rfl (lenD n dl)) ?_)).trans rfl
    have e := gMulT_rep (a := [D.int 0]) (k := n) (by simp) h1 (by omega) (by simp)
    rw [rep_zero] at e
    exact e
  have nn : (n : Int) * n ≤ 8 * 8 := Int.mul_le_mul (by omega) (by omega) (by omega) (by decide)
  have sz : 0 ≤ sumN n (fun _ => 0) := sum_nn fun _ _ => Int.le_refl _
  rcases hl_loop C (g := g) 1000 (fun _ => 0) none none none z0 (fun i _ => ⟨Int.le_refl _, by omega⟩) (fun u _ _ h0 => h0) (by omega) with ⟨w, ρ, e, w1, w2, w3⟩ | ⟨ρ, e, no⟩
  · refine ⟨delD n w, ?_, .inl ⟨w, rfl, w1, w2, w3⟩⟩
    refine denB_rt (ρ1 := ρ) (S1 := []) ?_
    show b_least_lags ρ0 [] = _
    unfold b_least_lags
    exact (seq_nx s3).trans (seq_rt e)
  · refine ⟨.non, ?_, .inr ⟨rfl, no⟩⟩
    refine denB_rt (ρ1 := ρ) (S1 := []) ?_
    show b_least_lags ρ0 [] = _
    unfold b_least_lags
    exact (seq_nx s3).trans ((seq_nx e).trans rfl)
end
end Pr

/-! the least period; the law -/
namespace Pr
open PySem L2 DL
theorem wdrawZ {E : Exn → Store → Prop} {ρ : DL.Env} {S : Store} {Q : D → Store → Prop} {F : Den} {i n : Nat} {fb : DEn} (h : Wp (fb ρ S) (fun d S1 => ∃ (B : Int) (c : Cell), d = .int B ∧ 0 < B ∧ B < 1073741824 ∧ S1[n]? = some (some c) ∧ RowOk c ∧ ∀ a c', 0 ≤ a → a < B → RowOk c' → Q (.int a) (S1.set n (some c'))) E) (hρ : ρ[i]? = some (some (.cel n)) := by rfl) (hF : F = cd_taken := by rfl) :
    Wp (mCall F 2 (mConsE (mCel i) (mConsE (mV fb) mNilE)) ρ S) Q E := by
  subst hF
  have hcel : mCel i ρ S = .ok (.cel n) S := by unfold mCel; rw [hρ]
  rw [ev_Call, ev_ConsE, hcel]
  simp only [ev_bind_ok, ev_ConsE, ev_V]
  cases e : fb ρ S with
  | bad => rw [e] at h; exact h.elim
  | ex x S1 => rw [e] at h; exact h
  | ok d S1 =>
    rw [e] at h
    obtain ⟨B, c, rfl, h0, h1, hS, hc, q⟩ := h
    obtain ⟨a, c', a0, a1, hc', et⟩ := taken hc h0 h1
    have k := callC2 (S := S1) (n := n) (F := cd_taken) hS et
    simp only [ev_bind_ok, ev_NilE, List.length_cons, List.length_nil, Nat.zero_add, if_true]
    exact Wp.ok k (q a c' a0 a1 hc')
theorem wpickZ {E : Exn → Store → Prop} {ρ : DL.Env} {S : Store} {Q : D → Store → Prop} {F : Den} {i n : Nat} {fb : DEn} (h : Wp (fb ρ S) (fun d S1 => ∃ (ds : List D) (c : Cell), d = .lst ds ∧ ds ≠ [] ∧ ds.length < 1073741824 ∧ S1[n]? = some (some c) ∧ RowOk c ∧ ∀ x c', x ∈ ds → RowOk c' → Q x (S1.set n (some c'))) E) (hρ : ρ[i]? = some (some (.cel n)) := by rfl) (hF : F = cd_pick := by rfl) :
    Wp (mCall F 2 (mConsE (mCel i) (mConsE (mV fb) mNilE)) ρ S) Q E := by
  subst hF
  have hcel : mCel i ρ S = .ok (.cel n) S := by unfold mCel; rw [hρ]
  rw [ev_Call, ev_ConsE, hcel]
  simp only [ev_bind_ok, ev_ConsE, ev_V]
  cases e : fb ρ S with
  | bad => rw [e] at h; exact h.elim
  | ex x S1 => rw [e] at h; exact h
  | ok d S1 =>
    rw [e] at h
    obtain ⟨ds, c, rfl, h0, h1, hS, hc, q⟩ := h
    obtain ⟨j, x, c', hj, hc', et⟩ := pick_spec hc h0 h1
    have k := callC2 (S := S1) (n := n) (F := cd_pick) hS et
    simp only [ev_bind_ok, ev_NilE, List.length_cons, List.length_nil, Nat.zero_add, if_true]
    exact Wp.ok k (q x c' (List.mem_of_getElem? hj) hc')
def Ans (n : Nat) (dl : Nat → Int) (rs : List Rule) (g : Int) (d : D) : Prop := (∃ w, d = delD n w ∧ Val rs w ∧ (∀ i, i < n → 0 ≤ w i ∧ w i ≤ n) ∧ per n dl rs w ≤ g) ∨ (d = .non ∧ ∀ u, Val rs u → g < per n dl rs u)
def eP (n : Nat) (dl : Nat → Int) (rs : List Rule) (v : Nat → Int) (L : Int) (d : D) : DL.Env := [vv (delD n dl), vv (wiresD rs), vv (delD n v), vv (.int L), vv d]
def tP : DTn := mCmp gNotN (mVar 4) (mC .non)
def bP : DSn := (mSeq (mSet 2 (mV (mVar 4)))
  (mSeq (mSet 3 (mV (mBi gMax (mCons (mCall d_arrivals 2 (mConsE (mV (mVar 0)) (mConsE (mV (mCall d_with_lags 2 (mConsE (mV (mVar 1)) (mConsE (mV (mVar 2)) mNilE)))) mNilE))) mNil))))
  (mSet 4 (mV (mCall d_least_lags 3 (mConsE (mV (mVar 0)) (mConsE (mV (mVar 1)) (mConsE (mV (mOp gSub (mVar 3) (mC (.int 1)))) mNilE))))))))
theorem moved_0 (rs : List Rule) : moved (fun _ => 0) rs = rs := by
  unfold moved
  have : (rs.map fun r : Rule => (r.1, r.2.1, r.2.2 + 0 - 0)) = rs.map id := List.map_congr_left fun r _ => by
    show (r.1, r.2.1, r.2.2 + 0 - 0) = r
    rw [Int.add_zero, Int.sub_zero]
  rw [this, List.map_id]
section
variable {n : Nat} {dl : Nat → Int} {rs : List Rule} (C : Circ n dl rs)
include C
theorem per_nn (v : Nat → Int) : 0 ≤ per n dl rs v := by
  obtain ⟨i, _, e⟩ := (mxv_is (v := sv dl (moved v rs)) C.h1).1
  have : per n dl rs v = sv dl (moved v rs) i := e
  have := sv_nn C (moved v rs) i
  omega
theorem sf_le (A : List Rule) : ∀ (k g : Nat), sf dl A k g ≤ 50 * k
  | 0, _ => by show (0 : Int) ≤ 50 * 0; omega
  | k + 1, g => by
    have h1 := C.d1 g
    have h2 : topO ((preds A g).map (sf dl A k)) ≤ 50 * k := topO_lt (by omega) fun x hx => by
      obtain ⟨p, _, rfl⟩ := List.mem_map.mp hx
      exact sf_le A k p
    show dl g + topO ((preds A g).map (sf dl A k)) ≤ 50 * ((k + 1 : Nat) : Int)
    omega
theorem per_le (v : Nat → Int) : per n dl rs v ≤ 450 := by
  obtain ⟨i, _, e⟩ := (mxv_is (v := sv dl (moved v rs)) C.h1).1
  have : per n dl rs v = sv dl (moved v rs) i := e
  have : sv dl (moved v rs) i ≤ 50 * (9 : Nat) := sf_le C (moved v rs) 9 i
  omega
theorem val_0 : Val rs (fun _ => 0) := fun r hr => by
  have := (C.reg r hr).1
  show 0 ≤ r.2.2 + 0 - 0
  omega
theorem p_loop : ∀ (fuel : Nat) (v : Nat → Int) (L : Int) (d : D), Val rs v → (∀ i, i < n → 0 ≤ v i ∧ v i ≤ n) → L = per n dl rs v → L < fuel → Ans n dl rs (L - 1) d →
    ∃ v' L', whileL tP bP fuel (eP n dl rs v L d) [] = .ok (.nx, eP n dl rs v' L' .non) [] ∧ Val rs v' ∧ (∀ i, i < n → 0 ≤ v' i ∧ v' i ≤ n) ∧ L' = per n dl rs v' ∧ ∀ u, Val rs u → L' ≤ per n dl rs u
  | 0, v, L, d, _, _, e, h, _ => by
    have := per_nn C v
    omega
  | fuel + 1, v, L, d, hv, vb, e, h, a => by
    rcases a with ⟨w, rfl, hw, wb, pw⟩ | ⟨rfl, no⟩
    · obtain ⟨lv, N⟩ := moved_net C hw
      have hl := C.len
      obtain ⟨d', e', a'⟩ := least_lags_spec C (per n dl rs w - 1)
      obtain ⟨v', L', r1, r2⟩ := p_loop fuel w (per n dl rs w) d' hw wb rfl (by omega) a'
      refine ⟨v', L', ?_, r2⟩
      have t : tP (eP n dl rs v L (delD n w)) [] = .ok true [] := rfl
      have s2 : mSet 2 (mV (mVar 4)) (eP n dl rs v L (delD n w)) [] = .ok (.nx, eP n dl rs w L (delD n w)) [] := rfl
      have s3 : mSet 3 (mV (mBi gMax (mCons (mCall d_arrivals 2 (mConsE (mV (mVar 0)) (mConsE (mV (mCall d_with_lags 2 (mConsE (mV (mVar 1)) (mConsE (mV (mVar 2)) mNilE)))) mNilE))) mNil))) (eP n dl rs w L (delD n w)) [] = .ok (.nx, eP n dl rs w (per n dl rs w) (delD n w)) [] :=
        st_set (bi1 (cl2 (x := delD n dl) rfl (cl2 (x := wiresD rs) (y := delD n w) rfl rfl (with_spec C.inr (by omega))) (arrivals_spec N)) (gMax_vD _ C.h1).1)
      have s4 : mSet 4 (mV (mCall d_least_lags 3 (mConsE (mV (mVar 0)) (mConsE (mV (mVar 1)) (mConsE (mV (mOp gSub (mVar 3) (mC (.int 1)))) mNilE))))) (eP n dl rs w (per n dl rs w) (delD n w)) [] = .ok (.nx, eP n dl rs w (per n dl rs w) d') [] :=
        st_set (cl3 (x := delD n dl) (y := wiresD rs) (z := .int (per n dl rs w - 1)) rfl rfl (opI (x := .int (per n dl rs w)) (y := .int 1) rfl rfl rfl) e')
      have b : bP (eP n dl rs v L (delD n w)) [] = .ok (.nx, eP n dl rs w (per n dl rs w) d') [] := by
        unfold bP
        exact (seq_nx s2).trans ((seq_nx s3).trans s4)
      conv => lhs; unfold whileL
      rw [t, ev_bindS_ok, if_pos rfl, b]
      exact r1
    · refine ⟨v, L, ?_, hv, vb, e, fun u hu => by have := no u hu; omega⟩
      unfold whileL
      rw [show tP (eP n dl rs v L .non) [] = .ok false [] from rfl, ev_bindS_ok]
      rfl
theorem least_period_spec : ∃ v L, d_least_period [.v (delD n dl), .v (wiresD rs)] [] = .ok (.tup [.int L, delD n v]) [] ∧ Val rs v ∧ (∀ i, i < n → 0 ≤ v i ∧ v i ≤ n) ∧ L = per n dl rs v ∧ ∀ u, Val rs u → L ≤ per n dl rs u := by
  have h1 := C.h1
  have h8 := C.h8
  let L0 := per n dl rs (fun _ => 0)
  have eL0 : L0 = mxv n (sv dl rs) := by show mxv n (sv dl (moved (fun _ => 0) rs)) = _; rw [moved_0]
  obtain ⟨d, ed, ad⟩ := least_lags_spec C (L0 - 1)
  have b := per_le C (fun _ => 0)
  obtain ⟨v, L, w, r1, rb, r2, r3⟩ := p_loop C 1000 (fun _ => 0) L0 d (val_0 C) (fun i _ => ⟨Int.le_refl _, by omega⟩) rfl (by omega) ad
  refine ⟨v, L, ?_, r1, rb, r2, r3⟩
  let ρ0 : DL.Env := [vv (delD n dl), vv (wiresD rs), none, none, none]
  let ρ1 : DL.Env := [vv (delD n dl), vv (wiresD rs), vv (delD n fun _ => 0), none, none]
  let ρ2 : DL.Env := [vv (delD n dl), vv (wiresD rs), vv (delD n fun _ => 0), vv (.int L0), none]
  have s2 : mSet 2 (mV (mOp gMulT (mTup (mCons (mC (.int 0)) mNil)) (mBi gLen (mCons (mVar 0) mNil)))) ρ0 [] = .ok (.nx, ρ1) [] := by
    refine (st_set (d := delD n fun _ => 0) (S1 := []) (opI (x := .tup [.int 0]) (y := nI n) (t1w rfl) (bi1 (x := delD n dl) rfl (lenD n dl)) ?_)).trans rfl
    have e := gMulT_rep (a := [D.int 0]) (k := n) (by simp) h1 (by omega) (by simp)
    rw [rep_zero] at e
    exact e
  have s3 : mSet 3 (mV (mBi gMax (mCons (mCall d_arrivals 2 (mConsE (mV (mVar 0)) (mConsE (mV (mVar 1)) mNilE))) mNil))) ρ1 [] = .ok (.nx, ρ2) [] := by
    refine st_set (d := .int L0) (bi1 (cl2 (x := delD n dl) (y := wiresD rs) rfl rfl (arrivals_spec C.net)) ?_)
    rw [eL0]
    exact (gMax_vD _ C.h1).1
  have s4 : mSet 4 (mV (mCall d_least_lags 3 (mConsE (mV (mVar 0)) (mConsE (mV (mVar 1)) (mConsE (mV (mOp gSub (mVar 3) (mC (.int 1)))) mNilE))))) ρ2 [] = .ok (.nx, eP n dl rs (fun _ => 0) L0 d) [] :=
    st_set (cl3 (x := delD n dl) (y := wiresD rs) (z := .int (L0 - 1)) rfl rfl (opI (x := .int L0) (y := .int 1) rfl rfl rfl) ed)
  refine denB_rt (ρ1 := eP n dl rs v L .non) (S1 := []) ?_
  show b_least_period ρ0 [] = _
  unfold b_least_period
  exact (seq_nx (drop_ok (cl2 (x := delD n dl) (y := wiresD rs) rfl rfl (check_circuit_spec C)))).trans ((seq_nx s2).trans ((seq_nx s3).trans ((seq_nx s4).trans ((seq_nx w).trans rfl))))
end
end Pr

/-! the fewest registers of each pair of gates -/
noncomputable section
namespace Pr
open PySem L2 DL Cm
abbrev Ce := Int × Int
abbrev Ti := List (Ce × Int)
def cD (p : Ce) : D := .tup [.int p.1, .int p.2]
def tkI (p : Ce) : TK := [.inl p.1, .inl p.2]
def TDi (T : Ti) : List TD := T.map fun x => (tkI x.1, D.int x.2)
def keys (T : Ti) : List Ce := T.map (·.1)
def lookI (T : Ti) (p : Ce) : Option Int := (T.find? fun x => decide (x.1 = p)).map (·.2)
def putI (T : Ti) (q : Ce) (v : Int) : Ti := if q ∈ keys T then T.map (fun x => if x.1 = q then (x.1, v) else x) else T ++ [(q, v)]
theorem keyT_cD (p : Ce) : keyT (cD p) = some (tkI p) := by
  obtain ⟨a, b⟩ := p
  rfl
theorem tk_inj {p q : Ce} (h : tkI p = tkI q) : p = q := by
  obtain ⟨a, b⟩ := p
  obtain ⟨c, d⟩ := q
  unfold tkI at h
  injection h with h1 h2
  injection h2 with h2 _
  injection h1 with h1
  injection h2 with h2
  simp at h1 h2
  rw [h1, h2]
theorem tk_dec (p q : Ce) : decide (tkI p = tkI q) = decide (p = q) := decide_eq_decide.mpr ⟨tk_inj, fun h => by rw [h]⟩
theorem TDi_val (T : Ti) (p : Ce) : valT (TDi T) (tkI p) = (lookI T p).map D.int := by
  unfold valT lookI
  induction T with
  | nil => rfl
  | cons x T ih =>
    show ((((tkI x.1, D.int x.2) :: TDi T).find? _).map _) = _
    rw [List.find?_cons, List.find?_cons]
    dsimp only
    rw [tk_dec]
    cases decide (x.1 = p)
    · exact ih
    · rfl
theorem TDi_put (T : Ti) (q : Ce) (v : Int) : putT (TDi T) (tkI q) (.int v) = TDi (putI T q v) := by
  have any : ((TDi T).any fun kv => decide (kv.1 = tkI q)) = decide (q ∈ keys T) := by
    induction T with
    | nil => rfl
    | cons x T ih =>
      show (decide (tkI x.1 = tkI q) || (TDi T).any _) = _
      rw [ih, tk_dec]
      unfold keys
      rw [List.map_cons]
      by_cases h : x.1 = q
      · subst h
        simp
      · have h' : ¬ q = x.1 := fun z => h z.symm
        simp [h, h']
  unfold putT putI
  rw [any]
  by_cases h : q ∈ keys T
  · rw [if_pos (decide_eq_true h), if_pos h]
    unfold TDi
    rw [List.map_map, List.map_map]
    refine List.map_congr_left fun x _ => ?_
    show (if tkI x.1 = tkI q then (tkI x.1, D.int v) else (tkI x.1, D.int x.2)) = (tkI (if x.1 = q then (x.1, v) else x).1, D.int (if x.1 = q then (x.1, v) else x).2)
    by_cases e : x.1 = q
    · rw [if_pos (by rw [e]), if_pos e]
    · rw [if_neg (fun z => e (tk_inj z)), if_neg e]
  · rw [if_neg (by simpa using h), if_neg h]
    unfold TDi
    rw [List.map_append]; rfl
theorem look_key {T : Ti} {q : Ce} (h : q ∈ keys T) : ∃ v, lookI T q = some v := by
  unfold lookI
  cases hf : T.find? fun x => decide (x.1 = q) with
  | some x => exact ⟨x.2, rfl⟩
  | none =>
    obtain ⟨x, hx, e⟩ := List.mem_map.mp h
    have := List.find?_eq_none.mp hf x hx
    simp at this
    exact absurd e this
theorem look_mem {T : Ti} {q : Ce} {v : Int} (h : lookI T q = some v) : q ∈ keys T := by
  unfold lookI at h
  obtain ⟨x, h1, _⟩ := Option.map_eq_some_iff.mp h
  have := List.find?_some h1
  have : x.1 = q := of_decide_eq_true this
  exact List.mem_map.mpr ⟨x, List.mem_of_find?_eq_some h1, this⟩
theorem look_put (T : Ti) (q k : Ce) (v : Int) : lookI (putI T q v) k = if k = q then some v else lookI T k := by
  unfold putI
  by_cases h : q ∈ keys T
  · rw [if_pos h]
    by_cases e : k = q
    · subst e
      rw [if_pos rfl]
      unfold lookI
      induction T with
      | nil => cases h
      | cons x T ih =>
        rw [List.map_cons, List.find?_cons]
        by_cases hx : x.1 = k
        · rw [if_pos hx, decide_eq_true (show (x.1, v).1 = k from hx)]
          rfl
        · rw [if_neg hx, decide_eq_false hx]
          refine ih ?_
          rcases List.mem_cons.mp h with h | h
          · exact absurd h.symm hx
          · exact h
    · rw [if_neg e]
      unfold lookI
      clear h
      induction T with
      | nil => rfl
      | cons x T ih =>
        rw [List.map_cons, List.find?_cons, List.find?_cons]
        by_cases hx : x.1 = q
        · have hk : ¬ x.1 = k := fun z => e (by rw [← z, hx])
          rw [if_pos hx, decide_eq_false hk]
          exact ih
        · rw [if_neg hx]
          cases decide (x.1 = k)
          · exact ih
          · rfl
  · rw [if_neg h]
    unfold lookI
    rw [List.find?_append]
    by_cases e : k = q
    · subst e
      rw [if_pos rfl]
      have : T.find? (fun x => decide (x.1 = k)) = none := by
        rw [List.find?_eq_none]
        intro x hx z
        exact h (List.mem_map.mpr ⟨x, hx, of_decide_eq_true z⟩)
      rw [this]
      simp
    · rw [if_neg e]
      have : List.find? (fun x : Ce × Int => decide (x.1 = k)) [(q, v)] = none := by
        rw [List.find?_eq_none]
        intro x hx z
        obtain rfl : x = (q, v) := by simpa using hx
        exact e (of_decide_eq_true z).symm
      rw [this]
      cases T.find? fun x => decide (x.1 = k) <;> rfl
theorem put_len (T : Ti) (q : Ce) (v : Int) : (putI T q v).length ≤ T.length + 1 := by
  unfold putI
  split
  · rw [List.length_map]; omega
  · simp
theorem getT_ok {i n : Nat} {fa fb : DEn} {ρ : DL.Env} {S : Store} {T : Ti} {q : Ce} {v : Int} (h1 : ρ[i]? = some (some (.cel n))) (h2 : S[n]? = some (some (.dt (TDi T)))) (h3 : fa ρ S = .ok (cD q) S) (h4 : fb ρ S = .ok (.int v) S) : mGetDt i fa fb ρ S = .ok (.int ((lookI T q).getD v)) S := by
  unfold mGetDt
  rw [h1]
  dsimp only
  rw [h2]
  dsimp only
  rw [h3, ev_bind_ok, h4, ev_bind_ok, keyT_cD, h2]
  dsimp only
  rw [TDi_val]
  cases lookI T q <;> rfl
theorem putT_ok {i n : Nat} {fi : DEn} {ρ : DL.Env} {S : Store} {T : Ti} {q : Ce} {v : Int} (h1 : ρ[i]? = some (some (.cel n))) (h2 : S[n]? = some (some (.dt (TDi T)))) (h3 : fi ρ S = .ok (cD q) S) (h5 : T.length ≤ 10000) : gDt i fi (.int v) ρ S = .ok ρ (S.set n (some (.dt (TDi (putI T q v))))) := by
  unfold gDt
  rw [h1]
  dsimp only
  rw [h3, ev_bd_ok, keyT_cD, h2]
  dsimp only
  rw [if_pos (by unfold TDi; rw [List.length_map]; omega), TDi_put]

theorem keys_put (T : Ti) (q : Ce) (v : Int) : keys (putI T q v) = if q ∈ keys T then keys T else keys T ++ [q] := by
  unfold putI
  split
  · unfold keys
    rw [List.map_map]
    refine List.map_congr_left fun x _ => ?_
    show (if x.1 = q then (x.1, v) else x).1 = x.1
    split <;> rfl
  · unfold keys
    rw [List.map_append]
    rfl
theorem keys_nd {T : Ti} (h : (keys T).Nodup) (q : Ce) (v : Int) : (keys (putI T q v)).Nodup := by
  rw [keys_put]
  split
  · exact h
  · rename_i hq
    exact List.nodup_append.mpr ⟨h, by simp, fun a ha b hb e => by
      obtain rfl := List.mem_singleton.mp hb
      exact hq (e ▸ ha)⟩
theorem look_iff {T : Ti} (h : (keys T).Nodup) {k : Ce} {m : Int} : lookI T k = some m ↔ (k, m) ∈ T := by
  unfold lookI
  induction T with
  | nil => simp
  | cons x T ih =>
    unfold keys at h ih
    rw [List.map_cons, List.nodup_cons] at h
    have ih := ih h.2
    by_cases e : x.1 = k
    · rw [List.find?_cons_of_pos (by simpa using e)]
      constructor
      · intro z
        have : x.2 = m := by simpa using z
        rw [← e, ← this]
        exact List.mem_cons_self
      · intro z
        rcases List.mem_cons.mp z with z | z
        · rw [← z]; rfl
        · exact absurd (List.mem_map.mpr ⟨_, z, rfl⟩) (by rw [← e] at *; exact h.1)
    · rw [List.find?_cons_of_neg (by simpa using e), ih]
      constructor
      · exact fun z => List.mem_cons_of_mem _ z
      · intro z
        rcases List.mem_cons.mp z with z | z
        · rw [← z] at e; exact absurd rfl e
        · exact z
def ky (r : Rule) : Ce := ((r.1 : Int), (r.2.1 : Int))
def mn (v u : Int) : Int := if u < v then u else v
def fwI (T : Ti) (r : Rule) : Ti := putI T (ky r) (mn r.2.2 ((lookI T (ky r)).getD r.2.2))
def few (rs : List Rule) : Ti := rs.foldl fwI []
structure Fw (rs : List Rule) (T : Ti) : Prop where
  nd : (keys T).Nodup
  len : T.length ≤ rs.length
  of : ∀ k m, lookI T k = some m → (∃ r ∈ rs, ky r = k ∧ r.2.2 = m) ∧ ∀ r ∈ rs, ky r = k → m ≤ r.2.2
  all : ∀ r ∈ rs, ∃ m, lookI T (ky r) = some m
theorem Fw.step {rs : List Rule} {T : Ti} (h : Fw rs T) (r : Rule) : Fw (rs ++ [r]) (fwI T r) := by
  refine ⟨keys_nd h.nd _ _, ?_, fun k m e => ?_, fun q hq => ?_⟩
  · have := put_len T (ky r) (mn r.2.2 ((lookI T (ky r)).getD r.2.2))
    have := h.len
    rw [List.length_append]
    unfold fwI
    simp only [List.length_cons, List.length_nil]
    omega
  · unfold fwI at e
    rw [look_put] at e
    by_cases z : k = ky r
    · subst z
      rw [if_pos rfl] at e
      have e := Option.some.inj e
      cases hl : lookI T (ky r) with
      | none =>
        rw [hl] at e
        have em : m = r.2.2 := by
          rw [← e]
          unfold mn
          simp
        subst em
        refine ⟨⟨r, by simp, rfl, rfl⟩, fun q hq ek => ?_⟩
        rcases List.mem_append.mp hq with hq | hq
        · obtain ⟨m', hm'⟩ := h.all q hq
          rw [ek, hl] at hm'
          cases hm'
        · obtain rfl := List.mem_singleton.mp hq
          exact Int.le_refl _
      | some u =>
        rw [hl] at e
        have e : mn r.2.2 u = m := e
        obtain ⟨⟨q0, k1, k2, k3⟩, k4⟩ := h.of _ _ hl
        unfold mn at e
        refine ⟨?_, fun q hq ek => ?_⟩
        · by_cases lt : u < r.2.2
          · rw [if_pos lt] at e
            exact ⟨q0, List.mem_append_left _ k1, k2, by omega⟩
          · rw [if_neg lt] at e
            exact ⟨r, by simp, rfl, e⟩
        · rcases List.mem_append.mp hq with hq | hq
          · have := k4 q hq ek
            split at e <;> omega
          · obtain rfl := List.mem_singleton.mp hq
            split at e <;> omega
    · rw [if_neg z] at e
      obtain ⟨⟨q0, k1, k2, k3⟩, k4⟩ := h.of _ _ e
      refine ⟨⟨q0, List.mem_append_left _ k1, k2, k3⟩, fun q hq ek => ?_⟩
      rcases List.mem_append.mp hq with hq | hq
      · exact k4 q hq ek
      · obtain rfl := List.mem_singleton.mp hq
        exact absurd ek.symm z
  · unfold fwI
    rw [look_put]
    by_cases z : ky q = ky r
    · rw [if_pos z]; exact ⟨_, rfl⟩
    · rw [if_neg z]
      rcases List.mem_append.mp hq with hq | hq
      · exact h.all q hq
      · obtain rfl := List.mem_singleton.mp hq
        exact absurd rfl z
theorem few_is : ∀ (qs rs : List Rule) (T : Ti), Fw rs T → Fw (rs ++ qs) (qs.foldl fwI T)
  | [], rs, T, h => by rw [List.append_nil]; exact h
  | q :: qs, rs, T, h => by
    have := few_is qs (rs ++ [q]) (fwI T q) (h.step q)
    rw [List.append_assoc] at this
    exact this
theorem few_ok (rs : List Rule) : Fw rs (few rs) := by
  have := few_is rs [] [] ⟨List.Pairwise.nil, Nat.le_refl _, (fun _ _ h => by cases h), (fun _ h => by cases h)⟩
  exact this
def eF (rs : List Rule) (x2 x3 x4 : Option EV) : DL.Env := [vv (wiresD rs), some (.cel 0), x2, x3, x4]
def fwB : DSn := (mAsg (mBi gMin2 (mCons (mVar 4) (mCons (mGetDt 1 (mTup (mCons (mVar 2) (mCons (mVar 3) mNil))) (mVar 4)) mNil))) (gDt 1 (mTup (mCons (mVar 2) (mCons (mVar 3) mNil)))))
theorem fw_all : b_fewest_registers = mSeq (mSet 1 mNewDt) (mSeq (mFor (mIt (mVar 0)) (.tp [(.nm 2), (.nm 3), (.nm 4)]) fwB) (mRet (mFrzD 1))) := rfl
theorem fw_loop {rs : List Rule} : ∀ (qs : List Rule) (T : Ti) (x2 x3 x4 : Option EV), T.length + qs.length ≤ 1000 → ∃ y2 y3 y4, forL (.tp [(.nm 2), (.nm 3), (.nm 4)]) fwB (qs.map ruD) (eF rs x2 x3 x4) [some (.dt (TDi T))] = .ok (.nx, eF rs y2 y3 y4) [some (.dt (TDi (qs.foldl fwI T)))]
  | [], T, x2, x3, x4, _ => ⟨x2, x3, x4, rfl⟩
  | q :: qs, T, x2, x3, x4, hl => by
    rw [List.length_cons] at hl
    obtain ⟨ρ, hρ⟩ : ∃ ρ, ρ = eF rs (vv (nI q.1)) (vv (nI q.2.1)) (vv (.int q.2.2)) := ⟨_, rfl⟩
    have ek : ∀ S, mTup (mCons (mVar 2) (mCons (mVar 3) mNil)) ρ S = .ok (cD (ky q)) S := fun S => t2 (S1 := S) (x := nI q.1) (y := nI q.2.1) (by subst hρ; rfl) (by subst hρ; rfl)
    have e4 : ∀ S, mVar 4 ρ S = .ok (.int q.2.2) S := fun S => by subst hρ; rfl
    have eg := getT_ok (i := 1) (n := 0) (ρ := ρ) (S := [some (.dt (TDi T))]) (T := T) (q := ky q) (v := q.2.2) (fa := mTup (mCons (mVar 2) (mCons (mVar 3) mNil))) (fb := mVar 4) (by subst hρ; rfl) rfl (ek _) (e4 _)
    have ev : mBi gMin2 (mCons (mVar 4) (mCons (mGetDt 1 (mTup (mCons (mVar 2) (mCons (mVar 3) mNil))) (mVar 4)) mNil)) ρ [some (.dt (TDi T))] = .ok (.int (mn q.2.2 ((lookI T (ky q)).getD q.2.2))) [some (.dt (TDi T))] := by
      rw [ev_Bi, ev_Cons, e4, ev_bind_ok, ev_Cons, eg]
      rfl
    have ep := putT_ok (i := 1) (n := 0) (ρ := ρ) (S := [some (.dt (TDi T))]) (T := T) (q := ky q) (v := mn q.2.2 ((lookI T (ky q)).getD q.2.2)) (fi := mTup (mCons (mVar 2) (mCons (mVar 3) mNil))) (by subst hρ; rfl) rfl (ek _) (by omega)
    have eb : fwB ρ [some (.dt (TDi T))] = .ok (.nx, ρ) [some (.dt (TDi (fwI T q)))] := by
      unfold fwB
      rw [ev_Asg, ev, ev_bindS_ok, ep]
      rfl
    obtain ⟨y2, y3, y4, e⟩ := fw_loop qs (fwI T q) (vv (nI q.1)) (vv (nI q.2.1)) (vv (.int q.2.2)) (by
      have := put_len T (ky q) (mn q.2.2 ((lookI T (ky q)).getD q.2.2))
      unfold fwI
      omega)
    refine ⟨y2, y3, y4, ?_⟩
    rw [List.map_cons]
    exact (forL_step (ρ1 := ρ) (by subst hρ; rfl) eb).trans (by rw [hρ]; exact e)
def fwD (T : Ti) : D := .dct (T.map fun e => tkI e.1) (T.map fun e => D.int e.2)
theorem few_spec {rs : List Rule} (hl : rs.length ≤ 100) : d_fewest_registers [.v (wiresD rs)] [] = .ok (fwD (few rs)) [] := by
  obtain ⟨y2, y3, y4, e⟩ := fw_loop (rs := rs) rs [] none none none (by simp; omega)
  obtain ⟨ρ0, h0⟩ : ∃ ρ0 : DL.Env, ρ0 = eF rs none none none := ⟨_, rfl⟩
  obtain ⟨ρ1, h1⟩ : ∃ ρ1 : DL.Env, ρ1 = eF rs y2 y3 y4 := ⟨_, rfl⟩
  rw [← h0, ← h1] at e
  have e0 : mSet 1 mNewDt [vv (wiresD rs), none, none, none, none] [] = .ok (.nx, ρ0) [some (.dt (TDi []))] := by subst h0; rfl
  have e1 : mFor (mIt (mVar 0)) (.tp [(.nm 2), (.nm 3), (.nm 4)]) fwB ρ0 [some (.dt (TDi []))] = .ok (.nx, ρ1) [some (.dt (TDi (few rs)))] := by
    rw [ev_For, show mIt (mVar 0) ρ0 [some (.dt (TDi []))] = .ok (rs.map ruD) [some (.dt (TDi []))] from by subst h0; rfl, ev_bindS_ok]
    exact e
  refine denB_rt (ρ1 := ρ1) (S1 := [none]) ?_
  show b_fewest_registers [vv (wiresD rs), none, none, none, none] [] = _
  rw [fw_all, seq_nx e0, seq_nx e1, ev_Ret]
  have : mFrzD 1 ρ1 [some (.dt (TDi (few rs)))] = .ok (fwD (few rs)) [none] := by
    unfold mFrzD
    rw [show ρ1[1]? = some (some (.cel 0)) from by subst h1; rfl]
    show Out.ok (D.dct ((TDi (few rs)).map (·.1)) ((TDi (few rs)).map (·.2))) [none] = _
    unfold TDi fwD
    rw [List.map_map, List.map_map]
    rfl
  rw [this]
  rfl
end Pr
end

/-! rings of gates: the search -/
noncomputable section
namespace Pr
open PySem L2 DL Cm
abbrev Way := List Nat × Int
def wyD (w : Way) : D := .tup [.tup (w.1.map nI), .int w.2]
def itD (e : Ce × Int) : D := .tup [.tup [.int e.1.1, .int e.1.2], .int e.2]
def lastN (p : List Nat) : Nat := p.getLastD 0
def hdN (p : List Nat) : Nat := p.headD 0
def clo (w : Way) (e : Ce × Int) : Bool := decide (e.1.1 = (lastN w.1 : Int)) && decide (e.1.2 = (hdN w.1 : Int))
def exq (w : Way) (e : Ce × Int) : Bool := decide (e.1.1 = (lastN w.1 : Int)) && (decide (e.1.2 > (hdN w.1 : Int)) && !decide (e.1.2.toNat ∈ w.1))
def clF (w : Way) (e : Ce × Int) : Way := (w.1, w.2 + e.2)
def exF (w : Way) (e : Ce × Int) : Way := (w.1 ++ [e.1.2.toNat], w.2 + e.2)
def clL (T : Ti) (w : Way) : List Way := (T.filter (clo w)).map (clF w)
def exL (T : Ti) (w : Way) : List Way := (T.filter (exq w)).map (exF w)
def rgB : DSn := (mIfS (mAndT (mCmp gEq (mVar 9) (mOp gIx (mVar 6) (mC (.int (-1))))) (mCmp gEq (mVar 10) (mOp gIx (mVar 6) (mC (.int 0))))) (mDrop (mMet 2 gApp (mCons (mTup (mCons (mVar 6) (mCons (mOp gAdd (mVar 7) (mVar 8)) mNil))) mNil))) (mIfS (mAndT (mCmp gEq (mVar 9) (mOp gIx (mVar 6) (mC (.int (-1))))) (mAndT (mCmp gGt (mVar 10) (mOp gIx (mVar 6) (mC (.int 0)))) (mCmp gNotIn (mVar 10) (mVar 6)))) (mDrop (mMet 4 gApp (mCons (mTup (mCons (mOp gAdd (mVar 6) (mTup (mCons (mVar 10) mNil))) (mCons (mOp gAdd (mVar 7) (mVar 8)) mNil))) mNil))) mSkip))
def rgT : Tg := .tp [(.tp [(.nm 9), (.nm 10)]), (.nm 8)]
def rgI : DSn := mFor (mItT (mVar 1)) rgT rgB
def rgO : DSn := mFor (mIt (mVar 3)) (.tp [(.nm 6), (.nm 7)]) rgI
def rgW : DSn := mSeq (mSet 4 (mNew mNil)) (mSeq rgO (mSet 3 (mV (mFrz 4))))
theorem rg_all : b_rings_of = mSeq (mSet 2 (mNew mNil)) (mSeq (mSetLc 3 (mLc (mRg1 (mVar 0)) (.nm 5) mYes (mTup (mCons (mTup (mCons (mVar 5) mNil)) (mCons (mC (.int 0)) mNil))) [5])) (mSeq (whileL (mTru (mVar 3)) rgW 1000) (mRet (mFrz 2)))) := rfl
def eR (n : Nat) (T : Ti) (W : D) (x4 x6 x7 x8 x9 x10 : Option EV) : DL.Env := [vv (nI n), vv (fwD T), some (.cel 0), vv W, x4, none, x6, x7, x8, x9, x10]
def sR (A : List Way) (N : Store) (B : List Way) : Store := some (.lst (A.map wyD)) :: (N ++ [some (.lst (B.map wyD))])
theorem items_fw (T : Ti) : itemsT (T.map fun e => tkI e.1) (T.map fun e => D.int e.2) = T.map itD := by
  unfold itemsT
  rw [List.zipWith_map, List.zipWith_self]
  rfl
theorem if_go' {t : DTn} {f g : DSn} {ρ : DL.Env} {S : Store} (h : t ρ S = .ok false S) : mIfS t f g ρ S = g ρ S := by
  unfold mIfS
  rw [h]
  rfl
theorem any_tn (c : Nat) (s : List Nat) : ((s.map nI).any fun z => deq z (nI c)) = decide (c ∈ s) := by
  induction s with
  | nil => rfl
  | cons x s ih =>
    rw [List.map_cons, List.any_cons, ih]
    have : deq (nI x) (nI c) = decide (c = x) := by
      show ((x : Int) == (c : Int)) = _
      by_cases h : c = x
      · subst h; simp
      · rw [decide_eq_false h]; simp; omega
    rw [this]
    by_cases h : c = x <;> simp [h]
theorem all_tn (s : List Nat) : (s.map nI).all D.flat = true := by
  rw [List.all_eq_true]
  intro d hd
  obtain ⟨c, _, rfl⟩ := List.mem_map.mp hd
  rfl
theorem gIn_tn (s : List Nat) (c : Nat) : gNotIn (nI c) (.tup (s.map nI)) = some (!decide (c ∈ s)) := by
  have e : gIn (nI c) (.tup (s.map nI)) = some ((s.map nI).any fun z => deq z (nI c)) := if_pos ⟨rfl, all_tn s⟩
  unfold gNotIn
  rw [e, any_tn]
  rfl
theorem last_ix0 (ds : List D) (d : D) : atI (ds ++ [d]) (-1) = some d := by
  have hl : (ds ++ [d]).length = ds.length + 1 := by simp
  unfold L2.atI ixN
  rw [if_neg (by omega), if_pos (by omega)]
  show (ds ++ [d])[((-1 : Int) + ((ds ++ [d]).length : Int)).toNat]? = some d
  rw [hl, show ((-1 : Int) + ((ds.length + 1 : Nat) : Int)).toNat = ds.length by omega, List.getElem?_append_right (Nat.le_refl _), Nat.sub_self]
  rfl
theorem last_ix {l : List D} {d : D} : atI (l ++ [d]) (-1) = some d := last_ix0 l d
theorem eq_i {fa fb : DEn} {ρ : DL.Env} {S : Store} {a b : Int} (ha : fa ρ S = .ok (.int a) S) (hb : fb ρ S = .ok (.int b) S) : mCmp gEq fa fb ρ S = .ok (decide (a = b)) S := cmp_ok ha hb (by
  rw [gEq_iiX]
  congr 1)
section
variable {n : Nat} {T : Ti} {W : D} {N : Store}
theorem ends {p : List Nat} (hp : p ≠ []) : atI (p.map nI) (-1) = some (nI (lastN p)) ∧ atI (p.map nI) 0 = some (nI (hdN p)) := by
  constructor
  · rcases List.eq_nil_or_concat p with h | ⟨q, b, rfl⟩
    · exact absurd h hp
    · rw [List.concat_eq_append, List.map_append, show [b].map nI = [nI b] from rfl, last_ix]
      unfold lastN
      simp
  · cases p with
    | nil => exact absurd rfl hp
    | cons a p => exact watI (j := 0) rfl
theorem app_c {i m : Nat} {f : DEn} {ρ : DL.Env} {S : Store} {ds : List D} {d : D} (h1 : ρ[i]? = some (some (.cel m))) (h2 : S[m]? = some (some (.lst ds))) (hf : f ρ S = .ok d S) (hl : ds.length < lim) : mDrop (mMet i gApp (mCons f mNil)) ρ S = .ok (.nx, ρ) (S.set m (some (.lst (ds ++ [d])))) := by
  rw [ev_Drop, metL (i := i) (n := m) (ys := [d]) (ds := ds) (ds' := ds ++ [d]) (d := .non) h1 h2 (by rw [ev_Cons, hf]; rfl) (by
    show (if ds.length < lim then some (ds ++ [d], D.non) else none) = _
    rw [if_pos hl])]
  rfl
theorem sR_get {A B : List Way} : (sR A N B)[N.length + 1]? = some (some (.lst (B.map wyD))) := by
  unfold sR
  simp
theorem rg_step {w : Way} {e : Ce × Int} {A B : List Way} (hw : w.1 ≠ []) (hp : 0 ≤ e.1.2) (hA : A.length ≤ 900000) (hB : B.length ≤ 900000) (hl : w.1.length ≤ 100) {ρ : DL.Env} (hρ : ρ = eR n T W (some (.cel (N.length + 1))) (vv (.tup (w.1.map nI))) (vv (.int w.2)) (vv (.int e.2)) (vv (.int e.1.1)) (vv (.int e.1.2))) :
    rgB ρ (sR A N B) = .ok (.nx, ρ) (sR (A ++ ([e].filter (clo w)).map (clF w)) N (B ++ ([e].filter (exq w)).map (exF w))) := by
  obtain ⟨S, hS⟩ : ∃ S, S = sR A N B := ⟨_, rfl⟩
  obtain ⟨b, hb⟩ : ∃ b : Nat, e.1.2 = (b : Int) := ⟨e.1.2.toNat, by omega⟩
  obtain ⟨E1, E2⟩ := ends hw
  have x6 : mVar 6 ρ S = .ok (.tup (w.1.map nI)) S := by subst hρ; rfl
  have x9 : mVar 9 ρ S = .ok (.int e.1.1) S := by subst hρ; rfl
  have x10 : mVar 10 ρ S = .ok (nI b) S := by subst hρ; rw [hb]; rfl
  have la : mOp gIx (mVar 6) (mC (.int (-1))) ρ S = .ok (nI (lastN w.1)) S := opI x6 (y := .int (-1)) rfl E1
  have he : mOp gIx (mVar 6) (mC (.int 0)) ρ S = .ok (nI (hdN w.1)) S := opI x6 (y := .int 0) rfl E2
  have sm : mOp gAdd (mVar 7) (mVar 8) ρ S = .ok (.int (w.2 + e.2)) S := by subst hρ; rfl
  have q1 := eq_i x9 la
  have q2 := eq_i x10 he
  have q3 : mCmp gGt (mVar 10) (mOp gIx (mVar 6) (mC (.int 0))) ρ S = .ok (decide ((b : Int) > (hdN w.1 : Int))) S := cmp_ok x10 he rfl
  have q4 : mCmp gNotIn (mVar 10) (mVar 6) ρ S = .ok (!decide (b ∈ w.1)) S := cmp_ok x10 x6 (gIn_tn _ _)
  have cE : clo w e = (decide (e.1.1 = (lastN w.1 : Int)) && decide ((b : Int) = (hdN w.1 : Int))) := by unfold clo; rw [hb]
  have xE : exq w e = (decide (e.1.1 = (lastN w.1 : Int)) && (decide ((b : Int) > (hdN w.1 : Int)) && !decide (b ∈ w.1))) := by
    unfold exq
    rw [hb, Int.toNat_natCast]
  rw [← hS]
  unfold rgB
  by_cases h1 : e.1.1 = (lastN w.1 : Int)
  · rw [decide_eq_true h1] at q1 cE xE
    rw [Bool.true_and] at cE xE
    by_cases h2 : (b : Int) = (hdN w.1 : Int)
    · rw [decide_eq_true h2] at q2 cE
      have xE : exq w e = false := by rw [xE, decide_eq_false (by omega)]; rfl
      rw [if_go ((and_go q1).trans q2), List.filter_cons_of_pos cE, List.filter_cons_of_neg (by rw [xE]; simp), List.filter_nil, List.filter_nil, List.map_nil, List.append_nil]
      have a := app_c (i := 2) (m := 0) (f := mTup (mCons (mVar 6) (mCons (mOp gAdd (mVar 7) (mVar 8)) mNil))) (ρ := ρ) (S := S) (ds := A.map wyD) (d := wyD (clF w e)) (by subst hρ; rfl) (by rw [hS]; rfl) (t2 x6 sm) (by rw [List.length_map, lim_is]; omega)
      rw [a, hS]
      unfold sR
      rw [List.map_append]
      rfl
    · rw [decide_eq_false h2] at q2 cE
      rw [if_go' (by rw [and_go q1]; exact q2), List.filter_cons_of_neg (by rw [cE]; simp), List.filter_nil, List.map_nil, List.append_nil]
      by_cases h3 : (b : Int) > (hdN w.1 : Int)
      · rw [decide_eq_true h3] at q3 xE
        rw [Bool.true_and] at xE
        by_cases h4 : b ∈ w.1
        · rw [decide_eq_true h4] at q4 xE
          rw [if_skip (by rw [and_go q1, and_go q3]; exact q4), List.filter_cons_of_neg (by rw [xE]; simp), List.filter_nil, List.map_nil, List.append_nil, hS]
        · rw [decide_eq_false h4] at q4 xE
          rw [if_go (by rw [and_go q1, and_go q3]; exact q4), List.filter_cons_of_pos (by rw [xE]; rfl), List.filter_nil]
          have cat : mOp gAdd (mVar 6) (mTup (mCons (mVar 10) mNil)) ρ S = .ok (.tup ((w.1 ++ [b]).map nI)) S := opI x6 (y := .tup [nI b]) (t1 x10) (by rw [g_addT (by rw [lim_is, List.length_map]; simp; omega), List.map_append]; rfl)
          have a := app_c (i := 4) (m := N.length + 1) (f := mTup (mCons (mOp gAdd (mVar 6) (mTup (mCons (mVar 10) mNil))) (mCons (mOp gAdd (mVar 7) (mVar 8)) mNil))) (ρ := ρ) (S := S) (ds := B.map wyD) (d := wyD (exF w e)) (by subst hρ; rfl) (by rw [hS]; exact sR_get) (by
            have := t2 cat sm
            unfold wyD exF
            rw [hb]
            exact this) (by rw [List.length_map, lim_is]; omega)
          rw [a, hS]
          unfold sR
          simp
      · rw [decide_eq_false h3] at q3 xE
        rw [if_skip (by rw [and_go q1]; exact and_no q3), List.filter_cons_of_neg (by rw [xE]; simp), List.filter_nil, List.map_nil, List.append_nil, hS]
  · rw [decide_eq_false h1] at q1 cE xE
    rw [if_go' (and_no q1), if_skip (and_no q1), List.filter_cons_of_neg (by rw [cE]; simp), List.filter_cons_of_neg (by rw [xE]; simp), List.filter_nil, List.map_nil, List.append_nil, List.filter_nil, List.map_nil, List.append_nil, hS]
end
end Pr
end

/-! rings of gates: all of them -/
noncomputable section
namespace Pr
open PySem L2 DL Cm
theorem count_le {n : Nat} {l : List Nat} (nd : l.Nodup) (h : ∀ a ∈ l, a < n) : l.length ≤ n := by
  have := List.Nodup.length_le_of_subset (l₁ := l) (l₂ := List.range n) nd (fun x hx => by simpa using h x hx)
  simpa using this
structure TOk (n : Nat) (T : Ti) : Prop where
  nd : (keys T).Nodup
  len : T.length ≤ 100
  inr : ∀ e ∈ T, ∃ a b : Nat, e.1 = ((a : Int), (b : Int)) ∧ a < n ∧ b < n
section
variable {n : Nat} {T : Ti} {W : D} {N : Store}
theorem TOk.nn (h : TOk n T) : ∀ e ∈ T, 0 ≤ e.1.2 := fun e he => by
  obtain ⟨a, b, e1, _, _⟩ := h.inr e he
  rw [e1]
  show (0 : Int) ≤ (b : Int)
  omega
theorem TOk.pw (h : TOk n T) (p : Ce × Int → Bool) : (T.filter p).Pairwise fun x y => x.1 ≠ y.1 := by
  have := h.nd
  unfold keys List.Nodup at this
  rw [List.pairwise_map] at this
  exact this.filter p
theorem exL_len (h : TOk n T) (w : Way) : (exL T w).length ≤ n := by
  unfold exL
  rw [List.length_map, ← List.length_map (f := fun e : Ce × Int => e.1.2.toNat)]
  refine count_le ?_ fun a ha => ?_
  · unfold List.Nodup
    rw [List.pairwise_map]
    refine (h.pw (exq w)).imp_of_mem fun {x y} hx hy hne z => ?_
    obtain ⟨hx, ex⟩ := List.mem_filter.mp hx
    obtain ⟨hy, ey⟩ := List.mem_filter.mp hy
    unfold exq at ex ey
    rw [Bool.and_eq_true, decide_eq_true_eq] at ex ey
    have n1 := h.nn x hx
    have n2 := h.nn y hy
    exact hne (Prod.ext (by rw [ex.1, ey.1]) (by omega))
  · obtain ⟨e, he, rfl⟩ := List.mem_map.mp ha
    obtain ⟨a, b, e1, _, hb⟩ := h.inr e (List.mem_filter.mp he).1
    rw [e1]
    show ((b : Int)).toNat < n
    omega
theorem clL_len (h : TOk n T) (w : Way) : (clL T w).length ≤ 1 := by
  unfold clL
  rw [List.length_map]
  have pw := h.pw (clo w)
  have al : ∀ x ∈ T.filter (clo w), x.1 = ((lastN w.1 : Int), (hdN w.1 : Int)) := fun x hx => by
    have := (List.mem_filter.mp hx).2
    unfold clo at this
    rw [Bool.and_eq_true, decide_eq_true_eq, decide_eq_true_eq] at this
    exact Prod.ext this.1 this.2
  cases hq : T.filter (clo w) with
  | nil => exact Nat.zero_le _
  | cons x l =>
    cases l with
    | nil => exact Nat.le_refl _
    | cons y l =>
      rw [hq] at pw al
      have := (List.pairwise_cons.mp pw).1 y List.mem_cons_self
      exact absurd ((al x List.mem_cons_self).trans (al y (by simp)).symm) this
theorem inner {w : Way} (hw : w.1 ≠ []) (hl : w.1.length ≤ 100) : ∀ (es : List (Ce × Int)) (A B : List Way) (x8 x9 x10 : Option EV), (∀ e ∈ es, 0 ≤ e.1.2) → A.length + es.length ≤ 900000 → B.length + es.length ≤ 900000 →
    ∃ y8 y9 y10, forL rgT rgB (es.map itD) (eR n T W (some (.cel (N.length + 1))) (vv (.tup (w.1.map nI))) (vv (.int w.2)) x8 x9 x10) (sR A N B) = .ok (.nx, eR n T W (some (.cel (N.length + 1))) (vv (.tup (w.1.map nI))) (vv (.int w.2)) y8 y9 y10) (sR (A ++ (es.filter (clo w)).map (clF w)) N (B ++ (es.filter (exq w)).map (exF w)))
  | [], A, B, x8, x9, x10, _, _, _ => ⟨x8, x9, x10, by
    show Out.ok _ (sR A N B) = Out.ok _ (sR (A ++ []) N (B ++ []))
    rw [List.append_nil, List.append_nil]⟩
  | e :: es, A, B, x8, x9, x10, hn, hA, hB => by
    rw [List.length_cons] at hA hB
    obtain ⟨ρ, hρ⟩ : ∃ ρ, ρ = eR n T W (some (.cel (N.length + 1))) (vv (.tup (w.1.map nI))) (vv (.int w.2)) (vv (.int e.2)) (vv (.int e.1.1)) (vv (.int e.1.2)) := ⟨_, rfl⟩
    have s := rg_step (N := N) (A := A) (B := B) hw (hn e List.mem_cons_self) (by omega) (by omega) hl hρ
    have l1 : ∀ p : Ce × Int → Bool, ([e].filter p).length ≤ 1 := fun p => List.length_filter_le p [e]
    obtain ⟨y8, y9, y10, r⟩ := inner hw hl es (A ++ ([e].filter (clo w)).map (clF w)) (B ++ ([e].filter (exq w)).map (exF w)) (vv (.int e.2)) (vv (.int e.1.1)) (vv (.int e.1.2)) (fun x hx => hn x (List.mem_cons_of_mem _ hx)) (by
      have := l1 (clo w)
      rw [List.length_append, List.length_map]
      omega) (by
      have := l1 (exq w)
      rw [List.length_append, List.length_map]
      omega)
    refine ⟨y8, y9, y10, ?_⟩
    rw [List.map_cons]
    refine (forL_step (ρ1 := ρ) (by subst hρ; rfl) s).trans ?_
    rw [hρ]
    refine r.trans ?_
    rw [show e :: es = [e] ++ es from rfl, List.filter_append, List.filter_append, List.map_append, List.map_append, List.append_assoc, List.append_assoc]
theorem outer (h : TOk n T) : ∀ (ws : List Way) (A B : List Way) (x6 x7 x8 x9 x10 : Option EV), (∀ w ∈ ws, w.1 ≠ [] ∧ w.1.length ≤ 100) → n ≤ 6 → A.length + ws.length ≤ 800000 → B.length + 6 * ws.length ≤ 800000 →
    ∃ y6 y7 y8 y9 y10, forL (.tp [(.nm 6), (.nm 7)]) rgI (ws.map wyD) (eR n T W (some (.cel (N.length + 1))) x6 x7 x8 x9 x10) (sR A N B) = .ok (.nx, eR n T W (some (.cel (N.length + 1))) y6 y7 y8 y9 y10) (sR (A ++ ws.flatMap (clL T)) N (B ++ ws.flatMap (exL T)))
  | [], A, B, x6, x7, x8, x9, x10, _, _, _, _ => ⟨x6, x7, x8, x9, x10, by
    rw [List.flatMap_nil, List.flatMap_nil, List.append_nil, List.append_nil]
    rfl⟩
  | w :: ws, A, B, x6, x7, x8, x9, x10, hw, h6, hA, hB => by
    rw [List.length_cons] at hA hB
    obtain ⟨w1, w2⟩ := hw w List.mem_cons_self
    have hT := h.len
    obtain ⟨y8, y9, y10, i⟩ := inner (n := n) (T := T) (W := W) (N := N) w1 w2 T A B x8 x9 x10 h.nn (by omega) (by omega)
    have c1 := clL_len h w
    have c2 := exL_len h w
    obtain ⟨z6, z7, z8, z9, z10, r⟩ := outer h ws (A ++ clL T w) (B ++ exL T w) (vv (.tup (w.1.map nI))) (vv (.int w.2)) y8 y9 y10 (fun x hx => hw x (List.mem_cons_of_mem _ hx)) h6 (by rw [List.length_append]; omega) (by rw [List.length_append]; omega)
    refine ⟨z6, z7, z8, z9, z10, ?_⟩
    rw [List.map_cons]
    refine (forL_step (ρ1 := eR n T W (some (.cel (N.length + 1))) (vv (.tup (w.1.map nI))) (vv (.int w.2)) x8 x9 x10) (ρ2 := eR n T W (some (.cel (N.length + 1))) (vv (.tup (w.1.map nI))) (vv (.int w.2)) y8 y9 y10) (S2 := sR (A ++ clL T w) N (B ++ exL T w)) rfl ?_).trans ?_
    · unfold rgI
      rw [ev_For, show mItT (mVar 1) (eR n T W (some (.cel (N.length + 1))) (vv (.tup (w.1.map nI))) (vv (.int w.2)) x8 x9 x10) (sR A N B) = .ok (T.map itD) (sR A N B) from by
        show Out.ok (itemsT (T.map fun e => tkI e.1) (T.map fun e => D.int e.2)) _ = _
        rw [items_fw], ev_bindS_ok]
      exact i
    · refine r.trans ?_
      rw [List.flatMap_cons, List.flatMap_cons, List.append_assoc, List.append_assoc]
def ringsL (T : Ti) : Nat → List Way → List Way
  | 0, _ => []
  | f + 1, ws => ws.flatMap (clL T) ++ ringsL T f (ws.flatMap (exL T))
theorem ringsL_nil (T : Ti) : ∀ f, ringsL T f [] = []
  | 0 => rfl
  | f + 1 => by
    unfold ringsL
    rw [List.flatMap_nil, List.flatMap_nil, ringsL_nil T f]
    rfl
structure Lvl (n k : Nat) (ws : List Way) : Prop where
  len : ∀ w ∈ ws, w.1.length = k + 1
  nd : ∀ w ∈ ws, w.1.Nodup
  lt : ∀ w ∈ ws, ∀ g ∈ w.1, g < n
  few : ws.length ≤ 6 ^ (k + 1)
theorem flat_le {α β : Type} {f : α → List β} {c : Nat} : ∀ l : List α, (∀ x ∈ l, (f x).length ≤ c) → (l.flatMap f).length ≤ l.length * c
  | [], _ => by simp
  | x :: l, h => by
    rw [List.flatMap_cons, List.length_append, List.length_cons, Nat.add_mul, Nat.one_mul]
    have := h x List.mem_cons_self
    have := flat_le l fun y hy => h y (List.mem_cons_of_mem _ hy)
    omega
theorem Lvl.next (h : TOk n T) (h6 : n ≤ 6) {k : Nat} {ws : List Way} (L : Lvl n k ws) : Lvl n (k + 1) (ws.flatMap (exL T)) := by
  have mem : ∀ w ∈ ws.flatMap (exL T), ∃ v ∈ ws, ∃ e ∈ T, exq v e = true ∧ w = exF v e := fun w hw => by
    obtain ⟨v, hv, hx⟩ := List.mem_flatMap.mp hw
    obtain ⟨e, he, rfl⟩ := List.mem_map.mp hx
    obtain ⟨h1, h2⟩ := List.mem_filter.mp he
    exact ⟨v, hv, e, h1, h2, rfl⟩
  refine ⟨fun w hw => ?_, fun w hw => ?_, fun w hw => ?_, ?_⟩
  · obtain ⟨v, hv, e, he, hx, rfl⟩ := mem w hw
    show (v.1 ++ [e.1.2.toNat]).length = _
    rw [List.length_append, L.len v hv]
    rfl
  · obtain ⟨v, hv, e, he, hx, rfl⟩ := mem w hw
    unfold exq at hx
    rw [Bool.and_eq_true, Bool.and_eq_true] at hx
    have hn : e.1.2.toNat ∉ v.1 := by
      have := hx.2.2
      simpa using this
    exact List.nodup_append.mpr ⟨L.nd v hv, by simp, fun a ha b hb z => by
      obtain rfl := List.mem_singleton.mp hb
      exact hn (z ▸ ha)⟩
  · obtain ⟨v, hv, e, he, hx, rfl⟩ := mem w hw
    intro g hg
    rcases List.mem_append.mp hg with hg | hg
    · exact L.lt v hv g hg
    · obtain rfl := List.mem_singleton.mp hg
      obtain ⟨a, b, e1, _, hb⟩ := h.inr e he
      rw [e1]
      show ((b : Int)).toNat < n
      omega
  · have := flat_le (c := 6) ws fun w _ => Nat.le_trans (exL_len h w) h6
    have := L.few
    rw [Nat.pow_succ]
    omega
theorem Lvl.over {k : Nat} {ws : List Way} (L : Lvl n k ws) (h : n ≤ k) : ws = [] := by
  cases ws with
  | nil => rfl
  | cons w ws =>
    have := count_le (L.nd w List.mem_cons_self) (L.lt w List.mem_cons_self)
    have := L.len w List.mem_cons_self
    omega
theorem rg_while (h : TOk n T) (h6 : n ≤ 6) : ∀ (f k fuel : Nat) (ws A : List Way) (N : Store) (x4 x6 x7 x8 x9 x10 : Option EV), k + f = n → f < fuel → Lvl n k ws → A.length ≤ 50000 * k →
    ∃ N' y4 y6 y7 y8 y9 y10, whileL (mTru (mVar 3)) rgW fuel (eR n T (.lst (ws.map wyD)) x4 x6 x7 x8 x9 x10) (some (.lst (A.map wyD)) :: N) = .ok (.nx, eR n T (.lst []) y4 y6 y7 y8 y9 y10) (some (.lst ((A ++ ringsL T f ws).map wyD)) :: N') := fun f => by
  induction f with
  | zero =>
    intro k fuel ws A N x4 x6 x7 x8 x9 x10 hk hf L hA
    obtain rfl := L.over (by omega)
    cases fuel with
    | zero => omega
    | succ fuel =>
      refine ⟨N, x4, x6, x7, x8, x9, x10, ?_⟩
      unfold whileL ringsL
      rw [List.append_nil]
      rfl
  | succ f ih =>
    intro k fuel ws A N x4 x6 x7 x8 x9 x10 hk hf L hA
    cases fuel with
    | zero => omega
    | succ fuel =>
      by_cases hz : ws = []
      · subst hz
        refine ⟨N, x4, x6, x7, x8, x9, x10, ?_⟩
        rw [ringsL_nil, List.append_nil]
        unfold whileL
        rfl
      · obtain ⟨ρ0, h0⟩ : ∃ ρ0, ρ0 = eR n T (.lst (ws.map wyD)) x4 x6 x7 x8 x9 x10 := ⟨_, rfl⟩
        obtain ⟨W, hW⟩ : ∃ W, W = D.lst (ws.map wyD) := ⟨_, rfl⟩
        have tt : mTru (mVar 3) ρ0 (some (.lst (A.map wyD)) :: N) = .ok true (some (.lst (A.map wyD)) :: N) := by
          subst h0
          cases ws with
          | nil => exact absurd rfl hz
          | cons w ws => rfl
        have p6 : 6 ^ (k + 1) ≤ 6 ^ 6 := Nat.pow_le_pow_right (by decide) (by omega)
        have p6' : (6 : Nat) ^ 6 = 46656 := by decide
        have lf := L.few
        obtain ⟨y6, y7, y8, y9, y10, o⟩ := outer (W := W) (N := N) h ws A [] x6 x7 x8 x9 x10 (fun w hw => by
          have := L.len w hw
          refine ⟨fun z => ?_, by omega⟩
          rw [z] at this
          simp at this) h6 (by omega) (by simp only [List.length_nil]; omega)
        obtain ⟨ρ1, h1⟩ : ∃ ρ1, ρ1 = eR n T W (some (.cel (N.length + 1))) x6 x7 x8 x9 x10 := ⟨_, rfl⟩
        obtain ⟨ρ2, h2⟩ : ∃ ρ2, ρ2 = eR n T W (some (.cel (N.length + 1))) y6 y7 y8 y9 y10 := ⟨_, rfl⟩
        rw [← h1, ← h2, List.nil_append] at o
        have e1 : mSet 4 (mNew mNil) ρ0 (some (.lst (A.map wyD)) :: N) = .ok (.nx, ρ1) (sR A N []) := by subst h0 h1; rw [hW]; rfl
        have e2 : rgO ρ1 (sR A N []) = .ok (.nx, ρ2) (sR (A ++ ws.flatMap (clL T)) N (ws.flatMap (exL T))) := by
          unfold rgO
          rw [ev_For, show mIt (mVar 3) ρ1 (sR A N []) = .ok (ws.map wyD) (sR A N []) from by subst h1; rw [hW]; rfl, ev_bindS_ok]
          exact o
        have e3 : mSet 3 (mV (mFrz 4)) ρ2 (sR (A ++ ws.flatMap (clL T)) N (ws.flatMap (exL T))) = .ok (.nx, eR n T (.lst ((ws.flatMap (exL T)).map wyD)) (some (.cel (N.length + 1))) y6 y7 y8 y9 y10) (some (.lst ((A ++ ws.flatMap (clL T)).map wyD)) :: (N ++ [none])) := by
          have : mFrz 4 ρ2 (sR (A ++ ws.flatMap (clL T)) N (ws.flatMap (exL T))) = .ok (.lst ((ws.flatMap (exL T)).map wyD)) (some (.lst ((A ++ ws.flatMap (clL T)).map wyD)) :: (N ++ [none])) := by
            unfold mFrz
            rw [show ρ2[4]? = some (some (.cel (N.length + 1))) from by subst h2; rfl]
            dsimp only
            rw [sR_get]
            unfold sR
            simp
          refine (st_set this).trans ?_
          subst h2
          rfl
        have eb : rgW ρ0 (some (.lst (A.map wyD)) :: N) = .ok (.nx, eR n T (.lst ((ws.flatMap (exL T)).map wyD)) (some (.cel (N.length + 1))) y6 y7 y8 y9 y10) (some (.lst ((A ++ ws.flatMap (clL T)).map wyD)) :: (N ++ [none])) := by
          unfold rgW
          rw [seq_nx e1, seq_nx e2]
          exact e3
        have cl := flat_le (c := 1) ws fun w _ => clL_len h w
        obtain ⟨N', z4, z6, z7, z8, z9, z10, r⟩ := ih (k + 1) fuel (ws.flatMap (exL T)) (A ++ ws.flatMap (clL T)) (N ++ [none]) (some (.cel (N.length + 1))) y6 y7 y8 y9 y10 (by omega) (by omega) (L.next h h6) (by rw [List.length_append]; omega)
        refine ⟨N', z4, z6, z7, z8, z9, z10, ?_⟩
        unfold ringsL
        rw [← h0]
        conv => lhs; unfold whileL
        rw [tt, ev_bindS_ok, if_pos rfl, eb]
        refine r.trans ?_
        rw [List.append_assoc]
def start (n : Nat) : List Way := (List.range n).map fun g => ([g], 0)
theorem start_lvl (n : Nat) (h6 : n ≤ 6) : Lvl n 0 (start n) := by
  have mem : ∀ w ∈ start n, ∃ g, g < n ∧ w = ([g], 0) := fun w hw => by
    obtain ⟨g, hg, rfl⟩ := List.mem_map.mp hw
    exact ⟨g, List.mem_range.mp hg, rfl⟩
  refine ⟨fun w hw => ?_, fun w hw => ?_, fun w hw => ?_, by unfold start; simp; omega⟩
  · obtain ⟨g, _, rfl⟩ := mem w hw; rfl
  · obtain ⟨g, _, rfl⟩ := mem w hw; simp
  · obtain ⟨g, hg, rfl⟩ := mem w hw
    intro a ha
    rw [List.mem_singleton.mp ha]; exact hg
def rings (n : Nat) (T : Ti) : List Way := ringsL T n (start n)
theorem rings_spec (h : TOk n T) (h6 : n ≤ 6) : d_rings_of [.v (nI n), .v (fwD T)] [] = .ok (.lst ((rings n T).map wyD)) [] := by
  obtain ⟨ρ0, h0⟩ : ∃ ρ0 : DL.Env, ρ0 = [vv (nI n), vv (fwD T), none, none, none, none, none, none, none, none, none] := ⟨_, rfl⟩
  obtain ⟨ρ1, h1⟩ : ∃ ρ1 : DL.Env, ρ1 = [vv (nI n), vv (fwD T), some (.cel 0), none, none, none, none, none, none, none, none] := ⟨_, rfl⟩
  obtain ⟨ρ2, h2⟩ : ∃ ρ2 : DL.Env, ρ2 = eR n T (.lst ((start n).map wyD)) none none none none none none := ⟨_, rfl⟩
  have e0 : mSet 2 (mNew mNil) ρ0 [] = .ok (.nx, ρ1) [some (.lst [])] := by subst h0 h1; rfl
  have e1 : mSetLc 3 (mLc (mRg1 (mVar 0)) (.nm 5) mYes (mTup (mCons (mTup (mCons (mVar 5) mNil)) (mCons (mC (.int 0)) mNil))) [5]) ρ1 [some (.lst [])] = .ok (.nx, ρ2) [some (.lst [])] := by
    have lc := lcA1 (tg := .nm 5) (fe := mTup (mCons (mTup (mCons (mVar 5) mNil)) (mCons (mC (.int 0)) mNil))) (ρ := wipeE ρ1 [5]) (S := [some (.lst [])]) nI (fun g => wyD ([g], 0)) (List.range n) (fun g hg => ⟨(wipeE ρ1 [5]).set 5 (vv (nI g)), by subst h1; rfl, t2 (t1 (by subst h1; rfl)) rfl⟩) (by rw [lim_is]; simp; omega)
    rw [ev_SetLc, ev_Lc]
    rw [show mRg1 (mVar 0) ρ1 [some (.lst [])] = .ok ((List.range n).map nI) [some (.lst [])] from by
      unfold mRg1
      rw [show mVar 0 ρ1 [some (.lst [])] = .ok (nI n) [some (.lst [])] from by subst h1; rfl, ev_bind_ok]
      show (if _ then Out.ok (rgD 0 (n : Int)) _ else .bad) = _
      rw [if_pos ⟨by omega, by omega⟩, rgD_nat]
      rfl, ev_bind_ok, lc]
    subst h2 h1
    unfold start
    rw [List.map_map]
    rfl
  obtain ⟨N', y4, y6, y7, y8, y9, y10, e2⟩ := rg_while h h6 n 0 1000 (start n) [] [] none none none none none none (by omega) (by omega) (start_lvl n h6) (Nat.zero_le _)
  obtain ⟨ρ3, h3⟩ : ∃ ρ3 : DL.Env, ρ3 = eR n T (.lst []) y4 y6 y7 y8 y9 y10 := ⟨_, rfl⟩
  rw [← h2, ← h3, List.nil_append] at e2
  refine denB_rt (ρ1 := ρ3) (S1 := none :: N') ?_
  show b_rings_of [vv (nI n), vv (fwD T), none, none, none, none, none, none, none, none, none] [] = _
  rw [← h0, rg_all, seq_nx e0, seq_nx e1]
  refine (seq_nx e2).trans ?_
  rw [ev_Ret]
  have : mFrz 2 ρ3 (some (.lst ((ringsL T n (start n)).map wyD)) :: N') = .ok (.lst ((rings n T).map wyD)) (none :: N') := by
    subst h3
    rfl
  rw [this]
  rfl
end
end Pr
end

/-! rings told as walks -/
noncomputable section
namespace Pr
open PySem L2 DL Cm
/-- the registers along a walk -/
def wsm (T : Ti) : List Nat → Option Int
  | [] => some 0
  | [_] => some 0
  | a :: b :: r => (lookI T ((a : Int), (b : Int))).bind fun m => (wsm T (b :: r)).map (m + ·)
theorem wsm_snoc (T : Ti) : ∀ (l : List Nat) (b : Nat), l ≠ [] → wsm T (l ++ [b]) = (wsm T l).bind fun s => (lookI T ((lastN l : Int), (b : Int))).map (s + ·)
  | [], _, h => absurd rfl h
  | [a], b, _ => by
    show (lookI T ((a : Int), (b : Int))).bind (fun m => (some 0).map (m + ·)) = (some 0).bind fun s => (lookI T ((a : Int), (b : Int))).map (s + ·)
    cases lookI T ((a : Int), (b : Int)) with
    | none => rfl
    | some m => show some (m + 0) = some (0 + m); rw [Int.add_comm]
  | a :: c :: r, b, _ => by
    have ih := wsm_snoc T (c :: r) b (by simp)
    show (lookI T ((a : Int), (c : Int))).bind (fun m => (wsm T (c :: r ++ [b])).map (m + ·)) = ((lookI T ((a : Int), (c : Int))).bind fun m => (wsm T (c :: r)).map (m + ·)).bind fun s => (lookI T ((lastN (a :: c :: r) : Int), (b : Int))).map (s + ·)
    rw [ih, show lastN (a :: c :: r) = lastN (c :: r) from rfl]
    cases lookI T ((a : Int), (c : Int)) with
    | none => rfl
    | some m =>
      cases wsm T (c :: r) with
      | none => rfl
      | some s =>
        show ((lookI T ((lastN (c :: r) : Int), (b : Int))).map (s + ·)).map (m + ·) = (lookI T ((lastN (c :: r) : Int), (b : Int))).map (m + s + ·)
        cases lookI T ((lastN (c :: r) : Int), (b : Int)) with
        | none => rfl
        | some k => show some (m + (s + k)) = some (m + s + k); rw [Int.add_assoc]
/-- a walk the other way round -/
theorem wsm_rev {T T' : Ti} (h : ∀ a b : Nat, lookI T' ((b : Int), (a : Int)) = lookI T ((a : Int), (b : Int))) : ∀ l : List Nat, wsm T' l.reverse = wsm T l
  | [] => rfl
  | [a] => rfl
  | a :: b :: r => by
    have ih := wsm_rev h (b :: r)
    have lr : lastN (b :: r).reverse = b := by
      rw [List.reverse_cons]
      unfold lastN
      simp
    rw [List.reverse_cons, wsm_snoc T' _ a (by simp), ih, lr, h a b]
    show _ = (lookI T ((a : Int), (b : Int))).bind fun m => (wsm T (b :: r)).map (m + ·)
    cases wsm T (b :: r) with
    | none => cases lookI T ((a : Int), (b : Int)) <;> rfl
    | some s =>
      cases lookI T ((a : Int), (b : Int)) with
      | none => rfl
      | some m => show some (s + m) = some (m + s); rw [Int.add_comm]
/-- a way from its least gate -/
structure Pth (n : Nat) (T : Ti) (w : Way) : Prop where
  ne : w.1 ≠ []
  nd : w.1.Nodup
  lt : ∀ g ∈ w.1, g < n
  low : ∀ g ∈ w.1.tail, hdN w.1 < g
  sum : wsm T w.1 = some w.2
section
variable {n : Nat} {T : Ti}
theorem hd_app {p : List Nat} (h : p ≠ []) (b : Nat) : hdN (p ++ [b]) = hdN p := by
  cases p with
  | nil => exact absurd rfl h
  | cons a p => rfl
theorem pth_next (h : TOk n T) {v : Way} (P : Pth n T v) {x : Way} (hx : x ∈ exL T v) : Pth n T x := by
  obtain ⟨e, he, rfl⟩ := List.mem_map.mp hx
  obtain ⟨h1, h2⟩ := List.mem_filter.mp he
  obtain ⟨a, b, e1, ha, hb⟩ := h.inr e h1
  obtain ⟨⟨ea, eb⟩, m⟩ := e
  have ea : ea = (a : Int) := congrArg Prod.fst e1
  have eb : eb = (b : Int) := congrArg Prod.snd e1
  subst ea eb
  unfold exq at h2
  rw [Bool.and_eq_true, Bool.and_eq_true, decide_eq_true_eq, decide_eq_true_eq] at h2
  obtain ⟨k1, k2, k3⟩ := h2
  have k1 : (a : Int) = (lastN v.1 : Int) := k1
  have k2 : (b : Int) > (hdN v.1 : Int) := k2
  have k3 : b ∉ v.1 := by simpa using k3
  have ex : exF v (((a : Int), (b : Int)), m) = (v.1 ++ [b], v.2 + m) := rfl
  rw [ex]
  refine ⟨by simp, List.nodup_append.mpr ⟨P.nd, by simp, fun c hc y hy z => by
      rw [List.mem_singleton.mp hy] at z
      exact k3 (z ▸ hc)⟩, fun g hg => ?_, fun g hg => ?_, ?_⟩
  · rcases List.mem_append.mp hg with hg | hg
    · exact P.lt g hg
    · rw [List.mem_singleton.mp hg]; exact hb
  · show hdN (v.1 ++ [b]) < g
    rw [hd_app P.ne]
    have hg : g ∈ (v.1 ++ [b]).tail := hg
    rw [List.tail_append_of_ne_nil P.ne] at hg
    rcases List.mem_append.mp hg with hg | hg
    · exact P.low g hg
    · rw [List.mem_singleton.mp hg]; omega
  · show wsm T (v.1 ++ [b]) = some (v.2 + m)
    rw [wsm_snoc T _ _ P.ne, P.sum, ← k1, (look_iff h.nd).mpr h1]
    rfl
theorem pth_back (h : TOk n T) {x : Way} (P : Pth n T x) {k : Nat} (hl : x.1.length = k + 2) : ∃ v, Pth n T v ∧ v.1.length = k + 1 ∧ x ∈ exL T v := by
  obtain ⟨p, m⟩ := x
  rcases List.eq_nil_or_concat p with rfl | ⟨q, b, rfl⟩
  · exact absurd hl (by simp)
  rw [List.concat_eq_append] at *
  have hl : (q ++ [b]).length = k + 2 := hl
  rw [List.length_append] at hl
  have hq : q ≠ [] := fun z => by rw [z] at hl; simp at hl
  have s : wsm T (q ++ [b]) = some m := P.sum
  rw [wsm_snoc T _ _ hq] at s
  cases hs : wsm T q with
  | none => rw [hs] at s; cases s
  | some s0 =>
    rw [hs] at s
    cases hk : lookI T ((lastN q : Int), (b : Int)) with
    | none => rw [hk] at s; cases s
    | some c =>
      rw [hk] at s
      have s : s0 + c = m := Option.some.inj s
      have nd := P.nd
      have nd : (q ++ [b]).Nodup := nd
      obtain ⟨n1, _, n3⟩ := List.nodup_append.mp nd
      have lo : ∀ g ∈ (q ++ [b]).tail, hdN (q ++ [b]) < g := P.low
      rw [List.tail_append_of_ne_nil hq, hd_app hq] at lo
      refine ⟨(q, s0), ⟨hq, n1, fun g hg => P.lt g (List.mem_append_left _ hg), fun g hg => lo g (List.mem_append_left _ hg), hs⟩, by simp at hl; exact hl, ?_⟩
      refine List.mem_map.mpr ⟨(((lastN q : Int), (b : Int)), c), List.mem_filter.mpr ⟨(look_iff h.nd).mp hk, ?_⟩, ?_⟩
      · unfold exq
        have b1 : b ∉ q := fun z => n3 b z b List.mem_cons_self rfl
        have b2 := lo b (by simp)
        have b3 : ((b : Int)).toNat = b := Int.toNat_natCast b
        show (decide ((lastN q : Int) = (lastN q : Int)) && (decide ((b : Int) > (hdN q : Int)) && !decide (((b : Int)).toNat ∈ q))) = true
        rw [b3, decide_eq_true rfl, decide_eq_true (by omega), decide_eq_false b1]
        rfl
      · show (q ++ [((b : Int)).toNat], s0 + c) = _
        rw [s, Int.toNat_natCast]
def levL (T : Ti) : Nat → List Way → List Way
  | 0, ws => ws
  | k + 1, ws => (levL T k ws).flatMap (exL T)
theorem lev_mem (h : TOk n T) : ∀ (k : Nat) (w : Way), w ∈ levL T k (start n) ↔ Pth n T w ∧ w.1.length = k + 1
  | 0, w => by
    constructor
    · intro hw
      obtain ⟨g, hg, rfl⟩ := List.mem_map.mp hw
      have hg := List.mem_range.mp hg
      exact ⟨⟨by simp, by simp, fun a ha => by rw [List.mem_singleton.mp ha]; exact hg, fun a ha => (by cases ha), rfl⟩, rfl⟩
    · rintro ⟨P, hl⟩
      obtain ⟨p, m⟩ := w
      cases p with
      | nil => cases hl
      | cons a p =>
        cases p with
        | cons b p => simp at hl
        | nil =>
          have := P.sum
          have e : m = 0 := (Option.some.inj this).symm
          subst e
          exact List.mem_map.mpr ⟨a, List.mem_range.mpr (P.lt a (by simp)), rfl⟩
  | k + 1, w => by
    constructor
    · intro hw
      obtain ⟨v, hv, hx⟩ := List.mem_flatMap.mp hw
      obtain ⟨P, hl⟩ := (lev_mem h k v).mp hv
      refine ⟨pth_next h P hx, ?_⟩
      obtain ⟨e, _, rfl⟩ := List.mem_map.mp hx
      show (v.1 ++ [_]).length = _
      rw [List.length_append, hl]
      rfl
    · rintro ⟨P, hl⟩
      obtain ⟨v, Pv, lv, hx⟩ := pth_back h P hl
      exact List.mem_flatMap.mpr ⟨v, (lev_mem h k v).mpr ⟨Pv, lv⟩, hx⟩
theorem rings_lev (T : Ti) (x : Way) : ∀ (f : Nat) (ws : List Way), x ∈ ringsL T f ws ↔ ∃ j, j < f ∧ ∃ w ∈ levL T j ws, x ∈ clL T w
  | 0, ws => ⟨(fun h => by cases h), fun ⟨j, h, _⟩ => absurd h (Nat.not_lt_zero _)⟩
  | f + 1, ws => by
    have sh : ∀ j, levL T j (ws.flatMap (exL T)) = levL T (j + 1) ws := fun j => by
      induction j with
      | zero => rfl
      | succ j ih =>
        show (levL T j (ws.flatMap (exL T))).flatMap (exL T) = _
        rw [ih]
        rfl
    unfold ringsL
    rw [List.mem_append, rings_lev T x f, List.mem_flatMap]
    constructor
    · rintro (⟨w, hw, hx⟩ | ⟨j, hj, w, hw, hx⟩)
      · exact ⟨0, by omega, w, hw, hx⟩
      · exact ⟨j + 1, by omega, w, by rw [← sh]; exact hw, hx⟩
    · rintro ⟨j, hj, w, hw, hx⟩
      cases j with
      | zero => exact .inl ⟨w, hw, hx⟩
      | succ j => exact .inr ⟨j, by omega, w, by rw [sh]; exact hw, hx⟩
/-- a ring, from its least gate -/
structure Ring (n : Nat) (T : Ti) (x : Way) : Prop where
  ne : x.1 ≠ []
  nd : x.1.Nodup
  lt : ∀ g ∈ x.1, g < n
  low : ∀ g ∈ x.1.tail, hdN x.1 < g
  sum : wsm T (x.1 ++ [hdN x.1]) = some x.2
theorem rings_mem (h : TOk n T) (x : Way) : x ∈ rings n T ↔ Ring n T x := by
  unfold rings
  rw [rings_lev]
  constructor
  · rintro ⟨j, _, w, hw, hx⟩
    obtain ⟨P, _⟩ := (lev_mem h j w).mp hw
    obtain ⟨e, he, rfl⟩ := List.mem_map.mp hx
    obtain ⟨h1, h2⟩ := List.mem_filter.mp he
    unfold clo at h2
    rw [Bool.and_eq_true, decide_eq_true_eq, decide_eq_true_eq] at h2
    refine ⟨P.ne, P.nd, P.lt, P.low, ?_⟩
    show wsm T (w.1 ++ [hdN w.1]) = some (w.2 + e.2)
    have k : lookI T ((lastN w.1 : Int), (hdN w.1 : Int)) = some e.2 := (look_iff h.nd).mpr (by rw [← h2.1, ← h2.2]; exact h1)
    rw [wsm_snoc T _ _ P.ne, P.sum, k]
    rfl
  · intro R
    have s := R.sum
    rw [wsm_snoc T _ _ R.ne] at s
    cases hs : wsm T x.1 with
    | none => rw [hs] at s; cases s
    | some s0 =>
      rw [hs] at s
      cases hk : lookI T ((lastN x.1 : Int), (hdN x.1 : Int)) with
      | none => rw [hk] at s; cases s
      | some c =>
        rw [hk] at s
        have s : s0 + c = x.2 := Option.some.inj s
        have len := count_le R.nd R.lt
        have pos : 0 < x.1.length := List.length_pos_iff.mpr R.ne
        refine ⟨x.1.length - 1, by omega, (x.1, s0), (lev_mem h _ _).mpr ⟨⟨R.ne, R.nd, R.lt, R.low, hs⟩, by show x.1.length = _; omega⟩, ?_⟩
        refine List.mem_map.mpr ⟨(((lastN x.1 : Int), (hdN x.1 : Int)), c), List.mem_filter.mpr ⟨(look_iff h.nd).mp hk, ?_⟩, ?_⟩
        · unfold clo
          show (decide ((lastN x.1 : Int) = (lastN x.1 : Int)) && decide ((hdN x.1 : Int) = (hdN x.1 : Int))) = true
          rw [decide_eq_true rfl, decide_eq_true rfl]
          rfl
        · show (x.1, s0 + c) = x
          rw [s]
/-- a ring the other way round -/
theorem ring_rev {T' : Ti} (h : ∀ a b : Nat, lookI T' ((b : Int), (a : Int)) = lookI T ((a : Int), (b : Int))) {x : Way} (R : Ring n T x) : ∃ y, Ring n T' y ∧ y.2 = x.2 ∧ y.1.Perm x.1 := by
  obtain ⟨p, m⟩ := x
  cases p with
  | nil => exact absurd rfl R.ne
  | cons g q =>
    have lo : ∀ a ∈ q, g < a := R.low
    have nd : (g :: q).Nodup := R.nd
    have lt : ∀ a ∈ g :: q, a < n := R.lt
    have s : wsm T (g :: q ++ [g]) = some m := R.sum
    have pm : (g :: q.reverse).Perm (g :: q) := List.Perm.cons g q.reverse_perm
    refine ⟨(g :: q.reverse, m), ⟨by simp, (pm.nodup_iff).mpr nd, fun a ha => lt a (pm.mem_iff.mp ha), fun a ha => lo a (List.mem_reverse.mp ha), ?_⟩, rfl, pm⟩
    show wsm T' (g :: q.reverse ++ [g]) = some m
    rw [← s, ← wsm_rev h (g :: q ++ [g])]
    congr 1
    simp
end
end Pr
end

/-! the best ratio of rings -/
noncomputable section
namespace Pr
open PySem L2 DL Cm
structure Lo (p q a b : Int) : Prop where
  q0 : 0 < q
  q1 : q ≤ b
  g : Int.gcd p q = 1
  eq : p * b = a * q
theorem lo_rat {a b : Int} (hb : 0 < b) : Lo (a / (Int.gcd a b : Int)) (b / (Int.gcd a b : Int)) a b := by
  have gp : 0 < Int.gcd a b := Int.gcd_pos_of_ne_zero_right _ (by omega)
  obtain ⟨g, hg⟩ : ∃ g : Int, g = (Int.gcd a b : Int) := ⟨_, rfl⟩
  have g0 : 0 < g := by omega
  have ea : a / g * g = a := Int.ediv_mul_cancel (by rw [hg]; exact Int.gcd_dvd_left _ _)
  have eb : b / g * g = b := Int.ediv_mul_cancel (by rw [hg]; exact Int.gcd_dvd_right _ _)
  have cop := Int.gcd_ediv_gcd_ediv_gcd gp
  rw [← hg] at cop ⊢
  have q0 : 0 < b / g := by
    refine Int.lt_of_not_ge fun z => ?_
    have := Int.mul_le_mul_of_nonneg_right z (Int.le_of_lt g0)
    rw [eb, Int.zero_mul] at this
    omega
  refine ⟨q0, Int.ediv_le_self _ (by omega), cop, ?_⟩
  calc a / g * b = a / g * (b / g * g) := by rw [eb]
    _ = a / g * g * (b / g) := by rw [Int.mul_comm (b / g) g, Int.mul_assoc]
    _ = a * (b / g) := by rw [ea]
theorem ratio_spec {a b : Int} (hb : 0 < b) (h1 : b ≤ 1000) : d_ratio [.v (.int a), .v (.int b)] [] = .ok (.tup [.int (a / (Int.gcd a b : Int)), .int (b / (Int.gcd a b : Int))]) [] := by
  have gp : 0 < Int.gcd a b := Int.gcd_pos_of_ne_zero_right _ (by omega)
  have gb : (Int.gcd a b : Int) ≤ b := Int.le_of_dvd hb (Int.gcd_dvd_right _ _)
  have d1 := g_div (m := a) (n := (Int.gcd a b : Int)) ⟨by omega, by omega⟩
  have d2 := g_div (m := b) (n := (Int.gcd a b : Int)) ⟨by omega, by omega⟩
  obtain ⟨ρ0, h0⟩ : ∃ ρ0 : DL.Env, ρ0 = [vv (.int a), vv (.int b), none] := ⟨_, rfl⟩
  obtain ⟨ρ1, h1⟩ : ∃ ρ1 : DL.Env, ρ1 = [vv (.int a), vv (.int b), vv (.int (Int.gcd a b : Int))] := ⟨_, rfl⟩
  refine denB_rt (ρ1 := ρ1) (S1 := []) ?_
  show b_ratio [vv (.int a), vv (.int b), none] [] = _
  rw [← h0]
  unfold b_ratio
  refine (seq_nx (ρ1 := ρ1) (S1 := []) ((st_set (d := .int (Int.gcd a b : Int)) (S1 := []) (by subst h0; rfl)).trans (by subst h0 h1; rfl))).trans ?_
  rw [ev_Ret, t2 (S1 := []) (S2 := []) (opI (x := .int a) (y := .int (Int.gcd a b : Int)) (by subst h1; rfl) (by subst h1; rfl) d1) (opI (x := .int b) (y := .int (Int.gcd a b : Int)) (by subst h1; rfl) (by subst h1; rfl) d2)]
  rfl
/-- ratios with positive denominators -/
theorem rle {a b c d e f : Int} (hb : 0 < b) (hd : 0 < d) (hf : 0 < f) (h1 : a * d ≤ c * b) (h2 : c * f ≤ e * d) : a * f ≤ e * b := by
  refine Int.le_of_mul_le_mul_right (a := d) ?_ hd
  calc a * f * d = a * d * f := by rw [Int.mul_assoc, Int.mul_comm f d, ← Int.mul_assoc]
    _ ≤ c * b * f := Int.mul_le_mul_of_nonneg_right h1 (Int.le_of_lt hf)
    _ = c * f * b := by rw [Int.mul_assoc, Int.mul_comm b f, ← Int.mul_assoc]
    _ ≤ e * d * b := Int.mul_le_mul_of_nonneg_right h2 (Int.le_of_lt hb)
    _ = e * b * d := by rw [Int.mul_assoc, Int.mul_comm d b, ← Int.mul_assoc]
theorem low_eq {p q p' q' : Int} (h0 : 0 < q) (h0' : 0 < q') (g : Int.gcd p q = 1) (g' : Int.gcd p' q' = 1) (e : p * q' = p' * q) : p = p' ∧ q = q' := by
  have dv : ∀ {p q p' q' : Int}, Int.gcd p q = 1 → p * q' = p' * q → q ∣ q' := fun {p q p' q'} g e => by
    have k : q.natAbs ∣ p.natAbs * q'.natAbs := by
      rw [← Int.natAbs_mul, e, Int.natAbs_mul]
      exact Nat.dvd_mul_left _ _
    have c : Nat.Coprime q.natAbs p.natAbs := by
      show Nat.gcd q.natAbs p.natAbs = 1
      rw [Nat.gcd_comm]
      exact g
    exact Int.natAbs_dvd_natAbs.mp (Nat.Coprime.dvd_of_dvd_mul_left c k)
  have eq : q = q' := Int.dvd_antisymm (by omega) (by omega) (dv g e) (dv g' e.symm)
  refine ⟨?_, eq⟩
  rw [← eq] at e
  exact Int.eq_of_mul_eq_mul_right (by omega) e
def dS (dl : Nat → Int) (w : Way) : Int := (w.1.map dl).sum
structure Bt (dl : Nat → Int) (R : List Way) (p q : Int) : Prop where
  q0 : 0 < q
  q1 : q ≤ 1000
  p0 : 0 ≤ p
  p1 : p ≤ 1000
  g : Int.gcd p q = 1
  ex : ∃ w ∈ R, p * w.2 = dS dl w * q
  all : ∀ w ∈ R, dS dl w * q ≤ p * w.2
def BtO (dl : Nat → Int) (R : List Way) : Option (Int × Int) → Prop
  | none => R = []
  | some x => Bt dl R x.1 x.2
def bD : Option (Int × Int) → D
  | none => .non
  | some x => .tup [.int x.1, .int x.2]
structure WOk (n : Nat) (dl : Nat → Int) (w : Way) : Prop where
  lt : ∀ g ∈ w.1, g < n
  len : w.1.length ≤ 100
  r0 : 0 < w.2
  r1 : w.2 ≤ 1000
  d0 : 0 ≤ dS dl w
  d1 : dS dl w ≤ 1000
/-- the same best from two lists of rings alike -/
theorem bt_same {dl : Nat → Int} {n : Nat} {R R' : List Way} {b b' : Option (Int × Int)} (ok : ∀ w ∈ R, WOk n dl w) (ok' : ∀ w ∈ R', WOk n dl w) (h : BtO dl R b) (h' : BtO dl R' b') (s : ∀ w ∈ R, ∃ v ∈ R', dS dl v = dS dl w ∧ v.2 = w.2) (s' : ∀ w ∈ R', ∃ v ∈ R, dS dl v = dS dl w ∧ v.2 = w.2) : b = b' := by
  have le : ∀ {R R' : List Way} {p q p' q' : Int}, (∀ w ∈ R, WOk n dl w) → Bt dl R p q → Bt dl R' p' q' → (∀ w ∈ R, ∃ v ∈ R', dS dl v = dS dl w ∧ v.2 = w.2) → p * q' ≤ p' * q := fun {R R' p q p' q'} ok B B' s => by
    obtain ⟨w, hw, e⟩ := B.ex
    obtain ⟨v, hv, e1, e2⟩ := s w hw
    have k := B'.all v hv
    rw [e1, e2] at k
    exact rle B.q0 (ok w hw).r0 B'.q0 (Int.le_of_eq e) k
  cases b with
  | none =>
    have h : R = [] := h
    cases b' with
    | none => rfl
    | some x =>
      obtain ⟨w, hw, _⟩ := (show Bt dl R' x.1 x.2 from h').ex
      obtain ⟨v, hv, _⟩ := s' w hw
      rw [h] at hv
      cases hv
  | some x =>
    have B : Bt dl R x.1 x.2 := h
    cases b' with
    | none =>
      have h' : R' = [] := h'
      obtain ⟨w, hw, _⟩ := B.ex
      obtain ⟨v, hv, _⟩ := s w hw
      rw [h'] at hv
      cases hv
    | some y =>
      have B' : Bt dl R' y.1 y.2 := h'
      obtain ⟨e1, e2⟩ := low_eq B.q0 B'.q0 B.g B'.g (Int.le_antisymm (le ok B B' s) (le ok' B' B s'))
      rw [show x = y from Prod.ext e1 e2]
section
variable {n : Nat} {dl : Nat → Int} {rs : List Rule}
theorem bt_one {done : List Way} {w : Way} (W : WOk n dl w) (h : ∀ v ∈ done, WOk n dl v) (hb : ∀ v ∈ done, dS dl v * w.2 ≤ dS dl w * v.2) : Bt dl (done ++ [w]) (dS dl w / (Int.gcd (dS dl w) w.2 : Int)) (w.2 / (Int.gcd (dS dl w) w.2 : Int)) := by
  have L := lo_rat (a := dS dl w) (b := w.2) W.r0
  obtain ⟨p, hp⟩ : ∃ p, p = dS dl w / (Int.gcd (dS dl w) w.2 : Int) := ⟨_, rfl⟩
  obtain ⟨q, hq⟩ : ∃ q, q = w.2 / (Int.gcd (dS dl w) w.2 : Int) := ⟨_, rfl⟩
  have d0 := W.d0
  have d1 := W.d1
  have r1 := W.r1
  have p0 : 0 ≤ p := by rw [hp]; exact Int.ediv_nonneg d0 (by omega)
  have p1 : p ≤ dS dl w := by rw [hp]; exact Int.ediv_le_self _ d0
  rw [← hp, ← hq] at L ⊢
  have q1 := L.q1
  refine ⟨L.q0, by omega, p0, by omega, L.g, ⟨w, by simp, L.eq⟩, fun v hv => ?_⟩
  rcases List.mem_append.mp hv with hv | hv
  · exact rle (h v hv).r0 W.r0 L.q0 (hb v hv) (Int.le_of_eq L.eq.symm)
  · rw [List.mem_singleton.mp hv]
    exact Int.le_of_eq L.eq.symm
def eB (n : Nat) (dl : Nat → Int) (rs : List Rule) (b : Option (Int × Int)) (x3 x4 x5 x6 : Option EV) : DL.Env := [vv (delD n dl), vv (wiresD rs), vv (bD b), x3, x4, x5, none]
def rb0 : DSn := (mSet 5 (mV (mBi gSum (mCons (mLc (mIt (mVar 3)) (.nm 6) mYes (mOp gIx (mVar 0) (mVar 6)) [6]) mNil))))
def rb1 : DSn := (mIfS (mOrT (mCmp gIsN (mVar 2) (mC .non)) (mCmp gGt (mOp gMul (mVar 5) (mOp gIx (mVar 2) (mC (.int 1)))) (mOp gMul (mOp gIx (mVar 2) (mC (.int 0))) (mVar 4)))) (mSet 2 (mV (mCall d_ratio 2 (mConsE (mV (mVar 5)) (mConsE (mV (mVar 4)) mNilE))))) mSkip)
def rbI : DDn := (mIt (mCall d_rings_of 2 (mConsE (mV (mBi gLen (mCons (mVar 0) mNil))) (mConsE (mV (mCall d_fewest_registers 1 (mConsE (mV (mVar 1)) mNilE))) mNilE))))
theorem rb_all : b_ring_bound = mSeq (mDrop (mCall d_check_circuit 2 (mConsE (mV (mVar 0)) (mConsE (mV (mVar 1)) mNilE)))) (mSeq (mSet 2 (mV (mC .non))) (mSeq (mFor rbI (.tp [(.nm 3), (.nm 4)]) (mSeq rb0 rb1)) (mRet (mVar 2)))) := rfl
theorem rb_loop : ∀ (ws done : List Way) (b : Option (Int × Int)) (x3 x4 x5 x6 : Option EV), (∀ w ∈ done, WOk n dl w) → (∀ w ∈ ws, WOk n dl w) → BtO dl done b →
    ∃ b' y3 y4 y5 y6, forL (.tp [(.nm 3), (.nm 4)]) (mSeq rb0 rb1) (ws.map wyD) (eB n dl rs b x3 x4 x5 x6) [] = .ok (.nx, eB n dl rs b' y3 y4 y5 y6) [] ∧ BtO dl (done ++ ws) b'
  | [], done, b, x3, x4, x5, x6, _, _, hb => ⟨b, x3, x4, x5, x6, rfl, by rw [List.append_nil]; exact hb⟩
  | w :: ws, done, b, x3, x4, x5, x6, hd, hw, hb => by
    have W := hw w List.mem_cons_self
    obtain ⟨ρ, hρ⟩ : ∃ ρ, ρ = eB n dl rs b (vv (.tup (w.1.map nI))) (vv (.int w.2)) x5 x6 := ⟨_, rfl⟩
    obtain ⟨ρ1, h1⟩ : ∃ ρ1, ρ1 = eB n dl rs b (vv (.tup (w.1.map nI))) (vv (.int w.2)) (vv (.int (dS dl w))) x6 := ⟨_, rfl⟩
    have lc := lcA1 (tg := .nm 6) (fe := mOp gIx (mVar 0) (mVar 6)) (ρ := wipeE ρ [6]) (S := []) nI (fun g => D.int (dl g)) w.1 (fun g hg => ⟨(wipeE ρ [6]).set 6 (vv (nI g)), by subst hρ; rfl, opI (x := delD n dl) (y := nI g) (by subst hρ; rfl) (by subst hρ; rfl) (vD_ix (W.lt g hg))⟩) (by have := W.len; rw [lim_is]; omega)
    have e0 : rb0 ρ [] = .ok (.nx, ρ1) [] := by
      refine (st_set (d := .int (dS dl w)) (S1 := []) ?_).trans (by subst hρ h1; rfl)
      refine bi1 (x := .lst ((w.1.map dl).map D.int)) ?_ ?_
      · rw [ev_Lc, show mIt (mVar 3) ρ [] = .ok (w.1.map nI) [] from by subst hρ; rfl, ev_bind_ok, lc, List.map_map]
        rfl
      · show (intsOf ((w.1.map dl).map D.int)).map _ = _
        rw [intsOf_map]
        rfl
    have d0 := W.d0
    have d1 := W.d1
    have r0 := W.r0
    have r1 := W.r1
    have rat : mCall d_ratio 2 (mConsE (mV (mVar 5)) (mConsE (mV (mVar 4)) mNilE)) ρ1 [] = .ok (bD (some (dS dl w / (Int.gcd (dS dl w) w.2 : Int), w.2 / (Int.gcd (dS dl w) w.2 : Int)))) [] := cl2 (x := .int (dS dl w)) (y := .int w.2) (by subst h1; rfl) (by subst h1; rfl) (ratio_spec W.r0 W.r1)
    have step : ∃ b2, rb1 ρ1 [] = .ok (.nx, eB n dl rs b2 (vv (.tup (w.1.map nI))) (vv (.int w.2)) (vv (.int (dS dl w))) x6) [] ∧ BtO dl (done ++ [w]) b2 := by
      cases b with
      | none =>
        have hb : done = [] := hb
        subst hb
        refine ⟨some (dS dl w / (Int.gcd (dS dl w) w.2 : Int), w.2 / (Int.gcd (dS dl w) w.2 : Int)), ?_, bt_one W hd fun v hv => by cases hv⟩
        unfold rb1
        rw [if_go (or_yes (cmp_ok (x := .non) (y := .non) (by subst h1; rfl) rfl rfl))]
        refine (st_set rat).trans ?_
        subst h1
        rfl
      | some x =>
        have B : Bt dl done x.1 x.2 := hb
        have p0 := B.p0
        have p1 := B.p1
        have v2 : mVar 2 ρ1 [] = .ok (.tup [.int x.1, .int x.2]) [] := by subst h1; rfl
        have t1 : mCmp gIsN (mVar 2) (mC .non) ρ1 [] = .ok false [] := cmp_ok v2 rfl rfl
        have t2 : mCmp gGt (mOp gMul (mVar 5) (mOp gIx (mVar 2) (mC (.int 1)))) (mOp gMul (mOp gIx (mVar 2) (mC (.int 0))) (mVar 4)) ρ1 [] = .ok (decide (dS dl w * x.2 > x.1 * w.2)) [] := cmp_ok (opI (x := .int (dS dl w)) (y := .int x.2) (by subst h1; rfl) (opI v2 (y := .int 1) rfl rfl) (gMul_l (by omega))) (opI (x := .int x.1) (y := .int w.2) (opI v2 (y := .int 0) rfl rfl) (by subst h1; rfl) (gMul_l (by omega))) rfl
        by_cases hlt : dS dl w * x.2 > x.1 * w.2
        · rw [decide_eq_true hlt] at t2
          refine ⟨some (dS dl w / (Int.gcd (dS dl w) w.2 : Int), w.2 / (Int.gcd (dS dl w) w.2 : Int)), ?_, bt_one W hd fun v hv => ?_⟩
          · unfold rb1
            rw [if_go ((or_go t1).trans t2)]
            refine (st_set rat).trans ?_
            subst h1
            rfl
          · exact rle (hd v hv).r0 B.q0 r0 (B.all v hv) (Int.le_of_lt hlt)
        · rw [decide_eq_false hlt] at t2
          refine ⟨some x, ?_, ⟨B.q0, B.q1, B.p0, B.p1, B.g, ?_, fun v hv => ?_⟩⟩
          · unfold rb1
            rw [if_skip ((or_go t1).trans t2), h1]
          · obtain ⟨v, hv, e⟩ := B.ex
            exact ⟨v, List.mem_append_left _ hv, e⟩
          · rcases List.mem_append.mp hv with hv | hv
            · exact B.all v hv
            · rw [List.mem_singleton.mp hv]
              omega
    obtain ⟨b2, e1, hb2⟩ := step
    obtain ⟨b3, y3, y4, y5, y6, e2, hb3⟩ := rb_loop ws (done ++ [w]) b2 (vv (.tup (w.1.map nI))) (vv (.int w.2)) (vv (.int (dS dl w))) x6 (fun v hv => by
      rcases List.mem_append.mp hv with hv | hv
      · exact hd v hv
      · rw [List.mem_singleton.mp hv]; exact W) (fun v hv => hw v (List.mem_cons_of_mem _ hv)) hb2
    refine ⟨b3, y3, y4, y5, y6, ?_, by rw [List.append_assoc] at hb3; exact hb3⟩
    rw [List.map_cons]
    exact (forL_step (ρ1 := ρ) (by subst hρ; rfl) ((seq_nx e0).trans e1)).trans e2
theorem bound_of (C : Circ n dl rs) (h : TOk n (few rs)) (h6 : n ≤ 6) (ok : ∀ w ∈ rings n (few rs), WOk n dl w) : ∃ b, d_ring_bound [.v (delD n dl), .v (wiresD rs)] [] = .ok (bD b) [] ∧ BtO dl (rings n (few rs)) b := by
  obtain ⟨b, y3, y4, y5, y6, e, hb⟩ := rb_loop (n := n) (dl := dl) (rs := rs) (rings n (few rs)) [] none none none none none (fun _ h => by cases h) ok rfl
  refine ⟨b, ?_, hb⟩
  obtain ⟨ρ0, h0⟩ : ∃ ρ0 : DL.Env, ρ0 = [vv (delD n dl), vv (wiresD rs), none, none, none, none, none] := ⟨_, rfl⟩
  obtain ⟨ρ1, h1⟩ : ∃ ρ1 : DL.Env, ρ1 = eB n dl rs none none none none none := ⟨_, rfl⟩
  obtain ⟨ρ2, h2⟩ : ∃ ρ2 : DL.Env, ρ2 = eB n dl rs b y3 y4 y5 y6 := ⟨_, rfl⟩
  rw [← h1, ← h2] at e
  have cc := C.len
  have ei : rbI ρ1 [] = .ok ((rings n (few rs)).map wyD) [] := by
    unfold rbI mIt
    rw [cl2 (F := d_rings_of) (x := nI n) (y := fwD (few rs)) (bi1 (x := delD n dl) (by subst h1; rfl) (lenD n dl)) (cl1 (x := wiresD rs) (by subst h1; rfl) (few_spec (by omega))) (rings_spec h h6)]
    rfl
  refine denB_rt (ρ1 := ρ2) (S1 := []) ?_
  show b_ring_bound [vv (delD n dl), vv (wiresD rs), none, none, none, none, none] [] = _
  rw [← h0, rb_all]
  refine (seq_nx (ρ1 := ρ0) (S1 := []) (drop_ok (cl2 (x := delD n dl) (y := wiresD rs) (by subst h0; rfl) (by subst h0; rfl) (check_circuit_spec C)))).trans ?_
  refine (seq_nx (ρ1 := ρ1) (S1 := []) (by subst h0 h1; rfl)).trans ?_
  refine (seq_nx (ρ1 := ρ2) (S1 := []) (by rw [ev_For, ei, ev_bindS_ok]; exact e)).trans ?_
  rw [ev_Ret]
  subst h2
  rfl
end
end Pr
end

/-! rings of circuits, and the wires the other way round -/
noncomputable section
namespace Pr
open PySem L2 DL Cm
theorem lastN_snoc (l : List Nat) (b : Nat) : lastN (l ++ [b]) = b := by
  unfold lastN
  simp
theorem sum_pI {f : Nat → Int} {L M : List Nat} (h : L.Perm M) : (L.map f).sum = (M.map f).sum := by
  induction h with
  | nil => rfl
  | cons x _ ih => rw [List.map_cons, List.sum_cons, List.map_cons, List.sum_cons, ih]
  | swap x y l => simp only [List.map_cons, List.sum_cons]; omega
  | trans _ _ h1 h2 => exact h1.trans h2
theorem look_char {rs : List Rule} {T : Ti} (F : Fw rs T) {k : Ce} {m : Int} : lookI T k = some m ↔ (∃ r ∈ rs, ky r = k ∧ r.2.2 = m) ∧ ∀ r ∈ rs, ky r = k → m ≤ r.2.2 := by
  constructor
  · exact F.of k m
  · rintro ⟨⟨r, hr, rfl, rfl⟩, h⟩
    obtain ⟨m, hm⟩ := F.all r hr
    obtain ⟨⟨q, hq, e1, e2⟩, k⟩ := F.of _ _ hm
    have a := h q hq e1
    have b := k r hr rfl
    rw [hm, show m = r.2.2 by omega]
def bk (rs : List Rule) : List Rule := rs.map fun r => (r.2.1, r.1, r.2.2)
theorem bk_bk (rs : List Rule) : bk (bk rs) = rs := by
  unfold bk
  rw [List.map_map]
  exact (List.map_congr_left fun r _ => rfl).trans (List.map_id _)
theorem bk_look (rs : List Rule) (a b : Nat) : lookI (few (bk rs)) ((b : Int), (a : Int)) = lookI (few rs) ((a : Int), (b : Int)) := by
  have kk : ∀ (r : Rule), ky (r.2.1, r.1, r.2.2) = ((b : Int), (a : Int)) ↔ ky r = ((a : Int), (b : Int)) := fun r => by
    unfold ky
    constructor
    · intro h
      injection h with h1 h2
      show ((r.1 : Int), (r.2.1 : Int)) = _
      rw [show (r.1 : Int) = a from h2, show (r.2.1 : Int) = b from h1]
    · intro h
      injection h with h1 h2
      show ((r.2.1 : Int), (r.1 : Int)) = _
      rw [show (r.1 : Int) = a from h1, show (r.2.1 : Int) = b from h2]
  have all : ∀ m, lookI (few (bk rs)) ((b : Int), (a : Int)) = some m ↔ lookI (few rs) ((a : Int), (b : Int)) = some m := fun m => by
    rw [look_char (few_ok (bk rs)), look_char (few_ok rs)]
    constructor
    · rintro ⟨⟨r, hr, e1, e2⟩, h⟩
      obtain ⟨q, hq, rfl⟩ := List.mem_map.mp hr
      refine ⟨⟨q, hq, (kk q).mp e1, e2⟩, fun x hx ex => h (x.2.1, x.1, x.2.2) (List.mem_map.mpr ⟨x, hx, rfl⟩) ((kk x).mpr ex)⟩
    · rintro ⟨⟨r, hr, e1, e2⟩, h⟩
      refine ⟨⟨(r.2.1, r.1, r.2.2), List.mem_map.mpr ⟨r, hr, rfl⟩, (kk r).mpr e1, e2⟩, fun x hx ex => ?_⟩
      obtain ⟨q, hq, rfl⟩ := List.mem_map.mp hx
      exact h q hq ((kk q).mp ex)
  cases h : lookI (few rs) ((a : Int), (b : Int)) with
  | some m => exact (all m).mpr h
  | none =>
    cases h' : lookI (few (bk rs)) ((b : Int), (a : Int)) with
    | none => rfl
    | some m =>
      have := (all m).mp h'
      rw [h] at this
      cases this
section
variable {n : Nat} {dl : Nat → Int} {rs : List Rule}
theorem few_tok (C : Circ n dl rs) : TOk n (few rs) := by
  have F := few_ok rs
  have := C.len
  refine ⟨F.nd, Nat.le_trans F.len (by omega), fun e he => ?_⟩
  obtain ⟨k, m⟩ := e
  obtain ⟨⟨r, hr, e1, _⟩, _⟩ := F.of k m ((look_iff F.nd).mpr he)
  exact ⟨r.1, r.2.1, e1.symm, (C.inr r hr).1, (C.inr r hr).2⟩
theorem look_reg (C : Circ n dl rs) {lv : Nat → Nat} (L : Lv n rs lv) {a b : Nat} {m : Int} (h : lookI (few rs) ((a : Int), (b : Int)) = some m) : 0 ≤ m ∧ m ≤ 9 ∧ (m = 0 → lv a < lv b) := by
  obtain ⟨⟨r, hr, e1, e2⟩, _⟩ := (few_ok rs).of _ _ h
  obtain ⟨g0, g9⟩ := C.reg r hr
  unfold ky at e1
  injection e1 with h1 h2
  have h1 : r.1 = a := by omega
  have h2 : r.2.1 = b := by omega
  refine ⟨by omega, by omega, fun z => ?_⟩
  have := L.up r hr (by omega)
  rw [h1, h2] at this
  exact this
theorem wsm_b (C : Circ n dl rs) {lv : Nat → Nat} (L : Lv n rs lv) : ∀ (l : List Nat) (a : Nat) (s : Int), wsm (few rs) (a :: l) = some s → 0 ≤ s ∧ s ≤ 9 * (l.length : Int) ∧ (s = 0 → lv a ≤ lv (lastN (a :: l)) ∧ (l ≠ [] → lv a < lv (lastN (a :: l))))
  | [], a, s, h => by
    have h : some (0 : Int) = some s := h
    have := Option.some.inj h
    subst this
    exact ⟨Int.le_refl _, by simp, fun _ => ⟨Nat.le_refl _, fun z => absurd rfl z⟩⟩
  | b :: r, a, s, h => by
    have h : (lookI (few rs) ((a : Int), (b : Int))).bind (fun m => (wsm (few rs) (b :: r)).map (m + ·)) = some s := h
    cases hm : lookI (few rs) ((a : Int), (b : Int)) with
    | none => rw [hm] at h; cases h
    | some m =>
      rw [hm] at h
      cases hs : wsm (few rs) (b :: r) with
      | none =>
        rw [hs] at h
        cases h
      | some s0 =>
        rw [hs] at h
        have h : m + s0 = s := Option.some.inj h
        obtain ⟨k1, k2, k3⟩ := look_reg C L hm
        obtain ⟨i1, i2, i3⟩ := wsm_b C L r b s0 hs
        refine ⟨by omega, by simp only [List.length_cons]; omega, fun z => ?_⟩
        have q1 := k3 (by omega)
        have q2 := (i3 (by omega)).1
        have e : lastN (a :: b :: r) = lastN (b :: r) := rfl
        rw [e]
        exact ⟨by omega, fun _ => by omega⟩
theorem sum_b {dl : Nat → Int} (d0 : ∀ g, 0 ≤ dl g) (d1 : ∀ g, dl g ≤ 50) : ∀ l : List Nat, 0 ≤ (l.map dl).sum ∧ (l.map dl).sum ≤ 50 * (l.length : Int)
  | [] => by simp
  | a :: l => by
    have := sum_b d0 d1 l
    have := d0 a
    have := d1 a
    rw [List.map_cons, List.sum_cons, List.length_cons]
    omega
theorem ring_ok (C : Circ n dl rs) (h6 : n ≤ 6) {x : Way} (R : Ring n (few rs) x) : WOk n dl x := by
  obtain ⟨lv, L⟩ := C.up
  have len := count_le R.nd R.lt
  obtain ⟨s0, s1⟩ := sum_b C.d0 C.d1 x.1
  obtain ⟨p, m⟩ := x
  cases p with
  | nil => exact absurd rfl R.ne
  | cons g q =>
    have s : wsm (few rs) (g :: (q ++ [g])) = some m := R.sum
    obtain ⟨k1, k2, k3⟩ := wsm_b C L (q ++ [g]) g m s
    have e : lastN (g :: (q ++ [g])) = g := by
      exact lastN_snoc (g :: q) g
    have len : (g :: q).length ≤ n := len
    rw [List.length_append] at k2
    simp only [List.length_cons, List.length_nil] at len k2
    have s0 : 0 ≤ ((g :: q).map dl).sum := s0
    have s1 : ((g :: q).map dl).sum ≤ 50 * ((g :: q).length : Int) := s1
    simp only [List.length_cons] at s1
    refine ⟨R.lt, by show (g :: q).length ≤ 100; simp only [List.length_cons]; omega, ?_, by show m ≤ 1000; omega, s0, ?_⟩
    · show 0 < m
      refine Classical.byContradiction fun z => ?_
      have := (k3 (by omega)).2 (by simp)
      rw [e] at this
      omega
    · show ((g :: q).map dl).sum ≤ 1000
      omega
theorem bk_circ (C : Circ n dl rs) : Circ n dl (bk rs) := by
  obtain ⟨lv, L⟩ := C.up
  have mem : ∀ r ∈ bk rs, ∃ q ∈ rs, r = (q.2.1, q.1, q.2.2) := fun r hr => by
    obtain ⟨q, hq, rfl⟩ := List.mem_map.mp hr
    exact ⟨q, hq, rfl⟩
  have inr : InR n (bk rs) := fun r hr => by
    obtain ⟨q, hq, rfl⟩ := mem r hr
    exact ⟨(C.inr q hq).2, (C.inr q hq).1⟩
  refine ⟨C.h1, C.h8, C.d0, C.d1, by unfold bk; rw [List.length_map]; exact C.len, inr, fun r hr => ?_, lv_of (rk := fun i => 8 - lv i) C.h8 inr fun r hr h0 => ?_⟩
  · obtain ⟨q, hq, rfl⟩ := mem r hr
    exact C.reg q hq
  · obtain ⟨q, hq, rfl⟩ := mem r hr
    have u := L.up q hq h0
    obtain ⟨i1, i2⟩ := C.inr q hq
    have t1 := L.top q.1 i1
    have t2 := L.top q.2.1 i2
    have h8 := C.h8
    show 8 - lv q.2.1 < 8 - lv q.1
    omega
/-- the bound is the same the other way round -/
theorem bound_bk (C : Circ n dl rs) (h6 : n ≤ 6) : ∃ b, d_ring_bound [.v (delD n dl), .v (wiresD rs)] [] = .ok (bD b) [] ∧ d_ring_bound [.v (delD n dl), .v (wiresD (bk rs))] [] = .ok (bD b) [] := by
  have C' := bk_circ C
  have t := few_tok C
  have t' := few_tok C'
  have ok : ∀ w ∈ rings n (few rs), WOk n dl w := fun w hw => ring_ok C h6 ((rings_mem t w).mp hw)
  have ok' : ∀ w ∈ rings n (few (bk rs)), WOk n dl w := fun w hw => ring_ok C' h6 ((rings_mem t' w).mp hw)
  obtain ⟨b, e, hb⟩ := bound_of C t h6 ok
  obtain ⟨b', e', hb'⟩ := bound_of C' t' h6 ok'
  have ds : ∀ {x y : Way}, y.1.Perm x.1 → dS dl y = dS dl x := fun p => by
    unfold dS
    exact sum_pI p
  have same := bt_same ok ok' hb hb' (fun w hw => by
    obtain ⟨y, R, e2, p⟩ := ring_rev (fun a b => bk_look rs a b) ((rings_mem t w).mp hw)
    exact ⟨y, (rings_mem t' y).mpr R, ds p, e2⟩) (fun w hw => by
    obtain ⟨y, R, e2, p⟩ := ring_rev (T := few (bk rs)) (T' := few rs) (fun a b => (bk_look rs b a).symm) ((rings_mem t' w).mp hw)
    exact ⟨y, (rings_mem t y).mpr R, ds p, e2⟩)
  subst same
  exact ⟨b, e, e'⟩
end
end Pr
end

/-! least periods of circuits changed -/
noncomputable section
namespace Pr
open PySem L2 DL Cm
/-- the least period over all lags -/
structure LP (n : Nat) (dl : Nat → Int) (rs : List Rule) (L : Int) : Prop where
  ex : ∃ v, Val rs v ∧ L = per n dl rs v
  le : ∀ u, Val rs u → L ≤ per n dl rs u
theorem lp_spec {n : Nat} {dl : Nat → Int} {rs : List Rule} (C : Circ n dl rs) : ∃ v L, d_least_period [.v (delD n dl), .v (wiresD rs)] [] = .ok (.tup [.int L, delD n v]) [] ∧ LP n dl rs L := by
  obtain ⟨v, L, e, hv, _, eL, le⟩ := least_period_spec C
  exact ⟨v, L, e, ⟨v, hv, eL⟩, le⟩
theorem LP.eq {n : Nat} {dl : Nat → Int} {rs : List Rule} {L M : Int} (h : LP n dl rs L) (k : LP n dl rs M) : L = M := by
  obtain ⟨v, hv, e⟩ := h.ex
  obtain ⟨u, hu, e'⟩ := k.ex
  have a := h.le u hu
  have b := k.le v hv
  omega
section
variable {n : Nat} {dl : Nat → Int} {rs : List Rule}
/-! delays scaled -/
theorem topO_mul {t : Int} (ht : 0 ≤ t) (l : List Int) : topO (l.map (t * ·)) = t * topO l := by
  cases l with
  | nil => show (0 : Int) = t * 0; rw [Int.mul_zero]
  | cons m l =>
    have h1 := maxI_is l m
    have h2 := maxI_is (l.map (t * ·)) (t * m)
    show maxI (t * m) (l.map (t * ·)) = t * maxI m l
    refine Int.le_antisymm ?_ ?_
    · have : maxI (t * m) (l.map (t * ·)) ∈ (m :: l).map (t * ·) := h2.1
      obtain ⟨x, hx, e⟩ := List.mem_map.mp this
      rw [← e]
      exact Int.mul_le_mul_of_nonneg_left (h1.2 x hx) ht
    · exact h2.2 _ (show t * maxI m l ∈ (m :: l).map (t * ·) from List.mem_map.mpr ⟨_, h1.1, rfl⟩)
theorem sf_mul {t : Int} (ht : 0 ≤ t) (A : List Rule) : ∀ (k g : Nat), sf (fun i => dl i * t) A k g = t * sf dl A k g
  | 0, g => by show (0 : Int) = t * 0; rw [Int.mul_zero]
  | k + 1, g => by
    show dl g * t + topO ((preds A g).map (sf (fun i => dl i * t) A k)) = t * (dl g + topO ((preds A g).map (sf dl A k)))
    have : (preds A g).map (sf (fun i => dl i * t) A k) = ((preds A g).map (sf dl A k)).map (t * ·) := by
      rw [List.map_map]
      exact List.map_congr_left fun p _ => sf_mul ht A k p
    rw [this, topO_mul ht, Int.mul_add, Int.mul_comm (dl g) t]
theorem mxv_mul {t : Int} (ht : 0 ≤ t) (h1 : 1 ≤ n) {v w : Nat → Int} (h : ∀ i, w i = t * v i) : mxv n w = t * mxv n v := by
  obtain ⟨⟨i, hi, e⟩, u⟩ := mxv_is (v := v) h1
  obtain ⟨⟨j, hj, e'⟩, u'⟩ := mxv_is (v := w) h1
  refine Int.le_antisymm ?_ ?_
  · rw [e', h]
    exact Int.mul_le_mul_of_nonneg_left (u j hj) ht
  · rw [e, ← h]
    exact u' i hi
theorem per_mul {t : Int} (ht : 0 ≤ t) (h1 : 1 ≤ n) (v : Nat → Int) : per n (fun i => dl i * t) rs v = t * per n dl rs v := mxv_mul ht h1 fun i => sf_mul ht _ 9 i
theorem LP.mul {t : Int} (ht : 0 ≤ t) (h1 : 1 ≤ n) {L : Int} (h : LP n dl rs L) : LP n (fun i => dl i * t) rs (L * t) := by
  obtain ⟨v, hv, e⟩ := h.ex
  refine ⟨⟨v, hv, by rw [per_mul ht h1, ← e, Int.mul_comm]⟩, fun u hu => ?_⟩
  rw [per_mul ht h1, Int.mul_comm L t]
  exact Int.mul_le_mul_of_nonneg_left (h.le u hu) ht
/-! no bare wire -/
theorem sv_free {A : List Rule} (h : ∀ r ∈ A, r.2.2 ≠ 0) (g : Nat) : sv dl A g = dl g := by
  have : preds A g = [] := by
    unfold preds
    have : A.filter (fun r => r.2.2 == 0) = [] := List.filter_eq_nil_iff.mpr fun r hr => by simpa using h r hr
    rw [this]
    rfl
  show dl g + topO ((preds A g).map (sf dl A 8)) = dl g
  rw [this]
  show dl g + 0 = dl g
  omega
theorem LP.free (C : Circ n dl rs) (h : ∀ r ∈ rs, r.2.2 ≠ 0) : LP n dl rs (mxv n dl) := by
  refine ⟨⟨fun _ => 0, val_0 C, ?_⟩, fun u hu => ?_⟩
  · unfold per
    rw [moved_0]
    exact mxv_congr fun i _ => (sv_free h i).symm
  · obtain ⟨lv, N⟩ := moved_net C hu
    obtain ⟨⟨i, hi, e⟩, _⟩ := mxv_is (v := dl) C.h1
    rw [e]
    exact Int.le_trans (dl_le C.d0 N.lvl i) ((mxv_is (v := sv dl (moved u rs)) C.h1).2 i hi)
/-! fewer wires -/
theorem LP.less {qs : List Rule} (C : Circ n dl rs) (D : Circ n dl qs) (sub : ∀ r ∈ qs, r ∈ rs) {L M : Int} (h : LP n dl rs L) (k : LP n dl qs M) : M ≤ L := by
  obtain ⟨v, hv, e⟩ := h.ex
  have hv' : Val qs v := fun r hr => hv r (sub r hr)
  obtain ⟨la, Na⟩ := moved_net D hv'
  obtain ⟨lb, Nb⟩ := moved_net C hv
  refine Int.le_trans (k.le v hv') ?_
  rw [e]
  obtain ⟨⟨i, hi, e2⟩, _⟩ := mxv_is (v := sv dl (moved v qs)) C.h1
  unfold per
  rw [e2]
  refine Int.le_trans (sv_mono C Na.lvl Nb.lvl (Q := fun _ => True) (fun g _ p hp => ⟨?_, trivial⟩) (la i + 1) i (by omega) trivial) ((mxv_is (v := sv dl (moved v rs)) C.h1).2 i hi)
  obtain ⟨q, hq, k1, k2, k3⟩ := preds_moved.mp hp
  exact preds_moved.mpr ⟨q, sub q hq, k1, k2, k3⟩
/-! the other way round -/
def Rc (A : List Rule) : List Nat → Prop
  | [] => False
  | [_] => True
  | g :: p :: r => p ∈ preds A g ∧ Rc A (p :: r)
theorem rc_snoc {A : List Rule} {g : Nat} : ∀ (l : List Nat), l ≠ [] → Rc A l → g ∈ preds A (lastN l) → Rc A (l ++ [g])
  | [], h, _, _ => absurd rfl h
  | [a], _, _, hg => ⟨hg, trivial⟩
  | a :: b :: r, _, h, hg => ⟨h.1, rc_snoc (b :: r) (by simp) h.2 hg⟩
theorem rc_rev {A B : List Rule} (h : ∀ p g, p ∈ preds A g → g ∈ preds B p) : ∀ (l : List Nat), l ≠ [] → Rc A l → Rc B l.reverse
  | [], h', _ => absurd rfl h'
  | [a], _, _ => trivial
  | a :: b :: r, _, hc => by
    have ih := rc_rev h (b :: r) (by simp) hc.2
    rw [List.reverse_cons]
    refine rc_snoc _ (by simp) ih ?_
    have : lastN (b :: r).reverse = b := by
      rw [List.reverse_cons]
      exact lastN_snoc _ _
    rw [this]
    exact h b a hc.1
theorem rc_of {A : List Rule} {lv : Nat → Nat} (U : Lv n A lv) : ∀ (k g : Nat), lv g < k → g < n → ∃ c, Rc A (g :: c) ∧ ((g :: c).map dl).sum = sv dl A g ∧ ∀ a ∈ g :: c, a < n
  | 0, g, h, _ => by omega
  | k + 1, g, h, hg => by
    rw [sv_is U g]
    cases hp : preds A g with
    | nil => exact ⟨[], trivial, by show dl g + 0 = dl g + 0; rfl, fun a ha => by rw [List.mem_singleton.mp ha]; exact hg⟩
    | cons p0 ps =>
      have m : topO ((p0 :: ps).map (sv dl A)) ∈ (p0 :: ps).map (sv dl A) := (maxI_is _ _).1
      obtain ⟨p, hpp, e⟩ := List.mem_map.mp m
      have hpp : p ∈ preds A g := by rw [hp]; exact hpp
      obtain ⟨l1, l2, _⟩ := preds_lt U hpp
      obtain ⟨c, c1, c2, c3⟩ := rc_of U k p (by omega) l2
      refine ⟨p :: c, ⟨hpp, c1⟩, ?_, fun a ha => ?_⟩
      · rw [List.map_cons, List.sum_cons, c2, e]
      · rcases List.mem_cons.mp ha with rfl | ha
        · exact hg
        · exact c3 a ha
theorem rc_le {A : List Rule} {lv : Nat → Nat} (U : Lv n A lv) (nn : ∀ g, 0 ≤ sv dl A g) : ∀ (c : List Nat) (g : Nat), Rc A (g :: c) → ((g :: c).map dl).sum ≤ sv dl A g
  | [], g, _ => by
    rw [sv_is U g]
    have : 0 ≤ topO ((preds A g).map (sv dl A)) := topO_nn fun x hx => by
      obtain ⟨p, _, rfl⟩ := List.mem_map.mp hx
      exact nn p
    show dl g + 0 ≤ _
    omega
  | p :: c, g, h => by
    have ih := rc_le U nn c p h.2
    rw [sv_is U g, List.map_cons, List.sum_cons]
    have := topO_le (List.mem_map.mpr ⟨p, h.1, rfl⟩ : sv dl A p ∈ (preds A g).map (sv dl A))
    omega
theorem mx_rev {A B : List Rule} {la lb : Nat → Nat} (h1 : 1 ≤ n) (U : Lv n A la) (V : Lv n B lb) (nn : ∀ g, 0 ≤ sv dl B g) (h : ∀ p g, p ∈ preds A g → g ∈ preds B p) : mxv n (sv dl A) ≤ mxv n (sv dl B) := by
  obtain ⟨⟨i, hi, e⟩, _⟩ := mxv_is (v := sv dl A) h1
  obtain ⟨c, c1, c2, c3⟩ := rc_of U (la i + 1) i (by omega) hi
  have r := rc_rev h (i :: c) (by simp) c1
  have s : ((i :: c).reverse.map dl).sum = ((i :: c).map dl).sum := sum_pI (i :: c).reverse_perm
  have lt : ∀ a ∈ (i :: c).reverse, a < n := fun a ha => c3 a (List.mem_reverse.mp ha)
  cases q : (i :: c).reverse with
  | nil => simp at q
  | cons j d =>
    rw [q] at r s lt
    have le := rc_le (dl := dl) V nn d j r
    rw [e, ← c2, ← s]
    exact Int.le_trans le ((mxv_is (v := sv dl B) h1).2 j (lt j List.mem_cons_self))
theorem bk_val {v : Nat → Int} (hv : Val rs v) : Val (bk rs) fun i => - v i := fun r hr => by
  obtain ⟨q, hq, rfl⟩ := List.mem_map.mp hr
  have := hv q hq
  show 0 ≤ q.2.2 + - v q.1 - - v q.2.1
  omega
theorem bk_preds {v : Nat → Int} {p g : Nat} (h : p ∈ preds (moved v rs) g) : g ∈ preds (moved (fun i => - v i) (bk rs)) p := by
  obtain ⟨q, hq, k1, k2, k3⟩ := preds_moved.mp h
  refine preds_moved.mpr ⟨(q.2.1, q.1, q.2.2), List.mem_map.mpr ⟨q, hq, rfl⟩, k2, k1, ?_⟩
  show q.2.2 + - v p - - v g = 0
  omega
theorem per_bk (C : Circ n dl rs) {v : Nat → Int} (hv : Val rs v) : per n dl (bk rs) (fun i => - v i) ≤ per n dl rs v := by
  obtain ⟨la, Na⟩ := moved_net (bk_circ C) (bk_val hv)
  obtain ⟨lb, Nb⟩ := moved_net C hv
  refine mx_rev C.h1 Na.lvl Nb.lvl (fun g => sv_nn C _ g) fun p g hp => ?_
  have := bk_preds (rs := bk rs) hp
  rw [bk_bk] at this
  have e : (fun i => - (- v i)) = v := funext fun i => Int.neg_neg _
  have e' : moved (fun i => -(fun i => - v i) i) rs = moved v rs := by
    show moved (fun i => - (- v i)) rs = _
    rw [e]
  rw [e'] at this
  exact this
theorem LP.bk (C : Circ n dl rs) {L M : Int} (h : LP n dl rs L) (k : LP n dl (bk rs) M) : M = L := by
  have le : ∀ {rs : List Rule} {L M : Int}, Circ n dl rs → LP n dl rs L → LP n dl (Pr.bk rs) M → M ≤ L := fun {rs L M} C h k => by
    obtain ⟨v, hv, e⟩ := h.ex
    rw [e]
    exact Int.le_trans (k.le _ (bk_val hv)) (per_bk C hv)
  refine Int.le_antisymm (le C h k) (le (bk_circ C) k ?_)
  rw [bk_bk]
  exact h
end
end Pr
end

/-! the law -/
noncomputable section
namespace Pr
open PySem L2 DL Cm
def q0 : DSn := (mSet 1 (mNew (mCons (mVar 0) (mCons (mC (.int 0)) (mCons (mC (.int 3893)) (mCons (mC (.int 0)) mNil))))))
def q1 : DSn := (mAsg (mCall d__law_circuit 2 (mConsE (mCel 1) (mConsE (mV (mC (.int 6))) mNilE))) (gTp (DL.gCons (gNm 6) (DL.gCons (gNm 7) DL.gNil)) 2))
def q2 : DSn := (mSet 2 (mV (mOp gIx (mCall d_least_period 2 (mConsE (mV (mVar 6)) (mConsE (mV (mVar 7)) mNilE))) (mC (.int 0)))))
def q3 : DSn := (mIfS (mCmp gEq (mLc (mIt (mVar 7)) (.nm 10) (mCmp gGt (mOp gIx (mVar 10) (mC (.int 2))) (mC (.int 8))) (mVar 10) [10]) (mLst mNil)) (mSeq (mSet 8 (mV (mBi gTuple (mCons (mLc (mIt (mVar 7)) (.tp [(.nm 12), (.nm 13), (.nm 14)]) mYes (mTup (mCons (mVar 12) (mCons (mVar 13) (mCons (mOp gAdd (mVar 14) (mC (.int 1))) mNil)))) [12, 13, 14]) mNil))))
  (mIfS (mOrT (mCmp gNe (mCall d_period 2 (mConsE (mV (mVar 6)) (mConsE (mV (mVar 8)) mNilE))) (mBi gMax (mCons (mVar 6) mNil))) (mCmp gNe (mOp gIx (mCall d_least_period 2 (mConsE (mV (mVar 6)) (mConsE (mV (mVar 8)) mNilE))) (mC (.int 0))) (mBi gMax (mCons (mVar 6) mNil)))) (mRet (mC (.bl false))) mSkip)) mSkip)
def q4 : DSn := (mSet 3 (mV (mOp gAdd (mC (.int 1)) (mCall d__law_taken 2 (mConsE (mCel 1) (mConsE (mV (mC (.int 3))) mNilE))))))
def q5 : DSn := (mSet 4 (mV (mBi gTuple (mCons (mLc (mIt (mVar 6)) (.nm 11) mYes (mOp gMul (mVar 11) (mVar 3)) [11]) mNil))))
def q6 : DSn := (mIfS (mAndT (mCmp gLe (mBi gMax (mCons (mVar 4) mNil)) (mC (.int 50))) (mOrT (mCmp gNe (mOp gIx (mCall d_least_period 2 (mConsE (mV (mVar 4)) (mConsE (mV (mVar 7)) mNilE))) (mC (.int 0))) (mOp gMul (mVar 2) (mVar 3))) (mCmp gNe (mCall d_period 2 (mConsE (mV (mVar 4)) (mConsE (mV (mVar 7)) mNilE))) (mOp gMul (mVar 3) (mCall d_period 2 (mConsE (mV (mVar 6)) (mConsE (mV (mVar 7)) mNilE))))))) (mRet (mC (.bl false))) mSkip)
def q7 : DSn := (mIfS (mCmp gNe (mVar 7) (mTup mNil)) (mSeq (mSet 9 (mV (mCall d__law_taken 2 (mConsE (mCel 1) (mConsE (mV (mBi gLen (mCons (mVar 7) mNil))) mNilE)))))
  (mIfS (mCmp gGt (mOp gIx (mCall d_least_period 2 (mConsE (mV (mVar 6)) (mConsE (mV (mOp gAdd (mSl (mVar 7) mNoPart (mPart (mVar 9))) (mSl (mVar 7) (mPart (mOp gAdd (mVar 9) (mC (.int 1)))) mNoPart))) mNilE))) (mC (.int 0))) (mVar 2)) (mRet (mC (.bl false))) mSkip)) mSkip)
def q8 : DSn := (mSet 5 (mV (mBi gTuple (mCons (mLc (mIt (mVar 7)) (.tp [(.nm 12), (.nm 13), (.nm 14)]) mYes (mTup (mCons (mVar 13) (mCons (mVar 12) (mCons (mVar 14) mNil)))) [12, 13, 14]) mNil))))
def q9 : DSn := (mRet (mAnd (mB (mCmp gEq (mOp gIx (mCall d_least_period 2 (mConsE (mV (mVar 6)) (mConsE (mV (mVar 5)) mNilE))) (mC (.int 0))) (mVar 2))) (mAnd (mB (mCmp gEq (mCall d_ring_bound 2 (mConsE (mV (mVar 6)) (mConsE (mV (mVar 5)) mNilE))) (mCall d_ring_bound 2 (mConsE (mV (mVar 6)) (mConsE (mV (mVar 7)) mNilE))))) (mB (mCmp gEq (mOp gIx (mCall d_least_period 2 (mConsE (mV (mVar 6)) (mConsE (mV (mTup mNil)) mNilE))) (mC (.int 0))) (mBi gMax (mCons (mVar 6) mNil)))))))
def qr9 : DSn := q9
def qr8 : DSn := mSeq q8 qr9
def qr7 : DSn := mSeq q7 qr8
def qr6 : DSn := mSeq q6 qr7
def qr5 : DSn := mSeq q5 qr6
def qr4 : DSn := mSeq q4 qr5
def qr3 : DSn := mSeq q3 qr4
def qr2 : DSn := mSeq q2 qr3
def qr1 : DSn := mSeq q1 qr2
def qr0 : DSn := mSeq q0 qr1
theorem q_all : b_law = qr0 := rfl
theorem gEq_runil (l : List Rule) : gEq (.lst (l.map ruD)) (.lst []) = some (decide (l = [])) := by
  have ok : (D.lst (l.map ruD)).okd = true := okd_lst (k := 1) (fun d hd => by
    obtain ⟨r, _, rfl⟩ := List.mem_map.mp hd
    exact lay_ru r) (by decide)
  show (if _ then some (deq _ _) else none) = _
  rw [if_pos ⟨ok, rfl⟩]
  cases l <;> rfl
theorem call_row {F : Den} {i : Nat} {fb : DEn} {x d : D} {c c' : Cell} {ρ : DL.Env} {R : Store} (hρ : ρ[i]? = some (some (.cel 0))) (hB : fb ρ (some c :: R) = .ok x (some c :: R)) (h : F [.cel 0, .v x] [some c] = .ok d [some c']) : mCall F 2 (mConsE (mCel i) (mConsE (mV fb) mNilE)) ρ (some c :: R) = .ok d (some c' :: R) := by
  have k := callC2 (S := some c :: R) (n := 0) (F := F) rfl h
  have hcel : mCel i ρ (some c :: R) = .ok (.cel 0) (some c :: R) := by unfold mCel; rw [hρ]
  rw [ev_Call, ev_ConsE, hcel]
  simp only [ev_bind_ok, ev_ConsE, ev_V, hB, ev_NilE, List.length_cons, List.length_nil, Nat.zero_add, if_true]
  exact k
theorem ev_and {fa fb : DEn} {ρ : DL.Env} {S S1 S2 : Store} {a b : Bool} (ha : fa ρ S = .ok (.bl a) S1) (hb : a = true → fb ρ S1 = .ok (.bl b) S2) (hs : a = false → S2 = S1) : mAnd fa fb ρ S = .ok (.bl (a && b)) S2 := by
  rw [ev_And, ha, ev_bind_ok]
  cases a with
  | true =>
    rw [ev_isB, ev_lift_some, ev_bind_ok, if_pos rfl, hb rfl]
    rfl
  | false =>
    rw [ev_isB, ev_lift_some, ev_bind_ok, if_neg Bool.false_ne_true, hs rfl]
    rfl

theorem b_of'' {t : DTn} {ρ : DL.Env} {S S1 : Store} {b : Bool} (h : t ρ S = .ok b S1) : mB t ρ S = .ok (.bl b) S1 := by rw [ev_B, h]; rfl
theorem gNe_i (a : Int) : gNe (.int a) (.int a) = some false := gNe_sm (n := 0) (m := 0) (b := true) (.int 0 _) (.int 0 _) (by decide) (by decide) ⟨fun _ => rfl, fun _ => rfl⟩
theorem ne_no {ρ : DL.Env} {S : Store} {fa fb : DEn} {a b : Int} (ha : fa ρ S = .ok (.int a) S) (hb : fb ρ S = .ok (.int b) S) (h : a = b) : mCmp gNe fa fb ρ S = .ok false S := cmp_ok ha hb (by subst h; exact gNe_i a)
theorem eq_yes {ρ : DL.Env} {S : Store} {fa fb : DEn} {a b : Int} (ha : fa ρ S = .ok (.int a) S) (hb : fb ρ S = .ok (.int b) S) (h : a = b) : mB (mCmp gEq fa fb) ρ S = .ok (.bl true) S := b_of'' (by
  have := eq_i ha hb
  rw [decide_eq_true h] at this
  exact this)
theorem sm_ru (r : Rule) : Sm 1 (ruD r) := .tup 0 _ fun d hd => by
  have hd : d ∈ [nI r.1, nI r.2.1, D.int r.2.2] := hd
  simp only [List.mem_cons, List.not_mem_nil, or_false] at hd
  rcases hd with rfl | rfl | rfl <;> exact .int 0 _
theorem ne_nil (rs : List Rule) : gNe (wiresD rs) (.tup []) = some (!decide (rs = [])) := gNe_sm (n := 2) (m := 2) (.tup 1 _ fun d hd => by
  obtain ⟨r, _, rfl⟩ := List.mem_map.mp hd
  exact sm_ru r) (.tup 1 _ fun d hd => by cases hd) (by decide) (by decide) (by
  rw [decide_eq_true_eq]
  constructor
  · rintro rfl; rfl
  · intro h
    have h : rs.map ruD = [] := by injection h
    exact List.map_eq_nil_iff.mp h)
theorem bD_eq (b : Option (Int × Int)) : gEq (bD b) (bD b) = some true := by
  cases b with
  | none => exact gEq_nn
  | some x =>
    have s : Sm 1 (bD (some x)) := .tup 0 _ fun d hd => by
      simp only [List.mem_cons, List.not_mem_nil, or_false] at hd
      rcases hd with rfl | rfl <;> exact .int 0 _
    exact gEq_sm s s (by decide) (by decide) ⟨fun _ => rfl, fun _ => rfl⟩
theorem lp_at {n : Nat} {dl : Nat → Int} {rs : List Rule} (C : Circ n dl rs) : ∃ L, LP n dl rs L ∧ ∀ {ρ : DL.Env} {S : Store} {fa fb : DEn}, fa ρ S = .ok (delD n dl) S → fb ρ S = .ok (wiresD rs) S → mOp gIx (mCall d_least_period 2 (mConsE (mV fa) (mConsE (mV fb) mNilE))) (mC (.int 0)) ρ S = .ok (.int L) S := by
  obtain ⟨v, L, e, h⟩ := lp_spec C
  exact ⟨L, h, fun ha hb => opI (x := .tup [.int L, delD n v]) (y := .int 0) (cl2 ha hb e) rfl rfl⟩
def eW (x0 x2 x3 x4 x5 x6 x7 x8 x9 : Option EV) : DL.Env := [x0, some (.cel 0), x2, x3, x4, x5, x6, x7, x8, x9, none, none, none, none, none]
theorem circ_sub {n : Nat} {dl : Nat → Int} {rs qs : List Rule} (C : Circ n dl rs) (sub : ∀ r ∈ qs, r ∈ rs) (hl : qs.length ≤ rs.length) : Circ n dl qs := by
  obtain ⟨lv, L⟩ := C.up
  have := C.len
  have inr : InR n qs := fun r hr => C.inr r (sub r hr)
  exact ⟨C.h1, C.h8, C.d0, C.d1, by omega, inr, fun r hr => C.reg r (sub r hr), ⟨lv, ⟨C.h8, inr, fun r hr => L.up r (sub r hr), L.top⟩⟩⟩
def mo (rs : List Rule) : List Rule := rs.map fun r => (r.1, r.2.1, r.2.2 + 1)
theorem mo_circ {n : Nat} {dl : Nat → Int} {rs : List Rule} (C : Circ n dl rs) (h : ∀ r ∈ rs, r.2.2 ≤ 8) : Circ n dl (mo rs) ∧ ∀ r ∈ mo rs, r.2.2 ≠ 0 := by
  have mem : ∀ r ∈ mo rs, ∃ q ∈ rs, r = (q.1, q.2.1, q.2.2 + 1) := fun r hr => by
    obtain ⟨q, hq, rfl⟩ := List.mem_map.mp hr
    exact ⟨q, hq, rfl⟩
  have nz : ∀ r ∈ mo rs, 1 ≤ r.2.2 ∧ r.2.2 ≤ 9 := fun r hr => by
    obtain ⟨q, hq, rfl⟩ := mem r hr
    have := C.reg q hq
    have := h q hq
    exact ⟨by show 1 ≤ q.2.2 + 1; omega, by show q.2.2 + 1 ≤ 9; omega⟩
  have inr : InR n (mo rs) := fun r hr => by
    obtain ⟨q, hq, rfl⟩ := mem r hr
    exact C.inr q hq
  refine ⟨⟨C.h1, C.h8, C.d0, C.d1, by unfold mo; rw [List.length_map]; exact C.len, inr, fun r hr => ⟨by have := nz r hr; omega, (nz r hr).2⟩, ⟨fun i => i, C.h8, inr, fun r hr z => ?_, fun i hi => hi⟩⟩, fun r hr => by have := nz r hr; omega⟩
  have := nz r hr
  omega
section
variable {s0 : Option EV} {n : Nat} {dl : Nat → Int} {rs : List Rule}
/-- wires made anew by a comprehension -/
theorem comp_w {fe : DEn} (g : Rule → Rule) {x2 x3 x4 x5 x6 x8 x9 : Option EV} {ρ : DL.Env} {S : Store} (hl : rs.length ≤ 100) (hρ : ρ = eW s0 x2 x3 x4 x5 x6 (vv (wiresD rs)) x8 x9) (h : ∀ r : Rule, r ∈ rs → ∀ σ : DL.Env, σ[12]? = some (vv (nI r.1)) → σ[13]? = some (vv (nI r.2.1)) → σ[14]? = some (vv (.int r.2.2)) → fe σ S = .ok (ruD (g r)) S) :
    mBi gTuple (mCons (mLc (mIt (mVar 7)) (.tp [(.nm 12), (.nm 13), (.nm 14)]) mYes fe [12, 13, 14]) mNil) ρ S = .ok (wiresD (rs.map g)) S := by
  have lc := lcA1 (tg := .tp [(.nm 12), (.nm 13), (.nm 14)]) (fe := fe) (ρ := wipeE ρ [12, 13, 14]) (S := S) ruD (fun r => ruD (g r)) rs (fun r hr => ⟨(((wipeE ρ [12, 13, 14]).set 12 (vv (nI r.1))).set 13 (vv (nI r.2.1))).set 14 (vv (.int r.2.2)), by subst hρ; rfl, h r hr _ (by subst hρ; rfl) (by subst hρ; rfl) (by subst hρ; rfl)⟩) (by rw [lim_is]; omega)
  refine bi1 (x := .lst (rs.map fun r => ruD (g r))) ?_ ?_
  · rw [ev_Lc, show mIt (mVar 7) ρ S = .ok (rs.map ruD) S from by subst hρ; rfl, ev_bind_ok, lc]
    rfl
  · show some (D.tup (rs.map fun r => ruD (g r))) = _
    unfold wiresD
    rw [List.map_map]
    rfl
end
end Pr
end

/-! the law, the whole -/
noncomputable section
namespace Pr
open PySem L2 DL Cm
section
variable {s0 : Option EV} {n : Nat} {dl : Nat → Int} {rs : List Rule}
theorem mxv_b (C : Circ n dl rs) : 0 ≤ mxv n dl ∧ mxv n dl ≤ 50 := by
  obtain ⟨⟨i, _, e⟩, _⟩ := mxv_is (v := dl) C.h1
  rw [e]
  exact ⟨C.d0 i, C.d1 i⟩
theorem lp_b (C : Circ n dl rs) {L : Int} (h : LP n dl rs L) : 0 ≤ L ∧ L ≤ 450 := by
  obtain ⟨v, hv, e⟩ := h.ex
  rw [e]
  exact ⟨per_nn C v, per_le C v⟩
theorem q3_ok (C : Circ n dl rs) {G : Int} {x3 x4 x5 x8 x9 : Option EV} {ρ : DL.Env} {S : Store} (hρ : ρ = eW s0 (vv (.int G)) x3 x4 x5 (vv (delD n dl)) (vv (wiresD rs)) x8 x9) : ∃ y8, q3 ρ S = .ok (.nx, eW s0 (vv (.int G)) x3 x4 x5 (vv (delD n dl)) (vv (wiresD rs)) y8 x9) S := by
  have cl := C.len
  have lc := lcF (tg := .nm 10) (tt := (mCmp gGt (mOp gIx (mVar 10) (mC (.int 2))) (mC (.int 8)))) (fe := mVar 10) (ρ := wipeE ρ [10]) (S := S) ruD (fun r => decide (r.2.2 > 8)) ruD rs (fun r hr => ⟨(wipeE ρ [10]).set 10 (vv (ruD r)), by subst hρ; rfl, cmp_ok (x := .int r.2.2) (y := .int 8) (opI (x := ruD r) (y := .int 2) (by subst hρ; rfl) rfl rfl) rfl rfl, fun _ => by subst hρ; rfl⟩) (by rw [lim_is]; omega)
  obtain ⟨F, hF⟩ : ∃ F, F = rs.filter fun r => decide (r.2.2 > 8) := ⟨_, rfl⟩
  rw [← hF] at lc
  have t : mCmp gEq (mLc (mIt (mVar 7)) (.nm 10) (mCmp gGt (mOp gIx (mVar 10) (mC (.int 2))) (mC (.int 8))) (mVar 10) [10]) (mLst mNil) ρ S = .ok (decide (F = [])) S := by
    refine cmp_ok (x := .lst (F.map ruD)) (y := .lst []) ?_ rfl (gEq_runil F)
    rw [ev_Lc, show mIt (mVar 7) ρ S = .ok (rs.map ruD) S from by subst hρ; rfl, ev_bind_ok, lc]
    rfl
  by_cases h : F = []
  · rw [decide_eq_true h] at t
    have le : ∀ r ∈ rs, r.2.2 ≤ 8 := fun r hr => by
      rw [hF] at h
      have := List.filter_eq_nil_iff.mp h r hr
      have : ¬ r.2.2 > 8 := by simpa using this
      omega
    obtain ⟨C', nz⟩ := mo_circ C le
    obtain ⟨ρ1, g1⟩ : ∃ ρ1, ρ1 = eW s0 (vv (.int G)) x3 x4 x5 (vv (delD n dl)) (vv (wiresD rs)) (vv (wiresD (mo rs))) x9 := ⟨_, rfl⟩
    have e1 := comp_w (S := S) (fe := (mTup (mCons (mVar 12) (mCons (mVar 13) (mCons (mOp gAdd (mVar 14) (mC (.int 1))) mNil))))) (fun r => (r.1, r.2.1, r.2.2 + 1)) (by omega) hρ fun r hr σ h12 h13 h14 => t3 (ev_var h12) (ev_var h13) (opI (ev_var h14) (y := .int 1) rfl rfl)
    have v8 : mVar 8 ρ1 S = .ok (wiresD (mo rs)) S := by subst g1; rfl
    have v6 : mVar 6 ρ1 S = .ok (delD n dl) S := by subst g1; rfl
    have mx : mBi gMax (mCons (mVar 6) mNil) ρ1 S = .ok (.int (mxv n dl)) S := bi1 v6 (gMax_vD dl C.h1).2
    obtain ⟨L, hL, el⟩ := lp_at C'
    have p1 : mCall d_period 2 (mConsE (mV (mVar 6)) (mConsE (mV (mVar 8)) mNilE)) ρ1 S = .ok (.int (mxv n (sv dl (mo rs)))) S := cl2 v6 v8 (period_spec C')
    refine ⟨vv (wiresD (mo rs)), ?_⟩
    unfold q3
    rw [if_go t]
    refine (seq_nx (ρ1 := ρ1) (S1 := S) ((st_set e1).trans (by subst hρ g1; rfl))).trans ?_
    rw [← g1]
    refine if_skip ?_
    rw [or_go (ne_no p1 mx (mxv_congr fun i _ => sv_free nz i))]
    exact ne_no (el v6 v8) mx (hL.eq (LP.free C' nz))
  · rw [decide_eq_false h] at t
    refine ⟨x8, ?_⟩
    unfold q3
    rw [if_skip t, hρ]
theorem law_tail (C : Circ n dl rs) (h6 : n ≤ 6) (out : ∀ i, n ≤ i → dl i = 0) {c : Cell} (hc : RowOk c) {ρ : DL.Env} {S : Store} (hρ : ρ = eW s0 none none none none (vv (delD n dl)) (vv (wiresD rs)) none none) (hS : S = [some c]) : Wp (qr2 ρ S) (Rt (.bl true)) NoX := by
  subst hS
  have cl := C.len
  obtain ⟨G, hG, eG⟩ := lp_at C
  obtain ⟨G0, G1⟩ := lp_b C hG
  obtain ⟨ρ1, g1⟩ : ∃ ρ1, ρ1 = eW s0 (vv (.int G)) none none none (vv (delD n dl)) (vv (wiresD rs)) none none := ⟨_, rfl⟩
  have e1 : q2 ρ [some c] = .ok (.nx, ρ1) [some c] := (st_set (eG (by subst hρ; rfl) (by subst hρ; rfl))).trans (by subst hρ g1; rfl)
  unfold qr2
  refine wsq e1 ?_
  obtain ⟨y8, e2⟩ := q3_ok C (S := [some c]) g1
  obtain ⟨ρ2, g2⟩ : ∃ ρ2, ρ2 = eW s0 (vv (.int G)) none none none (vv (delD n dl)) (vv (wiresD rs)) y8 none := ⟨_, rfl⟩
  rw [← g2] at e2
  unfold qr3
  refine wsq e2 ?_
  obtain ⟨a, c1, a0, a1, hc1, ea⟩ := draw (ρ := ρ2) (i := 1) (fb := mC (.int 3)) (B := 3) (R := []) (by subst g2; rfl) rfl (by decide) (by decide) hc
  obtain ⟨t, ht⟩ : ∃ t : Int, t = 1 + a := ⟨_, rfl⟩
  obtain ⟨ρ3, g3⟩ : ∃ ρ3, ρ3 = eW s0 (vv (.int G)) (vv (.int t)) none none (vv (delD n dl)) (vv (wiresD rs)) y8 none := ⟨_, rfl⟩
  have e3 : q4 ρ2 [some c] = .ok (.nx, ρ3) [some c1] := by
    refine (st_set (d := .int t) ?_).trans (by subst g2 g3; rfl)
    rw [ev_Op, show mC (.int 1) ρ2 [some c] = .ok (.int 1) [some c] from rfl, ev_bind_ok, ea, ev_bind_ok, ht]
    rfl
  unfold qr4
  refine wsq e3 ?_
  obtain ⟨ds, hds⟩ : ∃ ds : Nat → Int, ds = fun i => dl i * t := ⟨_, rfl⟩
  obtain ⟨ρ4, g4⟩ : ∃ ρ4, ρ4 = eW s0 (vv (.int G)) (vv (.int t)) (vv (delD n ds)) none (vv (delD n dl)) (vv (wiresD rs)) y8 none := ⟨_, rfl⟩
  have e4 : q5 ρ3 [some c1] = .ok (.nx, ρ4) [some c1] := by
    have lc := lcA1 (tg := .nm 11) (fe := mOp gMul (mVar 11) (mVar 3)) (ρ := wipeE ρ3 [11]) (S := [some c1]) (fun i : Nat => D.int (dl i)) (fun i : Nat => D.int (ds i)) (List.range n) (fun i hi => ⟨(wipeE ρ3 [11]).set 11 (vv (.int (dl i))), by subst g3; rfl, opI (x := .int (dl i)) (y := .int t) (by subst g3; rfl) (by subst g3; rfl) (by
      have := C.d0 i
      have := C.d1 i
      rw [gMul_l (by omega), hds])⟩) (by rw [lim_is]; simp; omega)
    refine (st_set (d := delD n ds) ?_).trans (by subst g3 g4; rfl)
    refine bi1 (x := .lst ((List.range n).map fun i => D.int (ds i))) ?_ rfl
    rw [ev_Lc, show mIt (mVar 6) ρ3 [some c1] = .ok ((List.range n).map fun i : Nat => D.int (dl i)) [some c1] from by subst g3; rfl, ev_bind_ok, lc]
    rfl
  unfold qr5
  refine wsq e4 ?_
  have v2 : mVar 2 ρ4 [some c1] = .ok (.int G) [some c1] := by subst g4; rfl
  have v3 : mVar 3 ρ4 [some c1] = .ok (.int t) [some c1] := by subst g4; rfl
  have v4 : mVar 4 ρ4 [some c1] = .ok (delD n ds) [some c1] := by subst g4; rfl
  have v6 : mVar 6 ρ4 [some c1] = .ok (delD n dl) [some c1] := by subst g4; rfl
  have v7 : mVar 7 ρ4 [some c1] = .ok (wiresD rs) [some c1] := by subst g4; rfl
  have e5 : q6 ρ4 [some c1] = .ok (.nx, ρ4) [some c1] := by
    unfold q6
    refine if_skip ?_
    have mx : mBi gMax (mCons (mVar 4) mNil) ρ4 [some c1] = .ok (.int (mxv n ds)) [some c1] := bi1 v4 (gMax_vD ds C.h1).2
    have tt : mCmp gLe (mBi gMax (mCons (mVar 4) mNil)) (mC (.int 50)) ρ4 [some c1] = .ok (decide (mxv n ds ≤ 50)) [some c1] := cmp_ok mx (y := .int 50) rfl rfl
    by_cases h : mxv n ds ≤ 50
    · rw [decide_eq_true h] at tt
      rw [and_go tt]
      have C' : Circ n ds rs := by
        refine ⟨C.h1, C.h8, fun i => ?_, fun i => ?_, C.len, C.inr, C.reg, C.up⟩
        · rw [hds]
          exact Int.mul_nonneg (C.d0 i) (by omega)
        · by_cases hi : i < n
          · exact Int.le_trans ((mxv_is (v := ds) C.h1).2 i hi) h
          · rw [hds]
            show dl i * t ≤ 50
            rw [out i (by omega), Int.zero_mul]
            decide
      obtain ⟨L, hL, el⟩ := lp_at C'
      have hm : LP n ds rs (G * t) := by rw [hds]; exact hG.mul (by omega) C.h1
      have p4 : mCall d_period 2 (mConsE (mV (mVar 4)) (mConsE (mV (mVar 7)) mNilE)) ρ4 [some c1] = .ok (.int (mxv n (sv ds rs))) [some c1] := cl2 v4 v7 (period_spec C')
      have p6 : mCall d_period 2 (mConsE (mV (mVar 6)) (mConsE (mV (mVar 7)) mNilE)) ρ4 [some c1] = .ok (.int (mxv n (sv dl rs))) [some c1] := cl2 v6 v7 (period_spec C)
      rw [or_go (ne_no (el v4 v7) (opI v2 v3 (gMul_l (by omega))) (hL.eq hm))]
      refine ne_no p4 (opI v3 p6 (gMul_l (by omega))) ?_
      refine mxv_mul (by omega) C.h1 fun i => ?_
      rw [hds]
      exact sf_mul (by omega) rs 9 i
    · rw [decide_eq_false h] at tt
      exact and_no tt
  unfold qr6
  refine wsq e5 ?_
  have tn : mCmp gNe (mVar 7) (mTup mNil) ρ4 [some c1] = .ok (!decide (rs = [])) [some c1] := cmp_ok v7 (y := .tup []) rfl (ne_nil rs)
  obtain ⟨ρ5, y9, c2, e6, g5⟩ : ∃ ρ5 y9 c2, q7 ρ4 [some c1] = .ok (.nx, ρ5) [some c2] ∧ ρ5 = eW s0 (vv (.int G)) (vv (.int t)) (vv (delD n ds)) none (vv (delD n dl)) (vv (wiresD rs)) y8 y9 := by
    by_cases hz : rs = []
    · rw [decide_eq_true hz] at tn
      exact ⟨ρ4, none, c1, by unfold q7; exact if_skip tn, g4⟩
    · rw [decide_eq_false hz] at tn
      have hpos : 0 < rs.length := List.length_pos_iff.mpr hz
      obtain ⟨b, c2, b0, b1, hc2, eb⟩ := draw (ρ := ρ4) (i := 1) (fb := mBi gLen (mCons (mVar 7) mNil)) (B := (rs.length : Int)) (R := []) (by subst g4; rfl) (bi1 v7 (by unfold wiresD; rw [gLen_t, List.length_map])) (by omega) (by omega) hc1
      obtain ⟨m, rfl⟩ : ∃ m : Nat, b = (m : Int) := ⟨b.toNat, by omega⟩
      obtain ⟨ρ5, g5⟩ : ∃ ρ5, ρ5 = eW s0 (vv (.int G)) (vv (.int t)) (vv (delD n ds)) none (vv (delD n dl)) (vv (wiresD rs)) y8 (vv (nI m)) := ⟨_, rfl⟩
      have f1 : mSet 9 (mV (mCall d__law_taken 2 (mConsE (mCel 1) (mConsE (mV (mBi gLen (mCons (mVar 7) mNil))) mNilE)))) ρ4 [some c1] = .ok (.nx, ρ5) [some c2] := (st_set eb).trans (by subst g4 g5; rfl)
      refine ⟨ρ5, vv (nI m), c2, ?_, g5⟩
      unfold q7
      rw [if_go tn, seq_nx f1]
      refine if_skip ?_
      obtain ⟨qs, hqs⟩ : ∃ qs, qs = rs.take m ++ rs.drop (m + 1) := ⟨_, rfl⟩
      have sub : ∀ r ∈ qs, r ∈ rs := fun r hr => by
        rw [hqs] at hr
        rcases List.mem_append.mp hr with hr | hr
        · exact List.mem_of_mem_take hr
        · exact List.mem_of_mem_drop hr
      have hl : qs.length ≤ rs.length := by
        rw [hqs, List.length_append, List.length_take, List.length_drop]
        omega
      have C' := circ_sub C sub hl
      obtain ⟨L, hL, el⟩ := lp_at C'
      have s1 : mSl (mVar 7) mNoPart (mPart (mVar 9)) ρ5 [some c2] = .ok (wiresD (rs.take m)) [some c2] := by
        have : mSl (mVar 7) mNoPart (mPart (mVar 9)) ρ5 [some c2] = .ok (.tup (cutD (rs.map ruD) none (some (m : Int)))) [some c2] := by subst g5; rfl
        rw [this, wcut_to (by rw [List.length_map]; omega)]
        unfold wiresD
        rw [List.map_take]
      have s2 : mSl (mVar 7) (mPart (mOp gAdd (mVar 9) (mC (.int 1)))) mNoPart ρ5 [some c2] = .ok (wiresD (rs.drop (m + 1))) [some c2] := by
        have : mSl (mVar 7) (mPart (mOp gAdd (mVar 9) (mC (.int 1)))) mNoPart ρ5 [some c2] = .ok (.tup (cutD (rs.map ruD) (some ((m : Int) + 1)) none)) [some c2] := by subst g5; rfl
        rw [this, show (m : Int) + 1 = ((m + 1 : Nat) : Int) by omega, wcut_from (by rw [List.length_map]; omega)]
        unfold wiresD
        rw [List.map_drop]
      have s3 : mOp gAdd (mSl (mVar 7) mNoPart (mPart (mVar 9))) (mSl (mVar 7) (mPart (mOp gAdd (mVar 9) (mC (.int 1)))) mNoPart) ρ5 [some c2] = .ok (wiresD qs) [some c2] := opI s1 s2 (by
        unfold wiresD
        rw [g_addT (by rw [lim_is, List.length_map, List.length_map, List.length_take, List.length_drop]; omega), hqs, List.map_append])
      exact cmp_ok (el (fa := mVar 6) (by subst g5; rfl) s3) (y := .int G) (by subst g5; rfl) (by
        show some (decide (L > G)) = _
        rw [decide_eq_false (by have := LP.less C C' sub hG hL; omega)])
  unfold qr7
  refine wsq e6 ?_
  obtain ⟨ρ6, g6⟩ : ∃ ρ6, ρ6 = eW s0 (vv (.int G)) (vv (.int t)) (vv (delD n ds)) (vv (wiresD (bk rs))) (vv (delD n dl)) (vv (wiresD rs)) y8 y9 := ⟨_, rfl⟩
  have e7 : q8 ρ5 [some c2] = .ok (.nx, ρ6) [some c2] := by
    have := comp_w (S := [some c2]) (fe := (mTup (mCons (mVar 13) (mCons (mVar 12) (mCons (mVar 14) mNil))))) (fun r => (r.2.1, r.1, r.2.2)) (by omega) g5 fun r hr σ h12 h13 h14 => t3 (ev_var h13) (ev_var h12) (ev_var h14)
    exact (st_set this).trans (by subst g5 g6; rfl)
  unfold qr8
  refine wsq e7 ?_
  have w2 : mVar 2 ρ6 [some c2] = .ok (.int G) [some c2] := by subst g6; rfl
  have w5 : mVar 5 ρ6 [some c2] = .ok (wiresD (bk rs)) [some c2] := by subst g6; rfl
  have w6 : mVar 6 ρ6 [some c2] = .ok (delD n dl) [some c2] := by subst g6; rfl
  have w7 : mVar 7 ρ6 [some c2] = .ok (wiresD rs) [some c2] := by subst g6; rfl
  obtain ⟨L, hL, el⟩ := lp_at (bk_circ C)
  obtain ⟨b, b1, b2⟩ := bound_bk C h6
  have Cn : Circ n dl [] := circ_sub C (fun _ h => by cases h) (Nat.zero_le _)
  obtain ⟨M, hM, em⟩ := lp_at Cn
  have r1 := eq_yes (el w6 w5) w2 (hG.bk C hL)
  have r2 : mB (mCmp gEq (mCall d_ring_bound 2 (mConsE (mV (mVar 6)) (mConsE (mV (mVar 5)) mNilE))) (mCall d_ring_bound 2 (mConsE (mV (mVar 6)) (mConsE (mV (mVar 7)) mNilE)))) ρ6 [some c2] = .ok (.bl true) [some c2] := b_of'' (cmp_ok (cl2 w6 w5 b2) (cl2 w6 w7 b1) (bD_eq b))
  have r3 := eq_yes (em (fb := mTup mNil) w6 rfl) (bi1 (g := gMax) w6 (gMax_vD dl C.h1).2) (hM.eq (LP.free Cn fun _ h => by cases h))
  unfold qr9 q9
  refine rets (S1 := [some c2]) ?_
  rw [ev_and r1 (fun _ => ev_and r2 (fun _ => r3) (fun z => by cases z)) (fun z => by cases z)]
  rfl
theorem law_spec {c : Cell} (hc : RowOk c) {ρ : DL.Env} {S : Store} (hρ : ρ = eW s0 none none none none none none none none) (hS : S = [some c]) : Wp (qr1 ρ S) (Rt (.bl true)) NoX := by
  subst hS
  obtain ⟨n, dl, rs, c', C, h6, hc', e⟩ := law_circuit_spec (mo := 6) hc (by decide) (by decide)
  obtain ⟨d0, hd⟩ : ∃ d0 : Nat → Int, d0 = fun i => if i < n then dl i else 0 := ⟨_, rfl⟩
  have ed : delD n dl = delD n d0 := by
    unfold delD
    rw [vD_congr (v := dl) (w := d0) fun i hi => by rw [hd]; show dl i = if i < n then dl i else 0; rw [if_pos hi]]
  have C0 : Circ n d0 rs := by
    refine ⟨C.h1, C.h8, fun i => ?_, fun i => ?_, C.len, C.inr, C.reg, C.up⟩
    · rw [hd]
      show 0 ≤ if i < n then dl i else 0
      split
      · exact C.d0 i
      · exact Int.le_refl _
    · rw [hd]
      show (if i < n then dl i else 0) ≤ 50
      split
      · exact C.d1 i
      · decide
  rw [ed] at e
  obtain ⟨ρ1, g1⟩ : ∃ ρ1, ρ1 = eW s0 none none none none (vv (delD n d0)) (vv (wiresD rs)) none none := ⟨_, rfl⟩
  have e1 : q1 ρ [some c] = .ok (.nx, ρ1) [some c'] := by
    unfold q1
    rw [ev_Asg, call_row (R := []) (x := .int 6) (by subst hρ; rfl) rfl e]
    subst hρ g1
    rfl
  unfold qr1
  refine wsq e1 ?_
  exact law_tail C0 h6 (fun i hi => by rw [hd]; exact if_neg (by omega)) hc' g1 rfl
end
theorem law_true : ∀ ns : List Int, ns.length ≤ 63 → ∃ S', d_law [.v (.rol (ns.map D.int))] [] = .ok (.bl true) S' := by
  intro ns _
  refine ⟨[], denR ?_⟩
  let s : Option EV := vv (.rol (ns.map D.int))
  have h0 : RowOk (DL.row ns 0 3893 0) := ⟨ns, 0, 3893, 0, rfl, Int.le_refl _⟩
  obtain ⟨ρ1, S1, e, h1, h2⟩ : ∃ ρ1 S1, q0 ([s] ++ List.replicate 14 none) [] = .ok (.nx, ρ1) S1 ∧ ρ1 = eW s none none none none none none none none ∧ S1 = [some (DL.row ns 0 3893 0)] := by
    refine ⟨_, _, ?_, rfl, rfl⟩
    unfold q0
    rw [ev_Set]
    unfold mNew
    simp [s, vv, DL.row, lim_is, eW]
  show Wp (b_law ([s] ++ List.replicate 14 none) []) _ _
  rw [q_all]
  unfold qr0
  exact wsq e (law_spec h0 h1 h2)
end Pr
end

namespace Pr
open PySem PySem.Spec PyProof.Rows L2 DL

/-! ## the program's top -/
set_option maxHeartbeats 0 in
theorem all_mk {l : PySem.W.OpenLaw} {w : World} {K : PySem.W.Frag} {h : Heap} {mg : Str → Option Value} {fa : Addr} (X : K.In h) (G : h.Ns mainGlobals mg) (hfa : mg "law" = some (.ref fa))
    {ts : List Addr}
    {f0 : Addr} {od0 an0 : Option Addr} {sl0 : Array (Option Value)} {oc0 kV0 dc0 pm0 cd0 ct0 : Value}
    {f1 : Addr} {od1 an1 : Option Addr} {sl1 : Array (Option Value)} {oc1 kV1 dc1 pm1 cd1 ct1 : Value}
    {f2 : Addr} {od2 an2 : Option Addr} {sl2 : Array (Option Value)} {oc2 kV2 dc2 pm2 cd2 ct2 : Value}
    {f3 : Addr} {od3 an3 : Option Addr} {sl3 : Array (Option Value)} {oc3 kV3 dc3 pm3 cd3 ct3 : Value}
    {f4 : Addr} {od4 an4 : Option Addr} {sl4 : Array (Option Value)} {oc4 kV4 dc4 pm4 cd4 ct4 : Value}
    {f5 : Addr} {od5 an5 : Option Addr} {sl5 : Array (Option Value)} {oc5 kV5 dc5 pm5 cd5 ct5 : Value}
    {f6 : Addr} {od6 an6 : Option Addr} {sl6 : Array (Option Value)} {oc6 kV6 dc6 pm6 cd6 ct6 : Value}
    {f7 : Addr} {od7 an7 : Option Addr} {sl7 : Array (Option Value)} {oc7 kV7 dc7 pm7 cd7 ct7 : Value}
    {f8 : Addr} {od8 an8 : Option Addr} {sl8 : Array (Option Value)} {oc8 kV8 dc8 pm8 cd8 ct8 : Value}
    {f9 : Addr} {od9 an9 : Option Addr} {sl9 : Array (Option Value)} {oc9 kV9 dc9 pm9 cd9 ct9 : Value}
    {f10 : Addr} {od10 an10 : Option Addr} {sl10 : Array (Option Value)} {oc10 kV10 dc10 pm10 cd10 ct10 : Value}
    {f11 : Addr} {od11 an11 : Option Addr} {sl11 : Array (Option Value)} {oc11 kV11 dc11 pm11 cd11 ct11 : Value}
    {f12 : Addr} {od12 an12 : Option Addr} {sl12 : Array (Option Value)} {oc12 kV12 dc12 pm12 cd12 ct12 : Value}
    {f13 : Addr} {od13 an13 : Option Addr} {sl13 : Array (Option Value)} {oc13 kV13 dc13 pm13 cd13 ct13 : Value}
    {f14 : Addr} {od14 an14 : Option Addr} {sl14 : Array (Option Value)} {oc14 kV14 dc14 pm14 cd14 ct14 : Value}
    {f15 : Addr} {od15 an15 : Option Addr} {sl15 : Array (Option Value)} {oc15 kV15 dc15 pm15 cd15 ct15 : Value}
    {f16 : Addr} {od16 an16 : Option Addr} {sl16 : Array (Option Value)} {oc16 kV16 dc16 pm16 cd16 ct16 : Value}
    {f17 : Addr} {od17 an17 : Option Addr} {sl17 : Array (Option Value)} {oc17 kV17 dc17 pm17 cd17 ct17 : Value}
    {f18 : Addr} {od18 an18 : Option Addr} {sl18 : Array (Option Value)} {oc18 kV18 dc18 pm18 cd18 ct18 : Value}
    {f19 : Addr} {od19 an19 : Option Addr} {sl19 : Array (Option Value)} {oc19 kV19 dc19 pm19 cd19 ct19 : Value}
    {f20 : Addr} {od20 an20 : Option Addr} {sl20 : Array (Option Value)} {oc20 kV20 dc20 pm20 cd20 ct20 : Value}
    {f21 : Addr} {od21 an21 : Option Addr} {sl21 : Array (Option Value)} {oc21 kV21 dc21 pm21 cd21 ct21 : Value}
    {t_LONGEST_DELAY : Tok}
    {t_MOST_GATES : Tok}
    {t_MOST_REGISTERS : Tok}
    {t_MOST_WIRES : Tok}
    {C_BadCircuit : Addr}
    {nm_BadCircuit q_BadCircuit : Str} {N_BadCircuit fI_BadCircuit : Addr} {bs_BadCircuit : List Value} {sn_BadCircuit : List Str} {sub_BadCircuit : List Value} {ab_BadCircuit : Bool} {col_BadCircuit : Option Bool} {dd_BadCircuit : Option Addr} {m0_BadCircuit m1_BadCircuit m2_BadCircuit m3_BadCircuit m5_BadCircuit : Option Value} {B0_BadCircuit : Addr} {odi_BadCircuit ani_BadCircuit : Option Addr} {sli_BadCircuit : Array (Option Value)} {oci_BadCircuit kVi_BadCircuit dci_BadCircuit pmi_BadCircuit cdi_BadCircuit cti_BadCircuit : Value}
    (ht0_law : (PySem.W.tabIn K "law").isSome = true)
    (ht0_check_circuit : (PySem.W.tabIn K "check_circuit").isSome = true)
    (hn0_check_nets : mkOk K ts "check_nets" = true)
    (hn0_check_rules : mkOk K ts "check_rules" = true)
    (hn0_check_circuit : mkOk K ts "check_circuit" = true)
    (hn0_tight_row : mkOk K ts "tight_row" = true)
    (hn0_better_side : mkOk K ts "better_side" = true)
    (hn0_pushing_row : mkOk K ts "pushing_row" = true)
    (hn0_pusher_of : mkOk K ts "pusher_of" = true)
    (hn0_best_bush : mkOk K ts "best_bush" = true)
    (hn0_bush_upon : mkOk K ts "bush_upon" = true)
    (hn0_host_of : mkOk K ts "host_of" = true)
    (hn0_spread : mkOk K ts "spread" = true)
    (hn0_floor_options : mkOk K ts "floor_options" = true)
    (hn0_placed_floor : mkOk K ts "placed_floor" = true)
    (hn0_least_option : mkOk K ts "least_option" = true)
    (hn0_best_word : mkOk K ts "best_word" = true)
    (hn0_best_topology : mkOk K ts "best_topology" = true)
    (hn0_names_for : mkOk K ts "names_for" = true)
    (hn0_least_length : mkOk K ts "least_length" = true)
    (hn0_least_width : mkOk K ts "least_width" = true)
    (hn0_fewest_bends : mkOk K ts "fewest_bends" = true)
    (hn0_two_layers : mkOk K ts "two_layers" = true)
    (hK0 : PySem.W.noTabs K = true) (hok0 : tabsOk K = true)
    (hkf : keyFree K = true)
    (a0 : PySem.W.nsIn K mainGlobals "_law_taken" = some (some (.ref f0))) (l0 : K.lookup f0 = some ⟨oc0, od0, .func (PySem.W.fnOf "_law_taken" "_law_taken" (defArgs st__law_taken) (defBody st__law_taken) (defScope st__law_taken) .none kV0 dc0 pm0 an0 cd0 ct0), sl0⟩) (c0 : PySem.W.codeIn K cd0 "_law_taken" = true) (k0 : PySem.W.keepIn K (.ref f0) = true)
    (a1 : PySem.W.nsIn K mainGlobals "_law_pick" = some (some (.ref f1))) (l1 : K.lookup f1 = some ⟨oc1, od1, .func (PySem.W.fnOf "_law_pick" "_law_pick" (defArgs st__law_pick) (defBody st__law_pick) (defScope st__law_pick) .none kV1 dc1 pm1 an1 cd1 ct1), sl1⟩) (c1 : PySem.W.codeIn K cd1 "_law_pick" = true) (k1 : PySem.W.keepIn K (.ref f1) = true)
    (a2 : PySem.W.nsIn K mainGlobals "_law_circuit" = some (some (.ref f2))) (l2 : K.lookup f2 = some ⟨oc2, od2, .func (PySem.W.fnOf "_law_circuit" "_law_circuit" (defArgs st__law_circuit) (defBody st__law_circuit) (defScope st__law_circuit) .none kV2 dc2 pm2 an2 cd2 ct2), sl2⟩) (c2 : PySem.W.codeIn K cd2 "_law_circuit" = true) (k2 : PySem.W.keepIn K (.ref f2) = true)
    (a3 : PySem.W.nsIn K mainGlobals "is_tuple_of" = some (some (.ref f3))) (l3 : K.lookup f3 = some ⟨oc3, od3, .func (PySem.W.fnOf "is_tuple_of" "is_tuple_of" (defArgs st_is_tuple_of) (defBody st_is_tuple_of) (defScope st_is_tuple_of) .none kV3 dc3 pm3 an3 cd3 ct3), sl3⟩) (c3 : PySem.W.codeIn K cd3 "is_tuple_of" = true) (k3 : PySem.W.keepIn K (.ref f3) = true)
    (a4 : PySem.W.nsIn K mainGlobals "is_integer" = some (some (.ref f4))) (l4 : K.lookup f4 = some ⟨oc4, od4, .func (PySem.W.fnOf "is_integer" "is_integer" (defArgs st_is_integer) (defBody st_is_integer) (defScope st_is_integer) .none kV4 dc4 pm4 an4 cd4 ct4), sl4⟩) (c4 : PySem.W.codeIn K cd4 "is_integer" = true) (k4 : PySem.W.keepIn K (.ref f4) = true)
    (a5 : PySem.W.nsIn K mainGlobals "is_between" = some (some (.ref f5))) (l5 : K.lookup f5 = some ⟨oc5, od5, .func (PySem.W.fnOf "is_between" "is_between" (defArgs st_is_between) (defBody st_is_between) (defScope st_is_between) .none kV5 dc5 pm5 an5 cd5 ct5), sl5⟩) (c5 : PySem.W.codeIn K cd5 "is_between" = true) (k5 : PySem.W.keepIn K (.ref f5) = true)
    (a6 : PySem.W.nsIn K mainGlobals "is_wire" = some (some (.ref f6))) (l6 : K.lookup f6 = some ⟨oc6, od6, .func (PySem.W.fnOf "is_wire" "is_wire" (defArgs st_is_wire) (defBody st_is_wire) (defScope st_is_wire) .none kV6 dc6 pm6 an6 cd6 ct6), sl6⟩) (c6 : PySem.W.codeIn K cd6 "is_wire" = true) (k6 : PySem.W.keepIn K (.ref f6) = true)
    (a7 : PySem.W.nsIn K mainGlobals "bare_pairs" = some (some (.ref f7))) (l7 : K.lookup f7 = some ⟨oc7, od7, .func (PySem.W.fnOf "bare_pairs" "bare_pairs" (defArgs st_bare_pairs) (defBody st_bare_pairs) (defScope st_bare_pairs) .none kV7 dc7 pm7 an7 cd7 ct7), sl7⟩) (c7 : PySem.W.codeIn K cd7 "bare_pairs" = true) (k7 : PySem.W.keepIn K (.ref f7) = true)
    (a8 : PySem.W.nsIn K mainGlobals "free_gates" = some (some (.ref f8))) (l8 : K.lookup f8 = some ⟨oc8, od8, .func (PySem.W.fnOf "free_gates" "free_gates" (defArgs st_free_gates) (defBody st_free_gates) (defScope st_free_gates) .none kV8 dc8 pm8 an8 cd8 ct8), sl8⟩) (c8 : PySem.W.codeIn K cd8 "free_gates" = true) (k8 : PySem.W.keepIn K (.ref f8) = true)
    (a9 : PySem.W.nsIn K mainGlobals "in_order" = some (some (.ref f9))) (l9 : K.lookup f9 = some ⟨oc9, od9, .func (PySem.W.fnOf "in_order" "in_order" (defArgs st_in_order) (defBody st_in_order) (defScope st_in_order) .none kV9 dc9 pm9 an9 cd9 ct9), sl9⟩) (c9 : PySem.W.codeIn K cd9 "in_order" = true) (k9 : PySem.W.keepIn K (.ref f9) = true)
    (a10 : PySem.W.nsIn K mainGlobals "check_circuit" = some (some (.ref f10))) (l10 : K.lookup f10 = some ⟨oc10, od10, .func (PySem.W.fnOf "check_circuit" "check_circuit" (defArgs st_check_circuit) (defBody st_check_circuit) (defScope st_check_circuit) .none kV10 dc10 pm10 an10 cd10 ct10), sl10⟩) (c10 : PySem.W.codeIn K cd10 "check_circuit" = true) (k10 : PySem.W.keepIn K (.ref f10) = true)
    (a11 : PySem.W.nsIn K mainGlobals "arrivals" = some (some (.ref f11))) (l11 : K.lookup f11 = some ⟨oc11, od11, .func (PySem.W.fnOf "arrivals" "arrivals" (defArgs st_arrivals) (defBody st_arrivals) (defScope st_arrivals) .none kV11 dc11 pm11 an11 cd11 ct11), sl11⟩) (c11 : PySem.W.codeIn K cd11 "arrivals" = true) (k11 : PySem.W.keepIn K (.ref f11) = true)
    (a12 : PySem.W.nsIn K mainGlobals "with_lags" = some (some (.ref f12))) (l12 : K.lookup f12 = some ⟨oc12, od12, .func (PySem.W.fnOf "with_lags" "with_lags" (defArgs st_with_lags) (defBody st_with_lags) (defScope st_with_lags) .none kV12 dc12 pm12 an12 cd12 ct12), sl12⟩) (c12 : PySem.W.codeIn K cd12 "with_lags" = true) (k12 : PySem.W.keepIn K (.ref f12) = true)
    (a13 : PySem.W.nsIn K mainGlobals "least_lags" = some (some (.ref f13))) (l13 : K.lookup f13 = some ⟨oc13, od13, .func (PySem.W.fnOf "least_lags" "least_lags" (defArgs st_least_lags) (defBody st_least_lags) (defScope st_least_lags) .none kV13 dc13 pm13 an13 cd13 ct13), sl13⟩) (c13 : PySem.W.codeIn K cd13 "least_lags" = true) (k13 : PySem.W.keepIn K (.ref f13) = true)
    (a14 : PySem.W.nsIn K mainGlobals "least_period" = some (some (.ref f14))) (l14 : K.lookup f14 = some ⟨oc14, od14, .func (PySem.W.fnOf "least_period" "least_period" (defArgs st_least_period) (defBody st_least_period) (defScope st_least_period) .none kV14 dc14 pm14 an14 cd14 ct14), sl14⟩) (c14 : PySem.W.codeIn K cd14 "least_period" = true) (k14 : PySem.W.keepIn K (.ref f14) = true)
    (a15 : PySem.W.nsIn K mainGlobals "period" = some (some (.ref f15))) (l15 : K.lookup f15 = some ⟨oc15, od15, .func (PySem.W.fnOf "period" "period" (defArgs st_period) (defBody st_period) (defScope st_period) .none kV15 dc15 pm15 an15 cd15 ct15), sl15⟩) (c15 : PySem.W.codeIn K cd15 "period" = true) (k15 : PySem.W.keepIn K (.ref f15) = true)
    (a16 : PySem.W.nsIn K mainGlobals "rings_of" = some (some (.ref f16))) (l16 : K.lookup f16 = some ⟨oc16, od16, .func (PySem.W.fnOf "rings_of" "rings_of" (defArgs st_rings_of) (defBody st_rings_of) (defScope st_rings_of) .none kV16 dc16 pm16 an16 cd16 ct16), sl16⟩) (c16 : PySem.W.codeIn K cd16 "rings_of" = true) (k16 : PySem.W.keepIn K (.ref f16) = true)
    (a17 : PySem.W.nsIn K mainGlobals "fewest_registers" = some (some (.ref f17))) (l17 : K.lookup f17 = some ⟨oc17, od17, .func (PySem.W.fnOf "fewest_registers" "fewest_registers" (defArgs st_fewest_registers) (defBody st_fewest_registers) (defScope st_fewest_registers) .none kV17 dc17 pm17 an17 cd17 ct17), sl17⟩) (c17 : PySem.W.codeIn K cd17 "fewest_registers" = true) (k17 : PySem.W.keepIn K (.ref f17) = true)
    (a18 : PySem.W.nsIn K mainGlobals "ratio" = some (some (.ref f18))) (l18 : K.lookup f18 = some ⟨oc18, od18, .func (PySem.W.fnOf "ratio" "ratio" (defArgs st_ratio) (defBody st_ratio) (defScope st_ratio) .none kV18 dc18 pm18 an18 cd18 ct18), sl18⟩) (c18 : PySem.W.codeIn K cd18 "ratio" = true) (k18 : PySem.W.keepIn K (.ref f18) = true)
    (a19 : PySem.W.nsIn K mainGlobals "ring_bound" = some (some (.ref f19))) (l19 : K.lookup f19 = some ⟨oc19, od19, .func (PySem.W.fnOf "ring_bound" "ring_bound" (defArgs st_ring_bound) (defBody st_ring_bound) (defScope st_ring_bound) .none kV19 dc19 pm19 an19 cd19 ct19), sl19⟩) (c19 : PySem.W.codeIn K cd19 "ring_bound" = true) (k19 : PySem.W.keepIn K (.ref f19) = true)
    (a20 : PySem.W.nsIn K mainGlobals "law" = some (some (.ref f20))) (l20 : K.lookup f20 = some ⟨oc20, od20, .func (PySem.W.fnOf "law" "law" (defArgs st_law) (defBody st_law) (defScope st_law) .none kV20 dc20 pm20 an20 cd20 ct20), sl20⟩) (c20 : PySem.W.codeIn K cd20 "law" = true) (k20 : PySem.W.keepIn K (.ref f20) = true)
    (a21 : PySem.W.nsIn K mainGlobals "wrong_index" = some (some (.ref f21))) (l21 : K.lookup f21 = some ⟨oc21, od21, .func (PySem.W.fnOf "wrong_index" "wrong_index" (defArgs st_wrong_index) (defBody st_wrong_index) (defScope st_wrong_index) .none kV21 dc21 pm21 an21 cd21 ct21), sl21⟩) (c21 : PySem.W.codeIn K cd21 "wrong_index" = true) (k21 : PySem.W.keepIn K (.ref f21) = true)
    (i_gcd : PySem.W.nsIn K mainGlobals "gcd" = some (some (.builtin "math.gcd")))
    (z_all : PySem.W.nsIn K mainGlobals "all" = some none)
    (z_any : PySem.W.nsIn K mainGlobals "any" = some none)
    (z_bool : PySem.W.nsIn K mainGlobals "bool" = some none)
    (z_enumerate : PySem.W.nsIn K mainGlobals "enumerate" = some none)
    (z_int : PySem.W.nsIn K mainGlobals "int" = some none)
    (z_isinstance : PySem.W.nsIn K mainGlobals "isinstance" = some none)
    (z_len : PySem.W.nsIn K mainGlobals "len" = some none)
    (z_list : PySem.W.nsIn K mainGlobals "list" = some none)
    (z_max : PySem.W.nsIn K mainGlobals "max" = some none)
    (z_min : PySem.W.nsIn K mainGlobals "min" = some none)
    (z_range : PySem.W.nsIn K mainGlobals "range" = some none)
    (z_sum : PySem.W.nsIn K mainGlobals "sum" = some none)
    (z_tuple : PySem.W.nsIn K mainGlobals "tuple" = some none)
    (z_zip : PySem.W.nsIn K mainGlobals "zip" = some none)
    (y_LONGEST_DELAY : PySem.W.nsIn K mainGlobals "LONGEST_DELAY" = some (some (.int 50 t_LONGEST_DELAY)))
    (y_MOST_GATES : PySem.W.nsIn K mainGlobals "MOST_GATES" = some (some (.int 8 t_MOST_GATES)))
    (y_MOST_REGISTERS : PySem.W.nsIn K mainGlobals "MOST_REGISTERS" = some (some (.int 9 t_MOST_REGISTERS)))
    (y_MOST_WIRES : PySem.W.nsIn K mainGlobals "MOST_WIRES" = some (some (.int 20 t_MOST_WIRES)))
    (xa_BadCircuit : PySem.W.nsIn K mainGlobals "BadCircuit" = some (some (.ref C_BadCircuit)))
    (xg_BadCircuit : PySem.W.findIn K (.ref C_BadCircuit) "__getattribute__" = some (some (.builtin "BaseException.__getattribute__")))
    (xk_BadCircuit : PySem.W.findIn K (.ref C_BadCircuit) "__getattr__" = some none)
    (xs_BadCircuit : PySem.W.subIn K (.ref C_BadCircuit) (.type "BaseException") = some true)
    (xd_BadCircuit : PySem.W.hasDictIn K C_BadCircuit = true)
    (xc_BadCircuit : PySem.W.findIn K (.ref C_BadCircuit) "__class__" = some (some (.builtin "object.__class__")))
    (xm_BadCircuit : PySem.W.mroIn K C_BadCircuit (.type "object") = some true)
    (xt_BadCircuit : PySem.W.typeIn K (.ref C_BadCircuit) = some (.type "type"))
    (xp_BadCircuit : PySem.W.keepIn K (.ref C_BadCircuit) = true)
    (xn : PySem.W.specialIn K (.builtin "object.__class__") "__get__" = some (some (.builtin "getset_descriptor.__get__")))
    (xu : PySem.W.takesIn K (.builtin "object.__class__") = some true)
    (xl_BadCircuit : K.lookup C_BadCircuit = some (excClassObj nm_BadCircuit q_BadCircuit C_BadCircuit N_BadCircuit bs_BadCircuit [.ref B0_BadCircuit, .type "ValueError", .type "Exception", .type "BaseException", .type "object"] true sn_BadCircuit sub_BadCircuit ab_BadCircuit col_BadCircuit dd_BadCircuit m0_BadCircuit m1_BadCircuit m2_BadCircuit m3_BadCircuit m5_BadCircuit "ValueError.__new__"))
    (xsa_BadCircuit : PySem.W.findIn K (.ref C_BadCircuit) "__setattr__" = some (some (.builtin "object.__setattr__")))
    (xf_BadCircuit : PySem.W.findIn K (.ref C_BadCircuit) "index" = some none)
    (xi_BadCircuit : PySem.W.findIn K (.ref C_BadCircuit) "__init__" = some (some (.ref fI_BadCircuit)))
    (xit_BadCircuit : PySem.W.typeIn K (.ref fI_BadCircuit) = some (.type "function"))
    (xil_BadCircuit : K.lookup fI_BadCircuit = some ⟨oci_BadCircuit, odi_BadCircuit, .func (PySem.W.fnOf "__init__" "BadCircuit.__init__" (defArgs st_init_BadCircuit) (defBody st_init_BadCircuit) (defScope st_init_BadCircuit) .none kVi_BadCircuit dci_BadCircuit pmi_BadCircuit ani_BadCircuit cdi_BadCircuit cti_BadCircuit), sli_BadCircuit⟩)
    (xic_BadCircuit : PySem.W.codeIn K cdi_BadCircuit "BadCircuit.__init__" = true)
    (xik_BadCircuit : PySem.W.keepIn K (.ref fI_BadCircuit) = true)
    (hlaw : ∀ ns : List Int, ns.length ≤ 63 → ∃ S', d_law [.v (.rol (ns.map D.int))] [] = .ok (.bl true) S') :
    ∃ fd : FuncData, (∀ m ∈ makers, m.1 = "law" ∨ mkOk K ts m.1 = true) ∧ PySem.W.noTabs K = true ∧ (∀ (s : Shared) (v : Value), BindsTo s fd ⟨[v], []⟩ [("script", v)]) ∧ ∀ base : Heap, K.In base → base.Ns mainGlobals mg → (∀ m ∈ makers, ∀ c P, PySem.W.tabIn K m.1 = some (c, P) → LamX.TabB base mg c P) → FnOk l.prog w K mg base (L2.CX l.prog w) 10 fa fd ["script"] (spLaw K) := by
  have B : Bi mg := ⟨PySem.W.mg_none_of X G z_all, PySem.W.mg_none_of X G z_any, PySem.W.mg_none_of X G z_bool, PySem.W.mg_none_of X G z_enumerate, PySem.W.mg_none_of X G z_int, PySem.W.mg_none_of X G z_isinstance, PySem.W.mg_none_of X G z_len, PySem.W.mg_none_of X G z_list, PySem.W.mg_none_of X G z_max, PySem.W.mg_none_of X G z_min, PySem.W.mg_none_of X G z_range, PySem.W.mg_none_of X G z_sum, PySem.W.mg_none_of X G z_tuple, PySem.W.mg_none_of X G z_zip⟩
  have I_gcd := PySem.W.mg_of X G i_gcd
  have K_LONGEST_DELAY : Kon ⟨K, mg, none⟩ "LONGEST_DELAY" k_LONGEST_DELAY := kon_int (PySem.W.mg_of X G y_LONGEST_DELAY)
  have K_MOST_GATES : Kon ⟨K, mg, none⟩ "MOST_GATES" k_MOST_GATES := kon_int (PySem.W.mg_of X G y_MOST_GATES)
  have K_MOST_REGISTERS : Kon ⟨K, mg, none⟩ "MOST_REGISTERS" k_MOST_REGISTERS := kon_int (PySem.W.mg_of X G y_MOST_REGISTERS)
  have K_MOST_WIRES : Kon ⟨K, mg, none⟩ "MOST_WIRES" k_MOST_WIRES := kon_int (PySem.W.mg_of X G y_MOST_WIRES)
  have F0 := fun_mk (st := st__law_taken) l0 c0 k0
  have b0 := F0.binds (ps := ["row", "many"]) fun _ _ _ _ _ _ us hl => match us, hl with | [_, _], _ => rfl
  have m0 := PySem.W.mg_of X G a0
  have F1 := fun_mk (st := st__law_pick) l1 c1 k1
  have b1 := F1.binds (ps := ["row", "things"]) fun _ _ _ _ _ _ us hl => match us, hl with | [_, _], _ => rfl
  have m1 := PySem.W.mg_of X G a1
  have F2 := fun_mk (st := st__law_circuit) l2 c2 k2
  have b2 := F2.binds (ps := ["row", "most"]) fun _ _ _ _ _ _ us hl => match us, hl with | [_, _], _ => rfl
  have m2 := PySem.W.mg_of X G a2
  have F3 := fun_mk (st := st_is_tuple_of) l3 c3 k3
  have b3 := F3.binds (ps := ["value", "least", "most"]) fun _ _ _ _ _ _ us hl => match us, hl with | [_, _, _], _ => rfl
  have m3 := PySem.W.mg_of X G a3
  have F4 := fun_mk (st := st_is_integer) l4 c4 k4
  have b4 := F4.binds (ps := ["value"]) fun _ _ _ _ _ _ us hl => match us, hl with | [_], _ => rfl
  have m4 := PySem.W.mg_of X G a4
  have F5 := fun_mk (st := st_is_between) l5 c5 k5
  have b5 := F5.binds (ps := ["value", "least", "most"]) fun _ _ _ _ _ _ us hl => match us, hl with | [_, _, _], _ => rfl
  have m5 := PySem.W.mg_of X G a5
  have F6 := fun_mk (st := st_is_wire) l6 c6 k6
  have b6 := F6.binds (ps := ["value", "many"]) fun _ _ _ _ _ _ us hl => match us, hl with | [_, _], _ => rfl
  have m6 := PySem.W.mg_of X G a6
  have F7 := fun_mk (st := st_bare_pairs) l7 c7 k7
  have b7 := F7.binds (ps := ["wires"]) fun _ _ _ _ _ _ us hl => match us, hl with | [_], _ => rfl
  have m7 := PySem.W.mg_of X G a7
  have F8 := fun_mk (st := st_free_gates) l8 c8 k8
  have b8 := F8.binds (ps := ["left", "pairs"]) fun _ _ _ _ _ _ us hl => match us, hl with | [_, _], _ => rfl
  have m8 := PySem.W.mg_of X G a8
  have F9 := fun_mk (st := st_in_order) l9 c9 k9
  have b9 := F9.binds (ps := ["many", "wires"]) fun _ _ _ _ _ _ us hl => match us, hl with | [_, _], _ => rfl
  have m9 := PySem.W.mg_of X G a9
  have F10 := fun_mk (st := st_check_circuit) l10 c10 k10
  have b10 := F10.binds (ps := ["delays", "wires"]) fun _ _ _ _ _ _ us hl => match us, hl with | [_, _], _ => rfl
  have m10 := PySem.W.mg_of X G a10
  have F11 := fun_mk (st := st_arrivals) l11 c11 k11
  have b11 := F11.binds (ps := ["delays", "wires"]) fun _ _ _ _ _ _ us hl => match us, hl with | [_, _], _ => rfl
  have m11 := PySem.W.mg_of X G a11
  have F12 := fun_mk (st := st_with_lags) l12 c12 k12
  have b12 := F12.binds (ps := ["wires", "lags"]) fun _ _ _ _ _ _ us hl => match us, hl with | [_, _], _ => rfl
  have m12 := PySem.W.mg_of X G a12
  have F13 := fun_mk (st := st_least_lags) l13 c13 k13
  have b13 := F13.binds (ps := ["delays", "wires", "goal"]) fun _ _ _ _ _ _ us hl => match us, hl with | [_, _, _], _ => rfl
  have m13 := PySem.W.mg_of X G a13
  have F14 := fun_mk (st := st_least_period) l14 c14 k14
  have b14 := F14.binds (ps := ["delays", "wires"]) fun _ _ _ _ _ _ us hl => match us, hl with | [_, _], _ => rfl
  have m14 := PySem.W.mg_of X G a14
  have F15 := fun_mk (st := st_period) l15 c15 k15
  have b15 := F15.binds (ps := ["delays", "wires"]) fun _ _ _ _ _ _ us hl => match us, hl with | [_, _], _ => rfl
  have m15 := PySem.W.mg_of X G a15
  have F16 := fun_mk (st := st_rings_of) l16 c16 k16
  have b16 := F16.binds (ps := ["many", "fewest"]) fun _ _ _ _ _ _ us hl => match us, hl with | [_, _], _ => rfl
  have m16 := PySem.W.mg_of X G a16
  have F17 := fun_mk (st := st_fewest_registers) l17 c17 k17
  have b17 := F17.binds (ps := ["wires"]) fun _ _ _ _ _ _ us hl => match us, hl with | [_], _ => rfl
  have m17 := PySem.W.mg_of X G a17
  have F18 := fun_mk (st := st_ratio) l18 c18 k18
  have b18 := F18.binds (ps := ["numerator", "denominator"]) fun _ _ _ _ _ _ us hl => match us, hl with | [_, _], _ => rfl
  have m18 := PySem.W.mg_of X G a18
  have F19 := fun_mk (st := st_ring_bound) l19 c19 k19
  have b19 := F19.binds (ps := ["delays", "wires"]) fun _ _ _ _ _ _ us hl => match us, hl with | [_, _], _ => rfl
  have m19 := PySem.W.mg_of X G a19
  have F20 := fun_mk (st := st_law) l20 c20 k20
  have b20 := F20.binds (ps := ["script"]) fun _ _ _ _ _ _ us hl => match us, hl with | [_], _ => rfl
  have m20 := PySem.W.mg_of X G a20
  have F21 := fun_mk (st := st_wrong_index) l21 c21 k21
  have b21 := F21.binds (ps := ["values", "is_right"]) fun _ _ _ _ _ _ us hl => match us, hl with | [_, _], _ => rfl
  have m21 := PySem.W.mg_of X G a21
  have e := hfa.symm.trans m20
  cases e
  obtain ⟨⟨c_law, P_law⟩, ht1_law⟩ := Option.isSome_iff_exists.mp ht0_law
  obtain ⟨⟨c_check_circuit, P_check_circuit⟩, ht1_check_circuit⟩ := Option.isSome_iff_exists.mp ht0_check_circuit
  have ecd_check_circuit : cd10 = .ref c_check_circuit := PySem.W.law_code X G ht1_check_circuit m10 (X _ _ l10) rfl
  subst ecd_check_circuit
  refine ⟨PySem.W.fnOf "law" "law" (defArgs st_law) (defBody st_law) (defScope st_law) .none kV20 dc20 pm20 an20 (cd20) ct20, fun m hm => ?_, hK0, fun s v => .of_eq rfl, fun base hK hB TBs => ?_⟩
  · simp only [makers, List.mem_cons, List.not_mem_nil, or_false] at hm
    rcases hm with rfl | rfl | rfl | rfl | rfl | rfl | rfl | rfl | rfl | rfl | rfl | rfl | rfl | rfl | rfl | rfl | rfl | rfl | rfl | rfl | rfl | rfl
    · exact .inl rfl
    · exact .inr hn0_check_nets
    · exact .inr hn0_check_rules
    · exact .inr hn0_check_circuit
    · exact .inr hn0_tight_row
    · exact .inr hn0_better_side
    · exact .inr hn0_pushing_row
    · exact .inr hn0_pusher_of
    · exact .inr hn0_best_bush
    · exact .inr hn0_bush_upon
    · exact .inr hn0_host_of
    · exact .inr hn0_spread
    · exact .inr hn0_floor_options
    · exact .inr hn0_placed_floor
    · exact .inr hn0_least_option
    · exact .inr hn0_best_word
    · exact .inr hn0_best_topology
    · exact .inr hn0_names_for
    · exact .inr hn0_least_length
    · exact .inr hn0_least_width
    · exact .inr hn0_fewest_bends
    · exact .inr hn0_two_layers
  have TB_law := TBs ("law", "law.<locals>.<lambda>") (by decide +kernel) c_law P_law ht1_law
  have TB_check_circuit := TBs ("check_circuit", "check_circuit.<locals>.<lambda>") (by decide +kernel) c_check_circuit P_check_circuit ht1_check_circuit
  have FI_BadCircuit := fun_mk (st := st_init_BadCircuit) xil_BadCircuit xic_BadCircuit xik_BadCircuit
  have bI_BadCircuit := FI_BadCircuit.binds (ps := ["self", "index"]) fun _ _ _ _ _ _ us hl => match us, hl with | [_, _], _ => rfl
  have own_BadCircuit : OwnE l.prog w ⟨K, mg, none⟩ base 1 "BadCircuit" "index" := ⟨C_BadCircuit, fI_BadCircuit, _, _, PySem.W.mg_of X G xa_BadCircuit, ⟨⟨_, _, _, _, _, _, _, _, _, _, _, _, _, _, _, xl_BadCircuit, rfl⟩, xsa_BadCircuit, xs_BadCircuit, xt_BadCircuit, xp_BadCircuit⟩, xf_BadCircuit, xi_BadCircuit, xit_BadCircuit, bI_BadCircuit, fn_init (G := ⟨K, mg, none⟩) (k := 0) FI_BadCircuit sc_init_BadCircuit rfl⟩
  have XC_BadCircuit : ExcC K C_BadCircuit := ⟨xg_BadCircuit, xk_BadCircuit, xs_BadCircuit, xd_BadCircuit, xc_BadCircuit, xn, xu, xm_BadCircuit⟩
  have tab : XTab K mg xtab := ⟨fun y t b h C hC => by
    unfold xtab at h
    split at h
    · rename_i hy; subst hy; obtain rfl : C_BadCircuit = C := by (have z := (PySem.W.mg_of X G xa_BadCircuit).symm.trans hC; cases z; rfl)
      refine ⟨XC_BadCircuit, ?_⟩
      cases h
    cases h⟩
  have fld : XFld K mg xfld := ⟨fun y f h C hC => by
    unfold xfld at h
    split at h
    · rename_i hy; subst hy; obtain rfl : C_BadCircuit = C := by (have z := (PySem.W.mg_of X G xa_BadCircuit).symm.trans hC; cases z; rfl)
      obtain rfl := of_decide_eq_true h
      exact ⟨⟨xg_BadCircuit, xk_BadCircuit, xs_BadCircuit, xd_BadCircuit⟩, xf_BadCircuit⟩
    cases h⟩
  have EX : Exs l.prog w K mg base := { own_BadCircuit := own_BadCircuit, tab := tab, fld := fld }
  have D__law_taken := ok__law_taken (base := base) (P := l.prog) (w := w) B F0 m0 b0
  have D__law_pick := ok__law_pick (base := base) (P := l.prog) (w := w) B D__law_taken F1 m1 b1
  have D__law_circuit := ok__law_circuit (base := base) (P := l.prog) (w := w) B D__law_pick D__law_taken F2 m2 b2
  have D_is_tuple_of := ok_is_tuple_of (base := base) (P := l.prog) (w := w) B F3 m3 b3
  have D_is_integer := ok_is_integer (base := base) (P := l.prog) (w := w) B F4 m4 b4
  have D_is_between := ok_is_between (base := base) (P := l.prog) (w := w) B D_is_integer F5 m5 b5
  have D_is_wire := ok_is_wire (base := base) (P := l.prog) (w := w) B K_MOST_REGISTERS D_is_tuple_of D_is_between F6 m6 b6
  have D_bare_pairs := ok_bare_pairs (base := base) (P := l.prog) (w := w) B F7 m7 b7
  have D_free_gates := ok_free_gates (base := base) (P := l.prog) (w := w) B F8 m8 b8
  have D_in_order := ok_in_order (base := base) (P := l.prog) (w := w) B D_bare_pairs D_free_gates F9 m9 b9
  have D_check_circuit := ok_check_circuit (base := base) (P := l.prog) (w := w) B EX K_MOST_GATES K_LONGEST_DELAY K_MOST_WIRES D_is_tuple_of D_is_between D_is_wire D_in_order TB_check_circuit ht1_check_circuit hok0 F21 m21 b21 l10 c10 k10 m10 b10
  have D_arrivals := ok_arrivals (base := base) (P := l.prog) (w := w) B D_bare_pairs D_in_order F11 m11 b11
  have D_with_lags := ok_with_lags (base := base) (P := l.prog) (w := w) B F12 m12 b12
  have D_least_lags := ok_least_lags (base := base) (P := l.prog) (w := w) B D_arrivals D_with_lags F13 m13 b13
  have D_least_period := ok_least_period (base := base) (P := l.prog) (w := w) B D_check_circuit D_arrivals D_least_lags D_with_lags F14 m14 b14
  have D_period := ok_period (base := base) (P := l.prog) (w := w) B D_check_circuit D_arrivals F15 m15 b15
  have D_rings_of := ok_rings_of (base := base) (P := l.prog) (w := w) B F16 m16 b16
  have D_fewest_registers := ok_fewest_registers (base := base) (P := l.prog) (w := w) B hkf F17 m17 b17
  have D_ratio := ok_ratio (base := base) (P := l.prog) (w := w) B I_gcd F18 m18 b18
  have D_ring_bound := ok_ring_bound (base := base) (P := l.prog) (w := w) B D_check_circuit D_rings_of D_fewest_registers D_ratio F19 m19 b19
  exact law_fn (G := ⟨K, mg, none⟩) (ok_law B D__law_circuit D_least_period D_period D__law_taken D_ring_bound F20 m20 b20) hlaw
end Pr
open PySem PySem.W PyProof.Rows
set_option maxRecDepth 100000 in
set_option maxHeartbeats 0 in
theorem PySem.Challenge.cw_chipfloor_k93_whole_more_registers_holds : PySem.Challenge.rw_chipfloor_k93_whole_more_registers.Holds := by
  w_on; o_law; k_head; (case hw => w_witness2)
  k_fill
  refine DL.walk (ts := _) (l := PySem.Challenge.rw_chipfloor_k93_whole_more_registers) (k := 10) rfl rfl ⟨rfl, by decide, by decide⟩ (fun w h Y => PySem.W.km_in_of Y) (fun w h Y => PySem.W.km_tabs_of Y) rfl ?F
  case F =>
    intro w mg fa h KX G hmg
    refine' Pr.all_mk KX G hmg ?ht0_law ?ht0_check_circuit ?hn0_check_nets ?hn0_check_rules ?hn0_check_circuit ?hn0_tight_row ?hn0_better_side ?hn0_pushing_row ?hn0_pusher_of ?hn0_best_bush ?hn0_bush_upon ?hn0_host_of ?hn0_spread ?hn0_floor_options ?hn0_placed_floor ?hn0_least_option ?hn0_best_word ?hn0_best_topology ?hn0_names_for ?hn0_least_length ?hn0_least_width ?hn0_fewest_bends ?hn0_two_layers ?hK0 ?hok0 ?hkf ?a0 ?l0 ?c0 ?k0 ?a1 ?l1 ?c1 ?k1 ?a2 ?l2 ?c2 ?k2 ?a3 ?l3 ?c3 ?k3 ?a4 ?l4 ?c4 ?k4 ?a5 ?l5 ?c5 ?k5 ?a6 ?l6 ?c6 ?k6 ?a7 ?l7 ?c7 ?k7 ?a8 ?l8 ?c8 ?k8 ?a9 ?l9 ?c9 ?k9 ?a10 ?l10 ?c10 ?k10 ?a11 ?l11 ?c11 ?k11 ?a12 ?l12 ?c12 ?k12 ?a13 ?l13 ?c13 ?k13 ?a14 ?l14 ?c14 ?k14 ?a15 ?l15 ?c15 ?k15 ?a16 ?l16 ?c16 ?k16 ?a17 ?l17 ?c17 ?k17 ?a18 ?l18 ?c18 ?k18 ?a19 ?l19 ?c19 ?k19 ?a20 ?l20 ?c20 ?k20 ?a21 ?l21 ?c21 ?k21 ?i_gcd ?z_all ?z_any ?z_bool ?z_enumerate ?z_int ?z_isinstance ?z_len ?z_list ?z_max ?z_min ?z_range ?z_sum ?z_tuple ?z_zip ?y_LONGEST_DELAY ?y_MOST_GATES ?y_MOST_REGISTERS ?y_MOST_WIRES ?xa_BadCircuit ?xg_BadCircuit ?xk_BadCircuit ?xs_BadCircuit ?xd_BadCircuit ?xc_BadCircuit ?xm_BadCircuit ?xt_BadCircuit ?xp_BadCircuit ?xn ?xu ?xl_BadCircuit ?xsa_BadCircuit ?xf_BadCircuit ?xi_BadCircuit ?xit_BadCircuit ?xil_BadCircuit ?xic_BadCircuit ?xik_BadCircuit Pr.law_true
    (case ht0_law => kernel_rfl)
    (case ht0_check_circuit => kernel_rfl)
    (case hn0_check_nets => kernel_rfl)
    (case hn0_check_rules => kernel_rfl)
    (case hn0_check_circuit => kernel_rfl)
    (case hn0_tight_row => kernel_rfl)
    (case hn0_better_side => kernel_rfl)
    (case hn0_pushing_row => kernel_rfl)
    (case hn0_pusher_of => kernel_rfl)
    (case hn0_best_bush => kernel_rfl)
    (case hn0_bush_upon => kernel_rfl)
    (case hn0_host_of => kernel_rfl)
    (case hn0_spread => kernel_rfl)
    (case hn0_floor_options => kernel_rfl)
    (case hn0_placed_floor => kernel_rfl)
    (case hn0_least_option => kernel_rfl)
    (case hn0_best_word => kernel_rfl)
    (case hn0_best_topology => kernel_rfl)
    (case hn0_names_for => kernel_rfl)
    (case hn0_least_length => kernel_rfl)
    (case hn0_least_width => kernel_rfl)
    (case hn0_fewest_bends => kernel_rfl)
    (case hn0_two_layers => kernel_rfl)
    (case hK0 => kernel_rfl)
    (case hok0 => kernel_rfl)
    (case hkf => kernel_rfl)
    (case a0 => k_is)
    (case l0 => k_is)
    (case c0 => k_is)
    (case k0 => k_is)
    (case a1 => k_is)
    (case l1 => k_is)
    (case c1 => k_is)
    (case k1 => k_is)
    (case a2 => k_is)
    (case l2 => k_is)
    (case c2 => k_is)
    (case k2 => k_is)
    (case a3 => k_is)
    (case l3 => k_is)
    (case c3 => k_is)
    (case k3 => k_is)
    (case a4 => k_is)
    (case l4 => k_is)
    (case c4 => k_is)
    (case k4 => k_is)
    (case a5 => k_is)
    (case l5 => k_is)
    (case c5 => k_is)
    (case k5 => k_is)
    (case a6 => k_is)
    (case l6 => k_is)
    (case c6 => k_is)
    (case k6 => k_is)
    (case a7 => k_is)
    (case l7 => k_is)
    (case c7 => k_is)
    (case k7 => k_is)
    (case a8 => k_is)
    (case l8 => k_is)
    (case c8 => k_is)
    (case k8 => k_is)
    (case a9 => k_is)
    (case l9 => k_is)
    (case c9 => k_is)
    (case k9 => k_is)
    (case a10 => k_is)
    (case l10 => k_is)
    (case c10 => k_is)
    (case k10 => k_is)
    (case a11 => k_is)
    (case l11 => k_is)
    (case c11 => k_is)
    (case k11 => k_is)
    (case a12 => k_is)
    (case l12 => k_is)
    (case c12 => k_is)
    (case k12 => k_is)
    (case a13 => k_is)
    (case l13 => k_is)
    (case c13 => k_is)
    (case k13 => k_is)
    (case a14 => k_is)
    (case l14 => k_is)
    (case c14 => k_is)
    (case k14 => k_is)
    (case a15 => k_is)
    (case l15 => k_is)
    (case c15 => k_is)
    (case k15 => k_is)
    (case a16 => k_is)
    (case l16 => k_is)
    (case c16 => k_is)
    (case k16 => k_is)
    (case a17 => k_is)
    (case l17 => k_is)
    (case c17 => k_is)
    (case k17 => k_is)
    (case a18 => k_is)
    (case l18 => k_is)
    (case c18 => k_is)
    (case k18 => k_is)
    (case a19 => k_is)
    (case l19 => k_is)
    (case c19 => k_is)
    (case k19 => k_is)
    (case a20 => k_is)
    (case l20 => k_is)
    (case c20 => k_is)
    (case k20 => k_is)
    (case a21 => k_is)
    (case l21 => k_is)
    (case c21 => k_is)
    (case k21 => k_is)
    (case i_gcd => k_is)
    (case z_all => k_is)
    (case z_any => k_is)
    (case z_bool => k_is)
    (case z_enumerate => k_is)
    (case z_int => k_is)
    (case z_isinstance => k_is)
    (case z_len => k_is)
    (case z_list => k_is)
    (case z_max => k_is)
    (case z_min => k_is)
    (case z_range => k_is)
    (case z_sum => k_is)
    (case z_tuple => k_is)
    (case z_zip => k_is)
    (case y_LONGEST_DELAY => k_is)
    (case y_MOST_GATES => k_is)
    (case y_MOST_REGISTERS => k_is)
    (case y_MOST_WIRES => k_is)
    (case xa_BadCircuit => k_is)
    (case xg_BadCircuit => k_is)
    (case xk_BadCircuit => k_is)
    (case xs_BadCircuit => k_is)
    (case xd_BadCircuit => k_is)
    (case xc_BadCircuit => k_is)
    (case xm_BadCircuit => k_is)
    (case xt_BadCircuit => k_is)
    (case xp_BadCircuit => k_is)
    (case xn => k_is)
    (case xu => k_is)
    (case xl_BadCircuit => k_is)
    (case xsa_BadCircuit => k_is)
    (case xf_BadCircuit => k_is)
    (case xi_BadCircuit => k_is)
    (case xit_BadCircuit => k_is)
    (case xil_BadCircuit => k_is)
    (case xic_BadCircuit => k_is)
    (case xik_BadCircuit => k_is)
