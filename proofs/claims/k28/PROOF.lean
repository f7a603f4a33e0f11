import PyProof.Rows.All
import Wide.All
import OpenK.AllK
import Wide.FinOn
import HandS.ForMost
import HandS.IsInst
import HandS.TupAny
import HandS.TupMul
import HandS.CallLocal
import HandS.Conv
import HandS.Zip
import HandS.Style
import HandS.Deep
import HandS.Exc
import HandS.TryOnly
import HandS.WordsExc
import HandS.Lambda
import KE.GoesMore
import KE.GoesEnum
import HandS.EndTab
import HandS.SortInts
import KE.KSortedM
import HandS.ExcInit
import HandS.ExcOwn
import HandS.ExcField
import HandS.ExcIs
import KE.KExcIs
import HandS.FStr
import HandS.RaiseMore
import HandS.Gcd
import HandS.Struct
import KE.RegKIsAll
import PySem.Challenge.RW_chipfloor_k28_whole_clocks
set_option Elab.async false
set_option linter.all false
set_option maxRecDepth 100000
set_option autoImplicit false
/-! The layer of data: values without addresses, mutable lists as numbered cells of a store, a program's defs as Lean functions of data. -/
namespace DL
open PySem PySem.Spec PyProof.Rows L2

/-- a value without addresses; fn: a def of the module, by its name -/
inductive D where
  | non | bl (b : Bool) | int (i : Int) | str (x : Str) | tup (ds : List D) | lst (ds : List D) | rol (ds : List D) | fn (n : Str)
/-- an exception: its class's name, its one field -/
structure Exn where
  cls : Str
  arg : Option (Str × D)
/-- what a slot holds: a value, a cell of the store (a list that is changed), a caught exception -/
inductive EV where
  | v (d : D) | cel (n : Nat) | exn (x : Exn)
inductive Cell where
  | lst (ds : List D)
abbrev Env := List (Option EV)
abbrev Store := List (Option Cell)
inductive Out (α : Type) where
  | ok (a : α) (S : Store) | ex (x : Exn) (S : Store) | bad
def Out.bind {α β : Type} (o : Out α) (k : α → Store → Out β) : Out β := match o with
  | .ok a S => k a S
  | .ex x S => .ex x S
  | .bad => .bad
inductive Ctl where
  | nx | rt (d : D) | bk | ct | ex (x : Exn)
abbrev DEn := Env → Store → Out D
abbrev DTn := Env → Store → Out Bool
abbrev DAn := Env → Store → Out (List EV)
abbrev DSn := Env → Store → Out (Ctl × Env)
abbrev Den := List EV → Store → Out D

/-- the written part and the module's names -/
structure Gd where
  K : PySem.W.Frag
  mg : Str → Option Value
  xi : Option (Addr × Value × Option Addr)
mutual
inductive Rep (G : Gd) (HF : Hp) : V → D → Prop
  | non : Rep G HF .non .non
  | bl (b : Bool) : Rep G HF (.bl b) (.bl b)
  | int (i : Int) : Rep G HF (.int i) (.int i)
  | str (x : Str) : Rep G HF (.str x) (.str x)
  | tup {a : Addr} {xs : List V} {ds : List D} : SqT G.K HF a xs → Reps G HF xs ds → Rep G HF (.ref a) (.tup ds)
  | lst {a : Addr} {xs : List V} {ds : List D} : HF a = some (.lst xs) → Reps G HF xs ds → Rep G HF (.ref a) (.lst ds)
  | rol {a : Addr} {xs : List V} {ds : List D} : SqL G.K HF a xs → Reps G HF xs ds → Rep G HF (.ref a) (.rol ds)
  | fn {a : Addr} {n : Str} : G.mg n = some (.ref a) → Rep G HF (.ref a) (.fn n)
inductive Reps (G : Gd) (HF : Hp) : List V → List D → Prop
  | nil : Reps G HF [] []
  | cons {v : V} {vs : List V} {d : D} {ds : List D} : Rep G HF v d → Reps G HF vs ds → Reps G HF (v :: vs) (d :: ds)
end
theorem Rd.mono {H H' : Hp} {a : Addr} {u : HO} (e : Same H H') (h : Rd H a u) : Rd H' a u := by
  rcases h with h | ⟨o, h⟩
  · exact .inl (e _ _ h)
  · exact .inr ⟨o, e _ _ h⟩
theorem SqT.mono {K : PySem.W.Frag} {H H' : Hp} {a : Addr} {xs : List V} (e : Same H H') (h : SqT K H a xs) : SqT K H' a xs := by
  rcases h with h | h
  · exact .inl (Rd.mono e h)
  · exact .inr h
mutual
theorem Rep.mono {G : Gd} {H H' : Hp} (e : Same H H') : ∀ {d : D} {v : V}, Rep G H v d → Rep G H' v d
  | .non, _, h => by cases h; exact .non
  | .bl _, _, h => by cases h; exact .bl _
  | .int _, _, h => by cases h; exact .int _
  | .str _, _, h => by cases h; exact .str _
  | .tup ds, _, h => by
    cases h with
    | tup hs hr => exact .tup (SqT.mono e hs) (Reps.mono e hr)
  | .lst ds, _, h => by
    cases h with
    | lst hs hr => exact .lst (e _ _ hs) (Reps.mono e hr)
  | .rol ds, _, h => by
    cases h with
    | rol hs hr => exact .rol (e.seq hs) (Reps.mono e hr)
  | .fn _, _, h => by
    cases h with
    | fn hs => exact .fn hs
theorem Reps.mono {G : Gd} {H H' : Hp} (e : Same H H') : ∀ {ds : List D} {vs : List V}, Reps G H vs ds → Reps G H' vs ds
  | [], _, h => by cases h; exact .nil
  | d :: ds, _, h => by
    cases h with
    | cons h1 h2 => exact .cons (Rep.mono e h1) (Reps.mono e h2)
end
section
variable {G : Gd} {H : Hp}
theorem Reps.length : ∀ {ds : List D} {vs : List V}, Reps G H vs ds → vs.length = ds.length
  | [], _, h => by cases h; rfl
  | d :: ds, _, h => by
    cases h with
    | cons h1 h2 => simp [Reps.length h2]
theorem Reps.get : ∀ {ds : List D} {vs : List V} {i : Nat} {d : D}, Reps G H vs ds → ds[i]? = some d → ∃ v, vs[i]? = some v ∧ Rep G H v d
  | [], _, _, _, _, e => by simp at e
  | d :: ds, _, 0, _, h, e => by
    cases h with
    | cons h1 h2 => simp at e; subst e; exact ⟨_, rfl, h1⟩
  | d :: ds, _, i + 1, _, h, e => by
    cases h with
    | cons h1 h2 =>
      obtain ⟨v, e1, r⟩ := Reps.get (i := i) h2 (by simpa using e)
      exact ⟨v, by simpa using e1, r⟩
theorem Reps.get' : ∀ {ds : List D} {vs : List V} {i : Nat} {v : V}, Reps G H vs ds → vs[i]? = some v → ∃ d, ds[i]? = some d ∧ Rep G H v d := by
  intro ds vs i v h e
  have hl := h.length
  have hi : i < ds.length := by rw [← hl]; exact (List.getElem?_eq_some_iff.mp e).1
  obtain ⟨v', e', r⟩ := h.get (List.getElem?_eq_getElem hi)
  rw [e] at e'; cases e'
  exact ⟨_, List.getElem?_eq_getElem hi, r⟩
theorem Reps.append : ∀ {ds es : List D} {vs ws : List V}, Reps G H vs ds → Reps G H ws es → Reps G H (vs ++ ws) (ds ++ es)
  | [], _, _, _, h, k => by cases h; exact k
  | d :: ds, _, _, _, h, k => by
    cases h with
    | cons h1 h2 => exact .cons h1 (Reps.append h2 k)
theorem Reps.take : ∀ {ds : List D} {vs : List V} (n : Nat), Reps G H vs ds → Reps G H (vs.take n) (ds.take n)
  | _, _, 0, _ => .nil
  | [], _, n + 1, h => by cases h; exact .nil
  | d :: ds, _, n + 1, h => by
    cases h with
    | cons h1 h2 => exact .cons h1 (Reps.take n h2)
theorem Reps.drop : ∀ {ds : List D} {vs : List V} (n : Nat), Reps G H vs ds → Reps G H (vs.drop n) (ds.drop n)
  | _, _, 0, h => h
  | [], _, n + 1, h => by cases h; exact .nil
  | d :: ds, _, n + 1, h => by
    cases h with
    | cons h1 h2 => exact Reps.drop n h2
theorem Reps.set : ∀ {ds : List D} {vs : List V} {v : V} {d : D} (n : Nat), Reps G H vs ds → Rep G H v d → Reps G H (vs.set n v) (ds.set n d)
  | [], _, _, _, _, h, _ => by cases h; exact .nil
  | d :: ds, _, _, _, 0, h, r => by
    cases h with
    | cons h1 h2 => exact .cons r h2
  | d :: ds, _, _, _, n + 1, h, r => by
    cases h with
    | cons h1 h2 => exact .cons h1 (Reps.set n h2 r)
theorem Reps.erase : ∀ {ds : List D} {vs : List V} (n : Nat), Reps G H vs ds → Reps G H (vs.eraseIdx n) (ds.eraseIdx n)
  | [], _, _, h => by cases h; exact .nil
  | d :: ds, _, 0, h => by
    cases h with
    | cons h1 h2 => exact h2
  | d :: ds, _, n + 1, h => by
    cases h with
    | cons h1 h2 => exact .cons h1 (Reps.erase n h2)
theorem Reps.reverse : ∀ {ds : List D} {vs : List V}, Reps G H vs ds → Reps G H vs.reverse ds.reverse
  | [], _, h => by cases h; exact .nil
  | d :: ds, _, h => by
    cases h with
    | cons h1 h2 =>
      simp only [List.reverse_cons]
      exact Reps.append (Reps.reverse h2) (.cons h1 .nil)
theorem Reps.dropLast {ds : List D} {vs : List V} (h : Reps G H vs ds) : Reps G H vs.dropLast ds.dropLast := by
  rw [List.dropLast_eq_take, List.dropLast_eq_take, h.length]
  exact h.take _
end

/-- an exception in the heap: its class, its dict -/
def ExRep (G : Gd) (x : Exn) (HF : Hp) (cls : Value) (dd : Option Addr) : Prop :=
  ∃ C, G.mg x.cls = some (.ref C) ∧ cls = .ref C ∧ match x.arg with
    | none => dd = none
    | some (f, d) => ∃ a v, dd = some a ∧ HF a = some (.xd [(f, v)]) ∧ Rep G HF v d
theorem ExRep.mono {G : Gd} {H H' : Hp} {x : Exn} {cls : Value} {dd : Option Addr} (e : Same H H') (h : ExRep G x H cls dd) : ExRep G x H' cls dd := by
  obtain ⟨C, h1, h2, h3⟩ := h
  refine ⟨C, h1, h2, ?_⟩
  cases q : x.arg with
  | none => rw [q] at h3; exact h3
  | some p =>
    rw [q] at h3
    obtain ⟨a, v, k1, k2, k3⟩ := h3
    exact ⟨a, v, k1, e _ _ k2, Rep.mono e k3⟩
def CellAt (G : Gd) (H HF : Hp) (a : Addr) : Cell → Prop
  | .lst ds => ∃ vs, H a = some (.lst vs) ∧ Reps G HF vs ds
theorem CellAt.up {G : Gd} {H HF H' HF' : Hp} {a : Addr} {c : Cell} (h : CellAt G H HF a c) (ha : H' a = H a) (hf : Same HF HF') : CellAt G H' HF' a c := by
  cases c with
  | lst ds =>
    obtain ⟨vs, q3, q4⟩ := h
    exact ⟨vs, by rw [ha]; exact q3, q4.mono hf⟩
/-- no table of code objects -/
def Nt (o : HO) : Prop := ∀ ps, o ≠ .tbl ps
/-- the kinds of objects that a numbered cell may be -/
def HMut : HO → Prop
  | .lst _ => True
  | .dK _ => True
  | .dT _ => True
  | _ => False
theorem HMut.nt {o : HO} (h : HMut o) : Nt o := fun ps e => by subst e; exact h
/-- how the law's lambdas are called -/
def lamq : Str := "law.<locals>.<lambda>"
/-- the table of the law's code object: it tells code objects of lambdas alone -/
def TabG (G : Gd) (H HF : Hp) : Prop := ∃ c P, PySem.W.tabIn G.K "law" = some (c, P) ∧ ∃ ps : Array Value, H P = some (.tbl ps) ∧ TriplesOk ps.toList ∧ ∀ (pos : Pos) (cv : Value), codeAmong pos ps.toList = some cv → ∃ c, cv = .ref c ∧ HF c = some (LamX.CodeO c lamq)
theorem TabG.up {G : Gd} {H HF H' HF' : Hp} (h : TabG G H HF) (ha : ∀ b ps, H b = some (.tbl ps) → H' b = some (.tbl ps)) (hf : Same HF HF') : TabG G H' HF' := by
  obtain ⟨c, P, e, ps, q1, q2, q3⟩ := h
  refine ⟨c, P, e, ps, ha _ _ q1, q2, fun pos cv hc => ?_⟩
  obtain ⟨c, e1, e2⟩ := q3 pos cv hc
  exact ⟨c, e1, hf _ _ e2⟩
def RepE (G : Gd) (HF : Hp) (L : List Addr) (v : V) : EV → Prop
  | .v d => Rep G HF v d
  | .cel n => ∃ a, L[n]? = some a ∧ v = .ref a
  | .exn x => ∃ a cls dd, G.xi = some (a, cls, dd) ∧ v = .ref a ∧ ExRep G x HF cls dd
/-- the heap H, its part HF that never changes, the cells at L, the slots -/
structure Rel (G : Gd) (H HF : Hp) (L : List Addr) (σ : L2.St) (ρ : Env) (S : Store) : Prop where
  sub : Same HF H
  nd : L.Nodup
  sl : S.length = L.length
  liv : ∀ a ∈ L, ∃ o, H a = some o ∧ HMut o
  tab : TabG G H HF
  nft : ∀ b ps, HF b ≠ some (.tbl ps)
  cell : ∀ (n : Nat) (a : Addr) (c : Cell), L[n]? = some a → S[n]? = some (some c) → HF a = none ∧ CellAt G H HF a c
  el : σ.length = ρ.length
  env : ∀ (i : Nat) (e : EV), ρ[i]? = some (some e) → ∃ v, σ[i]? = some (some v) ∧ RepE G HF L v e
structure Step (H HF : Hp) (L : List Addr) (H' HF' : Hp) (L' : List Addr) : Prop where
  keep : ∀ b o, b ∉ L → Nt o → H b = some o → H' b = some o
  nn : ∀ b o, Nt o → H b = some o → ∃ o', Nt o' ∧ H' b = some o'
  fro : Same HF HF'
  new : ∀ a o, a ∉ L → HF a = none → HMut o → H a = some o → HF' a = none
  ext : ∃ M, L' = L ++ M ∧ ∀ a ∈ M, ∀ o, Nt o → H a ≠ some o
theorem Step.refl {H HF : Hp} {L : List Addr} : Step H HF L H HF L := ⟨fun _ _ _ _ e => e, fun _ o n e => ⟨o, n, e⟩, Same.refl _, fun _ _ _ e _ _ => e, [], by simp, by simp⟩
theorem Step.trans {H HF H1 HF1 H2 HF2 : Hp} {L L1 L2 : List Addr} (a : Step H HF L H1 HF1 L1) (b : Step H1 HF1 L1 H2 HF2 L2) : Step H HF L H2 HF2 L2 := by
  obtain ⟨M1, e1, n1⟩ := a.ext
  obtain ⟨M2, e2, n2⟩ := b.ext
  have out : ∀ c o, c ∉ L → Nt o → H c = some o → c ∉ L1 := fun c o hc nt hn hm => by
    rw [e1] at hm
    rcases List.mem_append.mp hm with z | z
    · exact hc z
    · exact n1 c z o nt hn
  refine ⟨fun c o hc nt e => ?_, fun c o nt e => (let ⟨o1, nt1, e1⟩ := a.nn c o nt e; b.nn c o1 nt1 e1), a.fro.trans b.fro, fun c o hc e nt n => ?_, M1 ++ M2, by rw [e2, e1, List.append_assoc], fun c hc o nt => ?_⟩
  · exact b.keep c o (out c o hc nt e) nt (a.keep c o hc nt e)
  · exact b.new c o (out c o hc nt.nt n) (a.new c o hc e nt n) nt (a.keep c o hc nt.nt n)
  · rcases List.mem_append.mp hc with z | z
    · exact n1 c z o nt
    · intro q
      obtain ⟨o1, nt1, q1⟩ := a.nn c o nt q
      exact n2 c z o1 nt1 q1
theorem Step.lget {H HF H' HF' : Hp} {L L' : List Addr} (a : Step H HF L H' HF' L') {n : Nat} {x : Addr} (h : L[n]? = some x) : L'[n]? = some x := by
  obtain ⟨M, e, _⟩ := a.ext
  rw [e, List.getElem?_append_left (List.getElem?_eq_some_iff.mp h).1]
  exact h
theorem RepE.mono {G : Gd} {H HF H' HF' : Hp} {L L' : List Addr} (a : Step H HF L H' HF' L') : ∀ {e : EV} {v : V}, RepE G HF L v e → RepE G HF' L' v e
  | .v _, _, h => Rep.mono a.fro h
  | .cel _, _, ⟨x, h1, h2⟩ => ⟨x, a.lget h1, h2⟩
  | .exn _, _, ⟨b, cls, dd, h1, h2, h3⟩ => ⟨b, cls, dd, h1, h2, h3.mono a.fro⟩
/-- the argument list's representation -/
inductive RepEs (G : Gd) (HF : Hp) (L : List Addr) : List V → List EV → Prop
  | nil : RepEs G HF L [] []
  | cons {v : V} {vs : List V} {d : EV} {ds : List EV} : RepE G HF L v d → RepEs G HF L vs ds → RepEs G HF L (v :: vs) (d :: ds)
theorem RepEs.mono {G : Gd} {H HF H' HF' : Hp} {L L' : List Addr} (a : Step H HF L H' HF' L') : ∀ {es : List EV} {vs : List V}, RepEs G HF L vs es → RepEs G HF' L' vs es
  | [], _, h => by cases h; exact .nil
  | e :: es, _, h => by
    cases h with
    | cons h1 h2 => exact .cons (RepE.mono a h1) (RepEs.mono a h2)
theorem RepEs.length {G : Gd} {HF : Hp} {L : List Addr} : ∀ {es : List EV} {vs : List V}, RepEs G HF L vs es → vs.length = es.length
  | [], _, h => by cases h; rfl
  | d :: ds, _, h => by
    cases h with
    | cons h1 h2 => simp [RepEs.length h2]

section
variable {G : Gd} {H HF : Hp} {L : List Addr} {σ : L2.St} {ρ : Env} {S : Store}
theorem Rel.live (R : Rel G H HF L σ ρ S) {a : Addr} (ha : a ∈ L) : H a ≠ none := by
  obtain ⟨o, e, _⟩ := R.liv a ha
  rw [e]; simp
theorem Rel.out (R : Rel G H HF L σ ρ S) {p : Addr} (hp : H p = none) : p ∉ L := fun z => R.live z hp
theorem nft_upd {HF : Hp} {p : Addr} {o : HO} (h : ∀ b ps, HF b ≠ some (.tbl ps)) (ho : Nt o) : ∀ b ps, upd HF p o b ≠ some (.tbl ps) := fun b ps e => by
  by_cases hb : b = p
  · subst hb; rw [upd_same] at e; cases e; exact ho _ rfl
  · rw [upd_ne hb] at e; exact h b ps e
theorem nt_new {p : Addr} {o : HO} (hp : H p = none) : ∀ b ps, H b = some (.tbl ps) → upd H p o b = some (.tbl ps) := fun b ps e => by rw [upd_ne (ne_of_none e hp)]; exact e
theorem nt_upd {p : Addr} {o u : HO} (hp : H p = some u) (hn : Nt u) : ∀ b ps, H b = some (.tbl ps) → upd H p o b = some (.tbl ps) := fun b ps e => by
  have ne : b ≠ p := fun z => by rw [z, hp] at e; cases e; exact hn _ rfl
  rw [upd_ne ne]; exact e
theorem nn_upd {p : Addr} {o : HO} (ho : Nt o) : ∀ b u, Nt u → H b = some u → ∃ o', Nt o' ∧ upd H p o b = some o' := fun b u nu e => by
  by_cases hb : b = p
  · subst hb; exact ⟨o, ho, upd_same⟩
  · exact ⟨u, nu, by rw [upd_ne hb]; exact e⟩
theorem Rel.hf (R : Rel G H HF L σ ρ S) {p : Addr} (hp : H p = none) : HF p = none := by
  cases q : HF p with
  | none => rfl
  | some o => rw [R.sub p o q] at hp; cases hp
theorem same_upd {p : Addr} {o : HO} (hp : H p = none) : Same H (upd H p o) := fun b u e => by rw [upd_ne (ne_of_none e hp)]; exact e
/-- a new object that never changes -/
theorem Rel.frozen (R : Rel G H HF L σ ρ S) {p : Addr} {o : HO} (hp : H p = none) (ho : Nt o := by intro _ h; cases h) : Rel G (upd H p o) (upd HF p o) L σ ρ S ∧ Step H HF L (upd H p o) (upd HF p o) L := by
  have hL := R.out hp
  have hF := R.hf hp
  have e : ∀ {n : Nat} {a : Addr}, L[n]? = some a → a ≠ p := fun h z => hL (by rw [← z]; exact List.mem_of_getElem? h)
  refine ⟨⟨fun b u q => ?_, R.nd, R.sl, fun a ha => ?_, R.tab.up (nt_new hp) (same_upd hF), nft_upd R.nft ho, fun n a c h1 h2 => ?_, R.el, fun i x h => ?_⟩, ⟨fun b u _ _ q => same_upd hp b u q, nn_upd ho, same_upd hF, fun a u _ q _ n => ?_, [], by simp, by simp⟩⟩
  · by_cases hb : b = p
    · subst hb; rw [upd_same] at q ⊢; exact q
    · rw [upd_ne hb] at q ⊢; exact R.sub b u q
  · rw [upd_ne (fun z => hL (by rw [← z]; exact ha))]; exact R.liv a ha
  · obtain ⟨q1, q2⟩ := R.cell n a c h1 h2
    have ne := e h1
    exact ⟨by rw [upd_ne ne]; exact q1, q2.up (upd_ne ne) (same_upd hF)⟩
  · obtain ⟨v, q1, q2⟩ := R.env i x h
    refine ⟨v, q1, ?_⟩
    cases x with
    | v d => exact Rep.mono (same_upd hF) q2
    | cel n => exact q2
    | exn x =>
      obtain ⟨b, cls, dd, k1, k2, k3⟩ := q2
      exact ⟨b, cls, dd, k1, k2, k3.mono (same_upd hF)⟩
  · rw [upd_ne (ne_of_none n hp)]; exact q
/-- a new list that will be changed -/
theorem Rel.fresh (R : Rel G H HF L σ ρ S) {p : Addr} {vs : List V} {ds : List D} (hp : H p = none) (hr : Reps G HF vs ds) :
    Rel G (upd H p (.lst vs)) HF (L ++ [p]) σ ρ (S ++ [some (.lst ds)]) ∧ Step H HF L (upd H p (.lst vs)) HF (L ++ [p]) := by
  have hL := R.out hp
  have hF := R.hf hp
  have e : ∀ {n : Nat} {a : Addr}, L[n]? = some a → a ≠ p := fun h z => hL (by rw [← z]; exact List.mem_of_getElem? h)
  refine ⟨⟨R.sub.trans (same_upd hp), ?_, by simp [R.sl], fun a ha => ?_, R.tab.up (nt_new hp) (Same.refl _), R.nft, fun n a c h1 h2 => ?_, R.el, fun i x h => ?_⟩, ⟨fun b u _ _ q => same_upd hp b u q, nn_upd (fun _ h => by cases h), Same.refl _, fun a _ _ q _ _ => q, [p], rfl, fun a ha o _ => by (have : a = p := by simpa using ha); subst this; rw [hp]; simp⟩⟩
  · rw [List.nodup_append]
    refine ⟨R.nd, by simp, fun a ha b hb => ?_⟩
    have : b = p := by simpa using hb
    subst this
    exact fun z => hL (z ▸ ha)
  · rcases List.mem_append.mp ha with z | z
    · rw [upd_ne (fun q => hL (by rw [← q]; exact z))]; exact R.liv a z
    · have : a = p := by simpa using z
      subst this; exact ⟨_, upd_same, trivial⟩
  · by_cases hn : n < L.length
    · rw [List.getElem?_append_left hn] at h1
      rw [List.getElem?_append_left (by rw [R.sl]; exact hn)] at h2
      obtain ⟨q1, q2⟩ := R.cell n a c h1 h2
      exact ⟨q1, q2.up (upd_ne (e h1)) (Same.refl _)⟩
    · have hn' : n = L.length := by
        have := (List.getElem?_eq_some_iff.mp h1).1
        simp at this; omega
      subst hn'
      rw [List.getElem?_append_right (Nat.le_refl _)] at h1
      rw [List.getElem?_append_right (by rw [R.sl]; exact Nat.le_refl _), R.sl] at h2
      simp at h1 h2
      subst h1; subst h2
      exact ⟨hF, vs, upd_same, hr⟩
  · obtain ⟨v, q1, q2⟩ := R.env i x h
    refine ⟨v, q1, ?_⟩
    cases x with
    | v d => exact q2
    | cel n =>
      obtain ⟨a, q3, q4⟩ := q2
      exact ⟨a, by rw [List.getElem?_append_left (List.getElem?_eq_some_iff.mp q3).1]; exact q3, q4⟩
    | exn x => exact q2
theorem nodup_get {α : Type} {l : List α} (hN : l.Nodup) {i j : Nat} {x : α} (a : l[i]? = some x) (b : l[j]? = some x) : i = j := nd_ix hN a b
/-- a cell is written -/
theorem Rel.write (R : Rel G H HF L σ ρ S) {n : Nat} {a : Addr} {c : Cell} {vs : List V} {ds : List D} (h1 : L[n]? = some a) (h2 : S[n]? = some (some c)) (hr : Reps G HF vs ds) :
    Rel G (upd H a (.lst vs)) HF L σ ρ (S.set n (some (.lst ds))) ∧ Step H HF L (upd H a (.lst vs)) HF L := by
  have hm : a ∈ L := List.mem_of_getElem? h1
  have hn : n < L.length := (List.getElem?_eq_some_iff.mp h1).1
  obtain ⟨hF, _⟩ := R.cell n a c h1 h2
  obtain ⟨u0, hu0, hm0⟩ := R.liv a hm
  refine ⟨⟨fun b u q => ?_, R.nd, by simpa using R.sl, fun b hb => ?_, R.tab.up (nt_upd hu0 hm0.nt) (Same.refl _), R.nft, fun k b c' k1 k2 => ?_, R.el, R.env⟩, ⟨fun b u hb _ q => ?_, nn_upd (fun _ h => by cases h), Same.refl _, fun _ _ _ q _ _ => q, [], by simp, by simp⟩⟩
  · rw [upd_ne (ne_of_none q hF)]; exact R.sub b u q
  · by_cases hba : b = a
    · subst hba; exact ⟨_, upd_same, trivial⟩
    · rw [upd_ne hba]; exact R.liv b hb
  · by_cases hk : k = n
    · subst hk
      rw [h1] at k1; cases k1
      rw [List.getElem?_set_self (by rw [R.sl]; exact hn)] at k2
      cases k2
      exact ⟨hF, vs, upd_same, hr⟩
    · rw [List.getElem?_set_ne (Ne.symm hk)] at k2
      obtain ⟨q1, q2⟩ := R.cell k b c' k1 k2
      exact ⟨q1, q2.up (upd_ne (fun z => hk (nodup_get R.nd (by rw [← z]; exact k1) h1))) (Same.refl _)⟩
  · rw [upd_ne (fun z => hb (by rw [z]; exact hm))]; exact q
/-- a cell is given up: from now on it never changes -/
theorem Rel.freeze (R : Rel G H HF L σ ρ S) {n : Nat} {a : Addr} {ds : List D} (h1 : L[n]? = some a) (h2 : S[n]? = some (some (.lst ds))) :
    ∃ HF', Rel G H HF' L σ ρ (S.set n none) ∧ Step H HF L H HF' L ∧ Rep G HF' (.ref a) (.lst ds) := by
  have hm : a ∈ L := List.mem_of_getElem? h1
  have hn : n < L.length := (List.getElem?_eq_some_iff.mp h1).1
  obtain ⟨hF, vs, hv, hr⟩ := R.cell n a _ h1 h2
  refine ⟨upd HF a (.lst vs), ⟨fun b u q => ?_, R.nd, by simpa using R.sl, R.liv, R.tab.up (fun _ _ e => e) (same_upd hF), nft_upd R.nft (fun _ h => by cases h), fun k b c' k1 k2 => ?_, R.el, fun i x h => ?_⟩, ⟨fun _ _ _ _ q => q, fun _ o n q => ⟨o, n, q⟩, same_upd hF, fun b o hb q _ _ => ?_, [], by simp, by simp⟩, .lst upd_same (hr.mono (same_upd hF))⟩
  · by_cases hb : b = a
    · subst hb; rw [upd_same] at q; cases q; exact hv
    · rw [upd_ne hb] at q; exact R.sub b u q
  · by_cases hk : k = n
    · subst hk
      rw [List.getElem?_set_self (by rw [R.sl]; exact hn)] at k2
      cases k2
    · rw [List.getElem?_set_ne (Ne.symm hk)] at k2
      obtain ⟨q1, q2⟩ := R.cell k b c' k1 k2
      have ne : b ≠ a := fun z => hk (nodup_get R.nd (by rw [← z]; exact k1) h1)
      exact ⟨by rw [upd_ne ne]; exact q1, q2.up rfl (same_upd hF)⟩
  · obtain ⟨v, q1, q2⟩ := R.env i x h
    refine ⟨v, q1, ?_⟩
    cases x with
    | v d => exact Rep.mono (same_upd hF) q2
    | cel n => exact q2
    | exn x =>
      obtain ⟨b, cls, dd, k1, k2, k3⟩ := q2
      exact ⟨b, cls, dd, k1, k2, k3.mono (same_upd hF)⟩
  · rw [upd_ne (fun z => hb (by rw [z]; exact hm))]; exact q
/-- the list that grows, set aside -/
theorem Step.keepL {H1 HF1 : Hp} {L1 : List Addr} (st : Step H HF L H1 HF1 L1) {Dl : Addr} {o : HO} (hL : Dl ∉ L) (h : H Dl = some o) (ho : Nt o := by intro _ h; cases h) : Dl ∉ L1 := fun z => by
  obtain ⟨M, eM, nM⟩ := st.ext
  rw [eM] at z
  rcases List.mem_append.mp z with z | z
  · exact hL z
  · exact nM _ z o ho h
theorem Step.put {H1 HF1 : Hp} {L1 : List Addr} (st : Step H HF L H1 HF1 L1) {Dl : Addr} {o : HO} (hD : H Dl = none) (ho : Nt o := by intro _ h; cases h) : Step H HF L (upd H1 Dl o) HF1 L1 :=
  ⟨fun b o hb nt e => by rw [upd_ne (ne_of_none e hD)]; exact st.keep b o hb nt e, fun b u nu e => by
    obtain ⟨o1, n1, e1⟩ := st.nn b u nu e
    exact ⟨o1, n1, by rw [upd_ne (ne_of_none e hD)]; exact e1⟩, st.fro, st.new, st.ext⟩
/-- a slot is stored -/
theorem Rel.store (R : Rel G H HF L σ ρ S) {v : V} {e : EV} (r : RepE G HF L v e) (i : Nat) : Rel G H HF L (σ.set i (some v)) (ρ.set i (some e)) S := by
  refine ⟨R.sub, R.nd, R.sl, R.liv, R.tab, R.nft, R.cell, by simpa using R.el, fun j x h => ?_⟩
  by_cases hj : j = i
  · subst hj
    by_cases hl : j < ρ.length
    · rw [List.getElem?_set_self hl] at h
      cases h
      exact ⟨v, by rw [List.getElem?_set_self (by rw [R.el]; exact hl)], r⟩
    · rw [List.getElem?_eq_none (by simpa using hl)] at h; cases h
  · rw [List.getElem?_set_ne (Ne.symm hj)] at h ⊢
    exact R.env j x h
end

/-! ### what is wanted behind a piece -/
structure WD where
  w : Value → Option Addr → L2.St → Hp → Prop
  xi : Option (Addr × Value × Option Addr)
/-- the same, but nothing may be raised -/
def WD.z (W : WD) : WD := ⟨fun _ _ _ _ => False, W.xi⟩
/-- the same for every kind of answer: P says what the answer's representation is -/
def Post {α β : Type} (G : Gd) (W : WD) (σ : L2.St) (ρ : Env) (H HF : Hp) (L : List Addr) (P : Hp → List Addr → β → α → Prop) (Q : β → Hp → Prop) : Out α → Prop
  | .ok d S' => ∀ v H' HF' L', Step H HF L H' HF' L' → Rel G H' HF' L' σ ρ S' → P HF' L' v d → Q v H'
  | .ex x S' => ∀ cls dd H' HF' L', Step H HF L H' HF' L' → Rel G H' HF' L' σ ρ S' → ExRep G x HF' cls dd → W.w cls dd σ H'
  | .bad => False
theorem Post.step {α β : Type} {G : Gd} {W : WD} {σ : L2.St} {ρ : Env} {H HF H1 HF1 : Hp} {L L1 : List Addr} {P : Hp → List Addr → β → α → Prop} {Q : β → Hp → Prop} (st : Step H HF L H1 HF1 L1) :
    ∀ {o : Out α}, Post G W σ ρ H HF L P Q o → Post G W σ ρ H1 HF1 L1 P Q o
  | .ok d S', h => fun v H' HF' L' s2 => h v H' HF' L' (st.trans s2)
  | .ex x S', h => fun cls dd H' HF' L' s2 => h cls dd H' HF' L' (st.trans s2)
  | .bad, h => h
/-- from a piece to what follows it -/
theorem Post.bind {α β γ δ : Type} {G : Gd} {W : WD} {σ : L2.St} {ρ : Env} {H HF : Hp} {L : List Addr} {P : Hp → List Addr → β → α → Prop} {P2 : Hp → List Addr → δ → γ → Prop} {Q : δ → Hp → Prop} {Q1 : β → Hp → Prop} {k : α → Store → Out γ} :
    ∀ {o : Out α}, Post G W σ ρ H HF L P2 Q (o.bind k) →
      (∀ d S' v H' HF' L', o = .ok d S' → Step H HF L H' HF' L' → Rel G H' HF' L' σ ρ S' → P HF' L' v d → Post G W σ ρ H' HF' L' P2 Q (k d S') → Q1 v H') → Post G W σ ρ H HF L P Q1 o
  | .ok d S', h, f => fun v H' HF' L' st R r => f d S' v H' HF' L' rfl st R r (Post.step st h)
  | .ex x S', h, _ => h
  | .bad, h, _ => h
def RepB (HF : Hp) (L : List Addr) (b c : Bool) : Prop := b = c
def tD (G : Gd) (W : WD) (f : DEn) : TE := fun σ H Q => ∃ HF L ρ S, Rel G H HF L σ ρ S ∧ Post G W σ ρ H HF L (fun HF' _ v d => Rep G HF' v d) Q (f ρ S)
def tT (G : Gd) (W : WD) (f : DTn) : TT := fun σ H Q => ∃ HF L ρ S, Rel G H HF L σ ρ S ∧ Post G W σ ρ H HF L RepB Q (f ρ S)
def tA (G : Gd) (W : WD) (f : DAn) : TA := fun σ H Q => ∃ HF L ρ S, Rel G H HF L σ ρ S ∧ Post G W σ ρ H HF L (fun HF' L' vs es => RepEs G HF' L' vs es) Q (f ρ S)
def EndsD (G : Gd) (W : WD) (D : Ends) (HF' : Hp) (σ' : L2.St) (H' : Hp) : Ctl → Prop
  | .nx => D.nx σ' H'
  | .bk => D.bk σ' H'
  | .ct => D.ct σ' H'
  | .rt d => ∀ v, Rep G HF' v d → D.rt v H'
  | .ex x => ∀ cls dd, ExRep G x HF' cls dd → W.w cls dd σ' H'
def PostS (G : Gd) (W : WD) (H HF : Hp) (L : List Addr) (D : Ends) : Out (Ctl × DL.Env) → Prop
  | .ok cr S' => ∀ σ' H' HF' L', Step H HF L H' HF' L' → Rel G H' HF' L' σ' cr.2 S' → EndsD G W D HF' σ' H' cr.1
  | .ex _ _ => False
  | .bad => False
def tS (G : Gd) (W : WD) (f : DSn) : TS := fun D σ H => ∃ HF L ρ S, Rel G H HF L σ ρ S ∧ PostS G W H HF L D (f ρ S)
end DL

namespace DL
open PySem L2

abbrev gd (X : Cx) (W : WD) : Gd := ⟨X.K, X.mg, W.xi⟩
abbrev W0 : WD := ⟨fun _ _ _ _ => False, none⟩
theorem PE.imp {X : Cx} {e : Expr} {t t' : TE} (h : PE X e t) (k : ∀ σ H Q, t' σ H Q → t σ H Q) : PE X e t' := ⟨fun pins s σ H Q I q => h.run pins s σ H Q I (k σ H Q q)⟩
theorem PT.imp {X : Cx} {e : Expr} {t t' : TT} (h : PT X e t) (k : ∀ σ H Q, t' σ H Q → t σ H Q) : PT X e t' := ⟨fun pins s σ H Q I q => h.run pins s σ H Q I (k σ H Q q)⟩
theorem PW.imp {X : Cx} {e : Expr} {t t' : TT} (h : PW X e t) (k : ∀ σ H Q, t' σ H Q → t σ H Q) : PW X e t' := ⟨fun wh pins s σ H Q I q => h.run wh pins s σ H Q I (k σ H Q q)⟩
theorem PA.imp {X : Cx} {e : List Expr} {t t' : TA} (h : PA X e t) (k : ∀ σ H Q, t' σ H Q → t σ H Q) : PA X e t' := ⟨fun pos pins s σ H Q I q => h.run pos pins s σ H Q I (k σ H Q q)⟩
theorem PS.imp {X : Cx} {e : Stmt} {t t' : TS} (h : PS X e t) (k : ∀ D σ H, t' D σ H → t D σ H) : PS X e t' := ⟨fun pins s σ H D I q => h.run pins s σ H D I (k D σ H q)⟩
theorem PSs.imp {X : Cx} {e : List Stmt} {t t' : TS} (h : PSs X e t) (k : ∀ D σ H, t' D σ H → t D σ H) : PSs X e t' := ⟨fun pins s σ H D I q => h.run pins s σ H D I (k D σ H q)⟩
theorem OpR.or {X : Cx} {f : Value → Value → Sem Value} {r r' : R2} (h : OpR X f r) (h' : OpR X f r') : OpR X f (fun x y H Q => r x y H Q ∨ r' x y H Q) := by
  intro pins s σ H x y v u Q I rx ry q
  rcases q with q | q
  · exact h pins s σ H x y v u Q I rx ry q
  · exact h' pins s σ H x y v u Q I rx ry q
theorem SlR.or {X : Cx} {r r' : V → Option Int → Option Int → Hp → VK → Prop} (h : SlR X r) (h' : SlR X r') : SlR X (fun x l u H Q => r x l u H Q ∨ r' x l u H Q) := by
  intro pins s σ H x v vl vu lo hi sl Q I rx hs pl pu q
  rcases q with q | q
  · exact h pins s σ H x v vl vu lo hi sl Q I rx hs pl pu q
  · exact h' pins s σ H x v vl vu lo hi sl Q I rx hs pl pu q
theorem CallR.or {X : Cx} {f : Value} {r r' : List V → Hp → VK → Prop} (h : CallR X f r) (h' : CallR X f r') : CallR X f (fun xs H Q => r xs H Q ∨ r' xs H Q) := by
  intro pins s σ H xs us Q I rx q
  rcases q with q | q
  · exact h pins s σ H xs us Q I rx q
  · exact h' pins s σ H xs us Q I rx q

/-! ### what an operation may do to the heap: nothing, or one new object that never changes -/
inductive Al (H HF : Hp) : Hp → Hp → Prop
  | no : Al H HF H HF
  | new {p : Addr} {o : HO} (hp : H p = none) (ho : Nt o := by intro _ h; cases h) : Al H HF (upd H p o) (upd HF p o)
section
variable {G : Gd} {H HF H' HF' : Hp} {L : List Addr} {σ : L2.St} {ρ : Env} {S : Store}
theorem Rel.al (R : Rel G H HF L σ ρ S) (a : Al H HF H' HF') : Rel G H' HF' L σ ρ S ∧ Step H HF L H' HF' L := by
  cases a with
  | no => exact ⟨R, .refl⟩
  | new hp ho => exact R.frozen hp ho
end
def lift {α : Type} (o : Option α) (S : Store) : Out α := match o with
  | some d => .ok d S
  | none => .bad
theorem Post.lift {α β : Type} {G : Gd} {W : WD} {σ : L2.St} {ρ : Env} {H HF : Hp} {L : List Addr} {P : Hp → List Addr → β → α → Prop} {Q : β → Hp → Prop} {o : Option α} {S : Store} (h : Post G W σ ρ H HF L P Q (lift o S)) :
    ∃ d, o = some d ∧ Post G W σ ρ H HF L P Q (.ok d S) := by
  cases o with
  | none => exact h.elim
  | some d => exact ⟨d, rfl, h⟩
/-- the end of an operation: its answer in the heap behind it -/
theorem Post.done {α β : Type} {G : Gd} {W : WD} {σ : L2.St} {ρ : Env} {H HF H' HF' : Hp} {L : List Addr} {P : Hp → List Addr → β → α → Prop} {Q : β → Hp → Prop} {d : α} {S : Store} {v : β} (h : Post G W σ ρ H HF L P Q (.ok d S)) (R : Rel G H HF L σ ρ S)
    (a : Al H HF H' HF') (r : P HF' L v d) : Q v H' := h v H' HF' L (R.al a).2 (R.al a).1 r

/-! ### expressions: names, constants -/
section
variable {X : Cx} {W : WD} {pos : Pos}
abbrev DE (X : Cx) (W : WD) (e : Expr) (f : DEn) : Prop := PE X e (tD (gd X W) W f)
abbrev DT (X : Cx) (W : WD) (e : Expr) (f : DTn) : Prop := PT X e (tT (gd X W) W f)
abbrev DPW (X : Cx) (W : WD) (e : Expr) (f : DTn) : Prop := PW X e (tT (gd X W) W f)

def mVar (i : Nat) : DEn := fun ρ S => match ρ[i]? with
  | some (some (.v d)) => .ok d S
  | _ => .bad
theorem xv (i : Nat) {x : Str} (hN : X.N[i]? = some x := by rfl) (hv : Vis X.env.scope x := by first | exact Or.inl rfl | exact Or.inr (Or.inl rfl) | exact Or.inr (Or.inr rfl)) (hd : (x == ("__debug__" : Str)) = false := by decide)
    (hcd : (x == ("__classdict__" : Str)) = false := by decide) : DE X W (.Name x pos) (mVar i) := by
  refine PE.imp (pe_var (i := i) hN hv hd hcd) fun σ H Q ⟨HF, L, ρ, S, R, p⟩ => ?_
  unfold mVar at p
  split at p
  · rename_i d e
    obtain ⟨v, h1, h2⟩ := R.env i _ e
    exact ⟨v, h1, p.done R .no h2⟩
  · exact p.elim
def mC (d : D) : DEn := fun _ S => .ok d S
theorem xC {e : Expr} {v : V} {d : D} (h : PE X e (tC v)) (r : ∀ HF, Rep (gd X W) HF v d) : DE X W e (mC d) := PE.imp h fun σ H Q ⟨HF, L, ρ, S, R, p⟩ => p.done R .no (r HF)
theorem xint {i j} : DE X W (.Constant (.int i) j pos) (mC (.int i)) := xC pe_int fun _ => .int i
theorem xbl {b j} : DE X W (.Constant (.bool b) j pos) (mC (.bl b)) := xC pe_bl fun _ => .bl b
theorem xnon {j} : DE X W (.Constant .none j pos) (mC .non) := xC pe_non fun _ => .non
theorem xstr {x j} : DE X W (.Constant (.str x) j pos) (mC (.str x)) := xC pe_str fun _ => .str x
/-- a def's name as a value -/
theorem xfn {x : Str} {a : Addr} (hg : Gl X x) (hm : X.mg x = some (.ref a)) (hd : (x == ("__debug__" : Str)) = false := by decide) : DE X W (.Name x pos) (mC (.fn x)) := xC (pe_glob (v := .ref a) hg hm rfl hd) fun _ => .fn hm
/-- a module's constant -/
structure Kon (G : Gd) (x : Str) (d : D) : Prop where
  is : ∃ (v : V) (u : Value), G.mg x = some u ∧ RelV v u ∧ ∀ HF, Rep G HF v d
theorem xk {x : Str} {d : D} (k : Kon (gd X W) x d) (hg : Gl X x := by rfl) (hd : (x == ("__debug__" : Str)) = false := by decide) : DE X W (.Name x pos) (mC d) := by
  obtain ⟨v, u, h1, h2, h3⟩ := k.is
  exact xC (pe_glob hg h1 h2 hd) h3

/-! ### operations on two values -/
def mOp (g : D → D → Option D) (fa fb : DEn) : DEn := fun ρ S => (fa ρ S).bind fun x S1 => (fb ρ S1).bind fun y S2 => lift (g x y) S2
def OpS (G : Gd) (r : R2) (g : D → D → Option D) : Prop := ∀ (x y : D) (v w : V) (H HF : Hp) (d : D) (Q : VK), Same HF H → Rep G HF v x → Rep G HF w y → g x y = some d →
  (∀ u H' HF', Al H HF H' HF' → Rep G HF' u d → Q u H') → r v w H Q
variable {a b c : Expr} {fa fb fc : DEn}
/-- two operands, then what follows -/
theorem tD.two {r : R2} {g : D → D → Store → Out D} {σ : L2.St} {H : Hp} {Q : VK} (h : tD (gd X W) W (fun ρ S => (fa ρ S).bind fun x S1 => (fb ρ S1).bind fun y S2 => g x y S2) σ H Q)
    (k : ∀ x y v w H HF L ρ S, Rel (gd X W) H HF L σ ρ S → Rep (gd X W) HF v x → Rep (gd X W) HF w y → Post (gd X W) W σ ρ H HF L (fun HF' _ v d => Rep (gd X W) HF' v d) Q (g x y S) → r v w H Q) :
    tOp r (tD (gd X W) W fa) (tD (gd X W) W fb) σ H Q := by
  obtain ⟨HF, L, ρ, S, R, p⟩ := h
  refine ⟨HF, L, ρ, S, R, Post.bind p fun x S1 v H1 HF1 L1 e1 st1 R1 r1 p1 => ?_⟩
  refine ⟨HF1, L1, ρ, S1, R1, Post.bind p1 fun y S2 w H2 HF2 L2 e2 st2 R2 r2 p2 => ?_⟩
  exact k x y v w H2 HF2 L2 ρ S2 R2 (Rep.mono st2.fro r1) r2 p2
theorem tD.op {r : R2} {g : D → D → Option D} (hs : OpS (gd X W) r g) {σ : L2.St} {H : Hp} {Q : VK} (h : tD (gd X W) W (mOp g fa fb) σ H Q) : tOp r (tD (gd X W) W fa) (tD (gd X W) W fb) σ H Q :=
  tD.two h fun x y v w H HF L ρ S R rx ry p => by
    obtain ⟨d, e, p⟩ := p.lift
    exact hs x y v w H HF d Q R.sub rx ry e fun u H' HF' al r => p.done R al r
structure BOp (X : Cx) (W : WD) (op : Operator) (g : D → D → Option D) : Prop where
  has : ∃ r : R2, OpR X (binaryOp op) r ∧ OpS (gd X W) r g
theorem xop {op : Operator} {g : D → D → Option D} (o : BOp X W op g) (ha : DE X W a fa) (hb : DE X W b fb) : DE X W (.BinOp a op b pos) (mOp g fa fb) := by
  obtain ⟨r, h1, h2⟩ := o.has
  exact PE.imp (pe_op h1 ha hb) fun σ H Q h => tD.op h2 h

def lim : Nat := 1000000
theorem lim_le : lim ≤ sizeLine := by rw [sizeLine_eq]; decide
def gAdd : D → D → Option D
  | .int i, .int j => some (.int (i + j))
  | .tup a, .tup b => if a.length + b.length ≤ lim then some (.tup (a ++ b)) else none
  | .lst a, .lst b => if a.length + b.length ≤ lim then some (.lst (a ++ b)) else none
  | _, _ => none
theorem bAdd : BOp X W .Add gAdd := by
  refine ⟨_, OpR.or op_add (OpR.or (op_catA (X := X)) op_cat), fun x y v w H HF d Q sub rx ry e q => ?_⟩
  unfold gAdd at e
  split at e
  · cases rx; cases ry; cases e
    exact .inl ⟨_, _, rfl, rfl, q _ _ _ .no (.int _)⟩
  · split at e
    · rename_i a b hz
      cases e
      cases rx with
      | tup h1 r1 =>
        cases ry with
        | tup h2 r2 =>
          refine .inr (.inl ⟨_, _, _, _, rfl, rfl, SqT.mono sub h1, SqT.mono sub h2, ?_, fun e0 => ?_, fun _ e1 => ?_, fun _ _ p hp => ?_⟩)
          · rw [r1.length, r2.length]; exact Nat.le_trans hz lim_le
          · subst e0
            cases r1
            exact q _ _ _ .no (.tup h2 r2)
          · subst e1
            cases r2
            rw [List.append_nil] at *
            exact q _ _ _ .no (.tup h1 r1)
          · have hF : HF p = none := by
              cases z : HF p with
              | none => rfl
              | some o => rw [sub p o z] at hp; cases hp
            exact q _ _ _ (.new hp) (.tup (SqT.of upd_same) ((r1.append r2).mono (same_upd hF)))
    · cases e
  · split at e
    · rename_i a b hz
      cases e
      cases rx with
      | lst h1 r1 =>
        cases ry with
        | lst h2 r2 =>
          refine .inr (.inr ⟨_, _, _, _, rfl, rfl, sub _ _ h1, sub _ _ h2, ?_, fun p hp => ?_⟩)
          · rw [r1.length, r2.length]; exact Nat.le_trans hz lim_le
          · have hF : HF p = none := by
              cases z : HF p with
              | none => rfl
              | some o => rw [sub p o z] at hp; cases hp
            exact q _ _ _ (.new hp) (.lst upd_same ((r1.append r2).mono (same_upd hF)))
    · cases e
  · cases e
def gSub : D → D → Option D
  | .int i, .int j => some (.int (i - j))
  | _, _ => none
theorem bSub : BOp X W .Sub gSub := by
  refine ⟨_, op_sub, fun x y v w H HF d Q sub rx ry e q => ?_⟩
  unfold gSub at e
  split at e
  · cases rx; cases ry; cases e
    exact ⟨_, _, rfl, rfl, q _ _ _ .no (.int _)⟩
  · cases e
theorem free_of {H HF : Hp} (sub : Same HF H) {p : Addr} (hp : H p = none) : HF p = none := by
  cases z : HF p with
  | none => rfl
  | some o => rw [sub p o z] at hp; cases hp
theorem Reps.rep {G : Gd} {H : Hp} {vs : List V} {ds : List D} (r : Reps G H vs ds) : ∀ n : Nat, Reps G H (List.replicate n vs).flatten (List.replicate n ds).flatten
  | 0 => .nil
  | n + 1 => by
    rw [List.replicate_succ, List.replicate_succ, List.flatten_cons, List.flatten_cons]
    exact r.append (Reps.rep r n)
def gMul : D → D → Option D
  | .int i, .int j => if i.natAbs < 18446744073709551616 ∨ j.natAbs < 18446744073709551616 then some (.int (i * j)) else none
  | .tup a, .int k => if a ≠ [] ∧ 2 ≤ k ∧ k ≤ 1000 ∧ a.length ≤ 1000 then some (.tup (List.replicate k.toNat a).flatten) else none
  | .lst a, .int k => if k ≤ 1000 ∧ -1000 ≤ k ∧ a.length ≤ 1000 then some (.lst (List.replicate k.toNat a).flatten) else none
  | _, _ => none
theorem bMul : BOp X W .Mult gMul := by
  refine ⟨_, OpR.or op_mul (OpR.or (op_repT (X := X)) op_rep), fun x y v w H HF d Q sub rx ry e q => ?_⟩
  unfold gMul at e
  split at e
  · split at e
    · rename_i i j hz
      cases rx; cases ry; cases e
      refine .inl ⟨_, _, rfl, rfl, ?_, q _ _ _ .no (.int _)⟩
      rcases hz with hz | hz
      · exact .inl ⟨by omega, by omega⟩
      · exact .inr ⟨by omega, by omega⟩
    · cases e
  · split at e
    · rename_i a k hz
      cases e
      cases ry
      cases rx with
      | tup h1 r1 =>
        refine .inr (.inl ⟨_, _, _, rfl, rfl, SqT.mono sub h1, fun z => ?_, hz.2.1, hz.2.2.1, by rw [r1.length]; exact hz.2.2.2, fun p hp => ?_⟩)
        · subst z; cases r1; exact hz.1 rfl
        · exact q _ _ _ (.new hp) (.tup (SqT.of upd_same) ((r1.rep _).mono (same_upd (free_of sub hp))))
    · cases e
  · split at e
    · rename_i a k hz
      cases e
      cases ry
      cases rx with
      | lst h1 r1 =>
        refine .inr (.inr ⟨_, _, _, rfl, rfl, sub _ _ h1, by omega, by omega, ?_, fun p hp => ?_⟩)
        · rw [r1.length]
          have h0 : a.length * k.toNat ≤ 1000 * 1000 := Nat.mul_le_mul hz.2.2 (by omega)
          exact Nat.le_trans h0 lim_le
        · exact q _ _ _ (.new hp) (.lst upd_same ((r1.rep _).mono (same_upd (free_of sub hp))))
    · cases e
  · cases e
def gMod : D → D → Option D
  | .int i, .int j => if 0 < j then some (.int (i % j)) else none
  | _, _ => none
theorem bMod : BOp X W .Mod gMod := by
  refine ⟨_, op_mod, fun x y v w H HF d Q sub rx ry e q => ?_⟩
  unfold gMod at e
  split at e
  · split at e
    · cases rx; cases ry; cases e
      exact ⟨_, _, rfl, rfl, by assumption, q _ _ _ .no (.int _)⟩
    · cases e
  · cases e
def gDiv : D → D → Option D
  | .int i, .int j => if 0 < j ∧ j < 1073741824 then some (.int (i / j)) else none
  | _, _ => none
theorem bDiv : BOp X W .FloorDiv gDiv := by
  refine ⟨_, op_fdiv, fun x y v w H HF d Q sub rx ry e q => ?_⟩
  unfold gDiv at e
  split at e
  · split at e
    · cases rx; cases ry; cases e
      exact ⟨_, _, rfl, rfl, by assumption, q _ _ _ .no (.int _)⟩
    · cases e
  · cases e
def gPow : D → D → Option D
  | .int i, .int j => if 0 ≤ j ∧ j ≤ 1000000 ∧ i.natAbs < 18446744073709551616 then some (.int (i ^ j.toNat)) else none
  | _, _ => none
theorem bPow : BOp X W .Pow gPow := by
  refine ⟨_, op_pow, fun x y v w H HF d Q sub rx ry e q => ?_⟩
  unfold gPow at e
  split at e
  · split at e
    · rename_i i j hz
      cases rx; cases ry; cases e
      exact ⟨_, _, rfl, rfl, ⟨hz.1, hz.2.1, by omega⟩, q _ _ _ .no (.int _)⟩
    · cases e
  · cases e

/-! ### comparisons -/
def mCmp (g : D → D → Option Bool) (fa fb : DEn) : DTn := fun ρ S => (fa ρ S).bind fun x S1 => (fb ρ S1).bind fun y S2 => lift (g x y) S2
def mB (f : DTn) : DEn := fun ρ S => (f ρ S).bind fun b S1 => .ok (.bl b) S1
def CmS (G : Gd) (r : R2) (g : D → D → Option Bool) : Prop := ∀ (x y : D) (v w : V) (H HF : Hp) (b : Bool) (Q : VK), Same HF H → Rep G HF v x → Rep G HF w y → g x y = some b → Q (.bl b) H → r v w H Q
structure CmpO (X : Cx) (W : WD) (op : CmpOp) (g : D → D → Option Bool) : Prop where
  has : ∃ r : R2, OpR X (compareOp op) r ∧ CmS (gd X W) r g
/-- an expression of a bool, as the value of a test's answer -/
theorem tT.two {r : R2} {g : D → D → Option Bool} (hs : CmS (gd X W) r g) {σ : L2.St} {H : Hp} {Q : Bool → Hp → Prop} {Qv : VK} (h : tT (gd X W) W (mCmp g fa fb) σ H Q) (hq : ∀ b H', Q b H' → Qv (.bl b) H') :
    tOp r (tD (gd X W) W fa) (tD (gd X W) W fb) σ H Qv := by
  obtain ⟨HF, L, ρ, S, R, p⟩ := h
  refine ⟨HF, L, ρ, S, R, Post.bind p fun x S1 v H1 HF1 L1 e1 st1 R1 r1 p1 => ?_⟩
  refine ⟨HF1, L1, ρ, S1, R1, Post.bind p1 fun y S2 w H2 HF2 L2 e2 st2 R2 r2 p2 => ?_⟩
  obtain ⟨b, e, p⟩ := p2.lift
  exact hs x y v w H2 HF2 b Qv R2.sub (Rep.mono st2.fro r1) r2 e (hq b H2 (p.done R2 .no rfl))
theorem Post.mB {σ : L2.St} {ρ : DL.Env} {H HF : Hp} {L : List Addr} {Q : VK} : ∀ {o : Out Bool}, Post (gd X W) W σ ρ H HF L (fun HF' _ v d => Rep (gd X W) HF' v d) Q (o.bind fun b S1 => .ok (.bl b) S1) → Post (gd X W) W σ ρ H HF L RepB (fun b H' => Q (.bl b) H') o
  | .ok b S, h => fun c H' HF' L' st R e => h _ H' HF' L' st R (by cases e; exact .bl _)
  | .ex x S, h => h
  | .bad, h => h
theorem tD.mB {f : DTn} {σ : L2.St} {H : Hp} {Q : VK} (h : tD (gd X W) W (mB f) σ H Q) : tT (gd X W) W f σ H (fun b H' => Q (.bl b) H') := by
  obtain ⟨HF, L, ρ, S, R, p⟩ := h
  exact ⟨HF, L, ρ, S, R, Post.mB p⟩
theorem xcmp {op : CmpOp} {g : D → D → Option Bool} (o : CmpO X W op g) (ha : DE X W a fa) (hb : DE X W b fb) (hm : behindInMarks op b = false := by first | rfl | exact nomark _) : DE X W (.Compare a [op] [b] pos) (mB (mCmp g fa fb)) := by
  obtain ⟨r, h1, h2⟩ := o.has
  exact PE.imp (pe_cmpR h1 ha hb hm) fun σ H Q h => tT.two h2 (tD.mB h) fun _ _ q => q
theorem ycmp {op : CmpOp} {g : D → D → Option Bool} (o : CmpO X W op g) (ha : DE X W a fa) (hb : DE X W b fb) (hm : behindInMarks op b = false := by first | rfl | exact nomark _) : DT X W (.Compare a [op] [b] pos) (mCmp g fa fb) := by
  obtain ⟨r, h1, h2⟩ := o.has
  exact PT.imp (pt_cmpR h1 ha hb hm) fun σ H Q h => tT.two h2 h fun b _ q => ⟨b, rfl, q⟩
def gI (p : Int → Int → Bool) : D → D → Option Bool
  | .int i, .int j => some (p i j)
  | _, _ => none
theorem cmI {op : CmpOp} {p : Int → Int → Bool} (h : OpR X (compareOp op) (rI0 fun i j => .bl (p i j))) : CmpO X W op (gI p) := by
  refine ⟨_, h, fun x y v w H HF b Q sub rx ry e q => ?_⟩
  unfold gI at e
  split at e
  · cases rx; cases ry; cases e
    exact ⟨_, _, rfl, rfl, q⟩
  · cases e
abbrev gLt := gI fun i j => decide (i < j)
abbrev gLe := gI fun i j => decide (i ≤ j)
abbrev gGt := gI fun i j => decide (j < i)
abbrev gGe := gI fun i j => decide (j ≤ i)
theorem cLt : CmpO X W .Lt gLt := cmI op_lt
theorem cLe : CmpO X W .LtE gLe := cmI op_le
theorem cGt : CmpO X W .Gt gGt := cmI op_gt
theorem cGe : CmpO X W .GtE gGe := cmI op_ge
mutual
def D.py : D → PyData
  | .non => .none
  | .bl b => .bool b
  | .int i => .int i
  | .str x => .str x
  | .tup ds => .tuple (D.pys ds)
  | .lst ds => .list (D.pys ds)
  | .rol _ => .dict []
  | .fn _ => .dict []
def D.pys : List D → List PyData
  | [] => []
  | d :: ds => d.py :: D.pys ds
end
theorem D.pys_map : ∀ ds : List D, D.pys ds = ds.map D.py
  | [] => rfl
  | d :: ds => by rw [D.pys, D.pys_map ds]; rfl
mutual
theorem Rep.dp {G : Gd} {H : Hp} : ∀ (d : D) {v : V}, Rep G H v d → PyData.canLay0 d.py = true → Dp G.K H v d.py
  | .non, _, h, _ => by cases h; exact .non
  | .bl _, _, h, _ => by cases h; exact .bl _
  | .int _, _, h, _ => by cases h; exact .int _
  | .str _, _, h, _ => by cases h; exact .str _
  | .tup ds, _, h, c => by
    cases h with
    | tup hs hr => exact .tup hs (Reps.dp ds hr c)
  | .lst ds, _, h, c => by
    cases h with
    | lst hs hr => exact .lst (SqL.of hs) (Reps.dp ds hr c)
  | .rol _, _, _, c => by exact absurd c Bool.false_ne_true
  | .fn _, _, _, c => by exact absurd c Bool.false_ne_true
theorem Reps.dp {G : Gd} {H : Hp} : ∀ (ds : List D) {vs : List V}, Reps G H vs ds → PyData.canLayAll0 (D.pys ds) = true → DpAll G.K H vs (D.pys ds)
  | [], _, h, _ => by cases h; exact .nil
  | d :: ds, _, h, c => by
    cases h with
    | cons h1 h2 =>
      have c' : (PyData.canLay0 d.py && PyData.canLayAll0 (D.pys ds)) = true := c
      rw [Bool.and_eq_true] at c'
      exact .cons (Rep.dp d h1 c'.1) (Reps.dp ds h2 c'.2)
end
def D.okd (d : D) : Bool := SeqAt.shaped d.py
theorem Rep.dps {G : Gd} {H HF : Hp} {d : D} {v : V} (sub : Same HF H) (r : Rep G HF v d) (c : d.okd = true) : Dp G.K H v d.py := Rep.dp d (Rep.mono sub r) (Bool.and_eq_true_iff.mp c).1
def deq (d e : D) : Bool := PyData.eqv d.py e.py
def gEq : D → D → Option Bool := fun d e => if d.okd = true ∧ e.okd = true then some (deq d e) else none
def gNe : D → D → Option Bool := fun d e => if d.okd = true ∧ e.okd = true then some (!deq d e) else none
theorem cEq (hu : X.A.units + 64 < cLine) : CmpO X W .Eq gEq := by
  refine ⟨_, op_eqD hu, fun x y v w H HF b Q sub rx ry e q => ?_⟩
  unfold gEq at e
  split at e
  · rename_i hc
    cases e
    exact ⟨x.py, y.py, rx.dps sub hc.1, ry.dps sub hc.2, hc.1, hc.2, q⟩
  · cases e
theorem cNe (hu : X.A.units + 64 < cLine) : CmpO X W .NotEq gNe := by
  refine ⟨_, op_neD hu, fun x y v w H HF b Q sub rx ry e q => ?_⟩
  unfold gNe at e
  split at e
  · rename_i hc
    cases e
    exact ⟨x.py, y.py, rx.dps sub hc.1, ry.dps sub hc.2, hc.1, hc.2, q⟩
  · cases e
def gIsN : D → D → Option Bool
  | .non, .non => some true
  | _, .non => some false
  | _, _ => none
def gNotN : D → D → Option Bool := fun x y => (gIsN x y).map (!·)
theorem isN_of {G : Gd} {HF : Hp} {x y : D} {v w : V} {b : Bool} (rx : Rep G HF v x) (ry : Rep G HF w y) (e : gIsN x y = some b) : w = .non ∧ b = decide (v = .non) := by
  cases y with
  | non =>
    cases ry
    refine ⟨rfl, ?_⟩
    cases x with
    | non => cases rx; cases e; rfl
    | bl _ => cases rx; cases e; rfl
    | int _ => cases rx; cases e; rfl
    | str _ => cases rx; cases e; rfl
    | tup _ => cases rx; cases e; rfl
    | lst _ => cases rx; cases e; rfl
    | rol _ => cases rx; cases e; rfl
    | fn _ => cases rx; cases e; rfl
  | bl _ => cases x <;> cases e
  | int _ => cases x <;> cases e
  | str _ => cases x <;> cases e
  | tup _ => cases x <;> cases e
  | lst _ => cases x <;> cases e
  | rol _ => cases x <;> cases e
  | fn _ => cases x <;> cases e
theorem cIs : CmpO X W .Is gIsN := by
  refine ⟨_, op_isN, fun x y v w H HF b Q sub rx ry e q => ?_⟩
  obtain ⟨h1, h2⟩ := isN_of rx ry e
  exact ⟨h1, by rw [← h2]; exact q⟩
theorem cIsNot : CmpO X W .IsNot gNotN := by
  refine ⟨_, op_notN, fun x y v w H HF b Q sub rx ry e q => ?_⟩
  unfold gNotN at e
  cases e' : gIsN x y with
  | none => rw [e'] at e; cases e
  | some c =>
    rw [e'] at e
    cases e
    obtain ⟨h1, h2⟩ := isN_of rx ry e'
    exact ⟨h1, by rw [← h2]; exact q⟩
/-! ### in -/
def D.flat : D → Bool
  | .non => true
  | .bl _ => true
  | .int _ => true
  | .str _ => true
  | _ => false
theorem Rep.flatV {G : Gd} {HF : Hp} {d : D} {v : V} (r : Rep G HF v d) (c : d.flat = true) : flatV v = true := by
  cases d with
  | non => cases r; rfl
  | bl _ => cases r; rfl
  | int _ => cases r; rfl
  | str _ => cases r; rfl
  | _ => cases c
theorem Rep.eqV {G : Gd} {HF : Hp} {d e : D} {v w : V} (r : Rep G HF v d) (r' : Rep G HF w e) (c : d.flat = true) (c' : e.flat = true) : eqV v w = deq d e := by
  cases d with
  | non =>
    cases r
    cases e with
    | non => cases r'; rfl
    | bl _ => cases r'; rfl
    | int _ => cases r'; rfl
    | str _ => cases r'; rfl
    | _ => cases c'
  | bl _ =>
    cases r
    cases e with
    | non => cases r'; rfl
    | bl _ => cases r'; rfl
    | int _ => cases r'; rfl
    | str _ => cases r'; rfl
    | _ => cases c'
  | int _ =>
    cases r
    cases e with
    | non => cases r'; rfl
    | bl _ => cases r'; rfl
    | int _ => cases r'; rfl
    | str _ => cases r'; rfl
    | _ => cases c'
  | str _ =>
    cases r
    cases e with
    | non => cases r'; rfl
    | bl _ => cases r'; rfl
    | int _ => cases r'; rfl
    | str _ => cases r'; rfl
    | _ => cases c'
  | _ => cases c
theorem Reps.flatV {G : Gd} {HF : Hp} : ∀ {ds : List D} {vs : List V}, Reps G HF vs ds → ds.all D.flat = true → vs.all L2.flatV = true
  | [], _, h, _ => by cases h; rfl
  | d :: ds, _, h, c => by
    cases h with
    | cons h1 h2 =>
      rw [List.all_cons, Bool.and_eq_true] at c ⊢
      exact ⟨Rep.flatV h1 c.1, Reps.flatV h2 c.2⟩
theorem Reps.inV {G : Gd} {HF : Hp} {x : D} {v : V} (r : Rep G HF v x) (c : x.flat = true) : ∀ {ds : List D} {vs : List V}, Reps G HF vs ds → ds.all D.flat = true → inV v vs = ds.any fun z => deq z x
  | [], _, h, _ => by cases h; rfl
  | d :: ds, _, h, k => by
    cases h with
    | cons h1 h2 =>
      rw [List.all_cons, Bool.and_eq_true] at k
      have ih := Reps.inV r c h2 k.2
      unfold L2.inV at ih ⊢
      rw [List.any_cons, List.any_cons, Rep.eqV h1 r k.1 c, ih]
def gIn : D → D → Option Bool
  | x, .tup ds => if x.flat = true ∧ ds.all D.flat = true then some (ds.any fun z => deq z x) else none
  | x, .lst ds => if x.okd = true ∧ (D.lst ds).okd = true then some (ds.any fun z => deq z x) else none
  | _, _ => none
def gNotIn : D → D → Option Bool := fun x y => (gIn x y).map (!·)
theorem pys_any (x : D) : ∀ ds : List D, ((D.pys ds).any fun z => PyData.eqv z x.py) = ds.any fun z => deq z x
  | [] => rfl
  | d :: ds => by rw [D.pys, List.any_cons, List.any_cons, pys_any x ds]; rfl
theorem cIn (hu : X.A.units + 65 < cLine) : CmpO X W .In gIn := by
  refine ⟨_, OpR.or op_in_seq (op_inD hu), fun x y v w H HF b Q sub rx ry e q => ?_⟩
  cases y with
  | tup ds =>
    have e : (if x.flat = true ∧ ds.all D.flat = true then some (ds.any fun z => deq z x) else none) = some b := e
    split at e
    · rename_i hc
      cases e
      cases ry with
      | tup h1 r1 => exact .inl ⟨_, _, rfl, .inr (SqT.mono sub h1), rx.flatV hc.1, r1.flatV hc.2, by show Q (.bl (L2.inV _ _)) H; rw [Reps.inV rx hc.1 r1 hc.2]; exact q⟩
    · cases e
  | lst ds =>
    have e : (if x.okd = true ∧ (D.lst ds).okd = true then some (ds.any fun z => deq z x) else none) = some b := e
    split at e
    · rename_i hc
      cases e
      exact .inr ⟨x.py, D.pys ds, rx.dps sub hc.1, ry.dps sub hc.2, hc.1, hc.2, by rw [pys_any]; exact q⟩
    · cases e
  | _ => cases e
theorem cNotIn (hu : X.A.units + 65 < cLine) : CmpO X W .NotIn gNotIn := by
  refine ⟨_, OpR.or op_notIn_seq (op_notInD hu), fun x y v w H HF b Q sub rx ry e q => ?_⟩
  cases y with
  | tup ds =>
    have e : ((if x.flat = true ∧ ds.all D.flat = true then some (ds.any fun z => deq z x) else none).map (!·)) = some b := e
    split at e
    · rename_i hc
      cases e
      cases ry with
      | tup h1 r1 => exact .inl ⟨_, _, rfl, .inr (SqT.mono sub h1), rx.flatV hc.1, r1.flatV hc.2, by show Q (.bl (!L2.inV _ _)) H; rw [Reps.inV rx hc.1 r1 hc.2]; exact q⟩
    · cases e
  | lst ds =>
    have e : ((if x.okd = true ∧ (D.lst ds).okd = true then some (ds.any fun z => deq z x) else none).map (!·)) = some b := e
    split at e
    · rename_i hc
      cases e
      exact .inr ⟨x.py, D.pys ds, rx.dps sub hc.1, ry.dps sub hc.2, hc.1, hc.2, by rw [pys_any]; exact q⟩
    · cases e
  | _ => cases e
end
end DL

namespace DL
open PySem L2
section
variable {X : Cx} {W : WD} {pos : Pos} {a b c : Expr} {fa fb fc : DEn} {es : List Expr}
/-! ### chains, and, or, not, a if t else b -/
def mChain (g g' : D → D → Option Bool) (fa fb fc : DEn) : DTn := fun ρ S => (fa ρ S).bind fun x S1 => (fb ρ S1).bind fun y S2 => (lift (g x y) S2).bind fun k S3 =>
  if k = true then (fc ρ S3).bind fun z S4 => lift (g' y z) S4 else .ok false S3
theorem tT.chain {r r' : R2} {g g' : D → D → Option Bool} (hs : CmS (gd X W) r g) (hs' : CmS (gd X W) r' g') {σ : L2.St} {H : Hp} {Q : Bool → Hp → Prop} {Qv : VK} (h : tT (gd X W) W (mChain g g' fa fb fc) σ H Q) (hq : ∀ b H', Q b H' → Qv (.bl b) H') :
    tChain r r' (tD (gd X W) W fa) (tD (gd X W) W fb) (tD (gd X W) W fc) σ H Qv := by
  obtain ⟨HF, L, ρ, S, R, p⟩ := h
  refine ⟨HF, L, ρ, S, R, Post.bind p fun x S1 v H1 HF1 L1 e1 st1 R1 r1 p1 => ?_⟩
  refine ⟨HF1, L1, ρ, S1, R1, Post.bind p1 fun y S2 w H2 HF2 L2 e2 st2 R2 r2 p2 => ?_⟩
  cases eg : g x y with
  | none => rw [eg] at p2; exact p2.elim
  | some k =>
    rw [eg] at p2
    refine hs x y v w H2 HF2 k _ R2.sub (Rep.mono st2.fro r1) r2 eg ⟨k, rfl, ?_⟩
    cases k with
    | true =>
      rw [if_pos rfl]
      refine ⟨HF2, L2, ρ, S2, R2, Post.bind p2 fun z S4 u H4 HF4 L4 e4 st4 R4 r4 p4 => ?_⟩
      obtain ⟨b, e, p⟩ := p4.lift
      exact hs' y z w u H4 HF4 b Qv R4.sub (Rep.mono st4.fro r2) r4 e (hq b H4 (p.done R4 .no rfl))
    | false =>
      rw [if_neg Bool.false_ne_true]
      exact hq false H2 (Post.done (α := Bool) (P := RepB) p2 R2 .no rfl)
theorem xchain {op op' : CmpOp} {g g' : D → D → Option Bool} (o : CmpO X W op g) (o' : CmpO X W op' g') (ha : DE X W a fa) (hb : DE X W b fb) (hc : DE X W c fc) (hm : lastMarks [op, op'] [b, c] = false := by with_unfolding_all rfl) :
    DE X W (.Compare a [op, op'] [b, c] pos) (mB (mChain g g' fa fb fc)) := by
  obtain ⟨r, h1, h2⟩ := o.has
  obtain ⟨r', h1', h2'⟩ := o'.has
  exact PE.imp (pe_chain h1 h1' ha hb hc hm) fun σ H Q h => tT.chain h2 h2' (tD.mB h) fun _ _ q => q
theorem ychain {op op' : CmpOp} {g g' : D → D → Option Bool} (o : CmpO X W op g) (o' : CmpO X W op' g') (ha : DE X W a fa) (hb : DE X W b fb) (hc : DE X W c fc) (hm : lastMarks [op, op'] [b, c] = false := by with_unfolding_all rfl) :
    DT X W (.Compare a [op, op'] [b, c] pos) (mChain g g' fa fb fc) := by
  obtain ⟨r, h1, h2⟩ := o.has
  obtain ⟨r', h1', h2'⟩ := o'.has
  refine PT.imp (pt_chain h1 h1' ha hb hc hm) fun σ H Q h => ?_
  exact tT.chain h2 h2' h fun b _ q => ⟨b, rfl, q⟩
/-- bools alone -/
def D.isB : D → Option Bool
  | .bl b => some b
  | _ => none
theorem Rep.isB {G : Gd} {HF : Hp} {v : V} {d : D} {k : Bool} (r : Rep G HF v d) (e : d.isB = some k) : v = .bl k := by
  cases d with
  | bl _ => cases r; cases e; rfl
  | _ => cases e
def mAnd (fa fb : DEn) : DEn := fun ρ S => (fa ρ S).bind fun x S1 => (lift x.isB S1).bind fun k S2 => if k = true then fb ρ S2 else .ok (.bl false) S2
def mOr (fa fb : DEn) : DEn := fun ρ S => (fa ρ S).bind fun x S1 => (lift x.isB S1).bind fun k S2 => if k = true then .ok (.bl true) S2 else fb ρ S2
def mNot (fa : DEn) : DEn := fun ρ S => (fa ρ S).bind fun x S1 => (lift x.isB S1).bind fun k S2 => .ok (.bl (!k)) S2
theorem lift_bind {α β : Type} {o : Option α} {S : Store} {k : α → Store → Out β} : (∃ d, o = some d ∧ (lift o S).bind k = k d S) ∨ (o = none ∧ (lift o S).bind k = .bad) := by
  cases o with
  | none => exact .inr ⟨rfl, rfl⟩
  | some d => exact .inl ⟨d, rfl, rfl⟩
theorem Post.liftB {α β γ : Type} {G : Gd} {σ : L2.St} {ρ : DL.Env} {H HF : Hp} {L : List Addr} {P : Hp → List Addr → β → γ → Prop} {Q : β → Hp → Prop} {o : Option α} {S : Store} {k : α → Store → Out γ} (h : Post G W σ ρ H HF L P Q ((DL.lift o S).bind k)) :
    ∃ d, o = some d ∧ Post G W σ ρ H HF L P Q (k d S) := by
  rcases lift_bind (o := o) (S := S) (k := k) with ⟨d, e1, e2⟩ | ⟨e1, e2⟩
  · rw [e2] at h; exact ⟨d, e1, h⟩
  · rw [e2] at h; exact h.elim
theorem xand {rest : List Expr} (ha : DE X W a fa) (hb : DE X W (.BoolOp .And (b :: rest) pos) fb) : DE X W (.BoolOp .And (a :: b :: rest) pos) (mAnd fa fb) :=
  PE.imp (pe_and ha hb) fun σ H Q ⟨HF, L, ρ, S, R, p⟩ => ⟨HF, L, ρ, S, R, Post.bind p fun x S1 v H1 HF1 L1 e1 st1 R1 r1 p1 => by
    obtain ⟨k, ek, p2⟩ := Post.liftB p1
    refine ⟨k, r1.isB ek, ?_⟩
    cases k with
    | true => rw [if_pos rfl] at p2 ⊢; exact ⟨HF1, L1, ρ, S1, R1, p2⟩
    | false => rw [if_neg Bool.false_ne_true] at p2 ⊢; exact p2.done R1 .no (.bl false)⟩
theorem xor {rest : List Expr} (ha : DE X W a fa) (hb : DE X W (.BoolOp .Or (b :: rest) pos) fb) : DE X W (.BoolOp .Or (a :: b :: rest) pos) (mOr fa fb) :=
  PE.imp (pe_or ha hb) fun σ H Q ⟨HF, L, ρ, S, R, p⟩ => ⟨HF, L, ρ, S, R, Post.bind p fun x S1 v H1 HF1 L1 e1 st1 R1 r1 p1 => by
    obtain ⟨k, ek, p2⟩ := Post.liftB p1
    refine ⟨k, r1.isB ek, ?_⟩
    cases k with
    | true => rw [if_pos rfl] at p2 ⊢; exact p2.done R1 .no (.bl true)
    | false => rw [if_neg Bool.false_ne_true] at p2 ⊢; exact ⟨HF1, L1, ρ, S1, R1, p2⟩⟩
theorem xone {op} (ha : DE X W a fa) : DE X W (.BoolOp op [a] pos) fa := pe_one ha
theorem xnot (ha : DE X W a fa) : DE X W (.UnaryOp .Not a pos) (mNot fa) :=
  PE.imp (pe_not ha) fun σ H Q ⟨HF, L, ρ, S, R, p⟩ => ⟨HF, L, ρ, S, R, Post.bind p fun x S1 v H1 HF1 L1 e1 st1 R1 r1 p1 => by
    obtain ⟨k, ek, p2⟩ := Post.liftB p1
    exact ⟨k, r1.isB ek, p2.done R1 .no (.bl _)⟩⟩
variable {ta tb : DTn}
def mAndT (ta tb : DTn) : DTn := fun ρ S => (ta ρ S).bind fun k S1 => if k = true then tb ρ S1 else .ok false S1
def mOrT (ta tb : DTn) : DTn := fun ρ S => (ta ρ S).bind fun k S1 => if k = true then .ok true S1 else tb ρ S1
def mNotT (ta : DTn) : DTn := fun ρ S => (ta ρ S).bind fun k S1 => .ok (!k) S1
theorem wand {rest : List Expr} (ha : DT X W a ta) (hb : DPW X W (.BoolOp .And (b :: rest) pos) tb) : DPW X W (.BoolOp .And (a :: b :: rest) pos) (mAndT ta tb) :=
  PW.imp (pw_and ha hb) fun σ H Q ⟨HF, L, ρ, S, R, p⟩ => ⟨HF, L, ρ, S, R, Post.bind p fun k S1 k' H1 HF1 L1 e1 st1 R1 r1 p1 => by
    cases r1
    cases k with
    | true => rw [if_pos rfl] at p1 ⊢; exact ⟨HF1, L1, ρ, S1, R1, p1⟩
    | false => rw [if_neg Bool.false_ne_true] at p1 ⊢; exact p1.done R1 .no rfl⟩
theorem wor {rest : List Expr} (ha : DT X W a ta) (hb : DPW X W (.BoolOp .Or (b :: rest) pos) tb) : DPW X W (.BoolOp .Or (a :: b :: rest) pos) (mOrT ta tb) :=
  PW.imp (pw_or ha hb) fun σ H Q ⟨HF, L, ρ, S, R, p⟩ => ⟨HF, L, ρ, S, R, Post.bind p fun k S1 k' H1 HF1 L1 e1 st1 R1 r1 p1 => by
    cases r1
    cases k with
    | true => rw [if_pos rfl] at p1 ⊢; exact p1.done R1 .no rfl
    | false => rw [if_neg Bool.false_ne_true] at p1 ⊢; exact ⟨HF1, L1, ρ, S1, R1, p1⟩⟩
theorem wand1 (ha : DT X W a ta) : DPW X W (.BoolOp .And [a] pos) ta := pw_and1 ha
theorem wor1 (ha : DT X W a ta) : DPW X W (.BoolOp .Or [a] pos) ta := pw_or1 ha
theorem ynot (ha : DT X W a ta) : DT X W (.UnaryOp .Not a pos) (mNotT ta) :=
  PT.imp (pt_not ha) fun σ H Q ⟨HF, L, ρ, S, R, p⟩ => ⟨HF, L, ρ, S, R, Post.bind p fun k S1 k' H1 HF1 L1 e1 st1 R1 r1 p1 => by
    cases r1
    exact p1.done R1 .no rfl⟩
/-- an expression of any kind as a test -/
def D.tru : D → Option Bool
  | .non => some false
  | .bl b => some b
  | .int i => some (i != 0)
  | .tup ds => some (!ds.isEmpty)
  | .lst ds => some (!ds.isEmpty)
  | _ => none
theorem Reps.empty {G : Gd} {HF : Hp} {vs : List V} {ds : List D} (r : Reps G HF vs ds) : vs.isEmpty = ds.isEmpty := by cases r <;> rfl
theorem Rep.tru {G : Gd} {HF H : Hp} {v : V} {d : D} {k : Bool} (sub : Same HF H) (r : Rep G HF v d) (e : d.tru = some k) : TruV G.K v H k := by
  cases d with
  | non => cases r; cases e; rfl
  | bl b => cases r; cases e; rfl
  | int i => cases r; cases e; rfl
  | tup ds => cases r with
    | tup h1 h2 => cases e; exact .inr (.inl ⟨_, SqT.mono sub h1, by rw [h2.empty]⟩)
  | lst ds => cases r with
    | lst h1 h2 => cases e; exact .inl ⟨_, SqL.of (sub _ _ h1), by rw [h2.empty]⟩
  | _ => cases e
def mTru (fa : DEn) : DTn := fun ρ S => (fa ρ S).bind fun x S1 => lift x.tru S1
theorem ytru (ha : DE X W a fa) (he : ∀ whole, isTrue a X.env whole = (do let v ← whole; standAt a.pos; holding [v] (truthy v)) := by intro _; rfl) : DT X W a (mTru fa) :=
  PT.imp (pt_truth ha he) fun σ H Q ⟨HF, L, ρ, S, R, p⟩ => ⟨HF, L, ρ, S, R, Post.bind p fun x S1 v H1 HF1 L1 e1 st1 R1 r1 p1 => by
    obtain ⟨k, ek, p2⟩ := p1.lift
    exact ⟨k, r1.tru R1.sub ek, p2.done R1 .no rfl⟩⟩
/-- a cell as a test -/
def mTruC (i : Nat) : DTn := fun ρ S => match ρ[i]? with
  | some (some (.cel n)) => match S[n]? with
    | some (some (.lst ds)) => .ok (!ds.isEmpty) S
    | _ => .bad
  | _ => .bad
theorem Rel.celAt {G : Gd} {H HF : Hp} {L : List Addr} {σ : L2.St} {ρ : DL.Env} {S : Store} (R : Rel G H HF L σ ρ S) {i n : Nat} {ds : List D} (h1 : ρ[i]? = some (some (.cel n))) (h2 : S[n]? = some (some (.lst ds))) :
    ∃ (p : Addr) (vs : List V), σ[i]? = some (some (.ref p)) ∧ L[n]? = some p ∧ H p = some (.lst vs) ∧ Reps G HF vs ds ∧ HF p = none := by
  obtain ⟨v, e1, p, e2, e3⟩ := R.env i _ h1
  subst e3
  obtain ⟨q1, vs, q2, q3⟩ := R.cell n p _ e2 h2
  exact ⟨p, vs, e1, e2, q2, q3, q1⟩
theorem ytruC (i : Nat) {x : Str} (hN : X.N[i]? = some x := by rfl) (hv : Vis X.env.scope x := by first | exact Or.inl rfl | exact Or.inr (Or.inl rfl) | exact Or.inr (Or.inr rfl)) (hd : (x == ("__debug__" : Str)) = false := by decide)
    (hcd : (x == ("__classdict__" : Str)) = false := by decide) : DT X W (.Name x pos) (mTruC i) := by
  refine PT.imp (pt_truth (pe_var (i := i) hN hv hd hcd) (by intro _; rfl)) fun σ H Q ⟨HF, L, ρ, S, R, p⟩ => ?_
  unfold mTruC at p
  split at p
  · rename_i n e
    split at p
    · rename_i ds e2
      obtain ⟨q, vs, h1, h2, h3, h4, h5⟩ := R.celAt e e2
      exact ⟨_, h1, _, .inl ⟨vs, SqL.of h3, rfl⟩, by rw [h4.empty]; exact p.done R .no rfl⟩
    · exact p.elim
  · exact p.elim
def mIf (t : DTn) (fa fb : DEn) : DEn := fun ρ S => (t ρ S).bind fun k S1 => if k = true then fa ρ S1 else fb ρ S1
theorem xif {t : Expr} {tt : DTn} (ht : DT X W t tt) (ha : DE X W a fa) (hb : DE X W b fb) : DE X W (.IfExp t a b pos) (mIf tt fa fb) :=
  PE.imp (pe_ifExp ht ha hb) fun σ H Q ⟨HF, L, ρ, S, R, p⟩ => ⟨HF, L, ρ, S, R, Post.bind p fun k S1 k' H1 HF1 L1 e1 st1 R1 r1 p1 => by
    cases r1
    cases k with
    | true => rw [if_pos rfl] at p1 ⊢; exact ⟨HF1, L1, ρ, S1, R1, p1⟩
    | false => rw [if_neg Bool.false_ne_true] at p1 ⊢; exact ⟨HF1, L1, ρ, S1, R1, p1⟩⟩

/-! ### rows of values: displays, arguments of built-ins -/
abbrev DDn := DL.Env → Store → Out (List D)
def tDs (G : Gd) (W : WD) (f : DDn) : TA := fun σ H Q => ∃ HF L ρ S, Rel G H HF L σ ρ S ∧ Post G W σ ρ H HF L (fun HF' _ vs ds => Reps G HF' vs ds) Q (f ρ S)
abbrev DA (X : Cx) (W : WD) (es : List Expr) (f : DDn) : Prop := PA X es (tDs (gd X W) W f)
def mNil : DDn := fun _ S => .ok [] S
def mCons (fa : DEn) (fs : DDn) : DDn := fun ρ S => (fa ρ S).bind fun x S1 => (fs ρ S1).bind fun xs S2 => .ok (x :: xs) S2
theorem a0 : DA X W [] mNil := PA.imp pa_nil fun σ H Q ⟨HF, L, ρ, S, R, p⟩ => p.done R .no .nil
variable {fs : DDn}
theorem a1 (ha : DE X W a fa) (hs : DA X W es fs) (he : starEach (a :: es) X.env = (false, eval a X.env) :: starEach es X.env := by rfl) : DA X W (a :: es) (mCons fa fs) :=
  PA.imp (pa_cons ha hs he) fun σ H Q ⟨HF, L, ρ, S, R, p⟩ => ⟨HF, L, ρ, S, R, Post.bind p fun x S1 v H1 HF1 L1 e1 st1 R1 r1 p1 =>
    ⟨HF1, L1, ρ, S1, R1, Post.bind p1 fun xs S2 vs H2 HF2 L2 e2 st2 R2 r2 p2 => p2.done R2 .no (.cons (Rep.mono st2.fro r1) r2)⟩⟩
def mTup (fs : DDn) : DEn := fun ρ S => (fs ρ S).bind fun xs S1 => if xs.length ≤ lim then .ok (.tup xs) S1 else .bad
def mLst (fs : DDn) : DEn := fun ρ S => (fs ρ S).bind fun xs S1 => if xs.length ≤ lim then .ok (.lst xs) S1 else .bad
theorem xtup {x1} (hs : DA X W es fs) : DE X W (.Tuple es x1 pos) (mTup fs) :=
  PE.imp (pe_tup hs) fun σ H Q ⟨HF, L, ρ, S, R, p⟩ => ⟨HF, L, ρ, S, R, Post.bind p fun xs S1 vs H1 HF1 L1 e1 st1 R1 r1 p1 => by
    split at p1
    · rename_i hz
      refine ⟨by rw [r1.length]; exact Nat.le_trans hz lim_le, fun q hq => ?_⟩
      exact p1.done R1 (.new hq) (.tup (SqT.of upd_same) (r1.mono (same_upd (R1.hf hq))))
    · exact p1.elim⟩
theorem xlst (hs : DA X W es fs) : DE X W (.List es pos) (mLst fs) :=
  PE.imp (pe_lst hs) fun σ H Q ⟨HF, L, ρ, S, R, p⟩ => ⟨HF, L, ρ, S, R, Post.bind p fun xs S1 vs H1 HF1 L1 e1 st1 R1 r1 p1 => by
    split at p1
    · rename_i hz
      refine ⟨by rw [r1.length]; exact Nat.le_trans hz lim_le, fun q hq => ?_⟩
      exact p1.done R1 (.new hq) (.lst upd_same (r1.mono (same_upd (R1.hf hq))))
    · exact p1.elim⟩

/-! ### subscripts, slices -/
def gIx : D → D → Option D
  | .tup ds, .int i => atI ds i
  | .lst ds, .int i => atI ds i
  | .rol ds, .int i => atI ds i
  | _, _ => none
theorem Reps.atI {G : Gd} {HF : Hp} {vs : List V} {ds : List D} {i : Int} {d : D} (r : Reps G HF vs ds) (e : atI ds i = some d) : ∃ v, atI vs i = some v ∧ Rep G HF v d := by
  unfold L2.atI at e ⊢
  rw [r.length]
  cases q : ixN ds.length i with
  | none => rw [q] at e; cases e
  | some j =>
    rw [q] at e
    exact r.get (i := j) e
theorem sIx : OpS (gd X W) (rIx X.K) gIx := fun x y v w H HF d Q sub rx ry e q => by
  unfold gIx at e
  split at e
  · cases ry
    cases rx with
    | tup h1 r1 =>
      obtain ⟨u, e1, e2⟩ := r1.atI e
      exact .inr (.inl ⟨_, _, _, _, rfl, rfl, SqT.mono sub h1, e1, q _ _ _ .no e2⟩)
  · cases ry
    cases rx with
    | lst h1 r1 =>
      obtain ⟨u, e1, e2⟩ := r1.atI e
      exact .inl ⟨_, _, _, _, rfl, rfl, SqL.of (sub _ _ h1), e1, q _ _ _ .no e2⟩
  · cases ry
    cases rx with
    | rol h1 r1 =>
      obtain ⟨u, e1, e2⟩ := r1.atI e
      exact .inl ⟨_, _, _, _, rfl, rfl, sub.seq h1, e1, q _ _ _ .no e2⟩
  · cases e
theorem xix (ha : DE X W a fa) (hb : DE X W b fb) (hs : PlainIx b := by exact fun _ _ => rfl) : DE X W (.Subscript a b pos) (mOp gIx fa fb) :=
  PE.imp (pe_ix ix_seq ha hb hs) fun σ H Q h => tD.op sIx h
/-- a cell's item -/
def mIxC (i : Nat) (fb : DEn) : DEn := fun ρ S => match ρ[i]? with
  | some (some (.cel n)) => (fb ρ S).bind fun y S1 => match y, S1[n]? with
    | .int k, some (some (.lst ds)) => lift (atI ds k) S1
    | _, _ => .bad
  | _ => .bad
theorem xixC (i : Nat) {x : Str} {px : Pos} (hb : DE X W b fb) (hs : PlainIx b := by exact fun _ _ => rfl) (hN : X.N[i]? = some x := by rfl) (hv : Vis X.env.scope x := by first | exact Or.inl rfl | exact Or.inr (Or.inl rfl) | exact Or.inr (Or.inr rfl)) (hd : (x == ("__debug__" : Str)) = false := by decide)
    (hcd : (x == ("__classdict__" : Str)) = false := by decide) : DE X W (.Subscript (.Name x px) b pos) (mIxC i fb) := by
  refine PE.imp (pe_ix ix_seq (pe_var (i := i) hN hv hd hcd) hb hs) fun σ H Q ⟨HF, L, ρ, S, R, p⟩ => ?_
  unfold mIxC at p
  split at p
  · rename_i n hn
    obtain ⟨v, hv1, pa, hp1, hp2⟩ := R.env i _ hn
    subst hp2
    refine ⟨_, hv1, HF, L, ρ, S, R, Post.bind p fun y S1 w H1 HF1 L1 e1 st1 R1 r1 p1 => ?_⟩
    split at p1
    · rename_i k ds hS
      cases r1
      obtain ⟨d, ed, p2⟩ := p1.lift
      obtain ⟨q1, vs, q2, q3⟩ := R1.cell n pa _ (st1.lget hp1) hS
      obtain ⟨u, e2, e3⟩ := q3.atI ed
      exact .inl ⟨_, _, _, _, rfl, rfl, SqL.of q2, e2, p2.done R1 .no e3⟩
    · exact p1.elim
  · exact p.elim
/-- a slice -/
abbrev DOn := DL.Env → Store → Out (Option Int)
def mNoPart : DOn := fun _ S => .ok none S
def mPart (f : DEn) : DOn := fun ρ S => (f ρ S).bind fun x S1 => match x with
  | .int i => .ok (some i) S1
  | _ => .bad
def tO (G : Gd) (W : WD) (f : DOn) : TO := fun σ H Q => ∃ HF L ρ S, Rel G H HF L σ ρ S ∧ Post G W σ ρ H HF L (fun _ _ v d => v = d) Q (f ρ S)
abbrev DO (X : Cx) (W : WD) (e : Option Expr) (f : DOn) : Prop := PO X e (tO (gd X W) W f)
theorem o0 : DO X W none mNoPart := ⟨fun pins s σ H Q I ⟨HF, L, ρ, S, R, p⟩ => po_none.run pins s σ H Q I (p.done R .no rfl)⟩
theorem o1 (h : DE X W a fa) : DO X W (some a) (mPart fa) := ⟨fun pins s σ H Q I ⟨HF, L, ρ, S, R, p⟩ => (po_some h).run pins s σ H Q I ⟨HF, L, ρ, S, R, Post.bind p fun x S1 v H1 HF1 L1 e1 st1 R1 r1 p1 => by
  split at p1
  · cases r1
    exact ⟨_, rfl, p1.done R1 .no rfl⟩
  · exact p1.elim⟩⟩
def cutD (xs : List D) (lo hi : Option Int) : List D := (xs.drop (HT.sIx xs.length 0 lo)).take (HT.sIx xs.length xs.length hi - HT.sIx xs.length 0 lo)
theorem Reps.cut {G : Gd} {HF : Hp} {vs : List V} {ds : List D} (r : Reps G HF vs ds) (lo hi : Option Int) : Reps G HF (cutV vs lo hi) (cutD ds lo hi) := by
  unfold cutV cutD
  rw [r.length]
  exact (r.drop _).take _
def gSl : D → Option Int → Option Int → Option D
  | .tup ds, lo, hi => some (.tup (cutD ds lo hi))
  | .lst ds, lo, hi => some (.lst (cutD ds lo hi))
  | _, _, _ => none
def mSl (fa : DEn) (fl fh : DOn) : DEn := fun ρ S => (fa ρ S).bind fun x S1 => (fl ρ S1).bind fun l S2 => (fh ρ S2).bind fun h S3 => lift (gSl x l h) S3
theorem xsl {lo hi : Option Expr} {fl fh : DOn} {p2 : Pos} (ha : DE X W a fa) (hl : DO X W lo fl) (hh : DO X W hi fh) : DE X W (.Subscript a (.Slice lo hi none p2) pos) (mSl fa fl fh) :=
  PE.imp (pe_slice (SlR.or sl_list (sl_tupA (X := X))) ha hl hh) fun σ H Q ⟨HF, L, ρ, S, R, p⟩ => ⟨HF, L, ρ, S, R, Post.bind p fun x S1 v H1 HF1 L1 e1 st1 R1 r1 p1 =>
    ⟨HF1, L1, ρ, S1, R1, Post.bind p1 fun l S2 l' H2 HF2 L2 e2 st2 R2 r2 p2 => ⟨HF2, L2, ρ, S2, R2, Post.bind p2 fun h S3 h' H3 HF3 L3 e3 st3 R3 r3 p3 => by
      cases r2
      cases r3
      obtain ⟨d, ed, p4⟩ := p3.lift
      have r1' := Rep.mono st3.fro (Rep.mono st2.fro r1)
      cases x with
      | tup ds =>
        cases ed
        cases r1' with
        | tup h1 h2 =>
          refine .inr ⟨_, _, rfl, SqT.mono R3.sub h1, fun z => ?_, fun _ q hq => p4.done R3 (.new hq) (.tup (SqT.of upd_same) ((h2.cut _ _).mono (same_upd (R3.hf hq))))⟩
          have e : ∀ {α : Type} (xs : List α), (xs.drop 0).take (xs.length - 0) = xs := fun xs => by simp
          have e2 : cutD ds l h = ds := by
            unfold cutD
            rw [← h2.length, z.1, z.2, h2.length]
            exact e ds
          refine p4.done R3 .no (.tup h1 ?_)
          rw [e2]
          exact h2
      | lst ds =>
        cases ed
        cases r1' with
        | lst h1 h2 => exact .inl ⟨_, _, rfl, SqL.of (R3.sub _ _ h1), fun q hq => p4.done R3 (.new hq) (.lst upd_same ((h2.cut _ _).mono (same_upd (R3.hf hq))))⟩
      | _ => cases ed⟩⟩⟩

/-! ### built-ins by their names -/
def CaS (G : Gd) (r : List V → Hp → VK → Prop) (g : List D → Option D) : Prop := ∀ (xs : List D) (vs : List V) (H HF : Hp) (d : D) (Q : VK), Same HF H → Reps G HF vs xs → g xs = some d →
  (∀ u H' HF', Al H HF H' HF' → Rep G HF' u d → Q u H') → r vs H Q
structure BiO (X : Cx) (W : WD) (f : Value) (g : List D → Option D) : Prop where
  has : ∃ r, CallR X f r ∧ CaS (gd X W) r g
def mBi (g : List D → Option D) (fs : DDn) : DEn := fun ρ S => (fs ρ S).bind fun xs S1 => lift (g xs) S1
theorem tD.bi {r : List V → Hp → VK → Prop} {g : List D → Option D} (hs : CaS (gd X W) r g) {σ : L2.St} {H : Hp} {Q : VK} (h : tD (gd X W) W (mBi g fs) σ H Q) : tCB r (tDs (gd X W) W fs) σ H Q := by
  obtain ⟨HF, L, ρ, S, R, p⟩ := h
  refine ⟨HF, L, ρ, S, R, Post.bind p fun xs S1 vs H1 HF1 L1 e1 st1 R1 r1 p1 => ?_⟩
  obtain ⟨d, e, p2⟩ := p1.lift
  exact hs xs vs H1 HF1 d Q R1.sub r1 e fun u H' HF' al r => p2.done R1 al r
theorem xbi {x : Str} {id : String} {p : Pos} {g : List D → Option D} (o : BiO X W (.builtin id) g) (hm : X.mg x = none) (hv : bootBuiltins x = some (.builtin id)) (ha : DA X W (a :: es) fs) (hg : Gl X x := by rfl) (hn : x ≠ "__name__" := by decide) (hdb : (x == ("__debug__" : Str)) = false := by decide)
    (he : starEach (a :: es) X.env = (false, eval a X.env) :: starEach es X.env := by rfl) (hpl : (backTo pos (starEach es X.env)).any (·.1) = false := by rfl) : DE X W (.Call (.Name x p) (a :: es) [] pos) (mBi g fs) := by
  obtain ⟨r, h1, h2⟩ := o.has
  exact PE.imp (pe_callB h1 hg hm hv ha hn hdb he hpl) fun σ H Q h => tD.bi h2 h
theorem xbt {x : Str} {T : String} {p : Pos} {g : List D → Option D} (o : BiO X W (.type T) g) (hm : X.mg x = none) (hv : bootBuiltins x = some (.type T)) (ha : DA X W (a :: es) fs) (hg : Gl X x := by rfl) (hn : x ≠ "__name__" := by decide) (hdb : (x == ("__debug__" : Str)) = false := by decide)
    (he : starEach (a :: es) X.env = (false, eval a X.env) :: starEach es X.env := by rfl) (hpl : (backTo pos (starEach es X.env)).any (·.1) = false := by rfl) : DE X W (.Call (.Name x p) (a :: es) [] pos) (mBi g fs) := by
  obtain ⟨r, h1, h2⟩ := o.has
  exact PE.imp (pe_callTy h1 hg hm hv ha hn hdb he hpl) fun σ H Q h => tD.bi h2 h
theorem Reps.one {G : Gd} {HF : Hp} {vs : List V} {d : D} (r : Reps G HF vs [d]) : ∃ v, vs = [v] ∧ Rep G HF v d := by
  cases r with
  | cons h1 h2 => cases h2; exact ⟨_, rfl, h1⟩
theorem Reps.two {G : Gd} {HF : Hp} {vs : List V} {d e : D} (r : Reps G HF vs [d, e]) : ∃ v w, vs = [v, w] ∧ Rep G HF v d ∧ Rep G HF w e := by
  cases r with
  | cons h1 h2 =>
    obtain ⟨w, rfl, h3⟩ := h2.one
    exact ⟨_, w, rfl, h1, h3⟩
def gLen : List D → Option D
  | [.tup ds] => some (.int ds.length)
  | [.lst ds] => some (.int ds.length)
  | [.rol ds] => some (.int ds.length)
  | _ => none
theorem biLen : BiO X W (.builtin "len") gLen := by
  refine ⟨_, call_len_seq, fun xs vs H HF d Q sub r e q => ?_⟩
  unfold gLen at e
  split at e
  · cases e
    obtain ⟨v, rfl, h⟩ := r.one
    cases h with
    | tup h1 h2 => exact ⟨_, _, rfl, .inr (SqT.mono sub h1), by rw [h2.length]; exact q _ _ _ .no (.int _)⟩
  · cases e
    obtain ⟨v, rfl, h⟩ := r.one
    cases h with
    | lst h1 h2 => exact ⟨_, _, rfl, .inl (SqL.of (sub _ _ h1)), by rw [h2.length]; exact q _ _ _ .no (.int _)⟩
  · cases e
    obtain ⟨v, rfl, h⟩ := r.one
    cases h with
    | rol h1 h2 => exact ⟨_, _, rfl, .inl (sub.seq h1), by rw [h2.length]; exact q _ _ _ .no (.int _)⟩
  · cases e
def gInt : List D → Option D
  | [.int i] => some (.int i)
  | [.bl b] => some (.int (if b then 1 else 0))
  | _ => none
theorem biInt : BiO X W (.type "int") gInt := by
  refine ⟨_, call_int1, fun xs vs H HF d Q sub r e q => ?_⟩
  unfold gInt at e
  split at e
  · cases e
    obtain ⟨v, rfl, h⟩ := r.one
    cases h
    exact .inl ⟨_, rfl, q _ _ _ .no (.int _)⟩
  · cases e
    obtain ⟨v, rfl, h⟩ := r.one
    cases h
    exact .inr ⟨_, rfl, q _ _ _ .no (.int _)⟩
  · cases e
def gList : List D → Option D
  | [.tup ds] => some (.lst ds)
  | [.lst ds] => some (.lst ds)
  | [.rol ds] => some (.lst ds)
  | _ => none
theorem biList : BiO X W (.type "list") gList := by
  refine ⟨_, call_list_of, fun xs vs H HF d Q sub r e q => ?_⟩
  unfold gList at e
  split at e
  · cases e
    obtain ⟨v, rfl, h⟩ := r.one
    cases h with
    | tup h1 h2 => exact ⟨_, _, rfl, .inr (SqT.mono sub h1), fun l hl => q _ _ _ (.new hl) (.lst upd_same (h2.mono (same_upd (free_of sub hl))))⟩
  · cases e
    obtain ⟨v, rfl, h⟩ := r.one
    cases h with
    | lst h1 h2 => exact ⟨_, _, rfl, .inl (SqL.of (sub _ _ h1)), fun l hl => q _ _ _ (.new hl) (.lst upd_same (h2.mono (same_upd (free_of sub hl))))⟩
  · cases e
    obtain ⟨v, rfl, h⟩ := r.one
    cases h with
    | rol h1 h2 => exact ⟨_, _, rfl, .inl (sub.seq h1), fun l hl => q _ _ _ (.new hl) (.lst upd_same (h2.mono (same_upd (free_of sub hl))))⟩
  · cases e
def gTuple : List D → Option D
  | [.tup ds] => some (.tup ds)
  | [.lst ds] => some (.tup ds)
  | _ => none
theorem biTuple : BiO X W (.type "tuple") gTuple := by
  refine ⟨_, call_tuple_of, fun xs vs H HF d Q sub r e q => ?_⟩
  unfold gTuple at e
  split at e
  · cases e
    obtain ⟨v, rfl, h⟩ := r.one
    cases h with
    | tup h1 h2 => exact ⟨_, _, rfl, .inr ⟨SqT.mono sub h1, q _ _ _ .no (.tup h1 h2)⟩⟩
  · cases e
    obtain ⟨v, rfl, h⟩ := r.one
    cases h with
    | lst h1 h2 => exact ⟨_, _, rfl, .inl ⟨SqL.of (sub _ _ h1), fun l hl => q _ _ _ (.new hl) (.tup (SqT.of upd_same) (h2.mono (same_upd (free_of sub hl))))⟩⟩
  · cases e
def bools : List D → Option (List Bool)
  | [] => some []
  | .bl b :: r => (bools r).map (b :: ·)
  | _ => none
theorem Reps.bools {G : Gd} {HF : Hp} : ∀ {ds : List D} {vs : List V} {bs : List Bool}, Reps G HF vs ds → DL.bools ds = some bs → vs = bs.map V.bl
  | [], _, _, h, e => by cases h; cases e; rfl
  | .bl b :: ds, _, bs, h, e => by
    cases h with
    | cons h1 h2 =>
      cases h1
      have e : (DL.bools ds).map (b :: ·) = some bs := e
      cases q : DL.bools ds with
      | none => rw [q] at e; cases e
      | some bs' =>
        rw [q] at e
        cases e
        rw [Reps.bools h2 q]
        rfl
  | .non :: ds, _, _, _, e => by cases e
  | .int _ :: ds, _, _, _, e => by cases e
  | .str _ :: ds, _, _, _, e => by cases e
  | .tup _ :: ds, _, _, _, e => by cases e
  | .lst _ :: ds, _, _, _, e => by cases e
  | .rol _ :: ds, _, _, _, e => by cases e
  | .fn _ :: ds, _, _, _, e => by cases e
def gAny : List D → Option D
  | [.lst ds] => (bools ds).map fun bs => .bl (bs.any id)
  | _ => none
theorem biAny (hc : X.calm = true) : BiO X W (.builtin "any") gAny := by
  refine ⟨_, cr_any hc, fun xs vs H HF d Q sub r e q => ?_⟩
  unfold gAny at e
  split at e
  · rename_i ds
    obtain ⟨v, rfl, h⟩ := r.one
    cases h with
    | lst h1 h2 =>
      cases eb : bools ds with
      | none => rw [eb] at e; cases e
      | some bs =>
        rw [eb] at e
        cases e
        have ev := h2.bools eb
        subst ev
        exact ⟨_, bs, rfl, SqL.of (sub _ _ h1), q _ _ _ .no (.bl _)⟩
  · cases e
def gAll : List D → Option D
  | [.lst ds] => (bools ds).map fun bs => .bl (bs.all id)
  | _ => none
theorem biAll (hc : X.calm = true) : BiO X W (.builtin "all") gAll := by
  refine ⟨_, cr_all hc, fun xs vs H HF d Q sub r e q => ?_⟩
  unfold gAll at e
  split at e
  · rename_i ds
    obtain ⟨v, rfl, h⟩ := r.one
    cases h with
    | lst h1 h2 =>
      cases eb : bools ds with
      | none => rw [eb] at e; cases e
      | some bs =>
        rw [eb] at e
        cases e
        have ev := h2.bools eb
        subst ev
        exact ⟨_, bs, rfl, SqL.of (sub _ _ h1), q _ _ _ .no (.bl _)⟩
  · cases e
/-- list(range(n)), list(range(a, b)) -/
def rgD (a b : Int) : List D := (List.range (b - a).toNat).map fun i => D.int (a + (i : Nat))
theorem rgD_reps {G : Gd} {HF : Hp} (a b : Int) : Reps G HF (rgV a b) (rgD a b) := by
  unfold rgV rgD
  induction List.range (b - a).toNat with
  | nil => exact .nil
  | cons i r ih => exact .cons (.int _) ih
def mListRg (fa : DEn) : DEn := fun ρ S => (fa ρ S).bind fun x S1 => match x with
  | .int n => if n ≤ 1000000 ∧ -1000000 ≤ n then .ok (.lst (rgD 0 n)) S1 else .bad
  | _ => .bad
theorem xlistRg {p p2 pos2 : Pos} (hc : X.calm = true) (hm : X.mg "list" = none) (hm2 : X.mg "range" = none) (ha : DE X W a fa) (hg : Gl X "list" := by rfl) (hg2 : Gl X "range" := by rfl)
    (na : starEach [a] X.env = (false, eval a X.env) :: starEach [] X.env := by rfl) (na2 : starEach [Expr.Call (.Name "range" p2) [a] [] pos2] X.env = (false, eval (.Call (.Name "range" p2) [a] [] pos2) X.env) :: starEach [] X.env := by rfl) :
    DE X W (.Call (.Name "list" p) [.Call (.Name "range" p2) [a] [] pos2] [] pos) (mListRg fa) :=
  PE.imp (pe_listRg hc hg hm (prg_1 hg2 hm2 ha na) na2) fun σ H Q ⟨HF, L, ρ, S, R, p⟩ => ⟨HF, L, ρ, S, R, Post.bind p fun x S1 v H1 HF1 L1 e1 st1 R1 r1 p1 => by
    split at p1
    · rename_i n
      cases r1
      split at p1
      · rename_i hz
        refine ⟨n, rfl, ⟨by omega, by omega, by omega, by omega, by omega⟩, fun q hq => p1.done R1 (.new hq) (.lst upd_same (rgD_reps 0 n))⟩
      · exact p1.elim
    · exact p1.elim⟩

/-! ### isinstance -/
def D.ty : D → Option String
  | .non => some "NoneType"
  | .bl _ => some "bool"
  | .int _ => some "int"
  | .str _ => some "str"
  | .tup _ => some "tuple"
  | .lst _ => some "list"
  | _ => none
theorem TyX.of_sqT {K : PySem.W.Frag} {H : Hp} {a : Addr} {xs : List V} (h : SqT K H a xs) : TyX K H (.ref a) (.type "tuple") := by
  rcases h with (h | ⟨o, h⟩) | ⟨o, its, n, h1, h2, _⟩
  · exact .base (.tup h)
  · exact .fTuple h
  · exact .kTuple h1 h2
theorem Rep.ty {G : Gd} {H HF : Hp} {v : V} {d : D} {t : String} (sub : Same HF H) (r : Rep G HF v d) (e : d.ty = some t) : TyX G.K H v (.type t) := by
  cases d with
  | non => cases r; cases e; exact .base .non
  | bl _ => cases r; cases e; exact .base (.bl _)
  | int _ => cases r; cases e; exact .base (.int _)
  | str _ => cases r; cases e; exact .base (.str _)
  | tup _ => cases r with
    | tup h1 h2 => cases e; exact TyX.of_sqT (SqT.mono sub h1)
  | lst _ => cases r with
    | lst h1 h2 => cases e; exact .base (.lst (sub _ _ h1))
  | _ => cases e
/-- isinstance(x, T), T a built-in class by its name: the answer by a table -/
def isTy (d : D) (T : String) : Option Bool := d.ty.bind fun t => kitB t T
def mIsT (T : String) (fa : DEn) : DEn := fun ρ S => (fa ρ S).bind fun x S1 => lift ((isTy x T).map D.bl) S1
theorem isinst_args {t : Str} {T : String} {pt : Pos} (ha : DE X W a fa) (hmT : X.mg t = none) (hvT : bootBuiltins t = some (.type T)) (hgT : Gl X t) (hnT : t ≠ "__name__") (hdT : (t == ("__debug__" : Str)) = false)
    (he : starEach [a, .Name t pt] X.env = (false, eval a X.env) :: starEach [.Name t pt] X.env) (he2 : starEach [.Name t pt] X.env = (false, eval (.Name t pt) X.env) :: starEach [] X.env) :
    PA X [a, .Name t pt] (tCons (tD (gd X W) W fa) (tCons (tC (.ty T)) tNil)) := pa_cons ha (pa_cons (pe_bltn (v := .ty T) hgT hmT hvT rfl hnT hdT) pa_nil he2) he
theorem xisT {t : Str} {T : String} {p pt : Pos} (hm : X.mg "isinstance" = none) (hmT : X.mg t = none) (hvT : bootBuiltins t = some (.type T)) (ha : DE X W a fa) (hg : Gl X "isinstance" := by rfl) (hgT : Gl X t := by rfl) (hnT : t ≠ "__name__" := by decide) (hdT : (t == ("__debug__" : Str)) = false := by decide)
    (he : starEach [a, .Name t pt] X.env = (false, eval a X.env) :: starEach [.Name t pt] X.env := by rfl) (he2 : starEach [.Name t pt] X.env = (false, eval (.Name t pt) X.env) :: starEach [] X.env := by rfl) (hpl : (backTo pos (starEach [.Name t pt] X.env)).any (·.1) = false := by rfl) :
    DE X W (.Call (.Name "isinstance" p) [a, .Name t pt] [] pos) (mIsT T fa) :=
  PE.imp (pe_callB call_isi hg hm PyProof.Rows.boot_isinstance (isinst_args ha hmT hvT hgT hnT hdT he he2) (by decide) (by decide) he hpl) fun σ H Q ⟨HF, L, ρ, S, R, p⟩ => ⟨HF, L, ρ, S, R, Post.bind p fun x S1 v H1 HF1 L1 e1 st1 R1 r1 p1 => by
    obtain ⟨d, ed, p2⟩ := p1.lift
    cases et : x.ty with
    | none => unfold isTy at ed; rw [et] at ed; cases ed
    | some tt =>
      cases ek : kitB tt T with
      | none => unfold isTy at ed; rw [et] at ed; simp only [Option.bind_some, ek] at ed; cases ed
      | some k =>
        have e2 : d = .bl k := by
          unfold isTy at ed; rw [et] at ed; simp only [Option.bind_some, ek] at ed; cases ed; rfl
        subst e2
        exact ⟨v, .ty T, .type tt, .type T, k, rfl, .ty T, r1.ty R1.sub et, kit_ty ek, p2.done R1 .no (.bl k)⟩⟩
end
end DL

namespace PySem
open Sem (wp)
set_option maxHeartbeats 1000000 in
theorem dl_enumerate_new1 {v : Value} {o : Obj} {H : Heap → Prop} (B : Begins v o H) :
    Meets (Builtin.«enumerate.__new__» ⟨[.type "enumerate", v], []⟩) (fun _ R s => H s.heap ∧
      R (.ok (.ret (.ref (s.heap.push o).objs.size))) { s with heap := (s.heap.push o).push { cls := .type "enumerate", data := .fields #[.none, .bool false, .ref s.heap.objs.size, rawInt 0, .none, .none] } }) :=
  .of_wp fun prog w A R s h => by
    obtain ⟨hp, g, d, tk, os⟩ := s; obtain ⟨h1, h⟩ := h
    have hsub := sub_enumerate
    have q1 : ∀ {A' : Around} {E : Value → Shared → Prop} {Q : Value → Shared → Prop}, Q (.ref hp.objs.size) ⟨hp.push o, g, d, tk, os⟩ → wpAny (model prog w) A' (pyIter v) Q E ⟨hp, g, d, tk, os⟩ :=
      fun q => B.iter prog w _ _ ⟨hp, g, d, tk, os⟩ _ h1 q
    wp_walk using q1
    refine wpAny_stack_any fun st => wpAny_pure ?_
    split
    · rename_i c _ _ _ _ _
      cases (c == Value.type "enumerate")
      · wp_walk using q1
        exact ⟨_, rfl, h⟩
      · wp_walk using q1
        exact ⟨_, rfl, h⟩
    · wp_walk using q1
      exact ⟨_, rfl, h⟩
theorem dl_call_enumerate {prog : Program} {w : World} {A : Around} {E : Value → Shared → Prop} {s : Shared} {v : Value} {o : Obj} {H : Heap → Prop} {Q : Value → Shared → Prop} (B : Begins v o H) (h1 : H s.heap)
    (h : ∀ h', IsEnum h' (s.heap.objs.size + 1) s.heap.objs.size 0 .none → h'.get? s.heap.objs.size = some o → h'.objs.size = s.heap.objs.size + 2 →
      (∀ b o, s.heap.get? b = some o → h'.get? b = some o) → Q (.ref (s.heap.objs.size + 1)) { s with heap := h' }) :
    wpAny (model prog w) A (call (.type "enumerate") [v]) Q E s := by
  refine callType_new F.called_enumerate (by decide) (F.typeCall_enumerate_1 _) (F.newCall_enumerate_1 _) (fun obj => F.args_object_init_2 obj _) F.entry_enumerate_new
    (dl_enumerate_new1 B) ⟨h1, ?_⟩
  have hz : (s.heap.push o).objs.size = s.heap.objs.size + 1 := Heap.size_push ..
  show _ ∧ _
  rw [hz]
  have he : IsEnum ((s.heap.push o).push { cls := .type "enumerate", data := .fields #[.none, .bool false, .ref s.heap.objs.size, rawInt 0, .none, .none] }) (s.heap.objs.size + 1) s.heap.objs.size 0 .none := by
    have := Heap.get?_push_size (s.heap.push o) (o := { cls := .type "enumerate", data := .fields #[.none, .bool false, .ref s.heap.objs.size, rawInt 0, .none, .none] }) rfl
    rw [hz] at this; exact this
  refine ⟨⟨_, he, rfl⟩, h _ he (Heap.get?_push_of_some _ (Heap.get?_push_size _ B.free)) (by rw [Heap.size_push, hz]) fun b o x => Heap.get?_push_of_some _ (Heap.get?_push_of_some _ x)⟩
end PySem
namespace DL
open PySem L2
/-- the tuple at a, each item in a new pair -/
def IteT (K : PySem.W.Frag) (a : Addr) : It :=
  ⟨fun i H => ∃ (xs : List V) (x : V), SqT K H a xs ∧ xs[i]? = some x, fun i H v H' => ∃ T x, v = .ref T ∧ H T = none ∧ H' = upd H T (.tup [.int (i : Nat), x]) ∧ ∀ xs, SqT K H a xs → xs[i]? = some x, fun i H => ∃ xs : List V, SqT K H a xs ∧ xs.length ≤ i⟩
theorem turn_enumT {P : Program} {w : World} {K : PySem.W.Frag} {elts : List Expr} {kk : Nat} {tpos : Pos} (a e it : Addr) (ha : a ≠ it) :
    Turn P w K (.Tuple elts kk tpos) (IteT K a) [e, it] e (fun i h => (∃ old, IsEnum h e it ((i : Nat) : Int) old) ∧ h.IsTupleIter it a i ∧ e ≠ it ∧ a ≠ e) where
  mem := by simp
  obj := fun i h st b hb => by
    obtain ⟨⟨old, he⟩, ⟨o, ho, hc, hd⟩, _⟩ := st
    have e' : b = e ∨ b = it := by simpa using hb
    rcases e' with z | z
    · rw [z]; exact ⟨_, he, fun v q => nomatch q⟩
    · rw [z]; exact ⟨o, ho, fun v q => by rw [hd] at q; cases q⟩
  keep := fun i h h' st k => let ⟨⟨old, he⟩, hi, hne⟩ := st; ⟨⟨old, k e (by simp) _ he⟩, hi.at fun o q => k it (by simp) o q, hne⟩
  item := by
    intro X hP hw hK hc i pins s σ H E I hf st hg
    subst hP hw hK
    obtain ⟨⟨old, he⟩, hit, hne, hae⟩ := st
    obtain ⟨xs, x, hq, hx⟩ := hg
    obtain ⟨its, rv, p, hz⟩ := I.tuple hq
    obtain ⟨u, hu, ru⟩ := rv.get hx
    have hel : e < s.heap.objs.size := Heap.lt_size he
    have hil : it < s.heap.objs.size := by obtain ⟨_, q, _⟩ := hit; exact Heap.lt_size q
    have D := Draws.tuple (prog := X.prog) (w := X.w) (A := X.A.in1) (I.ok.hd hc) it a ha its.toArray
    have hlt : i < its.toArray.size := by
      have := (List.getElem?_eq_some_iff.mp hu).1
      simpa using this
    refine wpAny_pyNext_enum_itemD D he ⟨hit, show s.heap.IsTuple a its.toArray from p⟩ hlt hne (by simp [hne]; exact fun z => hae z.symm) fun y h' tk hy ho hst' hT hsz hk => ?_
    have hyu : y = u := by
      have e1 : its[i]? = some y := by simpa using hy
      rw [hu] at e1
      exact (Option.some.inj e1).symm
    subst hyu
    refine ⟨_, rfl, wpAny_letOwnedTupleGo_enum (s := { s with heap := h', toks := tk + 1 }) ho fun h'' he' sb => ?_⟩
    have hT2 : h''.get? s.heap.objs.size = some { cls := .type "tuple", data := .seq #[.int i tk, y] } := (sb.2 _ (Nat.ne_of_gt hel)).trans hT
    have new : ObjOk X.prog X.w (upd H s.heap.objs.size (.tup [.int (i : Nat), x])) h'' s.heap.objs.size (.tup [.int (i : Nat), x]) :=
      ⟨by show 2 ≤ sizeLine; decide, [.int i tk, y], .cons ⟨_, rfl⟩ (.cons ru .nil), ⟨_, hT2, rfl, _, rfl⟩⟩
    have I1 : Inv X pins σ (upd H s.heap.objs.size (.tup [.int (i : Nat), x])) { s with heap := h'', toks := tk + 1 } :=
      I.turnedNew (ch := [e, it]) (fun b ob hb q => (sb.2 b (fun z => hb (by simp [z]))).trans (hk b ob (fun z => hb (by simp [z])) (fun z => hb (by simp [z])) q)) hf (Nat.le_refl _) new
    refine ⟨.ref s.heap.objs.size, _, I1, rfl, ⟨_, x, rfl, I.hok.fresh (Nat.le_refl _), rfl, fun ys hy => by rw [I.tuple_inj hy hq]; exact hx⟩, ⟨⟨y, ?_⟩, hst'.1.at fun o q => (sb.2 it (Ne.symm hne)).trans q, hne, hae⟩, fun b hb => ?_⟩
    · have e1 : ((i + 1 : Nat) : Int) = (i : Int) + 1 := by omega
      rw [e1]; exact he'
    · have hb' : b < s.heap.objs.size := by
        have e' : b = e ∨ b = it := by simpa using hb
        rcases e' with z | z
        · rw [z]; exact hel
        · rw [z]; exact hil
      rw [upd_ne (Nat.ne_of_lt hb')]
      exact (hf b hb).1
  done := by
    intro X hP hw hK hc i pins s σ H E I hf st hg
    subst hP hw hK
    obtain ⟨⟨old, he⟩, hit, hne, hae⟩ := st
    obtain ⟨xs, hq, hx⟩ := hg
    obtain ⟨its, rv, p, hz⟩ := I.tuple hq
    obtain ⟨f0, f1, f2, f3, f4, f5⟩ := hf it (by simp)
    have hl := rv.length
    have p' : s.heap.IsTuple a its.toArray := p
    have hT : s.TypeIs (.ref e) "enumerate" := ⟨_, he, rfl⟩
    unfold pyNext
    refine wpAny_bind (wpAny_attempt (wpAny_callSpecial?_slot (name := Str.ofString "__next__") hT F.slot_enumerate_next
      (wpAny_call_entry F.slot_enumerate_next hT F.entry_enumerate_next ?_ (F.args_enumerate_next_1 _))))
    show wpAny _ _ (field (.ref e) 2 >>= _) _ _ _
    refine wpAny_bind (wpAny_field he rfl (x := .ref it) rfl ?_)
    refine wpAny_bind (wpAny_nextOf_tuple_end (A := X.A.in1) (I.ok.hd hc) hit p' (by simp; omega) fun h' x he' hx' => ?_)
    obtain ⟨o, ho, hc'⟩ := hx'
    refine wpAny_bind (wpAny_isInstance (T := "StopIteration") (b := true) ⟨o, ho, hc'⟩ isSubtype_stop ?_)
    exact wpAny_pure ⟨rfl, I.turned (t' := s.toks) (fun b o hb q => he' b o hb q) f0 f1 f3 f4 f5⟩
  self := fun A i s Q E st h => let ⟨⟨_, he⟩, _⟩ := st; wpAny_pyIter_enum he h
def iEnumT (K : PySem.W.Frag) (ta : TA) : TI := fun σ H R => ta σ H fun vs H1 => ∃ a xs, vs = [.ref a] ∧ ((SqL K H1 a xs ∧ R (Ite K a) H1) ∨ (SqT K H1 a xs ∧ R (IteT K a) H1))
open PyProof.Rows in
theorem pi_enumT {X : Cx} {e : Expr} {ta : TA} {p pos tpos : Pos} {elts : List Expr} {kk : Nat} (hg : Gl X "enumerate") (hm : X.mg "enumerate" = none) (ha : PA X [e] ta) (hs : starEach [e] X.env = [(false, eval e X.env)] := by rfl) :
    PI X (.Tuple elts kk tpos) (.Call (.Name "enumerate" p) [e] [] pos) (iEnumT X.K ta) := by
  refine ⟨fun pins s σ H R I h => ?_⟩
  refine Call_ (ld_blt I hg hm boot_enumerate (PyProof.Rows.callWith_type1 (thn (ha.run pos pins s σ H _ I h) fun us s1 ⟨vs, H1, I1, r1, q1⟩ => ?_) hs rfl))
  obtain ⟨a, xs, ex, q1⟩ := q1
  subst ex
  cases r1 with
  | cons r rr =>
    cases rr
    cases r
    have key : ∀ b, b ∈ [s1.heap.objs.size + 1, s1.heap.objs.size] → FpOk X pins H1 b := fun b hb => by
      have e' : b = s1.heap.objs.size + 1 ∨ b = s1.heap.objs.size := by simpa using hb
      have hle : s1.heap.objs.size ≤ b := by
        rcases e' with z | z
        · rw [z]; exact Nat.le_add_right _ _
        · rw [z]; exact Nat.le_refl _
      exact I1.fpOk hle (I1.hok.fresh hle)
    rcases q1 with ⟨hq, q⟩ | ⟨hq, q⟩
    · obtain ⟨its, rv, p', hz⟩ := I1.list hq
      refine call_enumerate_list p'.isList fun h' he hit hsz hk => wpAny_pyIter_enum he ?_
      have I2 : Inv X pins σ H1 { s1 with heap := h' } := I1.kept (t' := s1.toks) hk
      exact ⟨s1.heap.objs.size + 1, [s1.heap.objs.size + 1, s1.heap.objs.size], _, _, H1, rfl, I2, turn_enum a (s1.heap.objs.size + 1) s1.heap.objs.size, ⟨⟨.none, he⟩, hit, Nat.succ_ne_self _⟩, key, q⟩
    · obtain ⟨its, rv, p', hz⟩ := I1.tuple hq
      have p2 : s1.heap.IsTuple a its.toArray := p'
      obtain ⟨oa, hoa, _⟩ := id p'
      have hal := Heap.lt_size hoa
      refine dl_call_enumerate (begins_tuple a its.toArray) p2 fun h' he hit hsz hk => wpAny_pyIter_enum he ?_
      have I2 : Inv X pins σ H1 { s1 with heap := h' } := I1.kept (t' := s1.toks) hk
      exact ⟨s1.heap.objs.size + 1, [s1.heap.objs.size + 1, s1.heap.objs.size], _, _, H1, rfl, I2, turn_enumT a (s1.heap.objs.size + 1) s1.heap.objs.size (Nat.ne_of_lt hal), ⟨⟨.none, he⟩, ⟨_, hit, rfl, rfl⟩, Nat.succ_ne_self _, Nat.ne_of_lt (Nat.lt_succ_of_lt hal)⟩, key, q⟩
end DL

namespace DL
open PySem L2
section
variable {X : Cx} {W : WD} {pos : Pos} {a b c : Expr} {fa fb fc : DEn} {es : List Expr}
/-! ### expressions that give a cell -/
abbrev DVn := DL.Env → Store → Out EV
def tV (G : Gd) (W : WD) (f : DVn) : TE := fun σ H Q => ∃ HF L ρ S, Rel G H HF L σ ρ S ∧ Post G W σ ρ H HF L (fun HF' L' v e => RepE G HF' L' v e) Q (f ρ S)
abbrev DV (X : Cx) (W : WD) (e : Expr) (f : DVn) : Prop := PE X e (tV (gd X W) W f)
abbrev DAE (X : Cx) (W : WD) (es : List Expr) (f : DAn) : Prop := PA X es (tA (gd X W) W f)
def mV (fa : DEn) : DVn := fun ρ S => (fa ρ S).bind fun d S1 => .ok (.v d) S1
theorem v1 (ha : DE X W a fa) : DV X W a (mV fa) := PE.imp ha fun σ H Q ⟨HF, L, ρ, S, R, p⟩ => ⟨HF, L, ρ, S, R, Post.bind p fun d S1 v H1 HF1 L1 e1 st1 R1 r1 p1 => p1.done R1 .no r1⟩
def mCel (i : Nat) : DVn := fun ρ S => match ρ[i]? with
  | some (some (.cel n)) => .ok (.cel n) S
  | _ => .bad
theorem vc (i : Nat) {x : Str} (hN : X.N[i]? = some x := by rfl) (hv : Vis X.env.scope x := by first | exact Or.inl rfl | exact Or.inr (Or.inl rfl) | exact Or.inr (Or.inr rfl)) (hd : (x == ("__debug__" : Str)) = false := by decide)
    (hcd : (x == ("__classdict__" : Str)) = false := by decide) : DV X W (.Name x pos) (mCel i) := by
  refine PE.imp (pe_var (i := i) hN hv hd hcd) fun σ H Q ⟨HF, L, ρ, S, R, p⟩ => ?_
  unfold mCel at p
  split at p
  · rename_i n e
    obtain ⟨v, h1, h2⟩ := R.env i _ e
    exact ⟨v, h1, p.done R .no h2⟩
  · exact p.elim
/-- a new cell, its content just laid at p -/
theorem Post.fresh {α : Type} {σ : L2.St} {ρ : DL.Env} {H HF : Hp} {L : List Addr} {S : Store} {Q : VK} {ds : List D} {vs : List V} {p : Addr} (R : Rel (gd X W) H HF L σ ρ S) (hp : H p = none) (r : Reps (gd X W) HF vs ds)
    (h : Post (gd X W) W σ ρ H HF L (fun HF' L' v e => RepE (gd X W) HF' L' v e) Q (.ok (.cel S.length) (S ++ [some (.lst ds)]))) : Q (.ref p) (upd H p (.lst vs)) := by
  obtain ⟨R', st⟩ := R.fresh hp r
  exact h _ _ _ _ st R' ⟨p, by rw [R.sl, List.getElem?_append_right (Nat.le_refl _)]; simp, rfl⟩
variable {fs : DDn}
def mNew (fs : DDn) : DVn := fun ρ S => (fs ρ S).bind fun xs S1 => if xs.length ≤ lim then .ok (.cel S1.length) (S1 ++ [some (.lst xs)]) else .bad
theorem vlst (hs : DA X W es fs) : DV X W (.List es pos) (mNew fs) :=
  PE.imp (pe_lst hs) fun σ H Q ⟨HF, L, ρ, S, R, p⟩ => ⟨HF, L, ρ, S, R, Post.bind p fun xs S1 vs H1 HF1 L1 e1 st1 R1 r1 p1 => by
    split at p1
    · rename_i hz
      exact ⟨by rw [r1.length]; exact Nat.le_trans hz lim_le, fun q hq => Post.fresh (α := EV) R1 hq r1 p1⟩
    · exact p1.elim⟩
/-- list(x) as a new cell -/
def mNewOf (fa : DEn) : DVn := fun ρ S => (fa ρ S).bind fun x S1 => match gList [x] with
  | some (.lst xs) => .ok (.cel S1.length) (S1 ++ [some (.lst xs)])
  | _ => .bad
theorem vlist {p : Pos} (hm : X.mg "list" = none) (ha : DE X W a fa) (hg : Gl X "list" := by rfl) (he : starEach (a :: []) X.env = (false, eval a X.env) :: starEach [] X.env := by rfl) (hpl : (backTo pos (starEach [] X.env)).any (·.1) = false := by rfl) :
    DV X W (.Call (.Name "list" p) [a] [] pos) (mNewOf fa) :=
  PE.imp (pe_callTy call_list_of hg hm PyProof.Rows.boot_list (pa_cons ha pa_nil he) (by decide) (by decide) he hpl) fun σ H Q ⟨HF, L, ρ, S, R, p⟩ => ⟨HF, L, ρ, S, R, Post.bind p fun x S1 v H1 HF1 L1 e1 st1 R1 r1 p1 => by
    cases x with
    | tup ds => cases r1 with
      | tup h1 h2 => exact ⟨_, _, rfl, .inr (SqT.mono R1.sub h1), fun l hl => Post.fresh (α := EV) R1 hl h2 p1⟩
    | lst ds => cases r1 with
      | lst h1 h2 => exact ⟨_, _, rfl, .inl (SqL.of (R1.sub _ _ h1)), fun l hl => Post.fresh (α := EV) R1 hl h2 p1⟩
    | rol ds => cases r1 with
      | rol h1 h2 => exact ⟨_, _, rfl, .inl (R1.sub.seq h1), fun l hl => Post.fresh (α := EV) R1 hl h2 p1⟩
    | _ => exact p1.elim⟩
def mNewRg (fa : DEn) : DVn := fun ρ S => (fa ρ S).bind fun x S1 => match x with
  | .int n => if n ≤ 1000000 ∧ -1000000 ≤ n then .ok (.cel S1.length) (S1 ++ [some (.lst (rgD 0 n))]) else .bad
  | _ => .bad
theorem vlistRg {p p2 pos2 : Pos} (hc : X.calm = true) (hm : X.mg "list" = none) (hm2 : X.mg "range" = none) (ha : DE X W a fa) (hg : Gl X "list" := by rfl) (hg2 : Gl X "range" := by rfl)
    (na : starEach [a] X.env = (false, eval a X.env) :: starEach [] X.env := by rfl) (na2 : starEach [Expr.Call (.Name "range" p2) [a] [] pos2] X.env = (false, eval (.Call (.Name "range" p2) [a] [] pos2) X.env) :: starEach [] X.env := by rfl) :
    DV X W (.Call (.Name "list" p) [.Call (.Name "range" p2) [a] [] pos2] [] pos) (mNewRg fa) :=
  PE.imp (pe_listRg hc hg hm (prg_1 hg2 hm2 ha na) na2) fun σ H Q ⟨HF, L, ρ, S, R, p⟩ => ⟨HF, L, ρ, S, R, Post.bind p fun x S1 v H1 HF1 L1 e1 st1 R1 r1 p1 => by
    split at p1
    · rename_i n
      cases r1
      split at p1
      · rename_i hz
        exact ⟨n, rfl, ⟨by omega, by omega, by omega, by omega, by omega⟩, fun q hq => Post.fresh (α := EV) R1 hq (rgD_reps 0 n) p1⟩
      · exact p1.elim
    · exact p1.elim⟩
/-- a cell given up: its value from now on -/
def mFrz (i : Nat) : DEn := fun ρ S => match ρ[i]? with
  | some (some (.cel n)) => match S[n]? with
    | some (some (.lst ds)) => .ok (.lst ds) (S.set n none)
    | _ => .bad
  | _ => .bad
theorem xfrz (i : Nat) {x : Str} (hN : X.N[i]? = some x := by rfl) (hv : Vis X.env.scope x := by first | exact Or.inl rfl | exact Or.inr (Or.inl rfl) | exact Or.inr (Or.inr rfl)) (hd : (x == ("__debug__" : Str)) = false := by decide)
    (hcd : (x == ("__classdict__" : Str)) = false := by decide) : DE X W (.Name x pos) (mFrz i) := by
  refine PE.imp (pe_var (i := i) hN hv hd hcd) fun σ H Q ⟨HF, L, ρ, S, R, p⟩ => ?_
  unfold mFrz at p
  split at p
  · rename_i n e
    split at p
    · rename_i ds e2
      obtain ⟨v, h1, pa, h2, h3⟩ := R.env i _ e
      subst h3
      obtain ⟨HF', R', st, r⟩ := R.freeze h2 e2
      exact ⟨_, h1, p _ _ _ _ st R' r⟩
    · exact p.elim
  · exact p.elim

/-! ### operations on a cell -/
/-- the cell's content for an operation whose answer is flat: op(cell, b), op(a, cell), f(cell) -/
def mCmpL (i : Nat) (g : D → D → Option Bool) (fb : DEn) : DTn := fun ρ S => match ρ[i]? with
  | some (some (.cel n)) => (fb ρ S).bind fun y S1 => match S1[n]? with
    | some (some (.lst ds)) => lift (g (.lst ds) y) S1
    | _ => .bad
  | _ => .bad
/-- lend a cell's content -/
theorem lend {G : Gd} {H HF : Hp} {L : List Addr} {σ : L2.St} {ρ : DL.Env} {S : Store} (R : Rel G H HF L σ ρ S) {n : Nat} {q : Addr} {ds : List D} (h1 : L[n]? = some q) (h2 : S[n]? = some (some (.lst ds))) :
    ∃ HB, Same HB H ∧ Same HF HB ∧ Rep G HB (.ref q) (.lst ds) := by
  obtain ⟨HB, R', st, r⟩ := R.freeze h1 h2
  exact ⟨HB, R'.sub, st.fro, r⟩
theorem tT.celL {i : Nat} {r : R2} {g : D → D → Option Bool} (hs : CmS (gd X W) r g) {σ : L2.St} {H : Hp} {Q : Bool → Hp → Prop} {Qv : VK} (h : tT (gd X W) W (mCmpL i g fb) σ H Q) (hq : ∀ b H', Q b H' → Qv (.bl b) H') :
    tOp r (tVar i) (tD (gd X W) W fb) σ H Qv := by
  obtain ⟨HF, L, ρ, S, R, p⟩ := h
  unfold mCmpL at p
  split at p
  · rename_i n hn
    obtain ⟨v, hv1, pa, hp1, hp2⟩ := R.env i _ hn
    subst hp2
    refine ⟨_, hv1, HF, L, ρ, S, R, Post.bind p fun y S1 w H1 HF1 L1 e1 st1 R1 r1 p1 => ?_⟩
    split at p1
    · rename_i ds hS
      obtain ⟨b, eb, p2⟩ := p1.lift
      obtain ⟨HB, s1, s2, rb⟩ := lend R1 (st1.lget hp1) hS
      exact hs (.lst ds) y (.ref pa) w H1 HB b Qv s1 rb (Rep.mono s2 r1) eb (hq b H1 (p2.done R1 .no rfl))
    · exact p1.elim
  · exact p.elim
theorem xcmpL {op : CmpOp} (i : Nat) {x : Str} {px : Pos} {g : D → D → Option Bool} (o : CmpO X W op g) (hb : DE X W b fb) (hm : behindInMarks op b = false := by first | rfl | exact nomark _) (hN : X.N[i]? = some x := by rfl) (hv : Vis X.env.scope x := by first | exact Or.inl rfl | exact Or.inr (Or.inl rfl) | exact Or.inr (Or.inr rfl)) (hd : (x == ("__debug__" : Str)) = false := by decide)
    (hcd : (x == ("__classdict__" : Str)) = false := by decide) : DE X W (.Compare (.Name x px) [op] [b] pos) (mB (mCmpL i g fb)) := by
  obtain ⟨r, h1, h2⟩ := o.has
  exact PE.imp (pe_cmpR h1 (pe_var (i := i) hN hv hd hcd) hb hm) fun σ H Q h => tT.celL h2 (tD.mB h) fun _ _ q => q
theorem ycmpL {op : CmpOp} (i : Nat) {x : Str} {px : Pos} {g : D → D → Option Bool} (o : CmpO X W op g) (hb : DE X W b fb) (hm : behindInMarks op b = false := by first | rfl | exact nomark _) (hN : X.N[i]? = some x := by rfl) (hv : Vis X.env.scope x := by first | exact Or.inl rfl | exact Or.inr (Or.inl rfl) | exact Or.inr (Or.inr rfl)) (hd : (x == ("__debug__" : Str)) = false := by decide)
    (hcd : (x == ("__classdict__" : Str)) = false := by decide) : DT X W (.Compare (.Name x px) [op] [b] pos) (mCmpL i g fb) := by
  obtain ⟨r, h1, h2⟩ := o.has
  exact PT.imp (pt_cmpR h1 (pe_var (i := i) hN hv hd hcd) hb hm) fun σ H Q h => tT.celL h2 h fun b _ q => ⟨b, rfl, q⟩
/-- f(cell), the answer flat -/
def mBiC (i : Nat) (g : List D → Option D) : DEn := fun ρ S => match ρ[i]? with
  | some (some (.cel n)) => match S[n]? with
    | some (some (.lst ds)) => match g [.lst ds] with
      | some d => if d.flat = true then .ok d S else .bad
      | none => .bad
    | _ => .bad
  | _ => .bad
theorem Rep.flatten {G : Gd} {HF HF' : Hp} {v : V} {d : D} (r : Rep G HF v d) (c : d.flat = true) : Rep G HF' v d := by
  cases d with
  | non => cases r; exact .non
  | bl _ => cases r; exact .bl _
  | int _ => cases r; exact .int _
  | str _ => cases r; exact .str _
  | _ => cases c
theorem Al.back {H HF H' HF' : Hp} (a : Al H HF H' HF') (HG : Hp) : ∃ HG', Al H HG H' HG' := by
  cases a with
  | no => exact ⟨_, .no⟩
  | new h ho => exact ⟨_, .new h ho⟩
theorem tD.biC {i : Nat} {r : List V → Hp → VK → Prop} {g : List D → Option D} (hs : CaS (gd X W) r g) {σ : L2.St} {H : Hp} {Q : VK} (h : tD (gd X W) W (mBiC i g) σ H Q) : tCB r (tCons (tVar i) tNil) σ H Q := by
  obtain ⟨HF, L, ρ, S, R, p⟩ := h
  unfold mBiC at p
  split at p
  · rename_i n hn
    split at p
    · rename_i ds hS
      split at p
      · rename_i d ed
        split at p
        · rename_i hf
          obtain ⟨v, hv1, pa, hp1, hp2⟩ := R.env i _ hn
          subst hp2
          obtain ⟨HB, s1, s2, rb⟩ := lend R hp1 hS
          refine ⟨_, hv1, hs [.lst ds] [.ref pa] H HB d Q s1 (.cons rb .nil) ed fun u H' HB' al ru => ?_⟩
          obtain ⟨HF', al'⟩ := al.back HF
          exact p.done R al' (ru.flatten hf)
        · exact p.elim
      · exact p.elim
    · exact p.elim
  · exact p.elim
theorem xbiC (i : Nat) {x f : Str} {id : String} {p px : Pos} {g : List D → Option D} (o : BiO X W (.builtin id) g) (hm : X.mg f = none) (hv : bootBuiltins f = some (.builtin id)) (hg : Gl X f := by rfl) (hn : f ≠ "__name__" := by decide) (hdb : (f == ("__debug__" : Str)) = false := by decide)
    (hN : X.N[i]? = some x := by rfl) (hvi : Vis X.env.scope x := by first | exact Or.inl rfl | exact Or.inr (Or.inl rfl) | exact Or.inr (Or.inr rfl)) (hd : (x == ("__debug__" : Str)) = false := by decide) (hcd : (x == ("__classdict__" : Str)) = false := by decide)
    (he : starEach [Expr.Name x px] X.env = (false, eval (.Name x px) X.env) :: starEach [] X.env := by rfl) (hpl : (backTo pos (starEach [] X.env)).any (·.1) = false := by rfl) : DE X W (.Call (.Name f p) [.Name x px] [] pos) (mBiC i g) := by
  obtain ⟨r, h1, h2⟩ := o.has
  exact PE.imp (pe_callB h1 hg hm hv (pa_cons (pe_var (i := i) hN hvi hd hcd) pa_nil he) hn hdb he hpl) fun σ H Q h => tD.biC h2 h
/-- tuple(cell): a tuple of its content -/
def mTupC (i : Nat) : DEn := fun ρ S => match ρ[i]? with
  | some (some (.cel n)) => match S[n]? with
    | some (some (.lst ds)) => .ok (.tup ds) S
    | _ => .bad
  | _ => .bad
theorem xtupC (i : Nat) {x : Str} {p px : Pos} (hm : X.mg "tuple" = none) (hg : Gl X "tuple" := by rfl) (hN : X.N[i]? = some x := by rfl) (hvi : Vis X.env.scope x := by first | exact Or.inl rfl | exact Or.inr (Or.inl rfl) | exact Or.inr (Or.inr rfl)) (hd : (x == ("__debug__" : Str)) = false := by decide) (hcd : (x == ("__classdict__" : Str)) = false := by decide)
    (he : starEach [Expr.Name x px] X.env = (false, eval (.Name x px) X.env) :: starEach [] X.env := by rfl) (hpl : (backTo pos (starEach [] X.env)).any (·.1) = false := by rfl) : DE X W (.Call (.Name "tuple" p) [.Name x px] [] pos) (mTupC i) := by
  refine PE.imp (pe_callTy call_tuple_of hg hm PyProof.Rows.boot_tuple (pa_cons (pe_var (i := i) hN hvi hd hcd) pa_nil he) (by decide) (by decide) he hpl) fun σ H Q ⟨HF, L, ρ, S, R, p⟩ => ?_
  unfold mTupC at p
  split at p
  · rename_i n hn
    split at p
    · rename_i ds hS
      obtain ⟨q, vs, h1, h2, h3, h4, h5⟩ := R.celAt hn hS
      exact ⟨_, h1, _, _, rfl, .inl ⟨SqL.of h3, fun l hl => p.done R (.new hl) (.tup (SqT.of upd_same) (h4.mono (same_upd (R.hf hl))))⟩⟩
    · exact p.elim
  · exact p.elim
/-- a method of a cell: what it does to the content, what it answers -/
theorem tyV_cel {K : PySem.W.Frag} {H : Hp} {q : Addr} {vs : List V} (h : H q = some (.lst vs)) : tyV K "list" (.ref q) H := .inl ⟨rfl, _, SqL.of h⟩
def mMet (i : Nat) (g : List D → List D → Option (List D × D)) (fs : DDn) : DEn := fun ρ S => match ρ[i]? with
  | some (some (.cel n)) => match S[n]? with
    | some (some (.lst _)) => (fs ρ S).bind fun ys S1 => match S1[n]? with
      | some (some (.lst ds)) => match g ds ys with
        | some (ds', d) => .ok d (S1.set n (some (.lst ds')))
        | none => .bad
      | _ => .bad
    | _ => .bad
  | _ => .bad
/-- r, by values, does what g says -/
def MeS (G : Gd) (r : V → List V → Hp → VK → Prop) (g : List D → List D → Option (List D × D)) : Prop := ∀ (q : Addr) (ds ys ds' : List D) (d : D) (vs ws : List V) (H HF : Hp) (Q : VK), H q = some (.lst vs) → Reps G HF vs ds → Reps G HF ws ys → Same HF H → g ds ys = some (ds', d) →
  (∀ u vs', Reps G HF vs' ds' → Rep G HF u d → Q u (upd H q (.lst vs'))) → r (.ref q) ws H Q
structure MeO (X : Cx) (W : WD) (name : Str) (id : String) (g : List D → List D → Option (List D × D)) : Prop where
  has : ∃ r, PlainAttrs "list" ∧ Slot "list" name id ∧ typeOf (.builtin id) = pure (.type "method_descriptor") ∧ MtR X id r ∧ MeS (gd X W) r g
theorem xmet (i : Nat) {x name : Str} {id : String} {g : List D → List D → Option (List D × D)} {px apos : Pos} {fs : DDn} (o : MeO X W name id g) (ha : DA X W (a :: es) fs) (hN : X.N[i]? = some x := by rfl) (hvi : Vis X.env.scope x := by first | exact Or.inl rfl | exact Or.inr (Or.inl rfl) | exact Or.inr (Or.inr rfl)) (hd : (x == ("__debug__" : Str)) = false := by decide) (hcd : (x == ("__classdict__" : Str)) = false := by decide)
    (hbase : attributeBase (.Name x px) name X.env (eval (.Name x px) X.env) = eval (.Name x px) X.env := by rfl)
    (hfew : ((backTo pos (starEach (a :: es) X.env)).all (fun x => !x.1) && (backToKw pos (keywordEach [] X.env)).all (fun x => x.1.isSome) && decide ((a :: es).length + ([] : List Keyword).length + (if ([] : List Keyword).isEmpty then 0 else 1) < 30)) = true := by rfl)
    (hline : (apos.endLine == pos.line) = true := by rfl) (hs : starEach (a :: es) X.env = (false, eval a X.env) :: starEach es X.env := by rfl) (hplain : (backTo pos (starEach es X.env)).any (·.1) = false := by rfl) :
    DE X W (.Call (.Attribute (.Name x px) name apos) (a :: es) [] pos) (mMet i g fs) := by
  obtain ⟨r, o1, o2, o3, o4, o5⟩ := o.has
  refine PE.imp (pe_bm o1 o2 o3 o4 (pe_var (i := i) hN hvi hd hcd) ha hbase hfew hline hs hplain) fun σ H Q ⟨HF, L, ρ, S, R, p⟩ => ?_
  unfold mMet at p
  split at p
  · rename_i n hn
    split at p
    · rename_i ds0 hS0
      obtain ⟨v, hv1, pa, hp1, hp2⟩ := R.env i _ hn
      subst hp2
      obtain ⟨q1, vs0, q2, q3⟩ := R.cell n pa _ hp1 hS0
      refine ⟨_, hv1, tyV_cel q2, HF, L, ρ, S, R, Post.bind p fun ys S1 ws H1 HF1 L1 e1 st1 R1 r1 p1 => ?_⟩
      split at p1
      · rename_i ds hS
        split at p1
        · rename_i ds' d eg
          have hp1' := st1.lget hp1
          obtain ⟨q4, vs, q5, q6⟩ := R1.cell n pa _ hp1' hS
          refine o5 pa ds ys ds' d vs ws H1 HF1 Q q5 q6 r1 R1.sub eg fun u vs' rv ru => ?_
          obtain ⟨R2, st2⟩ := R1.write hp1' hS rv
          exact p1 _ _ _ _ st2 R2 ru
        · exact p1.elim
      · exact p1.elim
    · exact p.elim
  · exact p.elim
/-- .. without arguments -/
theorem xmet0 (i : Nat) {x name : Str} {id : String} {g : List D → List D → Option (List D × D)} {px apos : Pos} (o : MeO X W name id g) (hN : X.N[i]? = some x := by rfl) (hvi : Vis X.env.scope x := by first | exact Or.inl rfl | exact Or.inr (Or.inl rfl) | exact Or.inr (Or.inr rfl)) (hd : (x == ("__debug__" : Str)) = false := by decide) (hcd : (x == ("__classdict__" : Str)) = false := by decide)
    (hbase : attributeBase (.Name x px) name X.env (eval (.Name x px) X.env) = eval (.Name x px) X.env := by rfl) (hline : (apos.endLine == pos.line) = true := by rfl) :
    DE X W (.Call (.Attribute (.Name x px) name apos) [] [] pos) (mMet i g mNil) := by
  obtain ⟨r, o1, o2, o3, o4, o5⟩ := o.has
  refine PE.imp (pe_bm0 o1 o2 o3 o4 (pe_var (i := i) hN hvi hd hcd) hbase hline) fun σ H Q ⟨HF, L, ρ, S, R, p⟩ => ?_
  unfold mMet at p
  split at p
  · rename_i n hn
    split at p
    · rename_i ds0 hS0
      obtain ⟨v, hv1, pa, hp1, hp2⟩ := R.env i _ hn
      subst hp2
      obtain ⟨q1, vs0, q2, q3⟩ := R.cell n pa _ hp1 hS0
      refine ⟨_, hv1, tyV_cel q2, ?_⟩
      have p : Post (gd X W) W σ ρ H HF L (fun HF' _ v d => Rep (gd X W) HF' v d) Q (match S[n]? with
        | some (some (.lst ds)) => match g ds [] with
          | some (ds', d) => .ok d (S.set n (some (.lst ds')))
          | none => .bad
        | _ => .bad) := p
      split at p
      · rename_i ds hS
        split at p
        · rename_i ds' d eg
          obtain ⟨q4, vs, q5, q6⟩ := R.cell n pa _ hp1 hS
          refine o5 pa ds [] ds' d vs [] H HF Q q5 q6 .nil R.sub eg fun u vs' rv ru => ?_
          obtain ⟨R2, st2⟩ := R.write hp1 hS rv
          exact p _ _ _ _ st2 R2 ru
        · exact p.elim
      · exact p.elim
    · exact p.elim
  · exact p.elim
def gApp : List D → List D → Option (List D × D)
  | ds, [y] => if ds.length < lim then some (ds ++ [y], .non) else none
  | _, _ => none
theorem meApp : MeO X W "append" "list.append" gApp := by
  refine ⟨rAppend, PySem.F.plainAttrs_list, PySem.F.slot_list_append, PySem.F.type_list_append, mt_append, fun q ds ys ds' d vs ws H HF Q hq r1 r2 sub e k => ?_⟩
  unfold gApp at e
  split at e
  · split at e
    · rename_i y hz
      cases e
      obtain ⟨w, rfl, rw'⟩ := r2.one
      exact ⟨q, vs, w, rfl, rfl, hq, by rw [r1.length]; exact Nat.lt_of_lt_of_le hz lim_le, k _ _ (r1.append (.cons rw' .nil)) .non⟩
    · cases e
  · cases e
def gPop : List D → List D → Option (List D × D)
  | ds, [] => (ds[ds.length - 1]?).map fun d => (ds.dropLast, d)
  | _, _ => none
theorem mePop : MeO X W "pop" "list.pop" gPop := by
  refine ⟨rPop, PySem.F.plainAttrs_list, PySem.F.slot_list_pop, PySem.F.type_list_pop, mt_pop, fun q ds ys ds' d vs ws H HF Q hq r1 r2 sub e k => ?_⟩
  unfold gPop at e
  split at e
  · cases h : ds[ds.length - 1]? with
    | none => rw [h] at e; cases e
    | some y =>
      rw [h] at e
      cases e
      cases r2
      obtain ⟨v, e1, e2⟩ := r1.get h
      exact ⟨q, vs, v, rfl, rfl, hq, by rw [r1.length]; exact e1, k _ _ r1.dropLast e2⟩
  · cases e
def gPopAt : List D → List D → Option (List D × D)
  | ds, [.int i] => if ds.length ≤ lim then (ixN ds.length i).bind fun k => (ds[k]?).map fun d => (ds.eraseIdx k, d) else none
  | _, _ => none
theorem mePopAt : MeO X W "pop" "list.pop" gPopAt := by
  refine ⟨rPopAt, PySem.F.plainAttrs_list, PySem.F.slot_list_pop, PySem.F.type_list_pop, mt_popAt, fun q ds ys ds' d vs ws H HF Q hq r1 r2 sub e k => ?_⟩
  unfold gPopAt at e
  split at e
  · rename_i i
    split at e
    · rename_i hz
      cases h : ixN ds.length i with
      | none => rw [h] at e; cases e
      | some j =>
        rw [h] at e
        cases h2 : ds[j]? with
        | none => simp only [Option.bind_some, h2] at e; cases e
        | some y =>
          simp only [Option.bind_some, h2, Option.map_some, Option.some.injEq, Prod.mk.injEq] at e
          obtain ⟨e1, e2⟩ := e
          subst e1; subst e2
          obtain ⟨w, rfl, rw'⟩ := r2.one
          cases rw'
          obtain ⟨v, g1, g2⟩ := r1.get h2
          obtain ⟨s1, s2, s3, s4⟩ := ixN_seq h
          have hz' : ds.length ≤ 1000000 := hz
          exact ⟨q, vs, i, j, v, rfl, rfl, hq, by omega, by omega, by rw [r1.length]; exact s1, g1, k _ _ (r1.erase j) g2⟩
    · cases e
  · cases e
end
end DL

namespace DL
open PySem PySem.Spec PyProof.Rows L2
/-! ### calls of the program's own defs -/
def cels : List EV → List Nat
  | [] => []
  | .v _ :: r => cels r
  | .cel n :: r => n :: cels r
  | .exn _ :: r => cels r
def renum : Nat → List EV → List EV
  | _, [] => []
  | k, .v d :: r => .v d :: renum k r
  | k, .cel _ :: r => .cel k :: renum (k + 1) r
  | k, .exn x :: r => .exn x :: renum k r
def getCs (S : Store) : List Nat → Option (List (Option Cell))
  | [] => some []
  | n :: ns => match S[n]? with
    | some (some c) => (getCs S ns).map (some c :: ·)
    | _ => none
def putCs (S : Store) : List Nat → List (Option Cell) → Store
  | n :: ns, c :: cs => putCs (S.set n c) ns cs
  | _, _ => S
def callD (f : Den) (es : List EV) (S : Store) : Out D :=
  if (cels es).Nodup then match getCs S (cels es) with
    | some cs => match f (renum 0 es) cs with
      | .ok d S' => if S'.length = (cels es).length then .ok d (putCs S (cels es) S') else .bad
      | .ex x S' => if S'.length = (cels es).length then .ex x (putCs S (cels es) S') else .bad
      | .bad => .bad
    | none => .bad
  else .bad
theorem putCs_length : ∀ (ns : List Nat) (S : Store) (cs : List (Option Cell)), (putCs S ns cs).length = S.length
  | [], _, _ => by unfold putCs; rfl
  | n :: ns, S, [] => by unfold putCs; rfl
  | n :: ns, S, c :: cs => by
    show (putCs (S.set n c) ns cs).length = S.length
    rw [putCs_length ns, List.length_set]
theorem putCs_not : ∀ (ns : List Nat) (S : Store) (cs : List (Option Cell)) {n : Nat}, n ∉ ns → (putCs S ns cs)[n]? = S[n]?
  | [], _, _, _, _ => by unfold putCs; rfl
  | m :: ns, S, [], _, _ => by unfold putCs; rfl
  | m :: ns, S, c :: cs, n, h => by
    show (putCs (S.set m c) ns cs)[n]? = S[n]?
    rw [putCs_not ns _ cs (fun z => h (List.mem_cons_of_mem _ z)), List.getElem?_set_ne (fun z => h (by rw [← z]; exact List.mem_cons_self))]
theorem putCs_mem : ∀ (ns : List Nat) (S : Store) (cs : List (Option Cell)) {k n : Nat}, ns.Nodup → cs.length = ns.length → ns[k]? = some n → n < S.length → (putCs S ns cs)[n]? = cs[k]?
  | [], _, _, _, _, _, _, h, _ => by simp at h
  | m :: ns, S, [], _, _, _, h, _, _ => by simp at h
  | m :: ns, S, c :: cs, 0, n, nd, hl, h, hn => by
    simp at h; subst h
    show (putCs (S.set m c) ns cs)[m]? = _
    rw [putCs_not ns _ cs (List.nodup_cons.mp nd).1, List.getElem?_set_self hn]
    rfl
  | m :: ns, S, c :: cs, k + 1, n, nd, hl, h, hn => by
    show (putCs (S.set m c) ns cs)[n]? = _
    rw [putCs_mem ns (S.set m c) cs (k := k) (List.nodup_cons.mp nd).2 (by simpa using hl) (by simpa using h) (by simpa using hn)]
    simp
theorem getCs_length {S : Store} : ∀ {ns : List Nat} {cs : List (Option Cell)}, getCs S ns = some cs → cs.length = ns.length
  | [], cs, h => by cases h; rfl
  | n :: ns, cs, h => by
    unfold getCs at h
    split at h
    · cases q : getCs S ns with
      | none => rw [q] at h; cases h
      | some cs' =>
        rw [q] at h; cases h
        simp [getCs_length q]
    · cases h
theorem getCs_get {S : Store} : ∀ {ns : List Nat} {cs : List (Option Cell)} {k n : Nat}, getCs S ns = some cs → ns[k]? = some n → S[n]? = cs[k]? ∧ n < S.length
  | [], _, _, _, _, h => by simp at h
  | m :: ns, cs, k, n, h, e => by
    unfold getCs at h
    split at h
    · rename_i c hc
      cases q : getCs S ns with
      | none => rw [q] at h; cases h
      | some cs' =>
        rw [q] at h; cases h
        cases k with
        | zero =>
          simp at e; subst e
          exact ⟨by rw [hc]; rfl, (List.getElem?_eq_some_iff.mp hc).1⟩
        | succ k =>
          obtain ⟨h1, h2⟩ := getCs_get q (k := k) (n := n) (by simpa using e)
          exact ⟨by rw [h1]; simp, h2⟩
    · cases h
def pick (L : List Addr) (ns : List Nat) : List Addr := ns.map fun n => L[n]?.getD 0
theorem pick_get {L : List Addr} {ns : List Nat} {k n : Nat} {a : Addr} (h : ns[k]? = some n) (e : L[n]? = some a) : (pick L ns)[k]? = some a := by
  unfold pick
  rw [List.getElem?_map, h]
  show some (L[n]?.getD 0) = some a
  rw [e]; rfl
section
variable {G : Gd} {H HF : Hp} {L : List Addr} {σ : L2.St} {ρ : DL.Env} {S : Store}
theorem renum_reps {HF : Hp} {L : List Addr} {M : List Addr} : ∀ {es : List EV} {vs : List V} {k : Nat}, RepEs G HF L vs es → (∀ j n a, (cels es)[j]? = some n → L[n]? = some a → M[k + j]? = some a) → RepEs G HF M vs (renum k es)
  | [], _, _, h, _ => by cases h; exact .nil
  | .v d :: es, _, k, h, f => by
    cases h with
    | cons h1 h2 => exact .cons h1 (renum_reps h2 f)
  | .exn x :: es, _, k, h, f => by
    cases h with
    | cons h1 h2 => exact .cons h1 (renum_reps h2 f)
  | .cel n :: es, _, k, h, f => by
    cases h with
    | cons h1 h2 =>
      obtain ⟨a, e1, e2⟩ := h1
      exact .cons ⟨a, f 0 n a rfl e1, e2⟩ (renum_reps (k := k + 1) h2 fun j m b q1 q2 => by
        have := f (j + 1) m b (by simpa [cels] using q1) q2
        rw [show k + (j + 1) = k + 1 + j by omega] at this
        exact this)
theorem cels_get {es : List EV} {vs : List V} (r : RepEs G HF L vs es) : ∀ {k n : Nat}, (cels es)[k]? = some n → ∃ a, L[n]? = some a := by
  induction r with
  | nil => intro k n h; simp [cels] at h
  | @cons v vs d ds h1 h2 ih =>
    cases d with
    | v d => exact fun h => ih h
    | exn x => exact fun h => ih h
    | cel m =>
      intro k n h
      cases k with
      | zero =>
        simp [cels] at h; subst h
        obtain ⟨a, e1, _⟩ := h1
        exact ⟨a, e1⟩
      | succ k => exact ih (k := k) (by simpa [cels] using h)
theorem pick_at {es : List EV} {vs : List V} (r : RepEs G HF L vs es) {k : Nat} {a : Addr} (h : (pick L (cels es))[k]? = some a) : ∃ n, (cels es)[k]? = some n ∧ L[n]? = some a := by
  unfold pick at h
  rw [List.getElem?_map] at h
  cases q : (cels es)[k]? with
  | none => rw [q] at h; cases h
  | some n =>
    rw [q] at h
    obtain ⟨b, e⟩ := cels_get r q
    have h' : some (L[n]?.getD 0) = some a := h
    rw [e] at h'
    cases h'
    exact ⟨n, rfl, e⟩
/-- the callee's view -/
theorem Rel.enter (R : Rel G H HF L σ ρ S) {es : List EV} {vs : List V} {cs : List (Option Cell)} (r : RepEs G HF L vs es) (nd : (cels es).Nodup) (hc : getCs S (cels es) = some cs) :
    Rel G H HF (pick L (cels es)) [] [] cs ∧ RepEs G HF (pick L (cels es)) vs (renum 0 es) := by
  refine ⟨⟨R.sub, ?_, ?_, fun a ha => ?_, R.tab, R.nft, fun k a c h1 h2 => ?_, rfl, fun i e h => by simp at h⟩, renum_reps r fun j n a q1 q2 => by rw [Nat.zero_add]; exact pick_get q1 q2⟩
  · refine List.pairwise_iff_getElem.mpr fun i j hi hj hij e => ?_
    obtain ⟨n, n1, n2⟩ := pick_at r (List.getElem?_eq_getElem hj)
    obtain ⟨m, m1, m2⟩ := pick_at r ((List.getElem?_eq_getElem hi).trans (congrArg some e))
    have hnm : n = m := nodup_get R.nd n2 m2
    subst hnm
    have := nodup_get nd m1 n1
    omega
  · rw [getCs_length hc]; unfold pick; simp
  · obtain ⟨k, hk⟩ := List.mem_iff_getElem?.mp ha
    obtain ⟨n, _, n2⟩ := pick_at r hk
    exact R.liv a (List.mem_of_getElem? n2)
  · obtain ⟨n, n1, n2⟩ := pick_at r h1
    obtain ⟨e1, _⟩ := getCs_get hc n1
    exact R.cell n a c n2 (by rw [e1]; exact h2)
/-- back in the caller -/
theorem Rel.back (R : Rel G H HF L σ ρ S) {es : List EV} {vs : List V} {cs cs' : List (Option Cell)} {H' HF' : Hp} (r : RepEs G HF L vs es) (nd : (cels es).Nodup) (hc : getCs S (cels es) = some cs)
    (st : Step H HF (pick L (cels es)) H' HF' (pick L (cels es))) (R' : Rel G H' HF' (pick L (cels es)) [] [] cs') (hl : cs'.length = (cels es).length) :
    Rel G H' HF' L σ ρ (putCs S (cels es) cs') ∧ Step H HF L H' HF' L := by
  have sub : ∀ a, a ∈ pick L (cels es) → a ∈ L := fun a ha => by
    obtain ⟨k, hk⟩ := List.mem_iff_getElem?.mp ha
    obtain ⟨n, _, n2⟩ := pick_at r hk
    exact List.mem_of_getElem? n2
  refine ⟨⟨R'.sub, R.nd, by rw [putCs_length]; exact R.sl, fun a ha => ?_, R'.tab, R'.nft, fun n a c h1 h2 => ?_, R.el, fun i e h => ?_⟩,
    ⟨fun b o hb nt q => st.keep b o (fun z => hb (sub b z)) nt q, st.nn, st.fro, fun a o ha q nt z => st.new a o (fun y => ha (sub a y)) q nt z, [], by simp, by simp⟩⟩
  · by_cases hp : a ∈ pick L (cels es)
    · exact R'.liv a hp
    · obtain ⟨o, e, hm⟩ := R.liv a ha
      exact ⟨o, st.keep a o hp hm.nt e, hm⟩
  · by_cases hn : n ∈ cels es
    · obtain ⟨k, hk⟩ := List.mem_iff_getElem?.mp hn
      obtain ⟨_, hlt⟩ := getCs_get hc hk
      rw [putCs_mem _ _ _ nd hl hk hlt] at h2
      exact R'.cell k a c (pick_get hk h1) h2
    · rw [putCs_not _ _ _ hn] at h2
      obtain ⟨q1, q2⟩ := R.cell n a c h1 h2
      have na : a ∉ pick L (cels es) := fun z => by
        obtain ⟨k, hk⟩ := List.mem_iff_getElem?.mp z
        obtain ⟨m, m1, m2⟩ := pick_at r hk
        have := nodup_get R.nd h1 m2
        subst this
        exact hn (List.mem_of_getElem? m1)
      obtain ⟨o, e, hm⟩ := R.liv a (List.mem_of_getElem? h1)
      refine ⟨st.new a o na q1 hm e, q2.up ?_ st.fro⟩
      rw [e]
      exact st.keep a o na hm.nt e
  · obtain ⟨v, e1, e2⟩ := R.env i e h
    refine ⟨v, e1, ?_⟩
    cases e with
    | v d => exact Rep.mono st.fro e2
    | cel n => exact e2
    | exn x =>
      obtain ⟨b, cls, dd, k1, k2, k3⟩ := e2
      exact ⟨b, cls, dd, k1, k2, k3.mono st.fro⟩
end
def PostF (G : Gd) (H HF : Hp) (L : List Addr) (Q : VK) (E : XK) : Out D → Prop
  | .ok d S' => ∀ v H' HF', Step H HF L H' HF' L → Rel G H' HF' L [] [] S' → Rep G HF' v d → Q v H'
  | .ex x S' => ∀ cls dd H' HF', Step H HF L H' HF' L → Rel G H' HF' L [] [] S' → ExRep G x HF' cls dd → E cls dd H'
  | .bad => False
/-- a def does what f says -/
def spD (G : Gd) (n : Nat) (f : Den) : Sp := fun vs H Q E => vs.length = n ∧ ∃ HF L es S, Rel G H HF L [] [] S ∧ RepEs G HF L vs es ∧ PostF G H HF L Q E (f es S)
theorem PostF.of {X : Cx} {W : WD} {σ : L2.St} {ρ : DL.Env} {H HF : Hp} {L : List Addr} {S : Store} {Q : VK} {f : Den} {es : List EV} {vs : List V} (R : Rel (gd X W) H HF L σ ρ S) (r : RepEs (gd X W) HF L vs es)
    (p : Post (gd X W) W σ ρ H HF L (fun HF' _ v d => Rep (gd X W) HF' v d) Q (callD f es S)) : spD (gd X W) vs.length f vs H Q (WE W.w σ) := by
  unfold callD at p
  split at p
  · rename_i nd
    split at p
    · rename_i cs hc
      obtain ⟨R1, r1⟩ := R.enter r nd hc
      refine ⟨rfl, HF, _, _, cs, R1, r1, ?_⟩
      cases q : f (renum 0 es) cs with
      | ok d S' =>
        rw [q] at p
        have p : Post (gd X W) W σ ρ H HF L (fun HF' _ v d => Rep (gd X W) HF' v d) Q (if S'.length = (cels es).length then .ok d (putCs S (cels es) S') else .bad) := p
        split at p
        · rename_i hl
          intro v H' HF' st R' rv
          obtain ⟨R2, st2⟩ := R.back r nd hc st R' hl
          exact p v H' HF' L st2 R2 rv
        · exact p.elim
      | ex x S' =>
        rw [q] at p
        have p : Post (gd X W) W σ ρ H HF L (fun HF' _ v d => Rep (gd X W) HF' v d) Q (if S'.length = (cels es).length then .ex x (putCs S (cels es) S') else .bad) := p
        split at p
        · rename_i hl
          intro cls dd H' HF' st R' rv
          obtain ⟨R2, st2⟩ := R.back r nd hc st R' hl
          exact p cls dd H' HF' L st2 R2 rv
        · exact p.elim
      | bad => rw [q] at p; exact p.elim
    · exact p.elim
  · exact p.elim
/-- a def of the text, by its name: it does what f says, at level k -/
structure Dfn (P : Program) (w : World) (G : Gd) (base : Heap) (k : Nat) (x : Str) (n : Nat) (f : Den) : Prop where
  has : ∃ (a : Addr) (fd : FuncData) (ps : List Str), G.mg x = some (.ref a) ∧ PySem.W.keepIn G.K (.ref a) = true ∧ Binds G.K fd ps [] ∧ ps.length = n ∧ FnOk P w G.K G.mg base (L2.CX P w) k a fd ps (spD G n f)
theorem Dfn.mono {P : Program} {w : World} {G : Gd} {base : Heap} {j k : Nat} {x : Str} {n : Nat} {f : Den} (d : Dfn P w G base j x n f) (h : j ≤ k) : Dfn P w G base k x n f := by
  obtain ⟨a, fd, ps, h1, h2, h3, h4, h5⟩ := d.has
  exact ⟨a, fd, ps, h1, h2, h3, h4, h5.mono h⟩
section
variable {X : Cx} {W : WD} {pos : Pos} {a b c : Expr} {fa fb fc : DEn} {es : List Expr}
def mNilE : DAn := fun _ S => .ok [] S
def mConsE (fa : DVn) (fs : DAn) : DAn := fun ρ S => (fa ρ S).bind fun x S1 => (fs ρ S1).bind fun xs S2 => .ok (x :: xs) S2
theorem e0 : DAE X W [] mNilE := PA.imp pa_nil fun σ H Q ⟨HF, L, ρ, S, R, p⟩ => p.done R .no .nil
theorem e1 {fv : DVn} {fs : DAn} (ha : DV X W a fv) (hs : DAE X W es fs) (he : starEach (a :: es) X.env = (false, eval a X.env) :: starEach es X.env := by rfl) : DAE X W (a :: es) (mConsE fv fs) :=
  PA.imp (pa_cons ha hs he) fun σ H Q ⟨HF, L, ρ, S, R, p⟩ => ⟨HF, L, ρ, S, R, Post.bind p fun x S1 v H1 HF1 L1 e1 st1 R1 r1 p1 =>
    ⟨HF1, L1, ρ, S1, R1, Post.bind p1 fun xs S2 vs H2 HF2 L2 e2 st2 R2 r2 p2 => p2.done R2 .no (.cons (RepE.mono st2 r1) r2)⟩⟩
def mCall (f : Den) (n : Nat) (fs : DAn) : DEn := fun ρ S => (fs ρ S).bind fun xs S1 => if xs.length = n then callD f xs S1 else .bad
theorem xcall {x : Str} {p : Pos} {k n : Nat} {f : Den} {fs : DAn} (d : Dfn X.prog X.w (gd X W) X.base k x n f) (hr : Room k X.A) (tk : Takes X W.w) (ha : DAE X W (a :: es) fs) (hg : Gl X x := by rfl) (hdb : (x == ("__debug__" : Str)) = false := by decide)
    (he : starEach (a :: es) X.env = (false, eval a X.env) :: starEach es X.env := by rfl) (hpl : (backTo pos (starEach es X.env)).any (·.1) = false := by rfl) : DE X W (.Call (.Name x p) (a :: es) [] pos) (mCall f n fs) := by
  obtain ⟨ad, fd, ps, h1, h2, h3, h4, h5⟩ := d.has
  refine PE.imp (pe_callS h5 hr hg h1 h2 h3 (fun σ => passAt tk σ) ha hdb he hpl) fun σ H Q ⟨HF, L, ρ, S, R, p⟩ => ⟨HF, L, ρ, S, R, Post.bind p fun xs S1 vs H1 HF1 L1 e1 st1 R1 r1 p1 => ?_⟩
  split at p1
  · rename_i hl
    have e : vs.length = n := by rw [r1.length]; exact hl
    have := PostF.of R1 r1 p1
    rw [e] at this
    exact this
  · exact p1.elim
/-- a call of a parameter that holds a def: T tells what the defs' names mean -/
def mCallL (i : Nat) (T : Str → Option (Nat × Den)) (fs : DAn) : DEn := fun ρ S => match ρ[i]? with
  | some (some (.v (.fn x))) => match T x with
    | some (n, f) => (fs ρ S).bind fun xs S1 => if xs.length = n then callD f xs S1 else .bad
    | none => .bad
  | _ => .bad
theorem xcallL (i : Nat) {y : Str} {p : Pos} {k : Nat} {T : Str → Option (Nat × Den)} {fs : DAn} (d : ∀ x n f, T x = some (n, f) → Dfn X.prog X.w (gd X W) X.base k x n f) (hr : Room k X.A) (tk : Takes X W.w) (ha : DAE X W (a :: es) fs)
    (hN : X.N[i]? = some y := by rfl) (hvi : Vis X.env.scope y := by first | exact Or.inl rfl | exact Or.inr (Or.inl rfl) | exact Or.inr (Or.inr rfl)) (hdb : (y == ("__debug__" : Str)) = false := by decide) (hcd : (y == ("__classdict__" : Str)) = false := by decide)
    (he : starEach (a :: es) X.env = (false, eval a X.env) :: starEach es X.env := by rfl) (hpl : (backTo pos (starEach es X.env)).any (·.1) = false := by rfl) : DE X W (.Call (.Name y p) (a :: es) [] pos) (mCallL i T fs) := by
  refine ⟨fun pins s σ H Q I ⟨HF, L, ρ, S, R, h⟩ => ?_⟩
  unfold mCallL at h
  split at h
  · rename_i x hx
    split at h
    · rename_i n f hT
      obtain ⟨ad, fd, ps, h1, h2, h3, h4, h5⟩ := (d x n f hT).has
      obtain ⟨v, hv1, hv2⟩ := R.env i _ hx
      have hv2 : Rep (gd X W) HF v (.fn x) := hv2
      cases hv2 with
      | @fn a' n' hm' =>
        have e : a' = ad := by
          have z : some (Value.ref a') = some (Value.ref ad) := hm'.symm.trans h1
          cases z; rfl
        subst e
        refine wpAny_Call_Name_kw (thn ((pe_var (pos := p) hN hvi hdb hcd).run pins s σ H (fun v H1 => v = .ref a' ∧ H1 = H) I ⟨.ref a', hv1, rfl, rfl⟩) fun u s1 ⟨v, H1, I1, r1, q1⟩ => ?_)
        obtain ⟨rfl, rfl⟩ := q1
        cases r1
        have ht : tA (gd X W) W fs σ H1 (fun vs H2 => spD (gd X W) n f vs H2 Q (WE W.w σ)) := ⟨HF, L, ρ, S, R, Post.bind h fun xs S1 vs H2 HF2 L2 e2 st2 R2 r2 p2 => by
          split at p2
          · rename_i hl
            have e : vs.length = n := by rw [r2.length]; exact hl
            have := PostF.of R2 r2 p2
            rw [e] at this
            exact this
          · exact p2.elim⟩
        refine PySem.W.callWith_K (h₀ := X.base) I.ok.mod.kin h2 (thn (ha.run pos pins s1 σ _ _ I1 ht) fun us s2 ⟨vs, H2, I2, r, q⟩ => ⟨I2.kIn, ?_⟩) he hpl
        exact run_fnS h5 hr h3 (passAt tk σ) I2 r q
    · exact h.elim
  · exact h.elim
end
end DL

namespace DL
open PySem PySem.Spec PyProof.Rows L2
/-! ### what a loop's or a comprehension's turn stores: names, tuples of them -/
inductive Tg where
  | nm (i : Nat) | tp (ts : List Tg)
mutual
def tgG (K : PySem.W.Frag) : Tg → TG
  | .nm i => gName i
  | .tp ts => gTup K ts.length (tgGs K ts)
def tgGs (K : PySem.W.Frag) : List Tg → TGs
  | [] => gNil
  | t :: ts => gCons (tgG K t) (tgGs K ts)
end
mutual
def Tg.slots : Tg → List Nat
  | .nm i => [i]
  | .tp ts => slotsL ts
def slotsL : List Tg → List Nat
  | [] => []
  | t :: ts => t.slots ++ slotsL ts
end
mutual
def asg : Tg → D → DL.Env → Option DL.Env
  | .nm i, d, ρ => some (ρ.set i (some (.v d)))
  | .tp ts, .tup ds, ρ => asgs ts ds ρ
  | .tp _, _, _ => none
def asgs : List Tg → List D → DL.Env → Option DL.Env
  | [], [], ρ => some ρ
  | t :: ts, d :: ds, ρ => (asg t d ρ).bind fun ρ' => asgs ts ds ρ'
  | _, _, _ => none
end
def sets (σ : L2.St) (ws : List (Nat × V)) : L2.St := ws.foldl (fun s w => s.set w.1 (some w.2)) σ
theorem asgs_len : ∀ {ts : List Tg} {ds : List D} {ρ ρ' : DL.Env}, asgs ts ds ρ = some ρ' → ds.length = ts.length
  | [], [], _, _, _ => rfl
  | [], _ :: _, _, _, e => by cases e
  | _ :: _, [], _, _, e => by cases e
  | t :: ts, d :: ds, ρ, ρ', e => by
    have e : (asg t d ρ).bind (fun ρ1 => asgs ts ds ρ1) = some ρ' := e
    cases q : asg t d ρ with
    | none => rw [q] at e; cases e
    | some ρ1 =>
      rw [q] at e
      have := asgs_len (ρ := ρ1) (ρ' := ρ') e
      simp [this]
section
variable {G : Gd} {H HF : Hp} {L : List Addr} {S : Store}
mutual
theorem tgG_ok : ∀ (t : Tg) {Q : L2.St → Hp → Prop} {d : D} {v : V} {σ : L2.St} {ρ ρ' : DL.Env}, Rel G H HF L σ ρ S → Rep G HF v d → asg t d ρ = some ρ' → (∀ ws : List (Nat × V), (∀ p ∈ ws, p.1 ∈ t.slots) → Rel G H HF L (sets σ ws) ρ' S → Q (sets σ ws) H) → tgG G.K t v σ H Q
  | .nm i, Q, d, v, σ, ρ, ρ', R, r, e, k => by
    cases e
    exact k [(i, v)] (by simp [Tg.slots]) (R.store (e := .v d) r i)
  | .tp ts, Q, d, v, σ, ρ, ρ', R, r, e, k => by
    cases d with
    | tup ds =>
      have e : asgs ts ds ρ = some ρ' := e
      cases r with
      | @tup a xs ds hs hr => exact ⟨a, xs, rfl, SqT.mono R.sub hs, by rw [hr.length]; exact asgs_len e, tgGs_ok ts R hr e k⟩
    | _ => cases e
theorem tgGs_ok : ∀ (ts : List Tg) {Q : L2.St → Hp → Prop} {ds : List D} {vs : List V} {σ : L2.St} {ρ ρ' : DL.Env}, Rel G H HF L σ ρ S → Reps G HF vs ds → asgs ts ds ρ = some ρ' → (∀ ws : List (Nat × V), (∀ p ∈ ws, p.1 ∈ slotsL ts) → Rel G H HF L (sets σ ws) ρ' S → Q (sets σ ws) H) → tgGs G.K ts vs σ H Q
  | [], Q, ds, vs, σ, ρ, ρ', R, r, e, k => by
    cases ds with
    | nil =>
      cases r
      cases e
      exact ⟨rfl, k [] (by simp) R⟩
    | cons _ _ => cases e
  | t :: ts, Q, ds, vs, σ, ρ, ρ', R, r, e, k => by
    cases ds with
    | nil => cases e
    | cons d ds =>
      cases r with
      | cons r1 r2 =>
        have e : (asg t d ρ).bind (fun ρ1 => asgs ts ds ρ1) = some ρ' := e
        cases q : asg t d ρ with
        | none => rw [q] at e; cases e
        | some ρ1 =>
          rw [q] at e
          refine ⟨_, _, rfl, tgG_ok t R r1 q fun ws hw R1 => tgGs_ok ts R1 r2 e fun us hu R2 => ?_⟩
          have e3 : sets (sets σ ws) us = sets σ (ws ++ us) := by unfold sets; rw [List.foldl_append]
          rw [e3] at R2 ⊢
          refine k (ws ++ us) (fun p hp => ?_) R2
          rcases List.mem_append.mp hp with z | z
          · exact List.mem_append_left _ (hw p z)
          · exact List.mem_append_right _ (hu p z)
end
end
section
variable {X : Cx} {W : WD} {pos : Pos}
theorem q1 {i : Nat} {x : Str} (hN : X.N.Nodup) (hi : X.N[i]? = some x := by rfl) (hx : Loc X.env.scope x := by first | exact Or.inl rfl | exact Or.inr rfl) (hf : X.fn x = true ∨ X.env.scope.names.lookup x = some .local := by first | exact .inl rfl | exact .inr rfl | assumption) : PG X (.Name x pos) (tgG X.K (.nm i)) := pg_name hN hi hx hf
theorem qs0 : PGs X [] (tgGs X.K []) := pgs_nil
theorem qs1 {e : Expr} {es : List Expr} {t : Tg} {ts : List Tg} (h1 : PG X e (tgG X.K t)) (h2 : PGs X es (tgGs X.K ts)) (hs : (assignEach (e :: es) X.env).map (·.2) = assign e X.env :: (assignEach es X.env).map (·.2) := by rfl) : PGs X (e :: es) (tgGs X.K (t :: ts)) := pgs_cons h1 h2 hs
theorem qt {es : List Expr} {k : Nat} {ts : List Tg} (hc : X.calm = true) (h : PGs X es (tgGs X.K ts)) (hn : (assignEach es X.env).length = ts.length := by rfl) (hst : (assignEach es X.env).findIdx? (·.1) = none := by rfl) : PG X (.Tuple es k pos) (tgG X.K (.tp ts)) := pg_tup hc h hn hst
end

/-! ### what is walked -/
structure ItD (G : Gd) (J : It) (HF : Hp) (ds : List D) : Prop where
  go : ∀ (i : Nat) (H1 HF1 : Hp), Same HF HF1 → Same HF1 H1 → i < ds.length → J.go i H1
  yld : ∀ (i : Nat) (x : V) (H1 HF1 H2 : Hp) (d : D), Same HF HF1 → Same HF1 H1 → ds[i]? = some d → J.yld i H1 x H2 → ∃ HF2, Al H1 HF1 H2 HF2 ∧ Rep G HF2 x d
  stop : ∀ (i : Nat) (H1 HF1 : Hp), Same HF HF1 → Same HF1 H1 → ds.length ≤ i → J.stop i H1
def tI (G : Gd) (W : WD) (f : DDn) : TI := fun σ H R => ∃ HF L ρ S, Rel G H HF L σ ρ S ∧ Post G W σ ρ H HF L (fun HF' _ J ds => ItD G J HF' ds) R (f ρ S)
abbrev DI (X : Cx) (W : WD) (tg e : Expr) (f : DDn) : Prop := PI X tg e (tI (gd X W) W f)
theorem PI.imp {X : Cx} {tg e : Expr} {t t' : TI} (h : PI X tg e t) (k : ∀ σ H R, t' σ H R → t σ H R) : PI X tg e t' := ⟨fun pins s σ H R I q => h.run pins s σ H R I (k σ H R q)⟩
theorem itd_list {G : Gd} {HF : Hp} {a : Addr} {xs : List V} {ds : List D} (h : SqL G.K HF a xs) (r : Reps G HF xs ds) : ItD G (Itl G.K a) HF ds where
  go := fun i H1 HF1 s1 s2 hi => ⟨xs, xs[i]'(by rw [r.length]; exact hi), (s1.trans s2).seq h, by simp⟩
  yld := fun i x H1 HF1 H2 d s1 s2 hd ⟨e, hx⟩ => by
    subst e
    obtain ⟨v, e1, e2⟩ := r.get hd
    have e3 := hx xs ((s1.trans s2).seq h)
    rw [e1] at e3; cases e3
    exact ⟨HF1, .no, Rep.mono s1 e2⟩
  stop := fun i H1 HF1 s1 s2 hi => ⟨xs, (s1.trans s2).seq h, by rw [r.length]; exact hi⟩
theorem itd_tup {G : Gd} {HF : Hp} {a : Addr} {xs : List V} {ds : List D} (h : SqT G.K HF a xs) (r : Reps G HF xs ds) : ItD G (Itt G.K a) HF ds where
  go := fun i H1 HF1 s1 s2 hi => ⟨xs, xs[i]'(by rw [r.length]; exact hi), SqT.mono (s1.trans s2) h, by simp⟩
  yld := fun i x H1 HF1 H2 d s1 s2 hd ⟨e, hx⟩ => by
    subst e
    obtain ⟨v, e1, e2⟩ := r.get hd
    have e3 := hx xs (SqT.mono (s1.trans s2) h)
    rw [e1] at e3; cases e3
    exact ⟨HF1, .no, Rep.mono s1 e2⟩
  stop := fun i H1 HF1 s1 s2 hi => ⟨xs, SqT.mono (s1.trans s2) h, by rw [r.length]; exact hi⟩
/-- a list or a tuple, as the value is -/
def iSeq (K : PySem.W.Frag) (tl : TE) : TI := fun σ H R => tl σ H fun x H1 => ∃ a, x = .ref a ∧ (((∃ xs, SqL K H1 a xs) ∧ R (Itl K a) H1) ∨ ((∃ xs, SqT K H1 a xs) ∧ R (Itt K a) H1))
theorem pi_seq {X : Cx} {tg l : Expr} {tl : TE} (hl : PE X l tl) : PI X tg l (iSeq X.K tl) := by
  refine ⟨fun pins s σ H R I h => ?_⟩
  refine thn (hl.run pins s σ H _ I h) fun v s1 ⟨x, H1, I1, r1, q1⟩ => ?_
  obtain ⟨a, e, q⟩ := q1
  subst e
  have r1' : v = Value.ref a := r1
  subst r1'
  rcases q with ⟨⟨xs, hq⟩, q⟩ | ⟨⟨xs, hq⟩, q⟩
  · obtain ⟨its, rv, p, hz⟩ := I1.list hq
    refine wpAny_pyIter_list p.isList ?_
    refine ⟨s1.heap.objs.size, [s1.heap.objs.size], _, _, H1, rfl, I1.kept (t' := s1.toks) fun b o e => Heap.get?_push_of_some _ e, turn_list a _, ⟨_, Heap.get?_push_size _ rfl, rfl, rfl⟩, fun b hb => ?_, q⟩
    have e : b = s1.heap.objs.size := by simpa using hb
    subst e
    exact I1.fpOk (Nat.le_refl _) (I1.hok.fresh (Nat.le_refl _))
  · obtain ⟨its, rv, p, hz⟩ := I1.tuple hq
    refine wpAny_pyIter_tuple (show s1.heap.IsTuple a its.toArray from p) ?_
    refine ⟨s1.heap.objs.size, [s1.heap.objs.size], _, _, H1, rfl, I1.kept (t' := s1.toks) fun b o e => Heap.get?_push_of_some _ e, turn_tuple a _, ⟨_, Heap.get?_push_size _ rfl, rfl, rfl⟩, fun b hb => ?_, q⟩
    have e : b = s1.heap.objs.size := by simpa using hb
    subst e
    exact I1.fpOk (Nat.le_refl _) (I1.hok.fresh (Nat.le_refl _))
section
variable {X : Cx} {W : WD} {pos : Pos} {a b c : Expr} {fa fb fc : DEn} {es : List Expr} {tg : Expr}
def D.items : D → Option (List D)
  | .tup ds => some ds
  | .lst ds => some ds
  | .rol ds => some ds
  | _ => none
def mIt (fa : DEn) : DDn := fun ρ S => (fa ρ S).bind fun x S1 => lift x.items S1
theorem i1 (ha : DE X W a fa) : DI X W tg a (mIt fa) :=
  PI.imp (pi_seq ha) fun σ H R ⟨HF, L, ρ, S, RR, p⟩ => ⟨HF, L, ρ, S, RR, Post.bind p fun x S1 v H1 HF1 L1 e1 st1 R1 r1 p1 => by
    obtain ⟨ds, ed, p2⟩ := p1.lift
    cases x with
    | tup ds' => cases ed; cases r1 with
      | tup h1 h2 => exact ⟨_, rfl, .inr ⟨⟨_, SqT.mono R1.sub h1⟩, p2.done R1 .no (itd_tup h1 h2)⟩⟩
    | lst ds' => cases ed; cases r1 with
      | lst h1 h2 => exact ⟨_, rfl, .inl ⟨⟨_, SqL.of (R1.sub _ _ h1)⟩, p2.done R1 .no (itd_list (SqL.of h1) h2)⟩⟩
    | rol ds' => cases ed; cases r1 with
      | rol h1 h2 => exact ⟨_, rfl, .inl ⟨⟨_, R1.sub.seq h1⟩, p2.done R1 .no (itd_list h1 h2)⟩⟩
    | _ => cases ed⟩
theorem itd_range {G : Gd} {HF : Hp} (lo : Int) (n : Nat) : ItD G (Itr lo n) HF ((List.range n).map fun i => D.int (lo + (i : Nat))) where
  go := fun i H1 HF1 s1 s2 hi => by show i < n; simpa using hi
  yld := fun i x H1 HF1 H2 d s1 s2 hd ⟨e, hx⟩ => by
    subst e; subst hx
    rw [List.getElem?_map] at hd
    cases q : (List.range n)[i]? with
    | none => rw [q] at hd; cases hd
    | some j =>
      rw [q] at hd
      cases hd
      obtain ⟨h1, h2⟩ := List.getElem?_eq_some_iff.mp q
      simp at h2
      subst h2
      exact ⟨HF1, .no, .int _⟩
  stop := fun i H1 HF1 s1 s2 hi => by show n ≤ i; simpa using hi
def mRg1 (fa : DEn) : DDn := fun ρ S => (fa ρ S).bind fun x S1 => match x with
  | .int n => if n ≤ 1000000000 ∧ -1000000000 ≤ n then .ok (rgD 0 n) S1 else .bad
  | _ => .bad
theorem i_range1 {p : Pos} (hm : X.mg "range" = none) (ha : DE X W a fa) (hg : Gl X "range" := by rfl) (hs : starEach [a] X.env = [(false, eval a X.env)] := by rfl) : DI X W tg (.Call (.Name "range" p) [a] [] pos) (mRg1 fa) :=
  PI.imp (pi_range1 hg hm (pa_cons ha pa_nil hs) hs) fun σ H R ⟨HF, L, ρ, S, RR, p⟩ => ⟨HF, L, ρ, S, RR, Post.bind p fun x S1 v H1 HF1 L1 e1 st1 R1 r1 p1 => by
    split at p1
    · rename_i n
      split at p1
      · rename_i hz
        cases r1
        refine ⟨n, rfl, by omega, by omega, p1.done R1 .no ?_⟩
        have := itd_range (G := gd X W) (HF := HF1) 0 n.toNat
        unfold rgD
        rw [show n - 0 = n by omega]
        exact this
      · exact p1.elim
    · exact p1.elim⟩
def mRg2 (fa fb : DEn) : DDn := fun ρ S => (fa ρ S).bind fun x S1 => (fb ρ S1).bind fun y S2 => match x, y with
  | .int m, .int n => if (m ≤ 1000000000 ∧ -1000000000 ≤ m) ∧ (n ≤ 1000000000 ∧ -1000000000 ≤ n) then .ok (rgD m n) S2 else .bad
  | _, _ => .bad
theorem i_range2 {p : Pos} (hm : X.mg "range" = none) (ha : DE X W a fa) (hb : DE X W b fb) (hg : Gl X "range" := by rfl) (hs : starEach [a, b] X.env = [(false, eval a X.env), (false, eval b X.env)] := by rfl) (hs2 : starEach [b] X.env = [(false, eval b X.env)] := by rfl) :
    DI X W tg (.Call (.Name "range" p) [a, b] [] pos) (mRg2 fa fb) :=
  PI.imp (pi_range2 hg hm (pa_cons ha (pa_cons hb pa_nil hs2) (hs.trans (by rw [hs2]))) hs hs2) fun σ H R ⟨HF, L, ρ, S, RR, p⟩ => ⟨HF, L, ρ, S, RR, Post.bind p fun x S1 v H1 HF1 L1 e1 st1 R1 r1 p1 => ⟨HF1, L1, ρ, S1, R1, Post.bind p1 fun y S2 w H2 HF2 L2 e2 st2 R2 r2 p2 => by
    split at p2
    · rename_i m n
      split at p2
      · rename_i hz
        cases r1; cases r2
        exact ⟨m, n, rfl, ⟨by omega, by omega, by omega, by omega⟩, p2.done R2 .no (itd_range m (n - m).toNat)⟩
      · exact p2.elim
    · exact p2.elim⟩⟩
/-- enumerate -/
def enumD (k : Nat) : List D → List D
  | [] => []
  | d :: ds => .tup [.int k, d] :: enumD (k + 1) ds
theorem enumD_get : ∀ (ds : List D) (k i : Nat), (enumD k ds)[i]? = (ds[i]?).map fun d => D.tup [.int ((k + i : Nat) : Int), d]
  | [], _, _ => by simp [enumD]
  | d :: ds, k, 0 => by simp [enumD]
  | d :: ds, k, i + 1 => by
    have := enumD_get ds (k + 1) i
    simp only [enumD, List.getElem?_cons_succ]
    rw [this, show k + 1 + i = k + (i + 1) by omega]
theorem enumD_length : ∀ (ds : List D) (k : Nat), (enumD k ds).length = ds.length
  | [], _ => rfl
  | d :: ds, k => by simp [enumD, enumD_length ds]
theorem itd_enumL {G : Gd} {HF : Hp} {a : Addr} {xs : List V} {ds : List D} (h : SqL G.K HF a xs) (r : Reps G HF xs ds) : ItD G (Ite G.K a) HF (enumD 0 ds) where
  go := fun i H1 HF1 s1 s2 hi => ⟨xs, xs[i]'(by rw [r.length]; rw [enumD_length] at hi; exact hi), (s1.trans s2).seq h, by simp⟩
  yld := fun i x H1 HF1 H2 d s1 s2 hd ⟨T, y, e1, e2, e3, e4⟩ => by
    subst e1; subst e3
    rw [enumD_get] at hd
    cases q : ds[i]? with
    | none => rw [q] at hd; cases hd
    | some d' =>
      rw [q] at hd
      cases hd
      obtain ⟨v, g1, g2⟩ := r.get q
      have e5 := e4 xs ((s1.trans s2).seq h)
      rw [g1] at e5; cases e5
      refine ⟨_, .new e2, .tup (SqT.of upd_same) (.cons ?_ (.cons (Rep.mono (s1.trans (same_upd (free_of s2 e2))) g2) .nil))⟩
      rw [Nat.zero_add]
      exact .int _
  stop := fun i H1 HF1 s1 s2 hi => ⟨xs, (s1.trans s2).seq h, by rw [r.length]; rw [enumD_length] at hi; exact hi⟩
theorem itd_enumT {G : Gd} {HF : Hp} {a : Addr} {xs : List V} {ds : List D} (h : SqT G.K HF a xs) (r : Reps G HF xs ds) : ItD G (IteT G.K a) HF (enumD 0 ds) where
  go := fun i H1 HF1 s1 s2 hi => ⟨xs, xs[i]'(by rw [r.length]; rw [enumD_length] at hi; exact hi), SqT.mono (s1.trans s2) h, by simp⟩
  yld := fun i x H1 HF1 H2 d s1 s2 hd ⟨T, y, e1, e2, e3, e4⟩ => by
    subst e1; subst e3
    rw [enumD_get] at hd
    cases q : ds[i]? with
    | none => rw [q] at hd; cases hd
    | some d' =>
      rw [q] at hd
      cases hd
      obtain ⟨v, g1, g2⟩ := r.get q
      have e5 := e4 xs (SqT.mono (s1.trans s2) h)
      rw [g1] at e5; cases e5
      refine ⟨_, .new e2, .tup (SqT.of upd_same) (.cons ?_ (.cons (Rep.mono (s1.trans (same_upd (free_of s2 e2))) g2) .nil))⟩
      rw [Nat.zero_add]
      exact .int _
  stop := fun i H1 HF1 s1 s2 hi => ⟨xs, SqT.mono (s1.trans s2) h, by rw [r.length]; rw [enumD_length] at hi; exact hi⟩
def mEnum (fa : DEn) : DDn := fun ρ S => (fa ρ S).bind fun x S1 => (lift x.items S1).bind fun ds S2 => .ok (enumD 0 ds) S2
theorem i_enum {p tpos : Pos} {elts : List Expr} {kk : Nat} (hm : X.mg "enumerate" = none) (ha : DE X W a fa) (hg : Gl X "enumerate" := by rfl) (hs : starEach [a] X.env = [(false, eval a X.env)] := by rfl) : DI X W (.Tuple elts kk tpos) (.Call (.Name "enumerate" p) [a] [] pos) (mEnum fa) :=
  PI.imp (pi_enumT hg hm (pa_cons ha pa_nil hs) hs) fun σ H R ⟨HF, L, ρ, S, RR, p⟩ => ⟨HF, L, ρ, S, RR, Post.bind p fun x S1 v H1 HF1 L1 e1 st1 R1 r1 p1 => by
    obtain ⟨ds, ed, p2⟩ := Post.liftB p1
    cases x with
    | tup ds' => cases ed; cases r1 with
      | tup h1 h2 => exact ⟨_, _, rfl, .inr ⟨SqT.mono R1.sub h1, p2.done R1 .no (itd_enumT h1 h2)⟩⟩
    | lst ds' => cases ed; cases r1 with
      | lst h1 h2 => exact ⟨_, _, rfl, .inl ⟨SqL.of (R1.sub _ _ h1), p2.done R1 .no (itd_enumL (SqL.of h1) h2)⟩⟩
    | rol ds' => cases ed; cases r1 with
      | rol h1 h2 => exact ⟨_, _, rfl, .inl ⟨R1.sub.seq h1, p2.done R1 .no (itd_enumL h1 h2)⟩⟩
    | _ => cases ed⟩
/-- zip of two tuples, of two lists -/
def zipD : List D → List D → List D
  | a :: r, b :: s => .tup [a, b] :: zipD r s
  | _, _ => []
theorem zipD_get : ∀ (xs ys : List D) (i : Nat) {d : D}, (zipD xs ys)[i]? = some d → ∃ a b, xs[i]? = some a ∧ ys[i]? = some b ∧ d = .tup [a, b]
  | [], _, _, _, h => by simp [zipD] at h
  | _ :: _, [], _, _, h => by simp [zipD] at h
  | a :: r, b :: s, 0, _, h => by simp [zipD] at h; exact ⟨a, b, rfl, rfl, h.symm⟩
  | a :: r, b :: s, i + 1, _, h => by
    obtain ⟨x, y, h1, h2, h3⟩ := zipD_get r s i (by simpa [zipD] using h)
    exact ⟨x, y, by simpa using h1, by simpa using h2, h3⟩
theorem zipD_length : ∀ (xs ys : List D), (zipD xs ys).length = min xs.length ys.length
  | [], _ => by simp [zipD]
  | _ :: _, [] => by simp [zipD]
  | a :: r, b :: s => by simp [zipD, zipD_length r s]
theorem itd_zipT {G : Gd} {HF : Hp} {a b : Addr} {xs ys : List V} {ds es : List D} (h : SqT G.K HF a xs) (k : SqT G.K HF b ys) (r : Reps G HF xs ds) (r' : Reps G HF ys es) : ItD G (RZ.ItzT G.K a b) HF (zipD ds es) where
  go := fun i H1 HF1 s1 s2 hi => by
    rw [zipD_length, ← r.length, ← r'.length] at hi
    exact ⟨xs, ys, xs[i]'(by omega), ys[i]'(by omega), SqT.mono (s1.trans s2) h, SqT.mono (s1.trans s2) k, by simp, by simp⟩
  yld := fun i x H1 HF1 H2 d s1 s2 hd ⟨T, u, v, e1, e2, e3, e4, e5⟩ => by
    subst e1; subst e3
    obtain ⟨p, q, q1, q2, q3⟩ := zipD_get _ _ _ hd
    subst q3
    obtain ⟨w1, g1, g2⟩ := r.get q1
    obtain ⟨w2, k1, k2⟩ := r'.get q2
    have z1 := e4 xs (SqT.mono (s1.trans s2) h)
    have z2 := e5 ys (SqT.mono (s1.trans s2) k)
    rw [g1] at z1; cases z1
    rw [k1] at z2; cases z2
    have m := s1.trans (same_upd (p := T) (o := .tup [u, v]) (free_of s2 e2))
    exact ⟨_, .new e2, .tup (SqT.of upd_same) (.cons (Rep.mono m g2) (.cons (Rep.mono m k2) .nil))⟩
  stop := fun i H1 HF1 s1 s2 hi => by
    rw [zipD_length, ← r.length, ← r'.length] at hi
    exact ⟨xs, ys, SqT.mono (s1.trans s2) h, SqT.mono (s1.trans s2) k, by omega⟩
theorem itd_zipL {G : Gd} {HF : Hp} {a b : Addr} {xs ys : List V} {ds es : List D} (h : SqL G.K HF a xs) (k : SqL G.K HF b ys) (r : Reps G HF xs ds) (r' : Reps G HF ys es) : ItD G (Itz G.K a b) HF (zipD ds es) where
  go := fun i H1 HF1 s1 s2 hi => by
    rw [zipD_length, ← r.length, ← r'.length] at hi
    exact ⟨xs, ys, xs[i]'(by omega), ys[i]'(by omega), (s1.trans s2).seq h, (s1.trans s2).seq k, by simp, by simp⟩
  yld := fun i x H1 HF1 H2 d s1 s2 hd ⟨T, u, v, e1, e2, e3, e4, e5⟩ => by
    subst e1; subst e3
    obtain ⟨p, q, q1, q2, q3⟩ := zipD_get _ _ _ hd
    subst q3
    obtain ⟨w1, g1, g2⟩ := r.get q1
    obtain ⟨w2, k1, k2⟩ := r'.get q2
    have z1 := e4 xs ((s1.trans s2).seq h)
    have z2 := e5 ys ((s1.trans s2).seq k)
    rw [g1] at z1; cases z1
    rw [k1] at z2; cases z2
    have m := s1.trans (same_upd (p := T) (o := .tup [u, v]) (free_of s2 e2))
    exact ⟨_, .new e2, .tup (SqT.of upd_same) (.cons (Rep.mono m g2) (.cons (Rep.mono m k2) .nil))⟩
  stop := fun i H1 HF1 s1 s2 hi => by
    rw [zipD_length, ← r.length, ← r'.length] at hi
    exact ⟨xs, ys, (s1.trans s2).seq h, (s1.trans s2).seq k, by omega⟩
def gZip : D → D → Option (List D)
  | .tup a, .tup b => some (zipD a b)
  | .lst a, .lst b => some (zipD a b)
  | _, _ => none
def mZip (fa fb : DEn) : DDn := fun ρ S => (fa ρ S).bind fun x S1 => (fb ρ S1).bind fun y S2 => lift (gZip x y) S2
theorem i_zip {p tpos : Pos} {elts : List Expr} {kk : Nat} (hm : X.mg "zip" = none) (ha : DE X W a fa) (hb : DE X W b fb) (hg : Gl X "zip" := by rfl) (hs : starEach [a, b] X.env = (false, eval a X.env) :: starEach [b] X.env := by rfl) (hs2 : starEach [b] X.env = (false, eval b X.env) :: starEach [] X.env := by rfl)
    (hpl : (backTo pos (starEach [b] X.env)).any (·.1) = false := by rfl) : DI X W (.Tuple elts kk tpos) (.Call (.Name "zip" p) [a, b] [] pos) (mZip fa fb) :=
  PI.imp (RZ.pi_zipA hg hm (pa_cons ha (pa_cons hb pa_nil hs2) hs) hs hpl) fun σ H R ⟨HF, L, ρ, S, RR, p⟩ => ⟨HF, L, ρ, S, RR, Post.bind p fun x S1 v H1 HF1 L1 e1 st1 R1 r1 p1 => ⟨HF1, L1, ρ, S1, R1, Post.bind p1 fun y S2 w H2 HF2 L2 e2 st2 R2 r2 p2 => by
    obtain ⟨ds, ed, p3⟩ := p2.lift
    have r1' := Rep.mono st2.fro r1
    unfold gZip at ed
    split at ed
    · cases ed
      cases r1' with
      | tup h1 h2 => cases r2 with
        | tup h3 h4 => exact ⟨_, _, _, _, rfl, .inr ⟨SqT.mono R2.sub h1, SqT.mono R2.sub h3, p3.done R2 .no (itd_zipT h1 h3 h2 h4)⟩⟩
    · cases ed
      cases r1' with
      | lst h1 h2 => cases r2 with
        | lst h3 h4 => exact ⟨_, _, _, _, rfl, .inl ⟨SqL.of (R2.sub _ _ h1), SqL.of (R2.sub _ _ h3), p3.done R2 .no (itd_zipL (SqL.of h1) (SqL.of h3) h2 h4)⟩⟩
    · cases ed⟩⟩
end
end DL

namespace DL
open PySem PySem.Spec PyProof.Rows L2
/-! ### slots -/
def wipeE (ρ : DL.Env) : List Nat → DL.Env
  | [] => ρ
  | v :: vs => (wipeE ρ vs).set v none
theorem wipeE_length (ρ : DL.Env) : ∀ vs : List Nat, (wipeE ρ vs).length = ρ.length
  | [] => rfl
  | v :: vs => by unfold wipeE; rw [List.length_set, wipeE_length ρ vs]
section
variable {G : Gd} {H HF H' HF' : Hp} {L L' : List Addr} {σ σ' : L2.St} {ρ ρ' : DL.Env} {S S' : Store}
theorem wipe_get : ∀ (vs : List Nat) {i : Nat} {e : EV} {v : V}, (wipeE ρ vs)[i]? = some (some e) → σ[i]? = some (some v) → (wipe σ vs)[i]? = some (some v) ∧ ρ[i]? = some (some e)
  | [], _, _, _, h1, h2 => ⟨h2, h1⟩
  | w :: vs, i, e, v, h1, h2 => by
    unfold wipeE at h1
    by_cases hi : w = i
    · subst hi
      by_cases hl : w < (wipeE ρ vs).length
      · rw [List.getElem?_set_self hl] at h1; cases h1
      · rw [List.getElem?_eq_none (by simpa using hl)] at h1; cases h1
    · rw [List.getElem?_set_ne hi] at h1
      obtain ⟨g1, g2⟩ := wipe_get vs h1 h2
      unfold wipe
      rw [List.getElem?_set_ne hi]
      exact ⟨g1, g2⟩
theorem wipeE_some : ∀ (vs : List Nat) {i : Nat} {e : EV}, (wipeE ρ vs)[i]? = some (some e) → ρ[i]? = some (some e)
  | [], _, _, h1 => h1
  | w :: vs, i, e, h1 => by
    unfold wipeE at h1
    by_cases hi : w = i
    · subst hi
      by_cases hl : w < (wipeE ρ vs).length
      · rw [List.getElem?_set_self hl] at h1; cases h1
      · rw [List.getElem?_eq_none (by simpa using hl)] at h1; cases h1
    · rw [List.getElem?_set_ne hi] at h1
      exact wipeE_some vs h1
theorem Rel.wipe (R : Rel G H HF L σ ρ S) (vs : List Nat) : Rel G H HF L (L2.wipe σ vs) (wipeE ρ vs) S :=
  ⟨R.sub, R.nd, R.sl, R.liv, R.tab, R.nft, R.cell, by rw [wipe_length, wipeE_length]; exact R.el, fun i e h => by
    obtain ⟨v, h1, h2⟩ := R.env i e (wipeE_some vs h)
    exact ⟨v, (wipe_get vs h h1).1, h2⟩⟩
/-- the slots of before, the heap of now -/
theorem Rel.reenv (R : Rel G H HF L σ ρ S) (st : Step H HF L H' HF' L') (R' : Rel G H' HF' L' σ' ρ' S') : Rel G H' HF' L' σ ρ S' :=
  ⟨R'.sub, R'.nd, R'.sl, R'.liv, R'.tab, R'.nft, R'.cell, R.el, fun i e h => by
    obtain ⟨v, h1, h2⟩ := R.env i e h
    exact ⟨v, h1, RepE.mono st h2⟩⟩
theorem wipe_set (σ : L2.St) (vs : List Nat) {i : Nat} (v : V) (hi : i ∈ vs) : L2.wipe (σ.set i (some v)) vs = L2.wipe σ vs := by
  induction vs with
  | nil => cases hi
  | cons w vs ih =>
    unfold L2.wipe
    by_cases hw : i ∈ vs
    · rw [ih hw]
    · have e : i = w := by
        rcases List.mem_cons.mp hi with z | z
        · exact z
        · exact absurd z hw
      subst e
      have out : ∀ (us : List Nat), i ∉ us → L2.wipe (σ.set i (some v)) us = (L2.wipe σ us).set i (some v) := by
        intro us hu
        induction us with
        | nil => rfl
        | cons u us ihu =>
          unfold L2.wipe
          rw [ihu (fun z => hu (List.mem_cons_of_mem _ z)), List.set_comm _ _ (fun z => hu (by rw [z]; exact List.mem_cons_self))]
      rw [out vs hw, List.set_set]
theorem wipe_wipe (σ : L2.St) (vs : List Nat) : L2.wipe (L2.wipe σ vs) vs = L2.wipe σ vs := by
  have set_wipe : ∀ (us : List Nat) (τ : L2.St) (i : Nat), L2.wipe (τ.set i none) us = (L2.wipe τ us).set i none := by
    intro us
    induction us with
    | nil => intro τ i; rfl
    | cons u us ih =>
      intro τ i
      unfold L2.wipe
      rw [ih]
      by_cases h : i = u
      · subst h; rfl
      · rw [List.set_comm _ _ h]
  induction vs with
  | nil => rfl
  | cons v vs ih =>
    show ((L2.wipe ((L2.wipe σ vs).set v none) vs).set v none) = (L2.wipe σ vs).set v none
    rw [set_wipe, ih, List.set_set]
theorem wipe_sets (vs : List Nat) : ∀ (ws : List (Nat × V)) (σ : L2.St), (∀ p ∈ ws, p.1 ∈ vs) → L2.wipe (sets σ ws) vs = L2.wipe σ vs
  | [], _, _ => rfl
  | w :: ws, σ, h => by
    show L2.wipe (sets (σ.set w.1 (some w.2)) ws) vs = _
    rw [wipe_sets vs ws _ fun p hp => h p (List.mem_cons_of_mem _ hp), wipe_set σ vs w.2 (h w List.mem_cons_self)]
/-- an object that is neither a cell nor said to stay: written -/
theorem Rel.aside (R : Rel G H HF L σ ρ S) {q : Addr} {o : HO} (hL : q ∉ L) (hF : HF q = none) (ht : ∀ ps, H q ≠ some (.tbl ps)) : Rel G (upd H q o) HF L σ ρ S := by
  have e : ∀ {n : Nat} {a : Addr}, L[n]? = some a → a ≠ q := fun h z => hL (by rw [← z]; exact List.mem_of_getElem? h)
  refine ⟨fun b u k => ?_, R.nd, R.sl, fun a ha => ?_, R.tab.up (fun b ps z => by rw [upd_ne (fun y => ht ps (by rw [← y]; exact z))]; exact z) (Same.refl _), R.nft, fun n a c h1 h2 => ?_, R.el, R.env⟩
  · rw [upd_ne (ne_of_none k hF)]; exact R.sub b u k
  · rw [upd_ne (fun z => hL (by rw [← z]; exact ha))]; exact R.liv a ha
  · obtain ⟨q1, q2⟩ := R.cell n a c h1 h2
    exact ⟨q1, q2.up (upd_ne (e h1)) (Same.refl _)⟩
/-- .. from now on it stays -/
theorem Rel.adopt (R : Rel G H HF L σ ρ S) {q : Addr} {o : HO} (hL : q ∉ L) (hF : HF q = none) (hH : H q = some o) (ho : Nt o := by intro _ h; cases h) : Rel G H (upd HF q o) L σ ρ S := by
  have e : ∀ {n : Nat} {a : Addr}, L[n]? = some a → a ≠ q := fun h z => hL (by rw [← z]; exact List.mem_of_getElem? h)
  refine ⟨fun b u k => ?_, R.nd, R.sl, R.liv, R.tab.up (fun _ _ z => z) (same_upd hF), nft_upd R.nft ho, fun n a c h1 h2 => ?_, R.el, fun i x h => ?_⟩
  · by_cases hb : b = q
    · subst hb; rw [upd_same] at k; cases k; exact hH
    · rw [upd_ne hb] at k; exact R.sub b u k
  · obtain ⟨q1, q2⟩ := R.cell n a c h1 h2
    exact ⟨by rw [upd_ne (e h1)]; exact q1, q2.up rfl (same_upd hF)⟩
  · obtain ⟨v, q1, q2⟩ := R.env i x h
    refine ⟨v, q1, ?_⟩
    cases x with
    | v d => exact Rep.mono (same_upd hF) q2
    | cel n => exact q2
    | exn x =>
      obtain ⟨b, cls, dd, k1, k2, k3⟩ := q2
      exact ⟨b, cls, dd, k1, k2, k3.mono (same_upd hF)⟩
end

/-! ### comprehensions of one clause -/
/-- as bind, but nothing may be raised -/
def Out.bd {α β : Type} (o : Out α) (k : α → Store → Out β) : Out β := match o with
  | .ok a S => k a S
  | _ => .bad
def lcL (t : Tg) (tt : DTn) (fe : DEn) (ρ : DL.Env) : List D → Store → List D → Out (List D)
  | [], S, acc => .ok acc S
  | d :: ds, S, acc => match asg t d ρ with
    | none => .bad
    | some ρ1 => (tt ρ1 S).bd fun b S1 => if b = true then (fe ρ1 S1).bd fun y S2 => if acc.length < lim then lcL t tt fe ρ ds S2 (acc ++ [y]) else .bad else lcL t tt fe ρ ds S1 acc
def mLc (fi : DDn) (t : Tg) (tt : DTn) (fe : DEn) (vs : List Nat) : DEn := fun ρ S => (fi ρ S).bind fun ds S1 => (lcL t tt fe (wipeE ρ vs) ds S1 []).bind fun ys S2 => .ok (.lst ys) S2
section
variable {X : Cx} {W : WD} {pos : Pos} {a b c : Expr} {fa fb fc : DEn} {es : List Expr} {tg : Expr}
/-- the ends of a comprehension: what its list at D leads to -/
theorem lc_read {fi : DDn} {t : Tg} {tt : DTn} {fe : DEn} {vs : List Nat} (hsl : ∀ i ∈ t.slots, i ∈ vs) {σ : L2.St} {H : Hp} {Q : VK} (h : tD (gd X W) W (mLc fi t tt fe vs) σ H Q) :
    tLc (tI (gd X W) W fi) (tgG X.K t) (tT (gd X W) W.z tt) (tD (gd X W) W.z fe) vs σ H Q := by
  obtain ⟨HF, L, ρ, S, R, p⟩ := h
  refine ⟨HF, L, ρ, S, R, Post.bind p fun ds S1 J H1 HF1 L1 e1 st1 R1 rJ p1 => fun Dl hD => ?_⟩
  have hDL := R1.out hD
  have hDF := R1.hf hD
  -- the invariant
  refine ⟨fun i m Hh => m = ds.length - i ∧ i ≤ ds.length ∧ ∃ HFh Lh Sh acc vacc, Rel (gd X W) Hh HFh Lh σ ρ Sh ∧ Step H1 HF1 L1 Hh HFh Lh ∧ Hh Dl = some (.lst vacc) ∧ HFh Dl = none ∧ Dl ∉ Lh ∧ Reps (gd X W) HFh vacc acc ∧
    Post (gd X W) W σ ρ H1 HF1 L1 (fun HF' _ v d => Rep (gd X W) HF' v d) Q ((lcL t tt fe (wipeE ρ vs) (ds.drop i) Sh acc).bind fun ys S2 => .ok (.lst ys) S2), ⟨ds.length, by simp, Nat.zero_le _, HF1, L1, S1, [], [], R1.aside hDL hDF (by rw [hD]; simp), Step.put Step.refl hD, upd_same, hDF, hDL, .nil, by simpa using p1⟩, ?_⟩
  rintro i m Hh ⟨rfl, hi, HFh, Lh, Sh, acc, vacc, Rh, sth, hv, hFv, hLv, ra, ph⟩
  have s01 : Same HF1 HFh := sth.fro
  by_cases hlt : i < ds.length
  · refine .inr ⟨rJ.go i Hh HFh s01 Rh.sub hlt, fun H' => (ds.length - (i + 1)) = ds.length - (i + 1) ∧ i + 1 ≤ ds.length ∧ ∃ HFh Lh Sh acc vacc, Rel (gd X W) H' HFh Lh σ ρ Sh ∧ Step H1 HF1 L1 H' HFh Lh ∧ H' Dl = some (.lst vacc) ∧ HFh Dl = none ∧ Dl ∉ Lh ∧ Reps (gd X W) HFh vacc acc ∧
      Post (gd X W) W σ ρ H1 HF1 L1 (fun HF' _ v d => Rep (gd X W) HF' v d) Q ((lcL t tt fe (wipeE ρ vs) (ds.drop (i + 1)) Sh acc).bind fun ys S2 => .ok (.lst ys) S2), fun H' hw => ⟨_, by omega, hw⟩, fun x H2 hy => ?_⟩
    have ed : ds.drop i = ds[i] :: ds.drop (i + 1) := List.drop_eq_getElem_cons hlt
    rw [ed] at ph
    obtain ⟨HF2, al, rx⟩ := rJ.yld i x Hh HFh H2 ds[i] s01 Rh.sub (List.getElem?_eq_getElem hlt) hy
    obtain ⟨R2, st2⟩ := Rh.al al
    have nl : ∀ xs, Nt (.lst xs) := fun _ _ h => by cases h
    have hv2 := st2.keep Dl _ hLv (nl _) hv
    have hF2 := st2.new Dl _ hLv hFv (by trivial) hv
    have Rw := R2.wipe vs
    have ph : Post (gd X W) W σ ρ H1 HF1 L1 (fun HF' _ v d => Rep (gd X W) HF' v d) Q (Out.bind (match asg t ds[i] (wipeE ρ vs) with
      | none => .bad
      | some ρ1 => (tt ρ1 Sh).bd fun b S1 => if b = true then (fe ρ1 S1).bd fun y S2 => if acc.length < lim then lcL t tt fe (wipeE ρ vs) (ds.drop (i + 1)) S2 (acc ++ [y]) else .bad else lcL t tt fe (wipeE ρ vs) (ds.drop (i + 1)) S1 acc) fun ys S2 => .ok (.lst ys) S2) := ph
    cases ea : asg t ds[i] (wipeE ρ vs) with
    | none => rw [ea] at ph; exact ph.elim
    | some ρ1 =>
      rw [ea] at ph
      dsimp only at ph
      refine tgG_ok (G := gd X W) t Rw rx ea fun ws hws R3 => ⟨?_, ?_⟩
      · rw [wipe_sets vs ws _ fun p hp => hsl _ (hws p hp), wipe_wipe]
      -- the test
      refine ⟨HF2, Lh, ρ1, Sh, R3, ?_⟩
      cases et : tt ρ1 Sh with
      | bad => rw [et] at ph; exact ph.elim
      | ex x S' => rw [et] at ph; exact ph.elim
      | ok bb S3 =>
        rw [et] at ph
        intro b' H3 HF3 L3 st3 R4 eb
        cases eb
        have hv3 := st3.keep Dl _ hLv (nl _) hv2
        have hF3 := st3.new Dl _ hLv hF2 (by trivial) hv2
        have hL3 : Dl ∉ L3 := st3.keepL hLv hv2
        cases bb with
        | false =>
          rw [if_neg Bool.false_ne_true]
          exact ⟨rfl, hlt, HF3, L3, S3, acc, vacc, R2.reenv st3 R4, sth.trans (st2.trans st3), hv3, hF3, hL3, ra.mono (st2.fro.trans st3.fro), ph⟩
        | true =>
          rw [if_pos rfl]
          refine ⟨HF3, L3, ρ1, S3, R4, ?_⟩
          have ph : Post (gd X W) W σ ρ H1 HF1 L1 (fun HF' _ v d => Rep (gd X W) HF' v d) Q (Out.bind ((fe ρ1 S3).bd fun y S2 => if acc.length < lim then lcL t tt fe (wipeE ρ vs) (ds.drop (i + 1)) S2 (acc ++ [y]) else .bad) fun ys S2 => .ok (.lst ys) S2) := ph
          cases ef : fe ρ1 S3 with
          | bad => rw [ef] at ph; exact ph.elim
          | ex x S' => rw [ef] at ph; exact ph.elim
          | ok y S4 =>
            rw [ef] at ph
            have ph : Post (gd X W) W σ ρ H1 HF1 L1 (fun HF' _ v d => Rep (gd X W) HF' v d) Q (Out.bind (if acc.length < lim then lcL t tt fe (wipeE ρ vs) (ds.drop (i + 1)) S4 (acc ++ [y]) else .bad) fun ys S2 => .ok (.lst ys) S2) := ph
            intro v H4 HF4 L4 st4 R5 ry
            split at ph
            · rename_i hz
              have hv4 := st4.keep Dl _ hL3 (nl _) hv3
              have hF4 := st4.new Dl _ hL3 hF3 (by trivial) hv3
              have hL4 : Dl ∉ L4 := st4.keepL hL3 hv3
              refine ⟨vacc, hv4, by rw [ra.length]; exact Nat.lt_of_lt_of_le hz lim_le, rfl, hlt, HF4, L4, S4, acc ++ [y], vacc ++ [v], ?_, ?_, upd_same, hF4, hL4, (ra.mono (st2.fro.trans (st3.fro.trans st4.fro))).append (.cons ry .nil), ph⟩
              · exact ((R2.reenv st3 R4).reenv st4 R5).aside hL4 hF4 (by rw [hv4]; simp)
              · exact Step.put (sth.trans (st2.trans (st3.trans st4))) hD
            · exact ph.elim
  · have e : i = ds.length := by omega
    subst e
    refine .inl ⟨rJ.stop _ Hh HFh s01 Rh.sub (Nat.le_refl _), ?_⟩
    rw [List.drop_length] at ph
    have ph : Post (gd X W) W σ ρ H1 HF1 L1 (fun HF' _ v d => Rep (gd X W) HF' v d) Q (.ok (.lst acc) Sh) := ph
    refine ph (.ref Dl) Hh (upd HFh Dl (.lst vacc)) Lh ?_ (Rh.adopt hLv hFv hv) (.lst upd_same (ra.mono (same_upd hFv)))
    refine ⟨sth.keep, sth.nn, sth.fro.trans (same_upd hFv), fun b o hb e nt n => ?_, sth.ext⟩
    rw [upd_ne (fun z => by rw [z, hD] at n; cases n)]
    exact sth.new b o hb e nt n
end
end DL

namespace DL
open PySem PySem.Spec PyProof.Rows L2
section
variable {X : Cx} {W : WD} {pos : Pos} {a b c : Expr} {fa fb fc : DEn} {es : List Expr} {tg : Expr}
abbrev DTs (X : Cx) (W : WD) (ifs : List Expr) (f : DTn) : Prop := PTs X ifs (tT (gd X W) W f)
def mYes : DTn := fun _ S => .ok true S
theorem t0 : DTs X W [] mYes := ⟨fun pins s σ H Q I ⟨HF, L, ρ, S, R, p⟩ => pts_nil.run pins s σ H Q I (p.done R .no rfl)⟩
theorem t1 {tt : DTn} (h : DT X W a tt) : DTs X W [a] tt := ⟨fun pins s σ H Q I q => (pts_one h).run pins s σ H Q I q⟩
/-- [elt for target in iter if ..] -/
theorem xlc {elt iter : Expr} {ifs : List Expr} {scope : Scope} {own : List (Str × Nat)} {fi : DDn} {t : Tg} {tt : DTn} {fe : DEn} (hc : X.calm = true) (hN : X.N.Nodup) (hi : DI X W tg iter fi) (ok : BlkOk X.N X.env.scope scope own)
    (hg : ∀ (s : Shared) (H : Hp) (C : Addr) (cl : List (Str × Addr)) (fp : List Addr), PG (X.blk s H scope (compEnvC scope cl C X.env) fp) tg (tgG (X.blk s H scope (compEnvC scope cl C X.env) fp).K t))
    (ht : ∀ (s : Shared) (H : Hp) (C : Addr) (cl : List (Str × Addr)) (fp : List Addr), DTs (X.blk s H scope (compEnvC scope cl C X.env) fp) W.z ifs tt)
    (he : ∀ (s : Shared) (H : Hp) (C : Addr) (cl : List (Str × Addr)) (fp : List Addr), DE (X.blk s H scope (compEnvC scope cl C X.env) fp) W.z elt fe)
    (hsl : ∀ i ∈ t.slots, i ∈ own.map (·.2) := by decide) (hs : ∀ x, foldedSetIterable iter X.env x = pure x := by intro _; rfl) : DE X W (.ListComp elt [⟨tg, iter, ifs, 0⟩] scope pos) (mLc fi t tt fe (own.map (·.2))) :=
  PE.imp (pe_lc hc hN hi ok hg ht he hs) fun σ H Q h => lc_read hsl h

/-! ### statements -/
abbrev DS (X : Cx) (W : WD) (st : Stmt) (f : DSn) : Prop := PS X st (tS (gd X W) W f)
abbrev DSs (X : Cx) (W : WD) (st : List Stmt) (f : DSn) : Prop := PSs X st (tS (gd X W) W f)
def bindS {α : Type} (o : Out α) (ρ : DL.Env) (k : α → Store → Out (Ctl × DL.Env)) : Out (Ctl × DL.Env) := match o with
  | .ok a S => k a S
  | .ex x S => .ok (.ex x, ρ) S
  | .bad => .bad
theorem PostS.step {G : Gd} {D : Ends} {H HF H1 HF1 : Hp} {L L1 : List Addr} (st : Step H HF L H1 HF1 L1) : ∀ {o : Out (Ctl × DL.Env)}, PostS G W H HF L D o → PostS G W H1 HF1 L1 D o
  | .ok _ _, h => fun σ' H' HF' L' s2 => h σ' H' HF' L' (st.trans s2)
  | .ex _ _, h => h
  | .bad, h => h
theorem PostS.bind {α β : Type} {G : Gd} {D : Ends} {σ : L2.St} {ρ : DL.Env} {H HF : Hp} {L : List Addr} {P : Hp → List Addr → β → α → Prop} {Q : β → Hp → Prop} {k : α → Store → Out (Ctl × DL.Env)} :
    ∀ {o : Out α}, PostS G W H HF L D (bindS o ρ k) → (∀ d S' v H' HF' L', o = .ok d S' → Step H HF L H' HF' L' → Rel G H' HF' L' σ ρ S' → P HF' L' v d → PostS G W H' HF' L' D (k d S') → Q v H') → Post G W σ ρ H HF L P Q o
  | .ok d S', h, f => fun v H' HF' L' st R r => f d S' v H' HF' L' rfl st R r (PostS.step st h)
  | .ex x S', h, _ => fun cls dd H' HF' L' st R e => h σ H' HF' L' st R cls dd e
  | .bad, h, _ => h
theorem PostS.done {G : Gd} {D : Ends} {σ : L2.St} {ρ : DL.Env} {H HF : Hp} {L : List Addr} {c : Ctl} {S : Store} (h : PostS G W H HF L D (.ok (c, ρ) S)) (R : Rel G H HF L σ ρ S) : EndsD G W D HF σ H c := h σ H HF L .refl R
def mSkip : DSn := fun ρ S => .ok (.nx, ρ) S
def mSeq (f g : DSn) : DSn := fun ρ S => match f ρ S with
  | .ok (.nx, ρ1) S1 => g ρ1 S1
  | o => o
theorem s0 : DSs X W [] mSkip := PSs.imp pss_nil fun D σ H ⟨HF, L, ρ, S, R, p⟩ => p.done R
theorem PostS.seq {G : Gd} {D : Ends} {H HF : Hp} {L : List Addr} {f g : DSn} {ρ : DL.Env} {S : Store} (h : PostS G W H HF L D (mSeq f g ρ S)) : PostS G W H HF L { D with nx := tS G W g D } (f ρ S) := by
  unfold mSeq at h
  cases q : f ρ S with
  | bad => rw [q] at h; exact h
  | ex x S1 => rw [q] at h; exact h
  | ok cr S1 =>
    obtain ⟨c, ρ1⟩ := cr
    rw [q] at h
    cases c with
    | nx => exact fun σ' H' HF' L' st R => ⟨HF', L', ρ1, S1, R, PostS.step st h⟩
    | rt d => exact h
    | bk => exact h
    | ct => exact h
    | ex x => exact h
theorem s1 {st : Stmt} {rest : List Stmt} {f g : DSn} (h1 : DS X W st f) (h2 : DSs X W rest g) : DSs X W (st :: rest) (mSeq f g) :=
  PSs.imp (pss_cons h1 h2) fun D σ H ⟨HF, L, ρ, S, R, p⟩ => ⟨HF, L, ρ, S, R, PostS.seq p⟩
theorem sl {st : Stmt} {f : DSn} (h1 : DS X W st f) : DSs X W [st] f := pss_one h1
def mNever : DSn := fun _ _ => .bad
theorem snever {st : Stmt} : DS X W st mNever := PS.imp ps_never fun D σ H ⟨HF, L, ρ, S, R, p⟩ => p
theorem ssnever {st : List Stmt} : DSs X W st mNever := PSs.imp pss_never fun D σ H ⟨HF, L, ρ, S, R, p⟩ => p
theorem spass : DS X W (.Pass pos) mSkip := PS.imp ps_pass fun D σ H ⟨HF, L, ρ, S, R, p⟩ => p.done R
def mBreak : DSn := fun ρ S => .ok (.bk, ρ) S
def mCont : DSn := fun ρ S => .ok (.ct, ρ) S
theorem sbreak : DS X W (.Break pos) mBreak := PS.imp ps_break fun D σ H ⟨HF, L, ρ, S, R, p⟩ => p.done R
theorem scont : DS X W (.Continue pos) mCont := PS.imp ps_continue fun D σ H ⟨HF, L, ρ, S, R, p⟩ => p.done R
theorem sdoc {x j pos'} : DS X W (.Expr (.Constant (.str x) j pos) pos') mSkip := PS.imp ps_doc fun D σ H ⟨HF, L, ρ, S, R, p⟩ => p.done R
def mDrop (fa : DEn) : DSn := fun ρ S => bindS (fa ρ S) ρ fun _ S1 => .ok (.nx, ρ) S1
theorem sexpr (ha : DE X W a fa) (hs : swapsWith a none pos.line X.env = pure false := by rfl) : DS X W (.Expr a pos) (mDrop fa) :=
  PS.imp (ps_expr ha hs) fun D σ H ⟨HF, L, ρ, S, R, p⟩ => ⟨HF, L, ρ, S, R, PostS.bind p fun d S1 v H1 HF1 L1 e1 st1 R1 r1 p1 => p1.done R1⟩
def mRet (fa : DEn) : DSn := fun ρ S => bindS (fa ρ S) ρ fun d S1 => .ok (.rt d, ρ) S1
theorem sret (ha : DE X W a fa) : DS X W (.Return (some a) pos) (mRet fa) :=
  PS.imp (ps_ret ha) fun D σ H ⟨HF, L, ρ, S, R, p⟩ => ⟨HF, L, ρ, S, R, PostS.bind p fun d S1 v H1 HF1 L1 e1 st1 R1 r1 p1 => p1.done R1 v r1⟩
def mRetN : DSn := fun ρ S => .ok (.rt .non, ρ) S
theorem sretN : DS X W (.Return none pos) mRetN := PS.imp ps_retN fun D σ H ⟨HF, L, ρ, S, R, p⟩ => p.done R .non .non
def mIfS (t : DTn) (f g : DSn) : DSn := fun ρ S => bindS (t ρ S) ρ fun k S1 => if k = true then f ρ S1 else g ρ S1
theorem sif {tt : DTn} {u v : List Stmt} {f g : DSn} (ht : DT X W a tt) (hf : DSs X W u f) (hg : DSs X W v g) : DS X W (.If a u v pos) (mIfS tt f g) :=
  PS.imp (ps_if ht hf hg) fun D σ H ⟨HF, L, ρ, S, R, p⟩ => ⟨HF, L, ρ, S, R, PostS.bind p fun k S1 k' H1 HF1 L1 e1 st1 R1 r1 p1 => by
    cases r1
    cases k with
    | true => rw [if_pos rfl] at p1 ⊢; exact ⟨HF1, L1, ρ, S1, R1, p1⟩
    | false => rw [if_neg Bool.false_ne_true] at p1 ⊢; exact ⟨HF1, L1, ρ, S1, R1, p1⟩⟩
/-- x = e -/
def mSet (i : Nat) (fv : DVn) : DSn := fun ρ S => bindS (fv ρ S) ρ fun e S1 => .ok (.nx, ρ.set i (some e)) S1
theorem sset (i : Nat) {x : Str} {px : Pos} {fv : DVn} (hN : X.N.Nodup) (he : DV X W a fv) (hi : X.N[i]? = some x := by rfl) (hx : Loc X.env.scope x := by first | exact Or.inl rfl | exact Or.inr rfl) (hs : swapsWith a (some (.Name x px)) pos.line X.env = pure false := by rfl) (hf : X.fn x = true ∨ X.env.scope.names.lookup x = some .local := by first | exact .inl rfl | exact .inr rfl | assumption) :
    DS X W (.Assign [.Name x px] a pos) (mSet i fv) :=
  PS.imp (ps_set hN hi hx he hs hf) fun D σ H ⟨HF, L, ρ, S, R, p⟩ => ⟨HF, L, ρ, S, R, PostS.bind p fun d S1 v H1 HF1 L1 e1 st1 R1 r1 p1 => p1.done (R1.store r1 i)⟩
/-- x = [.. for ..] -/
def mSetLc (i : Nat) (f : DEn) : DSn := fun ρ S => bindS (f ρ S) ρ fun d S1 => .ok (.nx, ρ.set i (some (.v d))) S1
theorem ssetLc (i : Nat) {y : Str} {py : Pos} {elt iter : Expr} {ifs : List Expr} {scope : Scope} {own : List (Str × Nat)} {cpos : Pos} {fi : DDn} {t : Tg} {tt : DTn} {fe : DEn} (hc : X.calm = true) (hN : X.N.Nodup) (hi : DI X W tg iter fi) (ok : BlkOk X.N X.env.scope scope own)
    (hg : ∀ (s : Shared) (H : Hp) (C : Addr) (cl : List (Str × Addr)) (fp : List Addr), PG (X.blk s H scope (compEnvC scope cl C X.env) fp) tg (tgG (X.blk s H scope (compEnvC scope cl C X.env) fp).K t))
    (ht : ∀ (s : Shared) (H : Hp) (C : Addr) (cl : List (Str × Addr)) (fp : List Addr), DTs (X.blk s H scope (compEnvC scope cl C X.env) fp) W.z ifs tt)
    (he : ∀ (s : Shared) (H : Hp) (C : Addr) (cl : List (Str × Addr)) (fp : List Addr), DE (X.blk s H scope (compEnvC scope cl C X.env) fp) W.z elt fe)
    (hy : X.N[i]? = some y := by rfl) (hyl : X.env.scope.names.lookup y = some .local := by rfl) (hsw : swapsWith (.ListComp elt [⟨tg, iter, ifs, 0⟩] scope cpos) (some (.Name y py)) pos.line X.env = pure true := by exact sw_true rfl rfl rfl (by decide +kernel))
    (hsl : ∀ i ∈ t.slots, i ∈ own.map (·.2) := by decide) (hs : ∀ x, foldedSetIterable iter X.env x = pure x := by intro _; rfl) : DS X W (.Assign [.Name y py] (.ListComp elt [⟨tg, iter, ifs, 0⟩] scope cpos) pos) (mSetLc i (mLc fi t tt fe (own.map (·.2)))) :=
  PS.imp (ps_setLc (i := i) hc hN hy hyl hsw hi ok hg ht he hs) fun D σ H ⟨HF, L, ρ, S, R, p⟩ => lc_read hsl ⟨HF, L, ρ, S, R, PostS.bind p fun d S1 v H1 HF1 L1 e1 st1 R1 r1 p1 => p1.done (R1.store (e := .v d) r1 i)⟩
/-- x, y = a, b -/
def mPar2 (i j : Nat) (fs : DAn) : DSn := fun ρ S => bindS (fs ρ S) ρ fun es S1 => match es with
  | [u, v] => .ok (.nx, (ρ.set i (some u)).set j (some v)) S1
  | _ => .bad
theorem spar2 (i j : Nat) {x y : Str} {px py pt pt2 : Pos} {kt k2 : Nat} {fs : DAn} (hc : X.calm = true) (hN : X.N.Nodup) (ha : DAE X W [a, b] fs) (hij : i ≠ j := by decide) (hi : X.N[i]? = some x := by rfl) (hj : X.N[j]? = some y := by rfl) (hx : X.env.scope.names.lookup x = some .local := by rfl) (hy : X.env.scope.names.lookup y = some .local := by rfl)
    (hw : swappedStores [.Tuple [.Name x px, .Name y py] kt pt] (.Tuple [a, b] k2 pt2) X.env = pure (some [x, y]) := by rfl) (hs : swapsWithSole [.Tuple [.Name x px, .Name y py] kt pt] (.Tuple [a, b] k2 pt2) pos.line X.env = pure false := by rfl) :
    DS X W (.Assign [.Tuple [.Name x px, .Name y py] kt pt] (.Tuple [a, b] k2 pt2) pos) (mPar2 i j fs) :=
  PS.imp (ps_par hc hN hi hj hij hx hy ha hw hs) fun D σ H ⟨HF, L, ρ, S, R, p⟩ => ⟨HF, L, ρ, S, R, PostS.bind p fun es S1 vs H1 HF1 L1 e1 st1 R1 r1 p1 => by
    split at p1
    · cases r1 with
      | cons h1 h2 => cases h2 with
        | cons h3 h4 =>
          cases h4
          exact ⟨_, _, rfl, p1.done ((R1.store h1 i).store h3 j)⟩
    · exact p1.elim⟩
def mPar3 (i j l : Nat) (fs : DAn) : DSn := fun ρ S => bindS (fs ρ S) ρ fun es S1 => match es with
  | [u, v, w] => .ok (.nx, ((ρ.set i (some u)).set j (some v)).set l (some w)) S1
  | _ => .bad
theorem spar3 (i j l : Nat) {x y z : Str} {px py pz pt pt2 : Pos} {kt k2 : Nat} {fs : DAn} (hc : X.calm = true) (hN : X.N.Nodup) (ha : DAE X W [a, b, c] fs) (hij : i ≠ j := by decide) (hil : i ≠ l := by decide) (hjl : j ≠ l := by decide) (hi : X.N[i]? = some x := by rfl) (hj : X.N[j]? = some y := by rfl) (hl : X.N[l]? = some z := by rfl)
    (hx : X.env.scope.names.lookup x = some .local := by rfl) (hy : X.env.scope.names.lookup y = some .local := by rfl) (hz : X.env.scope.names.lookup z = some .local := by rfl)
    (hw : swappedStores [.Tuple [.Name x px, .Name y py, .Name z pz] kt pt] (.Tuple [a, b, c] k2 pt2) X.env = pure (some [x, y, z]) := by rfl) (hs : swapsWithSole [.Tuple [.Name x px, .Name y py, .Name z pz] kt pt] (.Tuple [a, b, c] k2 pt2) pos.line X.env = pure false := by rfl) :
    DS X W (.Assign [.Tuple [.Name x px, .Name y py, .Name z pz] kt pt] (.Tuple [a, b, c] k2 pt2) pos) (mPar3 i j l fs) :=
  PS.imp (ps_par3 hc hN hi hj hl hij hil hjl hx hy hz ha hw hs) fun D σ H ⟨HF, L, ρ, S, R, p⟩ => ⟨HF, L, ρ, S, R, PostS.bind p fun es S1 vs H1 HF1 L1 e1 st1 R1 r1 p1 => by
    split at p1
    · cases r1 with
      | cons h1 h2 => cases h2 with
        | cons h3 h4 => cases h4 with
          | cons h5 h6 =>
            cases h6
            exact ⟨_, _, _, rfl, p1.done (((R1.store h1 i).store h3 j).store h5 l)⟩
    · exact p1.elim⟩
/-- x += e and its like, of ints -/
def mAug (i : Nat) (g : Int → Int → Int) (fa : DEn) : DSn := fun ρ S => match ρ[i]? with
  | some (some (.v (.int m))) => bindS (fa ρ S) ρ fun d S1 => match d with
    | .int n => .ok (.nx, ρ.set i (some (.v (.int (g m n))))) S1
    | _ => .bad
  | _ => .bad
theorem saug (i : Nat) {x : Str} {px : Pos} {op : Operator} {g : Int → Int → Int} (hN : X.N.Nodup) (ho : PIp X op (ipI g)) (ha : DE X W a fa) (hi : X.N[i]? = some x := by rfl) (hx : Loc X.env.scope x := by first | exact Or.inl rfl | exact Or.inr rfl) (hf : X.fn x = true ∨ X.env.scope.names.lookup x = some .local := by first | exact .inl rfl | exact .inr rfl | assumption) :
    DS X W (.AugAssign (.Name x px) op a pos) (mAug i g fa) :=
  PS.imp (ps_aug hN hi hx ha ho hf) fun D σ H ⟨HF, L, ρ, S, R, p⟩ => by
    unfold mAug at p
    split at p
    · rename_i m hm
      obtain ⟨v, e1, e2⟩ := R.env i _ hm
      have e2 : Rep (gd X W) HF v (.int m) := e2
      cases e2
      refine ⟨_, e1, HF, L, ρ, S, R, PostS.bind p fun d S1 w H1 HF1 L1 e1 st1 R1 r1 p1 => ?_⟩
      split at p1
      · cases r1
        exact ⟨_, _, rfl, rfl, p1.done (R1.store (e := .v (.int _)) (.int _) i)⟩
      · exact p1.elim
    · exact p.elim
/-- targets of every kind: names, items of cells, tuples of these -/
abbrev DGn := D → DL.Env → Store → Out DL.Env
def PostG (G : Gd) (H HF : Hp) (L : List Addr) (Q : L2.St → Hp → Prop) : Out DL.Env → Prop
  | .ok ρ' S' => ∀ σ' H' HF' L', Step H HF L H' HF' L' → Rel G H' HF' L' σ' ρ' S' → Q σ' H'
  | _ => False
def tGt (G : Gd) (g : DGn) : TG := fun v σ H Q => ∃ HF L ρ S d, Rel G H HF L σ ρ S ∧ Rep G HF v d ∧ PostG G H HF L Q (g d ρ S)
def tGts (G : Gd) (g : List D → DL.Env → Store → Out DL.Env) : TGs := fun vs σ H Q => ∃ HF L ρ S ds, Rel G H HF L σ ρ S ∧ Reps G HF vs ds ∧ PostG G H HF L Q (g ds ρ S)
theorem PG.imp {t t' : TG} (h : PG X tg t) (k : ∀ v σ H Q, t' v σ H Q → t v σ H Q) : PG X tg t' := ⟨fun pins s σ H v u Q I r q => h.run pins s σ H v u Q I r (k v σ H Q q)⟩
theorem PGs.imp {t t' : TGs} (h : PGs X es t) (k : ∀ v σ H Q, t' v σ H Q → t v σ H Q) : PGs X es t' := ⟨fun pins s σ H v u Q I r q => h.run pins s σ H v u Q I r (k v σ H Q q)⟩
abbrev DG (X : Cx) (W : WD) (tg : Expr) (g : DGn) : Prop := PG X tg (tGt (gd X W) g)
abbrev DGs (X : Cx) (W : WD) (es : List Expr) (g : List D → DL.Env → Store → Out DL.Env) : Prop := PGs X es (tGts (gd X W) g)
def gNm (i : Nat) : DGn := fun d ρ S => .ok (ρ.set i (some (.v d))) S
theorem gname (i : Nat) {x : Str} (hN : X.N.Nodup) (hi : X.N[i]? = some x := by rfl) (hx : Loc X.env.scope x := by first | exact Or.inl rfl | exact Or.inr rfl) (hf : X.fn x = true ∨ X.env.scope.names.lookup x = some .local := by first | exact .inl rfl | exact .inr rfl | assumption) : DG X W (.Name x pos) (gNm i) :=
  PG.imp (pg_name hN hi hx hf) fun v σ H Q ⟨HF, L, ρ, S, d, R, r, p⟩ => p _ _ _ _ .refl (R.store (e := .v d) r i)
def gNil : List D → DL.Env → Store → Out DL.Env := fun ds ρ S => match ds with
  | [] => .ok ρ S
  | _ => .bad
def gCons (g : DGn) (gs : List D → DL.Env → Store → Out DL.Env) : List D → DL.Env → Store → Out DL.Env := fun ds ρ S => match ds with
  | d :: ds => (g d ρ S).bind fun ρ1 S1 => gs ds ρ1 S1
  | _ => .bad
theorem gs0 : DGs X W [] DL.gNil := PGs.imp pgs_nil fun vs σ H Q ⟨HF, L, ρ, S, ds, R, r, p⟩ => by
  cases ds with
  | nil => cases r; exact ⟨rfl, p _ _ _ _ .refl R⟩
  | cons _ _ => exact p.elim
theorem PostG.bind {G : Gd} {H HF : Hp} {L : List Addr} {Q Q1 : L2.St → Hp → Prop} {k : DL.Env → Store → Out DL.Env} : ∀ {o : Out DL.Env}, PostG G H HF L Q (o.bind k) →
    (∀ ρ1 S1 σ1 H1 HF1 L1, Step H HF L H1 HF1 L1 → Rel G H1 HF1 L1 σ1 ρ1 S1 → PostG G H1 HF1 L1 Q (k ρ1 S1) → Q1 σ1 H1) → PostG G H HF L Q1 o
  | .ok ρ1 S1, h, f => fun σ1 H1 HF1 L1 st R => f ρ1 S1 σ1 H1 HF1 L1 st R (by
    have h : PostG G H HF L Q (k ρ1 S1) := h
    cases q : k ρ1 S1 with
    | ok ρ2 S2 => rw [q] at h; exact fun σ' H' HF' L' s2 => h σ' H' HF' L' (st.trans s2)
    | ex x S2 => rw [q] at h; exact h
    | bad => rw [q] at h; exact h)
  | .ex _ _, h, _ => h
  | .bad, h, _ => h
theorem gs1 {g : DGn} {gs : List D → DL.Env → Store → Out DL.Env} (h1 : DG X W a g) (h2 : DGs X W es gs) (hs : (assignEach (a :: es) X.env).map (·.2) = assign a X.env :: (assignEach es X.env).map (·.2) := by rfl) : DGs X W (a :: es) (DL.gCons g gs) :=
  PGs.imp (pgs_cons h1 h2 hs) fun vs σ H Q ⟨HF, L, ρ, S, ds, R, r, p⟩ => by
    cases ds with
    | nil => exact p.elim
    | cons d ds =>
      cases r with
      | cons r1 r2 => exact ⟨_, _, rfl, HF, L, ρ, S, d, R, r1, PostG.bind p fun ρ1 S1 σ1 H1 HF1 L1 st R1 p1 => ⟨HF1, L1, ρ1, S1, ds, R1, r2.mono st.fro, p1⟩⟩
def gTp (gs : List D → DL.Env → Store → Out DL.Env) (n : Nat) : DGn := fun d ρ S => match d with
  | .tup ds => if ds.length = n then gs ds ρ S else .bad
  | _ => .bad
theorem gtup {k n : Nat} {gs : List D → DL.Env → Store → Out DL.Env} (hc : X.calm = true) (h : DGs X W es gs) (hn : (assignEach es X.env).length = n := by rfl) (hst : (assignEach es X.env).findIdx? (·.1) = none := by rfl) : DG X W (.Tuple es k pos) (gTp gs n) :=
  PG.imp (pg_tup hc h hn hst) fun v σ H Q ⟨HF, L, ρ, S, d, R, r, p⟩ => by
    cases d with
    | tup ds =>
      have p : PostG (gd X W) H HF L Q (if ds.length = n then gs ds ρ S else .bad) := p
      split at p
      · rename_i hl
        cases r with
        | tup h1 h2 => exact ⟨_, _, rfl, SqT.mono R.sub h1, by rw [h2.length]; exact hl, HF, L, ρ, S, ds, R, h2, p⟩
      · exact p.elim
    | _ => exact p.elim
/-- cell[i] = .. -/
def gIt (i : Nat) (fi : DEn) : DGn := fun d ρ S => match ρ[i]? with
  | some (some (.cel n)) => (fi ρ S).bd fun x S1 => match x, S1[n]? with
    | .int k, some (some (.lst ds)) => match ixN ds.length k with
      | some j => .ok ρ (S1.set n (some (.lst (ds.set j d))))
      | none => .bad
    | _, _ => .bad
  | _ => .bad
theorem gitem (i : Nat) {x : Str} {px : Pos} {fi : DEn} (hi : DE X W.z b fi) (hN : X.N[i]? = some x := by rfl) (hv : Vis X.env.scope x := by first | exact Or.inl rfl | exact Or.inr (Or.inl rfl) | exact Or.inr (Or.inr rfl)) (hd : (x == ("__debug__" : Str)) = false := by decide) (hcd : (x == ("__classdict__" : Str)) = false := by decide)
    (ha : ∀ v, assign (.Subscript (.Name x px) b pos) X.env v = (do
      let ov ← holding [v] (eval (.Name x px) X.env)
      let iv ← holding [v, ov] (eval b X.env)
      standAt pos
      holding [v, ov, iv] (setItem ov iv v)
      release [v, ov, iv] []) := by intro _; rfl) : DG X W (.Subscript (.Name x px) b pos) (gIt i fi) :=
  PG.imp (pg_sub (pe_var (i := i) hN hv hd hcd) hi set_list ha) fun v σ H Q ⟨HF, L, ρ, S, d, R, r, p⟩ => by
    unfold gIt at p
    split at p
    · rename_i n hn
      obtain ⟨w, hw1, pa, hp1, hp2⟩ := R.env i _ hn
      subst hp2
      refine ⟨_, hw1, HF, L, ρ, S, R, ?_⟩
      cases q : fi ρ S with
      | bad => rw [q] at p; exact p.elim
      | ex x S1 => rw [q] at p; exact p.elim
      | ok y S1 =>
        rw [q] at p
        replace p : PostG (gd X W) H HF L Q (match (generalizing := false) y, S1[n]? with
          | .int k, some (some (.lst ds)) => match (generalizing := false) ixN ds.length k with
            | some j => .ok ρ (S1.set n (some (.lst (ds.set j d))))
            | none => .bad
          | _, _ => .bad) := p
        intro u H1 HF1 L1 st1 R1 ru
        split at p
        · rename_i k ds hS
          cases ru
          split at p
          · rename_i j hj
            have hp1' := st1.lget hp1
            obtain ⟨q4, vs, q5, q6⟩ := R1.cell n pa _ hp1' hS
            obtain ⟨R2, st2⟩ := R1.write hp1' hS (q6.set j (Rep.mono st1.fro r))
            exact ⟨pa, vs, k, j, rfl, rfl, q5, by rw [q6.length]; exact hj, p _ _ _ _ (st1.trans st2) R2⟩
          · exact p.elim
        · exact p.elim
    · exact p.elim
def mAsg (fa : DEn) (g : DGn) : DSn := fun ρ S => bindS (fa ρ S) ρ fun d S1 => match g d ρ S1 with
  | .ok ρ' S2 => .ok (.nx, ρ') S2
  | _ => .bad
theorem sasg {g : DGn} (ha : DE X W a fa) (hg : DG X W tg g) (hs : swapsWithSole [tg] a pos.line X.env = pure false := by rfl) (hw : swappedStores [tg] a X.env = pure none := by rfl) (h1 : (assignEach [tg] X.env).map (·.2) = [assign tg X.env] := by rfl) : DS X W (.Assign [tg] a pos) (mAsg fa g) :=
  PS.imp (ps_asg ha hg hs hw h1) fun D σ H ⟨HF, L, ρ, S, R, p⟩ => ⟨HF, L, ρ, S, R, PostS.bind p fun d S1 v H1 HF1 L1 e1 st1 R1 r1 p1 => ⟨HF1, L1, ρ, S1, d, R1, r1, by
    cases q : g d ρ S1 with
    | ok ρ' S2 =>
      rw [q] at p1
      exact fun σ' H' HF' L' st2 R2 => p1 σ' H' HF' L' st2 R2
    | ex x S2 => rw [q] at p1; exact p1.elim
    | bad => rw [q] at p1; exact p1.elim⟩⟩
/-! ### loops -/
def forL (t : Tg) (body : DSn) : List D → DSn
  | [], ρ, S => .ok (.nx, ρ) S
  | d :: ds, ρ, S => match asg t d ρ with
    | none => .bad
    | some ρ1 => match body ρ1 S with
      | .ok (.nx, ρ2) S2 => forL t body ds ρ2 S2
      | .ok (.ct, ρ2) S2 => forL t body ds ρ2 S2
      | .ok (.bk, ρ2) S2 => .ok (.nx, ρ2) S2
      | .ok (.rt r, ρ2) S2 => .ok (.rt r, ρ2) S2
      | .ok (.ex x, ρ2) S2 => .ok (.ex x, ρ2) S2
      | _ => .bad
def mFor (fi : DDn) (t : Tg) (body : DSn) : DSn := fun ρ S => bindS (fi ρ S) ρ fun ds S1 => forL t body ds ρ S1
theorem sfor {iter : Expr} {fi : DDn} {t : Tg} {body : List Stmt} {fb : DSn} (hp : PassesOwn (model X.prog X.w) X.A X.env X.xe) (hc : X.calm = true) (hi : DI X W tg iter fi) (hg : PG X tg (tgG X.K t)) (hb : DSs X W body fb) (hs : ∀ x, foldedSetIterable iter X.env x = pure x := by intro _; rfl) :
    DS X W (.For tg iter body [] pos) (mFor fi t fb) := by
  refine PS.imp (ps_for hp hc hi hg hb hs) fun D σ H ⟨HF, L, ρ, S, R, p⟩ => ⟨HF, L, ρ, S, R, PostS.bind p fun ds S1 J H1 HF1 L1 e1 st1 R1 rJ p1 => ?_⟩
  refine ⟨fun i m σh Hh => m = ds.length - i ∧ i ≤ ds.length ∧ ∃ HFh Lh ρh Sh, Rel (gd X W) Hh HFh Lh σh ρh Sh ∧ Same HF1 HFh ∧ PostS (gd X W) W Hh HFh Lh D (forL t fb (ds.drop i) ρh Sh), ⟨ds.length, by simp, Nat.zero_le _, HF1, L1, ρ, S1, R1, Same.refl _, by simpa using p1⟩, ?_⟩
  rintro i m σh Hh ⟨rfl, hle, HFh, Lh, ρh, Sh, Rh, sm, ph⟩
  by_cases hlt : i < ds.length
  · refine .inr ⟨rJ.go i Hh HFh sm Rh.sub hlt, fun σ' H' => ∃ HFh Lh ρh Sh, Rel (gd X W) H' HFh Lh σ' ρh Sh ∧ Same HF1 HFh ∧ PostS (gd X W) W H' HFh Lh D (forL t fb (ds.drop (i + 1)) ρh Sh), fun σ' H' h => ⟨ds.length - (i + 1), by omega, rfl, hlt, h⟩, fun x H2 hy => ?_⟩
    have ed : ds.drop i = ds[i] :: ds.drop (i + 1) := List.drop_eq_getElem_cons hlt
    rw [ed] at ph
    obtain ⟨HF2, al, rx⟩ := rJ.yld i x Hh HFh H2 ds[i] sm Rh.sub (List.getElem?_eq_getElem hlt) hy
    obtain ⟨R2, st2⟩ := Rh.al al
    have ph : PostS (gd X W) W Hh HFh Lh D (match asg t ds[i] ρh with
      | none => .bad
      | some ρ1 => match fb ρ1 Sh with
        | .ok (.nx, ρ2) S2 => forL t fb (ds.drop (i + 1)) ρ2 S2
        | .ok (.ct, ρ2) S2 => forL t fb (ds.drop (i + 1)) ρ2 S2
        | .ok (.bk, ρ2) S2 => .ok (.nx, ρ2) S2
        | .ok (.rt r, ρ2) S2 => .ok (.rt r, ρ2) S2
        | .ok (.ex x, ρ2) S2 => .ok (.ex x, ρ2) S2
        | _ => .bad) := ph
    cases ea : asg t ds[i] ρh with
    | none => rw [ea] at ph; exact ph.elim
    | some ρ1 =>
      rw [ea] at ph
      dsimp only at ph
      refine tgG_ok (G := gd X W) t R2 rx ea fun ws hws R3 => ⟨HF2, Lh, ρ1, Sh, R3, ?_⟩
      cases q : fb ρ1 Sh with
      | bad => rw [q] at ph; exact ph.elim
      | ex x S2 => rw [q] at ph; exact ph.elim
      | ok cr S2 =>
        obtain ⟨c, ρ2⟩ := cr
        rw [q] at ph
        intro σ' H' HF' L' st3 R4
        cases c with
        | nx => exact ⟨HF', L', ρ2, S2, R4, sm.trans (st2.fro.trans st3.fro), PostS.step (st2.trans st3) ph⟩
        | ct => exact ⟨HF', L', ρ2, S2, R4, sm.trans (st2.fro.trans st3.fro), PostS.step (st2.trans st3) ph⟩
        | bk => exact ph σ' H' HF' L' (st2.trans st3) R4
        | rt r => exact ph σ' H' HF' L' (st2.trans st3) R4
        | ex x => exact ph σ' H' HF' L' (st2.trans st3) R4
  · have e : i = ds.length := by omega
    subst e
    rw [List.drop_length] at ph
    exact .inl ⟨rJ.stop _ Hh HFh sm Rh.sub (Nat.le_refl _), PostS.done (c := .nx) ph Rh⟩
def whileL (t : DTn) (body : DSn) : Nat → DSn
  | 0, _, _ => .bad
  | n + 1, ρ, S => bindS (t ρ S) ρ fun k S1 => if k = true then match body ρ S1 with
      | .ok (.nx, ρ2) S2 => whileL t body n ρ2 S2
      | .ok (.ct, ρ2) S2 => whileL t body n ρ2 S2
      | .ok (.bk, ρ2) S2 => .ok (.nx, ρ2) S2
      | .ok (.rt r, ρ2) S2 => .ok (.rt r, ρ2) S2
      | .ok (.ex x, ρ2) S2 => .ok (.ex x, ρ2) S2
      | _ => .bad
    else .ok (.nx, ρ) S1
theorem swhile (fuel : Nat) {tt : DTn} {body : List Stmt} {fb : DSn} (hp : PassesOwn (model X.prog X.w) X.A X.env X.xe) (ht : DT X W a tt) (hb : DSs X W body fb) : DS X W (.While a body [] pos) (whileL tt fb fuel) := by
  refine PS.imp (ps_while hp ht hb) fun D σ H ⟨HF, L, ρ, S, R, p⟩ => ?_
  refine ⟨fun m σh Hh => ∃ HFh Lh ρh Sh, Rel (gd X W) Hh HFh Lh σh ρh Sh ∧ PostS (gd X W) W Hh HFh Lh D (whileL tt fb m ρh Sh), ⟨fuel, HF, L, ρ, S, R, p⟩, ?_⟩
  rintro m σh Hh ⟨HFh, Lh, ρh, Sh, Rh, ph⟩
  cases m with
  | zero => exact ph.elim
  | succ n =>
    refine ⟨HFh, Lh, ρh, Sh, Rh, PostS.bind ph fun k S1 k' H1 HF1 L1 e1 st1 R1 r1 p1 => ?_⟩
    cases r1
    cases k with
    | false =>
      rw [if_neg Bool.false_ne_true] at p1 ⊢
      exact PostS.done (c := .nx) p1 R1
    | true =>
      rw [if_pos rfl] at p1 ⊢
      refine ⟨fun σ' H' => ∃ HFh Lh ρh Sh, Rel (gd X W) H' HFh Lh σ' ρh Sh ∧ PostS (gd X W) W H' HFh Lh D (whileL tt fb n ρh Sh), fun σ' H' h => ⟨n, Nat.lt_succ_self n, h⟩, HF1, L1, ρh, S1, R1, ?_⟩
      cases q : fb ρh S1 with
      | bad => rw [q] at p1; exact p1.elim
      | ex x S2 => rw [q] at p1; exact p1.elim
      | ok cr S2 =>
        obtain ⟨c, ρ2⟩ := cr
        rw [q] at p1
        intro σ' H' HF' L' st3 R4
        cases c with
        | nx => exact ⟨HF', L', ρ2, S2, R4, PostS.step st3 p1⟩
        | ct => exact ⟨HF', L', ρ2, S2, R4, PostS.step st3 p1⟩
        | bk => exact p1 σ' H' HF' L' st3 R4
        | rt r => exact p1 σ' H' HF' L' st3 R4
        | ex x => exact p1 σ' H' HF' L' st3 R4
end
/-! ### a def, by its body -/
def denB (N : Nat) (body : DSn) : Den := fun es S => match body (es.map some ++ List.replicate (N - es.length) none) S with
  | .ok (.rt d, _) S' => .ok d (S'.take S.length)
  | .ok (.nx, _) S' => .ok .non (S'.take S.length)
  | .ok (.ex x, _) S' => .ex x (S'.take S.length)
  | _ => .bad
section
variable {G : Gd} {H HF H' HF' : Hp} {L L' : List Addr} {σ : L2.St} {ρ : DL.Env} {S S' : Store}
theorem Rel.leave (R : Rel G H HF L [] [] S) (st : Step H HF L H' HF' L') (R' : Rel G H' HF' L' σ ρ S') : Step H HF L H' HF' L ∧ Rel G H' HF' L [] [] (S'.take S.length) := by
  obtain ⟨M, eM, nM⟩ := st.ext
  refine ⟨⟨st.keep, st.nn, st.fro, st.new, [], by simp, by simp⟩, ⟨R'.sub, R.nd, ?_, fun a ha => R'.liv a (by rw [eM]; exact List.mem_append_left _ ha), R'.tab, R'.nft, fun n a c h1 h2 => ?_, rfl, fun i e h => by simp at h⟩⟩
  · rw [List.length_take, R'.sl, R.sl, eM, List.length_append]
    omega
  · have hn : n < S.length := by rw [R.sl]; exact (List.getElem?_eq_some_iff.mp h1).1
    rw [List.getElem?_take_of_lt hn] at h2
    exact R'.cell n a c (st.lget h1) h2
theorem start_env {vs : List V} {es : List EV} {N : List Str} (r : RepEs G HF L vs es) : ∀ (i : Nat) (e : EV), (es.map some ++ List.replicate (N.length - es.length) none)[i]? = some (some e) → ∃ v, (L2.start N vs)[i]? = some (some v) ∧ RepE G HF L v e := by
  intro i e h
  have hi : i < es.length := by
    by_cases hi : i < es.length
    · exact hi
    · rw [List.getElem?_append_right (by simpa using hi), List.getElem?_replicate] at h
      split at h <;> cases h
  rw [List.getElem?_append_left (by simpa using hi), List.getElem?_map] at h
  have key : ∀ {es : List EV} {vs : List V} {i : Nat} {e : EV}, RepEs G HF L vs es → es[i]? = some e → ∃ v, vs[i]? = some v ∧ RepE G HF L v e := by
    intro es
    induction es with
    | nil => intro vs i e _ h; simp at h
    | cons x es ih =>
      intro vs i e r h
      cases r with
      | cons r1 r2 =>
        cases i with
        | zero => simp at h; subst h; exact ⟨_, rfl, r1⟩
        | succ i =>
          obtain ⟨v, g1, g2⟩ := ih r2 (i := i) (by simpa using h)
          exact ⟨v, by simpa using g1, g2⟩
  cases q : es[i]? with
  | none => rw [q] at h; cases h
  | some e' =>
    rw [q] at h
    cases h
    obtain ⟨v, g1, g2⟩ := key r q
    refine ⟨v, ?_, g2⟩
    unfold L2.start
    rw [List.getElem?_append_left (by rw [List.length_map, r.length]; exact hi), List.getElem?_map, g1]
    rfl
end
/-- the wish of a def's body about exceptions -/
abbrev WF (E : XK) : WD := ⟨fun cls d _ H => E cls d H, none⟩
theorem fnd_of {P : Program} {w : World} {G : Gd} {base : Heap} {x qual : Str} {st : Stmt} {f : Addr} {fd : FuncData} {N ps : List Str} {k n : Nat} {body : DSn} (F : Fun G.K x qual st f fd) (Sc : FnScope N ps (defScope st)) (hn : ps.length = n) (hnN : n ≤ N.length) (hG : G.xi = none := by rfl)
    (hbody : ∀ (cdv : Value) (A : Around) (outer : List PySem.Env) (s : Shared) (H : Hp) (E : XK), Room k (A.deeper (envOfC qual (defScope st) s.heap.objs.size f cdv)) →
      DSs (cxOf (L2.CX P w) P w G.K G.mg base N qual (defScope st) f cdv A outer s H E) (WF E) (defBody st) body) : FnOk P w G.K G.mg base (L2.CX P w) (k + 1) f fd ps (spD G n (denB N.length body)) := by
  obtain ⟨K, mg, xi⟩ := G
  obtain rfl : xi = none := hG
  refine F.okX Sc (fun vs H Q E h => h.1.trans hn.symm) fun cdv A outer s H vs Q E hr h => ⟨_, hbody cdv A outer s H E hr, ?_⟩
  obtain ⟨hl, HF, L, es, S, R, r, p⟩ := h
  have hle : es.length = n := by rw [← r.length]; exact hl
  refine ⟨HF, L, _, S, ⟨R.sub, R.nd, R.sl, R.liv, R.tab, R.nft, R.cell, ?_, start_env (N := N) r⟩, ?_⟩
  · unfold L2.start
    rw [List.length_append, List.length_append, List.length_map, List.length_map, List.length_replicate, List.length_replicate, r.length]
  · unfold denB at p
    cases q : body (es.map some ++ List.replicate (N.length - es.length) none) S with
    | bad => rw [q] at p; exact p.elim
    | ex x S' => rw [q] at p; exact p.elim
    | ok cr S' =>
      obtain ⟨c, ρ'⟩ := cr
      rw [q] at p
      intro σ' H' HF' L' st' R'
      obtain ⟨st2, R2⟩ := R.leave st' R'
      cases c with
      | nx => exact p .non H' HF' st2 R2 .non
      | rt d => exact fun v rv => p v H' HF' st2 R2 rv
      | ex x => exact fun cls dd ex => p cls dd H' HF' st2 R2 ex
      | bk => exact p.elim
      | ct => exact p.elim
theorem dfn_of {P : Program} {w : World} {G : Gd} {base : Heap} {x qual : Str} {st : Stmt} {f : Addr} {fd : FuncData} {N ps : List Str} {k n : Nat} {body : DSn} (F : Fun G.K x qual st f fd) (Sc : FnScope N ps (defScope st)) (hm : G.mg x = some (.ref f)) (hb : Binds G.K fd ps []) (hn : ps.length = n) (hnN : n ≤ N.length) (hG : G.xi = none)
    (hbody : ∀ (cdv : Value) (A : Around) (outer : List PySem.Env) (s : Shared) (H : Hp) (E : XK), Room k (A.deeper (envOfC qual (defScope st) s.heap.objs.size f cdv)) →
      DSs (cxOf (L2.CX P w) P w G.K G.mg base N qual (defScope st) f cdv A outer s H E) (WF E) (defBody st) body) : Dfn P w G base (k + 1) x n (denB N.length body) :=
  ⟨f, fd, ps, hm, F.kp, hb, hn, fnd_of F Sc hn hnN hG hbody⟩
end DL

namespace DL
open PySem PySem.Spec PyProof.Rows L2
theorem units65 {A : Around} {k : Nat} (hr : Room k A) : A.units + 65 < cLine := by have := hr.un; omega
theorem boot_len : bootBuiltins "len" = some (.builtin "len") := by decide +kernel
theorem boot_any : bootBuiltins "any" = some (.builtin "any") := by decide +kernel
theorem boot_all : bootBuiltins "all" = some (.builtin "all") := by decide +kernel
theorem boot_sorted : bootBuiltins "sorted" = some (.builtin "sorted") := by decide +kernel
theorem boot_max : bootBuiltins "max" = some (.builtin "max") := by decide +kernel
theorem boot_min : bootBuiltins "min" = some (.builtin "min") := by decide +kernel
theorem boot_sum : bootBuiltins "sum" = some (.builtin "sum") := by decide +kernel
theorem boot_abs : bootBuiltins "abs" = some (.builtin "abs") := by decide +kernel
theorem boot_int : bootBuiltins "int" = some (.type "int") := by decide +kernel
theorem boot_str : bootBuiltins "str" = some (.type "str") := by decide +kernel
theorem boot_bool : bootBuiltins "bool" = some (.type "bool") := by decide +kernel
theorem boot_tuple : bootBuiltins "tuple" = some (.type "tuple") := by decide +kernel
theorem boot_list : bootBuiltins "list" = some (.type "list") := by decide +kernel
theorem boot_dict : bootBuiltins "dict" = some (.type "dict") := by decide +kernel
section
variable {X : Cx} {W : WD} {pos : Pos} {a b c : Expr} {fa fb fc : DEn} {es : List Expr} {fs : DDn}
theorem xfnD {x : Str} {k n : Nat} {f : Den} (d : Dfn X.prog X.w (gd X W) X.base k x n f) (hg : Gl X x := by rfl) (hd : (x == ("__debug__" : Str)) = false := by decide) : DE X W (.Name x pos) (mC (.fn x)) := by
  obtain ⟨ad, fd, ps, h1, _⟩ := d.has
  exact xfn hg h1 hd
/-- a written negative number -/
theorem xneg {k : Nat} {i : Int} {p : Pos} : DE X W (.UnaryOp .USub (.Constant (.int i) k p) pos) (mC (.int (-i))) :=
  PE.imp (pe_un un_neg pe_int) fun σ H Q ⟨HF, L, ρ, S, R, p⟩ => ⟨_, rfl, p.done R .no (.int _)⟩
def mUSub (fa : DEn) : DEn := fun ρ S => (fa ρ S).bind fun x S1 => match x with
  | .int i => .ok (.int (-i)) S1
  | _ => .bad
theorem xusub (ha : DE X W a fa) : DE X W (.UnaryOp .USub a pos) (mUSub fa) :=
  PE.imp (pe_un un_neg ha) fun σ H Q ⟨HF, L, ρ, S, R, p⟩ => ⟨HF, L, ρ, S, R, Post.bind p fun x S1 v H1 HF1 L1 e1 st1 R1 r1 p1 => by
    split at p1
    · cases r1
      exact ⟨_, rfl, p1.done R1 .no (.int _)⟩
    · exact p1.elim⟩
/-- isinstance(x, (A, B)) -/
def isTy2 (d : D) (T U : String) : Option Bool := (isTy d T).bind fun k => if k = true then some true else isTy d U
def mIsT2 (T U : String) (fa : DEn) : DEn := fun ρ S => (fa ρ S).bind fun x S1 => lift ((isTy2 x T U).map D.bl) S1
theorem xisT2 {t u : Str} {T U : String} {p pt pu pp : Pos} {kk : Nat} (hm : X.mg "isinstance" = none) (hmT : X.mg t = none) (hvT : bootBuiltins t = some (.type T)) (hmU : X.mg u = none) (hvU : bootBuiltins u = some (.type U)) (ha : DE X W a fa) (hg : Gl X "isinstance" := by rfl)
    (hgT : Gl X t := by rfl) (hnT : t ≠ "__name__" := by decide) (hdT : (t == ("__debug__" : Str)) = false := by decide) (hgU : Gl X u := by rfl) (hnU : u ≠ "__name__" := by decide) (hdU : (u == ("__debug__" : Str)) = false := by decide)
    (he : starEach [a, .Tuple [.Name t pt, .Name u pu] kk pp] X.env = (false, eval a X.env) :: starEach [.Tuple [.Name t pt, .Name u pu] kk pp] X.env := by rfl) (he2 : starEach [.Tuple [.Name t pt, .Name u pu] kk pp] X.env = (false, eval (.Tuple [.Name t pt, .Name u pu] kk pp) X.env) :: starEach [] X.env := by rfl)
    (he3 : starEach [Expr.Name t pt, .Name u pu] X.env = (false, eval (.Name t pt) X.env) :: starEach [.Name u pu] X.env := by rfl) (he4 : starEach [Expr.Name u pu] X.env = (false, eval (.Name u pu) X.env) :: starEach [] X.env := by rfl)
    (hpl : (backTo pos (starEach [.Tuple [.Name t pt, .Name u pu] kk pp] X.env)).any (·.1) = false := by rfl) :
    DE X W (.Call (.Name "isinstance" p) [a, .Tuple [.Name t pt, .Name u pu] kk pp] [] pos) (mIsT2 T U fa) :=
  PE.imp (pe_callB call_isiT hg hm PyProof.Rows.boot_isinstance (pa_cons ha (pa_cons (pe_tup (pa_cons (pe_bltn (v := .ty T) hgT hmT hvT rfl hnT hdT) (pa_cons (pe_bltn (v := .ty U) hgU hmU hvU rfl hnU hdU) pa_nil he4) he3)) pa_nil he2) he) (by decide) (by decide) he hpl) fun σ H Q ⟨HF, L, ρ, S, R, p⟩ => ⟨HF, L, ρ, S, R, Post.bind p fun x S1 v H1 HF1 L1 e1 st1 R1 r1 p1 => by
    obtain ⟨d, ed, p2⟩ := p1.lift
    refine ⟨by show 2 ≤ sizeLine; decide, fun q hq => ?_⟩
    have R2 := (R1.frozen (o := .tup [.ty T, .ty U]) hq).1
    have ru := Rep.mono (same_upd (o := .tup [.ty T, .ty U]) (R1.hf hq)) r1
    cases et : x.ty with
    | none => unfold isTy2 isTy at ed; rw [et] at ed; cases ed
    | some tt =>
      cases ek : kitB tt T with
      | none => unfold isTy2 isTy at ed; rw [et] at ed; simp only [Option.bind_some, ek, Option.bind_none] at ed; cases ed
      | some k =>
        cases k with
        | true =>
          have e2 : d = .bl true := by
            unfold isTy2 isTy at ed; rw [et] at ed; simp only [Option.bind_some, ek, if_pos rfl] at ed; cases ed; rfl
          subst e2
          exact ⟨v, q, [.ty T, .ty U], .type tt, [.type T, .type U], true, rfl, upd_same, .cons (.ty T) (.cons (.ty U) .nil), ru.ty R2.sub et, kitAny_cons (kit_ty ek) (fun z => nomatch z) (fun _ => rfl), p2.done R1 (.new hq) (.bl true)⟩
        | false =>
          cases ek2 : kitB tt U with
          | none => unfold isTy2 isTy at ed; rw [et] at ed; simp only [Option.bind_some, ek, ek2, if_neg Bool.false_ne_true] at ed; cases ed
          | some k2 =>
            have e2 : d = .bl k2 := by
              unfold isTy2 isTy at ed; rw [et] at ed; simp only [Option.bind_some, ek, ek2, if_neg Bool.false_ne_true] at ed; cases ed; rfl
            subst e2
            exact ⟨v, q, [.ty T, .ty U], .type tt, [.type T, .type U], k2, rfl, upd_same, .cons (.ty T) (.cons (.ty U) .nil), ru.ty R2.sub et, kitAny_cons (kit_ty ek) (fun _ => kitAny_cons (kit_ty ek2) (fun e => by rw [e]; rfl) (fun e => e)) (fun z => nomatch z), p2.done R1 (.new hq) (.bl k2)⟩⟩
/-- x in cell, and its like -/
def mCmpR (i : Nat) (g : D → D → Option Bool) (fa : DEn) : DTn := fun ρ S => (fa ρ S).bind fun y S1 => match ρ[i]? with
  | some (some (.cel n)) => match S1[n]? with
    | some (some (.lst ds)) => lift (g y (.lst ds)) S1
    | _ => .bad
  | _ => .bad
theorem tT.celR {i : Nat} {r : R2} {g : D → D → Option Bool} (hs : CmS (gd X W) r g) {σ : L2.St} {H : Hp} {Q : Bool → Hp → Prop} {Qv : VK} (h : tT (gd X W) W (mCmpR i g fa) σ H Q) (hq : ∀ b H', Q b H' → Qv (.bl b) H') :
    tOp r (tD (gd X W) W fa) (tVar i) σ H Qv := by
  obtain ⟨HF, L, ρ, S, R, p⟩ := h
  refine ⟨HF, L, ρ, S, R, Post.bind p fun y S1 w H1 HF1 L1 e1 st1 R1 r1 p1 => ?_⟩
  split at p1
  · rename_i n hn
    split at p1
    · rename_i ds hS
      obtain ⟨b, eb, p2⟩ := p1.lift
      obtain ⟨v, hv1, pa, hp1, hp2⟩ := R1.env i _ hn
      subst hp2
      obtain ⟨HB, s1, s2, rb⟩ := lend R1 hp1 hS
      exact ⟨_, hv1, hs y (.lst ds) w (.ref pa) H1 HB b Qv s1 (Rep.mono s2 r1) rb eb (hq b H1 (p2.done R1 .no rfl))⟩
    · exact p1.elim
  · exact p1.elim
theorem xcmpR {op : CmpOp} (i : Nat) {x : Str} {px : Pos} {g : D → D → Option Bool} (o : CmpO X W op g) (ha : DE X W a fa) (hm : behindInMarks op (.Name x px) = false := by first | rfl | exact nomark _) (hN : X.N[i]? = some x := by rfl) (hv : Vis X.env.scope x := by first | exact Or.inl rfl | exact Or.inr (Or.inl rfl) | exact Or.inr (Or.inr rfl)) (hd : (x == ("__debug__" : Str)) = false := by decide)
    (hcd : (x == ("__classdict__" : Str)) = false := by decide) : DE X W (.Compare a [op] [.Name x px] pos) (mB (mCmpR i g fa)) := by
  obtain ⟨r, h1, h2⟩ := o.has
  exact PE.imp (pe_cmpR h1 ha (pe_var (i := i) hN hv hd hcd) hm) fun σ H Q h => tT.celR h2 (tD.mB h) fun _ _ q => q
theorem ycmpR {op : CmpOp} (i : Nat) {x : Str} {px : Pos} {g : D → D → Option Bool} (o : CmpO X W op g) (ha : DE X W a fa) (hm : behindInMarks op (.Name x px) = false := by first | rfl | exact nomark _) (hN : X.N[i]? = some x := by rfl) (hv : Vis X.env.scope x := by first | exact Or.inl rfl | exact Or.inr (Or.inl rfl) | exact Or.inr (Or.inr rfl)) (hd : (x == ("__debug__" : Str)) = false := by decide)
    (hcd : (x == ("__classdict__" : Str)) = false := by decide) : DT X W (.Compare a [op] [.Name x px] pos) (mCmpR i g fa) := by
  obtain ⟨r, h1, h2⟩ := o.has
  exact PT.imp (pt_cmpR h1 ha (pe_var (i := i) hN hv hd hcd) hm) fun σ H Q h => tT.celR h2 h fun b _ q => ⟨b, rfl, q⟩
/-- sorted of a list of intsOf -/
def insI (x : Int) : List Int → List Int
  | [] => [x]
  | y :: r => if x ≤ y then x :: y :: r else y :: insI x r
def sortI : List Int → List Int
  | [] => []
  | x :: r => insI x (sortI r)
theorem insI_perm (x : Int) : ∀ r : List Int, (insI x r).Perm (x :: r)
  | [] => .refl _
  | y :: r => by
    unfold insI
    split
    · exact .refl _
    · exact (List.Perm.cons y (insI_perm x r)).trans (.swap x y r)
theorem sortI_perm : ∀ r : List Int, (sortI r).Perm r
  | [] => .refl _
  | x :: r => (insI_perm x _).trans (.cons x (sortI_perm r))
theorem insI_sorted {x : Int} : ∀ {r : List Int}, r.Pairwise (· ≤ ·) → (insI x r).Pairwise (· ≤ ·)
  | [], _ => by simp [insI]
  | y :: r, h => by
    obtain ⟨h1, h2⟩ := List.pairwise_cons.mp h
    unfold insI
    split
    · rename_i hc
      refine List.pairwise_cons.mpr ⟨fun z hz => ?_, h⟩
      rcases List.mem_cons.mp hz with e | hz
      · rw [e]; exact hc
      · exact Int.le_trans hc (h1 z hz)
    · rename_i hc
      refine List.pairwise_cons.mpr ⟨fun z hz => ?_, insI_sorted h2⟩
      rcases List.mem_cons.mp ((insI_perm x r).mem_iff.mp hz) with e | hz
      · rw [e]; omega
      · exact h1 z hz
theorem sortI_sorted : ∀ r : List Int, (sortI r).Pairwise (· ≤ ·)
  | [] => .nil
  | x :: r => insI_sorted (sortI_sorted r)
def intsOf : List D → Option (List Int)
  | [] => some []
  | .int i :: r => (intsOf r).map (i :: ·)
  | _ => none
theorem Reps.intsOf {G : Gd} {HF : Hp} : ∀ {ds : List D} {vs : List V} {is : List Int}, Reps G HF vs ds → DL.intsOf ds = some is → vs = is.map V.int
  | [], _, _, h, e => by cases h; cases e; rfl
  | .int i :: ds, _, is, h, e => by
    cases h with
    | cons h1 h2 =>
      cases h1
      have e : (DL.intsOf ds).map (i :: ·) = some is := e
      cases q : DL.intsOf ds with
      | none => rw [q] at e; cases e
      | some is' =>
        rw [q] at e
        cases e
        rw [Reps.intsOf h2 q]
        rfl
  | .non :: ds, _, _, _, e => by cases e
  | .bl _ :: ds, _, _, _, e => by cases e
  | .str _ :: ds, _, _, _, e => by cases e
  | .tup _ :: ds, _, _, _, e => by cases e
  | .lst _ :: ds, _, _, _, e => by cases e
  | .rol _ :: ds, _, _, _, e => by cases e
  | .fn _ :: ds, _, _, _, e => by cases e
theorem reps_ints {G : Gd} {HF : Hp} : ∀ is : List Int, Reps G HF (is.map V.int) (is.map D.int)
  | [] => .nil
  | i :: is => .cons (.int i) (reps_ints is)
def gSorted : List D → Option D
  | [.lst ds] => (intsOf ds).map fun is => .lst ((sortI is).map D.int)
  | _ => none
theorem biSorted : BiO X W (.builtin "sorted") gSorted := by
  refine ⟨_, cr_sortedI, fun xs vs H HF d Q sub r e q => ?_⟩
  unfold gSorted at e
  split at e
  · rename_i ds
    obtain ⟨v, rfl, h⟩ := r.one
    cases h with
    | lst h1 h2 =>
      cases eb : intsOf ds with
      | none => rw [eb] at e; cases e
      | some is =>
        rw [eb] at e
        cases e
        have ev := h2.intsOf eb
        subst ev
        refine ⟨_, is, rfl, SqL.of (sub _ _ h1), fun ns' p hp hs hn => ?_⟩
        have en : ns' = sortI is := PySem.W.ksm_same (hp.trans (sortI_perm is).symm) hs (sortI_sorted is)
        subst en
        exact q _ _ _ (.new hn) (.lst upd_same (reps_ints _))
  · cases e
end
/-! ### constants of the module -/
theorem kon_int {G : Gd} {x : Str} {i : Int} {t : Tok} (h : G.mg x = some (.int i t)) : Kon G x (.int i) := ⟨.int i, _, h, ⟨t, rfl⟩, fun _ => .int i⟩
theorem kon_tup {G : Gd} {x : Str} {ad : Addr} {dd : Option Addr} {us : List Value} {vs : List V} {ds : List D} {n : Nat} {sl : Array (Option Value)} (h : G.mg x = some (.ref ad)) (l : G.K.lookup ad = some ⟨.type "tuple", dd, .seq us.toArray n, sl⟩)
    (hv : Vals vs us) (hl : us.length ≤ lim) (r : ∀ HF, Reps G HF vs ds) : Kon G x (.tup ds) :=
  ⟨.ref ad, _, h, rfl, fun HF => .tup (.inr ⟨_, us.toArray, n, l, rfl, rfl, by rw [List.size_toArray]; exact Nat.le_trans hl lim_le, by simpa using hv⟩) (r HF)⟩
/-! ### a law -/
def spLaw (K : PySem.W.Frag) : Sp := fun vs H Q _ => ∃ (a : Addr) (ns : List Int), vs = [.ref a] ∧ SqL K H a (ns.map V.int) ∧ ns.length ≤ 63 ∧ (∃ c P, PySem.W.tabIn K "law" = some (c, P) ∧ H P = some (.tbl #[])) ∧ ∀ H', Q (.bl true) H'
def noTbl (H : Hp) : Hp := fun b => match H b with
  | some (.tbl _) => none
  | o => o
theorem noTbl_of {H : Hp} {b : Addr} {o : HO} (h : H b = some o) (ho : Nt o) : noTbl H b = some o := by
  unfold noTbl
  rw [h]
  split
  · rename_i e; cases e; exact absurd rfl (ho _)
  · rfl
theorem noTbl_rd {H : Hp} {a : Addr} {u : HO} (h : Rd H a u) (hu : Nt u) : Rd (noTbl H) a u := by
  rcases h with h | ⟨o, h⟩
  · exact .inl (noTbl_of h hu)
  · exact .inr ⟨o, noTbl_of h (fun _ z => by cases z)⟩
theorem law_fn {P : Program} {w : World} {G : Gd} {base : Heap} {k : Nat} {f : Den} {fa : Addr} {fd : FuncData} {ps : List Str} (h5 : FnOk P w G.K G.mg base (L2.CX P w) k fa fd ps (spD G 1 f))
    (hlaw : ∀ ns : List Int, ns.length ≤ 63 → ∃ S', f [.v (.rol (ns.map D.int))] [] = .ok (.bl true) S') : FnOk P w G.K G.mg base (L2.CX P w) k fa fd ps (spLaw G.K) := by
  refine h5.imp fun vs H Q E ⟨ad, ns, e1, e2, e3, ⟨c, Pt, et, hP⟩, e4⟩ => ?_
  subst e1
  obtain ⟨S', hS⟩ := hlaw ns e3
  have tab : TabG G H (noTbl H) := ⟨c, Pt, et, #[], hP, True.intro, fun pos cv hc => by
    have z : codeAmong pos [] = some cv := hc
    simp [codeAmong] at z⟩
  have s0 : Same (noTbl H) H := fun b o e => by
    unfold noTbl at e
    split at e
    · cases e
    · exact e
  have e2' : SqL G.K (noTbl H) ad (ns.map V.int) := by
    rcases e2 with h | h
    · exact .inl (noTbl_rd h (fun _ z => by cases z))
    · exact .inr h
  refine ⟨rfl, noTbl H, [], [.v (.rol (ns.map D.int))], [], ⟨s0, by simp, rfl, by simp, tab, fun b ps e => ?_, fun n a c h => by simp at h, rfl, fun i e h => by simp at h⟩, .cons (.rol e2' (reps_ints ns)) .nil, ?_⟩
  · unfold noTbl at e
    split at e
    · cases e
    · rename_i h; exact h _ e
  rw [hS]
  intro v H' HF' st R r
  have r : Rep G HF' v (.bl true) := r
  cases r
  exact e4 H'
theorem noCX {P : Program} {w : World} (H : Hp) (s : Shared) (e : Value) (s' : Shared) (h : L2.CX P w [] H s (fun _ _ _ => False) e s') : False := by
  obtain ⟨_, _, _, _, _, _, _, _, _, _, _, _, z⟩ := h
  exact z
end DL
namespace DL
open PySem PySem.Spec PyProof.Rows L2
theorem walk {l : PySem.W.OpenLaw} {q : Program} {loose : List Str} {XP : (Str → Option Value) → Heap → Prop} {YP : World → Heap → Prop} {d : DefRec} {K : Params → PySem.W.Frag} {k : Nat} (hn : l.most = some 63) (hdf : d.params.defaults = []) (hr : Room k callerA)
    (hY : ∀ (w : World) (h : Heap), YP w h → (K w.params).In h) (hq : (recsOf q).find? (fun e => e.name == ("law" : Str)) = some d)
    (F : ∀ (w : World) (mg : Str → Option Value) (fa : Addr) (h : Heap), (K w.params).In h → h.Ns mainGlobals mg → mg d.name = some (.ref fa) →
      ∃ (fd : FuncData) (c P : Addr), PySem.W.tabIn (K w.params) "law" = some (c, P) ∧ PySem.W.noTabs (K w.params) = true ∧ (∀ (s : Shared) (u : Value), BindsTo s fd ⟨[u], []⟩ [("script", u)]) ∧ ∀ base : Heap, (K w.params).In base → base.Ns mainGlobals mg → LamX.TabB base mg c P → FnOk l.prog w (K w.params) mg base (L2.CX l.prog w) k fa fd ["script"] (spLaw (K w.params))) :
    PySem.W.WalkO q loose XP YP l.row.toRowW d [] (fun f vs => PySem.call f vs) := by
  refine Att.attach_callB hn hdf fun w s₀ s₁ mg mb fa o pm cd doc a vs ns G Y ho hd hcd hmg hobj hints hlen hbits hg => ?_
  have KX := hY w _ Y
  obtain ⟨fd, c, P, ht, hK, hb, hF⟩ := F w mg fa _ KX G.T.g hmg
  obtain ⟨hC, hT⟩ := PySem.W.tab_of G.T KX hq ht
  have nT : (K w.params).lookup P = none := by
    cases e : (K w.params).lookup P with
    | none => rfl
    | some u =>
      have e1 := KX P u e
      rw [hT] at e1
      cases e1
      have h2 := List.all_eq_true.mp hK (P, _) (PySem.W.mem_of_lookupK e)
      exact absurd (show false = true from h2) Bool.false_ne_true
  refine LamX.law_callTs (cs := [(c, P)]) KX G.T.g G.T.b G.T.builtins G.T.nolimit hg ?_ ?_ ?_ G.T.bmain hobj hints (Nat.le_trans hlen (by decide)) hr (fun base h1 h2 h3 => hF base h1 h2 (h3 _ List.mem_cons_self)) hb (fun H hH hS => ⟨a, ns, rfl, hS, hlen, ⟨c, P, ht, hH _ List.mem_cons_self⟩, fun _ => rfl⟩) fun H e s' => noCX H s₁ e s'
  · intro p hp; have e : p = (c, P) := by simpa using hp
    subst e; exact hT
  · intro p hp; have e : p = (c, P) := by simpa using hp
    subst e; exact nT
  · intro p hp; have e : p = (c, P) := by simpa using hp
    subst e; exact hC
end DL

/-! the layer of data: what the pieces are worth, one row a piece (for simp) -/
namespace DL
open PySem L2
section
variable {α β : Type} {a : α} {S : Store} {x : Exn} {k : α → Store → Out β} {ρ : DL.Env} {ks : α → Store → Out (Ctl × DL.Env)}
@[simp] theorem ev_bind_ok : (Out.ok a S).bind k = k a S := rfl
@[simp] theorem ev_bind_ex : (Out.ex x S : Out α).bind k = .ex x S := rfl
@[simp] theorem ev_bind_bad : (Out.bad : Out α).bind k = .bad := rfl
@[simp] theorem ev_bd_ok : (Out.ok a S).bd k = k a S := rfl
@[simp] theorem ev_lift_some : lift (some a) S = .ok a S := rfl
@[simp] theorem ev_lift_none : lift (none : Option α) S = .bad := rfl
@[simp] theorem ev_bindS_ok : bindS (.ok a S) ρ ks = ks a S := rfl
@[simp] theorem ev_bindS_ex : bindS (.ex x S : Out α) ρ ks = .ok (.ex x, ρ) S := rfl
end
section
variable {ρ : DL.Env} {S : Store} {fa fb fc : DEn} {ta tb : DTn} {fs : DDn} {i j l : Nat} {d : D} {g g' : D → D → Option D} {c c' : D → D → Option Bool}
theorem ev_var (h : ρ[i]? = some (some (.v d))) : mVar i ρ S = .ok d S := by unfold mVar; rw [h]
@[simp] theorem ev_var0 {r : DL.Env} : mVar 0 (some (.v d) :: r) S = .ok d S := rfl
@[simp] theorem ev_varS {r : DL.Env} {o : Option EV} : mVar (i + 1) (o :: r) S = mVar i r S := rfl
@[simp] theorem ev_C : mC d ρ S = .ok d S := rfl
@[simp] theorem ev_Op : mOp g fa fb ρ S = (fa ρ S).bind fun x S1 => (fb ρ S1).bind fun y S2 => lift (g x y) S2 := rfl
@[simp] theorem ev_Cmp : mCmp c fa fb ρ S = (fa ρ S).bind fun x S1 => (fb ρ S1).bind fun y S2 => lift (c x y) S2 := rfl
@[simp] theorem ev_B : mB ta ρ S = (ta ρ S).bind fun b S1 => .ok (.bl b) S1 := rfl
@[simp] theorem ev_Chain : mChain c c' fa fb fc ρ S = (fa ρ S).bind fun x S1 => (fb ρ S1).bind fun y S2 => (lift (c x y) S2).bind fun k S3 => if k = true then (fc ρ S3).bind fun z S4 => lift (c' y z) S4 else .ok false S3 := rfl
@[simp] theorem ev_And : mAnd fa fb ρ S = (fa ρ S).bind fun x S1 => (lift x.isB S1).bind fun k S2 => if k = true then fb ρ S2 else .ok (.bl false) S2 := rfl
@[simp] theorem ev_Or : mOr fa fb ρ S = (fa ρ S).bind fun x S1 => (lift x.isB S1).bind fun k S2 => if k = true then .ok (.bl true) S2 else fb ρ S2 := rfl
@[simp] theorem ev_Not : mNot fa ρ S = (fa ρ S).bind fun x S1 => (lift x.isB S1).bind fun k S2 => .ok (.bl (!k)) S2 := rfl
@[simp] theorem ev_isB {b : Bool} : D.isB (.bl b) = some b := rfl
@[simp] theorem ev_AndT : mAndT ta tb ρ S = (ta ρ S).bind fun k S1 => if k = true then tb ρ S1 else .ok false S1 := rfl
@[simp] theorem ev_OrT : mOrT ta tb ρ S = (ta ρ S).bind fun k S1 => if k = true then .ok true S1 else tb ρ S1 := rfl
@[simp] theorem ev_NotT : mNotT ta ρ S = (ta ρ S).bind fun k S1 => .ok (!k) S1 := rfl
@[simp] theorem ev_Tru : mTru fa ρ S = (fa ρ S).bind fun x S1 => lift x.tru S1 := rfl
@[simp] theorem ev_truB {b : Bool} : D.tru (.bl b) = some b := rfl
@[simp] theorem ev_If : mIf ta fa fb ρ S = (ta ρ S).bind fun k S1 => if k = true then fa ρ S1 else fb ρ S1 := rfl
@[simp] theorem ev_Nil : mNil ρ S = .ok [] S := rfl
@[simp] theorem ev_Cons : mCons fa fs ρ S = (fa ρ S).bind fun x S1 => (fs ρ S1).bind fun xs S2 => .ok (x :: xs) S2 := rfl
@[simp] theorem ev_Tup : mTup fs ρ S = (fs ρ S).bind fun xs S1 => if xs.length ≤ lim then .ok (.tup xs) S1 else .bad := rfl
@[simp] theorem ev_Lst : mLst fs ρ S = (fs ρ S).bind fun xs S1 => if xs.length ≤ lim then .ok (.lst xs) S1 else .bad := rfl
@[simp] theorem ev_Bi {gg : List D → Option D} : mBi gg fs ρ S = (fs ρ S).bind fun xs S1 => lift (gg xs) S1 := rfl
@[simp] theorem ev_Sl {fl fh : DOn} : mSl fa fl fh ρ S = (fa ρ S).bind fun x S1 => (fl ρ S1).bind fun l S2 => (fh ρ S2).bind fun h S3 => lift (gSl x l h) S3 := rfl
@[simp] theorem ev_NoPart : mNoPart ρ S = .ok none S := rfl
theorem ev_Part : mPart fa ρ S = (fa ρ S).bind fun x S1 => match x with
  | .int i => .ok (some i) S1
  | _ => .bad := rfl
@[simp] theorem ev_PartC {n : Int} : mPart (mC (.int n)) ρ S = .ok (some n) S := rfl
@[simp] theorem ev_IsT {T : String} : mIsT T fa ρ S = (fa ρ S).bind fun x S1 => lift ((isTy x T).map D.bl) S1 := rfl
@[simp] theorem ev_IsT2 {T U : String} : mIsT2 T U fa ρ S = (fa ρ S).bind fun x S1 => lift ((isTy2 x T U).map D.bl) S1 := rfl
/-! types -/
theorem kb_is : kitB "int" "str" = some false := by decide +kernel
theorem kb_ii : kitB "int" "int" = some true := by decide +kernel
theorem kb_ib : kitB "int" "bool" = some false := by decide +kernel
theorem kb_it : kitB "int" "tuple" = some false := by decide +kernel
theorem kb_il : kitB "int" "list" = some false := by decide +kernel
theorem kb_ss : kitB "str" "str" = some true := by decide +kernel
theorem kb_si : kitB "str" "int" = some false := by decide +kernel
theorem kb_sb : kitB "str" "bool" = some false := by decide +kernel
theorem kb_st : kitB "str" "tuple" = some false := by decide +kernel
theorem kb_sl : kitB "str" "list" = some false := by decide +kernel
theorem kb_bs : kitB "bool" "str" = some false := by decide +kernel
theorem kb_bi : kitB "bool" "int" = some true := by decide +kernel
theorem kb_bb : kitB "bool" "bool" = some true := by decide +kernel
theorem kb_bt : kitB "bool" "tuple" = some false := by decide +kernel
theorem kb_bl : kitB "bool" "list" = some false := by decide +kernel
theorem kb_ts : kitB "tuple" "str" = some false := by decide +kernel
theorem kb_ti : kitB "tuple" "int" = some false := by decide +kernel
theorem kb_tb : kitB "tuple" "bool" = some false := by decide +kernel
theorem kb_tt : kitB "tuple" "tuple" = some true := by decide +kernel
theorem kb_tl : kitB "tuple" "list" = some false := by decide +kernel
theorem kb_ls : kitB "list" "str" = some false := by decide +kernel
theorem kb_li : kitB "list" "int" = some false := by decide +kernel
theorem kb_lb : kitB "list" "bool" = some false := by decide +kernel
theorem kb_lt : kitB "list" "tuple" = some false := by decide +kernel
theorem kb_ll : kitB "list" "list" = some true := by decide +kernel
theorem kb_ns : kitB "NoneType" "str" = some false := by decide +kernel
theorem kb_ni : kitB "NoneType" "int" = some false := by decide +kernel
theorem kb_nb : kitB "NoneType" "bool" = some false := by decide +kernel
theorem kb_nt : kitB "NoneType" "tuple" = some false := by decide +kernel
theorem kb_nl : kitB "NoneType" "list" = some false := by decide +kernel
variable {n : Int} {z : Str} {b : Bool} {ds : List D}
@[simp] theorem ty_is : isTy (.int n) "str" = some false := kb_is
@[simp] theorem ty_ii : isTy (.int n) "int" = some true := kb_ii
@[simp] theorem ty_ib : isTy (.int n) "bool" = some false := kb_ib
@[simp] theorem ty_it : isTy (.int n) "tuple" = some false := kb_it
@[simp] theorem ty_il : isTy (.int n) "list" = some false := kb_il
@[simp] theorem ty_ss : isTy (.str z) "str" = some true := kb_ss
@[simp] theorem ty_si : isTy (.str z) "int" = some false := kb_si
@[simp] theorem ty_sb : isTy (.str z) "bool" = some false := kb_sb
@[simp] theorem ty_st : isTy (.str z) "tuple" = some false := kb_st
@[simp] theorem ty_sl : isTy (.str z) "list" = some false := kb_sl
@[simp] theorem ty_bs : isTy (.bl b) "str" = some false := kb_bs
@[simp] theorem ty_bi : isTy (.bl b) "int" = some true := kb_bi
@[simp] theorem ty_bb : isTy (.bl b) "bool" = some true := kb_bb
@[simp] theorem ty_bt : isTy (.bl b) "tuple" = some false := kb_bt
@[simp] theorem ty_bl : isTy (.bl b) "list" = some false := kb_bl
@[simp] theorem ty_ts : isTy (.tup ds) "str" = some false := kb_ts
@[simp] theorem ty_ti : isTy (.tup ds) "int" = some false := kb_ti
@[simp] theorem ty_tb : isTy (.tup ds) "bool" = some false := kb_tb
@[simp] theorem ty_tt : isTy (.tup ds) "tuple" = some true := kb_tt
@[simp] theorem ty_tl : isTy (.tup ds) "list" = some false := kb_tl
@[simp] theorem ty_ls : isTy (.lst ds) "str" = some false := kb_ls
@[simp] theorem ty_li : isTy (.lst ds) "int" = some false := kb_li
@[simp] theorem ty_lb : isTy (.lst ds) "bool" = some false := kb_lb
@[simp] theorem ty_lt : isTy (.lst ds) "tuple" = some false := kb_lt
@[simp] theorem ty_ll : isTy (.lst ds) "list" = some true := kb_ll
@[simp] theorem ty_ns : isTy .non "str" = some false := kb_ns
@[simp] theorem ty_ni : isTy .non "int" = some false := kb_ni
@[simp] theorem ty_nb : isTy .non "bool" = some false := kb_nb
@[simp] theorem ty_nt : isTy .non "tuple" = some false := kb_nt
@[simp] theorem ty_nl : isTy .non "list" = some false := kb_nl
/-! operations -/
variable {m k : Int} {xs ys : List D} {u v : Str}
@[simp] theorem g_add : gAdd (.int m) (.int n) = some (.int (m + n)) := rfl
@[simp] theorem g_sub : gSub (.int m) (.int n) = some (.int (m - n)) := rfl
theorem g_mod (h : 0 < n) : gMod (.int m) (.int n) = some (.int (m % n)) := if_pos h
theorem g_div (h : 0 < n ∧ n < 1073741824) : gDiv (.int m) (.int n) = some (.int (m / n)) := if_pos h
theorem g_mul (h : n.natAbs < 18446744073709551616) : gMul (.int m) (.int n) = some (.int (m * n)) := if_pos (.inr h)
theorem g_mulL (h : m.natAbs < 18446744073709551616) : gMul (.int m) (.int n) = some (.int (m * n)) := if_pos (.inl h)
theorem g_addT (h : xs.length + ys.length ≤ lim) : gAdd (.tup xs) (.tup ys) = some (.tup (xs ++ ys)) := if_pos h
theorem g_addL (h : xs.length + ys.length ≤ lim) : gAdd (.lst xs) (.lst ys) = some (.lst (xs ++ ys)) := if_pos h
@[simp] theorem g_i {p : Int → Int → Bool} : gI p (.int m) (.int n) = some (p m n) := rfl
@[simp] theorem g_ixT : gIx (.tup ds) (.int n) = atI ds n := rfl
@[simp] theorem g_ixL : gIx (.lst ds) (.int n) = atI ds n := rfl
@[simp] theorem g_ixR : gIx (.rol ds) (.int n) = atI ds n := rfl
@[simp] theorem g_lenT : gLen [.tup ds] = some (.int ds.length) := rfl
@[simp] theorem g_lenL : gLen [.lst ds] = some (.int ds.length) := rfl
@[simp] theorem g_lenR : gLen [.rol ds] = some (.int ds.length) := rfl
@[simp] theorem g_int : gInt [.int n] = some (.int n) := rfl
@[simp] theorem g_itemsT : D.items (.tup ds) = some ds := rfl
@[simp] theorem g_itemsL : D.items (.lst ds) = some ds := rfl
@[simp] theorem g_itemsR : D.items (.rol ds) = some ds := rfl
@[simp] theorem g_tupT : gTuple [.tup ds] = some (.tup ds) := rfl
@[simp] theorem g_tupL : gTuple [.lst ds] = some (.tup ds) := rfl
@[simp] theorem g_slT {lo hi : Option Int} : gSl (.tup ds) lo hi = some (.tup (cutD ds lo hi)) := rfl
@[simp] theorem g_slL {lo hi : Option Int} : gSl (.lst ds) lo hi = some (.lst (cutD ds lo hi)) := rfl
@[simp] theorem g_zipT : gZip (.tup xs) (.tup ys) = some (zipD xs ys) := rfl
/-! == -/
@[simp] theorem deq_ii : deq (.int m) (.int n) = (m == n) := rfl
@[simp] theorem deq_ss : deq (.str u) (.str v) = (u == v) := rfl
@[simp] theorem deq_is : deq (.int m) (.str v) = false := rfl
@[simp] theorem deq_si : deq (.str u) (.int m) = false := rfl
@[simp] theorem flat_i : D.flat (.int n) = true := rfl
@[simp] theorem flat_s : D.flat (.str u) = true := rfl
theorem okd_i : D.okd (.int n) = true := rfl
theorem deqs : ∀ (xs ys : List D), PyData.eqvAll (D.pys xs) (D.pys ys) = (decide (xs.length = ys.length) && (List.zipWith deq xs ys).all id)
  | [], [] => rfl
  | [], y :: ys => rfl
  | x :: xs, [] => rfl
  | x :: xs, y :: ys => by
    show (deq x y && PyData.eqvAll (D.pys xs) (D.pys ys)) = _
    rw [deqs xs ys]
    simp only [List.length_cons, List.zipWith_cons_cons, List.all_cons, id]
    rw [show (decide (xs.length + 1 = ys.length + 1)) = decide (xs.length = ys.length) by simp]
    cases deq x y <;> cases decide (xs.length = ys.length) <;> rfl
theorem deq_tt : deq (.tup xs) (.tup ys) = (decide (xs.length = ys.length) && (List.zipWith deq xs ys).all id) := deqs xs ys
theorem deq_ll : deq (.lst xs) (.lst ys) = (decide (xs.length = ys.length) && (List.zipWith deq xs ys).all id) := deqs xs ys
end
/-! statements -/
section
variable {ρ : DL.Env} {S : Store} {fa fb : DEn} {fv : DVn} {f g : DSn} {t : DTn} {i j : Nat} {d : D} {fs : DAn} {fi : DDn}
@[simp] theorem ev_Skip : mSkip ρ S = .ok (.nx, ρ) S := rfl
@[simp] theorem ev_Ret : mRet fa ρ S = bindS (fa ρ S) ρ fun d S1 => .ok (.rt d, ρ) S1 := rfl
@[simp] theorem ev_RetN : mRetN ρ S = .ok (.rt .non, ρ) S := rfl
@[simp] theorem ev_Drop : mDrop fa ρ S = bindS (fa ρ S) ρ fun _ S1 => .ok (.nx, ρ) S1 := rfl
@[simp] theorem ev_IfS : mIfS t f g ρ S = bindS (t ρ S) ρ fun k S1 => if k = true then f ρ S1 else g ρ S1 := rfl
@[simp] theorem ev_Set : mSet i fv ρ S = bindS (fv ρ S) ρ fun e S1 => .ok (.nx, ρ.set i (some e)) S1 := rfl
@[simp] theorem ev_SetLc : mSetLc i fa ρ S = bindS (fa ρ S) ρ fun d S1 => .ok (.nx, ρ.set i (some (.v d))) S1 := rfl
@[simp] theorem ev_V : mV fa ρ S = (fa ρ S).bind fun d S1 => .ok (.v d) S1 := rfl
@[simp] theorem ev_NilE : mNilE ρ S = .ok [] S := rfl
@[simp] theorem ev_ConsE : mConsE fv fs ρ S = (fv ρ S).bind fun x S1 => (fs ρ S1).bind fun xs S2 => .ok (x :: xs) S2 := rfl
@[simp] theorem ev_Call {F : Den} {n : Nat} : mCall F n fs ρ S = (fs ρ S).bind fun xs S1 => if xs.length = n then callD F xs S1 else .bad := rfl
@[simp] theorem ev_It : mIt fa ρ S = (fa ρ S).bind fun x S1 => lift x.items S1 := rfl
@[simp] theorem ev_Enum : mEnum fa ρ S = (fa ρ S).bind fun x S1 => (lift x.items S1).bind fun ds S2 => .ok (enumD 0 ds) S2 := rfl
@[simp] theorem ev_Zip : mZip fa fb ρ S = (fa ρ S).bind fun x S1 => (fb ρ S1).bind fun y S2 => lift (gZip x y) S2 := rfl
@[simp] theorem ev_For {tg : Tg} : mFor fi tg f ρ S = bindS (fi ρ S) ρ fun ds S1 => forL tg f ds ρ S1 := rfl
@[simp] theorem ev_Lc {tg : Tg} {vs : List Nat} : mLc fi tg t fa vs ρ S = (fi ρ S).bind fun ds S1 => (lcL tg t fa (wipeE ρ vs) ds S1 []).bind fun ys S2 => .ok (.lst ys) S2 := rfl
theorem seq_nx {ρ1 : DL.Env} {S1 : Store} (h : f ρ S = .ok (.nx, ρ1) S1) : mSeq f g ρ S = g ρ1 S1 := by unfold mSeq; rw [h]
theorem seq_rt {ρ1 : DL.Env} {S1 : Store} (h : f ρ S = .ok (.rt d, ρ1) S1) : mSeq f g ρ S = .ok (.rt d, ρ1) S1 := by unfold mSeq; rw [h]
theorem ev_Seq : mSeq f g ρ S = match f ρ S with
  | .ok (.nx, ρ1) S1 => g ρ1 S1
  | o => o := rfl
theorem denB_rt {N : Nat} {es : List EV} {ρ1 : DL.Env} {S1 : Store} (h : f (es.map some ++ List.replicate (N - es.length) none) S = .ok (.rt d, ρ1) S1) : denB N f es S = .ok d (S1.take S.length) := by unfold denB; rw [h]
theorem denB_nx {N : Nat} {es : List EV} {ρ1 : DL.Env} {S1 : Store} (h : f (es.map some ++ List.replicate (N - es.length) none) S = .ok (.nx, ρ1) S1) : denB N f es S = .ok .non (S1.take S.length) := by unfold denB; rw [h]
/-! calls without cells, with one cell ahead -/
theorem call1 {F : Den} {a r : D} (h : F [.v a] [] = .ok r []) : callD F [.v a] S = .ok r S := by
  unfold callD; simp [cels, getCs, renum, h, putCs]
theorem call2 {F : Den} {a b r : D} (h : F [.v a, .v b] [] = .ok r []) : callD F [.v a, .v b] S = .ok r S := by
  unfold callD; simp [cels, getCs, renum, h, putCs]
theorem call3 {F : Den} {a b c r : D} (h : F [.v a, .v b, .v c] [] = .ok r []) : callD F [.v a, .v b, .v c] S = .ok r S := by
  unfold callD; simp [cels, getCs, renum, h, putCs]
theorem call4 {F : Den} {a b c e r : D} (h : F [.v a, .v b, .v c, .v e] [] = .ok r []) : callD F [.v a, .v b, .v c, .v e] S = .ok r S := by
  unfold callD; simp [cels, getCs, renum, h, putCs]
theorem callC1 {F : Den} {n : Nat} {c c' : Cell} {r : D} (hs : S[n]? = some (some c)) (h : F [.cel 0] [some c] = .ok r [some c']) : callD F [.cel n] S = .ok r (S.set n (some c')) := by
  unfold callD; simp [cels, getCs, renum, h, putCs, hs]
theorem callC2 {F : Den} {n : Nat} {c c' : Cell} {a r : D} (hs : S[n]? = some (some c)) (h : F [.cel 0, .v a] [some c] = .ok r [some c']) : callD F [.cel n, .v a] S = .ok r (S.set n (some c')) := by
  unfold callD; simp [cels, getCs, renum, h, putCs, hs]
theorem callC3 {F : Den} {n : Nat} {c c' : Cell} {a b r : D} (hs : S[n]? = some (some c)) (h : F [.cel 0, .v a, .v b] [some c] = .ok r [some c']) : callD F [.cel n, .v a, .v b] S = .ok r (S.set n (some c')) := by
  unfold callD; simp [cels, getCs, renum, h, putCs, hs]
end
end DL

/-! the laws' common helpers as functions of data: the draws, a drawn word -/
namespace DL
open PySem L2
@[simp] theorem ev_IxC0 {n : Nat} {r : DL.Env} {S : Store} {fb : DEn} : mIxC 0 fb (some (.cel n) :: r) S = (fb (some (.cel n) :: r) S).bind fun y S1 => match y, S1[n]? with
    | .int k, some (some (.lst ds)) => lift (atI ds k) S1
    | _, _ => .bad := rfl
@[simp] theorem ev_It0 {n : Nat} {r : DL.Env} {S : Store} {fi : DEn} {d : D} : gIt 0 fi d (some (.cel n) :: r) S = (fi (some (.cel n) :: r) S).bd fun x S1 => match x, S1[n]? with
    | .int k, some (some (.lst ds)) => match ixN ds.length k with
      | some j => .ok (some (.cel n) :: r) (S1.set n (some (.lst (ds.set j d))))
      | none => .bad
    | _, _ => .bad := rfl
@[simp] theorem ev_Cel0 {n : Nat} {r : DL.Env} {S : Store} : mCel 0 (some (.cel n) :: r) S = .ok (.cel n) S := rfl
theorem ev_Asg {fa : DEn} {g : DGn} {ρ : DL.Env} {S : Store} : mAsg fa g ρ S = bindS (fa ρ S) ρ fun d S1 => match g d ρ S1 with
  | .ok ρ' S2 => .ok (.nx, ρ') S2
  | _ => .bad := rfl
def cb_taken : DSn :=
  (mSeq (mIfS (mCmp gGt (mIxC 0 (mC (.int 3))) (mC (.int 0))) (mSeq (mSet 3 (mV (mOp gMod (mBi gInt (mCons (mIxC 0 (mC (.int 3))) mNil)) (mVar 1))))
  (mSeq (mAsg (mOp gDiv (mIxC 0 (mC (.int 3))) (mVar 1)) (gIt 0 (mC (.int 3))))
  (mRet (mVar 3)))) mSkip)
  (mSeq (mAsg (mOp gAdd (mIxC 0 (mC (.int 1))) (mC (.int 1))) (gIt 0 (mC (.int 1))))
  (mSeq (mIfS (mCmp gGt (mIxC 0 (mC (.int 1))) (mBi gLen (mCons (mIxC 0 (mC (.int 0))) mNil))) (mSeq (mAsg (mOp gMod (mBi gInt (mCons (mOp gAdd (mOp gMul (mIxC 0 (mC (.int 2))) (mC (.int 48271))) (mC (.int 11))) mNil)) (mC (.int 2147483647))) (gIt 0 (mC (.int 2))))
  (mRet (mOp gMod (mBi gInt (mCons (mOp gDiv (mIxC 0 (mC (.int 2))) (mC (.int 7))) mNil)) (mVar 1)))) mSkip)
  (mSeq (mSet 2 (mV (mOp gIx (mIxC 0 (mC (.int 0))) (mOp gSub (mIxC 0 (mC (.int 1))) (mC (.int 1))))))
  (mSeq (mAsg (mOp gMod (mBi gInt (mCons (mOp gAdd (mOp gAdd (mOp gMul (mIxC 0 (mC (.int 2))) (mC (.int 48271))) (mVar 2)) (mC (.int 11))) mNil)) (mC (.int 2147483647))) (gIt 0 (mC (.int 2))))
  (mSeq (mIfS (mCmp gGe (mVar 2) (mOp gPow (mC (.int 10)) (mC (.int 18)))) (mAsg (mOp gDiv (mVar 2) (mVar 1)) (gIt 0 (mC (.int 3)))) mSkip)
  (mRet (mOp gMod (mBi gInt (mCons (mVar 2) mNil)) (mVar 1)))))))))
def cd_taken : Den := denB 4 cb_taken
/-- the row of draws: the script, the place, the seed, what is left of a great number -/
def row (ns : List Int) (p s r : Int) : Cell := .lst [.rol (ns.map D.int), .int p, .int s, .int r]
def RowOk (c : Cell) : Prop := ∃ ns p s r, c = row ns p s r ∧ 0 ≤ p
theorem pow18 : gPow (.int 10) (.int 18) = some (.int 1000000000000000000) := by
  have h : (if (0 : Int) ≤ 18 ∧ (18 : Int) ≤ 1000000 ∧ (10 : Int).natAbs < 18446744073709551616 then some (D.int ((10 : Int) ^ (18 : Int).toNat)) else none) = some (.int 1000000000000000000) := by
    rw [if_pos (by decide)]
    rfl
  exact h
theorem at0 {a b c d : D} : atI [a, b, c, d] 0 = some a := rfl
theorem at1 {a b c d : D} : atI [a, b, c, d] 1 = some b := rfl
theorem at2 {a b c d : D} : atI [a, b, c, d] 2 = some c := rfl
theorem at3 {a b c d : D} : atI [a, b, c, d] 3 = some d := rfl
theorem ix1 : ixN 4 1 = some 1 := rfl
theorem ix2 : ixN 4 2 = some 2 := rfl
theorem ix3 : ixN 4 3 = some 3 := rfl
theorem atI_ints {ns : List Int} {p : Int} (h0 : 0 ≤ p) (h1 : p < ns.length) : ∃ c, atI (ns.map D.int) p = some (.int c) := by
  obtain ⟨j, rfl⟩ : ∃ j : Nat, p = (j : Int) := ⟨p.toNat, by omega⟩
  have hj : j < ns.length := by omega
  exact ⟨ns[j], atI_nat (by rw [List.getElem?_map, List.getElem?_eq_getElem hj]; rfl)⟩
theorem taken {c : Cell} (h : RowOk c) {m : Int} (h0 : 0 < m) (h1 : m < 1073741824) : ∃ v c', 0 ≤ v ∧ v < m ∧ RowOk c' ∧ cd_taken [.cel 0, .v (.int m)] [some c] = .ok (.int v) [some c'] := by
  obtain ⟨ns, p, s, r, rfl, hp⟩ := h
  have mm : ∀ x : Int, 0 ≤ x % m ∧ x % m < m := fun x => ⟨Int.emod_nonneg x (by omega), Int.emod_lt_of_pos x h0⟩
  by_cases hr : 0 < r
  · refine ⟨r % m, row ns p s (r / m), (mm r).1, (mm r).2, ⟨ns, p, s, r / m, rfl, hp⟩, ?_⟩
    refine denB_rt (ρ1 := [some (.cel 0), some (.v (.int m)), none, some (.v (.int (r % m)))]) (S1 := [some (row ns p s (r / m))]) ?_
    simp [cb_taken, ev_Seq, row, at0, at1, at2, at3, hr, g_mod h0, g_div ⟨h0, h1⟩, ev_Asg, ix3]
  · by_cases hl : (ns.length : Int) < p + 1
    · refine ⟨((s * 48271 + 11) % 2147483647 / 7) % m, row ns (p + 1) ((s * 48271 + 11) % 2147483647) r, (mm _).1, (mm _).2, ⟨ns, _, _, _, rfl, by omega⟩, ?_⟩
      refine denB_rt (ρ1 := [some (.cel 0), some (.v (.int m)), none, none]) (S1 := [some (row ns (p + 1) ((s * 48271 + 11) % 2147483647) r)]) ?_
      simp [cb_taken, ev_Seq, row, at0, at1, at2, at3, hr, hl, g_mod, g_mod h0, g_div, g_mul, ev_Asg, ix1, ix2]
    · obtain ⟨v, hv⟩ := atI_ints (ns := ns) (p := p) hp (by omega)
      by_cases hb : 1000000000000000000 ≤ v
      · refine ⟨v % m, row ns (p + 1) ((s * 48271 + v + 11) % 2147483647) (v / m), (mm _).1, (mm _).2, ⟨ns, _, _, _, rfl, by omega⟩, ?_⟩
        refine denB_rt (ρ1 := [some (.cel 0), some (.v (.int m)), some (.v (.int v)), none]) (S1 := [some (row ns (p + 1) ((s * 48271 + v + 11) % 2147483647) (v / m))]) ?_
        simp [cb_taken, ev_Seq, row, at0, at1, at2, at3, hr, hl, hv, hb, pow18, g_mod, g_mod h0, g_div ⟨h0, h1⟩, g_mul, ev_Asg, ix1, ix2, ix3]
      · refine ⟨v % m, row ns (p + 1) ((s * 48271 + v + 11) % 2147483647) r, (mm _).1, (mm _).2, ⟨ns, _, _, _, rfl, by omega⟩, ?_⟩
        refine denB_rt (ρ1 := [some (.cel 0), some (.v (.int m)), some (.v (.int v)), none]) (S1 := [some (row ns (p + 1) ((s * 48271 + v + 11) % 2147483647) r)]) ?_
        simp [cb_taken, ev_Seq, row, at0, at1, at2, at3, hr, hl, hv, hb, pow18, g_mod, g_mod h0, g_mul, ev_Asg, ix1, ix2]
/-! ### loops -/
theorem forL_nx {tg : Tg} {body : DSn} : ∀ {ds : List D} (I : Nat → DL.Env → Store → Prop) (_ : ∀ i d ρ S, ds[i]? = some d → I i ρ S → ∃ ρ1 ρ2 S2, asg tg d ρ = some ρ1 ∧ body ρ1 S = .ok (.nx, ρ2) S2 ∧ I (i + 1) ρ2 S2) (ρ : DL.Env) (S : Store), I 0 ρ S → ∃ ρ' S', forL tg body ds ρ S = .ok (.nx, ρ') S' ∧ I ds.length ρ' S'
  | [], I, _, ρ, S, h0 => ⟨ρ, S, rfl, h0⟩
  | d :: ds, I, h, ρ, S, h0 => by
    obtain ⟨ρ1, ρ2, S2, e1, e2, h2⟩ := h 0 d ρ S rfl h0
    obtain ⟨ρ', S', e3, h3⟩ := forL_nx (fun i => I (i + 1)) (fun i d' ρ S hd hi => h (i + 1) d' ρ S (by simpa using hd) hi) ρ2 S2 h2
    refine ⟨ρ', S', ?_, h3⟩
    unfold forL
    rw [e1]
    dsimp only
    rw [e2]
    exact e3
theorem rgD_length (a b : Int) : (rgD a b).length = (b - a).toNat := by unfold rgD; simp
theorem rgD_get {a b : Int} {i : Nat} {d : D} (h : (rgD a b)[i]? = some d) : d = .int (a + i) := by
  unfold rgD at h
  rw [List.getElem?_map] at h
  cases q : (List.range (b - a).toNat)[i]? with
  | none => rw [q] at h; cases h
  | some j =>
    rw [q] at h
    cases h
    obtain ⟨h1, h2⟩ := List.getElem?_eq_some_iff.mp q
    simp at h2
    rw [h2]
/-! ### picks -/
def cb_pick : DSn := (mRet (mOp gIx (mVar 1) (mCall cd_taken 2 (mConsE (mCel 0) (mConsE (mV (mBi gLen (mCons (mVar 1) mNil))) mNilE)))))
def cd_pick : Den := denB 2 cb_pick
theorem atI_of {ds : List D} {v : Int} (h0 : 0 ≤ v) (h1 : v < ds.length) : ∃ i d, ds[i]? = some d ∧ v = (i : Nat) ∧ atI ds v = some d := by
  obtain ⟨j, rfl⟩ : ∃ j : Nat, v = (j : Int) := ⟨v.toNat, by omega⟩
  have hj : j < ds.length := by omega
  exact ⟨j, ds[j], List.getElem?_eq_getElem hj, rfl, atI_nat (List.getElem?_eq_getElem hj)⟩
theorem pick_spec {c : Cell} (h : RowOk c) {ds : List D} (h0 : ds ≠ []) (h1 : ds.length < 1073741824) : ∃ (i : Nat) (d : D) (c' : Cell), ds[i]? = some d ∧ RowOk c' ∧ cd_pick [.cel 0, .v (.lst ds)] [some c] = .ok d [some c'] := by
  have hp : 0 < ds.length := List.length_pos_iff.mpr h0
  obtain ⟨v, c', v0, v1, hc, e⟩ := taken h (m := ds.length) (by omega) (by omega)
  obtain ⟨i, d, e1, e2, e3⟩ := atI_of v0 v1
  refine ⟨i, d, c', e1, hc, denB_rt (ρ1 := [some (.cel 0), some (.v (.lst ds))]) (S1 := [some c']) ?_⟩
  have ec := callC2 (S := [some c]) (n := 0) (a := .int ds.length) rfl e
  simp [cb_pick, ec, e3]
/-! ### words -/
inductive Tk where
  | b (n : Nat) | l (h : Bool)
  deriving DecidableEq
def sH : D := .str "H"
def sV : D := .str "V"
def Tk.d : Tk → D
  | .b n => .int n
  | .l true => sH
  | .l false => sV
def wd (w : List Tk) : D := .tup (w.map Tk.d)
def dep : List Tk → Nat → Option Nat
  | [], k => some k
  | .b _ :: r, k => dep r (k + 1)
  | .l _ :: r, k => if 2 ≤ k then dep r (k - 1) else none
def nums : List Tk → List Nat
  | [] => []
  | .b n :: r => n :: nums r
  | .l _ :: r => nums r
theorem dep_append : ∀ (u v : List Tk) (k : Nat), dep (u ++ v) k = (dep u k).bind (dep v)
  | [], _, _ => rfl
  | .b _ :: r, v, k => by simp [dep, dep_append r v]
  | .l _ :: r, v, k => by
    simp only [List.cons_append, dep]
    split
    · exact dep_append r v _
    · rfl
theorem nums_append : ∀ (u v : List Tk), nums (u ++ v) = nums u ++ nums v
  | [], _ => rfl
  | .b _ :: r, v => by simp [nums, nums_append r v]
  | .l _ :: r, v => by simp [nums, nums_append r v]
theorem nums_le : ∀ (u : List Tk), (nums u).length ≤ u.length
  | [] => Nat.le_refl _
  | .b _ :: r => by simp [nums, nums_le r]
  | .l _ :: r => by simp only [nums, List.length_cons]; exact Nat.le_succ_of_le (nums_le r)
theorem dep_count : ∀ (u : List Tk) (k j : Nat), dep u k = some j → j + u.length = k + 2 * (nums u).length
  | [], k, j, h => by cases h; simp [nums]
  | .b _ :: r, k, j, h => by
    have := dep_count r (k + 1) j h
    simp [nums]; omega
  | .l _ :: r, k, j, h => by
    simp only [dep] at h
    split at h
    · have := dep_count r (k - 1) j h
      simp [nums]; omega
    · cases h
/-- a slicing word of so many blocks -/
structure Word (m : Nat) (w : List Tk) : Prop where
  pos : 1 ≤ m
  dep : dep w 0 = some 1
  nd : (nums w).Nodup
  lt : ∀ n ∈ nums w, n < m
  len : w.length = 2 * m - 1
theorem Word.nums {m : Nat} {w : List Tk} (h : Word m w) : (DL.nums w).length = m := by
  have := dep_count w 0 1 h.dep
  have := h.len
  have := h.pos
  omega
theorem okd_ints : ∀ (L : List Nat), (D.lst (L.map fun n : Nat => D.int (n : Int))).okd = true := by
  intro L
  have h1 : PyData.canLayAll0 (D.pys (L.map fun n : Nat => D.int (n : Int))) = true := by
    induction L with
    | nil => rfl
    | cons n L ih => exact ih
  have h2 : PyData.depthAll (D.pys (L.map fun n : Nat => D.int (n : Int))) = 0 := by
    induction L with
    | nil => rfl
    | cons n L ih =>
      have h1' : PyData.canLayAll0 (D.pys (L.map fun n : Nat => D.int (n : Int))) = true := h1
      show max 0 (PyData.depthAll (D.pys (L.map fun n : Nat => D.int (n : Int)))) = 0
      rw [ih h1']
      rfl
  show (PyData.canLayAll0 (D.pys (L.map fun n : Nat => D.int (n : Int))) && decide (PyData.depthAll (D.pys (L.map fun n : Nat => D.int (n : Int))) + 1 ≤ 64)) = true
  rw [h1, h2]
  rfl

def cb_word : DSn :=
  (mSeq (mSet 2 (mV (mOp gAdd (mC (.int 1)) (mCall cd_taken 2 (mConsE (mCel 0) (mConsE (mV (mVar 1)) mNilE))))))
  (mSeq (mPar3 4 5 6 (mConsE (mNewRg (mVar 2)) (mConsE (mV (mTup mNil)) (mConsE (mV (mC (.int 0))) mNilE))))
  (mSeq (mFor (mRg1 (mOp gSub (mOp gMul (mC (.int 2)) (mVar 2)) (mC (.int 1)))) (.nm 3) (mIfS (mAndT (mCmpL 4 gNe (mLst mNil)) (mOrT (mCmp gLt (mVar 6) (mC (.int 2))) (mCmp gEq (mCall cd_taken 2 (mConsE (mCel 0) (mConsE (mV (mC (.int 2))) mNilE))) (mC (.int 0))))) (mPar2 5 6 (mConsE (mV (mOp gAdd (mVar 5) (mTup (mCons (mMet 4 gPopAt (mCons (mCall cd_taken 2 (mConsE (mCel 0) (mConsE (mV (mBiC 4 gLen)) mNilE))) mNil)) mNil)))) (mConsE (mV (mOp gAdd (mVar 6) (mC (.int 1)))) mNilE))) (mPar2 5 6 (mConsE (mV (mOp gAdd (mVar 5) (mTup (mCons (mCall cd_pick 2 (mConsE (mCel 0) (mConsE (mV (mLst (mCons (mC (.str "H")) (mCons (mC (.str "V")) mNil)))) mNilE))) mNil)))) (mConsE (mV (mOp gSub (mVar 6) (mC (.int 1)))) mNilE)))))
  (mRet (mVar 5)))))
def cd_word : Den := denB 7 cb_word
def cb_turn : DSn := (mIfS (mAndT (mCmpL 4 gNe (mLst mNil)) (mOrT (mCmp gLt (mVar 6) (mC (.int 2))) (mCmp gEq (mCall cd_taken 2 (mConsE (mCel 0) (mConsE (mV (mC (.int 2))) mNilE))) (mC (.int 0))))) (mPar2 5 6 (mConsE (mV (mOp gAdd (mVar 5) (mTup (mCons (mMet 4 gPopAt (mCons (mCall cd_taken 2 (mConsE (mCel 0) (mConsE (mV (mBiC 4 gLen)) mNilE))) mNil)) mNil)))) (mConsE (mV (mOp gAdd (mVar 6) (mC (.int 1)))) mNilE))) (mPar2 5 6 (mConsE (mV (mOp gAdd (mVar 5) (mTup (mCons (mCall cd_pick 2 (mConsE (mCel 0) (mConsE (mV (mLst (mCons (mC (.str "H")) (mCons (mC (.str "V")) mNil)))) mNilE))) mNil)))) (mConsE (mV (mOp gSub (mVar 6) (mC (.int 1)))) mNilE))))
theorem turn_eq (ρ : DL.Env) (S : Store) : cb_turn ρ S = bindS (mAndT (mCmpL 4 gNe (mLst mNil)) (mOrT (mCmp gLt (mVar 6) (mC (.int 2))) (mCmp gEq (mCall cd_taken 2 (mConsE (mCel 0) (mConsE (mV (mC (.int 2))) mNilE))) (mC (.int 0)))) ρ S) ρ fun k S1 => if k = true then (mPar2 5 6 (mConsE (mV (mOp gAdd (mVar 5) (mTup (mCons (mMet 4 gPopAt (mCons (mCall cd_taken 2 (mConsE (mCel 0) (mConsE (mV (mBiC 4 gLen)) mNilE))) mNil)) mNil)))) (mConsE (mV (mOp gAdd (mVar 6) (mC (.int 1)))) mNilE))) ρ S1 else (mPar2 5 6 (mConsE (mV (mOp gAdd (mVar 5) (mTup (mCons (mCall cd_pick 2 (mConsE (mCel 0) (mConsE (mV (mLst (mCons (mC (.str "H")) (mCons (mC (.str "V")) mNil)))) mNilE))) mNil)))) (mConsE (mV (mOp gSub (mVar 6) (mC (.int 1)))) mNilE))) ρ S1 := rfl
@[simp] theorem ev_Par2 {i j : Nat} {fs : DAn} {ρ : DL.Env} {S : Store} : mPar2 i j fs ρ S = bindS (fs ρ S) ρ fun es S1 => match es with
  | [u, v] => .ok (.nx, (ρ.set i (some u)).set j (some v)) S1
  | _ => .bad := rfl
@[simp] theorem ev_Par3 {i j l : Nat} {fs : DAn} {ρ : DL.Env} {S : Store} : mPar3 i j l fs ρ S = bindS (fs ρ S) ρ fun es S1 => match es with
  | [u, v, w] => .ok (.nx, ((ρ.set i (some u)).set j (some v)).set l (some w)) S1
  | _ => .bad := rfl
/-- the slots in a turn -/
def eW (most many t : D) (u : List Tk) (k : Nat) : DL.Env := [some (.cel 0), some (.v most), some (.v many), some (.v t), some (.cel 1), some (.v (wd u)), some (.v (.int k))]
def cL (L : List Nat) : Cell := .lst (L.map fun n : Nat => D.int (n : Int))
theorem gNe_nil (L : List Nat) : gNe (.lst (L.map fun n : Nat => D.int (n : Int))) (.lst []) = some (decide (L ≠ [])) := by
  have e : gNe (.lst (L.map fun n : Nat => D.int (n : Int))) (.lst []) = some (!deq (.lst (L.map fun n : Nat => D.int (n : Int))) (.lst [])) := if_pos ⟨okd_ints L, okd_ints []⟩
  rw [e, deq_ll]
  cases L with
  | nil => rfl
  | cons n L => simp
theorem gEq_ii (m n : Int) : gEq (.int m) (.int n) = some (m == n) := rfl
theorem wd_len (u : List Tk) : (u.map Tk.d).length = u.length := List.length_map _
theorem add1 {u : List Tk} {t : Tk} (h : u.length + 1 ≤ lim) : gAdd (wd u) (.tup [t.d]) = some (wd (u ++ [t])) := by
  have e : gAdd (.tup (u.map Tk.d)) (.tup [t.d]) = some (.tup (u.map Tk.d ++ [t.d])) := g_addT (by simpa using h)
  unfold wd
  rw [e]
  simp
theorem lim_is : lim = 1000000 := rfl
theorem ixN_nat {n j : Nat} (h : j < n) : ixN n (j : Int) = some j := by
  unfold ixN
  rw [if_pos (by omega), if_pos (by omega)]
  simp
theorem erase_map {α β : Type} (f : α → β) : ∀ (L : List α) (j : Nat), (L.map f).eraseIdx j = (L.eraseIdx j).map f
  | [], _ => rfl
  | _ :: _, 0 => rfl
  | x :: L, j + 1 => by
    show f x :: (L.map f).eraseIdx j = f x :: (L.eraseIdx j).map f
    rw [erase_map f L j]
theorem erase_perm {α : Type} : ∀ {L : List α} {j : Nat} {n : α}, L[j]? = some n → L.Perm (n :: L.eraseIdx j)
  | [], _, _, h => by simp at h
  | x :: L, 0, n, h => by simp at h; subst h; exact .refl _
  | x :: L, j + 1, n, h => (List.Perm.cons x (erase_perm (L := L) (j := j) (by simpa using h))).trans (.swap n x _)
theorem pop_ok {L : List Nat} {v : Int} (h0 : 0 ≤ v) (h1 : v < L.length) (hl : L.length ≤ lim) : ∃ (j n : Nat), L[j]? = some n ∧ gPopAt (L.map fun n : Nat => D.int (n : Int)) [.int v] = some ((L.eraseIdx j).map fun n : Nat => D.int (n : Int), .int n) := by
  obtain ⟨j, rfl⟩ : ∃ j : Nat, v = (j : Int) := ⟨v.toNat, by omega⟩
  have hj : j < L.length := by omega
  refine ⟨j, L[j], List.getElem?_eq_getElem hj, ?_⟩
  have e : gPopAt (L.map fun n : Nat => D.int (n : Int)) [.int (j : Int)] = (ixN (L.map fun n : Nat => D.int (n : Int)).length j).bind fun k => ((L.map fun n : Nat => D.int (n : Int))[k]?).map fun d => ((L.map fun n : Nat => D.int (n : Int)).eraseIdx k, d) := if_pos (by simpa using hl)
  rw [e, ixN_nat (by simpa using hj)]
  simp [hj, erase_map]
/-- one turn -/
theorem turn_ok {most many t : D} {u : List Tk} {k m i : Nat} {L : List Nat} {c : Cell} (hc : RowOk c) (hd : dep u 0 = some k) (hp : (nums u ++ L).Perm (List.range m)) (hu : u.length = i) (hi : i < 2 * m - 1) (hm : m ≤ 100) :
    ∃ u' k' L' c', cb_turn (eW most many t u k) [some c, some (cL L)] = .ok (.nx, eW most many t u' k') [some c', some (cL L')] ∧ RowOk c' ∧ dep u' 0 = some k' ∧ (nums u' ++ L').Perm (List.range m) ∧ u'.length = i + 1 := by
  have hcnt := dep_count u 0 k hd
  have hlen : (nums u).length + L.length = m := by
    have := hp.length_eq
    simpa using this
  have hz : u.length + 1 ≤ lim := by rw [lim_is]; omega
  have letter : ∀ c, RowOk c → 2 ≤ k → (∀ ks, cb_turn (eW most many t u k) [some c, some (cL L)] = ks → ks = ks) → ∃ (b : Bool) (c' : Cell), RowOk c' ∧ (mPar2 5 6 (mConsE (mV (mOp gAdd (mVar 5) (mTup (mCons (mCall cd_pick 2 (mConsE (mCel 0) (mConsE (mV (mLst (mCons (mC (.str "H")) (mCons (mC (.str "V")) mNil)))) mNilE))) mNil)))) (mConsE (mV (mOp gSub (mVar 6) (mC (.int 1)))) mNilE))) (eW most many t u k) [some c, some (cL L)] = .ok (.nx, eW most many t (u ++ [.l b]) (k - 1)) [some c', some (cL L)] := by
    intro c hc hk _
    obtain ⟨j, d, c', e1, hc', e2⟩ := pick_spec hc (ds := [.str "H", .str "V"]) (by simp) (by decide)
    have ec := callC2 (S := [some c, some (cL L)]) (n := 0) rfl e2
    have hb : ∃ b : Bool, d = (Tk.l b).d := by
      match j, e1 with
      | 0, e1 => exact ⟨true, (Option.some.inj e1).symm⟩
      | 1, e1 => exact ⟨false, (Option.some.inj e1).symm⟩
      | j + 2, e1 => simp at e1
    obtain ⟨b, rfl⟩ := hb
    refine ⟨b, c', hc', ?_⟩
    have ek : (k : Int) - 1 = ((k - 1 : Nat) : Int) := by omega
    simp [eW, ec, add1 hz, lim_is, ek]
  have number : ∀ c, RowOk c → L ≠ [] → ∃ (n : Nat) (L' : List Nat) (c' : Cell), RowOk c' ∧ L.Perm (n :: L') ∧ (mPar2 5 6 (mConsE (mV (mOp gAdd (mVar 5) (mTup (mCons (mMet 4 gPopAt (mCons (mCall cd_taken 2 (mConsE (mCel 0) (mConsE (mV (mBiC 4 gLen)) mNilE))) mNil)) mNil)))) (mConsE (mV (mOp gAdd (mVar 6) (mC (.int 1)))) mNilE))) (eW most many t u k) [some c, some (cL L)] = .ok (.nx, eW most many t (u ++ [.b n]) (k + 1)) [some c', some (cL L')] := by
    intro c hc hL
    have hp1 : 0 < L.length := List.length_pos_iff.mpr hL
    obtain ⟨v, c', v0, v1, hc', e2⟩ := taken hc (m := L.length) (by omega) (by omega)
    obtain ⟨j, n, ej, ep⟩ := pop_ok v0 v1 (by rw [lim_is]; omega)
    have ec := callC2 (S := [some c, some (cL L)]) (n := 0) rfl e2
    refine ⟨n, L.eraseIdx j, c', hc', ?_, ?_⟩
    · exact erase_perm ej
    · have ad : gAdd (wd u) (.tup [.int (n : Int)]) = some (wd (u ++ [.b n])) := add1 (t := .b n) hz
      simp only [cL] at ec
      simp [eW, mMet, mBiC, cL, ec, ep, ad, lim_is]
  have useL : ∀ c, RowOk c → 2 ≤ k → ∃ u' k' L' c', (mPar2 5 6 (mConsE (mV (mOp gAdd (mVar 5) (mTup (mCons (mCall cd_pick 2 (mConsE (mCel 0) (mConsE (mV (mLst (mCons (mC (.str "H")) (mCons (mC (.str "V")) mNil)))) mNilE))) mNil)))) (mConsE (mV (mOp gSub (mVar 6) (mC (.int 1)))) mNilE))) (eW most many t u k) [some c, some (cL L)] = .ok (.nx, eW most many t u' k') [some c', some (cL L')] ∧ RowOk c' ∧ dep u' 0 = some k' ∧ (nums u' ++ L').Perm (List.range m) ∧ u'.length = i + 1 := by
    intro c hc hk
    obtain ⟨b, c', hc', e⟩ := letter c hc hk (fun _ _ => rfl)
    refine ⟨u ++ [.l b], k - 1, L, c', e, hc', ?_, ?_, by simp [hu]⟩
    · rw [dep_append, hd]
      show (if 2 ≤ k then dep [] (k - 1) else none) = _
      rw [if_pos hk]
      rfl
    · rw [nums_append]
      simpa [nums] using hp
  have useN : ∀ c, RowOk c → L ≠ [] → ∃ u' k' L' c', (mPar2 5 6 (mConsE (mV (mOp gAdd (mVar 5) (mTup (mCons (mMet 4 gPopAt (mCons (mCall cd_taken 2 (mConsE (mCel 0) (mConsE (mV (mBiC 4 gLen)) mNilE))) mNil)) mNil)))) (mConsE (mV (mOp gAdd (mVar 6) (mC (.int 1)))) mNilE))) (eW most many t u k) [some c, some (cL L)] = .ok (.nx, eW most many t u' k') [some c', some (cL L')] ∧ RowOk c' ∧ dep u' 0 = some k' ∧ (nums u' ++ L').Perm (List.range m) ∧ u'.length = i + 1 := by
    intro c hc hL
    obtain ⟨n, L', c', hc', hperm, e⟩ := number c hc hL
    refine ⟨u ++ [.b n], k + 1, L', c', e, hc', ?_, ?_, by simp [hu]⟩
    · rw [dep_append, hd]
      rfl
    · rw [nums_append]
      refine List.Perm.trans ?_ hp
      simp only [nums, List.append_assoc, List.singleton_append]
      exact List.Perm.append_left _ hperm.symm
  by_cases hL : L = []
  · have hk : 2 ≤ k := by
      subst hL
      simp at hlen
      omega
    obtain ⟨u', k', L', c', e, r⟩ := useL c hc hk
    refine ⟨u', k', L', c', ?_, r⟩
    rw [← e]
    have g := gNe_nil []
    subst hL
    have ht : mAndT (mCmpL 4 gNe (mLst mNil)) (mOrT (mCmp gLt (mVar 6) (mC (.int 2))) (mCmp gEq (mCall cd_taken 2 (mConsE (mCel 0) (mConsE (mV (mC (.int 2))) mNilE))) (mC (.int 0)))) (eW most many t u k) [some c, some (cL [])] = .ok false [some c, some (cL [])] := by
      simp only [cL, List.map_nil] at g ⊢
      simp [eW, mCmpL, g]
    rw [turn_eq, ht]
    rfl
  · have g := gNe_nil L
    rw [decide_eq_true hL] at g
    have ht : ∀ (tb : DTn), mAndT (mCmpL 4 gNe (mLst mNil)) tb (eW most many t u k) [some c, some (cL L)] = tb (eW most many t u k) [some c, some (cL L)] := by
      intro tb
      simp [eW, mCmpL, cL, g]
    rw [turn_eq, ht]
    by_cases hk : k < 2
    · have h2 : (mOrT (mCmp gLt (mVar 6) (mC (.int 2))) (mCmp gEq (mCall cd_taken 2 (mConsE (mCel 0) (mConsE (mV (mC (.int 2))) mNilE))) (mC (.int 0)))) (eW most many t u k) [some c, some (cL L)] = .ok true [some c, some (cL L)] := by
        have hk' : ((k : Int) < 2) := by omega
        simp [eW, hk']
      rw [h2]
      obtain ⟨u', k', L', c', e, r⟩ := useN c hc hL
      exact ⟨u', k', L', c', e, r⟩
    · obtain ⟨v, c1, v0, v1, hc1, e2⟩ := taken hc (m := 2) (by omega) (by omega)
      have ec := callC2 (S := [some c, some (cL L)]) (n := 0) rfl e2
      have h2 : (mOrT (mCmp gLt (mVar 6) (mC (.int 2))) (mCmp gEq (mCall cd_taken 2 (mConsE (mCel 0) (mConsE (mV (mC (.int 2))) mNilE))) (mC (.int 0)))) (eW most many t u k) [some c, some (cL L)] = .ok (v == 0) [some c1, some (cL L)] := by
        have hk' : ¬ ((k : Int) < 2) := by omega
        simp [eW, hk', ec, gEq_ii]
      rw [h2]
      by_cases hv : v = 0
      · obtain ⟨u', k', L', c', e, r⟩ := useN c1 hc1 hL
        refine ⟨u', k', L', c', ?_, r⟩
        rw [← e]
        subst hv
        rfl
      · obtain ⟨u', k', L', c', e, r⟩ := useL c1 hc1 (by omega)
        refine ⟨u', k', L', c', ?_, r⟩
        rw [← e]
        have : (v == 0) = false := by simpa using hv
        rw [this]
        rfl
theorem rg_nat (m : Nat) : rgD 0 m = (List.range m).map fun n : Nat => D.int (n : Int) := by
  unfold rgD
  simp
/-- a drawn word -/
theorem word_spec {c : Cell} (hc : RowOk c) {most : Nat} (h0 : 1 ≤ most) (h1 : most ≤ 100) : ∃ (m : Nat) (w : List Tk) (c' : Cell), m ≤ most ∧ Word m w ∧ RowOk c' ∧ cd_word [.cel 0, .v (.int most)] [some c] = .ok (wd w) [some c'] := by
  obtain ⟨v, c1, v0, v1, hc1, e1⟩ := taken hc (m := most) (by omega) (by omega)
  obtain ⟨m, em⟩ : ∃ m : Nat, 1 + v = (m : Int) := ⟨(1 + v).toNat, by omega⟩
  have hm1 : 1 ≤ m := by omega
  have hm2 : m ≤ most := by omega
  have ec := callC2 (S := [some c]) (n := 0) rfl e1
  let I : Nat → DL.Env → Store → Prop := fun i ρ S => ∃ (t : Option EV) (u : List Tk) (k : Nat) (L : List Nat) (c : Cell), ρ = [some (.cel 0), some (.v (.int most)), some (.v (.int m)), t, some (.cel 1), some (.v (wd u)), some (.v (.int k))] ∧ S = [some c, some (cL L)] ∧ RowOk c ∧ dep u 0 = some k ∧ (nums u ++ L).Perm (List.range m) ∧ u.length = i ∧ i ≤ 2 * m - 1
  have hI : ∀ i d ρ S, (rgD 0 (2 * (m : Int) - 1))[i]? = some d → I i ρ S → ∃ ρ1 ρ2 S2, asg (.nm 3) d ρ = some ρ1 ∧ cb_turn ρ1 S = .ok (.nx, ρ2) S2 ∧ I (i + 1) ρ2 S2 := by
    rintro i d ρ S hd ⟨t, u, k, L, c, rfl, rfl, hc, hk, hp, hu, hi⟩
    have hi' : i < 2 * m - 1 := by
      have := (List.getElem?_eq_some_iff.mp hd).1
      rw [rgD_length] at this
      omega
    obtain ⟨u', k', L', c', e, a1, a2, a3, a4⟩ := turn_ok (most := .int most) (many := .int m) (t := d) hc hk hp hu hi' (by omega)
    exact ⟨_, _, _, rfl, e, some (.v d), u', k', L', c', rfl, rfl, a1, a2, a3, a4, by omega⟩
  obtain ⟨ρ', S', e3, t, u, k, L, c', rfl, rfl, hc', hk, hp, hu, _⟩ := forL_nx I hI [some (.cel 0), some (.v (.int most)), some (.v (.int m)), none, some (.cel 1), some (.v (wd [])), some (.v (.int 0))] [some c1, some (cL (List.range m))] ⟨none, [], 0, List.range m, c1, rfl, rfl, hc1, rfl, by simp [nums], rfl, by omega⟩
  rw [rgD_length] at hu
  have hcnt := dep_count u 0 k hk
  have hlen : (nums u).length + L.length = m := by
    have := hp.length_eq
    simpa using this
  have hnil : L = [] := by
    have : (nums u).length ≤ m := by omega
    cases L with
    | nil => rfl
    | cons x L => simp at hlen; omega
  subst hnil
  rw [List.append_nil] at hp
  have hk1 : k = 1 := by simp at hlen; omega
  subst hk1
  refine ⟨m, u, c', hm2, ⟨hm1, hk, hp.nodup_iff.mpr List.nodup_range, fun n hn => by simpa using hp.mem_iff.mp hn, by omega⟩, hc', ?_⟩
  have er : mRg1 (mOp gSub (mOp gMul (mC (.int 2)) (mVar 2)) (mC (.int 1))) [some (.cel 0), some (.v (.int most)), some (.v (.int m)), none, some (.cel 1), some (.v (wd [])), some (.v (.int 0))] [some c1, some (cL (List.range m))] = .ok (rgD 0 (2 * (m : Int) - 1)) [some c1, some (cL (List.range m))] := by
    have h1 : (2 * (m : Int) - 1 ≤ 1000000000 ∧ -1000000000 ≤ 2 * (m : Int) - 1) := by omega
    simp [mRg1, g_mulL, h1]
  refine denB_rt (ρ1 := [some (.cel 0), some (.v (.int most)), some (.v (.int m)), t, some (.cel 1), some (.v (wd u)), some (.v (.int (1 : Nat)))]) (S1 := [some c', some (cL [])]) ?_
  refine (seq_nx (ρ1 := [some (.cel 0), some (.v (.int most)), some (.v (.int m)), none, none, none, none]) (S1 := [some c1]) ?_).trans ?_
  · simp [ec, em]
  refine (seq_nx (ρ1 := [some (.cel 0), some (.v (.int most)), some (.v (.int m)), none, some (.cel 1), some (.v (wd [])), some (.v (.int 0))]) (S1 := [some c1, some (cL (List.range m))]) ?_).trans ?_
  · have h1 : ((m : Int) ≤ 1000000 ∧ -1000000 ≤ (m : Int)) := by omega
    simp [mNewRg, h1, rg_nat, cL, wd, lim_is]
  refine (seq_nx (ρ1 := [some (.cel 0), some (.v (.int most)), some (.v (.int m)), t, some (.cel 1), some (.v (wd u)), some (.v (.int (1 : Nat)))]) (S1 := [some c', some (cL [])]) ?_).trans rfl
  rw [ev_For, er]
  exact e3
end DL

/-! the layer of data: exceptions of the program's own classes, raised -/
namespace DL
open PySem L2
theorem Reps.one1 {G : Gd} {HF : Hp} {vs : List V} {d : D} (r : Reps G HF vs [d]) : ∃ v, vs = [v] ∧ Rep G HF v d := by
  cases r with
  | cons h1 h2 => cases h2; exact ⟨_, rfl, h1⟩
/-- what __init__(self, f): self.f = f does with a fresh exception -/
def spInit (K : PySem.W.Frag) (f : Str) : Sp := fun vs H Q _ => ∃ (a C : Addr) (v : V), vs = [.ref a, v] ∧ OexC K C ∧ PySem.W.findIn K (.ref C) f = some none ∧ H a = some (exo a C none) ∧
  ∀ dx, H dx = none → dx ≠ a → Q .non (upd (upd H dx (exd dx [(f, v)])) a (exo a C (some dx)))
/-- a class of the program with such an __init__ -/
structure OwnE (P : Program) (w : World) (G : Gd) (base : Heap) (k : Nat) (x f : Str) : Prop where
  has : ∃ (C fI : Addr) (fd : FuncData) (ps : List Str), G.mg x = some (.ref C) ∧ OexC G.K C ∧ PySem.W.findIn G.K (.ref C) f = some none ∧ PySem.W.findIn G.K (.ref C) "__init__" = some (some (.ref fI)) ∧ PySem.W.typeIn G.K (.ref fI) = some (.type "function") ∧
    Binds G.K fd ps [] ∧ FnOk P w G.K G.mg base (L2.CX P w) k fI fd ps (spInit G.K f)
theorem OwnE.mono {P : Program} {w : World} {G : Gd} {base : Heap} {j k : Nat} {x f : Str} (o : OwnE P w G base j x f) (h : j ≤ k) : OwnE P w G base k x f := by
  obtain ⟨C, fI, fd, ps, h1, h2, h3, h4, h5, h6, h7⟩ := o.has
  exact ⟨C, fI, fd, ps, h1, h2, h3, h4, h5, h6, h7.mono h⟩
section
variable {X : Cx} {W : WD} {pos pos' p p2 : Pos} {a : Expr} {fa : DEn}
def mRaise1 (x f : Str) (fa : DEn) : DSn := fun ρ S => bindS (mCons fa mNil ρ S) ρ fun ds S1 => match ds with
  | [d] => .ok (.ex ⟨x, some (f, d)⟩, ρ) S1
  | _ => .bad
theorem passes0 : Passes (L2.CX X.prog X.w) X (fun _ _ _ => False) := fun _ _ _ _ _ _ _ ⟨_, _, _, _, _, _, _, _, _, _, _, _, h⟩ => h.elim
theorem heap_same {H1 : Hp} {a C dx : Addr} {u : HO} {fs : List (Str × V)} (ha : H1 a = none) (ne : dx ≠ a) : upd (del (upd (upd (upd H1 a (exo a C none)) dx u) a (exo a C (some dx))) a) dx (.xd fs) = upd H1 dx (.xd fs) := by
  funext b
  by_cases hb : b = dx
  · subst hb; rw [upd_same, upd_same]
  · rw [upd_ne hb, upd_ne hb]
    by_cases hc : b = a
    · subst hc; rw [del_same, ha]
    · rw [del_ne hc, upd_ne hc, upd_ne hb, upd_ne hc]
theorem sraise1 {x f : Str} {k : Nat} (o : OwnE X.prog X.w (gd X W) X.base k x f) (hr : Room (k + 1) X.A) (hc : X.calm = true) (tk : Takes X W.w) (ha : DE X W a fa) (hg : Gl X x := by rfl) (hdb : (x == ("__debug__" : Str)) = false := by decide)
    (he : starEach (a :: []) X.env = (false, eval a X.env) :: starEach [] X.env := by rfl) (hpl : (backTo pos' (starEach [] X.env)).any (·.1) = false := by rfl) :
    DS X W (.Raise (some (.Call (.Name x p) [a] [] pos')) none pos) (mRaise1 x f fa) := by
  obtain ⟨C, fI, fd, ps, gC, T, hno, iC, tI, hb, F⟩ := o.has
  refine PS.imp (ps_raise hc tk (pmk_oex (dvs := []) T iC tI F hr hb .nil passes0 hg gC (a1 ha a0 he) hdb he hpl)) fun D σ H ⟨HF, L, ρ, S, R, p⟩ => ⟨HF, L, ρ, S, R, PostS.bind p fun ds S1 vs H1 HF1 L1 e1 st1 R1 r1 p1 => ?_⟩
  split at p1
  · rename_i d
    obtain ⟨v, rfl, rv⟩ := Reps.one1 r1
    refine ⟨by simp, fun a ha => ?_⟩
    refine ⟨a, C, v, rfl, T, hno, upd_same, fun dx hdx ne => ⟨rfl, dx, [(f, v)], upd_same, ?_, ?_, ?_⟩⟩
    · rw [upd_ne ne, upd_same]
    · rw [upd_ne ne] at hdx; exact hdx
    · rw [upd_ne ne] at hdx
      rw [heap_same ha ne]
      obtain ⟨R2, st2⟩ := R1.frozen (o := .xd [(f, v)]) hdx
      exact p1 σ _ _ _ st2 R2 _ _ ⟨C, gC, rfl, dx, v, rfl, upd_same, Rep.mono (same_upd (R1.hf hdx)) rv⟩
  · exact p1.elim
/-- __init__(self, f): self.f = f keeps it -/
theorem fn_init {P : Program} {w : World} {G : Gd} {base : Heap} {f qual : Str} {st : Stmt} {fI : Addr} {fd : FuncData} {k : Nat} {q1 q2 q3 q4 : Pos} (F : Fun G.K "__init__" qual st fI fd) (Sc : FnScope ["self", f] ["self", f] (defScope st))
    (hb : defBody st = [.Assign [.Attribute (.Name "self" q1) f q2] (.Name f q3) q4]) (h0 : (f == ("__debug__" : Str)) = false := by decide) (h1 : (f == ("__classdict__" : Str)) = false := by decide)
    (hv0 : Vis (defScope st) "self" := by first | exact Or.inl rfl | exact Or.inr (Or.inl rfl) | exact Or.inr (Or.inr rfl)) (hv1 : Vis (defScope st) f := by first | exact Or.inl rfl | exact Or.inr (Or.inl rfl) | exact Or.inr (Or.inr rfl)) :
    FnOk P w G.K G.mg base (L2.CX P w) (k + 1) fI fd ["self", f] (spInit G.K f) := by
  refine F.okX Sc (fun vs H Q E ⟨a, C, v, e, _⟩ => by rw [e]; rfl) fun cdv A outer s H vs Q E hr h => ⟨tOst G.K f (tVar 0) (tVar 1), ?_, ?_⟩
  · rw [hb]
    exact pss_one (ps_ost (pe_var (i := 0) rfl hv0) (pe_var (i := 1) rfl hv1 h0 h1) rfl)
  · obtain ⟨a, C, v, rfl, T, hno, ha, hq⟩ := h
    refine ⟨v, rfl, .ref a, rfl, a, C, rfl, T, hno, .inl ⟨ha, fun dx n ne => hq dx n ne⟩⟩
/-- raise X('..'), X without an own __init__ -/
def mRaise0 (x : Str) : DSn := fun ρ S => .ok (.ex ⟨x, none⟩, ρ) S
structure OwnP (G : Gd) (x : Str) : Prop where
  has : ∃ (C : Addr) (bmB : List Value) (B newId initId : String), G.mg x = some (.ref C) ∧ ExcBaseFacts B newId initId bmB ∧ PySem.W.excIn G.K C bmB newId = true ∧ PySem.W.keepIn G.K (.ref C) = true ∧ PySem.W.subIn G.K (.ref C) (.type "BaseException") = some true ∧ PySem.W.typeIn G.K (.ref C) = some (.type "type")
theorem sraise0 {x m : Str} {j : Nat} (o : OwnP (gd X W) x) (hc : X.calm = true) (tk : Takes X W.w) (hg : Gl X x := by rfl) (hdb : (x == ("__debug__" : Str)) = false := by decide) :
    DS X W (.Raise (some (.Call (.Name x p) [.Constant (.str m) j p2] [] pos')) none pos) (mRaise0 x) := by
  obtain ⟨C, bmB, B, nw, ini, gC, F, q, kC, h1, h2⟩ := o.has
  refine PS.imp (ps_raise hc tk (pmk_own F q gC kC (raises_own h1 h2) hg hdb)) fun D σ H ⟨HF, L, ρ, S, R, p⟩ => ?_
  exact p.done R _ _ ⟨C, gC, rfl, rfl⟩
end
end DL
namespace DL
open PySem
/-- the statements of a class's text -/
def clsBody : Stmt → List Stmt
  | .ClassDef _ _ _ b _ _ _ _ _ _ _ => b
  | _ => []
end DL

/-! the layer of data: try: .. except X as e: .. -/
namespace DL
open PySem L2
/-! ### the caught exception's place in the representation -/
section
variable {K : PySem.W.Frag} {mg : Str → Option Value} {xi xj : Option (Addr × Value × Option Addr)} {HF : Hp}
theorem Rep.cx : ∀ {d : D} {v : V}, Rep ⟨K, mg, xi⟩ HF v d → Rep ⟨K, mg, xj⟩ HF v d := by
  intro d v h
  refine Rep.rec (motive_1 := fun v d _ => Rep ⟨K, mg, xj⟩ HF v d) (motive_2 := fun vs ds _ => Reps ⟨K, mg, xj⟩ HF vs ds) ?_ ?_ ?_ ?_ ?_ ?_ ?_ ?_ ?_ ?_ h
  · exact .non
  · exact fun b => .bl b
  · exact fun i => .int i
  · exact fun x => .str x
  · exact fun h1 _ h2 => .tup h1 h2
  · exact fun h1 _ h2 => .lst h1 h2
  · exact fun h1 _ h2 => .rol h1 h2
  · exact fun h1 => .fn h1
  · exact .nil
  · exact fun _ _ h1 h2 => .cons h1 h2
theorem Reps.cx : ∀ {ds : List D} {vs : List V}, Reps ⟨K, mg, xi⟩ HF vs ds → Reps ⟨K, mg, xj⟩ HF vs ds
  | [], _, h => by cases h; exact .nil
  | d :: ds, _, h => by
    cases h with
    | cons h1 h2 => exact .cons (Rep.cx h1) (Reps.cx h2)
theorem ExRep.cx {x : Exn} {cls : Value} {dd : Option Addr} (h : ExRep ⟨K, mg, xi⟩ x HF cls dd) : ExRep ⟨K, mg, xj⟩ x HF cls dd := by
  obtain ⟨C, h1, h2, h3⟩ := h
  refine ⟨C, h1, h2, ?_⟩
  cases q : x.arg with
  | none => rw [q] at h3; exact h3
  | some p =>
    rw [q] at h3
    obtain ⟨a, v, k1, k2, k3⟩ := h3
    exact ⟨a, v, k1, k2, Rep.cx k3⟩
def noex (ρ : DL.Env) : DL.Env := ρ.map fun o => match o with
  | some (.exn _) => none
  | o => o
variable {H : Hp} {L : List Addr} {σ : L2.St} {ρ : DL.Env} {S : Store}
theorem Rel.intoX (R : Rel ⟨K, mg, none⟩ H HF L σ ρ S) : Rel ⟨K, mg, xj⟩ H HF L σ ρ S := by
  refine ⟨R.sub, R.nd, R.sl, R.liv, R.tab, R.nft, fun n a c h1 h2 => ?_, R.el, fun i e h => ?_⟩
  · obtain ⟨q1, q2⟩ := R.cell n a c h1 h2
    refine ⟨q1, ?_⟩
    cases c with
    | lst ds =>
      obtain ⟨us, q3, q4⟩ := q2
      exact ⟨us, q3, (Reps.cx q4)⟩
  · obtain ⟨v, q1, q2⟩ := R.env i e h
    refine ⟨v, q1, ?_⟩
    cases e with
    | v d => exact Rep.cx q2
    | cel n => exact q2
    | exn x => obtain ⟨_, _, _, z, _⟩ := q2; cases z
theorem Rel.outX (R : Rel ⟨K, mg, xj⟩ H HF L σ ρ S) (i : Nat) : Rel ⟨K, mg, none⟩ H HF L (σ.set i none) ((noex ρ).set i none) S := by
  refine ⟨R.sub, R.nd, R.sl, R.liv, R.tab, R.nft, fun n a c h1 h2 => ?_, ?_, fun j e h => ?_⟩
  · obtain ⟨q1, q2⟩ := R.cell n a c h1 h2
    refine ⟨q1, ?_⟩
    cases c with
    | lst ds =>
      obtain ⟨us, q3, q4⟩ := q2
      exact ⟨us, q3, (Reps.cx q4)⟩
  · unfold noex
    simpa using R.el
  · by_cases hj : j = i
    · subst hj
      by_cases hl : j < (noex ρ).length
      · rw [List.getElem?_set_self hl] at h; cases h
      · rw [List.getElem?_eq_none (by simpa using hl)] at h; cases h
    · rw [List.getElem?_set_ne (Ne.symm hj)] at h ⊢
      unfold noex at h
      rw [List.getElem?_map] at h
      cases q : ρ[j]? with
      | none => rw [q] at h; cases h
      | some o =>
        rw [q] at h
        cases o with
        | none => cases h
        | some e' =>
          cases e' with
          | v d =>
            cases h
            obtain ⟨v, q1, q2⟩ := R.env j _ q
            exact ⟨v, q1, Rep.cx q2⟩
          | cel n =>
            cases h
            exact R.env j _ q
          | exn x => cases h
end
/-! ### the clause -/
/-- what an except clause does with an end of the body -/
def mTry (i : Nat) (c : Str → Option Bool) (fb fs : DSn) : DSn := fun ρ S => match fb ρ S with
  | .ok (.ex x, ρ1) S1 => match c x.cls with
    | some true => match fs (ρ1.set i (some (.exn x))) S1 with
      | .ok (.nx, ρ2) S2 => .ok (.nx, (noex ρ2).set i none) S2
      | .ok (.bk, ρ2) S2 => .ok (.bk, (noex ρ2).set i none) S2
      | .ok (.ct, ρ2) S2 => .ok (.ct, (noex ρ2).set i none) S2
      | .ok (.rt d, ρ2) S2 => .ok (.rt d, (noex ρ2).set i none) S2
      | _ => .bad
    | some false => .ok (.ex x, ρ1) S1
    | none => .bad
  | o => o
section
variable {X : Cx} {W : WD} {pos pos' np : Pos} {x n : Str} {i : Nat} {body suite : List Stmt} {b₀ : Stmt} {fb fs : DSn} {cat : Str → Option Bool} {Cx0 : Addr}
theorem stry (hxi : W.xi = none) (hs : X.stack = X.env :: X.outer) (hf : X.env.frame = some X.env.locals) (hN : X.N.Nodup) (hi : X.N[i]? = some n) (hln : X.env.kindOf n = some .local) (hc : Names X x (.ref Cx0)) (tk : Takes X W.w)
    (hcat : ∀ y b C, cat y = some b → X.mg y = some (.ref C) → PySem.W.exmOne X.K (.ref C) (.ref Cx0) = some b)
    (hb : ∀ (W' : WX) (pn : List (Addr × Obj)) (xe : Value → Shared → Prop), Takes (X.tr pn xe) W' → PassesOwn (model X.prog X.w) X.A X.env xe → DSs (X.tr pn xe) ⟨W', none⟩ body fb)
    (hsu : ∀ (a : Addr) (oe : Obj) (cls : Value) (d : Option Addr) (pn : List (Addr × Obj)), Zc cls d oe → (∃ vs, oe.data = .fields vs) → DSs (X.suite a ((a, oe) :: pn)) ⟨fun _ _ _ _ => False, some (a, cls, d)⟩ (b₀ :: suite) fs) :
    DS X W (.Try body [.ExceptHandler (some (.Name x np)) (some n) (b₀ :: suite) pos'] [] [] pos) (mTry i cat fb fs) := by
  obtain ⟨Ww, Wx⟩ := W
  obtain rfl : Wx = none := hxi
  refine PS.imp (ps_try_as (i := i) (tb := fun W' => tS (gd X ⟨W', none⟩) ⟨W', none⟩ fb) (ts := fun a cls d => tS (gd X ⟨fun _ _ _ _ => False, some (a, cls, d)⟩) ⟨fun _ _ _ _ => False, some (a, cls, d)⟩ fs) hs hf hN hi hln hc tk hb hsu) fun D σ H ⟨HF, L, ρ, S, R, p⟩ => ⟨HF, L, ρ, S, R, ?_⟩
  unfold mTry at p
  cases q : fb ρ S with
  | bad => rw [q] at p; exact p.elim
  | ex y S1 => rw [q] at p; exact p.elim
  | ok cr S1 =>
    obtain ⟨c, ρ1⟩ := cr
    rw [q] at p
    intro σ1 H1 HF1 L1 st1 R1
    cases c with
    | nx => exact p σ1 H1 HF1 L1 st1 R1
    | bk => exact p σ1 H1 HF1 L1 st1 R1
    | ct => exact p σ1 H1 HF1 L1 st1 R1
    | rt d => exact p σ1 H1 HF1 L1 st1 R1
    | ex y =>
      intro cls dd ex
      obtain ⟨C, gC, eC, _⟩ := id ex
      dsimp only at p
      cases hq : cat y.cls with
      | none => rw [hq] at p; exact p.elim
      | some b =>
        rw [hq] at p
        subst eC
        refine ⟨b, hcat _ _ _ hq gC, fun e a ha => ?_, fun e => ?_⟩
        · subst e
          dsimp only at p
          refine ⟨HF1, L1, ρ1.set i (some (.exn y)), S1, (R1.intoX (xj := some (a, .ref C, dd))).store (e := .exn y) ⟨a, .ref C, dd, rfl, rfl, ExRep.cx ex⟩ i, ?_⟩
          cases qs : fs (ρ1.set i (some (.exn y))) S1 with
          | bad => rw [qs] at p; exact p.elim
          | ex z S2 => rw [qs] at p; exact p.elim
          | ok cr S2 =>
            obtain ⟨c, ρ2⟩ := cr
            rw [qs] at p
            intro σ2 H2 HF2 L2 st2 R2
            cases c with
            | nx => exact p _ _ _ _ (st1.trans st2) (R2.outX i)
            | bk => exact p _ _ _ _ (st1.trans st2) (R2.outX i)
            | ct => exact p _ _ _ _ (st1.trans st2) (R2.outX i)
            | rt d => exact fun v rv => p _ _ _ _ (st1.trans st2) (R2.outX i) v (Rep.cx rv)
            | ex z => exact p.elim
        · subst e
          exact p σ1 H1 HF1 L1 st1 R1 _ _ ex
end
/-! ### isinstance(e, X), e.f -/
/-- isinstance(e, c), e the exception that the suite holds, with a dict or without -/
def rIsX (K : PySem.W.Frag) (cls : Value) (dd : Option Addr) (a : Addr) : List V → Hp → VK → Prop := fun xs H Q => ∃ (c : V) (cv : Value) (b : Bool) (C : Addr), xs = [.ref a, c] ∧ cls = .ref C ∧ ExcC K C ∧ (dd = none ∨ ∃ da fs, dd = some da ∧ H da = some (.xd fs)) ∧
  (∀ u, RelV c u → u = cv) ∧ PySem.W.kitOne K (.ref C) cv = some b ∧ Q (.bl b) H
theorem call_isX {X : Cx} {a : Addr} {oe : Obj} {cls : Value} {dd : Option Addr} {pn : List (Addr × Obj)} (hz : Zc cls dd oe) (hf : ∃ vs, oe.data = .fields vs) : CallR (X.suite a ((a, oe) :: pn)) (.builtin "isinstance") (rIsX X.K cls dd a) := by
  intro pn0 s σ H xs us Q I rv hx0
  obtain ⟨c, cv, b, C, rfl, eC, XC, hd, hcv, e, q⟩ := hx0
  subst eC
  cases rv with
  | cons rx rr =>
    cases rr with
    | cons rt rr =>
      cases rr
      cases rx
      have ec := hcv _ rt
      subst ec
      have hpin := (I.pin (a, oe) (List.mem_append.mpr (Or.inl List.mem_cons_self))).1
      obtain ⟨vs, hv⟩ := hf
      obtain ⟨od, J⟩ : ∃ od, PySem.W.InstAt s.heap a oe C od := by
        rcases hd with hd | ⟨da, fs, hd, ea⟩
        · refine ⟨none, ?_⟩
          subst hd
          obtain ⟨g1, g2, g3, g4⟩ := oe
          obtain ⟨h1, h2⟩ := hz
          dsimp only at h1 h2 hv
          subst h1 h2 hv
          exact ⟨hpin, rfl, rfl, trivial⟩
        · subst hd
          have hx : ObjOk X.prog X.w H s.heap da (.xd fs) := I.hok da _ ea
          obtain ⟨mA, hns, hr⟩ := hx
          obtain ⟨ob, hob, hlo⟩ := lookIn_ns hns
          exact ⟨some ob, hpin, hz.1, by unfold PySem.W.notCls; rw [hv] <;> rfl, by rw [hz.2]; exact hob⟩
      have hcl : (PySem.W.clsIn X.K C).isSome = true := by
        obtain ⟨cd, hc, _⟩ := PySem.W.any_some XC.hd
        rw [hc]; rfl
      exact PySem.W.kia_one (PySem.W.kitx_exc hcl XC.hg XC.hk XC.hs XC.ha XC.hn XC.ht XC.hm) I.kIn J e (fun z => nomatch z) fun tk => ⟨.bl b, H, I.kept (t' := tk) fun _ _ z => z, rfl, q⟩
/-- which classes' exceptions are of which classes -/
structure XTab (K : PySem.W.Frag) (mg : Str → Option Value) (tab : Str → Str → Option Bool) : Prop where
  is : ∀ y t b, tab y t = some b → ∀ C, mg y = some (.ref C) → ExcC K C ∧ ∃ CT, mg t = some (.ref CT) ∧ PySem.W.kitOne K (.ref C) (.ref CT) = some b
def mIsE (i : Nat) (tab : Str → Str → Option Bool) (t : Str) : DEn := fun ρ S => match ρ[i]? with
  | some (some (.exn x)) => lift ((tab x.cls t).map D.bl) S
  | _ => .bad
/-- which classes' exceptions have which field -/
structure XFld (K : PySem.W.Frag) (mg : Str → Option Value) (fl : Str → Str → Bool) : Prop where
  is : ∀ y f, fl y f = true → ∀ C, mg y = some (.ref C) → XfC K C ∧ PySem.W.findIn K (.ref C) f = some none
def mXf (i : Nat) (fl : Str → Str → Bool) (f : Str) : DEn := fun ρ S => match ρ[i]? with
  | some (some (.exn x)) => match x.arg with
    | some (g, d) => if fl x.cls f = true ∧ g = f then .ok d S else .bad
    | none => .bad
  | _ => .bad
section
variable {X : Cx} {pos p pe pt : Pos} {n t f : Str} {i : Nat} {tab : Str → Str → Option Bool} {a : Addr} {oe : Obj} {cls : Value} {dd : Option Addr} {pn : List (Addr × Obj)} {Ww : Value → Option Addr → L2.St → Hp → Prop}
theorem xisE (i : Nat) (T : XTab X.K X.mg tab) (CT : Addr) (gT : X.mg t = some (.ref CT)) (hz : Zc cls dd oe) (hf : ∃ vs, oe.data = .fields vs) (hm : X.mg "isinstance" = none) (hN : X.N[i]? = some n := by rfl)
    (hv : Vis X.env.scope n := by first | exact Or.inl rfl | exact Or.inr (Or.inl rfl) | exact Or.inr (Or.inr rfl)) (hg : Gl X "isinstance" := by rfl) (hgT : Gl X t := by rfl) (hd : (n == ("__debug__" : Str)) = false := by decide) (hcd : (n == ("__classdict__" : Str)) = false := by decide) (hdT : (t == ("__debug__" : Str)) = false := by decide)
    (he : starEach [Expr.Name n pe, .Name t pt] X.env = (false, eval (.Name n pe) X.env) :: starEach [.Name t pt] X.env := by rfl) (he2 : starEach [.Name t pt] X.env = (false, eval (.Name t pt) X.env) :: starEach [] X.env := by rfl) (hpl : (backTo pos (starEach [.Name t pt] X.env)).any (·.1) = false := by rfl) :
    DE (X.suite a ((a, oe) :: pn)) ⟨Ww, some (a, cls, dd)⟩ (.Call (.Name "isinstance" p) [.Name n pe, .Name t pt] [] pos) (mIsE i tab t) := by
  refine PE.imp (pe_callB (X := X.suite a ((a, oe) :: pn)) (call_isX (X := X) hz hf) hg hm PyProof.Rows.boot_isinstance (pa_cons (X := X.suite a ((a, oe) :: pn)) (pe_var (X := X.suite a ((a, oe) :: pn)) (i := i) hN hv hd hcd) (pa_cons (X := X.suite a ((a, oe) :: pn)) (pe_glob (X := X.suite a ((a, oe) :: pn)) (v := .ref CT) hgT gT rfl hdT) pa_nil he2) he) (by decide) (by decide) he hpl) fun σ H Q ⟨HF, L, ρ, S, R, q⟩ => ?_
  unfold mIsE at q
  split at q
  · rename_i x e
    obtain ⟨v, h1, a', cls', dd', h2, h3, h4⟩ := R.env i _ e
    cases h2
    obtain ⟨d, ed, q2⟩ := q.lift
    cases et : tab x.cls t with
    | none => rw [et] at ed; cases ed
    | some b =>
      rw [et] at ed
      cases ed
      obtain ⟨C, gC, eC, harg⟩ := h4
      obtain ⟨XC, CT', gT', hk⟩ := T.is _ _ _ et C gC
      have : CT' = CT := by rw [gT] at gT'; cases gT'; rfl
      subst this
      refine ⟨v, h1, ?_⟩
      subst h3
      refine ⟨.ref CT', .ref CT', b, C, rfl, eC, XC, ?_, fun u hu => hu, hk, q2.done R .no (.bl b)⟩
      cases qx : x.arg with
      | none => rw [qx] at harg; exact .inl harg
      | some g =>
        rw [qx] at harg
        obtain ⟨da, w, k1, k2, _⟩ := harg
        exact .inr ⟨da, _, k1, R.sub _ _ k2⟩
  · exact q.elim
theorem xxf {fl : Str → Str → Bool} (i : Nat) (T : XFld X.K X.mg fl) (hz : Zc cls dd oe) (hf : ∃ vs, oe.data = .fields vs) (hN : X.N[i]? = some n := by rfl)
    (hv : Vis X.env.scope n := by first | exact Or.inl rfl | exact Or.inr (Or.inl rfl) | exact Or.inr (Or.inr rfl)) (hd : (n == ("__debug__" : Str)) = false := by decide) (hcd : (n == ("__classdict__" : Str)) = false := by decide)
    (hb : attributeBase (.Name n pe) f X.env (eval (.Name n pe) X.env) = eval (.Name n pe) X.env := by rfl) :
    DE (X.suite a ((a, oe) :: pn)) ⟨Ww, some (a, cls, dd)⟩ (.Attribute (.Name n pe) f pos) (mXf i fl f) := by
  have key : ∀ {σ : L2.St} {H : Hp} {Q : VK}, tD (gd (X.suite a ((a, oe) :: pn)) ⟨Ww, some (a, cls, dd)⟩) ⟨Ww, some (a, cls, dd)⟩ (mXf i fl f) σ H Q →
      ∃ C, cls = .ref C ∧ (XfC X.K C ∧ PySem.W.findIn X.K (.ref C) f = some none) ∧ tXf a cls dd C f (tVar i) σ H Q := by
    intro σ H Q ⟨HF, L, ρ, S, R, q⟩
    unfold mXf at q
    split at q
    · rename_i x e
      obtain ⟨v, h1, a', cls', dd', h2, h3, h4⟩ := R.env i _ e
      cases h2
      obtain ⟨C, gC, eC, harg⟩ := h4
      cases qx : x.arg with
      | none => rw [qx] at q; exact q.elim
      | some p =>
        obtain ⟨g, d⟩ := p
        rw [qx] at q harg
        dsimp only at q harg
        split at q
        · rename_i hh
          obtain ⟨hfl, rfl⟩ := hh
          obtain ⟨da, w, k1, k2, k3⟩ := harg
          refine ⟨C, eC, T.is _ _ hfl C gC, v, h1, h3, eC, da, _, w, k1, R.sub _ _ k2, ?_, q.done R .no k3⟩
          simp
        · exact q.elim
    · exact q.elim
  by_cases hC : ∃ C, cls = .ref C ∧ (XfC X.K C ∧ PySem.W.findIn X.K (.ref C) f = some none)
  · obtain ⟨C, eC, h1, h2⟩ := hC
    refine PE.imp (pe_xf (X := X) h1 h2 hz hf (pe_var (X := X.suite a ((a, oe) :: pn)) (i := i) hN hv hd hcd) hb) fun σ H Q h => ?_
    obtain ⟨C', eC', _, k⟩ := key h
    rw [eC] at eC'
    cases eC'
    exact k
  · refine ⟨fun pins s σ H Q I h => ?_⟩
    obtain ⟨C', eC', h1, _⟩ := key h
    exact absurd ⟨C', eC', h1⟩ hC
end
end DL

/-! the layer of data: comprehensions of two clauses -/
namespace DL
open PySem PySem.Spec PyProof.Rows L2
def lcL2 (t : Tg) (tt : DTn) (fi : DDn) (vs1 : List Nat) (t1 : Tg) (tt1 : DTn) (fe : DEn) (ρ : DL.Env) : List D → Store → List D → Out (List D)
  | [], S, acc => .ok acc S
  | d :: ds, S, acc => match asg t d ρ with
    | none => .bad
    | some ρ1 => (tt ρ1 S).bd fun b S1 => if b = true then (fi ρ1 S1).bd fun es S2 => (lcL t1 tt1 fe (wipeE ρ1 vs1) es S2 acc).bd fun acc2 S3 => lcL2 t tt fi vs1 t1 tt1 fe ρ ds S3 acc2 else lcL2 t tt fi vs1 t1 tt1 fe ρ ds S1 acc
def mLc2 (fi : DDn) (t : Tg) (tt : DTn) (fi1 : DDn) (vs1 : List Nat) (t1 : Tg) (tt1 : DTn) (fe : DEn) (vs : List Nat) : DEn := fun ρ S => (fi ρ S).bind fun ds S1 => (lcL2 t tt fi1 vs1 t1 tt1 fe (wipeE ρ vs) ds S1 []).bind fun ys S2 => .ok (.lst ys) S2
section
variable {X : Cx} {W : WD} {pos : Pos} {a b c : Expr} {fa fb fc : DEn} {es : List Expr} {tg tg1 : Expr}
theorem lc2_read {fi fi1 : DDn} {t t1 : Tg} {tt tt1 : DTn} {fe : DEn} {vs vs1 : List Nat} (hsl : ∀ i ∈ t.slots, i ∈ vs) (hsl1 : ∀ i ∈ t1.slots, i ∈ vs1) {σ : L2.St} {H : Hp} {Q : VK} (h : tD (gd X W) W (mLc2 fi t tt fi1 vs1 t1 tt1 fe vs) σ H Q) :
    tLc2 (tI (gd X W) W fi) (tgG X.K t) (tT (gd X W) W.z tt) (tI (gd X W) W.z fi1) (tgG X.K t1) (tT (gd X W) W.z tt1) (tD (gd X W) W.z fe) vs vs1 σ H Q := by
  obtain ⟨HF, L, ρ, S, R, p⟩ := h
  refine ⟨HF, L, ρ, S, R, Post.bind p fun ds S1 J H1 HF1 L1 e1 st1 R1 rJ p1 => fun Dl hD => ?_⟩
  have hDL := R1.out hD
  have hDF := R1.hf hD
  refine ⟨fun i m Hh => m = ds.length - i ∧ i ≤ ds.length ∧ ∃ HFh Lh Sh acc vacc, Rel (gd X W) Hh HFh Lh σ ρ Sh ∧ Step H1 HF1 L1 Hh HFh Lh ∧ Hh Dl = some (.lst vacc) ∧ HFh Dl = none ∧ Dl ∉ Lh ∧ Reps (gd X W) HFh vacc acc ∧
    Post (gd X W) W σ ρ H1 HF1 L1 (fun HF' _ v d => Rep (gd X W) HF' v d) Q ((lcL2 t tt fi1 vs1 t1 tt1 fe (wipeE ρ vs) (ds.drop i) Sh acc).bind fun ys S2 => .ok (.lst ys) S2), ⟨ds.length, by simp, Nat.zero_le _, HF1, L1, S1, [], [], R1.aside hDL hDF (by rw [hD]; simp), Step.put Step.refl hD, upd_same, hDF, hDL, .nil, by simpa using p1⟩, ?_⟩
  rintro i m Hh ⟨rfl, hi, HFh, Lh, Sh, acc, vacc, Rh, sth, hv, hFv, hLv, ra, ph⟩
  have s01 : Same HF1 HFh := sth.fro
  by_cases hlt : i < ds.length
  · refine .inr ⟨rJ.go i Hh HFh s01 Rh.sub hlt, fun H' => (ds.length - (i + 1)) = ds.length - (i + 1) ∧ i + 1 ≤ ds.length ∧ ∃ HFh Lh Sh acc vacc, Rel (gd X W) H' HFh Lh σ ρ Sh ∧ Step H1 HF1 L1 H' HFh Lh ∧ H' Dl = some (.lst vacc) ∧ HFh Dl = none ∧ Dl ∉ Lh ∧ Reps (gd X W) HFh vacc acc ∧
      Post (gd X W) W σ ρ H1 HF1 L1 (fun HF' _ v d => Rep (gd X W) HF' v d) Q ((lcL2 t tt fi1 vs1 t1 tt1 fe (wipeE ρ vs) (ds.drop (i + 1)) Sh acc).bind fun ys S2 => .ok (.lst ys) S2), fun H' hw => ⟨_, by omega, hw⟩, fun x H2 hy => ?_⟩
    have ed : ds.drop i = ds[i] :: ds.drop (i + 1) := List.drop_eq_getElem_cons hlt
    rw [ed] at ph
    obtain ⟨HF2, al, rx⟩ := rJ.yld i x Hh HFh H2 ds[i] s01 Rh.sub (List.getElem?_eq_getElem hlt) hy
    obtain ⟨R2, st2⟩ := Rh.al al
    have nl : ∀ xs, Nt (.lst xs) := fun _ _ h => by cases h
    have hv2 : H2 Dl = some (.lst vacc) := st2.keep Dl _ hLv (nl _) hv
    have hF2 := st2.new Dl _ hLv hFv (by trivial) hv
    have Rw := R2.wipe vs
    have ph : Post (gd X W) W σ ρ H1 HF1 L1 (fun HF' _ v d => Rep (gd X W) HF' v d) Q (Out.bind (match asg t ds[i] (wipeE ρ vs) with
      | none => .bad
      | some ρ1 => (tt ρ1 Sh).bd fun b S1 => if b = true then (fi1 ρ1 S1).bd fun es S2 => (lcL t1 tt1 fe (wipeE ρ1 vs1) es S2 acc).bd fun acc2 S3 => lcL2 t tt fi1 vs1 t1 tt1 fe (wipeE ρ vs) (ds.drop (i + 1)) S3 acc2 else lcL2 t tt fi1 vs1 t1 tt1 fe (wipeE ρ vs) (ds.drop (i + 1)) S1 acc) fun ys S2 => .ok (.lst ys) S2) := ph
    cases ea : asg t ds[i] (wipeE ρ vs) with
    | none => rw [ea] at ph; exact ph.elim
    | some ρ1 =>
      rw [ea] at ph
      dsimp only at ph
      refine tgG_ok (G := gd X W) t Rw rx ea fun ws hws R3 => ⟨?_, ?_⟩
      · rw [wipe_sets vs ws _ fun p hp => hsl _ (hws p hp), wipe_wipe]
      generalize sets (L2.wipe σ vs) ws = σ2 at R3 ⊢
      refine ⟨HF2, Lh, ρ1, Sh, R3, ?_⟩
      cases et : tt ρ1 Sh with
      | bad => rw [et] at ph; exact ph.elim
      | ex x S' => rw [et] at ph; exact ph.elim
      | ok bb S3 =>
        rw [et] at ph
        intro b' H3 HF3 L3 st3 R4 eb
        cases eb
        have hv3 := st3.keep Dl _ hLv (nl _) hv2
        have hF3 := st3.new Dl _ hLv hF2 (by trivial) hv2
        have hL3 : Dl ∉ L3 := st3.keepL hLv hv2
        cases bb with
        | false =>
          rw [if_neg Bool.false_ne_true]
          exact ⟨rfl, hlt, HF3, L3, S3, acc, vacc, R2.reenv st3 R4, sth.trans (st2.trans st3), hv3, hF3, hL3, ra.mono (st2.fro.trans st3.fro), ph⟩
        | true =>
          rw [if_pos rfl]
          refine ⟨HF3, L3, ρ1, S3, R4, ?_⟩
          have ph : Post (gd X W) W σ ρ H1 HF1 L1 (fun HF' _ v d => Rep (gd X W) HF' v d) Q (Out.bind ((fi1 ρ1 S3).bd fun es S2 => (lcL t1 tt1 fe (wipeE ρ1 vs1) es S2 acc).bd fun acc2 S3 => lcL2 t tt fi1 vs1 t1 tt1 fe (wipeE ρ vs) (ds.drop (i + 1)) S3 acc2) fun ys S2 => .ok (.lst ys) S2) := ph
          cases ef : fi1 ρ1 S3 with
          | bad => rw [ef] at ph; exact ph.elim
          | ex x S' => rw [ef] at ph; exact ph.elim
          | ok es4 S4 =>
            rw [ef] at ph
            intro J1 H4 HF4 L4 st4 R5 rJ1
            have ph : Post (gd X W) W σ ρ H1 HF1 L1 (fun HF' _ v d => Rep (gd X W) HF' v d) Q (Out.bind ((lcL t1 tt1 fe (wipeE ρ1 vs1) es4 S4 acc).bd fun acc2 S3 => lcL2 t tt fi1 vs1 t1 tt1 fe (wipeE ρ vs) (ds.drop (i + 1)) S3 acc2) fun ys S2 => .ok (.lst ys) S2) := ph
            have hv4 := st4.keep Dl _ hL3 (nl _) hv3
            have hF4 := st4.new Dl _ hL3 hF3 (by trivial) hv3
            have hL4 : Dl ∉ L4 := st4.keepL hL3 hv3
            have Ro4 := (R2.reenv st3 R4).reenv st4 R5
            have sth4 := sth.trans (st2.trans (st3.trans st4))
            have ra4 := ra.mono (st2.fro.trans (st3.fro.trans st4.fro))
            refine ⟨fun j k Hh => k = es4.length - j ∧ j ≤ es4.length ∧ ∃ HFh Lh Sh acc vacc, Rel (gd X W) Hh HFh Lh σ ρ Sh ∧ Rel (gd X W) Hh HFh Lh σ2 ρ1 Sh ∧ Same HF4 HFh ∧ Step H1 HF1 L1 Hh HFh Lh ∧ Hh Dl = some (.lst vacc) ∧ HFh Dl = none ∧ Dl ∉ Lh ∧ Reps (gd X W) HFh vacc acc ∧
              Post (gd X W) W σ ρ H1 HF1 L1 (fun HF' _ v d => Rep (gd X W) HF' v d) Q (Out.bind ((lcL t1 tt1 fe (wipeE ρ1 vs1) (es4.drop j) Sh acc).bd fun acc2 S3 => lcL2 t tt fi1 vs1 t1 tt1 fe (wipeE ρ vs) (ds.drop (i + 1)) S3 acc2) fun ys S2 => .ok (.lst ys) S2),
              ⟨es4.length, by simp, Nat.zero_le _, HF4, L4, S4, acc, vacc, Ro4, R5, Same.refl _, sth4, hv4, hF4, hL4, ra4, by simpa using ph⟩, ?_⟩
            clear ph hv4 hF4 hL4 Ro4 sth4 ra4
            rintro j k Hk ⟨rfl, hj, HFk, Lk, Sk, acck, vacck, Rok, Rk, s4k, stk, hvk, hFk, hLk, rak, phk⟩
            by_cases hjl : j < es4.length
            · refine .inr ⟨rJ1.go j Hk HFk s4k Rk.sub hjl, fun H' => ∃ HFh Lh Sh acc vacc, Rel (gd X W) H' HFh Lh σ ρ Sh ∧ Rel (gd X W) H' HFh Lh σ2 ρ1 Sh ∧ Same HF4 HFh ∧ Step H1 HF1 L1 H' HFh Lh ∧ H' Dl = some (.lst vacc) ∧ HFh Dl = none ∧ Dl ∉ Lh ∧ Reps (gd X W) HFh vacc acc ∧
                Post (gd X W) W σ ρ H1 HF1 L1 (fun HF' _ v d => Rep (gd X W) HF' v d) Q (Out.bind ((lcL t1 tt1 fe (wipeE ρ1 vs1) (es4.drop (j + 1)) Sh acc).bd fun acc2 S3 => lcL2 t tt fi1 vs1 t1 tt1 fe (wipeE ρ vs) (ds.drop (i + 1)) S3 acc2) fun ys S2 => .ok (.lst ys) S2), fun H' hw => ⟨es4.length - (j + 1), by omega, rfl, hjl, hw⟩, fun x5 H5 hy5 => ?_⟩
              have ed1 : es4.drop j = es4[j] :: es4.drop (j + 1) := List.drop_eq_getElem_cons hjl
              rw [ed1] at phk
              obtain ⟨HF5, al5, rx5⟩ := rJ1.yld j x5 Hk HFk H5 es4[j] s4k Rk.sub (List.getElem?_eq_getElem hjl) hy5
              obtain ⟨R6, st6⟩ := Rk.al al5
              have Ro6 := Rok.reenv st6 R6
              have hv6 := st6.keep Dl _ hLk (nl _) hvk
              have hF6 := st6.new Dl _ hLk hFk (by trivial) hvk
              have Rw6 := R6.wipe vs1
              have phk : Post (gd X W) W σ ρ H1 HF1 L1 (fun HF' _ v d => Rep (gd X W) HF' v d) Q (Out.bind (Out.bd (match asg t1 es4[j] (wipeE ρ1 vs1) with
                | none => .bad
                | some ρ1 => (tt1 ρ1 Sk).bd fun b S1 => if b = true then (fe ρ1 S1).bd fun y S2 => if acck.length < lim then lcL t1 tt1 fe (wipeE _ vs1) (es4.drop (j + 1)) S2 (acck ++ [y]) else .bad else lcL t1 tt1 fe (wipeE _ vs1) (es4.drop (j + 1)) S1 acck) fun acc2 S3 => lcL2 t tt fi1 vs1 t1 tt1 fe (wipeE ρ vs) (ds.drop (i + 1)) S3 acc2) fun ys S2 => .ok (.lst ys) S2) := phk
              cases ea1 : asg t1 es4[j] (wipeE ρ1 vs1) with
              | none => rw [ea1] at phk; exact phk.elim
              | some ρ2 =>
                rw [ea1] at phk
                dsimp only at phk
                refine tgG_ok (G := gd X W) t1 Rw6 rx5 ea1 fun ws1 hws1 R7 => ⟨?_, ?_⟩
                · rw [wipe_sets vs1 ws1 _ fun p hp => hsl1 _ (hws1 p hp), wipe_wipe]
                refine ⟨HF5, Lk, ρ2, Sk, R7, ?_⟩
                cases et1 : tt1 ρ2 Sk with
                | bad => rw [et1] at phk; exact phk.elim
                | ex x S' => rw [et1] at phk; exact phk.elim
                | ok bb S8 =>
                  rw [et1] at phk
                  intro b' H8 HF8 L8 st8 R8 eb
                  cases eb
                  have hv8 := st8.keep Dl _ hLk (nl _) hv6
                  have hF8 := st8.new Dl _ hLk hF6 (by trivial) hv6
                  have hL8 : Dl ∉ L8 := st8.keepL hLk hv6
                  cases bb with
                  | false =>
                    rw [if_neg Bool.false_ne_true]
                    exact ⟨HF8, L8, S8, acck, vacck, Ro6.reenv st8 R8, R6.reenv st8 R8, s4k.trans (st6.fro.trans st8.fro), stk.trans (st6.trans st8), hv8, hF8, hL8, rak.mono (st6.fro.trans st8.fro), phk⟩
                  | true =>
                    rw [if_pos rfl]
                    refine ⟨HF8, L8, ρ2, S8, R8, ?_⟩
                    have phk : Post (gd X W) W σ ρ H1 HF1 L1 (fun HF' _ v d => Rep (gd X W) HF' v d) Q (Out.bind (Out.bd ((fe ρ2 S8).bd fun y S2 => if acck.length < lim then lcL t1 tt1 fe (wipeE ρ1 vs1) (es4.drop (j + 1)) S2 (acck ++ [y]) else .bad) fun acc2 S3 => lcL2 t tt fi1 vs1 t1 tt1 fe (wipeE ρ vs) (ds.drop (i + 1)) S3 acc2) fun ys S2 => .ok (.lst ys) S2) := phk
                    cases ee : fe ρ2 S8 with
                    | bad => rw [ee] at phk; exact phk.elim
                    | ex x S' => rw [ee] at phk; exact phk.elim
                    | ok y S9 =>
                      rw [ee] at phk
                      have phk : Post (gd X W) W σ ρ H1 HF1 L1 (fun HF' _ v d => Rep (gd X W) HF' v d) Q (Out.bind (Out.bd (if acck.length < lim then lcL t1 tt1 fe (wipeE ρ1 vs1) (es4.drop (j + 1)) S9 (acck ++ [y]) else .bad) fun acc2 S3 => lcL2 t tt fi1 vs1 t1 tt1 fe (wipeE ρ vs) (ds.drop (i + 1)) S3 acc2) fun ys S2 => .ok (.lst ys) S2) := phk
                      intro v H9 HF9 L9 st9 R9 ry
                      split at phk
                      · rename_i hz
                        have hv9 := st9.keep Dl _ hL8 (nl _) hv8
                        have hF9 := st9.new Dl _ hL8 hF8 (by trivial) hv8
                        have hL9 : Dl ∉ L9 := st9.keepL hL8 hv8
                        refine ⟨vacck, hv9, by rw [rak.length]; exact Nat.lt_of_lt_of_le hz lim_le, HF9, L9, S9, acck ++ [y], vacck ++ [v], ((Ro6.reenv st8 R8).reenv st9 R9).aside hL9 hF9 (by rw [hv9]; simp), ((R6.reenv st8 R8).reenv st9 R9).aside hL9 hF9 (by rw [hv9]; simp), s4k.trans (st6.fro.trans (st8.fro.trans st9.fro)), ?_, upd_same, hF9, hL9, (rak.mono (st6.fro.trans (st8.fro.trans st9.fro))).append (.cons ry .nil), phk⟩
                        exact Step.put (stk.trans (st6.trans (st8.trans st9))) hD
                      · exact phk.elim
            · have e : j = es4.length := by omega
              subst e
              refine .inl ⟨rJ1.stop _ Hk HFk s4k Rk.sub (Nat.le_refl _), rfl, hlt, HFk, Lk, Sk, acck, vacck, Rok, stk, hvk, hFk, hLk, rak, ?_⟩
              rw [List.drop_length] at phk
              exact phk
  · have e : i = ds.length := by omega
    subst e
    refine .inl ⟨rJ.stop _ Hh HFh s01 Rh.sub (Nat.le_refl _), ?_⟩
    rw [List.drop_length] at ph
    have ph : Post (gd X W) W σ ρ H1 HF1 L1 (fun HF' _ v d => Rep (gd X W) HF' v d) Q (.ok (.lst acc) Sh) := ph
    refine ph (.ref Dl) Hh (upd HFh Dl (.lst vacc)) Lh ?_ (Rh.adopt hLv hFv hv) (.lst upd_same (ra.mono (same_upd hFv)))
    refine ⟨sth.keep, sth.nn, sth.fro.trans (same_upd hFv), fun b o hb e nt n => ?_, sth.ext⟩
    rw [upd_ne (fun z => by rw [z, hD] at n; cases n)]
    exact sth.new b o hb e nt n
/-- [elt for target in iter if .. for target1 in iter1 if ..] -/
theorem xlc2 {elt iter iter1 : Expr} {ifs ifs1 : List Expr} {scope : Scope} {own : List (Str × Nat)} {vs1 : List Nat} {fi fi1 : DDn} {t t1 : Tg} {tt tt1 : DTn} {fe : DEn} (hc : X.calm = true) (hN : X.N.Nodup) (hi : DI X W tg iter fi) (ok : BlkOk X.N X.env.scope scope own)
    (hg : ∀ (s : Shared) (H : Hp) (C : Addr) (cl : List (Str × Addr)) (fp : List Addr), PG (X.blk s H scope (compEnvC scope cl C X.env) fp) tg (tgG (X.blk s H scope (compEnvC scope cl C X.env) fp).K t))
    (ht : ∀ (s : Shared) (H : Hp) (C : Addr) (cl : List (Str × Addr)) (fp : List Addr), DTs (X.blk s H scope (compEnvC scope cl C X.env) fp) W.z ifs tt)
    (hi1 : ∀ (s : Shared) (H : Hp) (C : Addr) (cl : List (Str × Addr)) (fp : List Addr), DI (X.blk s H scope (compEnvC scope cl C X.env) fp) W.z tg1 iter1 fi1)
    (hg1 : ∀ (s : Shared) (H : Hp) (C : Addr) (cl : List (Str × Addr)) (fp : List Addr), PG (X.blk s H scope (compEnvC scope cl C X.env) fp) tg1 (tgG (X.blk s H scope (compEnvC scope cl C X.env) fp).K t1))
    (ht1 : ∀ (s : Shared) (H : Hp) (C : Addr) (cl : List (Str × Addr)) (fp : List Addr), DTs (X.blk s H scope (compEnvC scope cl C X.env) fp) W.z ifs1 tt1)
    (he : ∀ (s : Shared) (H : Hp) (C : Addr) (cl : List (Str × Addr)) (fp : List Addr), DE (X.blk s H scope (compEnvC scope cl C X.env) fp) W.z elt fe)
    (hv : ∀ i ∈ vs1, i ∈ own.map (·.2) := by decide) (hsl : ∀ i ∈ t.slots, i ∈ own.map (·.2) := by decide) (hsl1 : ∀ i ∈ t1.slots, i ∈ vs1 := by decide) (hs : ∀ x, foldedSetIterable iter X.env x = pure x := by intro _; rfl) (hs1 : ∀ env x, foldedSetIterable iter1 env x = pure x := by intro _ _; rfl) :
    DE X W (.ListComp elt [⟨tg, iter, ifs, 0⟩, ⟨tg1, iter1, ifs1, 0⟩] scope pos) (mLc2 fi t tt fi1 vs1 t1 tt1 fe (own.map (·.2))) :=
  PE.imp (pe_lc2 hc hN hi ok hv hg ht hi1 hg1 ht1 he hs hs1) fun σ H Q h => lc2_read hsl hsl1 h
theorem ssetLc2 (i : Nat) {y : Str} {py : Pos} {elt iter iter1 : Expr} {ifs ifs1 : List Expr} {scope : Scope} {own : List (Str × Nat)} {vs1 : List Nat} {cpos : Pos} {fi fi1 : DDn} {t t1 : Tg} {tt tt1 : DTn} {fe : DEn} (hc : X.calm = true) (hN : X.N.Nodup) (hi : DI X W tg iter fi) (ok : BlkOk X.N X.env.scope scope own)
    (hg : ∀ (s : Shared) (H : Hp) (C : Addr) (cl : List (Str × Addr)) (fp : List Addr), PG (X.blk s H scope (compEnvC scope cl C X.env) fp) tg (tgG (X.blk s H scope (compEnvC scope cl C X.env) fp).K t))
    (ht : ∀ (s : Shared) (H : Hp) (C : Addr) (cl : List (Str × Addr)) (fp : List Addr), DTs (X.blk s H scope (compEnvC scope cl C X.env) fp) W.z ifs tt)
    (hi1 : ∀ (s : Shared) (H : Hp) (C : Addr) (cl : List (Str × Addr)) (fp : List Addr), DI (X.blk s H scope (compEnvC scope cl C X.env) fp) W.z tg1 iter1 fi1)
    (hg1 : ∀ (s : Shared) (H : Hp) (C : Addr) (cl : List (Str × Addr)) (fp : List Addr), PG (X.blk s H scope (compEnvC scope cl C X.env) fp) tg1 (tgG (X.blk s H scope (compEnvC scope cl C X.env) fp).K t1))
    (ht1 : ∀ (s : Shared) (H : Hp) (C : Addr) (cl : List (Str × Addr)) (fp : List Addr), DTs (X.blk s H scope (compEnvC scope cl C X.env) fp) W.z ifs1 tt1)
    (he : ∀ (s : Shared) (H : Hp) (C : Addr) (cl : List (Str × Addr)) (fp : List Addr), DE (X.blk s H scope (compEnvC scope cl C X.env) fp) W.z elt fe)
    (hy : X.N[i]? = some y := by rfl) (hyl : X.env.scope.names.lookup y = some .local := by rfl) (hsw : swapsWith (.ListComp elt [⟨tg, iter, ifs, 0⟩, ⟨tg1, iter1, ifs1, 0⟩] scope cpos) (some (.Name y py)) pos.line X.env = pure true := by exact sw_true rfl rfl rfl (by decide +kernel))
    (hv : ∀ i ∈ vs1, i ∈ own.map (·.2) := by decide) (hsl : ∀ i ∈ t.slots, i ∈ own.map (·.2) := by decide) (hsl1 : ∀ i ∈ t1.slots, i ∈ vs1 := by decide) (hs : ∀ x, foldedSetIterable iter X.env x = pure x := by intro _; rfl) (hs1 : ∀ env x, foldedSetIterable iter1 env x = pure x := by intro _ _; rfl) :
    DS X W (.Assign [.Name y py] (.ListComp elt [⟨tg, iter, ifs, 0⟩, ⟨tg1, iter1, ifs1, 0⟩] scope cpos) pos) (mSetLc i (mLc2 fi t tt fi1 vs1 t1 tt1 fe (own.map (·.2)))) :=
  PS.imp (ps_setLc2 (i := i) hc hN hy hyl hsw hi ok hv hg ht hi1 hg1 ht1 he hs hs1) fun D σ H ⟨HF, L, ρ, S, R, p⟩ => lc2_read hsl hsl1 ⟨HF, L, ρ, S, R, PostS.bind p fun d S1 v H1 HF1 L1 e1 st1 R1 r1 p1 => p1.done (R1.store (e := .v d) r1 i)⟩
end
end DL

/-! the layer of data: what is never reached; isinstance of a caught exception and a built-in class; raise X(f".."); x(lambda: ..) -/
namespace DL
open PySem PySem.Spec PyProof.Rows L2
section
variable {X : Cx} {W : WD} {pos : Pos}
/-! ### what is never reached -/
def mBadE : DEn := fun _ _ => .bad
def mBadT : DTn := fun _ _ => .bad
theorem xbad {e : Expr} : DE X W e mBadE := ⟨fun pins s σ H Q I ⟨HF, L, ρ, S, R, p⟩ => p.elim⟩
theorem ybad {e : Expr} : DT X W e mBadT := ⟨fun pins s σ H Q I ⟨HF, L, ρ, S, R, p⟩ => p.elim⟩
theorem sbad {st : Stmt} : DS X W st (fun _ _ => .bad) := ⟨fun pins s σ H D I ⟨HF, L, ρ, S, R, p⟩ => p.elim⟩
end
/-! ### isinstance(e, C), C a built-in class -/
structure XTabB (K : PySem.W.Frag) (mg : Str → Option Value) (tab : Str → String → Option Bool) : Prop where
  is : ∀ y t b, tab y t = some b → ∀ C, mg y = some (.ref C) → ExcC K C ∧ PySem.W.kitOne K (.ref C) (.type t) = some b
def mIsEB (i : Nat) (tab : Str → String → Option Bool) (t : String) : DEn := fun ρ S => match ρ[i]? with
  | some (some (.exn x)) => lift ((tab x.cls t).map D.bl) S
  | _ => .bad
section
variable {X : Cx} {pos p pe pt : Pos} {n t f : Str} {T : String} {i : Nat} {tab : Str → String → Option Bool} {a : Addr} {oe : Obj} {cls : Value} {dd : Option Addr} {pn : List (Addr × Obj)} {Ww : Value → Option Addr → L2.St → Hp → Prop}
theorem xisEB (i : Nat) (TB : XTabB X.K X.mg tab) (hz : Zc cls dd oe) (hf : ∃ vs, oe.data = .fields vs) (hm : X.mg "isinstance" = none) (hmT : X.mg t = none) (hvT : bootBuiltins t = some (.type T)) (hN : X.N[i]? = some n := by rfl)
    (hv : Vis X.env.scope n := by first | exact Or.inl rfl | exact Or.inr (Or.inl rfl) | exact Or.inr (Or.inr rfl)) (hg : Gl X "isinstance" := by rfl) (hgT : Gl X t := by rfl) (hnT : t ≠ "__name__" := by decide) (hd : (n == ("__debug__" : Str)) = false := by decide) (hcd : (n == ("__classdict__" : Str)) = false := by decide) (hdT : (t == ("__debug__" : Str)) = false := by decide)
    (he : starEach [Expr.Name n pe, .Name t pt] X.env = (false, eval (.Name n pe) X.env) :: starEach [.Name t pt] X.env := by rfl) (he2 : starEach [.Name t pt] X.env = (false, eval (.Name t pt) X.env) :: starEach [] X.env := by rfl) (hpl : (backTo pos (starEach [.Name t pt] X.env)).any (·.1) = false := by rfl) :
    DE (X.suite a ((a, oe) :: pn)) ⟨Ww, some (a, cls, dd)⟩ (.Call (.Name "isinstance" p) [.Name n pe, .Name t pt] [] pos) (mIsEB i tab T) := by
  refine PE.imp (pe_callB (X := X.suite a ((a, oe) :: pn)) (call_isX (X := X) hz hf) hg hm PyProof.Rows.boot_isinstance (pa_cons (X := X.suite a ((a, oe) :: pn)) (pe_var (X := X.suite a ((a, oe) :: pn)) (i := i) hN hv hd hcd) (pa_cons (X := X.suite a ((a, oe) :: pn)) (pe_bltn (X := X.suite a ((a, oe) :: pn)) (v := .ty T) hgT hmT hvT rfl hnT hdT) pa_nil he2) he) (by decide) (by decide) he hpl) fun σ H Q ⟨HF, L, ρ, S, R, q⟩ => ?_
  unfold mIsEB at q
  split at q
  · rename_i x e
    obtain ⟨v, h1, a', cls', dd', h2, h3, h4⟩ := R.env i _ e
    cases h2
    obtain ⟨d, ed, q2⟩ := q.lift
    cases et : tab x.cls T with
    | none => rw [et] at ed; cases ed
    | some b =>
      rw [et] at ed
      cases ed
      obtain ⟨C, gC, eC, harg⟩ := h4
      obtain ⟨XC, hk⟩ := TB.is _ _ _ et C gC
      refine ⟨v, h1, ?_⟩
      subst h3
      refine ⟨.ty T, .type T, b, C, rfl, eC, XC, ?_, fun u hu => hu, hk, q2.done R .no (.bl b)⟩
      cases qx : x.arg with
      | none => rw [qx] at harg; exact .inl harg
      | some g =>
        rw [qx] at harg
        obtain ⟨da, w, k1, k2, _⟩ := harg
        exact .inr ⟨da, _, k1, R.sub _ _ k2⟩
  · exact q.elim
end
/-! ### raise X(f'..') -/
theorem int_len : ∀ n : Nat, n < 1000 → (toString (n : Int) : Str).length ≤ 4 ∧ (toString (-(n : Int)) : Str).length ≤ 4 := by decide +kernel
theorem int_len' {i : Int} (h : i.natAbs < 1000) : (toString i : Str).length ≤ 4 := by
  rcases Int.natAbs_eq i with e | e
  · rw [e]; exact (int_len _ h).1
  · rw [e]; exact (int_len _ h).2
/-- the parts of a text, one behind the other: only how long it gets -/
def fJ : List DEn → Nat → DL.Env → Store → Out Unit
  | [], _, _, S => .ok () S
  | f :: fs, n, ρ, S => (f ρ S).bind fun d S1 => match d with
    | .str y => if n + y.length ≤ 1000000 then fJ fs (n + y.length) ρ S1 else .bad
    | .int i => if i.natAbs < 1000 ∧ n + 4 ≤ 1000000 then fJ fs (n + 4) ρ S1 else .bad
    | _ => .bad
section
variable {X : Cx} {W : WD} {pos pos' p p2 : Pos}
inductive DJ (X : Cx) (W : WD) : List Expr → List DEn → Prop
  | nil : DJ X W [] []
  | str {m : Str} {j : Nat} {p : Pos} {es : List Expr} {fs : List DEn} : DJ X W es fs → DJ X W (.Constant (.str m) j p :: es) (mC (.str m) :: fs)
  | fmt {e : Expr} {f : DEn} {p : Pos} {es : List Expr} {fs : List DEn} : DE X W e f → DJ X W es fs → DJ X W (.FormattedValue e (-1) none p :: es) (f :: fs)
theorem str_app (x y : Str) : (x ++ y).length = x.length + y.length := Str.length_append x y
theorem fits6 {n : Nat} (h : n ≤ 1000000) : n ≤ sizeLine := Nat.le_trans h (by decide)
theorem DJ.run {es : List Expr} {fs : List DEn} (h : DJ X W es fs) : ∃ ts, PJ X es ts ∧ ∀ (acc : Str) (n : Nat) (σ : L2.St) (H : Hp) (Q : Hp → Prop), acc.length ≤ n → n ≤ 1000000 →
    (∃ HF L ρ S, Rel (gd X W) H HF L σ ρ S ∧ Post (gd X W) W σ ρ H HF L (fun _ _ (_ : Unit) (_ : Unit) => True) (fun _ H1 => Q H1) (fJ fs n ρ S)) → tJs ts acc σ H (fun _ H1 => Q H1) := by
  induction h with
  | nil => exact ⟨[], .nil, fun acc n σ H Q _ _ ⟨HF, L, ρ, S, R, q⟩ => q () H HF L .refl R trivial⟩
  | @str m j p es fs h ih =>
    obtain ⟨ts, h1, h2⟩ := ih
    refine ⟨_ :: ts, .cons (xstr (X := X) (W := W)) h1, fun acc n σ H Q ha hn ⟨HF, L, ρ, S, R, q⟩ => ⟨HF, L, ρ, S, R, Post.bind q fun d S1 v H1 HF1 L1 e1 st1 R1 r1 q1 => ?_⟩⟩
    cases e1
    cases r1
    have q1 : Post (gd X W) W σ ρ H1 HF1 L1 (fun _ _ (_ : Unit) (_ : Unit) => True) (fun _ H1 => Q H1) (if n + m.length ≤ 1000000 then fJ fs (n + m.length) ρ S else .bad) := q1
    split at q1
    · rename_i hz
      refine ⟨m, rfl, ?_, h2 _ _ _ _ _ (by rw [str_app]; omega) hz ⟨HF1, L1, ρ, S, R1, q1⟩⟩
      exact fits6 (by rw [str_app]; omega)
    · exact q1.elim
  | @fmt e f p es fs he h ih =>
    obtain ⟨ts, h1, h2⟩ := ih
    refine ⟨_ :: ts, .cons (pe_fmt he) h1, fun acc n σ H Q ha hn ⟨HF, L, ρ, S, R, q⟩ => ⟨HF, L, ρ, S, R, Post.bind q fun d S1 v H1 HF1 L1 e1 st1 R1 r1 q1 => ?_⟩⟩
    cases d with
    | str y =>
      cases r1
      have q1 : Post (gd X W) W σ ρ H1 HF1 L1 (fun _ _ (_ : Unit) (_ : Unit) => True) (fun _ H1 => Q H1) (if n + y.length ≤ 1000000 then fJ fs (n + y.length) ρ S1 else .bad) := q1
      split at q1
      · rename_i hz
        exact .inl ⟨y, rfl, fits6 (by omega), y, rfl, fits6 (by rw [str_app]; omega), h2 _ _ _ _ _ (by rw [str_app]; omega) hz ⟨HF1, L1, ρ, S1, R1, q1⟩⟩
      · exact q1.elim
    | int i =>
      cases r1
      have q1 : Post (gd X W) W σ ρ H1 HF1 L1 (fun _ _ (_ : Unit) (_ : Unit) => True) (fun _ H1 => Q H1) (if i.natAbs < 1000 ∧ n + 4 ≤ 1000000 then fJ fs (n + 4) ρ S1 else .bad) := q1
      split at q1
      · rename_i hz
        have hl := int_len' hz.1
        refine .inr ⟨i, rfl, ?_, toString i, rfl, fits6 (by rw [str_app]; omega), h2 _ _ _ _ _ (by rw [str_app]; omega) hz.2 ⟨HF1, L1, ρ, S1, R1, q1⟩⟩
        by_cases h0 : i.natAbs = 0
        · rw [h0]; decide
        · have := (Nat.log2_lt h0 (k := 10)).mpr (by omega)
          omega
      · exact q1.elim
    | _ => exact q1.elim
def mRaiseF (x : Str) (fs : List DEn) : DSn := fun ρ S => bindS (fJ fs 0 ρ S) ρ fun _ S1 => .ok (.ex ⟨x, none⟩, ρ) S1
theorem sraiseF {x : Str} {v1 v2 : Expr} {rest : List Expr} {fs : List DEn} (o : OwnP (gd X W) x) (hc : X.calm = true) (tk : Takes X W.w) (h : DJ X W (v1 :: v2 :: rest) fs) (hg : Gl X x := by rfl) (hdb : (x == ("__debug__" : Str)) = false := by decide)
    (hs : starEach [Expr.JoinedStr (v1 :: v2 :: rest) p2] X.env = (false, eval (.JoinedStr (v1 :: v2 :: rest) p2) X.env) :: starEach [] X.env := by rfl) :
    DS X W (.Raise (some (.Call (.Name x p) [.JoinedStr (v1 :: v2 :: rest) p2] [] pos')) none pos) (mRaiseF x fs) := by
  obtain ⟨C, bmB, B, nw, ini, gC, F, q, kC, h1, h2⟩ := o.has
  obtain ⟨ts, j1, j2⟩ := h.run
  refine PS.imp (ps_raise hc tk (SkE.pmk_own1 F q gC kC (raises_own h1 h2) hg (pe_joined j1) hs hdb)) fun D σ H ⟨HF, L, ρ, S, R, p⟩ => ?_
  refine j2 Str.empty 0 σ H _ (Nat.le_refl _) (by decide) ⟨HF, L, ρ, S, R, ?_⟩
  refine PostS.bind p fun d S1 v H1 HF1 L1 e1 st1 R1 r1 p1 => ?_
  exact p1.done R1 _ _ ⟨C, gC, rfl, rfl⟩
end
end DL

/-! the layer of data: x(lambda: ..), x being a def that calls what it gets within a try -/
namespace DL
open PySem PySem.Spec PyProof.Rows L2 LamX
theorem takes_len {X : Cx} {W : WX} (tk : Takes X W) : Takes X (fun cls d σ H => σ.length = X.N.length → W cls d σ H) := fun u s' ⟨a, B, sI, pins, σ, H, cls, d, e, I, nb, up, sky, na, os, ag, w⟩ =>
  tk u s' ⟨a, B, sI, pins, σ, H, cls, d, e, I, nb, up, sky, na, os, ag, w I.len⟩
/-- what the def makes of the end of what it called -/
def lamEnd (N i : Nat) (cat : Str → Option Bool) (fs fr : DSn) : Out D → Out D
  | .ok _ S1 => match fr (List.replicate N none) S1 with
    | .ok (.rt d, _) S2 => .ok d S2
    | _ => .bad
  | .ex x S1 => match cat x.cls with
    | some true => match fs ((List.replicate N none).set i (some (.exn x))) S1 with
      | .ok (.rt d, _) S2 => .ok d S2
      | _ => .bad
    | _ => .bad
  | .bad => .bad
def mLam (N i : Nat) (cat : Str → Option Bool) (fs fr : DSn) (fb : DEn) : DEn := fun ρ S => lamEnd N i cat fs fr (fb ρ S)
section
variable {G : Gd} {H HF : Hp} {L : List Addr} {σ : L2.St} {ρ : DL.Env} {S : Store}
theorem Rel.plain (R : Rel G H HF L σ ρ S) {σ' : L2.St} {N : Nat} (hl : σ'.length = N) : Rel G H HF L σ' (List.replicate N none) S :=
  ⟨R.sub, R.nd, R.sl, R.liv, R.tab, R.nft, R.cell, by simp [hl], fun i e h => by
    rw [List.getElem?_replicate] at h
    split at h <;> cases h⟩
theorem Rel.tabs (R : Rel G H HF L σ ρ S) {c P : Addr} (et : PySem.W.tabIn G.K "law" = some (c, P)) : Tabs [(P, lamq)] H := by
  obtain ⟨c', P', e, ps, q1, q2, q3⟩ := R.tab
  rw [et] at e
  cases e
  intro p hp
  obtain rfl : p = (P, lamq) := by simpa using hp
  exact ⟨ps, q1, q2, fun pos cv hc => (let ⟨c, e1, e2⟩ := q3 pos cv hc; ⟨c, e1, R.sub _ _ e2⟩)⟩
open Classical in
/-- a lambda is made: its code object stays from then on -/
theorem Rel.lam (R : Rel G H HF L σ ρ S) {c P : Addr} (et : PySem.W.tabIn G.K "law" = some (c, P)) {H1 : Hp} (eN : ExtN H H1) (T1 : Tabs [(P, lamq)] H1) : ∃ HF1, Rel G H1 HF1 L σ ρ S ∧ Step H HF L H1 HF1 L := by
  let HF1 : Hp := fun b => match HF b with
    | some o => some o
    | none => if H1 b = some (CodeO b lamq) then some (CodeO b lamq) else none
  have some1 : ∀ {b o}, HF b = some o → HF1 b = some o := fun {b o} e => by show (match HF b with | some o => some o | none => _) = _; rw [e]
  have none1 : ∀ {b o}, HF b = none → HMut o → H b = some o → HF1 b = none := fun {b o} e hm eo => by
    show (match HF b with | some o => some o | none => if H1 b = some (CodeO b lamq) then some (CodeO b lamq) else none) = _
    rw [e]
    refine if_neg fun z => ?_
    rw [eN _ _ eo hm.nt] at z
    cases z
    exact hm
  have fro : Same HF HF1 := fun b o e => some1 e
  have sub1 : Same HF1 H1 := fun b o e => by
    cases q : HF b with
    | some u =>
      rw [some1 q] at e
      cases e
      exact eN _ _ (R.sub _ _ q) (fun ps z => R.nft b ps (by rw [q, z]))
    | none =>
      have e : (match HF b with | some o => some o | none => if H1 b = some (CodeO b lamq) then some (CodeO b lamq) else none) = some o := e
      rw [q] at e
      dsimp only at e
      split at e
      · cases e; assumption
      · cases e
  refine ⟨HF1, ⟨sub1, R.nd, R.sl, fun a ha => ?_, ?_, fun b ps e => ?_, fun n a c h1 h2 => ?_, R.el, fun i x h => ?_⟩, ⟨fun b o _ nt e => eN _ _ e nt, fun b o nt e => ⟨o, nt, eN _ _ e nt⟩, fro, fun a o _ e hm eo => none1 e hm eo, [], by simp, by simp⟩⟩
  · obtain ⟨o, e, hm⟩ := R.liv a ha
    exact ⟨o, eN _ _ e hm.nt, hm⟩
  · obtain ⟨ps, q1, q2, q3⟩ := T1 (P, lamq) List.mem_cons_self
    refine ⟨c, P, et, ps, q1, q2, fun pos cv hc => ?_⟩
    obtain ⟨c', e1, e2⟩ := q3 pos cv hc
    refine ⟨c', e1, ?_⟩
    cases q : HF c' with
    | some u =>
      have z := sub1 c' u (some1 q)
      rw [e2] at z
      cases z
      exact some1 q
    | none =>
      show (match HF c' with | some o => some o | none => if H1 c' = some (CodeO c' lamq) then some (CodeO c' lamq) else none) = _
      rw [q]
      exact if_pos e2
  · cases q : HF b with
    | some u => rw [some1 q] at e; cases e; exact R.nft b ps q
    | none =>
      have e : (match HF b with | some o => some o | none => if H1 b = some (CodeO b lamq) then some (CodeO b lamq) else none) = some (.tbl ps) := e
      rw [q] at e
      dsimp only at e
      split at e
      · cases e
      · cases e
  · obtain ⟨q1, q2⟩ := R.cell n a c h1 h2
    obtain ⟨o, e, hm⟩ := R.liv a (List.mem_of_getElem? h1)
    exact ⟨none1 q1 hm e, q2.up (by rw [e]; exact eN _ _ e hm.nt) fro⟩
  · obtain ⟨v, h1, h2⟩ := R.env i x h
    refine ⟨v, h1, ?_⟩
    cases x with
    | v d => exact Rep.mono fro h2
    | cel n => exact h2
    | exn x =>
      obtain ⟨b, cls, dd, k1, k2, k3⟩ := h2
      exact ⟨b, cls, dd, k1, k2, k3.mono fro⟩
end
section
variable {X : Cx}
abbrev zcx (X : Cx) (Ng : List Str) (x : Str) (sg : Scope) (g : Addr) (cdg : Value) (s : Shared) (H : Hp) : Cx := (cxOf C8.CX0 X.prog X.w X.K X.mg X.base Ng x sg g cdg X.A X.stack s H C8.E0).nox
abbrev Wz : WD := ⟨fun _ _ _ _ => False, none⟩
def dq (Q : VK) : Ends := { nx := fun _ H' => Q .non H', rt := Q }
def d1 (X : Cx) (fr : DSn) (Q : VK) : Ends := { dq Q with nx := fun σ' H' => tS ⟨X.K, X.mg, none⟩ Wz fr (dq Q) σ' H' }
def eLam (X : Cx) (CS : Addr) (N i : Nat) (fs fr : DSn) (Q : VK) : XK := fun cls d H' => ∃ b, PySem.W.exmOne X.K cls (.ref CS) = some b ∧
  (b = true → ∀ σ' : L2.St, σ'.length = N → ∀ a, H' a = none → tS ⟨X.K, X.mg, some (a, cls, d)⟩ ⟨fun _ _ _ _ => False, some (a, cls, d)⟩ fs { nx := fun σ'' H'' => (d1 X fr Q).nx (σ''.set i none) H'', rt := Q, bk := fun σ'' H'' => (d1 X fr Q).bk (σ''.set i none) H'', ct := fun σ'' H'' => (d1 X fr Q).ct (σ''.set i none) H'' } (σ'.set i (some (.ref a))) H') ∧ (b = false → False)
def TTd (X : Cx) (CS : Addr) (N i : Nat) (fs fr : DSn) : (XK → Hp → VK → Prop) → Hp → VK → Prop := fun tl H Q => ∀ σg : L2.St, σg.length = N → tl (eLam X CS N i fs fr Q) H (fun _ H' => (d1 X fr Q).nx σg H')
theorem gives_try {Ng : List Str} {x a ex n q : Str} {sg : Scope} {g CS : Addr} {cdg : Value} {i : Nat} {b₀ : Stmt} {suite rest : List Stmt} {p1 p2 p3 np pos' pos : Pos} {fs fr : DSn} (hge : sg.names.lookup ex = some .globalImplicit) (hme : X.mg ex = some (.ref CS)) (hde : (ex == ("__debug__" : Str)) = false)
    (hN : Ng.Nodup) (hi : Ng[i]? = some n) (h1 : 1 ≤ Ng.length) (hln : ∀ s : Shared, (envOfC x sg s.heap.objs.size g cdg).kindOf n = some .local)
    (hsu : ∀ (s : Shared) (H : Hp) (a : Addr) (oe : Obj) (cls : Value) (d : Option Addr) (pn : List (Addr × Obj)), Zc cls d oe → (∃ vs, oe.data = .fields vs) → DSs ((zcx X Ng x sg g cdg s H).suite a ((a, oe) :: pn)) ⟨fun _ _ _ _ => False, some (a, cls, d)⟩ (b₀ :: suite) fs)
    (hre : ∀ (s : Shared) (H : Hp), DSs (zcx X Ng x sg g cdg s H) Wz rest fr) :
    GivesTo X Ng x sg g cdg (.Try [.Expr (.Call (.Name a p1) [] [] p2) p3] [.ExceptHandler (some (.Name ex np)) (some n) (b₀ :: suite) pos'] [] [] pos :: rest) a q (TTd X CS Ng.length i fs fr) := by
  intro f c' s H Q tl act hc h
  have hgl : Gl (zcx X Ng x sg g cdg s H) ex := hge
  refine ⟨_, pss_cons (ps_try_as (X := zcx X Ng x sg g cdg s H) (c := .ref CS) (i := i) (Wout := fun _ _ _ _ => False) (ts := fun a cls d => tS ⟨X.K, X.mg, some (a, cls, d)⟩ ⟨fun _ _ _ _ => False, some (a, cls, d)⟩ fs)
      (tb := fun W D σ H => ∃ Ech : XK, (∀ cls d σ' H', Ech cls d H' → σ'.length = Ng.length → W cls d σ' H') ∧ σ[0]? = some (some (.ref f)) ∧ H c' = some (CodeO c' q) ∧ tl Ech H (fun _ H' => D.nx σ H'))
      rfl rfl hN hi (hln s) ⟨hgl, hde, .inl hme⟩ LamX.takes0 (fun W pn xe tk _ => ?_) (fun a oe cls d pn hz hf => hsu s H a oe cls d pn hz hf)) (hre s H), ?_⟩
  · refine ⟨fun pins s' σ H' D I h' => ?_⟩
    obtain ⟨Ech, hW, h1, h2, h3⟩ := h'
    have hp := act _ pn xe Ech p1 p2 (takes_len tk) hW
    have hq := pss_one (ps_expr (pos := p3) hp rfl)
    exact hq.run pins s' σ H' D I ⟨h1, h2, h3⟩
  · have hlen : (L2.start Ng [V.ref f]).length = Ng.length := by
      unfold L2.start
      simp
      omega
    refine ⟨eLam X CS Ng.length i fs fr Q, fun cls d σ' H' ⟨b, e1, e2, e3⟩ hl => ⟨b, e1, fun hb a ha => e2 hb σ' hl a ha, fun hb => (e3 hb)⟩, rfl, hc, h _ hlen⟩
end
section
variable {X : Cx} {W : WD}
theorem tlam_of {cat : Str → Option Bool} {CS c P : Addr} {N i : Nat} {fs fr : DSn} {fb : DEn} (hxi : W.xi = none) (et : PySem.W.tabIn X.K "law" = some (c, P))
    (hcat : ∀ y b C, cat y = some b → X.mg y = some (.ref C) → PySem.W.exmOne X.K (.ref C) (.ref CS) = some b) {σ : L2.St} {H : Hp} {Q : VK} (h : tD (gd X W) W (mLam N i cat fs fr fb) σ H Q) :
    tLam [(P, lamq)] (TTd X CS N i fs fr) (fun E => tD ⟨X.K, X.mg, none⟩ (WF E) fb) σ H Q := by
  obtain ⟨Ww, Wx⟩ := W
  obtain rfl : Wx = none := hxi
  obtain ⟨HF, L, ρ, S, R, p⟩ := h
  refine ⟨R.tabs et, fun H1 eN T1 σg hg => ?_⟩
  obtain ⟨HF1, R1, st1⟩ := R.lam et eN T1
  refine ⟨HF1, L, ρ, S, R1, ?_⟩
  unfold mLam at p
  cases e : fb ρ S with
  | bad => rw [e] at p; exact p.elim
  | ok d S1 =>
    rw [e] at p
    intro v H2 HF2 L2 st2 R2 _
    refine ⟨HF2, L2, List.replicate N none, S1, R2.plain hg, ?_⟩
    unfold lamEnd at p
    dsimp only at p
    cases q : fr (List.replicate N none) S1 with
    | bad => rw [q] at p; exact p.elim
    | ex x S2 => rw [q] at p; exact p.elim
    | ok cr S2 =>
      obtain ⟨cc, ρ3⟩ := cr
      rw [q] at p
      cases cc with
      | rt d' =>
        intro σ' H3 HF3 L3 st3 R3 v' rv
        have st := st1.trans (st2.trans st3)
        exact p v' H3 HF3 L3 st (R.reenv st R3) rv
      | nx => exact p.elim
      | bk => exact p.elim
      | ct => exact p.elim
      | ex x => exact p.elim
  | ex x S1 =>
    rw [e] at p
    intro cls dd H2 HF2 L2 st2 R2 ex
    unfold lamEnd at p
    dsimp only at p
    cases hq : cat x.cls with
    | none => rw [hq] at p; exact p.elim
    | some b =>
      rw [hq] at p
      cases b with
      | false => exact p.elim
      | true =>
        obtain ⟨C, gC, eC, _⟩ := id ex
        subst eC
        refine ⟨true, hcat _ _ _ hq gC, fun _ σ' hl a ha => ?_, fun z => by cases z⟩
        have R2' := R2.plain (σ' := σ') (N := N) hl
        refine ⟨HF2, L2, (List.replicate N none).set i (some (.exn x)), S1, (R2'.intoX (xj := some (a, .ref C, dd))).store (e := .exn x) ⟨a, .ref C, dd, rfl, rfl, ExRep.cx ex⟩ i, ?_⟩
        dsimp only at p
        cases q : fs ((List.replicate N none).set i (some (.exn x))) S1 with
        | bad => rw [q] at p; exact p.elim
        | ex x S2 => rw [q] at p; exact p.elim
        | ok cr S2 =>
          obtain ⟨cc, ρ3⟩ := cr
          rw [q] at p
          cases cc with
          | rt d' =>
            intro σ3 H3 HF3 L3 st3 R3 v' rv
            have st := st1.trans (st2.trans st3)
            have R4 := R3.outX i
            exact p v' H3 HF3 L3 st (R.reenv st R4) (Rep.cx rv)
          | nx => exact p.elim
          | bk => exact p.elim
          | ct => exact p.elim
          | ex x => exact p.elim
/-- x(lambda: body) in the law -/
theorem xlam {x a ex n : Str} {st : Stmt} {g CS c P : Addr} {fd : FuncData} {k i : Nat} {Ng : List Str} {params : Arguments} {body : Expr} {scope : Scope} {b₀ : Stmt} {suite rest : List Stmt} {p lpos pos p1 p2 p3 np pos' pos2 : Pos} {fb : DEn} {fs fr : DSn} {cat : Str → Option Bool}
    (hxi : W.xi = none) (F : Fun X.K x x st g fd) (hm : X.mg x = some (.ref g)) (hb : L2.Binds X.K fd [a] []) (Sg : FnScope Ng [a] (defScope st)) (hst : defBody st = .Try [.Expr (.Call (.Name a p1) [] [] p2) p3] [.ExceptHandler (some (.Name ex np)) (some n) (b₀ :: suite) pos'] [] [] pos2 :: rest)
    (hge : (defScope st).names.lookup ex = some .globalImplicit) (hme : X.mg ex = some (.ref CS)) (hi : Ng[i]? = some n) (hln : ∀ (cdg : Value) (s : Shared), (envOfC x (defScope st) s.heap.objs.size g cdg).kindOf n = some .local)
    (hcat : ∀ y b C, cat y = some b → X.mg y = some (.ref C) → PySem.W.exmOne X.K (.ref C) (.ref CS) = some b)
    (hsu : ∀ (cdg : Value) (s : Shared) (H : Hp) (a : Addr) (oe : Obj) (cls : Value) (d : Option Addr) (pn : List (Addr × Obj)), Zc cls d oe → (∃ vs, oe.data = .fields vs) → DSs ((zcx X Ng x (defScope st) g cdg s H).suite a ((a, oe) :: pn)) ⟨fun _ _ _ _ => False, some (a, cls, d)⟩ (b₀ :: suite) fs)
    (hre : ∀ (cdg : Value) (s : Shared) (H : Hp), DSs (zcx X Ng x (defScope st) g cdg s H) Wz rest fr)
    (TB : TabB X.base X.mg c P) (hcode : X.env.code = .ref c) (et : PySem.W.tabIn X.K "law" = some (c, P)) (hr : Room (k + 2) X.A) (L : LamS X.env.scope scope)
    (hbody : ∀ (A : Around) (outer : List PySem.Env) (s : Shared) (H : Hp) (E : XK) (f c' : Addr), Room k (A.deeper (lamEnv X scope s.heap.objs.size f c')) → DE (lamCx X A outer s H E scope f c') (WF E) body fb)
    (hq : X.env.qual ++ "<lambda>" = lamq := by rfl) (hdef : defaultsOf params X.env = ([], []) := by rfl)
    (hbind : ∀ (q : Str) (cl : List (Str × Addr)) (pm cv ctv : Value), bindArgs (PySem.W.kla_fn "<lambda>" q params body scope cl pm cv ctv) ⟨[], []⟩ = pure [] := by intros; rfl)
    (hg : Gl X x := by rfl) (hNg : Ng[0]? = some a := by rfl) (hva : Vis (defScope st) a := by first | exact Or.inl rfl | exact Or.inr (Or.inl rfl) | exact Or.inr (Or.inr rfl))
    (hde : (ex == ("__debug__" : Str)) = false := by decide) (hdb : (x == ("__debug__" : Str)) = false := by decide) (hd : (a == ("__debug__" : Str)) = false := by decide) (hcd : (a == ("__classdict__" : Str)) = false := by decide) :
    DE X W (.Call (.Name x p) [.Lambda params body scope lpos] [] pos) (mLam Ng.length i cat fs fr fb) := by
  obtain ⟨oc, od, kV, doc, pm, an, cdv, ct, osl, rfl, lk, hcd2⟩ := F.ex
  have h1 : 1 ≤ Ng.length := by
    cases Ng with
    | nil => cases hNg
    | cons _ _ => simp
  refine PE.imp (pe_lamcall (T := [(P, lamq)]) (TT := TTd X CS Ng.length i fs fr) (t := fun E => tD ⟨X.K, X.mg, none⟩ (WF E) fb) hg hm F.kp lk hcd2 hb Sg hNg hva ?_ TB hcode ?_ ?_ hr L hdef hbind hbody hdb hd hcd) fun σ H Q h => tlam_of hxi et hcat h
  · rw [hst, hq]
    exact gives_try hge hme hde Sg.nd hi h1 (hln cdv) (hsu cdv) (hre cdv)
  · rw [hq]; exact List.mem_cons_self
  · intro p hp _
    rw [hq]
    obtain rfl : p = (P, lamq) := by simpa using hp
    rfl
end
end DL
namespace DL
open PySem PySem.Spec PyProof.Rows L2 LamX
theorem lam_takes {X : Cx} {A : Around} {outer : List PySem.Env} {s : Shared} {H : Hp} {E : XK} {scope : Scope} {f c' : Addr} : Takes (lamCx X A outer s H E scope f c') (fun cls d _ H => E cls d H) :=
  takes_of (X := lamCx X A outer s H E scope f c') rfl rfl rfl rfl
/-- a def whose code object is known -/
theorem fnd_ofC {P : Program} {w : World} {G : Gd} {base : Heap} {x qual : Str} {st : Stmt} {f : Addr} {N ps : List Str} {k n : Nat} {body : DSn} {oc kV doc pm cdv ct : Value} {od an : Option Addr} {osl : Array (Option Value)}
    (lk : G.K.lookup f = some ⟨oc, od, .func (PySem.W.fnOf x qual (defArgs st) (defBody st) (defScope st) .none kV doc pm an cdv ct), osl⟩) (hcd : PySem.W.codeIn G.K cdv qual = true) (Sc : FnScope N ps (defScope st)) (hn : ps.length = n) (hnN : n ≤ N.length) (hG : G.xi = none := by rfl)
    (hbody : ∀ (A : Around) (outer : List PySem.Env) (s : Shared) (H : Hp) (E : XK), Room k (A.deeper (envOfC qual (defScope st) s.heap.objs.size f cdv)) →
      DSs (cxOf (L2.CX P w) P w G.K G.mg base N qual (defScope st) f cdv A outer s H E) (WF E) (defBody st) body) : FnOk P w G.K G.mg base (L2.CX P w) (k + 1) f (PySem.W.fnOf x qual (defArgs st) (defBody st) (defScope st) .none kV doc pm an cdv ct) ps (spD G n (denB N.length body)) := by
  obtain ⟨K, mg, xi⟩ := G
  obtain rfl : xi = none := hG
  refine fn_of lk hcd Sc (fun vs H Q E h => h.1.trans hn.symm) fun A outer s H vs Q E hr h => ⟨_, hbody A outer s H E hr, ?_⟩
  obtain ⟨hl, HF, L, es, S, R, r, p⟩ := h
  have hle : es.length = n := by rw [← r.length]; exact hl
  refine ⟨HF, L, _, S, ⟨R.sub, R.nd, R.sl, R.liv, R.tab, R.nft, R.cell, ?_, start_env (N := N) r⟩, ?_⟩
  · unfold L2.start
    rw [List.length_append, List.length_append, List.length_map, List.length_map, List.length_replicate, List.length_replicate, r.length]
  · unfold denB at p
    cases q : body (es.map some ++ List.replicate (N.length - es.length) none) S with
    | bad => rw [q] at p; exact p.elim
    | ex x S' => rw [q] at p; exact p.elim
    | ok cr S' =>
      obtain ⟨c, ρ'⟩ := cr
      rw [q] at p
      intro σ' H' HF' L' st' R'
      obtain ⟨st2, R2⟩ := R.leave st' R'
      cases c with
      | nx => exact p .non H' HF' st2 R2 .non
      | rt d => exact fun v rv => p v H' HF' st2 R2 rv
      | ex x => exact fun cls dd ex => p cls dd H' HF' st2 R2 ex
      | bk => exact p.elim
      | ct => exact p.elim
end DL

/-! the layer of data: t[::-1] of a tuple -/
namespace DL
open PySem PySem.Spec PyProof.Rows L2 HT
section
variable {prog : Program} {w : World} {A : Around} {E : Value → Shared → Prop} {s : Shared}
theorem back_parts (n : Nat) : Builtin.Slice.sliceAdjust none none (-1) (n : Int) = ((n : Int) - 1, -1) := rfl
theorem back_places (n : Nat) : Builtin.Slice.slicePlaces ((n : Int) - 1) (-1) (-1) = n := by
  unfold Builtin.Slice.slicePlaces
  rw [if_neg (by decide)]
  by_cases h : (n : Int) - 1 > -1
  · rw [if_pos h]
    have e : ((n : Int) - 1 - -1 - 1) / (- -1) = (n : Int) - 1 := by
      rw [show (- -1 : Int) = 1 by decide, Int.ediv_one]; omega
    rw [e]; omega
  · rw [if_neg h]; omega
theorem fm_congr {α β : Type} {f g : α → Option β} : ∀ (l : List α), (∀ m ∈ l, f m = g m) → l.filterMap f = l.filterMap g
  | [], _ => rfl
  | x :: l, h => by
    rw [List.filterMap_cons, List.filterMap_cons, h x List.mem_cons_self, fm_congr l fun m hm => h m (List.mem_cons_of_mem _ hm)]
theorem back_pick (xs : Array Value) : ((List.range xs.size).filterMap fun (m : Nat) => xs[((xs.size : Int) - 1 + (m : Int) * (-1)).toNat]?).toArray = xs.toList.reverse.toArray := by
  congr 1
  have e : ∀ m ∈ List.range xs.size, xs[((xs.size : Int) - 1 + (m : Int) * (-1)).toNat]? = xs.toList.reverse[m]? := fun m hm => by
    have hm := List.mem_range.mp hm
    have e1 : ((xs.size : Int) - 1 + (m : Int) * (-1)).toNat = xs.size - 1 - m := by omega
    rw [e1, List.getElem?_reverse (by simpa using hm)]
    simp
  rw [fm_congr _ e]
  have key : ∀ (l : List Value), (List.range l.length).filterMap (fun m => l[m]?) = l := by
    intro l
    induction l with
    | nil => rfl
    | cons x l ih =>
      rw [List.length_cons, List.range_succ_eq_map, List.filterMap_cons]
      simp only [List.getElem?_cons_zero, List.filterMap_map]
      congr 1
  have := key xs.toList.reverse
  simpa using this
theorem back_applied {sl : Addr} {vl vu vs : Value} {n : Nat} {Q : Int × Int × Nat → Shared → Prop} (hs : s.heap.IsSliceOf sl vl vu vs) (pl : IsPart vl none) (pu : IsPart vu none) (pt : IsPart vs (some (-1)))
    (h : Q ((n : Int) - 1, -1, n) s) : wpAny (model prog w) A (Builtin.Slice.sliceApplied (.ref sl) (pure (n : Int))) Q E s := by
  obtain ⟨oo, g1, g2, g3⟩ := id hs
  unfold Builtin.Slice.sliceApplied Builtin.Slice.sliceFields
  refine wpAny_bind (wpAny_bind (wpAny_field g1 g3 (x := vl) rfl (wpAny_bind (wpAny_field g1 g3 (x := vu) rfl (wpAny_bind (wpAny_field g1 g3 (x := vs) rfl (wpAny_pure ?_)))))))
  refine wpAny_bind (slicePart_ pt ?_)
  show wpAny _ _ (if ((-1 : Int) == 0) = true then _ else _) _ _ s
  rw [if_neg (by decide)]
  refine wpAny_bind (slicePart_ pl (wpAny_bind (slicePart_ pu (wpAny_bind (wpAny_pure ?_)))))
  show wpAny _ _ (match Builtin.Slice.sliceAdjust none none (-1) (n : Int) with | (lo, hi) => pure (lo, (-1 : Int), Builtin.Slice.slicePlaces lo hi (-1))) _ _ s
  rw [back_parts n]
  show wpAny _ _ (pure ((n : Int) - 1, (-1 : Int), Builtin.Slice.slicePlaces ((n : Int) - 1) (-1) (-1))) _ _ s
  rw [back_places]
  exact wpAny_pure h
theorem back_item {t sl : Addr} {items : Array Value} {vl vu vs : Value} {Q : Value → Shared → Prop} (ht : IsTup s.heap t items) (hs : s.heap.IsSliceOf sl vl vu vs) (pl : IsPart vl none) (pu : IsPart vu none) (pt : IsPart vs (some (-1)))
    (h : Q (.ref s.heap.objs.size) { s with heap := s.heap.push { cls := .type "tuple", data := .seq items.toList.reverse.toArray } }) (hz : items.size ≤ sizeLine) : wpAny (model prog w) A (getItem (.ref t) (.ref sl)) Q E s := by
  have hk : sizeOk (.seq items.toList.reverse.toArray) := by
    show items.toList.reverse.toArray.size ≤ sizeLine
    simpa using hz
  obtain ⟨oo, g1, g2, g3⟩ := id hs
  have hT : s.TypeIs (.ref sl) "slice" := ⟨oo, g1, g2⟩
  unfold getItem
  try with_reducible refine wpAny_holding ?_
  first | refine wpAny_bind (wpAny_pure ?_) | skip
  refine wpAny_bind (wpAny_sequenceKey ht.typeIs (by decide) ?_)
  refine wpAny_bind (wpAny_callSpecial?_slot (name := Str.ofString "__getitem__") ht.typeIs PyProof.Rows.slot_tuple_getitem (wpAny_call_entry PyProof.Rows.slot_tuple_getitem ht.typeIs entry_tuple_getitem ?_ (args_tuple_getitem _ _)))
  show wpAny _ _ (Builtin.Tuple.tupleItemsOf (.ref t) >>= _) _ _ s
  refine wpAny_bind (tupleItemsOf_ ht ?_)
  refine wpAny_bind (wpAny_typeOf hT ?_)
  rw [if_pos (by decide)]
  refine wpAny_bind (back_applied hs pl pu pt ?_)
  have hno : ¬ ((((items.size : Int) - 1) == 0 && (-1 : Int) == 1 && items.size == items.size) = true) := by
    intro q
    rw [Bool.and_eq_true, Bool.and_eq_true] at q
    exact absurd q.1.2 (by decide)
  show wpAny _ _ (if (((items.size : Int) - 1) == 0 && (-1 : Int) == 1 && items.size == items.size) = true then _ else _) _ _ s
  rw [if_neg hno, back_pick]
  first
    | exact wpAny_bind (m := Builtin.Tuple.tupleExact _) (wpAny_newObj_type (wpAny_pure ⟨_, rfl, wpAny_pure h⟩) hk)
    | exact wpAny_bind (m := Builtin.Tuple.tupleExact _) (wpAny_newObj_type (wpAny_bind (wpAny_pure (wpAny_pure ⟨_, rfl, wpAny_pure h⟩))) hk)
    | exact wpAny_bind (wpAny_bind (m := Builtin.Tuple.tupleExact _) (wpAny_newObj_type (wpAny_pure (wpAny_pure ⟨_, rfl, wpAny_pure h⟩)) hk))
    | exact wpAny_bind (wpAny_bind (m := Builtin.Tuple.tupleExact _) (wpAny_newObj_type (wpAny_pure ⟨_, rfl, wpAny_pure h⟩) hk))
end
section
variable {X : Cx}
def tRevA (K : PySem.W.Frag) (te : TE) : TE := fun σ H Q => te σ H fun x H1 => ∃ a xs, x = .ref a ∧ ((SqL K H1 a xs ∧ ∀ p, H1 p = none → Q (.ref p) (upd H1 p (.lst xs.reverse))) ∨ (SqT K H1 a xs ∧ ∀ p, H1 p = none → Q (.ref p) (upd H1 p (.tup xs.reverse))))
theorem pe_revA {e : Expr} {te : TE} {k : Nat} {p1 p2 p3 pos : Pos} (he : PE X e te) : PE X (.Subscript e (.Slice none none (some (.UnaryOp .USub (.Constant (.int 1) k p1) p2)) p3) pos) (tRevA X.K te) := by
  refine ⟨fun pins s σ H Q I h => ?_⟩
  refine Subscript_ (thn (he.run pins s σ H _ I h) fun v s1 ⟨x, H1, I1, r1, q1⟩ => ?_)
  obtain ⟨a, xs, ex, q⟩ := q1
  subst ex
  cases r1
  have pst : PO X (some (.UnaryOp .USub (.Constant (.int 1) k p1) p2)) (tPart (tUn (rU fun i => .int (-i)) (tC (.int 1)))) := po_some (pe_un un_neg pe_int)
  refine wpAny_Slice (thn (po_none.run pins s1 σ H1 (fun o G => o = none ∧ G = H1) I1 ⟨rfl, rfl⟩) fun vl s2 ⟨l, H2, I2, pl, el, e2⟩ => ?_)
  subst el e2
  refine thn (po_none.run pins s2 σ H2 (fun o G => o = none ∧ G = H2) I2 ⟨rfl, rfl⟩) fun vu s3 ⟨u, H3, I3, pu, eu, e3⟩ => ?_
  subst eu e3
  refine thn (pst.run pins s3 σ H3 (fun o G => o = some (-1) ∧ G = H3) I3 ⟨1, rfl, -1, rfl, rfl, rfl⟩) fun vs s4 ⟨o, H4, I4, ps, eo, e4⟩ => ?_
  subst eo e4
  have I5 : Inv X pins σ H4 { s4 with heap := s4.heap.push { cls := .type "slice", data := .fields #[vl, vu, vs] } } := I4.kept (t' := s4.toks) fun b ob q => Heap.get?_push_of_some _ q
  show wpAny (model X.prog X.w) X.A (subscriptTail e (.Slice none none (some (.UnaryOp .USub (.Constant (.int 1) k p1) p2)) p3) (.ref a) (.ref s4.heap.objs.size)) (EP X pins σ Q) X.xe { s4 with heap := s4.heap.push { cls := .type "slice", data := .fields #[vl, vu, vs] } }
  rcases q with ⟨hx, q⟩ | ⟨hx, q⟩
  · obtain ⟨its, r, ht, hz⟩ := I5.list hx
    have hlen := r.length
    refine tail_any (ops := [.ref a, .ref s4.heap.objs.size]) ht.isList.typeIs (PySem.slot_list_getitem.lookup) ?_ (by with_unfolding_all rfl)
    refine wpAny_getItem_list_slice ht.isList (Heap.IsSliceOf.new _ vl vu vs) pl pu ps (by decide) ?_ (by rw [List.size_toArray]; omega)
    rw [PySem.W.krv_pick]
    refine ⟨.ref _, _, I5.laid (t' := s4.toks) (o := .lst xs.reverse) (fun b ob q => Heap.get?_push_of_some _ q) (Nat.le_refl _) ?_, rfl, q _ (I5.hok.fresh (Nat.le_refl _))⟩
    exact ⟨by rw [List.length_reverse]; exact hz, _, 0, r.reverse, Heap.get?_push_size _ rfl⟩
  · obtain ⟨its, r, ht, hz⟩ := I5.tuple hx
    have hlen := r.length
    refine tail_any (ops := [.ref a, .ref s4.heap.objs.size]) ht.typeIs (PyProof.Rows.slot_tuple_getitem.lookup) ?_ (by with_unfolding_all rfl)
    refine back_item ht (Heap.IsSliceOf.new _ vl vu vs) pl pu ps ?_ (by rw [List.size_toArray]; omega)
    refine ⟨.ref _, _, I5.laid (t' := s4.toks) (o := .tup xs.reverse) (fun b ob q => Heap.get?_push_of_some _ q) (Nat.le_refl _) ?_, rfl, q _ (I5.hok.fresh (Nat.le_refl _))⟩
    exact ⟨by rw [List.length_reverse]; exact hz, _, r.reverse, IsTup.new _ _⟩
end
section
variable {X : Cx} {W : WD} {a : Expr} {fa : DEn}
def gRev : D → Option D
  | .tup ds => some (.tup ds.reverse)
  | .lst ds => some (.lst ds.reverse)
  | .rol ds => some (.lst ds.reverse)
  | _ => none
def mRev (fa : DEn) : DEn := fun ρ S => (fa ρ S).bind fun d S1 => lift (gRev d) S1
theorem xrev {k : Nat} {p1 p2 p3 pos : Pos} (ha : DE X W a fa) : DE X W (.Subscript a (.Slice none none (some (.UnaryOp .USub (.Constant (.int 1) k p1) p2)) p3) pos) (mRev fa) :=
  PE.imp (pe_revA ha) fun σ H Q ⟨HF, L, ρ, S, R, p⟩ => ⟨HF, L, ρ, S, R, Post.bind p fun d S1 v H1 HF1 L1 e1 st1 R1 r1 p1 => by
    obtain ⟨d', ed, p2⟩ := p1.lift
    cases d with
    | tup ds =>
      cases ed
      cases r1 with
      | tup h1 h2 => exact ⟨_, _, rfl, .inr ⟨SqT.mono R1.sub h1, fun q hq => p2.done R1 (.new hq) (.tup (SqT.of upd_same) (h2.reverse.mono (same_upd (R1.hf hq))))⟩⟩
    | lst ds =>
      cases ed
      cases r1 with
      | lst h1 h2 => exact ⟨_, _, rfl, .inl ⟨SqL.of (R1.sub _ _ h1), fun q hq => p2.done R1 (.new hq) (.lst upd_same (h2.reverse.mono (same_upd (R1.hf hq))))⟩⟩
    | rol ds =>
      cases ed
      cases r1 with
      | rol h1 h2 => exact ⟨_, _, rfl, .inl ⟨R1.sub.seq h1, fun q hq => p2.done R1 (.new hq) (.lst upd_same (h2.reverse.mono (same_upd (R1.hf hq))))⟩⟩
    | _ => cases ed⟩
end
end DL

/-! the layer of data: max, min, sum, abs, math.gcd -/
namespace DL
open PySem PySem.Spec PyProof.Rows L2
section
variable {X : Cx} {W : WD}
def gMax2 : List D → Option D
  | [.int i, .int j] => some (.int (if j > i then j else i))
  | _ => none
def gMin2 : List D → Option D
  | [.int i, .int j] => some (.int (if j < i then j else i))
  | _ => none
theorem two_ints {G : Gd} {HF : Hp} {vs : List V} {i j : Int} (r : Reps G HF vs [.int i, .int j]) : vs = [.int i, .int j] := by
  cases r with
  | cons h1 h2 =>
    cases h2 with
    | cons h2 h3 =>
      cases h3
      cases h1
      cases h2
      rfl
theorem biMax2 (hc : X.calm = true) : BiO X W (.builtin "max") gMax2 := by
  refine ⟨_, call_max2 hc, fun xs vs H HF d Q sub r e q => ?_⟩
  unfold gMax2 at e
  split at e
  · cases e
    rw [two_ints r]
    exact ⟨_, _, rfl, q _ _ _ .no (.int _)⟩
  · cases e
theorem biMin2 (hc : X.calm = true) : BiO X W (.builtin "min") gMin2 := by
  refine ⟨_, call_min2 hc, fun xs vs H HF d Q sub r e q => ?_⟩
  unfold gMin2 at e
  split at e
  · cases e
    rw [two_ints r]
    exact ⟨_, _, rfl, q _ _ _ .no (.int _)⟩
  · cases e
def gAbs : List D → Option D
  | [.int i] => some (.int (if i < 0 then -i else i))
  | _ => none
theorem biAbs : BiO X W (.builtin "abs") gAbs := by
  refine ⟨_, call_abs, fun xs vs H HF d Q sub r e q => ?_⟩
  unfold gAbs at e
  split at e
  · cases e
    obtain ⟨v, rfl, h⟩ := r.one
    cases h
    exact ⟨_, rfl, q _ _ _ .no (.int _)⟩
  · cases e
def gSum : List D → Option D
  | [.lst ds] => (intsOf ds).map fun is => .int is.sum
  | _ => none
theorem biSum (hc : X.calm = true) : BiO X W (.builtin "sum") gSum := by
  refine ⟨_, cr_sum hc, fun xs vs H HF d Q sub r e q => ?_⟩
  unfold gSum at e
  split at e
  · rename_i ds
    cases eb : intsOf ds with
    | none => rw [eb] at e; cases e
    | some is =>
      rw [eb] at e
      cases e
      obtain ⟨v, rfl, h⟩ := r.one
      cases h with
      | lst h1 h2 =>
        have ev := h2.intsOf eb
        subst ev
        exact ⟨_, is, rfl, SqL.of (sub _ _ h1), q _ _ _ .no (.int _)⟩
  · cases e
def maxI : Int → List Int → Int
  | m, [] => m
  | m, x :: xs => maxI (if x > m then x else m) xs
def minI : Int → List Int → Int
  | m, [] => m
  | m, x :: xs => minI (if x < m then x else m) xs
theorem maxI_is : ∀ (xs : List Int) (m : Int), maxI m xs ∈ m :: xs ∧ ∀ y ∈ m :: xs, y ≤ maxI m xs
  | [], m => ⟨by simp [maxI], by simp [maxI]⟩
  | x :: xs, m => by
    obtain ⟨h1, h2⟩ := maxI_is xs (if x > m then x else m)
    have e : maxI m (x :: xs) = maxI (if x > m then x else m) xs := rfl
    rw [e]
    have h3 := h2 _ List.mem_cons_self
    generalize maxI (if x > m then x else m) xs = v at h1 h2 h3
    refine ⟨?_, fun y hy => ?_⟩
    · rcases List.mem_cons.mp h1 with z | z
      · rw [z]; split <;> simp
      · simp [z]
    · rcases List.mem_cons.mp hy with rfl | hy
      · split at h3 <;> omega
      · rcases List.mem_cons.mp hy with rfl | hy
        · split at h3 <;> omega
        · exact h2 y (List.mem_cons_of_mem _ hy)
theorem minI_is : ∀ (xs : List Int) (m : Int), minI m xs ∈ m :: xs ∧ ∀ y ∈ m :: xs, minI m xs ≤ y
  | [], m => ⟨by simp [minI], by simp [minI]⟩
  | x :: xs, m => by
    obtain ⟨h1, h2⟩ := minI_is xs (if x < m then x else m)
    have e : minI m (x :: xs) = minI (if x < m then x else m) xs := rfl
    rw [e]
    have h3 := h2 _ List.mem_cons_self
    generalize minI (if x < m then x else m) xs = v at h1 h2 h3
    refine ⟨?_, fun y hy => ?_⟩
    · rcases List.mem_cons.mp h1 with z | z
      · rw [z]; split <;> simp
      · simp [z]
    · rcases List.mem_cons.mp hy with rfl | hy
      · split at h3 <;> omega
      · rcases List.mem_cons.mp hy with rfl | hy
        · split at h3 <;> omega
        · exact h2 y (List.mem_cons_of_mem _ hy)
def gMax : List D → Option D
  | [.lst ds] => match intsOf ds with
    | some (m :: is) => some (.int (maxI m is))
    | _ => none
  | _ => none
def gMin : List D → Option D
  | [.lst ds] => match intsOf ds with
    | some (m :: is) => some (.int (minI m is))
    | _ => none
  | _ => none
theorem biMax (hc : X.calm = true) : BiO X W (.builtin "max") gMax := by
  refine ⟨_, cr_max hc, fun xs vs H HF d Q sub r e q => ?_⟩
  unfold gMax at e
  split at e
  · rename_i ds
    split at e
    · rename_i m is eb
      cases e
      obtain ⟨v, rfl, h⟩ := r.one
      cases h with
      | lst h1 h2 =>
        have ev := h2.intsOf eb
        subst ev
        obtain ⟨g1, g2⟩ := maxI_is is m
        refine ⟨_, m :: is, rfl, SqL.of (sub _ _ h1), by simp, fun y hy hm => ?_⟩
        have e1 := hm _ g1
        have e2 := g2 _ hy
        obtain rfl : y = maxI m is := by omega
        exact q _ _ _ .no (.int _)
    · cases e
  · cases e
theorem biMin (hc : X.calm = true) : BiO X W (.builtin "min") gMin := by
  refine ⟨_, cr_min hc, fun xs vs H HF d Q sub r e q => ?_⟩
  unfold gMin at e
  split at e
  · rename_i ds
    split at e
    · rename_i m is eb
      cases e
      obtain ⟨v, rfl, h⟩ := r.one
      cases h with
      | lst h1 h2 =>
        have ev := h2.intsOf eb
        subst ev
        obtain ⟨g1, g2⟩ := minI_is is m
        refine ⟨_, m :: is, rfl, SqL.of (sub _ _ h1), by simp, fun y hy hm => ?_⟩
        have e1 := hm _ g1
        have e2 := g2 _ hy
        obtain rfl : y = minI m is := by omega
        exact q _ _ _ .no (.int _)
    · cases e
  · cases e
def gGcd : List D → Option D
  | [.int i, .int j] => some (.int ((Nat.gcd i.natAbs j.natAbs : Nat) : Int))
  | _ => none
variable {a : Expr} {es : List Expr} {fs : DDn}
/-- a built-in function that the module has imported under a name -/
theorem xbg {x : Str} {id : String} {p pos : Pos} {g : List D → Option D} (o : BiO X W (.builtin id) g) (hm : X.mg x = some (.builtin id)) (ha : DA X W (a :: es) fs) (hg : Gl X x := by rfl) (hdb : (x == ("__debug__" : Str)) = false := by decide)
    (he : starEach (a :: es) X.env = (false, eval a X.env) :: starEach es X.env := by rfl) (hpl : (backTo pos (starEach es X.env)).any (·.1) = false := by rfl) : DE X W (.Call (.Name x p) (a :: es) [] pos) (mBi g fs) := by
  obtain ⟨r, h1, h2⟩ := o.has
  exact PE.imp (StS.pe_callG h1 hg hm ha hdb he hpl) fun σ H Q h => tD.bi h2 h
theorem biGcd : BiO X W (.builtin "math.gcd") gGcd := by
  refine ⟨_, cr_gcd, fun xs vs H HF d Q sub r e q => ?_⟩
  unfold gGcd at e
  split at e
  · cases e
    rw [two_ints r]
    exact ⟨_, _, rfl, q _ _ _ .no (.int _)⟩
  · cases e
end
end DL

/-! evaluation: comprehensions over lists of anything -/
namespace DL
open PySem L2
theorem rgD_nat (n : Nat) : rgD 0 (n : Int) = (List.range n).map fun i : Nat => D.int (i : Int) := by
  unfold rgD
  rw [show ((n : Int) - 0).toNat = n by omega]
  refine List.map_congr_left fun i _ => ?_
  simp
theorem filter_true {α : Type} (l : List α) : l.filter (fun _ => true) = l := List.filter_eq_self.mpr fun _ _ => rfl
theorem lcT {α : Type} {tg : Tg} {tt : DTn} {fe : DEn} {ρ : DL.Env} {S : Store} (emb : α → D) (f : α → Bool) (g : α → D) : ∀ (xs : List α), (∀ x ∈ xs, ∃ ρ1, asg tg (emb x) ρ = some ρ1 ∧ tt ρ1 S = .ok (f x) S ∧ (f x = true → fe ρ1 S = .ok (g x) S)) → ∀ acc : List D, acc.length + xs.length ≤ lim → lcL tg tt fe ρ (xs.map emb) S acc = .ok (acc ++ (xs.filter f).map g) S
  | [], h, acc, _ => by simp [lcL]
  | x :: xs, h, acc, hl => by
    obtain ⟨ρ1, e1, e2, e3⟩ := h x List.mem_cons_self
    rw [List.map_cons]
    unfold lcL
    rw [e1]
    dsimp only
    rw [e2]
    simp only [ev_bd_ok]
    have hl' : acc.length + (xs.length + 1) ≤ lim := by simpa using hl
    cases hf : f x with
    | false =>
      rw [if_neg Bool.false_ne_true, lcT emb f g xs (fun d hd => h d (List.mem_cons_of_mem _ hd)) acc (by omega)]
      simp [hf]
    | true =>
      rw [if_pos rfl, e3 hf]
      simp only [ev_bd_ok]
      rw [if_pos (by omega), lcT emb f g xs (fun d hd => h d (List.mem_cons_of_mem _ hd)) (acc ++ [g x]) (by simp; omega)]
      simp [hf]
end DL

/-! the layer of data: a tuple taken once (t * 1 is t) -/
namespace L2
open PySem PySem.Spec PyProof.Rows
theorem tuple_mul1 (l : Addr) (items : Array Value) (n : Nat) (dd : Option Addr) (sl : Array (Option Value)) (u : Tok) :
    Meets (Builtin.«tuple.__mul__» ⟨[.ref l, .int 1 u], []⟩) (fun _ R s => s.heap.get? l = some { cls := .type "tuple", dict := dd, data := .seq items n, slots := sl } ∧ R (.ok (.ret (Value.ref l))) s) :=
  .of_wp fun prog w A R s h => by
    obtain ⟨hp, g, d, tk, os⟩ := s
    obtain ⟨hl, h⟩ := h
    have f1 := AutoSeq1.idx_int
    wp_walk using wpAny_loadPart' hl
    exact ⟨_, rfl, h⟩
def rRepT1 (K : PySem.W.Frag) : R2 := fun x y H Q => ∃ l xs, x = .ref l ∧ y = .int 1 ∧ SqT K H l xs ∧ Q (.ref l) H
section
variable {X : Cx}
theorem op_repT1 : OpR X (binaryOp .Mult) (rRepT1 X.K) := by
  intro pins s σ H x y v u Q I rx ry h
  obtain ⟨l, xs, rfl, rfl, hT, q⟩ := h
  cases rx
  obtain ⟨t, rfl⟩ := ry
  obtain ⟨its, r, ⟨⟨cls, dd, data, sl⟩, ho, hc, n, hd⟩, hs⟩ := I.tuple hT
  simp only at hc hd
  subst hc hd
  exact wpAny_binaryOp_repeat_ref (T := "tuple") (U := "int") (by decide) ⟨_, ho, rfl⟩ (fun s' => typeIs_int s' 1 t) noFill_tuple_mul F.fills_int_mul F.slot_int_rmul repeat_tuple F.slot_int_index.lookup
    (call_meets F.slot_int_rmul (typeIs_int s 1 t) F.entry_int_rmul (F.args_int_rmul_2 _ _) (int_rmul_tuple 1 t l its.toArray n dd sl)
      ⟨ho, rfl, ⟨_, ho, rfl⟩, call_meets F.slot_tuple_mul ⟨_, ho, rfl⟩ F.entry_tuple_mul (F.args_tuple_mul_2 _ _) (tuple_mul1 l its.toArray n dd sl t) ⟨ho, ⟨.ref l, _, I, rfl, q⟩⟩⟩)
end
end L2
namespace DL
open PySem L2
def gMulT (x y : D) : Option D := match gMul x y with
  | some d => some d
  | none => match x, y with
    | .tup a, .int k => if k = 1 then some (.tup a) else none
    | _, _ => none
theorem gMulT_rep {a : List D} {k : Nat} (h0 : a ≠ []) (h1 : 1 ≤ k) (h2 : k ≤ 1000) (h3 : a.length ≤ 1000) : gMulT (.tup a) (.int (k : Int)) = some (.tup (List.replicate k a).flatten) := by
  unfold gMulT
  by_cases hk : k = 1
  · subst hk
    have e : gMul (.tup a) (.int ((1 : Nat) : Int)) = none := by
      show (if a ≠ [] ∧ (2 : Int) ≤ ((1 : Nat) : Int) ∧ ((1 : Nat) : Int) ≤ 1000 ∧ a.length ≤ 1000 then some (D.tup (List.replicate ((1 : Nat) : Int).toNat a).flatten) else none) = none
      exact if_neg fun z => by have := z.2.1; omega
    rw [e]
    simp
  · have e : gMul (.tup a) (.int (k : Int)) = some (.tup (List.replicate k a).flatten) := by
      show (if a ≠ [] ∧ (2 : Int) ≤ (k : Int) ∧ (k : Int) ≤ 1000 ∧ a.length ≤ 1000 then some (D.tup (List.replicate (k : Int).toNat a).flatten) else none) = _
      rw [if_pos ⟨h0, by omega, by omega, h3⟩, Int.toNat_natCast]
    rw [e]
section
variable {X : Cx} {W : WD}
theorem bMulT : BOp X W .Mult gMulT := by
  obtain ⟨r, hr, hs⟩ := (bMul (X := X) (W := W)).has
  refine ⟨_, OpR.or hr (op_repT1 (X := X)), fun x y v w H HF d Q sub rx ry e q => ?_⟩
  unfold gMulT at e
  split at e
  · rename_i d' e'
    cases e
    exact .inl (hs x y v w H HF _ Q sub rx ry e' q)
  · split at e
    · rename_i a k
      split at e
      · rename_i hk
        subst hk
        cases e
        cases ry
        cases rx with
        | tup h1 r1 => exact .inr ⟨_, _, rfl, rfl, SqT.mono sub h1, q _ _ _ .no (.tup h1 r1)⟩
      · cases e
    · cases e
end
end DL

/-! the layer of data: [c] * n as a new cell -/
namespace DL
open PySem L2
def mNewRep (fa fb : DEn) : DVn := fun ρ S => (fa ρ S).bind fun x S1 => (fb ρ S1).bind fun y S2 => match x, y with
  | .lst ds, .int k => if k ≤ 1000 ∧ -1000 ≤ k ∧ ds.length ≤ 1000 then .ok (.cel S2.length) (S2 ++ [some (.lst (List.replicate k.toNat ds).flatten)]) else .bad
  | _, _ => .bad
section
variable {X : Cx} {W : WD} {pos : Pos} {a b : Expr} {fa fb : DEn}
theorem vrep (ha : DE X W a fa) (hb : DE X W b fb) : DV X W (.BinOp a .Mult b pos) (mNewRep fa fb) :=
  PE.imp (pe_op op_rep ha hb) fun σ H Q ⟨HF, L, ρ, S, R, p⟩ => ⟨HF, L, ρ, S, R, Post.bind p fun x S1 v H1 HF1 L1 e1 st1 R1 r1 p1 => ⟨HF1, L1, ρ, S1, R1, Post.bind p1 fun y S2 w H2 HF2 L2 e2 st2 R2 r2 p2 => by
    have r1' := Rep.mono st2.fro r1
    cases y with
    | int k =>
      cases r2
      cases x with
      | lst ds =>
        dsimp only at p2
        split at p2
        · rename_i hz
          cases r1' with
          | lst h1 h2 =>
            refine ⟨_, _, _, rfl, rfl, R2.sub _ _ h1, by omega, by omega, ?_, fun q hq => Post.fresh (α := EV) R2 hq (h2.rep _) p2⟩
            rw [h2.length]
            have h0 : ds.length * k.toNat ≤ 1000 * 1000 := Nat.mul_le_mul hz.2.2 (by omega)
            exact Nat.le_trans h0 lim_le
        · exact p2.elim
      | _ => exact p2.elim
    | _ => cases x <;> exact p2.elim⟩⟩
end
end DL

/-! the layer of data: a + b of lists, each a value or a cell; the sum a value or a new cell -/
namespace DL
open PySem L2
def lstOf (S : Store) : EV → Option (List D)
  | .v (.lst ds) => some ds
  | .cel n => match S[n]? with
    | some (some (.lst ds)) => some ds
    | _ => none
  | _ => none
def mCatWith {α : Type} (k : List D → Store → Out α) (fa fb : DVn) : DL.Env → Store → Out α := fun ρ S => (fa ρ S).bind fun x S1 => (fb ρ S1).bind fun y S2 => match lstOf S2 x, lstOf S2 y with
  | some ds, some es => if ds.length + es.length ≤ lim then k (ds ++ es) S2 else .bad
  | _, _ => .bad
def mNewCat (fa fb : DVn) : DVn := mCatWith (fun ds S => .ok (.cel S.length) (S ++ [some (.lst ds)])) fa fb
def mCat (fa fb : DVn) : DEn := mCatWith (fun ds S => .ok (.lst ds) S) fa fb
section
variable {X : Cx} {W : WD} {pos : Pos} {a b : Expr} {fa fb : DVn}
theorem lstOf_rep {G : Gd} {H HF : Hp} {L : List Addr} {σ : L2.St} {ρ : DL.Env} {S : Store} (R : Rel G H HF L σ ρ S) {v : V} {e : EV} {ds : List D} (r : RepE G HF L v e) (h : lstOf S e = some ds) : ∃ p xs, v = .ref p ∧ H p = some (.lst xs) ∧ Reps G HF xs ds := by
  cases e with
  | v d =>
    cases d with
    | lst es =>
      obtain rfl : es = ds := Option.some.inj h
      have r : Rep G HF v (.lst es) := r
      cases r with
      | lst h1 h2 => exact ⟨_, _, rfl, R.sub _ _ h1, h2⟩
    | _ => cases h
  | cel n =>
    unfold lstOf at h
    dsimp only at h
    split at h
    · rename_i es e
      obtain rfl : es = ds := Option.some.inj h
      obtain ⟨p, h1, rfl⟩ := r
      obtain ⟨h2, vs, h3, h4⟩ := R.cell n p _ h1 e
      exact ⟨p, vs, rfl, h3, h4⟩
    · cases h
  | exn x => cases h
theorem vcat (ha : DV X W a fa) (hb : DV X W b fb) : DV X W (.BinOp a .Add b pos) (mNewCat fa fb) :=
  PE.imp (pe_op op_cat ha hb) fun σ H Q ⟨HF, L, ρ, S, R, p⟩ => ⟨HF, L, ρ, S, R, Post.bind p fun x S1 v H1 HF1 L1 e1 st1 R1 r1 p1 => ⟨HF1, L1, ρ, S1, R1, Post.bind p1 fun y S2 w H2 HF2 L2 e2 st2 R2 r2 p2 => by
    have r1' := RepE.mono st2 r1
    split at p2
    · rename_i ds es h1 h2
      split at p2
      · rename_i hz
        obtain ⟨q, xs, rfl, k1, k2⟩ := lstOf_rep R2 r1' h1
        obtain ⟨q', ys, rfl, k3, k4⟩ := lstOf_rep R2 r2 h2
        refine ⟨_, _, _, _, rfl, rfl, k1, k3, ?_, fun t ht => Post.fresh (α := EV) R2 ht (k2.append k4) p2⟩
        rw [k2.length, k4.length]; exact Nat.le_trans hz lim_le
      · exact p2.elim
    · exact p2.elim⟩⟩
theorem xcat (ha : DV X W a fa) (hb : DV X W b fb) : DE X W (.BinOp a .Add b pos) (mCat fa fb) :=
  PE.imp (pe_op op_cat ha hb) fun σ H Q ⟨HF, L, ρ, S, R, p⟩ => ⟨HF, L, ρ, S, R, Post.bind p fun x S1 v H1 HF1 L1 e1 st1 R1 r1 p1 => ⟨HF1, L1, ρ, S1, R1, Post.bind p1 fun y S2 w H2 HF2 L2 e2 st2 R2 r2 p2 => by
    have r1' := RepE.mono st2 r1
    split at p2
    · rename_i ds es h1 h2
      split at p2
      · rename_i hz
        obtain ⟨q, xs, rfl, k1, k2⟩ := lstOf_rep R2 r1' h1
        obtain ⟨q', ys, rfl, k3, k4⟩ := lstOf_rep R2 r2 h2
        refine ⟨_, _, _, _, rfl, rfl, k1, k3, ?_, fun t ht => ?_⟩
        · rw [k2.length, k4.length]; exact Nat.le_trans hz lim_le
        · have hF : HF2 t = none := free_of R2.sub ht
          exact p2.done R2 (.new ht) (.lst upd_same ((k2.append k4).mono (same_upd hF)))
      · exact p2.elim
    · exact p2.elim⟩⟩
end
end DL

namespace Pr
open PySem PySem.Spec PyProof.Rows L2 DL

def top (i : Nat) : Stmt := PySem.Challenge.pw_chipfloor_k28_whole_clocks.main.body.getD i (.Pass ⟨0, 0, 0, 0⟩)
/-- the built-ins' names mean what they mean -/
structure Bi (mg : Str → Option Value) : Prop where
  abs : mg "abs" = none
  all : mg "all" = none
  bool : mg "bool" = none
  enumerate : mg "enumerate" = none
  int : mg "int" = none
  isinstance : mg "isinstance" = none
  len : mg "len" = none
  list : mg "list" = none
  max : mg "max" = none
  range : mg "range" = none
  tuple : mg "tuple" = none
def k_FARTHEST : D := (.int 40)
def k_MOST_POINTS : D := (.int 6)
def xcat : Str → Option Bool := fun y => if y = "BadPins" then some true else if y = "BadTopology" then some true else none
def xtab : Str → Str → Option Bool := fun y t => if y = "BadPins" then (none) else if y = "BadTopology" then (none) else none
def xfld : Str → Str → Bool := fun y f => if y = "BadPins" then decide (f = "index") else false
/-- the exceptions' classes mean what they mean -/
structure Exs (P : Program) (w : World) (K : PySem.W.Frag) (mg : Str → Option Value) (base : Heap) : Prop where
  own_BadPins : OwnE P w ⟨K, mg, none⟩ base 1 "BadPins" "index"
  pl_BadTopology : OwnP ⟨K, mg, none⟩ "BadTopology"
  tab : XTab K mg xtab
  fld : XFld K mg xfld
abbrev st_init_BadPins : Stmt := (DL.clsBody (top 3)).getD 0 (.Pass ⟨0, 0, 0, 0⟩)
theorem sc_init_BadPins : FnScope ["self", "index"] ["self", "index"] (defScope st_init_BadPins) := ⟨rfl, rfl, rfl, by decide +kernel, rfl, by decide +kernel, by decide +kernel⟩

/-! ## _law_taken -/
abbrev st__law_taken : Stmt := top 31
theorem sc__law_taken : FnScope ["row", "many", "cell", "found"] ["row", "many"] (defScope st__law_taken) := ⟨rfl, rfl, rfl, by decide +kernel, rfl, by decide +kernel, by decide +kernel⟩
def b__law_taken : DSn :=
  (mSeq (mIfS (mCmp gGt (mIxC 0 (mC (.int 3))) (mC (.int 0))) (mSeq (mSet 3 (mV (mOp gMod (mBi gInt (mCons (mIxC 0 (mC (.int 3))) mNil)) (mVar 1))))
  (mSeq (mAsg (mOp gDiv (mIxC 0 (mC (.int 3))) (mVar 1)) (gIt 0 (mC (.int 3))))
  (mRet (mVar 3)))) mSkip)
  (mSeq (mAsg (mOp gAdd (mIxC 0 (mC (.int 1))) (mC (.int 1))) (gIt 0 (mC (.int 1))))
  (mSeq (mIfS (mCmp gGt (mIxC 0 (mC (.int 1))) (mBi gLen (mCons (mIxC 0 (mC (.int 0))) mNil))) (mSeq (mAsg (mOp gMod (mBi gInt (mCons (mOp gAdd (mOp gMul (mIxC 0 (mC (.int 2))) (mC (.int 48271))) (mC (.int 11))) mNil)) (mC (.int 2147483647))) (gIt 0 (mC (.int 2))))
  (mRet (mOp gMod (mBi gInt (mCons (mOp gDiv (mIxC 0 (mC (.int 2))) (mC (.int 7))) mNil)) (mVar 1)))) mSkip)
  (mSeq (mSet 2 (mV (mOp gIx (mIxC 0 (mC (.int 0))) (mOp gSub (mIxC 0 (mC (.int 1))) (mC (.int 1))))))
  (mSeq (mAsg (mOp gMod (mBi gInt (mCons (mOp gAdd (mOp gAdd (mOp gMul (mIxC 0 (mC (.int 2))) (mC (.int 48271))) (mVar 2)) (mC (.int 11))) mNil)) (mC (.int 2147483647))) (gIt 0 (mC (.int 2))))
  (mSeq (mIfS (mCmp gGe (mVar 2) (mOp gPow (mC (.int 10)) (mC (.int 18)))) (mAsg (mOp gDiv (mVar 2) (mVar 1)) (gIt 0 (mC (.int 3)))) mSkip)
  (mRet (mOp gMod (mBi gInt (mCons (mVar 2) mNil)) (mVar 1)))))))))
def d__law_taken : Den := denB 4 b__law_taken
theorem ok__law_taken {P : Program} {w : World} {K : PySem.W.Frag} {mg : Str → Option Value} {base : Heap} {a : Addr} {fd : FuncData} (B : Bi mg)
    (F : Fun K "_law_taken" "_law_taken" st__law_taken a fd) (hm : mg "_law_taken" = some (.ref a)) (hb : Binds K fd ["row", "many"] []) : Dfn P w ⟨K, mg, none⟩ base 3 "_law_taken" 2 d__law_taken := by
  refine dfn_of (k := 2) (N := ["row", "many", "cell", "found"]) (G := ⟨K, mg, none⟩) F sc__law_taken hm hb rfl (by decide) rfl fun cdv A outer s H E hr => ?_
  have hu := hr.units
  have hu5 := units65 hr
  have nd := sc__law_taken.nd
  have tk := takes_of (X := cxOf (L2.CX P w) P w K mg base ["row", "many", "cell", "found"] "_law_taken" (defScope st__law_taken) a cdv A outer s H E) rfl rfl rfl rfl
  have hp := passes_of (X := cxOf (L2.CX P w) P w K mg base ["row", "many", "cell", "found"] "_law_taken" (defScope st__law_taken) a cdv A outer s H E) rfl
  exact (s1 (sif (ycmp cGt (xixC 0 xint) xint) (s1 (sset 3 nd (v1 (xop bMod (xbt biInt B.int DL.boot_int (a1 (xixC 0 xint) a0)) (xv 1))))
  (s1 (sasg (xop bDiv (xixC 0 xint) (xv 1)) (gitem 0 xint))
  (sl (sret (xv 3))))) s0)
  (s1 (sasg (xop bAdd (xixC 0 xint) xint) (gitem 0 xint))
  (s1 (sif (ycmp cGt (xixC 0 xint) (xbi biLen B.len DL.boot_len (a1 (xixC 0 xint) a0))) (s1 (sasg (xop bMod (xbt biInt B.int DL.boot_int (a1 (xop bAdd (xop bMul (xixC 0 xint) xint) xint) a0)) xint) (gitem 0 xint))
  (sl (sret (xop bMod (xbt biInt B.int DL.boot_int (a1 (xop bDiv (xixC 0 xint) xint) a0)) (xv 1))))) s0)
  (s1 (sset 2 nd (v1 (xix (xixC 0 xint) (xop bSub (xixC 0 xint) xint))))
  (s1 (sasg (xop bMod (xbt biInt B.int DL.boot_int (a1 (xop bAdd (xop bAdd (xop bMul (xixC 0 xint) xint) (xv 2)) xint) a0)) xint) (gitem 0 xint))
  (s1 (sif (ycmp cGe (xv 2) (xop bPow xint xint)) (sl (sasg (xop bDiv (xv 2) (xv 1)) (gitem 0 xint))) s0)
  (sl (sret (xop bMod (xbt biInt B.int DL.boot_int (a1 (xv 2) a0)) (xv 1))))))))))

/-! ## _law_pick -/
abbrev st__law_pick : Stmt := top 32
theorem sc__law_pick : FnScope ["row", "things"] ["row", "things"] (defScope st__law_pick) := ⟨rfl, rfl, rfl, by decide +kernel, rfl, by decide +kernel, by decide +kernel⟩
def b__law_pick : DSn :=
  (mRet (mOp gIx (mVar 1) (mCall d__law_taken 2 (mConsE (mCel 0) (mConsE (mV (mBi gLen (mCons (mVar 1) mNil))) mNilE)))))
def d__law_pick : Den := denB 2 b__law_pick
theorem ok__law_pick {P : Program} {w : World} {K : PySem.W.Frag} {mg : Str → Option Value} {base : Heap} {a : Addr} {fd : FuncData} (B : Bi mg) (D__law_taken : Dfn P w ⟨K, mg, none⟩ base 3 "_law_taken" 2 d__law_taken)
    (F : Fun K "_law_pick" "_law_pick" st__law_pick a fd) (hm : mg "_law_pick" = some (.ref a)) (hb : Binds K fd ["row", "things"] []) : Dfn P w ⟨K, mg, none⟩ base 4 "_law_pick" 2 d__law_pick := by
  refine dfn_of (k := 3) (N := ["row", "things"]) (G := ⟨K, mg, none⟩) F sc__law_pick hm hb rfl (by decide) rfl fun cdv A outer s H E hr => ?_
  have hu := hr.units
  have hu5 := units65 hr
  have nd := sc__law_pick.nd
  have tk := takes_of (X := cxOf (L2.CX P w) P w K mg base ["row", "things"] "_law_pick" (defScope st__law_pick) a cdv A outer s H E) rfl rfl rfl rfl
  have hp := passes_of (X := cxOf (L2.CX P w) P w K mg base ["row", "things"] "_law_pick" (defScope st__law_pick) a cdv A outer s H E) rfl
  exact (sl (sret (xix (xv 1) (xcall D__law_taken (hr.mono (by decide)) tk (e1 (vc 0) (e1 (v1 (xbi biLen B.len DL.boot_len (a1 (xv 1) a0))) e0))))))

/-! ## _law_topology -/
abbrev st__law_topology : Stmt := top 34
theorem sc__law_topology : FnScope ["row", "numbers", "some", "one", "other"] ["row", "numbers"] (defScope st__law_topology) := ⟨rfl, rfl, rfl, by decide +kernel, rfl, by decide +kernel, by decide +kernel⟩
def b__law_topology : DSn :=
  (mSeq (mSet 2 (mNewOf (mVar 1)))
  (mSeq (whileL (mCmp gGt (mBiC 2 gLen) (mC (.int 1))) (mSeq (mSet 3 (mV (mMet 2 gPopAt (mCons (mCall d__law_taken 2 (mConsE (mCel 0) (mConsE (mV (mBiC 2 gLen)) mNilE))) mNil))))
  (mSeq (mSet 4 (mV (mMet 2 gPopAt (mCons (mCall d__law_taken 2 (mConsE (mCel 0) (mConsE (mV (mBiC 2 gLen)) mNilE))) mNil))))
  (mDrop (mMet 2 gApp (mCons (mTup (mCons (mVar 3) (mCons (mVar 4) mNil))) mNil))))) 1000)
  (mRet (mIxC 2 (mC (.int 0))))))
def d__law_topology : Den := denB 5 b__law_topology
theorem ok__law_topology {P : Program} {w : World} {K : PySem.W.Frag} {mg : Str → Option Value} {base : Heap} {a : Addr} {fd : FuncData} (B : Bi mg) (D__law_taken : Dfn P w ⟨K, mg, none⟩ base 3 "_law_taken" 2 d__law_taken)
    (F : Fun K "_law_topology" "_law_topology" st__law_topology a fd) (hm : mg "_law_topology" = some (.ref a)) (hb : Binds K fd ["row", "numbers"] []) : Dfn P w ⟨K, mg, none⟩ base 4 "_law_topology" 2 d__law_topology := by
  refine dfn_of (k := 3) (N := ["row", "numbers", "some", "one", "other"]) (G := ⟨K, mg, none⟩) F sc__law_topology hm hb rfl (by decide) rfl fun cdv A outer s H E hr => ?_
  have hu := hr.units
  have hu5 := units65 hr
  have nd := sc__law_topology.nd
  have tk := takes_of (X := cxOf (L2.CX P w) P w K mg base ["row", "numbers", "some", "one", "other"] "_law_topology" (defScope st__law_topology) a cdv A outer s H E) rfl rfl rfl rfl
  have hp := passes_of (X := cxOf (L2.CX P w) P w K mg base ["row", "numbers", "some", "one", "other"] "_law_topology" (defScope st__law_topology) a cdv A outer s H E) rfl
  exact (s1 (sset 2 nd (vlist B.list (xv 1)))
  (s1 (swhile 1000 hp (ycmp cGt (xbiC 2 biLen B.len DL.boot_len) xint) (s1 (sset 3 nd (v1 (xmet 2 mePopAt (a1 (xcall D__law_taken (hr.mono (by decide)) tk (e1 (vc 0) (e1 (v1 (xbiC 2 biLen B.len DL.boot_len)) e0))) a0))))
  (s1 (sset 4 nd (v1 (xmet 2 mePopAt (a1 (xcall D__law_taken (hr.mono (by decide)) tk (e1 (vc 0) (e1 (v1 (xbiC 2 biLen B.len DL.boot_len)) e0))) a0))))
  (sl (sexpr (xmet 2 meApp (a1 (xtup (a1 (xv 3) (a1 (xv 4) a0))) a0)))))))
  (sl (sret (xixC 2 xint)))))

/-! ## is_tuple_of -/
abbrev st_is_tuple_of : Stmt := top 8
theorem sc_is_tuple_of : FnScope ["value", "least", "most"] ["value", "least", "most"] (defScope st_is_tuple_of) := ⟨rfl, rfl, rfl, by decide +kernel, rfl, by decide +kernel, by decide +kernel⟩
def b_is_tuple_of : DSn :=
  (mRet (mAnd (mIsT "tuple" (mVar 0)) (mB (mChain gLe gLe (mVar 1) (mBi gLen (mCons (mVar 0) mNil)) (mVar 2)))))
def d_is_tuple_of : Den := denB 3 b_is_tuple_of
theorem ok_is_tuple_of {P : Program} {w : World} {K : PySem.W.Frag} {mg : Str → Option Value} {base : Heap} {a : Addr} {fd : FuncData} (B : Bi mg)
    (F : Fun K "is_tuple_of" "is_tuple_of" st_is_tuple_of a fd) (hm : mg "is_tuple_of" = some (.ref a)) (hb : Binds K fd ["value", "least", "most"] []) : Dfn P w ⟨K, mg, none⟩ base 3 "is_tuple_of" 3 d_is_tuple_of := by
  refine dfn_of (k := 2) (N := ["value", "least", "most"]) (G := ⟨K, mg, none⟩) F sc_is_tuple_of hm hb rfl (by decide) rfl fun cdv A outer s H E hr => ?_
  have hu := hr.units
  have hu5 := units65 hr
  have nd := sc_is_tuple_of.nd
  have tk := takes_of (X := cxOf (L2.CX P w) P w K mg base ["value", "least", "most"] "is_tuple_of" (defScope st_is_tuple_of) a cdv A outer s H E) rfl rfl rfl rfl
  have hp := passes_of (X := cxOf (L2.CX P w) P w K mg base ["value", "least", "most"] "is_tuple_of" (defScope st_is_tuple_of) a cdv A outer s H E) rfl
  exact (sl (sret (xand (xisT B.isinstance B.tuple DL.boot_tuple (xv 0)) (xone (xchain cLe cLe (xv 1) (xbi biLen B.len DL.boot_len (a1 (xv 0) a0)) (xv 2))))))

/-! ## is_integer -/
abbrev st_is_integer : Stmt := top 6
theorem sc_is_integer : FnScope ["value"] ["value"] (defScope st_is_integer) := ⟨rfl, rfl, rfl, by decide +kernel, rfl, by decide +kernel, by decide +kernel⟩
def b_is_integer : DSn :=
  (mRet (mAnd (mIsT "int" (mVar 0)) (mNot (mIsT "bool" (mVar 0)))))
def d_is_integer : Den := denB 1 b_is_integer
theorem ok_is_integer {P : Program} {w : World} {K : PySem.W.Frag} {mg : Str → Option Value} {base : Heap} {a : Addr} {fd : FuncData} (B : Bi mg)
    (F : Fun K "is_integer" "is_integer" st_is_integer a fd) (hm : mg "is_integer" = some (.ref a)) (hb : Binds K fd ["value"] []) : Dfn P w ⟨K, mg, none⟩ base 3 "is_integer" 1 d_is_integer := by
  refine dfn_of (k := 2) (N := ["value"]) (G := ⟨K, mg, none⟩) F sc_is_integer hm hb rfl (by decide) rfl fun cdv A outer s H E hr => ?_
  have hu := hr.units
  have hu5 := units65 hr
  have nd := sc_is_integer.nd
  have tk := takes_of (X := cxOf (L2.CX P w) P w K mg base ["value"] "is_integer" (defScope st_is_integer) a cdv A outer s H E) rfl rfl rfl rfl
  have hp := passes_of (X := cxOf (L2.CX P w) P w K mg base ["value"] "is_integer" (defScope st_is_integer) a cdv A outer s H E) rfl
  exact (sl (sret (xand (xisT B.isinstance B.int DL.boot_int (xv 0)) (xone (xnot (xisT B.isinstance B.bool DL.boot_bool (xv 0)))))))

/-! ## is_between -/
abbrev st_is_between : Stmt := top 7
theorem sc_is_between : FnScope ["value", "least", "most"] ["value", "least", "most"] (defScope st_is_between) := ⟨rfl, rfl, rfl, by decide +kernel, rfl, by decide +kernel, by decide +kernel⟩
def b_is_between : DSn :=
  (mRet (mAnd (mCall d_is_integer 1 (mConsE (mV (mVar 0)) mNilE)) (mB (mChain gLe gLe (mVar 1) (mVar 0) (mVar 2)))))
def d_is_between : Den := denB 3 b_is_between
theorem ok_is_between {P : Program} {w : World} {K : PySem.W.Frag} {mg : Str → Option Value} {base : Heap} {a : Addr} {fd : FuncData} (B : Bi mg) (D_is_integer : Dfn P w ⟨K, mg, none⟩ base 3 "is_integer" 1 d_is_integer)
    (F : Fun K "is_between" "is_between" st_is_between a fd) (hm : mg "is_between" = some (.ref a)) (hb : Binds K fd ["value", "least", "most"] []) : Dfn P w ⟨K, mg, none⟩ base 4 "is_between" 3 d_is_between := by
  refine dfn_of (k := 3) (N := ["value", "least", "most"]) (G := ⟨K, mg, none⟩) F sc_is_between hm hb rfl (by decide) rfl fun cdv A outer s H E hr => ?_
  have hu := hr.units
  have hu5 := units65 hr
  have nd := sc_is_between.nd
  have tk := takes_of (X := cxOf (L2.CX P w) P w K mg base ["value", "least", "most"] "is_between" (defScope st_is_between) a cdv A outer s H E) rfl rfl rfl rfl
  have hp := passes_of (X := cxOf (L2.CX P w) P w K mg base ["value", "least", "most"] "is_between" (defScope st_is_between) a cdv A outer s H E) rfl
  exact (sl (sret (xand (xcall D_is_integer (hr.mono (by decide)) tk (e1 (v1 (xv 0)) e0)) (xone (xchain cLe cLe (xv 1) (xv 0) (xv 2))))))

/-! ## is_point -/
abbrev st_is_point : Stmt := top 13
theorem sc_is_point : FnScope ["value"] ["value"] (defScope st_is_point) := ⟨rfl, rfl, rfl, by decide +kernel, rfl, by decide +kernel, by decide +kernel⟩
def b_is_point : DSn :=
  (mRet (mAnd (mCall d_is_tuple_of 3 (mConsE (mV (mVar 0)) (mConsE (mV (mC (.int 2))) (mConsE (mV (mC (.int 2))) mNilE)))) (mAnd (mCall d_is_between 3 (mConsE (mV (mOp gIx (mVar 0) (mC (.int 0)))) (mConsE (mV (mC (.int 0))) (mConsE (mV (mC k_FARTHEST)) mNilE)))) (mCall d_is_between 3 (mConsE (mV (mOp gIx (mVar 0) (mC (.int 1)))) (mConsE (mV (mC (.int 0))) (mConsE (mV (mC k_FARTHEST)) mNilE)))))))
def d_is_point : Den := denB 1 b_is_point
theorem ok_is_point {P : Program} {w : World} {K : PySem.W.Frag} {mg : Str → Option Value} {base : Heap} {a : Addr} {fd : FuncData} (B : Bi mg) (K_FARTHEST : Kon ⟨K, mg, none⟩ "FARTHEST" k_FARTHEST) (D_is_tuple_of : Dfn P w ⟨K, mg, none⟩ base 3 "is_tuple_of" 3 d_is_tuple_of) (D_is_between : Dfn P w ⟨K, mg, none⟩ base 4 "is_between" 3 d_is_between)
    (F : Fun K "is_point" "is_point" st_is_point a fd) (hm : mg "is_point" = some (.ref a)) (hb : Binds K fd ["value"] []) : Dfn P w ⟨K, mg, none⟩ base 5 "is_point" 1 d_is_point := by
  refine dfn_of (k := 4) (N := ["value"]) (G := ⟨K, mg, none⟩) F sc_is_point hm hb rfl (by decide) rfl fun cdv A outer s H E hr => ?_
  have hu := hr.units
  have hu5 := units65 hr
  have nd := sc_is_point.nd
  have tk := takes_of (X := cxOf (L2.CX P w) P w K mg base ["value"] "is_point" (defScope st_is_point) a cdv A outer s H E) rfl rfl rfl rfl
  have hp := passes_of (X := cxOf (L2.CX P w) P w K mg base ["value"] "is_point" (defScope st_is_point) a cdv A outer s H E) rfl
  exact (sl (sret (xand (xcall D_is_tuple_of (hr.mono (by decide)) tk (e1 (v1 (xv 0)) (e1 (v1 xint) (e1 (v1 xint) e0)))) (xand (xcall D_is_between (hr.mono (by decide)) tk (e1 (v1 (xix (xv 0) xint)) (e1 (v1 xint) (e1 (v1 (xk K_FARTHEST)) e0)))) (xone (xcall D_is_between (hr.mono (by decide)) tk (e1 (v1 (xix (xv 0) xint)) (e1 (v1 xint) (e1 (v1 (xk K_FARTHEST)) e0)))))))))

/-! ## wrong_index -/
abbrev st_wrong_index : Stmt := top 9
theorem sc_wrong_index : FnScope ["values", "is_right", "index", "value"] ["values", "is_right"] (defScope st_wrong_index) := ⟨rfl, rfl, rfl, by decide +kernel, rfl, by decide +kernel, by decide +kernel⟩
def T_wrong_index_1 : Str → Option (Nat × Den) := fun x => if x = "is_point" then some (1, d_is_point) else none
def b_wrong_index : DSn :=
  (mSeq (mFor (mEnum (mVar 0)) (.tp [(.nm 2), (.nm 3)]) (mIfS (mNotT (mTru (mCallL 1 T_wrong_index_1 (mConsE (mV (mVar 3)) mNilE)))) (mRet (mVar 2)) mSkip))
  (mRet (mC .non)))
def d_wrong_index : Den := denB 4 b_wrong_index
theorem ok_wrong_index {P : Program} {w : World} {K : PySem.W.Frag} {mg : Str → Option Value} {base : Heap} {a : Addr} {fd : FuncData} (B : Bi mg) (D_is_point : Dfn P w ⟨K, mg, none⟩ base 5 "is_point" 1 d_is_point)
    (F : Fun K "wrong_index" "wrong_index" st_wrong_index a fd) (hm : mg "wrong_index" = some (.ref a)) (hb : Binds K fd ["values", "is_right"] []) : Dfn P w ⟨K, mg, none⟩ base 6 "wrong_index" 2 d_wrong_index := by
  have T1 : ∀ x n f, T_wrong_index_1 x = some (n, f) → Dfn P w ⟨K, mg, none⟩ base 5 x n f := fun x n f e => by
    unfold T_wrong_index_1 at e
    split at e
    · rename_i h; subst h; cases e; exact D_is_point.mono (by decide)
    · cases e
  refine dfn_of (k := 5) (N := ["values", "is_right", "index", "value"]) (G := ⟨K, mg, none⟩) F sc_wrong_index hm hb rfl (by decide) rfl fun cdv A outer s H E hr => ?_
  have hu := hr.units
  have hu5 := units65 hr
  have nd := sc_wrong_index.nd
  have tk := takes_of (X := cxOf (L2.CX P w) P w K mg base ["values", "is_right", "index", "value"] "wrong_index" (defScope st_wrong_index) a cdv A outer s H E) rfl rfl rfl rfl
  have hp := passes_of (X := cxOf (L2.CX P w) P w K mg base ["values", "is_right", "index", "value"] "wrong_index" (defScope st_wrong_index) a cdv A outer s H E) rfl
  exact (s1 (sfor hp rfl (i_enum B.enumerate (xv 0)) (t := (.tp [(.nm 2), (.nm 3)])) (qt rfl (qs1 (q1 nd) (qs1 (q1 nd) qs0))) (sl (sif (ynot (ytru (xcallL 1 (T := T_wrong_index_1) T1 hr tk (e1 (v1 (xv 3)) e0)))) (sl (sret (xv 2))) s0)))
  (sl (sret xnon)))

/-! ## check_ends -/
abbrev st_check_ends : Stmt := top 18
theorem sc_check_ends : FnScope ["ends", "index"] ["ends"] (defScope st_check_ends) := ⟨rfl, rfl, rfl, by decide +kernel, rfl, by decide +kernel, by decide +kernel⟩
def b_check_ends : DSn :=
  (mSeq (mIfS (mNotT (mTru (mCall d_is_tuple_of 3 (mConsE (mV (mVar 0)) (mConsE (mV (mC (.int 1))) (mConsE (mV (mC k_MOST_POINTS)) mNilE)))))) (mRaise1 "BadPins" "index" (mC .non)) mSkip)
  (mSeq (mSet 1 (mV (mCall d_wrong_index 2 (mConsE (mV (mVar 0)) (mConsE (mV (mC (.fn "is_point"))) mNilE)))))
  (mIfS (mCmp gNotN (mVar 1) (mC .non)) (mRaise1 "BadPins" "index" (mVar 1)) mSkip)))
def d_check_ends : Den := denB 2 b_check_ends
theorem ok_check_ends {P : Program} {w : World} {K : PySem.W.Frag} {mg : Str → Option Value} {base : Heap} {a : Addr} {fd : FuncData} (B : Bi mg) (EX : Exs P w K mg base) (K_MOST_POINTS : Kon ⟨K, mg, none⟩ "MOST_POINTS" k_MOST_POINTS) (D_is_tuple_of : Dfn P w ⟨K, mg, none⟩ base 3 "is_tuple_of" 3 d_is_tuple_of) (D_wrong_index : Dfn P w ⟨K, mg, none⟩ base 6 "wrong_index" 2 d_wrong_index) (D_is_point : Dfn P w ⟨K, mg, none⟩ base 5 "is_point" 1 d_is_point)
    (F : Fun K "check_ends" "check_ends" st_check_ends a fd) (hm : mg "check_ends" = some (.ref a)) (hb : Binds K fd ["ends"] []) : Dfn P w ⟨K, mg, none⟩ base 7 "check_ends" 1 d_check_ends := by
  refine dfn_of (k := 6) (N := ["ends", "index"]) (G := ⟨K, mg, none⟩) F sc_check_ends hm hb rfl (by decide) rfl fun cdv A outer s H E hr => ?_
  have hu := hr.units
  have hu5 := units65 hr
  have nd := sc_check_ends.nd
  have tk := takes_of (X := cxOf (L2.CX P w) P w K mg base ["ends", "index"] "check_ends" (defScope st_check_ends) a cdv A outer s H E) rfl rfl rfl rfl
  have hp := passes_of (X := cxOf (L2.CX P w) P w K mg base ["ends", "index"] "check_ends" (defScope st_check_ends) a cdv A outer s H E) rfl
  exact (s1 (sif (ynot (ytru (xcall D_is_tuple_of (hr.mono (by decide)) tk (e1 (v1 (xv 0)) (e1 (v1 xint) (e1 (v1 (xk K_MOST_POINTS)) e0)))))) (sl (sraise1 EX.own_BadPins (hr.mono (by decide)) rfl tk xnon)) s0)
  (s1 (sset 1 nd (v1 (xcall D_wrong_index (hr.mono (by decide)) tk (e1 (v1 (xv 0)) (e1 (v1 (xfnD D_is_point)) e0)))))
  (sl (sif (ycmp cIsNot (xv 1) xnon) (sl (sraise1 EX.own_BadPins (hr.mono (by decide)) rfl tk (xv 1))) s0))))

/-! ## is_topology -/
abbrev st_is_topology : Stmt := top 20
theorem sc_is_topology : FnScope ["value", "many", "deep", "found", "part"] ["value", "many", "deep", "found"] (defScope st_is_topology) := ⟨rfl, rfl, rfl, by decide +kernel, rfl, by decide +kernel, by decide +kernel⟩
def b_is_topology (rec : Den) : DSn :=
  (mSeq (mIfS (mAndT (mTru (mCall d_is_between 3 (mConsE (mV (mVar 0)) (mConsE (mV (mC (.int 0))) (mConsE (mV (mOp gSub (mVar 1) (mC (.int 1)))) mNilE))))) (mCmpR 3 gNotIn (mVar 0))) (mSeq (mDrop (mMet 3 gApp (mCons (mVar 0) mNil)))
  (mRet (mC (.bl true)))) mSkip)
  (mSeq (mIfS (mOrT (mCmp gEq (mVar 2) (mC (.int 0))) (mNotT (mTru (mCall d_is_tuple_of 3 (mConsE (mV (mVar 0)) (mConsE (mV (mC (.int 2))) (mConsE (mV (mC (.int 2))) mNilE))))))) (mRet (mC (.bl false))) mSkip)
  (mRet (mBi gAll (mCons (mLc (mIt (mVar 0)) (.nm 4) mYes (mCall rec 4 (mConsE (mV (mVar 4)) (mConsE (mV (mVar 1)) (mConsE (mV (mOp gSub (mVar 2) (mC (.int 1)))) (mConsE (mCel 3) mNilE))))) [4]) mNil)))))
def d_is_topology : Nat → Den
  | 0 => denB 5 mNever
  | n + 1 => denB 5 (b_is_topology (d_is_topology n))
theorem ok_is_topology {P : Program} {w : World} {K : PySem.W.Frag} {mg : Str → Option Value} {base : Heap} {a : Addr} {fd : FuncData} (B : Bi mg) (D_is_between : Dfn P w ⟨K, mg, none⟩ base 4 "is_between" 3 d_is_between) (D_is_tuple_of : Dfn P w ⟨K, mg, none⟩ base 3 "is_tuple_of" 3 d_is_tuple_of)
    (F : Fun K "is_topology" "is_topology" st_is_topology a fd) (hm : mg "is_topology" = some (.ref a)) (hb : Binds K fd ["value", "many", "deep", "found"] []) : ∀ rn, Dfn P w ⟨K, mg, none⟩ base (4 + rn) "is_topology" 4 (d_is_topology rn) := by
  intro rn
  induction rn with
  | zero => exact dfn_of (k := 3) (N := ["value", "many", "deep", "found", "part"]) (G := ⟨K, mg, none⟩) (body := mNever) F sc_is_topology hm hb rfl (by decide) rfl fun cdv A outer s H E hr => ssnever
  | succ rn D_is_topology =>
  refine dfn_of (k := (4 + rn)) (N := ["value", "many", "deep", "found", "part"]) (G := ⟨K, mg, none⟩) F sc_is_topology hm hb rfl (by decide) rfl fun cdv A outer s H E hr => ?_
  have hu := hr.units
  have hu5 := units65 hr
  have nd := sc_is_topology.nd
  have tk := takes_of (X := cxOf (L2.CX P w) P w K mg base ["value", "many", "deep", "found", "part"] "is_topology" (defScope st_is_topology) a cdv A outer s H E) rfl rfl rfl rfl
  have hp := passes_of (X := cxOf (L2.CX P w) P w K mg base ["value", "many", "deep", "found", "part"] "is_topology" (defScope st_is_topology) a cdv A outer s H E) rfl
  exact (s1 (sif (PW.pt (wand (ytru (xcall D_is_between (hr.mono (by omega)) tk (e1 (v1 (xv 0)) (e1 (v1 xint) (e1 (v1 (xop bSub (xv 1) xint)) e0))))) (wand1 (ycmpR 3 (cNotIn hu5) (xv 0))))) (s1 (sexpr (xmet 3 meApp (a1 (xv 0) a0)))
  (sl (sret xbl))) s0)
  (s1 (sif (PW.pt (wor (ycmp (cEq hu) (xv 2) xint) (wor1 (ynot (ytru (xcall D_is_tuple_of (hr.mono (by omega)) tk (e1 (v1 (xv 0)) (e1 (v1 xint) (e1 (v1 xint) e0))))))))) (sl (sret xbl)) s0)
  (sl (sret (xbi (biAll rfl) B.all DL.boot_all (a1 (xlc (own := [("part", 4)]) (t := (.nm 4)) rfl nd (i1 (xv 0)) (by show BlkOk ["value", "many", "deep", "found", "part"] (defScope st_is_topology) _ _; exact blkOk_by (by decide +kernel)) (fun _ _ _ _ _ => (q1 nd)) (fun _ _ _ _ _ => t0) (fun _ _ _ _ _ => (xcall D_is_topology (hr.mono (by omega)) L2.takes0 (e1 (v1 (xv 4)) (e1 (v1 (xv 1)) (e1 (v1 (xop bSub (xv 2) xint)) (e1 (vc 3) e0))))))) a0))))))

/-! ## check_clock -/
abbrev st_check_clock : Stmt := top 19
theorem sc_check_clock : FnScope ["ends", "topology", "found"] ["ends", "topology"] (defScope st_check_clock) := ⟨rfl, rfl, rfl, by decide +kernel, rfl, by decide +kernel, by decide +kernel⟩
def b_check_clock : DSn :=
  (mSeq (mDrop (mCall d_check_ends 1 (mConsE (mV (mVar 0)) mNilE)))
  (mSeq (mSet 2 (mNew mNil))
  (mIfS (mOrT (mNotT (mTru (mCall (d_is_topology 6) 4 (mConsE (mV (mVar 1)) (mConsE (mV (mBi gLen (mCons (mVar 0) mNil))) (mConsE (mV (mOp gSub (mBi gLen (mCons (mVar 0) mNil)) (mC (.int 1)))) (mConsE (mCel 2) mNilE))))))) (mCmp gLt (mBiC 2 gLen) (mBi gLen (mCons (mVar 0) mNil)))) (mRaise0 "BadTopology") mSkip)))
def d_check_clock : Den := denB 3 b_check_clock
theorem ok_check_clock {P : Program} {w : World} {K : PySem.W.Frag} {mg : Str → Option Value} {base : Heap} {a : Addr} {fd : FuncData} (B : Bi mg) (EX : Exs P w K mg base) (D_check_ends : Dfn P w ⟨K, mg, none⟩ base 7 "check_ends" 1 d_check_ends) (D_is_topology : Dfn P w ⟨K, mg, none⟩ base 10 "is_topology" 4 (d_is_topology 6))
    (F : Fun K "check_clock" "check_clock" st_check_clock a fd) (hm : mg "check_clock" = some (.ref a)) (hb : Binds K fd ["ends", "topology"] []) : Dfn P w ⟨K, mg, none⟩ base 11 "check_clock" 2 d_check_clock := by
  refine dfn_of (k := 10) (N := ["ends", "topology", "found"]) (G := ⟨K, mg, none⟩) F sc_check_clock hm hb rfl (by decide) rfl fun cdv A outer s H E hr => ?_
  have hu := hr.units
  have hu5 := units65 hr
  have nd := sc_check_clock.nd
  have tk := takes_of (X := cxOf (L2.CX P w) P w K mg base ["ends", "topology", "found"] "check_clock" (defScope st_check_clock) a cdv A outer s H E) rfl rfl rfl rfl
  have hp := passes_of (X := cxOf (L2.CX P w) P w K mg base ["ends", "topology", "found"] "check_clock" (defScope st_check_clock) a cdv A outer s H E) rfl
  exact (s1 (sexpr (xcall D_check_ends (hr.mono (by decide)) tk (e1 (v1 (xv 0)) e0)))
  (s1 (sset 2 nd (vlst a0))
  (sl (sif (PW.pt (wor (ynot (ytru (xcall D_is_topology (hr.mono (by decide)) tk (e1 (v1 (xv 1)) (e1 (v1 (xbi biLen B.len DL.boot_len (a1 (xv 0) a0))) (e1 (v1 (xop bSub (xbi biLen B.len DL.boot_len (a1 (xv 0) a0)) xint)) (e1 (vc 2) e0))))))) (wor1 (ycmp cLt (xbiC 2 biLen B.len DL.boot_len) (xbi biLen B.len DL.boot_len (a1 (xv 0) a0)))))) (sl (sraise0 EX.pl_BadTopology rfl tk)) s0))))

/-! ## ratio -/
abbrev st_ratio : Stmt := top 16
theorem sc_ratio : FnScope ["numerator", "denominator", "common"] ["numerator", "denominator"] (defScope st_ratio) := ⟨rfl, rfl, rfl, by decide +kernel, rfl, by decide +kernel, by decide +kernel⟩
def b_ratio : DSn :=
  (mSeq (mSet 2 (mV (mBi gGcd (mCons (mVar 0) (mCons (mVar 1) mNil)))))
  (mRet (mTup (mCons (mOp gDiv (mVar 0) (mVar 2)) (mCons (mOp gDiv (mVar 1) (mVar 2)) mNil)))))
def d_ratio : Den := denB 3 b_ratio
theorem ok_ratio {P : Program} {w : World} {K : PySem.W.Frag} {mg : Str → Option Value} {base : Heap} {a : Addr} {fd : FuncData} (B : Bi mg) (I_gcd : mg "gcd" = some (.builtin "math.gcd"))
    (F : Fun K "ratio" "ratio" st_ratio a fd) (hm : mg "ratio" = some (.ref a)) (hb : Binds K fd ["numerator", "denominator"] []) : Dfn P w ⟨K, mg, none⟩ base 3 "ratio" 2 d_ratio := by
  refine dfn_of (k := 2) (N := ["numerator", "denominator", "common"]) (G := ⟨K, mg, none⟩) F sc_ratio hm hb rfl (by decide) rfl fun cdv A outer s H E hr => ?_
  have hu := hr.units
  have hu5 := units65 hr
  have nd := sc_ratio.nd
  have tk := takes_of (X := cxOf (L2.CX P w) P w K mg base ["numerator", "denominator", "common"] "ratio" (defScope st_ratio) a cdv A outer s H E) rfl rfl rfl rfl
  have hp := passes_of (X := cxOf (L2.CX P w) P w K mg base ["numerator", "denominator", "common"] "ratio" (defScope st_ratio) a cdv A outer s H E) rfl
  exact (s1 (sset 2 nd (v1 (xbg biGcd I_gcd (a1 (xv 0) (a1 (xv 1) a0)))))
  (sl (sret (xtup (a1 (xop bDiv (xv 0) (xv 2)) (a1 (xop bDiv (xv 1) (xv 2)) a0))))))

/-! ## ends_below -/
abbrev st_ends_below : Stmt := top 21
theorem sc_ends_below : FnScope ["topology"] ["topology"] (defScope st_ends_below) := ⟨rfl, rfl, rfl, by decide +kernel, rfl, by decide +kernel, by decide +kernel⟩
def b_ends_below (rec : Den) : DSn :=
  (mSeq (mIfS (mTru (mIsT "int" (mVar 0))) (mRet (mLst (mCons (mVar 0) mNil))) mSkip)
  (mRet (mOp gAdd (mCall rec 1 (mConsE (mV (mOp gIx (mVar 0) (mC (.int 0)))) mNilE)) (mCall rec 1 (mConsE (mV (mOp gIx (mVar 0) (mC (.int 1)))) mNilE)))))
def d_ends_below : Nat → Den
  | 0 => denB 1 mNever
  | n + 1 => denB 1 (b_ends_below (d_ends_below n))
theorem ok_ends_below {P : Program} {w : World} {K : PySem.W.Frag} {mg : Str → Option Value} {base : Heap} {a : Addr} {fd : FuncData} (B : Bi mg)
    (F : Fun K "ends_below" "ends_below" st_ends_below a fd) (hm : mg "ends_below" = some (.ref a)) (hb : Binds K fd ["topology"] []) : ∀ rn, Dfn P w ⟨K, mg, none⟩ base (2 + rn) "ends_below" 1 (d_ends_below rn) := by
  intro rn
  induction rn with
  | zero => exact dfn_of (k := 1) (N := ["topology"]) (G := ⟨K, mg, none⟩) (body := mNever) F sc_ends_below hm hb rfl (by decide) rfl fun cdv A outer s H E hr => ssnever
  | succ rn D_ends_below =>
  refine dfn_of (k := (2 + rn)) (N := ["topology"]) (G := ⟨K, mg, none⟩) F sc_ends_below hm hb rfl (by decide) rfl fun cdv A outer s H E hr => ?_
  have hu := hr.units
  have hu5 := units65 hr
  have nd := sc_ends_below.nd
  have tk := takes_of (X := cxOf (L2.CX P w) P w K mg base ["topology"] "ends_below" (defScope st_ends_below) a cdv A outer s H E) rfl rfl rfl rfl
  have hp := passes_of (X := cxOf (L2.CX P w) P w K mg base ["topology"] "ends_below" (defScope st_ends_below) a cdv A outer s H E) rfl
  exact (s1 (sif (ytru (xisT B.isinstance B.int DL.boot_int (xv 0))) (sl (sret (xlst (a1 (xv 0) a0)))) s0)
  (sl (sret (xop bAdd (xcall D_ends_below (hr.mono (by omega)) tk (e1 (v1 (xix (xv 0) xint)) e0)) (xcall D_ends_below (hr.mono (by omega)) tk (e1 (v1 (xix (xv 0) xint)) e0))))))

/-! ## distance -/
abbrev st_distance : Stmt := top 14
theorem sc_distance : FnScope ["one", "other"] ["one", "other"] (defScope st_distance) := ⟨rfl, rfl, rfl, by decide +kernel, rfl, by decide +kernel, by decide +kernel⟩
def b_distance : DSn :=
  (mRet (mOp gAdd (mBi gAbs (mCons (mOp gSub (mOp gIx (mVar 0) (mC (.int 0))) (mOp gIx (mVar 1) (mC (.int 0)))) mNil)) (mBi gAbs (mCons (mOp gSub (mOp gIx (mVar 0) (mC (.int 1))) (mOp gIx (mVar 1) (mC (.int 1)))) mNil))))
def d_distance : Den := denB 2 b_distance
theorem ok_distance {P : Program} {w : World} {K : PySem.W.Frag} {mg : Str → Option Value} {base : Heap} {a : Addr} {fd : FuncData} (B : Bi mg)
    (F : Fun K "distance" "distance" st_distance a fd) (hm : mg "distance" = some (.ref a)) (hb : Binds K fd ["one", "other"] []) : Dfn P w ⟨K, mg, none⟩ base 3 "distance" 2 d_distance := by
  refine dfn_of (k := 2) (N := ["one", "other"]) (G := ⟨K, mg, none⟩) F sc_distance hm hb rfl (by decide) rfl fun cdv A outer s H E hr => ?_
  have hu := hr.units
  have hu5 := units65 hr
  have nd := sc_distance.nd
  have tk := takes_of (X := cxOf (L2.CX P w) P w K mg base ["one", "other"] "distance" (defScope st_distance) a cdv A outer s H E) rfl rfl rfl rfl
  have hp := passes_of (X := cxOf (L2.CX P w) P w K mg base ["one", "other"] "distance" (defScope st_distance) a cdv A outer s H E) rfl
  exact (sl (sret (xop bAdd (xbi biAbs B.abs DL.boot_abs (a1 (xop bSub (xix (xv 0) xint) (xix (xv 1) xint)) a0)) (xbi biAbs B.abs DL.boot_abs (a1 (xop bSub (xix (xv 0) xint) (xix (xv 1) xint)) a0)))))

/-! ## twice_reach -/
abbrev st_twice_reach : Stmt := top 22
theorem sc_twice_reach : FnScope ["ends", "topology", "below", "index", "one", "other"] ["ends", "topology"] (defScope st_twice_reach) := ⟨rfl, rfl, rfl, by decide +kernel, rfl, by decide +kernel, by decide +kernel⟩
def b_twice_reach : DSn :=
  (mSeq (mSet 2 (mV (mLc (mIt (mCall (d_ends_below 6) 1 (mConsE (mV (mVar 1)) mNilE))) (.nm 3) mYes (mOp gIx (mVar 0) (mVar 3)) [3])))
  (mRet (mBi gMax (mCons (mLc2 (mIt (mVar 2)) (.nm 4) mYes (mIt (mVar 2)) [5] (.nm 5) mYes (mCall d_distance 2 (mConsE (mV (mVar 4)) (mConsE (mV (mVar 5)) mNilE))) [4, 5]) mNil))))
def d_twice_reach : Den := denB 6 b_twice_reach
theorem ok_twice_reach {P : Program} {w : World} {K : PySem.W.Frag} {mg : Str → Option Value} {base : Heap} {a : Addr} {fd : FuncData} (B : Bi mg) (D_ends_below : Dfn P w ⟨K, mg, none⟩ base 8 "ends_below" 1 (d_ends_below 6)) (D_distance : Dfn P w ⟨K, mg, none⟩ base 3 "distance" 2 d_distance)
    (F : Fun K "twice_reach" "twice_reach" st_twice_reach a fd) (hm : mg "twice_reach" = some (.ref a)) (hb : Binds K fd ["ends", "topology"] []) : Dfn P w ⟨K, mg, none⟩ base 9 "twice_reach" 2 d_twice_reach := by
  refine dfn_of (k := 8) (N := ["ends", "topology", "below", "index", "one", "other"]) (G := ⟨K, mg, none⟩) F sc_twice_reach hm hb rfl (by decide) rfl fun cdv A outer s H E hr => ?_
  have hu := hr.units
  have hu5 := units65 hr
  have nd := sc_twice_reach.nd
  have tk := takes_of (X := cxOf (L2.CX P w) P w K mg base ["ends", "topology", "below", "index", "one", "other"] "twice_reach" (defScope st_twice_reach) a cdv A outer s H E) rfl rfl rfl rfl
  have hp := passes_of (X := cxOf (L2.CX P w) P w K mg base ["ends", "topology", "below", "index", "one", "other"] "twice_reach" (defScope st_twice_reach) a cdv A outer s H E) rfl
  exact (s1 (sset 2 nd (v1 (xlc (own := [("index", 3)]) (t := (.nm 3)) rfl nd (i1 (xcall D_ends_below (hr.mono (by decide)) tk (e1 (v1 (xv 1)) e0))) (by show BlkOk ["ends", "topology", "below", "index", "one", "other"] (defScope st_twice_reach) _ _; exact blkOk_by (by decide +kernel)) (fun _ _ _ _ _ => (q1 nd)) (fun _ _ _ _ _ => t0) (fun _ _ _ _ _ => (xix (xv 0) (xv 3))))))
  (sl (sret (xbi (biMax rfl) B.max DL.boot_max (a1 (xlc2 (own := [("one", 4), ("other", 5)]) (vs1 := [5]) (t := (.nm 4)) (t1 := (.nm 5)) rfl nd (i1 (xv 2)) (by show BlkOk ["ends", "topology", "below", "index", "one", "other"] (defScope st_twice_reach) _ _; exact blkOk_by (by decide +kernel)) (fun _ _ _ _ _ => (q1 nd)) (fun _ _ _ _ _ => t0) (fun _ _ _ _ _ => (i1 (xv 2))) (fun _ _ _ _ _ => (q1 nd)) (fun _ _ _ _ _ => t0) (fun _ _ _ _ _ => (xcall D_distance (hr.mono (by decide)) L2.takes0 (e1 (v1 (xv 4)) (e1 (v1 (xv 5)) e0))))) a0)))))

/-! ## twice_sum -/
abbrev st_twice_sum : Stmt := top 23
theorem sc_twice_sum : FnScope ["ends", "topology"] ["ends", "topology"] (defScope st_twice_sum) := ⟨rfl, rfl, rfl, by decide +kernel, rfl, by decide +kernel, by decide +kernel⟩
def b_twice_sum (rec : Den) : DSn :=
  (mSeq (mIfS (mTru (mIsT "int" (mVar 1))) (mRet (mC (.int 0))) mSkip)
  (mRet (mOp gAdd (mOp gAdd (mCall d_twice_reach 2 (mConsE (mV (mVar 0)) (mConsE (mV (mVar 1)) mNilE))) (mCall rec 2 (mConsE (mV (mVar 0)) (mConsE (mV (mOp gIx (mVar 1) (mC (.int 0)))) mNilE)))) (mCall rec 2 (mConsE (mV (mVar 0)) (mConsE (mV (mOp gIx (mVar 1) (mC (.int 1)))) mNilE))))))
def d_twice_sum : Nat → Den
  | 0 => denB 2 mNever
  | n + 1 => denB 2 (b_twice_sum (d_twice_sum n))
theorem ok_twice_sum {P : Program} {w : World} {K : PySem.W.Frag} {mg : Str → Option Value} {base : Heap} {a : Addr} {fd : FuncData} (B : Bi mg) (D_twice_reach : Dfn P w ⟨K, mg, none⟩ base 9 "twice_reach" 2 d_twice_reach)
    (F : Fun K "twice_sum" "twice_sum" st_twice_sum a fd) (hm : mg "twice_sum" = some (.ref a)) (hb : Binds K fd ["ends", "topology"] []) : ∀ rn, Dfn P w ⟨K, mg, none⟩ base (9 + rn) "twice_sum" 2 (d_twice_sum rn) := by
  intro rn
  induction rn with
  | zero => exact dfn_of (k := 8) (N := ["ends", "topology"]) (G := ⟨K, mg, none⟩) (body := mNever) F sc_twice_sum hm hb rfl (by decide) rfl fun cdv A outer s H E hr => ssnever
  | succ rn D_twice_sum =>
  refine dfn_of (k := (9 + rn)) (N := ["ends", "topology"]) (G := ⟨K, mg, none⟩) F sc_twice_sum hm hb rfl (by decide) rfl fun cdv A outer s H E hr => ?_
  have hu := hr.units
  have hu5 := units65 hr
  have nd := sc_twice_sum.nd
  have tk := takes_of (X := cxOf (L2.CX P w) P w K mg base ["ends", "topology"] "twice_sum" (defScope st_twice_sum) a cdv A outer s H E) rfl rfl rfl rfl
  have hp := passes_of (X := cxOf (L2.CX P w) P w K mg base ["ends", "topology"] "twice_sum" (defScope st_twice_sum) a cdv A outer s H E) rfl
  exact (s1 (sif (ytru (xisT B.isinstance B.int DL.boot_int (xv 1))) (sl (sret xint)) s0)
  (sl (sret (xop bAdd (xop bAdd (xcall D_twice_reach (hr.mono (by omega)) tk (e1 (v1 (xv 0)) (e1 (v1 (xv 1)) e0))) (xcall D_twice_sum (hr.mono (by omega)) tk (e1 (v1 (xv 0)) (e1 (v1 (xix (xv 1) xint)) e0)))) (xcall D_twice_sum (hr.mono (by omega)) tk (e1 (v1 (xv 0)) (e1 (v1 (xix (xv 1) xint)) e0)))))))

/-! ## twice_wire -/
abbrev st_twice_wire : Stmt := top 24
theorem sc_twice_wire : FnScope ["ends", "topology"] ["ends", "topology"] (defScope st_twice_wire) := ⟨rfl, rfl, rfl, by decide +kernel, rfl, by decide +kernel, by decide +kernel⟩
def b_twice_wire : DSn :=
  (mRet (mOp gAdd (mCall d_twice_reach 2 (mConsE (mV (mVar 0)) (mConsE (mV (mVar 1)) mNilE))) (mCall (d_twice_sum 6) 2 (mConsE (mV (mVar 0)) (mConsE (mV (mVar 1)) mNilE)))))
def d_twice_wire : Den := denB 2 b_twice_wire
theorem ok_twice_wire {P : Program} {w : World} {K : PySem.W.Frag} {mg : Str → Option Value} {base : Heap} {a : Addr} {fd : FuncData} (B : Bi mg) (D_twice_reach : Dfn P w ⟨K, mg, none⟩ base 9 "twice_reach" 2 d_twice_reach) (D_twice_sum : Dfn P w ⟨K, mg, none⟩ base 15 "twice_sum" 2 (d_twice_sum 6))
    (F : Fun K "twice_wire" "twice_wire" st_twice_wire a fd) (hm : mg "twice_wire" = some (.ref a)) (hb : Binds K fd ["ends", "topology"] []) : Dfn P w ⟨K, mg, none⟩ base 16 "twice_wire" 2 d_twice_wire := by
  refine dfn_of (k := 15) (N := ["ends", "topology"]) (G := ⟨K, mg, none⟩) F sc_twice_wire hm hb rfl (by decide) rfl fun cdv A outer s H E hr => ?_
  have hu := hr.units
  have hu5 := units65 hr
  have nd := sc_twice_wire.nd
  have tk := takes_of (X := cxOf (L2.CX P w) P w K mg base ["ends", "topology"] "twice_wire" (defScope st_twice_wire) a cdv A outer s H E) rfl rfl rfl rfl
  have hp := passes_of (X := cxOf (L2.CX P w) P w K mg base ["ends", "topology"] "twice_wire" (defScope st_twice_wire) a cdv A outer s H E) rfl
  exact (sl (sret (xop bAdd (xcall D_twice_reach (hr.mono (by decide)) tk (e1 (v1 (xv 0)) (e1 (v1 (xv 1)) e0))) (xcall D_twice_sum (hr.mono (by decide)) tk (e1 (v1 (xv 0)) (e1 (v1 (xv 1)) e0))))))

/-! ## least_wire -/
abbrev st_least_wire : Stmt := top 25
theorem sc_least_wire : FnScope ["ends", "topology"] ["ends", "topology"] (defScope st_least_wire) := ⟨rfl, rfl, rfl, by decide +kernel, rfl, by decide +kernel, by decide +kernel⟩
def b_least_wire : DSn :=
  (mSeq (mDrop (mCall d_check_clock 2 (mConsE (mV (mVar 0)) (mConsE (mV (mVar 1)) mNilE))))
  (mRet (mTup (mCons (mCall d_ratio 2 (mConsE (mV (mCall d_twice_wire 2 (mConsE (mV (mVar 0)) (mConsE (mV (mVar 1)) mNilE)))) (mConsE (mV (mC (.int 2))) mNilE))) (mCons (mCall d_ratio 2 (mConsE (mV (mCall d_twice_reach 2 (mConsE (mV (mVar 0)) (mConsE (mV (mVar 1)) mNilE)))) (mConsE (mV (mC (.int 2))) mNilE))) mNil)))))
def d_least_wire : Den := denB 2 b_least_wire
theorem ok_least_wire {P : Program} {w : World} {K : PySem.W.Frag} {mg : Str → Option Value} {base : Heap} {a : Addr} {fd : FuncData} (B : Bi mg) (D_check_clock : Dfn P w ⟨K, mg, none⟩ base 11 "check_clock" 2 d_check_clock) (D_ratio : Dfn P w ⟨K, mg, none⟩ base 3 "ratio" 2 d_ratio) (D_twice_reach : Dfn P w ⟨K, mg, none⟩ base 9 "twice_reach" 2 d_twice_reach) (D_twice_wire : Dfn P w ⟨K, mg, none⟩ base 16 "twice_wire" 2 d_twice_wire)
    (F : Fun K "least_wire" "least_wire" st_least_wire a fd) (hm : mg "least_wire" = some (.ref a)) (hb : Binds K fd ["ends", "topology"] []) : Dfn P w ⟨K, mg, none⟩ base 17 "least_wire" 2 d_least_wire := by
  refine dfn_of (k := 16) (N := ["ends", "topology"]) (G := ⟨K, mg, none⟩) F sc_least_wire hm hb rfl (by decide) rfl fun cdv A outer s H E hr => ?_
  have hu := hr.units
  have hu5 := units65 hr
  have nd := sc_least_wire.nd
  have tk := takes_of (X := cxOf (L2.CX P w) P w K mg base ["ends", "topology"] "least_wire" (defScope st_least_wire) a cdv A outer s H E) rfl rfl rfl rfl
  have hp := passes_of (X := cxOf (L2.CX P w) P w K mg base ["ends", "topology"] "least_wire" (defScope st_least_wire) a cdv A outer s H E) rfl
  exact (s1 (sexpr (xcall D_check_clock (hr.mono (by decide)) tk (e1 (v1 (xv 0)) (e1 (v1 (xv 1)) e0))))
  (sl (sret (xtup (a1 (xcall D_ratio (hr.mono (by decide)) tk (e1 (v1 (xcall D_twice_wire (hr.mono (by decide)) tk (e1 (v1 (xv 0)) (e1 (v1 (xv 1)) e0)))) (e1 (v1 xint) e0))) (a1 (xcall D_ratio (hr.mono (by decide)) tk (e1 (v1 (xcall D_twice_reach (hr.mono (by decide)) tk (e1 (v1 (xv 0)) (e1 (v1 (xv 1)) e0)))) (e1 (v1 xint) e0))) a0))))))

/-! ## turned -/
abbrev st_turned : Stmt := top 26
theorem sc_turned : FnScope ["point", "across", "up"] ["point"] (defScope st_turned) := ⟨rfl, rfl, rfl, by decide +kernel, rfl, by decide +kernel, by decide +kernel⟩
def b_turned : DSn :=
  (mSeq (mAsg (mVar 0) (gTp (DL.gCons (gNm 1) (DL.gCons (gNm 2) DL.gNil)) 2))
  (mRet (mTup (mCons (mOp gMul (mC (.int 2)) (mOp gAdd (mVar 1) (mVar 2))) (mCons (mOp gMul (mC (.int 2)) (mOp gSub (mVar 1) (mVar 2))) mNil)))))
def d_turned : Den := denB 3 b_turned
theorem ok_turned {P : Program} {w : World} {K : PySem.W.Frag} {mg : Str → Option Value} {base : Heap} {a : Addr} {fd : FuncData} (B : Bi mg)
    (F : Fun K "turned" "turned" st_turned a fd) (hm : mg "turned" = some (.ref a)) (hb : Binds K fd ["point"] []) : Dfn P w ⟨K, mg, none⟩ base 3 "turned" 1 d_turned := by
  refine dfn_of (k := 2) (N := ["point", "across", "up"]) (G := ⟨K, mg, none⟩) F sc_turned hm hb rfl (by decide) rfl fun cdv A outer s H E hr => ?_
  have hu := hr.units
  have hu5 := units65 hr
  have nd := sc_turned.nd
  have tk := takes_of (X := cxOf (L2.CX P w) P w K mg base ["point", "across", "up"] "turned" (defScope st_turned) a cdv A outer s H E) rfl rfl rfl rfl
  have hp := passes_of (X := cxOf (L2.CX P w) P w K mg base ["point", "across", "up"] "turned" (defScope st_turned) a cdv A outer s H E) rfl
  exact (s1 (sasg (xv 0) (gtup rfl (gs1 (gname 1 nd) (gs1 (gname 2 nd) gs0))))
  (sl (sret (xtup (a1 (xop bMul xint (xop bAdd (xv 1) (xv 2))) (a1 (xop bMul xint (xop bSub (xv 1) (xv 2))) a0))))))

/-! ## spot_near -/
abbrev st_spot_near : Stmt := top 29
theorem sc_spot_near : FnScope ["hubs", "ends", "topology", "own", "index", "spot", "far"] ["hubs", "ends", "topology"] (defScope st_spot_near) := ⟨rfl, rfl, rfl, by decide +kernel, rfl, by decide +kernel, by decide +kernel⟩
def b_spot_near : DSn :=
  (mSeq (mSet 3 (mV (mCall d_twice_reach 2 (mConsE (mV (mVar 1)) (mConsE (mV (mVar 2)) mNilE)))))
  (mSeq (mSet 0 (mV (mOp gAdd (mVar 0) (mLc (mIt (mCall (d_ends_below 6) 1 (mConsE (mV (mVar 2)) mNilE))) (.nm 4) mYes (mTup (mCons (mCall d_turned 1 (mConsE (mV (mOp gIx (mVar 1) (mVar 4))) mNilE)) (mCons (mVar 3) mNil))) [4]))))
  (mRet (mTup (mCons (mBi gMax (mCons (mLc (mIt (mVar 0)) (.tp [(.nm 5), (.nm 6)]) mYes (mOp gSub (mOp gIx (mVar 5) (mC (.int 0))) (mVar 6)) [5, 6]) mNil)) (mCons (mBi gMax (mCons (mLc (mIt (mVar 0)) (.tp [(.nm 5), (.nm 6)]) mYes (mOp gSub (mOp gIx (mVar 5) (mC (.int 1))) (mVar 6)) [5, 6]) mNil)) mNil))))))
def d_spot_near : Den := denB 7 b_spot_near
theorem ok_spot_near {P : Program} {w : World} {K : PySem.W.Frag} {mg : Str → Option Value} {base : Heap} {a : Addr} {fd : FuncData} (B : Bi mg) (D_twice_reach : Dfn P w ⟨K, mg, none⟩ base 9 "twice_reach" 2 d_twice_reach) (D_ends_below : Dfn P w ⟨K, mg, none⟩ base 8 "ends_below" 1 (d_ends_below 6)) (D_turned : Dfn P w ⟨K, mg, none⟩ base 3 "turned" 1 d_turned)
    (F : Fun K "spot_near" "spot_near" st_spot_near a fd) (hm : mg "spot_near" = some (.ref a)) (hb : Binds K fd ["hubs", "ends", "topology"] []) : Dfn P w ⟨K, mg, none⟩ base 10 "spot_near" 3 d_spot_near := by
  refine dfn_of (k := 9) (N := ["hubs", "ends", "topology", "own", "index", "spot", "far"]) (G := ⟨K, mg, none⟩) F sc_spot_near hm hb rfl (by decide) rfl fun cdv A outer s H E hr => ?_
  have hu := hr.units
  have hu5 := units65 hr
  have nd := sc_spot_near.nd
  have tk := takes_of (X := cxOf (L2.CX P w) P w K mg base ["hubs", "ends", "topology", "own", "index", "spot", "far"] "spot_near" (defScope st_spot_near) a cdv A outer s H E) rfl rfl rfl rfl
  have hp := passes_of (X := cxOf (L2.CX P w) P w K mg base ["hubs", "ends", "topology", "own", "index", "spot", "far"] "spot_near" (defScope st_spot_near) a cdv A outer s H E) rfl
  exact (s1 (sset 3 nd (v1 (xcall D_twice_reach (hr.mono (by decide)) tk (e1 (v1 (xv 1)) (e1 (v1 (xv 2)) e0)))))
  (s1 (sset 0 nd (v1 (xop bAdd (xv 0) (xlc (own := [("index", 4)]) (t := (.nm 4)) rfl nd (i1 (xcall D_ends_below (hr.mono (by decide)) tk (e1 (v1 (xv 2)) e0))) (by show BlkOk ["hubs", "ends", "topology", "own", "index", "spot", "far"] (defScope st_spot_near) _ _; exact blkOk_by (by decide +kernel)) (fun _ _ _ _ _ => (q1 nd)) (fun _ _ _ _ _ => t0) (fun _ _ _ _ _ => (xtup (a1 (xcall D_turned (hr.mono (by decide)) L2.takes0 (e1 (v1 (xix (xv 1) (xv 4))) e0)) (a1 (xv 3) a0))))))))
  (sl (sret (xtup (a1 (xbi (biMax rfl) B.max DL.boot_max (a1 (xlc (own := [("spot", 5), ("far", 6)]) (t := (.tp [(.nm 5), (.nm 6)])) rfl nd (i1 (xv 0)) (by show BlkOk ["hubs", "ends", "topology", "own", "index", "spot", "far"] (defScope st_spot_near) _ _; exact blkOk_by (by decide +kernel)) (fun _ _ _ _ _ => (qt rfl (qs1 (q1 nd) (qs1 (q1 nd) qs0)))) (fun _ _ _ _ _ => t0) (fun _ _ _ _ _ => (xop bSub (xix (xv 5) xint) (xv 6)))) a0)) (a1 (xbi (biMax rfl) B.max DL.boot_max (a1 (xlc (own := [("spot", 5), ("far", 6)]) (t := (.tp [(.nm 5), (.nm 6)])) rfl nd (i1 (xv 0)) (by show BlkOk ["hubs", "ends", "topology", "own", "index", "spot", "far"] (defScope st_spot_near) _ _; exact blkOk_by (by decide +kernel)) (fun _ _ _ _ _ => (qt rfl (qs1 (q1 nd) (qs1 (q1 nd) qs0)))) (fun _ _ _ _ _ => t0) (fun _ _ _ _ _ => (xop bSub (xix (xv 5) xint) (xv 6)))) a0)) a0)))))))

/-! ## nodes_of -/
abbrev st_nodes_of : Stmt := top 28
theorem sc_nodes_of : FnScope ["ends", "topology", "spot", "twice_length", "nodes", "part", "across", "up", "longer"] ["ends", "topology", "spot", "twice_length"] (defScope st_nodes_of) := ⟨rfl, rfl, rfl, by decide +kernel, rfl, by decide +kernel, by decide +kernel⟩
def b_nodes_of (rec : Den) : DSn :=
  (mSeq (mPar2 6 7 (mConsE (mV (mCall d_ratio 2 (mConsE (mV (mOp gAdd (mOp gIx (mVar 2) (mC (.int 0))) (mOp gIx (mVar 2) (mC (.int 1))))) (mConsE (mV (mC (.int 4))) mNilE)))) (mConsE (mV (mCall d_ratio 2 (mConsE (mV (mOp gSub (mOp gIx (mVar 2) (mC (.int 0))) (mOp gIx (mVar 2) (mC (.int 1))))) (mConsE (mV (mC (.int 4))) mNilE)))) mNilE)))
  (mSeq (mSet 4 (mV (mLst (mCons (mTup (mCons (mVar 1) (mCons (mVar 6) (mCons (mVar 7) (mCons (mCall d_ratio 2 (mConsE (mV (mVar 3)) (mConsE (mV (mC (.int 2))) mNilE))) mNil))))) mNil))))
  (mSeq (mIfS (mTru (mIsT "int" (mVar 1))) (mRet (mVar 4)) mSkip)
  (mSeq (mFor (mIt (mVar 1)) (.nm 5) (mSeq (mSet 8 (mV (mOp gSub (mCall d_twice_reach 2 (mConsE (mV (mVar 0)) (mConsE (mV (mVar 1)) mNilE))) (mCall d_twice_reach 2 (mConsE (mV (mVar 0)) (mConsE (mV (mVar 5)) mNilE))))))
  (mSet 4 (mV (mOp gAdd (mVar 4) (mCall rec 4 (mConsE (mV (mVar 0)) (mConsE (mV (mVar 5)) (mConsE (mV (mCall d_spot_near 3 (mConsE (mV (mLst (mCons (mTup (mCons (mVar 2) (mCons (mVar 8) mNil))) mNil))) (mConsE (mV (mVar 0)) (mConsE (mV (mVar 5)) mNilE))))) (mConsE (mV (mVar 8)) mNilE))))))))))
  (mRet (mVar 4))))))
def d_nodes_of : Nat → Den
  | 0 => denB 9 mNever
  | n + 1 => denB 9 (b_nodes_of (d_nodes_of n))
theorem ok_nodes_of {P : Program} {w : World} {K : PySem.W.Frag} {mg : Str → Option Value} {base : Heap} {a : Addr} {fd : FuncData} (B : Bi mg) (D_ratio : Dfn P w ⟨K, mg, none⟩ base 3 "ratio" 2 d_ratio) (D_twice_reach : Dfn P w ⟨K, mg, none⟩ base 9 "twice_reach" 2 d_twice_reach) (D_spot_near : Dfn P w ⟨K, mg, none⟩ base 10 "spot_near" 3 d_spot_near)
    (F : Fun K "nodes_of" "nodes_of" st_nodes_of a fd) (hm : mg "nodes_of" = some (.ref a)) (hb : Binds K fd ["ends", "topology", "spot", "twice_length"] []) : ∀ rn, Dfn P w ⟨K, mg, none⟩ base (10 + rn) "nodes_of" 4 (d_nodes_of rn) := by
  intro rn
  induction rn with
  | zero => exact dfn_of (k := 9) (N := ["ends", "topology", "spot", "twice_length", "nodes", "part", "across", "up", "longer"]) (G := ⟨K, mg, none⟩) (body := mNever) F sc_nodes_of hm hb rfl (by decide) rfl fun cdv A outer s H E hr => ssnever
  | succ rn D_nodes_of =>
  refine dfn_of (k := (10 + rn)) (N := ["ends", "topology", "spot", "twice_length", "nodes", "part", "across", "up", "longer"]) (G := ⟨K, mg, none⟩) F sc_nodes_of hm hb rfl (by decide) rfl fun cdv A outer s H E hr => ?_
  have hu := hr.units
  have hu5 := units65 hr
  have nd := sc_nodes_of.nd
  have tk := takes_of (X := cxOf (L2.CX P w) P w K mg base ["ends", "topology", "spot", "twice_length", "nodes", "part", "across", "up", "longer"] "nodes_of" (defScope st_nodes_of) a cdv A outer s H E) rfl rfl rfl rfl
  have hp := passes_of (X := cxOf (L2.CX P w) P w K mg base ["ends", "topology", "spot", "twice_length", "nodes", "part", "across", "up", "longer"] "nodes_of" (defScope st_nodes_of) a cdv A outer s H E) rfl
  exact (s1 (spar2 6 7 rfl nd (e1 (v1 (xcall D_ratio (hr.mono (by omega)) tk (e1 (v1 (xop bAdd (xix (xv 2) xint) (xix (xv 2) xint))) (e1 (v1 xint) e0)))) (e1 (v1 (xcall D_ratio (hr.mono (by omega)) tk (e1 (v1 (xop bSub (xix (xv 2) xint) (xix (xv 2) xint))) (e1 (v1 xint) e0)))) e0)))
  (s1 (sset 4 nd (v1 (xlst (a1 (xtup (a1 (xv 1) (a1 (xv 6) (a1 (xv 7) (a1 (xcall D_ratio (hr.mono (by omega)) tk (e1 (v1 (xv 3)) (e1 (v1 xint) e0))) a0))))) a0))))
  (s1 (sif (ytru (xisT B.isinstance B.int DL.boot_int (xv 1))) (sl (sret (xv 4))) s0)
  (s1 (sfor hp rfl (i1 (xv 1)) (t := (.nm 5)) (q1 nd) (s1 (sset 8 nd (v1 (xop bSub (xcall D_twice_reach (hr.mono (by omega)) tk (e1 (v1 (xv 0)) (e1 (v1 (xv 1)) e0))) (xcall D_twice_reach (hr.mono (by omega)) tk (e1 (v1 (xv 0)) (e1 (v1 (xv 5)) e0))))))
  (sl (sset 4 nd (v1 (xop bAdd (xv 4) (xcall D_nodes_of (hr.mono (by omega)) tk (e1 (v1 (xv 0)) (e1 (v1 (xv 5)) (e1 (v1 (xcall D_spot_near (hr.mono (by omega)) tk (e1 (v1 (xlst (a1 (xtup (a1 (xv 2) (a1 (xv 8) a0))) a0))) (e1 (v1 (xv 0)) (e1 (v1 (xv 5)) e0))))) (e1 (v1 (xv 8)) e0)))))))))))
  (sl (sret (xv 4)))))))

/-! ## placed -/
abbrev st_placed : Stmt := top 27
theorem sc_placed : FnScope ["ends", "topology", "root"] ["ends", "topology"] (defScope st_placed) := ⟨rfl, rfl, rfl, by decide +kernel, rfl, by decide +kernel, by decide +kernel⟩
def b_placed : DSn :=
  (mSeq (mDrop (mCall d_check_clock 2 (mConsE (mV (mVar 0)) (mConsE (mV (mVar 1)) mNilE))))
  (mSeq (mSet 2 (mV (mCall d_spot_near 3 (mConsE (mV (mLst mNil)) (mConsE (mV (mVar 0)) (mConsE (mV (mVar 1)) mNilE))))))
  (mRet (mCall (d_nodes_of 6) 4 (mConsE (mV (mVar 0)) (mConsE (mV (mVar 1)) (mConsE (mV (mVar 2)) (mConsE (mV (mC (.int 0))) mNilE))))))))
def d_placed : Den := denB 3 b_placed
theorem ok_placed {P : Program} {w : World} {K : PySem.W.Frag} {mg : Str → Option Value} {base : Heap} {a : Addr} {fd : FuncData} (B : Bi mg) (D_check_clock : Dfn P w ⟨K, mg, none⟩ base 11 "check_clock" 2 d_check_clock) (D_spot_near : Dfn P w ⟨K, mg, none⟩ base 10 "spot_near" 3 d_spot_near) (D_nodes_of : Dfn P w ⟨K, mg, none⟩ base 16 "nodes_of" 4 (d_nodes_of 6))
    (F : Fun K "placed" "placed" st_placed a fd) (hm : mg "placed" = some (.ref a)) (hb : Binds K fd ["ends", "topology"] []) : Dfn P w ⟨K, mg, none⟩ base 17 "placed" 2 d_placed := by
  refine dfn_of (k := 16) (N := ["ends", "topology", "root"]) (G := ⟨K, mg, none⟩) F sc_placed hm hb rfl (by decide) rfl fun cdv A outer s H E hr => ?_
  have hu := hr.units
  have hu5 := units65 hr
  have nd := sc_placed.nd
  have tk := takes_of (X := cxOf (L2.CX P w) P w K mg base ["ends", "topology", "root"] "placed" (defScope st_placed) a cdv A outer s H E) rfl rfl rfl rfl
  have hp := passes_of (X := cxOf (L2.CX P w) P w K mg base ["ends", "topology", "root"] "placed" (defScope st_placed) a cdv A outer s H E) rfl
  exact (s1 (sexpr (xcall D_check_clock (hr.mono (by decide)) tk (e1 (v1 (xv 0)) (e1 (v1 (xv 1)) e0))))
  (s1 (sset 2 nd (v1 (xcall D_spot_near (hr.mono (by decide)) tk (e1 (v1 (xlst a0)) (e1 (v1 (xv 0)) (e1 (v1 (xv 1)) e0))))))
  (sl (sret (xcall D_nodes_of (hr.mono (by decide)) tk (e1 (v1 (xv 0)) (e1 (v1 (xv 1)) (e1 (v1 (xv 2)) (e1 (v1 xint) e0)))))))))

/-! ## _law_nodes -/
abbrev st__law_nodes : Stmt := top 38
theorem sc__law_nodes : FnScope ["topology"] ["topology"] (defScope st__law_nodes) := ⟨rfl, rfl, rfl, by decide +kernel, rfl, by decide +kernel, by decide +kernel⟩
def b__law_nodes (rec : Den) : DSn :=
  (mSeq (mIfS (mNotT (mTru (mIsT "tuple" (mVar 0)))) (mRet (mLst (mCons (mVar 0) mNil))) mSkip)
  (mRet (mOp gAdd (mOp gAdd (mLst (mCons (mVar 0) mNil)) (mCall rec 1 (mConsE (mV (mOp gIx (mVar 0) (mC (.int 0)))) mNilE))) (mCall rec 1 (mConsE (mV (mOp gIx (mVar 0) (mC (.int 1)))) mNilE)))))
def d__law_nodes : Nat → Den
  | 0 => denB 1 mNever
  | n + 1 => denB 1 (b__law_nodes (d__law_nodes n))
theorem ok__law_nodes {P : Program} {w : World} {K : PySem.W.Frag} {mg : Str → Option Value} {base : Heap} {a : Addr} {fd : FuncData} (B : Bi mg)
    (F : Fun K "_law_nodes" "_law_nodes" st__law_nodes a fd) (hm : mg "_law_nodes" = some (.ref a)) (hb : Binds K fd ["topology"] []) : ∀ rn, Dfn P w ⟨K, mg, none⟩ base (2 + rn) "_law_nodes" 1 (d__law_nodes rn) := by
  intro rn
  induction rn with
  | zero => exact dfn_of (k := 1) (N := ["topology"]) (G := ⟨K, mg, none⟩) (body := mNever) F sc__law_nodes hm hb rfl (by decide) rfl fun cdv A outer s H E hr => ssnever
  | succ rn D__law_nodes =>
  refine dfn_of (k := (2 + rn)) (N := ["topology"]) (G := ⟨K, mg, none⟩) F sc__law_nodes hm hb rfl (by decide) rfl fun cdv A outer s H E hr => ?_
  have hu := hr.units
  have hu5 := units65 hr
  have nd := sc__law_nodes.nd
  have tk := takes_of (X := cxOf (L2.CX P w) P w K mg base ["topology"] "_law_nodes" (defScope st__law_nodes) a cdv A outer s H E) rfl rfl rfl rfl
  have hp := passes_of (X := cxOf (L2.CX P w) P w K mg base ["topology"] "_law_nodes" (defScope st__law_nodes) a cdv A outer s H E) rfl
  exact (s1 (sif (ynot (ytru (xisT B.isinstance B.tuple DL.boot_tuple (xv 0)))) (sl (sret (xlst (a1 (xv 0) a0)))) s0)
  (sl (sret (xop bAdd (xop bAdd (xlst (a1 (xv 0) a0)) (xcall D__law_nodes (hr.mono (by omega)) tk (e1 (v1 (xix (xv 0) xint)) e0))) (xcall D__law_nodes (hr.mono (by omega)) tk (e1 (v1 (xix (xv 0) xint)) e0))))))

/-! ## _law_gcd -/
abbrev st__law_gcd : Stmt := top 33
theorem sc__law_gcd : FnScope ["one", "other"] ["one", "other"] (defScope st__law_gcd) := ⟨rfl, rfl, rfl, by decide +kernel, rfl, by decide +kernel, by decide +kernel⟩
def b__law_gcd : DSn :=
  (mSeq (whileL (mCmp gNe (mVar 1) (mC (.int 0))) (mPar2 0 1 (mConsE (mV (mVar 1)) (mConsE (mV (mOp gMod (mBi gInt (mCons (mVar 0) mNil)) (mVar 1))) mNilE))) 1000)
  (mRet (mVar 0)))
def d__law_gcd : Den := denB 2 b__law_gcd
theorem ok__law_gcd {P : Program} {w : World} {K : PySem.W.Frag} {mg : Str → Option Value} {base : Heap} {a : Addr} {fd : FuncData} (B : Bi mg)
    (F : Fun K "_law_gcd" "_law_gcd" st__law_gcd a fd) (hm : mg "_law_gcd" = some (.ref a)) (hb : Binds K fd ["one", "other"] []) : Dfn P w ⟨K, mg, none⟩ base 3 "_law_gcd" 2 d__law_gcd := by
  refine dfn_of (k := 2) (N := ["one", "other"]) (G := ⟨K, mg, none⟩) F sc__law_gcd hm hb rfl (by decide) rfl fun cdv A outer s H E hr => ?_
  have hu := hr.units
  have hu5 := units65 hr
  have nd := sc__law_gcd.nd
  have tk := takes_of (X := cxOf (L2.CX P w) P w K mg base ["one", "other"] "_law_gcd" (defScope st__law_gcd) a cdv A outer s H E) rfl rfl rfl rfl
  have hp := passes_of (X := cxOf (L2.CX P w) P w K mg base ["one", "other"] "_law_gcd" (defScope st__law_gcd) a cdv A outer s H E) rfl
  exact (s1 (swhile 1000 hp (ycmp (cNe hu) (xv 1) xint) (sl (spar2 0 1 rfl nd (e1 (v1 (xv 1)) (e1 (v1 (xop bMod (xbt biInt B.int DL.boot_int (a1 (xv 0) a0)) (xv 1))) e0)))))
  (sl (sret (xv 0))))

/-! ## _law_plus -/
abbrev st__law_plus : Stmt := top 36
theorem sc__law_plus : FnScope ["one", "other", "size", "top", "bottom"] ["one", "other"] (defScope st__law_plus) := ⟨rfl, rfl, rfl, by decide +kernel, rfl, by decide +kernel, by decide +kernel⟩
def b__law_plus : DSn :=
  (mSeq (mPar2 3 4 (mConsE (mV (mOp gAdd (mOp gMul (mOp gIx (mVar 0) (mC (.int 0))) (mOp gIx (mVar 1) (mC (.int 1)))) (mOp gMul (mOp gIx (mVar 1) (mC (.int 0))) (mOp gIx (mVar 0) (mC (.int 1)))))) (mConsE (mV (mOp gMul (mOp gIx (mVar 0) (mC (.int 1))) (mOp gIx (mVar 1) (mC (.int 1))))) mNilE)))
  (mSeq (mSet 2 (mV (mCall d__law_gcd 2 (mConsE (mV (mVar 3)) (mConsE (mV (mVar 4)) mNilE)))))
  (mRet (mTup (mCons (mOp gDiv (mVar 3) (mVar 2)) (mCons (mOp gDiv (mVar 4) (mVar 2)) mNil))))))
def d__law_plus : Den := denB 5 b__law_plus
theorem ok__law_plus {P : Program} {w : World} {K : PySem.W.Frag} {mg : Str → Option Value} {base : Heap} {a : Addr} {fd : FuncData} (B : Bi mg) (D__law_gcd : Dfn P w ⟨K, mg, none⟩ base 3 "_law_gcd" 2 d__law_gcd)
    (F : Fun K "_law_plus" "_law_plus" st__law_plus a fd) (hm : mg "_law_plus" = some (.ref a)) (hb : Binds K fd ["one", "other"] []) : Dfn P w ⟨K, mg, none⟩ base 4 "_law_plus" 2 d__law_plus := by
  refine dfn_of (k := 3) (N := ["one", "other", "size", "top", "bottom"]) (G := ⟨K, mg, none⟩) F sc__law_plus hm hb rfl (by decide) rfl fun cdv A outer s H E hr => ?_
  have hu := hr.units
  have hu5 := units65 hr
  have nd := sc__law_plus.nd
  have tk := takes_of (X := cxOf (L2.CX P w) P w K mg base ["one", "other", "size", "top", "bottom"] "_law_plus" (defScope st__law_plus) a cdv A outer s H E) rfl rfl rfl rfl
  have hp := passes_of (X := cxOf (L2.CX P w) P w K mg base ["one", "other", "size", "top", "bottom"] "_law_plus" (defScope st__law_plus) a cdv A outer s H E) rfl
  exact (s1 (spar2 3 4 rfl nd (e1 (v1 (xop bAdd (xop bMul (xix (xv 0) xint) (xix (xv 1) xint)) (xop bMul (xix (xv 1) xint) (xix (xv 0) xint)))) (e1 (v1 (xop bMul (xix (xv 0) xint) (xix (xv 1) xint))) e0)))
  (s1 (sset 2 nd (v1 (xcall D__law_gcd (hr.mono (by decide)) tk (e1 (v1 (xv 3)) (e1 (v1 (xv 4)) e0)))))
  (sl (sret (xtup (a1 (xop bDiv (xv 3) (xv 2)) (a1 (xop bDiv (xv 4) (xv 2)) a0)))))))

/-! ## _law_minus -/
abbrev st__law_minus : Stmt := top 37
theorem sc__law_minus : FnScope ["one", "other", "found"] ["one", "other"] (defScope st__law_minus) := ⟨rfl, rfl, rfl, by decide +kernel, rfl, by decide +kernel, by decide +kernel⟩
def b__law_minus : DSn :=
  (mSeq (mSet 2 (mV (mCall d__law_plus 2 (mConsE (mV (mVar 0)) (mConsE (mV (mTup (mCons (mOp gSub (mC (.int 0)) (mOp gIx (mVar 1) (mC (.int 0)))) (mCons (mOp gIx (mVar 1) (mC (.int 1))) mNil)))) mNilE)))))
  (mRet (mTup (mCons (mBi gAbs (mCons (mOp gIx (mVar 2) (mC (.int 0))) mNil)) (mCons (mOp gIx (mVar 2) (mC (.int 1))) mNil)))))
def d__law_minus : Den := denB 3 b__law_minus
theorem ok__law_minus {P : Program} {w : World} {K : PySem.W.Frag} {mg : Str → Option Value} {base : Heap} {a : Addr} {fd : FuncData} (B : Bi mg) (D__law_plus : Dfn P w ⟨K, mg, none⟩ base 4 "_law_plus" 2 d__law_plus)
    (F : Fun K "_law_minus" "_law_minus" st__law_minus a fd) (hm : mg "_law_minus" = some (.ref a)) (hb : Binds K fd ["one", "other"] []) : Dfn P w ⟨K, mg, none⟩ base 5 "_law_minus" 2 d__law_minus := by
  refine dfn_of (k := 4) (N := ["one", "other", "found"]) (G := ⟨K, mg, none⟩) F sc__law_minus hm hb rfl (by decide) rfl fun cdv A outer s H E hr => ?_
  have hu := hr.units
  have hu5 := units65 hr
  have nd := sc__law_minus.nd
  have tk := takes_of (X := cxOf (L2.CX P w) P w K mg base ["one", "other", "found"] "_law_minus" (defScope st__law_minus) a cdv A outer s H E) rfl rfl rfl rfl
  have hp := passes_of (X := cxOf (L2.CX P w) P w K mg base ["one", "other", "found"] "_law_minus" (defScope st__law_minus) a cdv A outer s H E) rfl
  exact (s1 (sset 2 nd (v1 (xcall D__law_plus (hr.mono (by decide)) tk (e1 (v1 (xv 0)) (e1 (v1 (xtup (a1 (xop bSub xint (xix (xv 1) xint)) (a1 (xix (xv 1) xint) a0)))) e0)))))
  (sl (sret (xtup (a1 (xbi biAbs B.abs DL.boot_abs (a1 (xix (xv 2) xint) a0)) (a1 (xix (xv 2) xint) a0))))))

/-! ## _law_less -/
abbrev st__law_less : Stmt := top 35
theorem sc__law_less : FnScope ["one", "other"] ["one", "other"] (defScope st__law_less) := ⟨rfl, rfl, rfl, by decide +kernel, rfl, by decide +kernel, by decide +kernel⟩
def b__law_less : DSn :=
  (mRet (mB (mCmp gLt (mOp gMul (mOp gIx (mVar 0) (mC (.int 0))) (mOp gIx (mVar 1) (mC (.int 1)))) (mOp gMul (mOp gIx (mVar 1) (mC (.int 0))) (mOp gIx (mVar 0) (mC (.int 1)))))))
def d__law_less : Den := denB 2 b__law_less
theorem ok__law_less {P : Program} {w : World} {K : PySem.W.Frag} {mg : Str → Option Value} {base : Heap} {a : Addr} {fd : FuncData} (B : Bi mg)
    (F : Fun K "_law_less" "_law_less" st__law_less a fd) (hm : mg "_law_less" = some (.ref a)) (hb : Binds K fd ["one", "other"] []) : Dfn P w ⟨K, mg, none⟩ base 3 "_law_less" 2 d__law_less := by
  refine dfn_of (k := 2) (N := ["one", "other"]) (G := ⟨K, mg, none⟩) F sc__law_less hm hb rfl (by decide) rfl fun cdv A outer s H E hr => ?_
  have hu := hr.units
  have hu5 := units65 hr
  have nd := sc__law_less.nd
  have tk := takes_of (X := cxOf (L2.CX P w) P w K mg base ["one", "other"] "_law_less" (defScope st__law_less) a cdv A outer s H E) rfl rfl rfl rfl
  have hp := passes_of (X := cxOf (L2.CX P w) P w K mg base ["one", "other"] "_law_less" (defScope st__law_less) a cdv A outer s H E) rfl
  exact (sl (sret (xcmp cLt (xop bMul (xix (xv 0) xint) (xix (xv 1) xint)) (xop bMul (xix (xv 1) xint) (xix (xv 0) xint)))))

/-! ## law -/
abbrev st_law : Stmt := top 39
theorem sc_law : FnScope ["script", "row", "many", "top", "ends", "topology", "at", "wire", "delay", "rows", "total", "node", "across", "up", "length", "parents", "waiting", "gap", "one", "other", "here", "told"] ["script"] (defScope st_law) := ⟨rfl, rfl, rfl, by decide +kernel, rfl, by decide +kernel, by decide +kernel⟩
def b_law : DSn :=
  (mSeq (mSet 1 (mNew (mCons (mVar 0) (mCons (mC (.int 0)) (mCons (mC (.int 3828)) (mCons (mC (.int 0)) mNil))))))
  (mSeq (mSet 2 (mV (mOp gAdd (mC (.int 1)) (mCall d__law_taken 2 (mConsE (mCel 1) (mConsE (mV (mC (.int 6))) mNilE))))))
  (mSeq (mSet 3 (mV (mCall d__law_pick 2 (mConsE (mCel 1) (mConsE (mV (mLst (mCons (mC (.int 3)) (mCons (mC (.int 10)) (mCons (mC (.int 40)) mNil))))) mNilE)))))
  (mSeq (mSet 4 (mV (mBi gTuple (mCons (mLc (mRg1 (mVar 2)) (.nm 6) mYes (mTup (mCons (mCall d__law_taken 2 (mConsE (mCel 1) (mConsE (mV (mOp gAdd (mVar 3) (mC (.int 1)))) mNilE))) (mCons (mCall d__law_taken 2 (mConsE (mCel 1) (mConsE (mV (mOp gAdd (mVar 3) (mC (.int 1)))) mNilE))) mNil))) [6]) mNil))))
  (mSeq (mSet 5 (mV (mCall d__law_topology 2 (mConsE (mCel 1) (mConsE (mV (mListRg (mVar 2))) mNilE)))))
  (mSeq (mAsg (mCall d_least_wire 2 (mConsE (mV (mVar 4)) (mConsE (mV (mVar 5)) mNilE))) (gTp (DL.gCons (gNm 7) (DL.gCons (gNm 8) DL.gNil)) 2))
  (mSeq (mPar2 9 10 (mConsE (mV (mCall d_placed 2 (mConsE (mV (mVar 4)) (mConsE (mV (mVar 5)) mNilE)))) (mConsE (mV (mTup (mCons (mC (.int 0)) (mCons (mC (.int 1)) mNil)))) mNilE)))
  (mSeq (mIfS (mOrT (mCmp gNe (mLc (mIt (mVar 9)) (.nm 21) mYes (mOp gIx (mVar 21) (mC (.int 0))) [21]) (mCall (d__law_nodes 6) 1 (mConsE (mV (mVar 5)) mNilE))) (mCmp gNe (mOp gIx (mOp gIx (mVar 9) (mC (.int 0))) (mC (.int 3))) (mTup (mCons (mC (.int 0)) (mCons (mC (.int 1)) mNil))))) (mRet (mC (.bl false))) mSkip)
  (mSeq (mFor (mIt (mVar 9)) (.tp [(.nm 11), (.nm 12), (.nm 13), (.nm 14)]) (mSeq (mSet 10 (mV (mCall d__law_plus 2 (mConsE (mV (mVar 10)) (mConsE (mV (mVar 14)) mNilE)))))
  (mIfS (mAndT (mNotT (mTru (mIsT "tuple" (mVar 11)))) (mCmp gNe (mTup (mCons (mVar 12) (mCons (mVar 13) mNil))) (mTup (mCons (mTup (mCons (mOp gIx (mOp gIx (mVar 4) (mVar 11)) (mC (.int 0))) (mCons (mC (.int 1)) mNil))) (mCons (mTup (mCons (mOp gIx (mOp gIx (mVar 4) (mVar 11)) (mC (.int 1))) (mCons (mC (.int 1)) mNil))) mNil))))) (mRet (mC (.bl false))) mSkip)))
  (mSeq (mPar2 15 16 (mConsE (mNewRep (mLst (mCons (mC .non) mNil)) (mBi gLen (mCons (mVar 9) mNil))) (mConsE (mNew mNil) mNilE)))
  (mSeq (mFor (mRg1 (mBi gLen (mCons (mVar 9) mNil))) (.nm 6) (mSeq (mIfS (mCmpL 16 gNe (mLst mNil)) (mAsg (mMet 16 gPop mNil) (gIt 15 (mVar 6))) mSkip)
  (mIfS (mTru (mIsT "tuple" (mOp gIx (mOp gIx (mVar 9) (mVar 6)) (mC (.int 0))))) (mSet 16 (mNewCat (mCel 16) (mV (mLst (mCons (mVar 6) (mCons (mVar 6) mNil)))))) mSkip)))
  (mSeq (mFor (mRg2 (mC (.int 1)) (mBi gLen (mCons (mVar 9) mNil))) (.nm 6) (mSeq (mPar2 18 19 (mConsE (mV (mOp gIx (mVar 9) (mVar 6))) (mConsE (mV (mOp gIx (mVar 9) (mIxC 15 (mVar 6)))) mNilE)))
  (mSeq (mSet 17 (mV (mCall d__law_plus 2 (mConsE (mV (mCall d__law_minus 2 (mConsE (mV (mOp gIx (mVar 18) (mC (.int 1)))) (mConsE (mV (mOp gIx (mVar 19) (mC (.int 1)))) mNilE)))) (mConsE (mV (mCall d__law_minus 2 (mConsE (mV (mOp gIx (mVar 18) (mC (.int 2)))) (mConsE (mV (mOp gIx (mVar 19) (mC (.int 2)))) mNilE)))) mNilE)))))
  (mIfS (mTru (mCall d__law_less 2 (mConsE (mV (mOp gIx (mVar 18) (mC (.int 3)))) (mConsE (mV (mVar 17)) mNilE)))) (mRet (mC (.bl false))) mSkip))))
  (mSeq (mFor (mRg1 (mBi gLen (mCons (mVar 9) mNil))) (.nm 6) (mIfS (mNotT (mTru (mIsT "tuple" (mOp gIx (mOp gIx (mVar 9) (mVar 6)) (mC (.int 0)))))) (mSeq (mPar2 20 14 (mConsE (mV (mVar 6)) (mConsE (mV (mTup (mCons (mC (.int 0)) (mCons (mC (.int 1)) mNil)))) mNilE)))
  (mSeq (whileL (mCmp gNotN (mIxC 15 (mVar 20)) (mC .non)) (mPar2 14 20 (mConsE (mV (mCall d__law_plus 2 (mConsE (mV (mVar 14)) (mConsE (mV (mOp gIx (mOp gIx (mVar 9) (mVar 20)) (mC (.int 3)))) mNilE)))) (mConsE (mV (mIxC 15 (mVar 20))) mNilE))) 1000)
  (mIfS (mCmp gNe (mVar 14) (mVar 8)) (mRet (mC (.bl false))) mSkip))) mSkip))
  (mRet (mB (mCmp gEq (mVar 10) (mVar 7)))))))))))))))))
def d_law : Den := denB 22 b_law
theorem ok_law {P : Program} {w : World} {K : PySem.W.Frag} {mg : Str → Option Value} {base : Heap} {a : Addr} {fd : FuncData} (B : Bi mg) (D__law_taken : Dfn P w ⟨K, mg, none⟩ base 3 "_law_taken" 2 d__law_taken) (D__law_pick : Dfn P w ⟨K, mg, none⟩ base 4 "_law_pick" 2 d__law_pick) (D__law_topology : Dfn P w ⟨K, mg, none⟩ base 4 "_law_topology" 2 d__law_topology) (D_least_wire : Dfn P w ⟨K, mg, none⟩ base 17 "least_wire" 2 d_least_wire) (D_placed : Dfn P w ⟨K, mg, none⟩ base 17 "placed" 2 d_placed) (D__law_nodes : Dfn P w ⟨K, mg, none⟩ base 8 "_law_nodes" 1 (d__law_nodes 6)) (D__law_plus : Dfn P w ⟨K, mg, none⟩ base 4 "_law_plus" 2 d__law_plus) (D__law_minus : Dfn P w ⟨K, mg, none⟩ base 5 "_law_minus" 2 d__law_minus) (D__law_less : Dfn P w ⟨K, mg, none⟩ base 3 "_law_less" 2 d__law_less)
    (F : Fun K "law" "law" st_law a fd) (hm : mg "law" = some (.ref a)) (hb : Binds K fd ["script"] []) : FnOk P w K mg base (L2.CX P w) 18 a fd ["script"] (spD ⟨K, mg, none⟩ 1 d_law) := by
  refine fnd_of (k := 17) (N := ["script", "row", "many", "top", "ends", "topology", "at", "wire", "delay", "rows", "total", "node", "across", "up", "length", "parents", "waiting", "gap", "one", "other", "here", "told"]) (G := ⟨K, mg, none⟩) F sc_law rfl (by decide) rfl fun cdv A outer s H E hr => ?_
  have hu := hr.units
  have hu5 := units65 hr
  have nd := sc_law.nd
  have tk := takes_of (X := cxOf (L2.CX P w) P w K mg base ["script", "row", "many", "top", "ends", "topology", "at", "wire", "delay", "rows", "total", "node", "across", "up", "length", "parents", "waiting", "gap", "one", "other", "here", "told"] "law" (defScope st_law) a cdv A outer s H E) rfl rfl rfl rfl
  have hp := passes_of (X := cxOf (L2.CX P w) P w K mg base ["script", "row", "many", "top", "ends", "topology", "at", "wire", "delay", "rows", "total", "node", "across", "up", "length", "parents", "waiting", "gap", "one", "other", "here", "told"] "law" (defScope st_law) a cdv A outer s H E) rfl
  exact (s1 (sset 1 nd (vlst (a1 (xv 0) (a1 xint (a1 xint (a1 xint a0))))))
  (s1 (sset 2 nd (v1 (xop bAdd xint (xcall D__law_taken (hr.mono (by decide)) tk (e1 (vc 1) (e1 (v1 xint) e0))))))
  (s1 (sset 3 nd (v1 (xcall D__law_pick (hr.mono (by decide)) tk (e1 (vc 1) (e1 (v1 (xlst (a1 xint (a1 xint (a1 xint a0))))) e0)))))
  (s1 (sset 4 nd (v1 (xbt biTuple B.tuple DL.boot_tuple (a1 (xlc (own := [("at", 6)]) (t := (.nm 6)) rfl nd (i_range1 B.range (xv 2)) (by show BlkOk ["script", "row", "many", "top", "ends", "topology", "at", "wire", "delay", "rows", "total", "node", "across", "up", "length", "parents", "waiting", "gap", "one", "other", "here", "told"] (defScope st_law) _ _; exact blkOk_by (by decide +kernel)) (fun _ _ _ _ _ => (q1 nd)) (fun _ _ _ _ _ => t0) (fun _ _ _ _ _ => (xtup (a1 (xcall D__law_taken (hr.mono (by decide)) L2.takes0 (e1 (vc 1) (e1 (v1 (xop bAdd (xv 3) xint)) e0))) (a1 (xcall D__law_taken (hr.mono (by decide)) L2.takes0 (e1 (vc 1) (e1 (v1 (xop bAdd (xv 3) xint)) e0))) a0))))) a0))))
  (s1 (sset 5 nd (v1 (xcall D__law_topology (hr.mono (by decide)) tk (e1 (vc 1) (e1 (v1 (xlistRg rfl B.list B.range (xv 2))) e0)))))
  (s1 (sasg (xcall D_least_wire (hr.mono (by decide)) tk (e1 (v1 (xv 4)) (e1 (v1 (xv 5)) e0))) (gtup rfl (gs1 (gname 7 nd) (gs1 (gname 8 nd) gs0))))
  (s1 (spar2 9 10 rfl nd (e1 (v1 (xcall D_placed (hr.mono (by decide)) tk (e1 (v1 (xv 4)) (e1 (v1 (xv 5)) e0)))) (e1 (v1 (xtup (a1 xint (a1 xint a0)))) e0)))
  (s1 (sif (PW.pt (wor (ycmp (cNe hu) (xlc (own := [("told", 21)]) (t := (.nm 21)) rfl nd (i1 (xv 9)) (by show BlkOk ["script", "row", "many", "top", "ends", "topology", "at", "wire", "delay", "rows", "total", "node", "across", "up", "length", "parents", "waiting", "gap", "one", "other", "here", "told"] (defScope st_law) _ _; exact blkOk_by (by decide +kernel)) (fun _ _ _ _ _ => (q1 nd)) (fun _ _ _ _ _ => t0) (fun _ _ _ _ _ => (xix (xv 21) xint))) (xcall D__law_nodes (hr.mono (by decide)) tk (e1 (v1 (xv 5)) e0))) (wor1 (ycmp (cNe hu) (xix (xix (xv 9) xint) xint) (xtup (a1 xint (a1 xint a0))))))) (sl (sret xbl)) s0)
  (s1 (sfor hp rfl (i1 (xv 9)) (t := (.tp [(.nm 11), (.nm 12), (.nm 13), (.nm 14)])) (qt rfl (qs1 (q1 nd) (qs1 (q1 nd) (qs1 (q1 nd) (qs1 (q1 nd) qs0))))) (s1 (sset 10 nd (v1 (xcall D__law_plus (hr.mono (by decide)) tk (e1 (v1 (xv 10)) (e1 (v1 (xv 14)) e0)))))
  (sl (sif (PW.pt (wand (ynot (ytru (xisT B.isinstance B.tuple DL.boot_tuple (xv 11)))) (wand1 (ycmp (cNe hu) (xtup (a1 (xv 12) (a1 (xv 13) a0))) (xtup (a1 (xtup (a1 (xix (xix (xv 4) (xv 11)) xint) (a1 xint a0))) (a1 (xtup (a1 (xix (xix (xv 4) (xv 11)) xint) (a1 xint a0))) a0))))))) (sl (sret xbl)) s0))))
  (s1 (spar2 15 16 rfl nd (e1 (vrep (xlst (a1 xnon a0)) (xbi biLen B.len DL.boot_len (a1 (xv 9) a0))) (e1 (vlst a0) e0)))
  (s1 (sfor hp rfl (i_range1 B.range (xbi biLen B.len DL.boot_len (a1 (xv 9) a0))) (t := (.nm 6)) (q1 nd) (s1 (sif (ycmpL 16 (cNe hu) (xlst a0)) (sl (sasg (xmet0 16 mePop) (gitem 15 (xv 6)))) s0)
  (sl (sif (ytru (xisT B.isinstance B.tuple DL.boot_tuple (xix (xix (xv 9) (xv 6)) xint))) (sl (sset 16 nd (vcat (vc 16) (v1 (xlst (a1 (xv 6) (a1 (xv 6) a0))))))) s0))))
  (s1 (sfor hp rfl (i_range2 B.range xint (xbi biLen B.len DL.boot_len (a1 (xv 9) a0))) (t := (.nm 6)) (q1 nd) (s1 (spar2 18 19 rfl nd (e1 (v1 (xix (xv 9) (xv 6))) (e1 (v1 (xix (xv 9) (xixC 15 (xv 6)))) e0)))
  (s1 (sset 17 nd (v1 (xcall D__law_plus (hr.mono (by decide)) tk (e1 (v1 (xcall D__law_minus (hr.mono (by decide)) tk (e1 (v1 (xix (xv 18) xint)) (e1 (v1 (xix (xv 19) xint)) e0)))) (e1 (v1 (xcall D__law_minus (hr.mono (by decide)) tk (e1 (v1 (xix (xv 18) xint)) (e1 (v1 (xix (xv 19) xint)) e0)))) e0)))))
  (sl (sif (ytru (xcall D__law_less (hr.mono (by decide)) tk (e1 (v1 (xix (xv 18) xint)) (e1 (v1 (xv 17)) e0)))) (sl (sret xbl)) s0)))))
  (s1 (sfor hp rfl (i_range1 B.range (xbi biLen B.len DL.boot_len (a1 (xv 9) a0))) (t := (.nm 6)) (q1 nd) (sl (sif (ynot (ytru (xisT B.isinstance B.tuple DL.boot_tuple (xix (xix (xv 9) (xv 6)) xint)))) (s1 (spar2 20 14 rfl nd (e1 (v1 (xv 6)) (e1 (v1 (xtup (a1 xint (a1 xint a0)))) e0)))
  (s1 (swhile 1000 hp (ycmp cIsNot (xixC 15 (xv 20)) xnon) (sl (spar2 14 20 rfl nd (e1 (v1 (xcall D__law_plus (hr.mono (by decide)) tk (e1 (v1 (xv 14)) (e1 (v1 (xix (xix (xv 9) (xv 20)) xint)) e0)))) (e1 (v1 (xixC 15 (xv 20))) e0)))))
  (sl (sif (ycmp (cNe hu) (xv 14) (xv 8)) (sl (sret xbl)) s0)))) s0)))
  (sl (sret (xcmp (cEq hu) (xv 10) (xv 7)))))))))))))))))

end Pr

/-! clocks: ends, topologies, reaches and their sums -/
namespace Pr
open PySem L2 DL
abbrev P2 := Int × Int
def pd (p : P2) : D := .tup [.int p.1, .int p.2]
inductive T where
  | e (i : Nat)
  | n (l r : T)
def T.d : T → D
  | .e i => .int (i : Int)
  | .n l r => .tup [l.d, r.d]
def T.h : T → Nat
  | .e _ => 0
  | .n l r => max l.h r.h + 1
def T.ends : T → List Nat
  | .e i => [i]
  | .n l r => l.ends ++ r.ends
def T.sw : T → T
  | .e i => .e i
  | .n l r => .n r.sw l.sw
theorem T.h_ends : ∀ t : T, t.h < t.ends.length
  | .e _ => by simp [T.h, T.ends]
  | .n l r => by
    have h1 := l.h_ends
    have h2 := r.h_ends
    simp only [T.h, T.ends, List.length_append]
    omega
theorem at_0 (a b : D) : atI [a, b] 0 = some a := atI_nat (j := 0) rfl
theorem at_1 (a b : D) : atI [a, b] 1 = some b := atI_nat (j := 1) rfl
theorem ix0 (a b : D) : gIx (.tup [a, b]) (.int 0) = some a := by rw [g_ixT]; exact atI_nat (j := 0) rfl
theorem ix1 (a b : D) : gIx (.tup [a, b]) (.int 1) = some b := by rw [g_ixT]; exact atI_nat (j := 1) rfl
theorem T.ty_int : ∀ t : T, ∃ b, isTy t.d "int" = some b ∧ isTy t.d "tuple" = some (!b) ∧ (b = true ↔ ∃ i, t = .e i)
  | .e i => ⟨true, ty_ii, ty_it, by simp⟩
  | .n l r => ⟨false, ty_ti, ty_tt, by simp⟩
theorem ends_below_spec : ∀ (n : Nat) (t : T), t.h < n → t.ends.length ≤ 1000 → d_ends_below n [.v t.d] [] = .ok (.lst (t.ends.map fun i : Nat => D.int (i : Int))) []
  | 0, t, h, _ => absurd h (Nat.not_lt_zero _)
  | n + 1, .e i, h, hl => by
    have h1 : (1 : Nat) ≤ lim := by rw [lim_is]; decide
    refine denB_rt (ρ1 := [some (.v (T.e i).d)]) (S1 := []) ?_
    simp [b_ends_below, T.d, T.ends, ev_Seq, h1]
  | n + 1, .n l r, h, hl => by
    simp only [T.h] at h
    simp only [T.ends, List.length_append] at hl
    have k1 := call1 (S := []) (ends_below_spec n l (by omega) (by omega))
    have k2 := call1 (S := []) (ends_below_spec n r (by omega) (by omega))
    have ga := g_addL (xs := l.ends.map fun i : Nat => D.int (i : Int)) (ys := r.ends.map fun i : Nat => D.int (i : Int)) (by rw [lim_is]; simp; omega)
    refine denB_rt (ρ1 := [some (.v (T.n l r).d)]) (S1 := []) ?_
    have ht : isTy (T.n l r).d "int" = some false := ty_ti
    simp [b_ends_below, ev_Seq, T.d, at_0, at_1, k1, k2, ga, T.ends]
def ab (i : Int) : Int := if i < 0 then -i else i
def dist (p q : P2) : Int := ab (p.1 - q.1) + ab (p.2 - q.2)
theorem distance_spec (p q : P2) : d_distance [.v (pd p), .v (pd q)] [] = .ok (.int (dist p q)) [] := rfl
theorem dist_nn (p q : P2) : 0 ≤ dist p q := by unfold dist ab; split <;> split <;> omega
theorem dist_self (p : P2) : dist p p = 0 := by unfold dist ab; simp
/-- the end of a number -/
def at' (ps : List P2) (i : Nat) : P2 := ps.getD i (0, 0)
def below (ps : List P2) (t : T) : List P2 := t.ends.map (at' ps)
/-- the greatest of a list of numbers, of none: 0 -/
def tops : List Int → Int
  | [] => 0
  | x :: xs => maxI x xs
theorem top_mem {l : List Int} (h : l ≠ []) : tops l ∈ l ∧ ∀ y ∈ l, y ≤ tops l := by
  cases l with
  | nil => exact absurd rfl h
  | cons x xs => exact maxI_is xs x
def pairs (l m : List P2) : List Int := l.flatMap fun p => m.map fun q => dist p q
def reachL (l : List P2) : Int := tops (pairs l l)
def reach (ps : List P2) (t : T) : Int := reachL (below ps t)
theorem mem_pairs {l m : List P2} {x : Int} : x ∈ pairs l m ↔ ∃ p ∈ l, ∃ q ∈ m, x = dist p q := by
  unfold pairs
  simp only [List.mem_flatMap, List.mem_map]
  exact ⟨fun ⟨p, h1, q, h2, e⟩ => ⟨p, h1, q, h2, e.symm⟩, fun ⟨p, h1, q, h2, e⟩ => ⟨p, h1, q, h2, e.symm⟩⟩
theorem pairs_ne {l : List P2} (h : l ≠ []) : pairs l l ≠ [] := fun e => by
  cases l with
  | nil => exact h rfl
  | cons p l =>
    have : dist p p ∈ pairs (p :: l) (p :: l) := mem_pairs.mpr ⟨p, List.mem_cons_self, p, List.mem_cons_self, rfl⟩
    rw [e] at this; cases this
theorem reachL_is {l : List P2} (h : l ≠ []) : (∃ p ∈ l, ∃ q ∈ l, reachL l = dist p q) ∧ ∀ p ∈ l, ∀ q ∈ l, dist p q ≤ reachL l := by
  obtain ⟨h1, h2⟩ := top_mem (pairs_ne h)
  exact ⟨mem_pairs.mp h1, fun p hp q hq => h2 _ (mem_pairs.mpr ⟨p, hp, q, hq, rfl⟩)⟩
theorem reachL_mono {l m : List P2} (h : l ≠ []) (hs : ∀ p ∈ l, p ∈ m) : reachL l ≤ reachL m := by
  obtain ⟨p, hp, q, hq, e⟩ := (reachL_is h).1
  have hm : m ≠ [] := fun z => by rw [z] at hs; cases hs p hp
  rw [e]
  exact (reachL_is hm).2 p (hs p hp) q (hs q hq)
theorem reachL_nn {l : List P2} : 0 ≤ reachL l := by
  by_cases h : l = []
  · subst h; exact Int.le_refl (0 : Int)
  · obtain ⟨p, hp, q, hq, e⟩ := (reachL_is h).1
    rw [e]; exact dist_nn p q
theorem reachL_same {l m : List P2} (hs : ∀ p, p ∈ l ↔ p ∈ m) : reachL l = reachL m := by
  by_cases h : l = []
  · subst h
    have : m = [] := List.eq_nil_iff_forall_not_mem.mpr fun p hp => by cases (hs p).mpr hp
    rw [this]
  · have hm : m ≠ [] := fun z => h (List.eq_nil_iff_forall_not_mem.mpr fun p hp => by
      have := (hs p).mp hp
      rw [z] at this; cases this)
    exact Int.le_antisymm (reachL_mono h fun p hp => (hs p).mp hp) (reachL_mono hm fun p hp => (hs p).mpr hp)
theorem intsOf_map : ∀ xs : List Int, intsOf (xs.map D.int) = some xs
  | [] => rfl
  | x :: xs => by
    have := intsOf_map xs
    simp [intsOf, this]
theorem gMax_top {xs : List Int} (h : xs ≠ []) : gMax [.lst (xs.map D.int)] = some (.int (tops xs)) := by
  show (match intsOf (xs.map D.int) with
    | some (m :: is) => some (D.int (maxI m is))
    | _ => none) = _
  rw [intsOf_map]
  cases xs with
  | nil => exact absurd rfl h
  | cons x xs => rfl
end Pr

/-! clocks: what the program makes of a topology -/
namespace DL
open PySem L2
/-- a comprehension of two clauses without conditions -/
theorem lc2T {α β : Type} {tg tg1 : Tg} {fi : DDn} {vs1 : List Nat} {fe : DEn} {ρ : DL.Env} {S : Store} (emb : α → D) (emb1 : β → D) (ys : α → List β) (g : α → β → D) : ∀ (xs : List α),
    (∀ x ∈ xs, ∃ ρ1, asg tg (emb x) ρ = some ρ1 ∧ fi ρ1 S = .ok ((ys x).map emb1) S ∧ ∀ y ∈ ys x, ∃ ρ2, asg tg1 (emb1 y) (wipeE ρ1 vs1) = some ρ2 ∧ fe ρ2 S = .ok (g x y) S) →
    ∀ acc : List D, acc.length + (xs.flatMap ys).length ≤ lim → lcL2 tg mYes fi vs1 tg1 mYes fe ρ (xs.map emb) S acc = .ok (acc ++ xs.flatMap fun x => (ys x).map (g x)) S
  | [], h, acc, _ => by simp [lcL2]
  | x :: xs, h, acc, hl => by
    obtain ⟨ρ1, e1, e2, e3⟩ := h x List.mem_cons_self
    rw [List.flatMap_cons, List.length_append] at hl
    have l := lcT (tg := tg1) (tt := mYes) (fe := fe) (ρ := wipeE ρ1 vs1) (S := S) emb1 (fun _ => true) (g x) (ys x) (fun y hy => by
      obtain ⟨ρ2, k1, k2⟩ := e3 y hy
      exact ⟨ρ2, k1, rfl, fun _ => k2⟩) acc (by omega)
    rw [filter_true] at l
    rw [List.map_cons]
    unfold lcL2
    rw [e1]
    dsimp only
    rw [show mYes ρ1 S = .ok true S from rfl]
    simp only [ev_bd_ok, if_true]
    rw [e2]
    simp only [ev_bd_ok]
    rw [l]
    simp only [ev_bd_ok]
    rw [lc2T emb emb1 ys g xs (fun z hz => h z (List.mem_cons_of_mem _ hz)) _ (by rw [List.length_append, List.length_map]; omega)]
    simp [List.flatMap_cons]
theorem lcA1 {α : Type} {tg : Tg} {fe : DEn} {ρ : DL.Env} {S : Store} (emb g : α → D) (xs : List α) (h : ∀ x ∈ xs, ∃ ρ1, asg tg (emb x) ρ = some ρ1 ∧ fe ρ1 S = .ok (g x) S) (hl : xs.length ≤ lim) : lcL tg mYes fe ρ (xs.map emb) S [] = .ok (xs.map g) S := by
  have l := lcT (tg := tg) (tt := mYes) (fe := fe) (ρ := ρ) (S := S) emb (fun _ => true) g xs (fun x hx => by
    obtain ⟨ρ1, k1, k2⟩ := h x hx
    exact ⟨ρ1, k1, rfl, fun _ => k2⟩) [] (by simpa using hl)
  rw [filter_true] at l
  simpa using l
end DL
namespace Pr
open PySem L2 DL
def endsD (ps : List P2) : D := .tup (ps.map pd)
structure Fit (ps : List P2) (t : T) : Prop where
  lt : ∀ i ∈ t.ends, i < ps.length
  six : t.ends.length ≤ 6
theorem Fit.h {ps : List P2} {t : T} (F : Fit ps t) : t.h < 6 := by have := t.h_ends; have := F.six; omega
theorem Fit.l {ps : List P2} {l r : T} (F : Fit ps (.n l r)) : Fit ps l := ⟨fun i hi => F.lt i (List.mem_append.mpr (.inl hi)), by have := F.six; simp only [T.ends, List.length_append] at this; omega⟩
theorem Fit.r {ps : List P2} {l r : T} (F : Fit ps (.n l r)) : Fit ps r := ⟨fun i hi => F.lt i (List.mem_append.mpr (.inr hi)), by have := F.six; simp only [T.ends, List.length_append] at this; omega⟩
theorem ix_end {ps : List P2} {i : Nat} (h : i < ps.length) : gIx (endsD ps) (.int (i : Int)) = some (pd (at' ps i)) := by
  unfold endsD
  rw [g_ixT]
  refine atI_nat ?_
  rw [List.getElem?_map, List.getElem?_eq_getElem h]
  unfold at'
  rw [List.getD_eq_getElem?_getD, List.getElem?_eq_getElem h]
  rfl
theorem below_ne (ps : List P2) (t : T) : below ps t ≠ [] := fun e => by
  have := t.h_ends
  have h : (below ps t).length = 0 := by rw [e]; rfl
  unfold below at h
  rw [List.length_map] at h
  omega
theorem pairs_len (l m : List P2) : (l.flatMap fun _ => m).length = l.length * m.length := by
  induction l with
  | nil => simp
  | cons p l ih => rw [List.flatMap_cons, List.length_append, ih, List.length_cons, Nat.succ_mul]; omega
theorem twice_reach_spec {ps : List P2} {t : T} (F : Fit ps t) : d_twice_reach [.v (endsD ps), .v t.d] [] = .ok (.int (reach ps t)) [] := by
  have k := call1 (S := []) (ends_below_spec 6 t F.h (by have := F.six; omega))
  let ρ0 : DL.Env := [some (.v (endsD ps)), some (.v t.d), none, none, none, none]
  let B : D := .lst ((below ps t).map pd)
  let ρ1 : DL.Env := [some (.v (endsD ps)), some (.v t.d), some (.v B), none, none, none]
  have hlen : (below ps t).length ≤ 6 := by unfold below; rw [List.length_map]; exact F.six
  have s1 : mSet 2 (mV (mLc (mIt (mCall (d_ends_below 6) 1 (mConsE (mV (mVar 1)) mNilE))) (.nm 3) mYes (mOp gIx (mVar 0) (mVar 3)) [3])) ρ0 [] = .ok (.nx, ρ1) [] := by
    have l := lcA1 (tg := .nm 3) (fe := mOp gIx (mVar 0) (mVar 3)) (ρ := ρ0) (S := []) (fun i : Nat => D.int (i : Int)) (fun i => pd (at' ps i)) t.ends (fun i hi =>
      ⟨[some (.v (endsD ps)), some (.v t.d), none, some (.v (.int (i : Int))), none, none], rfl, by
        show (lift (gIx (endsD ps) (.int (i : Int))) []) = _
        rw [ix_end (F.lt i hi)]; rfl⟩) (by rw [lim_is]; have := F.six; omega)
    have e1 : mIt (mCall (d_ends_below 6) 1 (mConsE (mV (mVar 1)) mNilE)) ρ0 [] = .ok (t.ends.map fun i : Nat => D.int (i : Int)) [] := by
      unfold mIt
      rw [show mCall (d_ends_below 6) 1 (mConsE (mV (mVar 1)) mNilE) ρ0 [] = .ok (.lst (t.ends.map fun i : Nat => D.int (i : Int))) [] from k]
      rfl
    rw [ev_Set, ev_V, ev_Lc, e1, ev_bind_ok, show wipeE ρ0 [3] = ρ0 from rfl, l]
    show Out.ok _ _ = _
    unfold ρ1 B below
    rw [List.map_map]
    rfl
  have s2 : mRet (mBi gMax (mCons (mLc2 (mIt (mVar 2)) (.nm 4) mYes (mIt (mVar 2)) [5] (.nm 5) mYes (mCall d_distance 2 (mConsE (mV (mVar 4)) (mConsE (mV (mVar 5)) mNilE))) [4, 5]) mNil)) ρ1 [] = .ok (.rt (.int (reach ps t)), ρ1) [] := by
    have l := lc2T (tg := .nm 4) (tg1 := .nm 5) (fi := mIt (mVar 2)) (vs1 := [5]) (fe := mCall d_distance 2 (mConsE (mV (mVar 4)) (mConsE (mV (mVar 5)) mNilE))) (ρ := ρ1) (S := []) pd pd (fun _ => below ps t) (fun p q => D.int (dist p q)) (below ps t) (fun p _ =>
      ⟨[some (.v (endsD ps)), some (.v t.d), some (.v B), none, some (.v (pd p)), none], rfl, rfl, fun q _ =>
        ⟨[some (.v (endsD ps)), some (.v t.d), some (.v B), none, some (.v (pd p)), some (.v (pd q))], rfl, call2 (S := []) (distance_spec p q)⟩⟩) [] (by
        rw [pairs_len, lim_is]
        have : (below ps t).length * (below ps t).length ≤ 6 * 6 := Nat.mul_le_mul hlen hlen
        simp; omega)
    have e : mLc2 (mIt (mVar 2)) (.nm 4) mYes (mIt (mVar 2)) [5] (.nm 5) mYes (mCall d_distance 2 (mConsE (mV (mVar 4)) (mConsE (mV (mVar 5)) mNilE))) [4, 5] ρ1 [] = .ok (.lst ((pairs (below ps t) (below ps t)).map D.int)) [] := by
      unfold mLc2
      rw [show mIt (mVar 2) ρ1 [] = .ok ((below ps t).map pd) [] from rfl, ev_bind_ok, show wipeE ρ1 [4, 5] = ρ1 from rfl, l]
      show Out.ok (D.lst _) _ = _
      unfold pairs
      rw [List.map_flatMap]
      simp [List.map_map, Function.comp_def]
    rw [ev_Ret, ev_Bi, ev_Cons, e]
    simp only [ev_bind_ok, ev_Nil, gMax_top (pairs_ne (below_ne ps t)), ev_lift_some, ev_bindS_ok]
    rfl
  refine denB_rt (ρ1 := ρ1) (S1 := []) ?_
  exact (seq_nx s1).trans s2
/-- the reaches below and here, together -/
def sumR (ps : List P2) : T → Int
  | .e _ => 0
  | .n l r => reach ps (.n l r) + sumR ps l + sumR ps r
theorem twice_sum_spec : ∀ (n : Nat) {ps : List P2} (t : T), t.h < n → Fit ps t → d_twice_sum n [.v (endsD ps), .v t.d] [] = .ok (.int (sumR ps t)) []
  | 0, _, t, h, _ => absurd h (Nat.not_lt_zero _)
  | n + 1, ps, .e i, h, F => by
    refine denB_rt (ρ1 := [some (.v (endsD ps)), some (.v (T.e i).d)]) (S1 := []) ?_
    simp [b_twice_sum, T.d, ev_Seq, sumR]
  | n + 1, ps, .n l r, h, F => by
    simp only [T.h] at h
    have k0 := call2 (S := []) (twice_reach_spec F)
    have k1 := call2 (S := []) (twice_sum_spec n l (by omega) F.l)
    have k2 := call2 (S := []) (twice_sum_spec n r (by omega) F.r)
    refine denB_rt (ρ1 := [some (.v (endsD ps)), some (.v (T.n l r).d)]) (S1 := []) ?_
    rw [show (T.n l r).d = .tup [l.d, r.d] from rfl] at k0
    simp [b_twice_sum, ev_Seq, T.d, at_0, at_1, k0, k1, k2, sumR, gAdd]
def wire (ps : List P2) (t : T) : Int := reach ps t + sumR ps t
theorem twice_wire_spec {ps : List P2} {t : T} (F : Fit ps t) : d_twice_wire [.v (endsD ps), .v t.d] [] = .ok (.int (wire ps t)) [] := by
  have k0 := call2 (S := []) (twice_reach_spec F)
  have k1 := call2 (S := []) (twice_sum_spec 6 t F.h F)
  refine denB_rt (ρ1 := [some (.v (endsD ps)), some (.v t.d)]) (S1 := []) ?_
  simp [b_twice_wire, k0, k1, gAdd, wire]
/-- n / 2 in lowest terms -/
def half (n : Int) : D := if n % 2 = 0 then .tup [.int (n / 2), .int 1] else .tup [.int n, .int 2]
theorem gcd2 (n : Int) : Nat.gcd n.natAbs 2 = if n % 2 = 0 then 2 else 1 := by
  have h : Nat.gcd n.natAbs 2 = Nat.gcd (n.natAbs % 2) 2 := by rw [Nat.gcd_comm, Nat.gcd_rec]
  rw [h]
  split
  · rw [show n.natAbs % 2 = 0 by omega]; rfl
  · rw [show n.natAbs % 2 = 1 by omega]; rfl
theorem ratio_spec (n : Int) : d_ratio [.v (.int n), .v (.int 2)] [] = .ok (half n) [] := by
  have g : gGcd [.int n, .int 2] = some (.int (if n % 2 = 0 then 2 else 1)) := by
    show some (D.int ((Nat.gcd n.natAbs 2 : Nat) : Int)) = _
    rw [gcd2]
    split <;> rfl
  have h2 : (2 : Nat) ≤ lim := by rw [lim_is]; decide
  refine denB_rt (ρ1 := [some (.v (.int n)), some (.v (.int 2)), some (.v (.int (if n % 2 = 0 then 2 else 1)))]) (S1 := []) ?_
  unfold half
  by_cases hn : n % 2 = 0
  · rw [if_pos hn] at g ⊢
    rw [if_pos hn]
    simp [b_ratio, ev_Seq, g, g_div, h2]
  · rw [if_neg hn] at g ⊢
    rw [if_neg hn]
    simp [b_ratio, ev_Seq, g, g_div, h2]
end Pr

/-! clocks: the checks, and least_wire -/
namespace Pr
open PySem L2 DL
theorem is_integer_int (i : Int) : d_is_integer [.v (.int i)] [] = .ok (.bl true) [] := rfl
theorem is_between_int (i lo hi : Int) : d_is_between [.v (.int i), .v (.int lo), .v (.int hi)] [] = .ok (.bl (decide (lo ≤ i) && decide (i ≤ hi))) [] := by
  have e := call1 (S := []) (is_integer_int i)
  refine denB_rt (ρ1 := [some (.v (.int i)), some (.v (.int lo)), some (.v (.int hi))]) (S1 := []) ?_
  by_cases h : lo ≤ i <;> simp [b_is_between, e, h]
theorem is_between_tup (ds : List D) (lo hi : Int) : d_is_between [.v (.tup ds), .v (.int lo), .v (.int hi)] [] = .ok (.bl false) [] := rfl
theorem is_tuple_of_tup (ds : List D) (lo hi : Int) : d_is_tuple_of [.v (.tup ds), .v (.int lo), .v (.int hi)] [] = .ok (.bl (decide (lo ≤ (ds.length : Int)) && decide ((ds.length : Int) ≤ hi))) [] := by
  refine denB_rt (ρ1 := [some (.v (.tup ds)), some (.v (.int lo)), some (.v (.int hi))]) (S1 := []) ?_
  by_cases h : lo ≤ (ds.length : Int) <;> simp [b_is_tuple_of, h]
def Pt (p : P2) : Prop := 0 ≤ p.1 ∧ p.1 ≤ 40 ∧ 0 ≤ p.2 ∧ p.2 ≤ 40
theorem is_point_spec {p : P2} (h : Pt p) : d_is_point [.v (pd p)] [] = .ok (.bl true) [] := by
  have k0 := call3 (S := []) (is_tuple_of_tup [.int p.1, .int p.2] 2 2)
  have k1 := call3 (S := []) (is_between_int p.1 0 40)
  have k2 := call3 (S := []) (is_between_int p.2 0 40)
  obtain ⟨h1, h2, h3, h4⟩ := h
  simp only [h1, h2, decide_true, Bool.and_self] at k1
  simp only [h3, h4, decide_true, Bool.and_self] at k2
  have q0 : mCall d_is_tuple_of 3 (mConsE (mV (mVar 0)) (mConsE (mV (mC (.int 2))) (mConsE (mV (mC (.int 2))) mNilE))) [some (.v (pd p))] [] = .ok (.bl true) [] := k0
  have q1 : mCall d_is_between 3 (mConsE (mV (mOp gIx (mVar 0) (mC (.int 0)))) (mConsE (mV (mC (.int 0))) (mConsE (mV (mC k_FARTHEST)) mNilE))) [some (.v (pd p))] [] = .ok (.bl true) [] := k1
  have q2 : mCall d_is_between 3 (mConsE (mV (mOp gIx (mVar 0) (mC (.int 1)))) (mConsE (mV (mC (.int 0))) (mConsE (mV (mC k_FARTHEST)) mNilE))) [some (.v (pd p))] [] = .ok (.bl true) [] := k2
  refine denB_rt (ρ1 := [some (.v (pd p))]) (S1 := []) ?_
  show b_is_point [some (.v (pd p))] [] = _
  unfold b_is_point
  rw [ev_Ret]
  unfold mAnd
  rw [q0]
  simp only [ev_bind_ok, D.isB, ev_lift_some, if_true, q1, q2]
  rfl
theorem forL_step {tg : Tg} {body : DSn} {d : D} {ds : List D} {ρ ρ1 ρ2 : DL.Env} {S S2 : Store} (h1 : asg tg d ρ = some ρ1) (h2 : body ρ1 S = .ok (.nx, ρ2) S2) : forL tg body (d :: ds) ρ S = forL tg body ds ρ2 S2 := by
  conv => lhs; unfold forL
  rw [h1]
  dsimp only
  rw [h2]
def bWI : DSn := (mIfS (mNotT (mTru (mCallL 1 T_wrong_index_1 (mConsE (mV (mVar 3)) mNilE)))) (mRet (mVar 2)) mSkip)
theorem loopWI {v : D} : ∀ (ps : List P2) (k : Nat) (x2 x3 : Option EV), (∀ p ∈ ps, Pt p) →
    ∃ y2 y3, forL (.tp [(.nm 2), (.nm 3)]) bWI (enumD k (ps.map pd)) [some (.v v), some (.v (.fn "is_point")), x2, x3] [] = .ok (.nx, [some (.v v), some (.v (.fn "is_point")), y2, y3]) []
  | [], k, x2, x3, _ => ⟨x2, x3, rfl⟩
  | p :: ps, k, x2, x3, h => by
    obtain ⟨y2, y3, ih⟩ := loopWI (v := v) ps (k + 1) (some (.v (.int (k : Int)))) (some (.v (pd p))) (fun q hq => h q (List.mem_cons_of_mem _ hq))
    refine ⟨y2, y3, ?_⟩
    have c := call1 (S := []) (is_point_spec (h p List.mem_cons_self))
    have b : bWI [some (.v v), some (.v (.fn "is_point")), some (.v (.int (k : Int))), some (.v (pd p))] [] = .ok (.nx, [some (.v v), some (.v (.fn "is_point")), some (.v (.int (k : Int))), some (.v (pd p))]) [] := by
      have e : mTru (mCallL 1 T_wrong_index_1 (mConsE (mV (mVar 3)) mNilE)) [some (.v v), some (.v (.fn "is_point")), some (.v (.int (k : Int))), some (.v (pd p))] [] = .ok true [] := by
        unfold mTru
        rw [show mCallL 1 T_wrong_index_1 (mConsE (mV (mVar 3)) mNilE) [some (.v v), some (.v (.fn "is_point")), some (.v (.int (k : Int))), some (.v (pd p))] [] = .ok (.bl true) [] from c]
        rfl
      unfold bWI
      rw [ev_IfS]
      unfold mNotT
      rw [e]
      rfl
    refine (forL_step (ρ1 := [some (.v v), some (.v (.fn "is_point")), some (.v (.int (k : Int))), some (.v (pd p))]) rfl b).trans ih
end Pr

/-! clocks: check_ends, is_topology, check_clock, least_wire -/
namespace Pr
open PySem L2 DL
theorem wrong_index_spec {ps : List P2} (h : ∀ p ∈ ps, Pt p) : d_wrong_index [.v (endsD ps), .v (.fn "is_point")] [] = .ok .non [] := by
  obtain ⟨y2, y3, e⟩ := loopWI (v := endsD ps) ps 0 none none h
  refine denB_rt (ρ1 := [some (.v (endsD ps)), some (.v (.fn "is_point")), y2, y3]) (S1 := []) ?_
  show b_wrong_index [some (.v (endsD ps)), some (.v (.fn "is_point")), none, none] [] = _
  unfold b_wrong_index
  refine (seq_nx (ρ1 := [some (.v (endsD ps)), some (.v (.fn "is_point")), y2, y3]) (S1 := []) ?_).trans rfl
  exact e
theorem check_ends_spec {ps : List P2} (h : ∀ p ∈ ps, Pt p) (h1 : 1 ≤ ps.length) (h6 : ps.length ≤ 6) : d_check_ends [.v (endsD ps)] [] = .ok .non [] := by
  have k0 := call3 (S := []) (is_tuple_of_tup (ps.map pd) 1 6)
  rw [List.length_map, decide_eq_true (by omega), decide_eq_true (by omega)] at k0
  have k1 := call2 (S := []) (wrong_index_spec h)
  have q0 : mCall d_is_tuple_of 3 (mConsE (mV (mVar 0)) (mConsE (mV (mC (.int 1))) (mConsE (mV (mC k_MOST_POINTS)) mNilE))) [some (.v (endsD ps)), none] [] = .ok (.bl true) [] := k0
  have q1 : mCall d_wrong_index 2 (mConsE (mV (mVar 0)) (mConsE (mV (mC (.fn "is_point"))) mNilE)) [some (.v (endsD ps)), none] [] = .ok .non [] := k1
  refine denB_nx (ρ1 := [some (.v (endsD ps)), some (.v .non)]) (S1 := []) ?_
  show b_check_ends [some (.v (endsD ps)), none] [] = _
  unfold b_check_ends
  refine (seq_nx (ρ1 := [some (.v (endsD ps)), none]) (S1 := []) ?_).trans ((seq_nx (ρ1 := [some (.v (endsD ps)), some (.v .non)]) (S1 := []) ?_).trans ?_)
  · rw [ev_IfS]
    unfold mNotT mTru
    rw [q0]
    rfl
  · rw [ev_Set, ev_V, q1]
    rfl
  · rfl
theorem okd_ints (F : List Nat) : (D.lst (F.map fun i : Nat => D.int (i : Int))).okd = true := by
  have h : ∀ F : List Nat, PyData.canLayAll0 (D.pys (F.map fun i : Nat => D.int (i : Int))) = true ∧ PyData.depthAll (D.pys (F.map fun i : Nat => D.int (i : Int))) = 0 := by
    intro F
    induction F with
    | nil => exact ⟨rfl, rfl⟩
    | cons i F ih => exact ⟨ih.1, by show max 0 (PyData.depthAll (D.pys (F.map fun i : Nat => D.int (i : Int)))) = 0; rw [ih.2]; rfl⟩
  show (PyData.canLayAll0 (D.pys (F.map fun i : Nat => D.int (i : Int))) && decide (PyData.depthAll (D.pys (F.map fun i : Nat => D.int (i : Int))) + 1 ≤ 64)) = true
  rw [(h F).1, (h F).2]; rfl
theorem gNotIn_ints (i : Nat) (F : List Nat) : gNotIn (.int (i : Int)) (.lst (F.map fun i : Nat => D.int (i : Int))) = some (!decide (i ∈ F)) := by
  have e : gIn (.int (i : Int)) (.lst (F.map fun i : Nat => D.int (i : Int))) = some ((F.map fun i : Nat => D.int (i : Int)).any fun z => deq z (.int (i : Int))) := if_pos ⟨rfl, okd_ints F⟩
  unfold gNotIn
  rw [e]
  have : ((F.map fun i : Nat => D.int (i : Int)).any fun z => deq z (.int (i : Int))) = decide (i ∈ F) := by
    induction F with
    | nil => rfl
    | cons j F ih =>
      have q : deq (.int (j : Int)) (.int (i : Int)) = decide (i = j) := by
        show ((j : Int) == (i : Int)) = _
        by_cases h : i = j
        · subst h; simp
        · rw [decide_eq_false h]; simp; omega
      have ih' := ih (if_pos ⟨rfl, okd_ints F⟩)
      rw [List.map_cons, List.any_cons, q, ih']
      by_cases h : i = j <;> simp [h]
  rw [this]; rfl
theorem callV3C {F : Den} {n : Nat} {c c' : Cell} {a b e r : D} {S : Store} (hs : S[n]? = some (some c)) (h : F [.v a, .v b, .v e, .cel 0] [some c] = .ok r [some c']) : callD F [.v a, .v b, .v e, .cel n] S = .ok r (S.set n (some c')) := by
  unfold callD; simp [cels, getCs, renum, h, putCs, hs]
def nl (F : List Nat) : D := .lst (F.map fun i : Nat => D.int (i : Int))
def nc (F : List Nat) : Option Cell := some (.lst (F.map fun i : Nat => D.int (i : Int)))
theorem is_topology_spec : ∀ (n : Nat) (t : T) (m dp : Nat) (F : List Nat), t.h < n → t.h ≤ dp → (∀ i ∈ t.ends, i < m) → (F ++ t.ends).Nodup → F.length + t.ends.length ≤ 100 →
    d_is_topology n [.v t.d, .v (.int (m : Int)), .v (.int (dp : Int)), .cel 0] [nc F] = .ok (.bl true) [nc (F ++ t.ends)]
  | 0, t, _, _, _, h, _, _, _, _ => absurd h (Nat.not_lt_zero _)
  | n + 1, .e i, m, dp, F, h, hd, hm, hn, hl => by
    have him : i < m := hm i (by simp [T.ends])
    have k0 := call3 (S := [nc F]) (is_between_int (i : Int) 0 ((m : Int) - 1))
    rw [decide_eq_true (by omega), decide_eq_true (by omega)] at k0
    let ρ : DL.Env := [some (.v (.int (i : Int))), some (.v (.int (m : Int))), some (.v (.int (dp : Int))), some (.cel 0), none]
    have q0 : mCall d_is_between 3 (mConsE (mV (mVar 0)) (mConsE (mV (mC (.int 0))) (mConsE (mV (mOp gSub (mVar 1) (mC (.int 1)))) mNilE))) ρ [nc F] = .ok (.bl true) [nc F] := k0
    have hni : i ∉ F := fun z => by
      have := (List.nodup_append.mp hn).2.2 i z i (by simp [T.ends])
      exact this rfl
    have q1 : mCmpR 3 gNotIn (mVar 0) ρ [nc F] = .ok true [nc F] := by
      show (lift (gNotIn (.int (i : Int)) (.lst (F.map fun i : Nat => D.int (i : Int)))) [nc F]) = _
      rw [gNotIn_ints, decide_eq_false hni]; rfl
    refine denB_rt (ρ1 := ρ) (S1 := [nc (F ++ [i])]) ?_
    show b_is_topology (d_is_topology n) ρ [nc F] = _
    unfold b_is_topology
    refine seq_rt ?_
    rw [ev_IfS]
    have q0' : mTru (mCall d_is_between 3 (mConsE (mV (mVar 0)) (mConsE (mV (mC (.int 0))) (mConsE (mV (mOp gSub (mVar 1) (mC (.int 1)))) mNilE)))) ρ [nc F] = .ok true [nc F] := by
      unfold mTru
      rw [q0]; rfl
    unfold mAndT
    rw [q0']
    simp only [ev_bind_ok, if_true, q1, ev_bindS_ok]
    have q2 : mDrop (mMet 3 gApp (mCons (mVar 0) mNil)) ρ [nc F] = .ok (.nx, ρ) [nc (F ++ [i])] := by
      have hlim : F.length < lim := by rw [lim_is]; omega
      have e : mMet 3 gApp (mCons (mVar 0) mNil) ρ [nc F] = .ok .non [nc (F ++ [i])] := by
        simp [mMet, ρ, nc, gApp, hlim]
      unfold mDrop
      rw [e]; rfl
    exact (seq_nx q2).trans rfl
  | n + 1, .n l r, m, dp, F, h, hd, hm, hn, hl => by
    simp only [T.h] at h hd
    simp only [T.ends, List.length_append] at hl
    have hn' : ((F ++ l.ends) ++ r.ends).Nodup := by rw [List.append_assoc]; exact hn
    have hnl : (F ++ l.ends).Nodup := (List.nodup_append.mp hn').1
    have kl := is_topology_spec n l m (dp - 1) F (by omega) (by omega) (fun i hi => hm i (List.mem_append.mpr (.inl hi))) hnl (by omega)
    have kr := is_topology_spec n r m (dp - 1) (F ++ l.ends) (by omega) (by omega) (fun i hi => hm i (List.mem_append.mpr (.inr hi))) hn' (by rw [List.length_append]; omega)
    have cl := callV3C (S := [nc F]) (n := 0) rfl kl
    have cr := callV3C (S := [nc (F ++ l.ends)]) (n := 0) rfl kr
    have edp : ((dp - 1 : Nat) : Int) = (dp : Int) - 1 := by omega
    rw [edp] at cl cr
    have k0 := call3 (S := [nc F]) (is_between_tup [l.d, r.d] 0 ((m : Int) - 1))
    have k1 := call3 (S := [nc F]) (is_tuple_of_tup [l.d, r.d] 2 2)
    let ρ : DL.Env := [some (.v (.tup [l.d, r.d])), some (.v (.int (m : Int))), some (.v (.int (dp : Int))), some (.cel 0), none]
    have q0 : mCall d_is_between 3 (mConsE (mV (mVar 0)) (mConsE (mV (mC (.int 0))) (mConsE (mV (mOp gSub (mVar 1) (mC (.int 1)))) mNilE))) ρ [nc F] = .ok (.bl false) [nc F] := k0
    have q1 : mCall d_is_tuple_of 3 (mConsE (mV (mVar 0)) (mConsE (mV (mC (.int 2))) (mConsE (mV (mC (.int 2))) mNilE))) ρ [nc F] = .ok (.bl true) [nc F] := k1
    have q2 : mCmp gEq (mVar 2) (mC (.int 0)) ρ [nc F] = .ok false [nc F] := by
      show (Out.ok ((dp : Int) == 0) [nc F]) = _
      rw [show ((dp : Int) == 0) = false from beq_eq_false_iff_ne.mpr (by omega)]
    let fe : DEn := mCall (d_is_topology n) 4 (mConsE (mV (mVar 4)) (mConsE (mV (mVar 1)) (mConsE (mV (mOp gSub (mVar 2) (mC (.int 1)))) (mConsE (mCel 3) mNilE))))
    let ρl : DL.Env := [some (.v (.tup [l.d, r.d])), some (.v (.int (m : Int))), some (.v (.int (dp : Int))), some (.cel 0), some (.v l.d)]
    let ρr : DL.Env := [some (.v (.tup [l.d, r.d])), some (.v (.int (m : Int))), some (.v (.int (dp : Int))), some (.cel 0), some (.v r.d)]
    have el : fe ρl [nc F] = .ok (.bl true) [nc (F ++ l.ends)] := cl
    have er : fe ρr [nc (F ++ l.ends)] = .ok (.bl true) [nc ((F ++ l.ends) ++ r.ends)] := cr
    have h0 : (0 : Nat) < lim := by rw [lim_is]; decide
    have h1 : (1 : Nat) < lim := by rw [lim_is]; decide
    have e2 : lcL (.nm 4) mYes fe ρ [r.d] [nc (F ++ l.ends)] [.bl true] = .ok [.bl true, .bl true] [nc ((F ++ l.ends) ++ r.ends)] := by
      unfold lcL
      rw [show asg (.nm 4) r.d ρ = some ρr from rfl]
      dsimp only
      rw [show mYes ρr [nc (F ++ l.ends)] = .ok true [nc (F ++ l.ends)] from rfl]
      simp only [ev_bd_ok, if_true]
      rw [er]
      simp only [ev_bd_ok]
      rw [if_pos (show [D.bl true].length < lim from h1)]
      rfl
    have e1 : lcL (.nm 4) mYes fe ρ [l.d, r.d] [nc F] [] = .ok [.bl true, .bl true] [nc ((F ++ l.ends) ++ r.ends)] := by
      unfold lcL
      rw [show asg (.nm 4) l.d ρ = some ρl from rfl]
      dsimp only
      rw [show mYes ρl [nc F] = .ok true [nc F] from rfl]
      simp only [ev_bd_ok, if_true]
      rw [el]
      simp only [ev_bd_ok]
      rw [if_pos (show ([] : List D).length < lim from h0)]
      exact e2
    refine denB_rt (ρ1 := ρ) (S1 := [nc (F ++ (T.n l r).ends)]) ?_
    show b_is_topology (d_is_topology n) ρ [nc F] = _
    unfold b_is_topology
    refine (seq_nx (ρ1 := ρ) (S1 := [nc F]) ?_).trans ((seq_nx (ρ1 := ρ) (S1 := [nc F]) ?_).trans ?_)
    · rw [ev_IfS]
      unfold mAndT mTru
      rw [q0]
      rfl
    · rw [ev_IfS]
      unfold mOrT
      rw [q2]
      simp only [ev_bind_ok, Bool.false_eq_true, if_false]
      unfold mNotT mTru
      rw [q1]
      rfl
    · rw [ev_Ret, ev_Bi, ev_Cons, ev_Lc, show mIt (mVar 0) ρ [nc F] = .ok [l.d, r.d] [nc F] from rfl, ev_bind_ok, show wipeE ρ [4] = ρ from rfl, e1]
      rw [List.append_assoc]
      rfl
structure Clk (ps : List P2) (t : T) : Prop where
  pt : ∀ p ∈ ps, Pt p
  fit : Fit ps t
  nd : t.ends.Nodup
  len : t.ends.length = ps.length
theorem Clk.one {ps : List P2} {t : T} (C : Clk ps t) : 1 ≤ ps.length ∧ ps.length ≤ 6 := by
  have := t.h_ends
  have := C.len
  have := C.fit.six
  omega
theorem check_clock_spec {ps : List P2} {t : T} (C : Clk ps t) : d_check_clock [.v (endsD ps), .v t.d] [] = .ok .non [] := by
  obtain ⟨h1, h6⟩ := C.one
  have hh := t.h_ends
  have hlen := C.len
  have k0 := call1 (S := []) (check_ends_spec C.pt h1 h6)
  have k1 := callV3C (S := [nc []]) (n := 0) rfl (is_topology_spec 6 t ps.length (ps.length - 1) [] C.fit.h (by omega) C.fit.lt (by simpa using C.nd) (by simp; omega))
  have e1 : ((ps.length - 1 : Nat) : Int) = (ps.length : Int) - 1 := by omega
  rw [e1] at k1
  rw [List.nil_append] at k1
  let ρ0 : DL.Env := [some (.v (endsD ps)), some (.v t.d), none]
  let ρ1 : DL.Env := [some (.v (endsD ps)), some (.v t.d), some (.cel 0)]
  have gl : gLen [endsD ps] = some (.int (ps.length : Int)) := by unfold endsD; rw [g_lenT, List.length_map]
  refine denB_nx (ρ1 := ρ1) (S1 := [nc t.ends]) ?_
  show b_check_clock ρ0 [] = _
  unfold b_check_clock
  refine (seq_nx (ρ1 := ρ0) (S1 := []) ?_).trans ((seq_nx (ρ1 := ρ1) (S1 := [nc []]) ?_).trans ?_)
  · unfold mDrop
    rw [show mCall d_check_ends 1 (mConsE (mV (mVar 0)) mNilE) ρ0 [] = .ok .non [] from k0]
    rfl
  · rw [ev_Set]
    unfold mNew
    simp [ρ0, ρ1, nc]
  · have q : mCall (d_is_topology 6) 4 (mConsE (mV (mVar 1)) (mConsE (mV (mBi gLen (mCons (mVar 0) mNil))) (mConsE (mV (mOp gSub (mBi gLen (mCons (mVar 0) mNil)) (mC (.int 1)))) (mConsE (mCel 2) mNilE)))) ρ1 [nc []] = .ok (.bl true) [nc t.ends] := by
      have z : mBi gLen (mCons (mVar 0) mNil) ρ1 [nc []] = .ok (.int (ps.length : Int)) [nc []] := by
        show (lift (gLen [endsD ps]) [nc []]) = _
        rw [gl]; rfl
      rw [ev_Call, ev_ConsE, ev_V, show mVar 1 ρ1 [nc []] = .ok t.d [nc []] from rfl]
      simp only [ev_bind_ok, ev_ConsE, ev_V, z, ev_Op, ev_C]
      exact k1
    have z : mBi gLen (mCons (mVar 0) mNil) ρ1 [nc t.ends] = .ok (.int (ps.length : Int)) [nc t.ends] := by
      show (lift (gLen [endsD ps]) [nc t.ends]) = _
      rw [gl]; rfl
    have z2 : mBiC 2 gLen ρ1 [nc t.ends] = .ok (.int (t.ends.length : Int)) [nc t.ends] := by
      show (match gLen [.lst (t.ends.map fun i : Nat => D.int (i : Int))] with
        | some d => if d.flat = true then Out.ok d [nc t.ends] else Out.bad
        | none => Out.bad) = _
      rw [g_lenL, List.length_map]
      rfl
    have q' : mNotT (mTru (mCall (d_is_topology 6) 4 (mConsE (mV (mVar 1)) (mConsE (mV (mBi gLen (mCons (mVar 0) mNil))) (mConsE (mV (mOp gSub (mBi gLen (mCons (mVar 0) mNil)) (mC (.int 1)))) (mConsE (mCel 2) mNilE)))))) ρ1 [nc []] = .ok false [nc t.ends] := by
      unfold mNotT mTru
      rw [q]; rfl
    rw [ev_IfS]
    unfold mOrT
    rw [q']
    simp only [ev_bind_ok, Bool.false_eq_true, if_false]
    rw [ev_Cmp, z2]
    simp only [ev_bind_ok, z]
    show bindS (Out.ok (decide ((t.ends.length : Int) < (ps.length : Int))) [nc t.ends]) ρ1 _ = _
    rw [decide_eq_false (by omega)]
    rfl
/-- the least wire and delay -/
def lwD (ps : List P2) (t : T) : D := .tup [half (wire ps t), half (reach ps t)]
theorem least_wire_spec {ps : List P2} {t : T} (C : Clk ps t) : d_least_wire [.v (endsD ps), .v t.d] [] = .ok (lwD ps t) [] := by
  have k0 := call2 (S := []) (check_clock_spec C)
  have k1 := call2 (S := []) (twice_wire_spec C.fit)
  have k2 := call2 (S := []) (twice_reach_spec C.fit)
  have k3 := call2 (S := []) (ratio_spec (wire ps t))
  have k4 := call2 (S := []) (ratio_spec (reach ps t))
  have h2 : (2 : Nat) ≤ lim := by rw [lim_is]; decide
  refine denB_rt (ρ1 := [some (.v (endsD ps)), some (.v t.d)]) (S1 := []) ?_
  simp [b_least_wire, ev_Seq, k0, k1, k2, k3, k4, h2, lwD]
end Pr

/-! common: sums, products, draws, loops over lists of anything -/
namespace Pr
open PySem L2 DL
theorem gMul_r {a b : Int} (h : b.natAbs < 18446744073709551616) : gMul (.int a) (.int b) = some (.int (a * b)) := by
  show (if a.natAbs < 18446744073709551616 ∨ b.natAbs < 18446744073709551616 then some (D.int (a * b)) else none) = _
  exact if_pos (Or.inr h)
theorem gMul_l {a b : Int} (h : a.natAbs < 18446744073709551616) : gMul (.int a) (.int b) = some (.int (a * b)) := by
  show (if a.natAbs < 18446744073709551616 ∨ b.natAbs < 18446744073709551616 then some (D.int (a * b)) else none) = _
  exact if_pos (Or.inl h)
def fr (a b : Int) : D := .tup [.int a, .int b]
theorem half_e {n : Int} (h : n % 2 = 0) : half n = fr (n / 2) 1 := if_pos h
theorem half_o {n : Int} (h : ¬ n % 2 = 0) : half n = fr n 2 := if_neg h
theorem half_fr (n : Int) : ∃ a b : Int, half n = fr a b ∧ (b = 1 ∨ b = 2) ∧ 2 * a = n * b := by
  by_cases h : n % 2 = 0
  · exact ⟨n / 2, 1, half_e h, .inl rfl, by omega⟩
  · exact ⟨n, 2, half_o h, .inr rfl, by omega⟩
theorem st_set {i : Nat} {f : DEn} {ρ : DL.Env} {S S1 : Store} {d : D} (h : f ρ S = .ok d S1) : mSet i (mV f) ρ S = .ok (.nx, ρ.set i (some (.v d))) S1 := by rw [ev_Set, ev_V, h]; rfl
def vv (d : D) : Option EV := some (.v d)
theorem t2 {fa fb : DEn} {ρ : DL.Env} {S S1 S2 : Store} {x y : D} (ha : fa ρ S = .ok x S1) (hb : fb ρ S1 = .ok y S2) : mTup (mCons fa (mCons fb mNil)) ρ S = .ok (.tup [x, y]) S2 := by
  have h2 : (2 : Nat) ≤ lim := by rw [lim_is]; decide
  have : mCons fa (mCons fb mNil) ρ S = .ok [x, y] S2 := by rw [ev_Cons, ha, ev_bind_ok, ev_Cons, hb]; rfl
  unfold mTup
  rw [this, ev_bind_ok, if_pos (show ([x, y] : List D).length ≤ lim from h2)]
theorem t3 {fa fb fc : DEn} {ρ : DL.Env} {S S1 S2 S3 : Store} {x y z : D} (ha : fa ρ S = .ok x S1) (hb : fb ρ S1 = .ok y S2) (hc : fc ρ S2 = .ok z S3) : mTup (mCons fa (mCons fb (mCons fc mNil))) ρ S = .ok (.tup [x, y, z]) S3 := by
  have h2 : (3 : Nat) ≤ lim := by rw [lim_is]; decide
  have : mCons fa (mCons fb (mCons fc mNil)) ρ S = .ok [x, y, z] S3 := by rw [ev_Cons, ha, ev_bind_ok, ev_Cons, hb, ev_bind_ok, ev_Cons, hc]; rfl
  unfold mTup
  rw [this, ev_bind_ok, if_pos (show ([x, y, z] : List D).length ≤ lim from h2)]
/-- a draw: the number of ways is reckoned by fb -/
theorem draw {ρ : DL.Env} {c : Cell} {fb : DEn} {B : Int} {i : Nat} (hρ : ρ[i]? = some (some (.cel 0))) (hB : ∀ S, fb ρ S = .ok (.int B) S) (h0 : 0 < B) (h1 : B < 1073741824) (hc : RowOk c) (R : Store) :
    ∃ a c', 0 ≤ a ∧ a < B ∧ RowOk c' ∧ mCall d__law_taken 2 (mConsE (mCel i) (mConsE (mV fb) mNilE)) ρ (some c :: R) = .ok (.int a) (some c' :: R) := by
  obtain ⟨a, c', a0, a1, hc', e⟩ := taken hc h0 h1
  have k := callC2 (S := some c :: R) (n := 0) (F := d__law_taken) rfl e
  refine ⟨a, c', a0, a1, hc', ?_⟩
  have hcel : mCel i ρ (some c :: R) = .ok (.cel 0) (some c :: R) := by unfold mCel; rw [hρ]
  rw [ev_Call, ev_ConsE, hcel]
  simp only [ev_bind_ok, ev_ConsE, ev_V, hB, ev_NilE, List.length_cons, List.length_nil, Nat.zero_add, if_true]
  exact k
/-- a comprehension that draws: each item has what P says -/
theorem drawL {tg : Tg} {fe : DEn} {ρ : DL.Env} {P : D → Prop} {R : Store} (h : ∀ (d : D) (c : Cell), RowOk c → ∃ ρ1 x c', asg tg d ρ = some ρ1 ∧ P x ∧ RowOk c' ∧ fe ρ1 (some c :: R) = .ok x (some c' :: R)) : ∀ (ds : List D) (c : Cell) (acc : List D), RowOk c → acc.length + ds.length ≤ lim →
    ∃ (xs : List D) (c' : Cell), xs.length = ds.length ∧ (∀ x ∈ xs, P x) ∧ RowOk c' ∧ lcL tg mYes fe ρ ds (some c :: R) acc = .ok (acc ++ xs) (some c' :: R)
  | [], c, acc, hc, _ => ⟨[], c, rfl, (fun _ h => by cases h), hc, by simp [lcL]⟩
  | d :: ds, c, acc, hc, hl => by
    have hl' : acc.length + (ds.length + 1) ≤ lim := by simpa using hl
    obtain ⟨ρ1, x, c1, e0, hp, hc1, e1⟩ := h d c hc
    obtain ⟨xs, c2, h1, h2, hc2, e2⟩ := drawL h ds c1 (acc ++ [x]) hc1 (by rw [List.length_append]; simp; omega)
    refine ⟨x :: xs, c2, by simp [h1], fun q hq => ?_, hc2, ?_⟩
    · rcases List.mem_cons.mp hq with rfl | hq
      · exact hp
      · exact h2 q hq
    · unfold lcL
      rw [e0]
      dsimp only
      rw [show mYes ρ1 (some c :: R) = .ok true (some c :: R) from rfl]
      simp only [ev_bd_ok, if_true]
      rw [e1]
      simp only [ev_bd_ok]
      rw [if_pos (by omega), e2]
      simp
/-- a list of values of a kind is the image of a list of data -/
theorem as_map {α : Type} {emb : α → D} {P : α → Prop} : ∀ {xs : List D}, (∀ x ∈ xs, ∃ a, x = emb a ∧ P a) → ∃ as : List α, xs = as.map emb ∧ as.length = xs.length ∧ ∀ a ∈ as, P a
  | [], _ => ⟨[], rfl, rfl, fun _ h => by cases h⟩
  | x :: xs, h => by
    obtain ⟨a, e, p⟩ := h x List.mem_cons_self
    obtain ⟨as, e', hl, hp⟩ := as_map (xs := xs) fun y hy => h y (List.mem_cons_of_mem _ hy)
    refine ⟨a :: as, by rw [e, e']; rfl, by simp [hl], fun b hb => ?_⟩
    rcases List.mem_cons.mp hb with rfl | hb
    · exact p
    · exact hp b hb
end Pr

/-! ratios: numbers of quarters in lowest terms, the law's sums and differences -/
namespace Pr
open PySem L2 DL
theorem gcd4_odd {n : Int} (h : ¬ n % 2 = 0) : Int.gcd n 4 = 1 := by
  show Nat.gcd n.natAbs 4 = 1
  rw [Nat.gcd_comm, Nat.gcd_rec]
  have : n.natAbs % 4 = 1 ∨ n.natAbs % 4 = 3 := by omega
  rcases this with e | e <;> rw [e] <;> rfl
theorem gcd2_odd {n : Int} (h : ¬ n % 2 = 0) : Int.gcd n 2 = 1 := by
  show Nat.gcd n.natAbs 2 = 1
  rw [gcd2, if_neg h]
/-- n / 4 in lowest terms -/
def q4 (n : Int) : D := if n % 4 = 0 then fr (n / 4) 1 else if n % 2 = 0 then fr (n / 2) 2 else fr n 4
theorem q4_is (n : Int) : ∃ a d : Int, q4 n = fr a d ∧ (d = 1 ∨ d = 2 ∨ d = 4) ∧ a * 4 = n * d ∧ Int.gcd a d = 1 := by
  unfold q4
  by_cases h : n % 4 = 0
  · rw [if_pos h]
    exact ⟨n / 4, 1, rfl, .inl rfl, by omega, by show Nat.gcd _ 1 = 1; exact Nat.gcd_one_right _⟩
  · rw [if_neg h]
    by_cases h2 : n % 2 = 0
    · rw [if_pos h2]
      exact ⟨n / 2, 2, rfl, .inr (.inl rfl), by omega, gcd2_odd (by omega)⟩
    · rw [if_neg h2]
      exact ⟨n, 4, rfl, .inr (.inr rfl), rfl, gcd4_odd h2⟩
theorem q4_of {x a d : Int} (hd : d = 1 ∨ d = 2 ∨ d = 4) (h : a * 4 = x * d) (hc : Int.gcd a d = 1) : q4 x = fr a d := by
  have odd : ∀ e : Int, e % 2 = 0 → Int.gcd a e = 1 → ¬ a % 2 = 0 := fun e he hg ha => by
    have h1 : 2 ∣ Int.gcd a e := Nat.dvd_gcd (by show 2 ∣ a.natAbs; omega) (by show 2 ∣ e.natAbs; omega)
    rw [hg] at h1
    exact absurd h1 (by decide)
  unfold q4
  rcases hd with rfl | rfl | rfl
  · rw [if_pos (by omega), show x / 4 = a by omega]
  · have := odd 2 rfl hc
    rw [if_neg (by omega), if_pos (by omega), show x / 2 = a by omega]
  · have := odd 4 rfl hc
    rw [if_neg (by omega), if_neg (by omega), show x = a by omega]
/-- lowest terms are the only ones -/
theorem lowest {t B a d : Int} (hB : 0 < B) (hd : 0 < d) (hc : Int.gcd a d = 1) (h : a * B = t * d) : 0 < Int.gcd t B ∧ t / (Int.gcd t B : Int) = a ∧ B / (Int.gcd t B : Int) = d := by
  have hdv : d ∣ B := by
    have h1 : d ∣ a * B := ⟨t, by rw [h, Int.mul_comm]⟩
    have h2 : Nat.Coprime d.natAbs a.natAbs := by show Int.gcd d a = 1; rw [Int.gcd_comm]; exact hc
    have h3 := Int.natAbs_dvd_natAbs.mpr h1
    rw [Int.natAbs_mul] at h3
    exact Int.natAbs_dvd_natAbs.mp (h2.dvd_of_dvd_mul_left h3)
  obtain ⟨k, rfl⟩ := hdv
  have hk : 0 < k := by
    rcases Int.lt_trichotomy k 0 with z | z | z
    · have := Int.mul_neg_of_pos_of_neg hd z; omega
    · subst z; simp at hB
    · exact z
  have ht : t = a * k := by
    have : (a * k) * d = t * d := by rw [← h, Int.mul_assoc, Int.mul_comm k d]
    exact (Int.eq_of_mul_eq_mul_right (by omega) this).symm
  subst ht
  have hg : (Int.gcd (a * k) (d * k) : Int) = k := by
    rw [Int.gcd_mul_right, hc, Nat.one_mul]
    omega
  refine ⟨?_, ?_, ?_⟩
  · have : (0 : Int) < (Int.gcd (a * k) (d * k) : Int) := by rw [hg]; exact hk
    omega
  · rw [hg, Int.mul_ediv_cancel _ (by omega)]
  · rw [hg, Int.mul_ediv_cancel _ (by omega)]
theorem ratio4 (n : Int) : d_ratio [.v (.int n), .v (.int 4)] [] = .ok (q4 n) [] := by
  obtain ⟨a, d, e, hd, ha, hc⟩ := q4_is n
  obtain ⟨g0, g1, g2⟩ := lowest (t := n) (B := 4) (a := a) (d := d) (by decide) (by omega) hc ha
  have hg4 : Int.gcd n 4 ≤ 4 := Nat.le_of_dvd (by decide) (Nat.gcd_dvd_right _ _)
  have g : gGcd [.int n, .int 4] = some (.int (Int.gcd n 4 : Int)) := rfl
  rw [e]
  have h2 : (2 : Nat) ≤ lim := by rw [lim_is]; decide
  have d1 := g_div (m := n) (n := (Int.gcd n 4 : Int)) ⟨by omega, by omega⟩
  have d2 := g_div (m := 4) (n := (Int.gcd n 4 : Int)) ⟨by omega, by omega⟩
  rw [g1] at d1
  rw [g2] at d2
  refine denB_rt (ρ1 := [some (.v (.int n)), some (.v (.int 4)), some (.v (.int (Int.gcd n 4 : Int)))]) (S1 := []) ?_
  simp [b_ratio, ev_Seq, g, d1, d2, h2, fr]
theorem half_q (n : Int) : half n = q4 (2 * n) := by
  unfold half q4
  by_cases h : n % 2 = 0
  · rw [if_pos h, if_pos (by omega), show 2 * n / 4 = n / 2 by omega]; rfl
  · rw [if_neg h, if_neg (by omega), if_pos (by omega), show 2 * n / 2 = n by omega]; rfl
/-! the law's greatest common divisor -/
theorem gcd_loop : ∀ (k : Nat) (a b : Int), 0 ≤ b → b < k → k ≤ 1000 → ∃ x : DL.Env, x = [vv (.int (if b = 0 then a else (Int.gcd a b : Int))), vv (.int 0)] ∧
    whileL (mCmp gNe (mVar 1) (mC (.int 0))) (mPar2 0 1 (mConsE (mV (mVar 1)) (mConsE (mV (mOp gMod (mBi gInt (mCons (mVar 0) mNil)) (mVar 1))) mNilE))) (k + 1) [vv (.int a), vv (.int b)] [] = .ok (.nx, x) []
  | 0, a, b, h0, h1, _ => by omega
  | k + 1, a, b, h0, h1, hk => by
    refine ⟨_, rfl, ?_⟩
    have c1 : mCmp gNe (mVar 1) (mC (.int 0)) [vv (.int a), vv (.int b)] [] = .ok (!(b == 0)) [] := rfl
    by_cases hb : b = 0
    · subst hb
      unfold whileL
      rw [c1]
      rfl
    · rw [show (b == 0) = false from beq_eq_false_iff_ne.mpr hb] at c1
      have hb0 : 0 < b := by omega
      have e : mPar2 0 1 (mConsE (mV (mVar 1)) (mConsE (mV (mOp gMod (mBi gInt (mCons (mVar 0) mNil)) (mVar 1))) mNilE)) [vv (.int a), vv (.int b)] [] = .ok (.nx, [vv (.int b), vv (.int (a % b))]) [] := by
        have g : mOp gMod (mBi gInt (mCons (mVar 0) mNil)) (mVar 1) [vv (.int a), vv (.int b)] [] = .ok (.int (a % b)) [] := by
          show (lift (gMod (.int a) (.int b)) []) = _
          rw [g_mod hb0]; rfl
        rw [ev_Par2, ev_ConsE, ev_V, show mVar 1 [vv (.int a), vv (.int b)] [] = .ok (.int b) [] from rfl]
        simp only [ev_bind_ok, ev_ConsE, ev_V, g, ev_NilE, ev_bindS_ok]
        rfl
      have m0 := Int.emod_nonneg a (b := b) (by omega)
      have m1 := Int.emod_lt_of_pos a hb0
      obtain ⟨x, ex, hx⟩ := gcd_loop k b (a % b) m0 (by omega) (by omega)
      unfold whileL
      rw [c1, ev_bindS_ok, if_pos (show (!false) = true from rfl), e]
      dsimp only
      rw [hx, ex]
      have eg : (if a % b = 0 then b else (Int.gcd b (a % b) : Int)) = (Int.gcd a b : Int) := by
        by_cases hm : a % b = 0
        · rw [if_pos hm]
          have : Int.gcd a b = b.natAbs := by
            show Nat.gcd a.natAbs b.natAbs = b.natAbs
            refine Nat.gcd_eq_right ?_
            exact Int.natAbs_dvd_natAbs.mpr (Int.dvd_of_emod_eq_zero hm)
          rw [this]; omega
        · rw [if_neg hm]
          have : Int.gcd b (a % b) = Int.gcd a b := by
            rw [Int.emod_def, Int.gcd_sub_mul_left_right, Int.gcd_comm]
          rw [this]
      rw [eg, if_neg hb]
theorem law_gcd_spec {a b : Int} (hb : 0 < b) (h : b < 900) : d__law_gcd [.v (.int a), .v (.int b)] [] = .ok (.int (Int.gcd a b : Int)) [] := by
  obtain ⟨x, ex, hx⟩ := gcd_loop 999 a b (by omega) (by omega) (by decide)
  rw [if_neg (show ¬ b = 0 by omega)] at ex
  subst ex
  refine denB_rt (ρ1 := [vv (.int (Int.gcd a b : Int)), vv (.int 0)]) (S1 := []) ?_
  show b__law_gcd [some (.v (.int a)), some (.v (.int b))] [] = _
  unfold b__law_gcd
  exact (seq_nx hx).trans rfl
/-- the law's sum of two ratios -/
theorem plus_fr {a1 d1 a2 d2 a d : Int} (h1 : 0 < d1 ∧ d1 ≤ 4) (h2 : 0 < d2 ∧ d2 ≤ 4) (hd : 0 < d) (hc : Int.gcd a d = 1) (h : a * (d1 * d2) = (a1 * d2 + a2 * d1) * d) : d__law_plus [.v (fr a1 d1), .v (fr a2 d2)] [] = .ok (fr a d) [] := by
  have hB : 0 < d1 * d2 := Int.mul_pos h1.1 h2.1
  have hB2 : d1 * d2 ≤ 16 := by
    have : d1 * d2 ≤ 4 * 4 := Int.mul_le_mul h1.2 h2.2 (by omega) (by decide)
    omega
  obtain ⟨g0, g1, g2⟩ := lowest hB hd hc h
  generalize hT : a1 * d2 + a2 * d1 = t at *
  have hg16 : Int.gcd t (d1 * d2) ≤ 16 := by
    have : Int.gcd t (d1 * d2) ≤ (d1 * d2).natAbs := Nat.le_of_dvd (by omega) (Nat.gcd_dvd_right _ _)
    omega
  let g : Int := (Int.gcd t (d1 * d2) : Int)
  let ρ0 : DL.Env := [some (.v (fr a1 d1)), some (.v (fr a2 d2)), none, none, none]
  have mul : ∀ {fa fb : DEn} {x y : Int}, fa ρ0 [] = .ok (.int x) [] → fb ρ0 [] = .ok (.int y) [] → y.natAbs < 18446744073709551616 → mOp gMul fa fb ρ0 [] = .ok (.int (x * y)) [] := fun {fa fb x y} h1 h2 h3 => by
    rw [ev_Op, h1, ev_bind_ok, h2, ev_bind_ok, gMul_r h3]; rfl
  have m1 := mul (fa := mOp gIx (mVar 0) (mC (.int 0))) (fb := mOp gIx (mVar 1) (mC (.int 1))) (x := a1) (y := d2) rfl rfl (by omega)
  have m2 := mul (fa := mOp gIx (mVar 1) (mC (.int 0))) (fb := mOp gIx (mVar 0) (mC (.int 1))) (x := a2) (y := d1) rfl rfl (by omega)
  have m3 := mul (fa := mOp gIx (mVar 0) (mC (.int 1))) (fb := mOp gIx (mVar 1) (mC (.int 1))) (x := d1) (y := d2) rfl rfl (by omega)
  have e1 : mOp gAdd (mOp gMul (mOp gIx (mVar 0) (mC (.int 0))) (mOp gIx (mVar 1) (mC (.int 1)))) (mOp gMul (mOp gIx (mVar 1) (mC (.int 0))) (mOp gIx (mVar 0) (mC (.int 1)))) ρ0 [] = .ok (.int t) [] := by
    rw [ev_Op, m1, ev_bind_ok, m2, ev_bind_ok, g_add, hT]; rfl
  let ρ1 : DL.Env := [some (.v (fr a1 d1)), some (.v (fr a2 d2)), none, some (.v (.int t)), some (.v (.int (d1 * d2)))]
  let ρ2 : DL.Env := [some (.v (fr a1 d1)), some (.v (fr a2 d2)), some (.v (.int g)), some (.v (.int t)), some (.v (.int (d1 * d2)))]
  have s1 : mPar2 3 4 (mConsE (mV (mOp gAdd (mOp gMul (mOp gIx (mVar 0) (mC (.int 0))) (mOp gIx (mVar 1) (mC (.int 1)))) (mOp gMul (mOp gIx (mVar 1) (mC (.int 0))) (mOp gIx (mVar 0) (mC (.int 1)))))) (mConsE (mV (mOp gMul (mOp gIx (mVar 0) (mC (.int 1))) (mOp gIx (mVar 1) (mC (.int 1))))) mNilE)) ρ0 [] = .ok (.nx, ρ1) [] := by
    rw [ev_Par2, ev_ConsE, ev_V, e1]
    simp only [ev_bind_ok, ev_ConsE, ev_V, m3, ev_NilE, ev_bindS_ok]
    rfl
  have k := call2 (S := []) (law_gcd_spec (a := t) hB (by omega))
  have s2 : mSet 2 (mV (mCall d__law_gcd 2 (mConsE (mV (mVar 3)) (mConsE (mV (mVar 4)) mNilE)))) ρ1 [] = .ok (.nx, ρ2) [] := by
    rw [ev_Set, ev_V, show mCall d__law_gcd 2 (mConsE (mV (mVar 3)) (mConsE (mV (mVar 4)) mNilE)) ρ1 [] = .ok (.int g) [] from k]
    rfl
  have v1 := g_div (m := t) (n := g) ⟨by show 0 < (Int.gcd t (d1 * d2) : Int); omega, by show (Int.gcd t (d1 * d2) : Int) < _; omega⟩
  have v2 := g_div (m := d1 * d2) (n := g) ⟨by show 0 < (Int.gcd t (d1 * d2) : Int); omega, by show (Int.gcd t (d1 * d2) : Int) < _; omega⟩
  rw [show t / g = a from g1] at v1
  rw [show d1 * d2 / g = d from g2] at v2
  refine denB_rt (ρ1 := ρ2) (S1 := []) ?_
  show b__law_plus ρ0 [] = _
  unfold b__law_plus
  refine (seq_nx s1).trans ((seq_nx s2).trans ?_)
  have x1 : mOp gDiv (mVar 3) (mVar 2) ρ2 [] = .ok (.int a) [] := by
    show lift (gDiv (.int t) (.int g)) [] = _
    rw [v1]; rfl
  have x2 : mOp gDiv (mVar 4) (mVar 2) ρ2 [] = .ok (.int d) [] := by
    show lift (gDiv (.int (d1 * d2)) (.int g)) [] = _
    rw [v2]; rfl
  rw [ev_Ret, t2 x1 x2]; rfl
theorem plus_q (m n : Int) : d__law_plus [.v (q4 m), .v (q4 n)] [] = .ok (q4 (m + n)) [] := by
  obtain ⟨a1, d1, e1, h1, k1, _⟩ := q4_is m
  obtain ⟨a2, d2, e2, h2, k2, _⟩ := q4_is n
  obtain ⟨a, d, e, h, k, c⟩ := q4_is (m + n)
  rw [e1, e2, e]
  refine plus_fr (by omega) (by omega) (by omega) c ?_
  rcases h1 with rfl | rfl | rfl <;> rcases h2 with rfl | rfl | rfl <;> rcases h with rfl | rfl | rfl <;> omega
theorem minus_q (m n : Int) : d__law_minus [.v (q4 m), .v (q4 n)] [] = .ok (q4 (ab (m - n))) [] := by
  obtain ⟨a1, d1, e1, h1, k1, _⟩ := q4_is m
  obtain ⟨a2, d2, e2, h2, k2, _⟩ := q4_is n
  obtain ⟨a, d, e, h, k, c⟩ := q4_is (m - n)
  have eq : q4 (ab (m - n)) = fr (ab a) d := by
    have hz : ∀ x : Int, ab x = x ∨ ab x = -x := fun x => by unfold ab; split <;> omega
    have key : q4 (-(m - n)) = fr (-a) d := q4_of h (by rcases h with rfl | rfl | rfl <;> omega) (by rw [Int.neg_gcd]; exact c)
    unfold ab
    by_cases hs : m - n < 0
    · rw [if_pos hs, if_pos (by rcases h with rfl | rfl | rfl <;> omega), key]
    · rw [if_neg hs, if_neg (by rcases h with rfl | rfl | rfl <;> omega), e]
  have p : d__law_plus [.v (q4 m), .v (fr (0 - a2) d2)] [] = .ok (q4 (m - n)) [] := by
    rw [e1, e]
    refine plus_fr (by omega) (by omega) (by omega) c ?_
    rcases h1 with rfl | rfl | rfl <;> rcases h2 with rfl | rfl | rfl <;> rcases h with rfl | rfl | rfl <;> omega
  let ρ0 : DL.Env := [some (.v (q4 m)), some (.v (fr a2 d2)), none]
  let ρ1 : DL.Env := [some (.v (q4 m)), some (.v (fr a2 d2)), some (.v (fr a d))]
  rw [eq, e2]
  refine denB_rt (ρ1 := ρ1) (S1 := []) ?_
  show b__law_minus ρ0 [] = _
  unfold b__law_minus
  have s1 : mSet 2 (mV (mCall d__law_plus 2 (mConsE (mV (mVar 0)) (mConsE (mV (mTup (mCons (mOp gSub (mC (.int 0)) (mOp gIx (mVar 1) (mC (.int 0)))) (mCons (mOp gIx (mVar 1) (mC (.int 1))) mNil)))) mNilE)))) ρ0 [] = .ok (.nx, ρ1) [] := by
    have tt : mTup (mCons (mOp gSub (mC (.int 0)) (mOp gIx (mVar 1) (mC (.int 0)))) (mCons (mOp gIx (mVar 1) (mC (.int 1))) mNil)) ρ0 [] = .ok (fr (0 - a2) d2) [] := t2 rfl rfl
    refine (st_set (d := fr a d) (S1 := []) ?_).trans rfl
    rw [ev_Call, ev_ConsE, ev_V, show mVar 0 ρ0 [] = .ok (q4 m) [] from rfl]
    simp only [ev_bind_ok, ev_ConsE, ev_V, tt, ev_NilE, List.length_cons, List.length_nil, Nat.zero_add, if_true]
    rw [call2 p, e]
  refine (seq_nx s1).trans ?_
  have x1 : mBi gAbs (mCons (mOp gIx (mVar 2) (mC (.int 0))) mNil) ρ1 [] = .ok (.int (ab a)) [] := rfl
  have x2 : mOp gIx (mVar 2) (mC (.int 1)) ρ1 [] = .ok (.int d) [] := rfl
  rw [ev_Ret, t2 x1 x2]; rfl
theorem less_q (m n : Int) : d__law_less [.v (q4 m), .v (q4 n)] [] = .ok (.bl (decide (m < n))) [] := by
  obtain ⟨a1, d1, e1, h1, k1, _⟩ := q4_is m
  obtain ⟨a2, d2, e2, h2, k2, _⟩ := q4_is n
  rw [e1, e2]
  let ρ0 : DL.Env := [some (.v (fr a1 d1)), some (.v (fr a2 d2))]
  have mul : ∀ {fa fb : DEn} {x y : Int}, fa ρ0 [] = .ok (.int x) [] → fb ρ0 [] = .ok (.int y) [] → y.natAbs < 18446744073709551616 → mOp gMul fa fb ρ0 [] = .ok (.int (x * y)) [] := fun {fa fb x y} h1 h2 h3 => by
    rw [ev_Op, h1, ev_bind_ok, h2, ev_bind_ok, gMul_r h3]; rfl
  have m1 := mul (fa := mOp gIx (mVar 0) (mC (.int 0))) (fb := mOp gIx (mVar 1) (mC (.int 1))) (x := a1) (y := d2) rfl rfl (by omega)
  have m2 := mul (fa := mOp gIx (mVar 1) (mC (.int 0))) (fb := mOp gIx (mVar 0) (mC (.int 1))) (x := a2) (y := d1) rfl rfl (by omega)
  refine denB_rt (ρ1 := ρ0) (S1 := []) ?_
  show b__law_less ρ0 [] = _
  unfold b__law_less
  rw [ev_Ret, ev_B, ev_Cmp, m1, ev_bind_ok, m2, ev_bind_ok]
  show bindS (Out.ok (D.bl (decide (a1 * d2 < a2 * d1))) []) _ _ = _
  have : decide (a1 * d2 < a2 * d1) = decide (m < n) := by
    apply decide_eq_decide.mpr
    rcases h1 with rfl | rfl | rfl <;> rcases h2 with rfl | rfl | rfl <;> omega
  rw [this]; rfl
/-! equality of ratios -/
theorem fr_okd (a b : Int) : (fr a b).okd = true := rfl
theorem fr_deq (a b c d : Int) : deq (fr a b) (fr c d) = (a == c && (b == d)) := by
  show ((a == c) && ((b == d) && true)) = _
  rw [Bool.and_true]
theorem q4_okd (n : Int) : (q4 n).okd = true := by
  obtain ⟨a, d, e, _⟩ := q4_is n
  rw [e]; rfl
theorem q4_deq (n : Int) : deq (q4 n) (q4 n) = true := by
  obtain ⟨a, d, e, _⟩ := q4_is n
  rw [e, fr_deq]; simp
theorem gNe_q (n : Int) : gNe (q4 n) (q4 n) = some false := by
  show (if _ then some (!deq (q4 n) (q4 n)) else none) = _
  rw [if_pos ⟨q4_okd n, q4_okd n⟩, q4_deq]; rfl
theorem gEq_q (n : Int) : gEq (q4 n) (q4 n) = some true := by
  show (if _ then some (deq (q4 n) (q4 n)) else none) = _
  rw [if_pos ⟨q4_okd n, q4_okd n⟩, q4_deq]
end Pr

/-! k28: where the nodes of a clock lie -/
namespace Pr
open PySem L2 DL
def tp (p : P2) : P2 := (2 * (p.1 + p.2), 2 * (p.1 - p.2))
def hubs (ps : List P2) (t : T) : List (P2 × Int) := (below ps t).map fun p => (tp p, reach ps t)
def nearL (H : List (P2 × Int)) : P2 := (tops (H.map fun h => h.1.1 - h.2), tops (H.map fun h => h.1.2 - h.2))
def near (H : List (P2 × Int)) (ps : List P2) (t : T) : P2 := nearL (H ++ hubs ps t)
structure Nd where
  t : T
  x : Int
  y : Int
  l : Int
def nd (t : T) (s : P2) (l : Int) : Nd := ⟨t, s.1 + s.2, s.1 - s.2, l⟩
def nodes (ps : List P2) : T → P2 → Int → List Nd
  | .e i, s, l => [nd (.e i) s l]
  | .n a b, s, l => nd (.n a b) s l :: (nodes ps a (near [(s, reach ps (.n a b) - reach ps a)] ps a) (reach ps (.n a b) - reach ps a) ++
      nodes ps b (near [(s, reach ps (.n a b) - reach ps b)] ps b) (reach ps (.n a b) - reach ps b))
def T.size : T → Nat
  | .e _ => 1
  | .n a b => a.size + b.size + 1
theorem size_pos : ∀ t : T, 0 < t.size
  | .e _ => Nat.one_pos
  | .n a b => Nat.succ_pos _
theorem size_ends : ∀ t : T, t.size + 1 = 2 * t.ends.length
  | .e _ => rfl
  | .n a b => by
    have h1 := size_ends a
    have h2 := size_ends b
    simp only [T.size, T.ends, List.length_append]
    omega
theorem nodes_len (ps : List P2) : ∀ (t : T) (s : P2) (l : Int), (nodes ps t s l).length = t.size
  | .e i, s, l => rfl
  | .n a b, s, l => by
    simp only [nodes, List.length_cons, List.length_append, nodes_len ps a, nodes_len ps b, T.size]
theorem nodes_head (ps : List P2) : ∀ (t : T) (s : P2) (l : Int), (nodes ps t s l)[0]? = some (nd t s l)
  | .e i, s, l => rfl
  | .n a b, s, l => rfl
/-! each node within the reach of its ends -/
def Ok (ps : List P2) (t : T) (s : P2) : Prop := ∀ p ∈ below ps t, (s.1 ≤ (tp p).1 + reach ps t ∧ (tp p).1 - reach ps t ≤ s.1) ∧ (s.2 ≤ (tp p).2 + reach ps t ∧ (tp p).2 - reach ps t ≤ s.2)
theorem tp_dist (p q : P2) : (tp p).1 - (tp q).1 ≤ 2 * dist p q ∧ (tp p).2 - (tp q).2 ≤ 2 * dist p q := by
  unfold tp dist ab
  simp only
  constructor <;> (repeat' split) <;> omega
theorem reach_ge {ps : List P2} {t : T} {p q : P2} (hp : p ∈ below ps t) (hq : q ∈ below ps t) : dist p q ≤ reach ps t := (reachL_is (below_ne ps t)).2 p hp q hq
theorem tops_le {l : List Int} {b : Int} (hn : l ≠ []) (h : ∀ x ∈ l, x ≤ b) : tops l ≤ b := h _ (top_mem hn).1
theorem ok_root (ps : List P2) (t : T) : Ok ps t (near [] ps t) := by
  intro p hp
  have hn : hubs ps t ≠ [] := fun e => below_ne ps t (List.map_eq_nil_iff.mp e)
  have hm : ∀ p ∈ below ps t, (tp p, reach ps t) ∈ hubs ps t := fun p hp => List.mem_map.mpr ⟨p, hp, rfl⟩
  have e : near [] ps t = nearL (hubs ps t) := rfl
  rw [e]
  refine ⟨⟨?_, ?_⟩, ?_, ?_⟩
  · refine tops_le (by simpa using hn) fun x hx => ?_
    obtain ⟨h, hh, rfl⟩ := List.mem_map.mp hx
    obtain ⟨q, hq, rfl⟩ := List.mem_map.mp hh
    have := (tp_dist q p).1
    have := reach_ge hq hp
    show (tp q).1 - reach ps t ≤ _
    omega
  · exact (top_mem (by simpa using hn)).2 _ (List.mem_map.mpr ⟨_, hm p hp, rfl⟩)
  · refine tops_le (by simpa using hn) fun x hx => ?_
    obtain ⟨h, hh, rfl⟩ := List.mem_map.mp hx
    obtain ⟨q, hq, rfl⟩ := List.mem_map.mp hh
    have := (tp_dist q p).2
    have := reach_ge hq hp
    show (tp q).2 - reach ps t ≤ _
    omega
  · exact (top_mem (by simpa using hn)).2 _ (List.mem_map.mpr ⟨_, hm p hp, rfl⟩)
/-- a part's spot, near its pair's -/
theorem ok_child {ps : List P2} {t c : T} {s : P2} (h : Ok ps t s) (hs : ∀ p ∈ below ps c, p ∈ below ps t) : let l := reach ps t - reach ps c; let z := near [(s, l)] ps c;
    Ok ps c z ∧ (z.1 ≤ s.1 + l ∧ s.1 - l ≤ z.1) ∧ (z.2 ≤ s.2 + l ∧ s.2 - l ≤ z.2) := by
  intro l z
  have hm : ∀ p ∈ below ps c, (tp p, reach ps c) ∈ (s, l) :: hubs ps c := fun p hp => List.mem_cons_of_mem _ (List.mem_map.mpr ⟨p, hp, rfl⟩)
  have ez : z = nearL ((s, l) :: hubs ps c) := rfl
  have n1 : ((s, l) :: hubs ps c).map (fun h => h.1.1 - h.2) ≠ [] := by simp
  have n2 : ((s, l) :: hubs ps c).map (fun h => h.1.2 - h.2) ≠ [] := by simp
  have g1 : ∀ h ∈ (s, l) :: hubs ps c, h.1.1 - h.2 ≤ z.1 := fun h hh => (top_mem n1).2 _ (List.mem_map.mpr ⟨h, hh, rfl⟩)
  have g2 : ∀ h ∈ (s, l) :: hubs ps c, h.1.2 - h.2 ≤ z.2 := fun h hh => (top_mem n2).2 _ (List.mem_map.mpr ⟨h, hh, rfl⟩)
  have up1 : ∀ b, (s.1 - l ≤ b) → (∀ p ∈ below ps c, (tp p).1 - reach ps c ≤ b) → z.1 ≤ b := fun b h1 h2 => tops_le n1 fun x hx => by
    obtain ⟨h, hh, rfl⟩ := List.mem_map.mp hx
    rcases List.mem_cons.mp hh with rfl | hh
    · exact h1
    · obtain ⟨q, hq, rfl⟩ := List.mem_map.mp hh
      exact h2 q hq
  have up2 : ∀ b, (s.2 - l ≤ b) → (∀ p ∈ below ps c, (tp p).2 - reach ps c ≤ b) → z.2 ≤ b := fun b h1 h2 => tops_le n2 fun x hx => by
    obtain ⟨h, hh, rfl⟩ := List.mem_map.mp hx
    rcases List.mem_cons.mp hh with rfl | hh
    · exact h1
    · obtain ⟨q, hq, rfl⟩ := List.mem_map.mp hh
      exact h2 q hq
  have l0 : 0 ≤ l := by
    have := reachL_mono (below_ne ps c) hs
    show 0 ≤ reachL (below ps t) - reachL (below ps c)
    omega
  have hl : l = reach ps t - reach ps c := rfl
  refine ⟨fun p hp => ?_, ⟨?_, ?_⟩, ?_, ?_⟩
  · have hpt := h p (hs p hp)
    refine ⟨⟨up1 _ (by omega) fun q hq => ?_, g1 _ (hm p hp)⟩, up2 _ (by omega) fun q hq => ?_, g2 _ (hm p hp)⟩
    · have := (tp_dist q p).1
      have := reach_ge hq hp
      omega
    · have := (tp_dist q p).2
      have := reach_ge hq hp
      omega
  · exact up1 _ (by omega) fun q hq => by have := h q (hs q hq); omega
  · exact g1 (s, l) List.mem_cons_self
  · exact up2 _ (by omega) fun q hq => by have := h q (hs q hq); omega
  · exact g2 (s, l) List.mem_cons_self
theorem reach_leaf (ps : List P2) (i : Nat) : reach ps (.e i) = 0 := by
  obtain ⟨p, hp, q, hq, e⟩ := (reachL_is (below_ne ps (.e i))).1
  have h1 : p = at' ps i := by simpa [below, T.ends] using hp
  have h2 : q = at' ps i := by simpa [below, T.ends] using hq
  show reachL _ = 0
  rw [e, h1, h2, dist_self]
/-! what the law asks of the rows and of the parents -/
def par : T → Nat → Option Nat → List (Option Nat)
  | .e _, _, p => [p]
  | .n a b, base, p => p :: (par a (base + 1) (some base) ++ par b (base + 1 + a.size) (some base))
theorem par_len : ∀ (t : T) (base : Nat) (p : Option Nat), (par t base p).length = t.size
  | .e _, _, _ => rfl
  | .n a b, base, p => by simp only [par, List.length_cons, List.length_append, par_len a, par_len b, T.size]
theorem par_head : ∀ (t : T) (base : Nat) (p : Option Nat), (par t base p)[0]? = some p
  | .e _, _, _ => rfl
  | .n a b, _, _ => rfl
def Edge (ps : List P2) (u v : Nd) : Prop := v.l = reach ps u.t - reach ps v.t ∧ ab (v.x - u.x) + ab (v.y - u.y) ≤ 2 * v.l
theorem ab_sum {a b l : Int} (h1 : a ≤ l ∧ -l ≤ a) (h2 : b ≤ l ∧ -l ≤ b) : ab (a + b) + ab (a - b) ≤ 2 * l := by
  unfold ab
  split <;> split <;> omega
theorem below_l {ps : List P2} {a b : T} {p : P2} (h : p ∈ below ps a) : p ∈ below ps (.n a b) := by
  obtain ⟨i, hi, e⟩ := List.mem_map.mp h
  exact List.mem_map.mpr ⟨i, List.mem_append.mpr (.inl hi), e⟩
theorem below_r {ps : List P2} {a b : T} {p : P2} (h : p ∈ below ps b) : p ∈ below ps (.n a b) := by
  obtain ⟨i, hi, e⟩ := List.mem_map.mp h
  exact List.mem_map.mpr ⟨i, List.mem_append.mpr (.inr hi), e⟩
theorem edge_of {ps : List P2} {t c : T} {s : P2} {k : Int} (h : Ok ps t s) (hs : ∀ p ∈ below ps c, p ∈ below ps t) : Edge ps (nd t s k) (nd c (near [(s, reach ps t - reach ps c)] ps c) (reach ps t - reach ps c)) := by
  obtain ⟨_, h1, h2⟩ := ok_child h hs
  refine ⟨rfl, ?_⟩
  have e : ∀ z : P2, z.1 + z.2 - (s.1 + s.2) = (z.1 - s.1) + (z.2 - s.2) ∧ z.1 - z.2 - (s.1 - s.2) = (z.1 - s.1) - (z.2 - s.2) := fun z => ⟨by omega, by omega⟩
  show ab (_ + _ - (s.1 + s.2)) + ab (_ - _ - (s.1 - s.2)) ≤ 2 * (reach ps t - reach ps c)
  rw [(e _).1, (e _).2]
  exact ab_sum (by omega) (by omega)
theorem edges (ps : List P2) : ∀ (t : T) (s : P2) (l : Int) (base : Nat) (p : Option Nat), Ok ps t s → ∀ j v, 1 ≤ j → (nodes ps t s l)[j]? = some v →
    ∃ k u, (par t base p)[j]? = some (some (base + k)) ∧ k < j ∧ (nodes ps t s l)[k]? = some u ∧ Edge ps u v
  | .e i, s, l, base, p, ok, j, v, hj, hv => by
    obtain ⟨j, rfl⟩ : ∃ i, j = i + 1 := ⟨j - 1, by omega⟩
    simp [nodes] at hv
  | .n a b, s, l, base, p, ok, j, v, hj, hv => by
    obtain ⟨j, rfl⟩ : ∃ i, j = i + 1 := ⟨j - 1, by omega⟩
    have oa := (ok_child ok (fun p hp => below_l (b := b) hp)).1
    have ob := (ok_child ok (fun p hp => below_r (a := a) hp)).1
    simp only [nodes, List.getElem?_cons_succ] at hv
    simp only [par, List.getElem?_cons_succ]
    by_cases hja : j < a.size
    · rw [List.getElem?_append_left (by rw [nodes_len]; exact hja)] at hv
      rw [List.getElem?_append_left (by rw [par_len]; exact hja)]
      by_cases h0 : j = 0
      · subst h0
        rw [nodes_head] at hv
        obtain rfl := Option.some.inj hv
        exact ⟨0, nd (.n a b) s l, by rw [par_head]; rfl, by omega, rfl, edge_of ok fun p hp => below_l hp⟩
      · obtain ⟨k, u, e1, e2, e3, e4⟩ := edges ps a _ _ (base + 1) (some base) oa j v (by omega) hv
        refine ⟨k + 1, u, by rw [e1]; congr 2; omega, by omega, ?_, e4⟩
        simp only [nodes, List.getElem?_cons_succ]
        rw [List.getElem?_append_left (by rw [nodes_len]; omega)]
        exact e3
    · rw [List.getElem?_append_right (by rw [nodes_len]; omega), nodes_len] at hv
      rw [List.getElem?_append_right (by rw [par_len]; omega), par_len]
      by_cases h0 : j - a.size = 0
      · rw [h0, nodes_head] at hv
        obtain rfl := Option.some.inj hv
        exact ⟨0, nd (.n a b) s l, by rw [h0, par_head]; rfl, by omega, rfl, edge_of ok fun p hp => below_r hp⟩
      · obtain ⟨k, u, e1, e2, e3, e4⟩ := edges ps b _ _ (base + 1 + a.size) (some base) ob (j - a.size) v (by omega) hv
        refine ⟨k + a.size + 1, u, by rw [e1]; congr 2; omega, by omega, ?_, e4⟩
        simp only [nodes, List.getElem?_cons_succ]
        rw [List.getElem?_append_right (by rw [nodes_len]; omega), nodes_len, show k + a.size - a.size = k by omega]
        exact e3
theorem leaves (ps : List P2) : ∀ (t : T) (s : P2) (l : Int), Ok ps t s → ∀ v ∈ nodes ps t s l, ∀ i, v.t = .e i → v.x = 4 * (at' ps i).1 ∧ v.y = 4 * (at' ps i).2
  | .e k, s, l, ok, v, hv, i, e => by
    obtain rfl : v = nd (.e k) s l := by simpa [nodes] using hv
    cases e
    have := ok (at' ps k) (by simp [below, T.ends])
    rw [reach_leaf] at this
    unfold tp at this
    simp only [nd]
    simp only at this
    omega
  | .n a b, s, l, ok, v, hv, i, e => by
    simp only [nodes, List.mem_cons, List.mem_append] at hv
    rcases hv with rfl | hv | hv
    · cases e
    · exact leaves ps a _ _ (ok_child ok (fun p hp => below_l hp)).1 v hv i e
    · exact leaves ps b _ _ (ok_child ok (fun p hp => below_r hp)).1 v hv i e
def T.all : T → List T
  | .e i => [.e i]
  | .n a b => .n a b :: (a.all ++ b.all)
theorem nodes_t (ps : List P2) : ∀ (t : T) (s : P2) (l : Int), (nodes ps t s l).map Nd.t = t.all
  | .e i, s, l => rfl
  | .n a b, s, l => by simp [nodes, T.all, nodes_t ps a, nodes_t ps b, nd]
theorem nodes_sum (ps : List P2) : ∀ (t : T) (s : P2) (l : Int), ((nodes ps t s l).map Nd.l).sum = l + (reach ps t + sumR ps t)
  | .e i, s, l => by simp [nodes, nd, sumR, reach_leaf]
  | .n a b, s, l => by
    simp only [nodes, List.map_cons, List.map_append, List.sum_cons, List.sum_append, nodes_sum ps a, nodes_sum ps b, sumR]
    show l + _ = _
    omega
end Pr

/-! k28: the program's nodes -/
namespace Pr
open PySem L2 DL
theorem t4 {fa fb fc fd : DEn} {ρ : DL.Env} {S : Store} {x y z u : D} (ha : fa ρ S = .ok x S) (hb : fb ρ S = .ok y S) (hc : fc ρ S = .ok z S) (hd : fd ρ S = .ok u S) : mTup (mCons fa (mCons fb (mCons fc (mCons fd mNil)))) ρ S = .ok (.tup [x, y, z, u]) S := by
  have h2 : (4 : Nat) ≤ lim := by rw [lim_is]; decide
  have : mCons fa (mCons fb (mCons fc (mCons fd mNil))) ρ S = .ok [x, y, z, u] S := by rw [ev_Cons, ha, ev_bind_ok, ev_Cons, hb, ev_bind_ok, ev_Cons, hc, ev_bind_ok, ev_Cons, hd]; rfl
  unfold mTup
  rw [this, ev_bind_ok, if_pos (show ([x, y, z, u] : List D).length ≤ lim from h2)]
theorem l1 {fa : DEn} {ρ : DL.Env} {S : Store} {x : D} (ha : fa ρ S = .ok x S) : mLst (mCons fa mNil) ρ S = .ok (.lst [x]) S := by
  have h2 : (1 : Nat) ≤ lim := by rw [lim_is]; decide
  have : mCons fa mNil ρ S = .ok [x] S := by rw [ev_Cons, ha]; rfl
  unfold mLst
  rw [this, ev_bind_ok, if_pos (show ([x] : List D).length ≤ lim from h2)]
theorem cl1 {F : Den} {fa : DEn} {ρ : DL.Env} {S : Store} {x r : D} (ha : fa ρ S = .ok x S) (h : F [.v x] [] = .ok r []) : mCall F 1 (mConsE (mV fa) mNilE) ρ S = .ok r S := by
  rw [ev_Call, ev_ConsE, ev_V, ha]
  simp only [ev_bind_ok, ev_NilE, List.length_cons, List.length_nil, Nat.zero_add, if_true]
  exact call1 h
theorem cl2 {F : Den} {fa fb : DEn} {ρ : DL.Env} {S : Store} {x y r : D} (ha : fa ρ S = .ok x S) (hb : fb ρ S = .ok y S) (h : F [.v x, .v y] [] = .ok r []) : mCall F 2 (mConsE (mV fa) (mConsE (mV fb) mNilE)) ρ S = .ok r S := by
  rw [ev_Call, ev_ConsE, ev_V, ha]
  simp only [ev_bind_ok, ev_ConsE, ev_V, hb, ev_NilE, List.length_cons, List.length_nil, Nat.zero_add, if_true]
  exact call2 h
theorem cl3 {F : Den} {fa fb fc : DEn} {ρ : DL.Env} {S : Store} {x y z r : D} (ha : fa ρ S = .ok x S) (hb : fb ρ S = .ok y S) (hc : fc ρ S = .ok z S) (h : F [.v x, .v y, .v z] [] = .ok r []) : mCall F 3 (mConsE (mV fa) (mConsE (mV fb) (mConsE (mV fc) mNilE))) ρ S = .ok r S := by
  rw [ev_Call, ev_ConsE, ev_V, ha]
  simp only [ev_bind_ok, ev_ConsE, ev_V, hb, hc, ev_NilE, List.length_cons, List.length_nil, Nat.zero_add, if_true]
  exact call3 h
theorem cl4 {F : Den} {fa fb fc fd : DEn} {ρ : DL.Env} {S : Store} {x y z u r : D} (ha : fa ρ S = .ok x S) (hb : fb ρ S = .ok y S) (hc : fc ρ S = .ok z S) (hd : fd ρ S = .ok u S) (h : F [.v x, .v y, .v z, .v u] [] = .ok r []) : mCall F 4 (mConsE (mV fa) (mConsE (mV fb) (mConsE (mV fc) (mConsE (mV fd) mNilE)))) ρ S = .ok r S := by
  rw [ev_Call, ev_ConsE, ev_V, ha]
  simp only [ev_bind_ok, ev_ConsE, ev_V, hb, hc, hd, ev_NilE, List.length_cons, List.length_nil, Nat.zero_add, if_true]
  exact call4 h
theorem opI {g : D → D → Option D} {fa fb : DEn} {ρ : DL.Env} {S : Store} {x y z : D} (ha : fa ρ S = .ok x S) (hb : fb ρ S = .ok y S) (h : g x y = some z) : mOp g fa fb ρ S = .ok z S := by
  rw [ev_Op, ha, ev_bind_ok, hb, ev_bind_ok, h]; rfl
theorem turned_spec (p : P2) : d_turned [.v (pd p)] [] = .ok (pd (tp p)) [] := by
  let ρ1 : DL.Env := [vv (pd p), vv (.int p.1), vv (.int p.2)]
  have m1 : mOp gMul (mC (.int 2)) (mOp gAdd (mVar 1) (mVar 2)) ρ1 [] = .ok (.int (2 * (p.1 + p.2))) [] := opI rfl rfl (gMul_l (by decide))
  have m2 : mOp gMul (mC (.int 2)) (mOp gSub (mVar 1) (mVar 2)) ρ1 [] = .ok (.int (2 * (p.1 - p.2))) [] := opI rfl rfl (gMul_l (by decide))
  refine denB_rt (ρ1 := ρ1) (S1 := []) ?_
  show b_turned [vv (pd p), none, none] [] = _
  unfold b_turned
  refine (seq_nx (ρ1 := ρ1) (S1 := []) rfl).trans ?_
  rw [ev_Ret, t2 m1 m2]; rfl
def hubD (h : P2 × Int) : D := .tup [pd h.1, .int h.2]
theorem spot_near_spec {ps : List P2} {t : T} (F : Fit ps t) {H : List (P2 × Int)} (hH : H.length ≤ 10) : d_spot_near [.v (.lst (H.map hubD)), .v (endsD ps), .v t.d] [] = .ok (pd (near H ps t)) [] := by
  let x0 : Option EV := vv (.lst (H.map hubD))
  let E : Option EV := vv (endsD ps)
  let R : Option EV := vv (.int (reach ps t))
  let ρ0 : DL.Env := [x0, E, vv t.d, none, none, none, none]
  let ρ1 : DL.Env := [x0, E, vv t.d, R, none, none, none]
  have s1 : mSet 3 (mV (mCall d_twice_reach 2 (mConsE (mV (mVar 1)) (mConsE (mV (mVar 2)) mNilE)))) ρ0 [] = .ok (.nx, ρ1) [] := (st_set (cl2 rfl rfl (twice_reach_spec F))).trans rfl
  let A : List (P2 × Int) := H ++ hubs ps t
  have hb6 : (below ps t).length ≤ 6 := by unfold below; rw [List.length_map]; exact F.six
  have hAl : A.length ≤ 16 := by
    show (H ++ hubs ps t).length ≤ 16
    unfold hubs
    rw [List.length_append, List.length_map]; omega
  let ρ2 : DL.Env := [vv (.lst (A.map hubD)), E, vv t.d, R, none, none, none]
  have s2 : mSet 0 (mV (mOp gAdd (mVar 0) (mLc (mIt (mCall (d_ends_below 6) 1 (mConsE (mV (mVar 2)) mNilE))) (.nm 4) mYes (mTup (mCons (mCall d_turned 1 (mConsE (mV (mOp gIx (mVar 1) (mVar 4))) mNilE)) (mCons (mVar 3) mNil))) [4]))) ρ1 [] = .ok (.nx, ρ2) [] := by
    have k : mCall (d_ends_below 6) 1 (mConsE (mV (mVar 2)) mNilE) ρ1 [] = .ok (.lst (t.ends.map fun i : Nat => D.int (i : Int))) [] := cl1 rfl (ends_below_spec 6 t F.h (by have := F.six; omega))
    have e1 : mIt (mCall (d_ends_below 6) 1 (mConsE (mV (mVar 2)) mNilE)) ρ1 [] = .ok (t.ends.map fun i : Nat => D.int (i : Int)) [] := by
      unfold mIt
      rw [k]; rfl
    have l := lcA1 (tg := .nm 4) (fe := mTup (mCons (mCall d_turned 1 (mConsE (mV (mOp gIx (mVar 1) (mVar 4))) mNilE)) (mCons (mVar 3) mNil))) (ρ := ρ1) (S := []) (fun i : Nat => D.int (i : Int)) (fun i => hubD (tp (at' ps i), reach ps t)) t.ends (fun i hi =>
      ⟨[x0, E, vv t.d, R, vv (.int (i : Int)), none, none], rfl, t2 (cl1 (opI rfl rfl (ix_end (F.lt i hi))) (turned_spec _)) rfl⟩) (by rw [lim_is]; have := F.six; omega)
    have e2 : mLc (mIt (mCall (d_ends_below 6) 1 (mConsE (mV (mVar 2)) mNilE))) (.nm 4) mYes (mTup (mCons (mCall d_turned 1 (mConsE (mV (mOp gIx (mVar 1) (mVar 4))) mNilE)) (mCons (mVar 3) mNil))) [4] ρ1 [] = .ok (.lst ((hubs ps t).map hubD)) [] := by
      rw [ev_Lc, e1, ev_bind_ok, show wipeE ρ1 [4] = ρ1 from rfl, l]
      unfold hubs below
      rw [List.map_map, List.map_map]
      rfl
    refine (st_set (opI (z := .lst (A.map hubD)) rfl e2 ?_)).trans rfl
    rw [g_addL (by rw [lim_is, List.length_map, List.length_map]; have : (H ++ hubs ps t).length ≤ 16 := hAl; rw [List.length_append] at this; omega)]
    show _ = some (D.lst ((H ++ hubs ps t).map hubD))
    rw [List.map_append]
  have hne : A ≠ [] := by
    show H ++ hubs ps t ≠ []
    intro e
    have := (List.append_eq_nil_iff.mp e).2
    exact below_ne ps t (List.map_eq_nil_iff.mp this)
  have s3 : ∀ (ix : Int) (f : P2 × Int → Int), (∀ h : P2 × Int, gIx (pd h.1) (.int ix) = some (.int (f h + h.2))) → mBi gMax (mCons (mLc (mIt (mVar 0)) (.tp [(.nm 5), (.nm 6)]) mYes (mOp gSub (mOp gIx (mVar 5) (mC (.int ix))) (mVar 6)) [5, 6]) mNil) ρ2 [] = .ok (.int (tops (A.map f))) [] := fun ix f hf => by
    have l := lcA1 (tg := .tp [(.nm 5), (.nm 6)]) (fe := mOp gSub (mOp gIx (mVar 5) (mC (.int ix))) (mVar 6)) (ρ := ρ2) (S := []) hubD (fun h => D.int (f h)) A (fun h _ =>
      ⟨[vv (.lst (A.map hubD)), E, vv t.d, R, none, vv (pd h.1), vv (.int h.2)], rfl, opI (opI rfl rfl (hf h)) rfl (by rw [g_sub, show f h + h.2 - h.2 = f h by omega])⟩) (by rw [lim_is]; omega)
    have e : (A.map fun h => D.int (f h)) = (A.map f).map D.int := by rw [List.map_map]; rfl
    rw [ev_Bi, ev_Cons, ev_Lc, show mIt (mVar 0) ρ2 [] = .ok (A.map hubD) [] from rfl, ev_bind_ok, show wipeE ρ2 [5, 6] = ρ2 from rfl, l, e]
    simp only [ev_bind_ok, ev_Nil, gMax_top (show A.map f ≠ [] by simpa using hne), ev_lift_some]
  have k1 := s3 0 (fun h => h.1.1 - h.2) fun h => by rw [show h.1.1 - h.2 + h.2 = h.1.1 by omega]; exact ix0 _ _
  have k2 := s3 1 (fun h => h.1.2 - h.2) fun h => by rw [show h.1.2 - h.2 + h.2 = h.1.2 by omega]; exact ix1 _ _
  refine denB_rt (ρ1 := ρ2) (S1 := []) ?_
  show b_spot_near ρ0 [] = _
  unfold b_spot_near
  refine (seq_nx s1).trans ((seq_nx s2).trans ?_)
  rw [ev_Ret, t2 k1 k2]; rfl
def rowN (v : Nd) : D := .tup [v.t.d, q4 v.x, q4 v.y, half v.l]
def nodesD (l : List Nd) : D := .lst (l.map rowN)
def bNode : DSn := (mSeq (mPar2 6 7 (mConsE (mV (mCall d_ratio 2 (mConsE (mV (mOp gAdd (mOp gIx (mVar 2) (mC (.int 0))) (mOp gIx (mVar 2) (mC (.int 1))))) (mConsE (mV (mC (.int 4))) mNilE)))) (mConsE (mV (mCall d_ratio 2 (mConsE (mV (mOp gSub (mOp gIx (mVar 2) (mC (.int 0))) (mOp gIx (mVar 2) (mC (.int 1))))) (mConsE (mV (mC (.int 4))) mNilE)))) mNilE)))
  (mSet 4 (mV (mLst (mCons (mTup (mCons (mVar 1) (mCons (mVar 6) (mCons (mVar 7) (mCons (mCall d_ratio 2 (mConsE (mV (mVar 3)) (mConsE (mV (mC (.int 2))) mNilE))) mNil))))) mNil)))))
def eN (ps : List P2) (t : T) (s : P2) (l : Int) (acc : List Nd) (c x8 : Option EV) : DL.Env := [vv (endsD ps), vv t.d, vv (pd s), vv (.int l), vv (nodesD acc), c, vv (q4 (s.1 + s.2)), vv (q4 (s.1 - s.2)), x8]
theorem node_step (ps : List P2) (t : T) (s : P2) (l : Int) : ∃ ρ1, mPar2 6 7 (mConsE (mV (mCall d_ratio 2 (mConsE (mV (mOp gAdd (mOp gIx (mVar 2) (mC (.int 0))) (mOp gIx (mVar 2) (mC (.int 1))))) (mConsE (mV (mC (.int 4))) mNilE)))) (mConsE (mV (mCall d_ratio 2 (mConsE (mV (mOp gSub (mOp gIx (mVar 2) (mC (.int 0))) (mOp gIx (mVar 2) (mC (.int 1))))) (mConsE (mV (mC (.int 4))) mNilE)))) mNilE)) [vv (endsD ps), vv t.d, vv (pd s), vv (.int l), none, none, none, none, none] [] = .ok (.nx, ρ1) [] ∧
    mSet 4 (mV (mLst (mCons (mTup (mCons (mVar 1) (mCons (mVar 6) (mCons (mVar 7) (mCons (mCall d_ratio 2 (mConsE (mV (mVar 3)) (mConsE (mV (mC (.int 2))) mNilE))) mNil))))) mNil))) ρ1 [] = .ok (.nx, eN ps t s l [nd t s l] none none) [] := by
  refine ⟨[vv (endsD ps), vv t.d, vv (pd s), vv (.int l), none, none, vv (q4 (s.1 + s.2)), vv (q4 (s.1 - s.2)), none], ?_, ?_⟩
  · have a1 : mCall d_ratio 2 (mConsE (mV (mOp gAdd (mOp gIx (mVar 2) (mC (.int 0))) (mOp gIx (mVar 2) (mC (.int 1))))) (mConsE (mV (mC (.int 4))) mNilE)) [vv (endsD ps), vv t.d, vv (pd s), vv (.int l), none, none, none, none, none] [] = .ok (q4 (s.1 + s.2)) [] := cl2 rfl rfl (ratio4 _)
    have a2 : mCall d_ratio 2 (mConsE (mV (mOp gSub (mOp gIx (mVar 2) (mC (.int 0))) (mOp gIx (mVar 2) (mC (.int 1))))) (mConsE (mV (mC (.int 4))) mNilE)) [vv (endsD ps), vv t.d, vv (pd s), vv (.int l), none, none, none, none, none] [] = .ok (q4 (s.1 - s.2)) [] := cl2 rfl rfl (ratio4 _)
    rw [ev_Par2, ev_ConsE, ev_V, a1]
    simp only [ev_bind_ok, ev_ConsE, ev_V, a2, ev_NilE, ev_bindS_ok]
    rfl
  · exact (st_set (l1 (t4 rfl rfl rfl (cl2 rfl rfl (ratio_spec l))))).trans rfl
theorem nodes_of_spec : ∀ (n : Nat) {ps : List P2} (t : T) (s : P2) (l : Int), t.h < n → Fit ps t → d_nodes_of n [.v (endsD ps), .v t.d, .v (pd s), .v (.int l)] [] = .ok (nodesD (nodes ps t s l)) []
  | 0, _, t, _, _, h, _ => absurd h (Nat.not_lt_zero _)
  | n + 1, ps, .e i, s, l, h, F => by
    obtain ⟨ρ1, s1, s2⟩ := node_step ps (.e i) s l
    refine denB_rt (ρ1 := eN ps (.e i) s l [nd (.e i) s l] none none) (S1 := []) ?_
    show b_nodes_of (d_nodes_of n) [vv (endsD ps), vv (T.e i).d, vv (pd s), vv (.int l), none, none, none, none, none] [] = _
    unfold b_nodes_of
    refine (seq_nx s1).trans ((seq_nx s2).trans (seq_rt ?_))
    rw [ev_IfS]
    have : mTru (mIsT "int" (mVar 1)) (eN ps (.e i) s l [nd (.e i) s l] none none) [] = .ok true [] := by
      rw [ev_Tru, ev_IsT]
      show ((lift ((isTy (.int (i : Int)) "int").map D.bl) []).bind fun x S1 => lift x.tru S1) = _
      rw [ty_ii]; rfl
    rw [this]
    rfl
  | n + 1, ps, .n a b, s, l, h, F => by
    simp only [T.h] at h
    obtain ⟨ρ1, s1, s2⟩ := node_step ps (.n a b) s l
    let t : T := .n a b
    let z (c : T) : P2 := near [(s, reach ps t - reach ps c)] ps c
    let ln (c : T) : Int := reach ps t - reach ps c
    let ρv (c : Option EV) (acc : List Nd) (x8 : Option EV) : DL.Env := eN ps t s l acc c x8
    let body : DSn := (mSeq (mSet 8 (mV (mOp gSub (mCall d_twice_reach 2 (mConsE (mV (mVar 0)) (mConsE (mV (mVar 1)) mNilE))) (mCall d_twice_reach 2 (mConsE (mV (mVar 0)) (mConsE (mV (mVar 5)) mNilE))))))
      (mSet 4 (mV (mOp gAdd (mVar 4) (mCall (d_nodes_of n) 4 (mConsE (mV (mVar 0)) (mConsE (mV (mVar 5)) (mConsE (mV (mCall d_spot_near 3 (mConsE (mV (mLst (mCons (mTup (mCons (mVar 2) (mCons (mVar 8) mNil))) mNil))) (mConsE (mV (mVar 0)) (mConsE (mV (mVar 5)) mNilE))))) (mConsE (mV (mVar 8)) mNilE)))))))))
    have stp : ∀ (c : T) (acc : List Nd) (x8 : Option EV), c.h < n → Fit ps c → acc.length ≤ 100 → body (ρv (vv c.d) acc x8) [] = .ok (.nx, ρv (vv c.d) (acc ++ nodes ps c (z c) (ln c)) (vv (.int (ln c)))) [] := fun c acc x8 hc Fc hacc => by
      have k1 : mSet 8 (mV (mOp gSub (mCall d_twice_reach 2 (mConsE (mV (mVar 0)) (mConsE (mV (mVar 1)) mNilE))) (mCall d_twice_reach 2 (mConsE (mV (mVar 0)) (mConsE (mV (mVar 5)) mNilE))))) (ρv (vv c.d) acc x8) [] = .ok (.nx, ρv (vv c.d) acc (vv (.int (ln c)))) [] :=
        (st_set (opI (cl2 rfl rfl (twice_reach_spec F)) (cl2 rfl rfl (twice_reach_spec Fc)) rfl)).trans rfl
      refine (seq_nx k1).trans ?_
      have k2 : mCall d_spot_near 3 (mConsE (mV (mLst (mCons (mTup (mCons (mVar 2) (mCons (mVar 8) mNil))) mNil))) (mConsE (mV (mVar 0)) (mConsE (mV (mVar 5)) mNilE))) (ρv (vv c.d) acc (vv (.int (ln c)))) [] = .ok (pd (z c)) [] :=
        cl3 (l1 (t2 rfl rfl)) rfl rfl (spot_near_spec Fc (H := [(s, ln c)]) (by show 1 ≤ 10; decide))
      have k3 := nodes_of_spec n c (z c) (ln c) hc Fc
      have hsz := size_ends c
      have h6 := Fc.six
      refine (st_set (opI (z := nodesD (acc ++ nodes ps c (z c) (ln c))) rfl (cl4 rfl rfl k2 rfl k3) ?_)).trans rfl
      unfold nodesD
      rw [g_addL (by rw [lim_is, List.length_map, List.length_map, nodes_len]; omega), List.map_append]
    have hsz := size_ends a
    have h6 := F.l.six
    have b1 := stp a [nd t s l] none (by omega) F.l (by show 1 ≤ 100; decide)
    have b2 := stp b ([nd t s l] ++ nodes ps a (z a) (ln a)) (vv (.int (ln a))) (by omega) F.r (by rw [List.length_append, nodes_len, List.length_singleton]; omega)
    let Z : List Nd := [nd t s l] ++ nodes ps a (z a) (ln a) ++ nodes ps b (z b) (ln b)
    have s3 : mFor (mIt (mVar 1)) (.nm 5) body (eN ps t s l [nd t s l] none none) [] = .ok (.nx, ρv (vv b.d) Z (vv (.int (ln b)))) [] := by
      rw [ev_For, show mIt (mVar 1) (eN ps t s l [nd t s l] none none) [] = .ok [a.d, b.d] [] from rfl, ev_bindS_ok]
      exact (forL_step (ρ1 := ρv (vv a.d) [nd t s l] none) rfl b1).trans ((forL_step (ρ1 := ρv (vv b.d) ([nd t s l] ++ nodes ps a (z a) (ln a)) (vv (.int (ln a)))) rfl b2).trans rfl)
    refine denB_rt (ρ1 := ρv (vv b.d) Z (vv (.int (ln b)))) (S1 := []) ?_
    show b_nodes_of (d_nodes_of n) [vv (endsD ps), vv (T.n a b).d, vv (pd s), vv (.int l), none, none, none, none, none] [] = _
    unfold b_nodes_of
    refine (seq_nx s1).trans ((seq_nx s2).trans ((seq_nx (ρ1 := eN ps t s l [nd t s l] none none) (S1 := []) ?_).trans ((seq_nx s3).trans ?_)))
    · rw [ev_IfS]
      have : mTru (mIsT "int" (mVar 1)) (eN ps t s l [nd t s l] none none) [] = .ok false [] := by
        rw [ev_Tru, ev_IsT]
        show ((lift ((isTy (.tup [a.d, b.d]) "int").map D.bl) []).bind fun x S1 => lift x.tru S1) = _
        rw [ty_ti]; rfl
      show bindS (mTru (mIsT "int" (mVar 1)) (eN ps t s l [nd t s l] none none) []) _ _ = _
      rw [this]
      rfl
    · have : Z = nodes ps t s l := by
        show [nd t s l] ++ nodes ps a (z a) (ln a) ++ nodes ps b (z b) (ln b) = nd t s l :: (nodes ps a (z a) (ln a) ++ nodes ps b (z b) (ln b))
        rw [List.append_assoc]; rfl
      rw [this]
      rfl
theorem placed_spec {ps : List P2} {t : T} (C : Clk ps t) : d_placed [.v (endsD ps), .v t.d] [] = .ok (nodesD (nodes ps t (near [] ps t) 0)) [] := by
  let ρ0 : DL.Env := [vv (endsD ps), vv t.d, none]
  let ρ1 : DL.Env := [vv (endsD ps), vv t.d, vv (pd (near [] ps t))]
  have e0 : mLst mNil ρ0 [] = .ok (.lst (([] : List (P2 × Int)).map hubD)) [] := by
    show (if ([] : List D).length ≤ lim then Out.ok (D.lst []) [] else .bad) = _
    exact if_pos (Nat.zero_le _)
  refine denB_rt (ρ1 := ρ1) (S1 := []) ?_
  show b_placed ρ0 [] = _
  unfold b_placed
  refine (seq_nx (ρ1 := ρ0) (S1 := []) ?_).trans ((seq_nx (ρ1 := ρ1) (S1 := []) ?_).trans ?_)
  · unfold mDrop
    rw [cl2 rfl rfl (check_clock_spec C)]
    rfl
  · exact (st_set (cl3 e0 rfl rfl (spot_near_spec C.fit (H := []) (by decide)))).trans rfl
  · rw [ev_Ret, cl4 rfl rfl rfl rfl (nodes_of_spec 6 t (near [] ps t) 0 C.fit.h C.fit)]
    rfl
/-- the law's own list of nodes -/
theorem law_nodes_spec : ∀ (n : Nat) (t : T), t.h < n → t.ends.length ≤ 100 → d__law_nodes n [.v t.d] [] = .ok (.lst (t.all.map T.d)) []
  | 0, t, h, _ => absurd h (Nat.not_lt_zero _)
  | n + 1, .e i, h, hl => by
    have h1 : (1 : Nat) ≤ lim := by rw [lim_is]; decide
    refine denB_rt (ρ1 := [vv (T.e i).d]) (S1 := []) ?_
    show b__law_nodes (d__law_nodes n) [vv (T.e i).d] [] = _
    unfold b__law_nodes
    refine seq_rt ?_
    rw [ev_IfS, ev_NotT, ev_Tru, ev_IsT]
    show bindS (((lift ((isTy (.int (i : Int)) "tuple").map D.bl) []).bind fun x S1 => lift x.tru S1).bind _) _ _ = _
    rw [ty_it]
    show bindS (mLst (mCons (mVar 0) mNil) [vv (T.e i).d] []) [vv (T.e i).d] (fun d S1 => .ok (.rt d, [vv (T.e i).d]) S1) = _
    rw [l1 (fa := mVar 0) (ρ := [vv (T.e i).d]) (S := []) (x := (T.e i).d) rfl]
    rfl
  | n + 1, .n a b, h, hl => by
    simp only [T.h] at h
    simp only [T.ends, List.length_append] at hl
    have k1 := law_nodes_spec n a (by omega) (by omega)
    have k2 := law_nodes_spec n b (by omega) (by omega)
    have al : ∀ t : T, t.all.length = t.size := fun t => by
      have := congrArg List.length (nodes_t [] t (0, 0) 0)
      rw [List.length_map, nodes_len] at this
      exact this.symm
    have z1 := size_ends a
    have z2 := size_ends b
    let ρ : DL.Env := [vv (T.n a b).d]
    refine denB_rt (ρ1 := ρ) (S1 := []) ?_
    show b__law_nodes (d__law_nodes n) ρ [] = _
    unfold b__law_nodes
    refine (seq_nx (ρ1 := ρ) (S1 := []) ?_).trans ?_
    · rw [ev_IfS, ev_NotT, ev_Tru, ev_IsT]
      show bindS (((lift ((isTy (.tup [a.d, b.d]) "tuple").map D.bl) []).bind fun x S1 => lift x.tru S1).bind _) _ _ = _
      rw [ty_tt]
      rfl
    · have i0 : mOp gIx (mVar 0) (mC (.int 0)) ρ [] = .ok a.d [] := opI rfl rfl (ix0 a.d b.d)
      have i1 : mOp gIx (mVar 0) (mC (.int 1)) ρ [] = .ok b.d [] := opI rfl rfl (ix1 a.d b.d)
      have e := opI (g := gAdd) (opI (g := gAdd) (l1 (fa := mVar 0) (ρ := ρ) (S := []) (x := (T.n a b).d) rfl) (cl1 i0 k1) (g_addL (by rw [lim_is, List.length_map, al]; simp; omega))) (cl1 i1 k2) (g_addL (by rw [lim_is, List.length_append, List.length_map, List.length_map, al, al]; simp; omega))
      rw [ev_Ret, e]
      simp [T.all]
end Pr

/-! cells; drawn topologies -/
namespace Pr
open PySem L2 DL
theorem metL {i n : Nat} {g : List D → List D → Option (List D × D)} {fs : DDn} {ρ : DL.Env} {S : Store} {ys ds ds' : List D} {d : D} (h1 : ρ[i]? = some (some (.cel n))) (h2 : S[n]? = some (some (.lst ds))) (h3 : fs ρ S = .ok ys S) (h4 : g ds ys = some (ds', d)) :
    mMet i g fs ρ S = .ok d (S.set n (some (.lst ds'))) := by
  unfold mMet
  rw [h1]
  dsimp only
  rw [h2]
  dsimp only
  rw [h3, ev_bind_ok, h2]
  dsimp only
  rw [h4]
theorem ixC {i n : Nat} {fb : DEn} {ρ : DL.Env} {S : Store} {ds : List D} {k : Int} {d : D} (h1 : ρ[i]? = some (some (.cel n))) (h2 : S[n]? = some (some (.lst ds))) (h3 : fb ρ S = .ok (.int k) S) (h4 : atI ds k = some d) : mIxC i fb ρ S = .ok d S := by
  unfold mIxC
  rw [h1]
  dsimp only
  rw [h3, ev_bind_ok, h2]
  dsimp only
  rw [h4]
  rfl
theorem cmpL {i n : Nat} {g : D → D → Option Bool} {fb : DEn} {ρ : DL.Env} {S : Store} {ds : List D} {y : D} {b : Bool} (h1 : ρ[i]? = some (some (.cel n))) (h2 : S[n]? = some (some (.lst ds))) (h3 : fb ρ S = .ok y S) (h4 : g (.lst ds) y = some b) : mCmpL i g fb ρ S = .ok b S := by
  unfold mCmpL
  rw [h1]
  dsimp only
  rw [h3, ev_bind_ok, h2]
  dsimp only
  rw [h4]
  rfl
theorem itL {i n j : Nat} {fi : DEn} {ρ : DL.Env} {S : Store} {ds : List D} {k : Int} {d : D} (h1 : ρ[i]? = some (some (.cel n))) (h2 : S[n]? = some (some (.lst ds))) (h3 : fi ρ S = .ok (.int k) S) (h4 : ixN ds.length k = some j) : gIt i fi d ρ S = .ok ρ (S.set n (some (.lst (ds.set j d)))) := by
  unfold gIt
  rw [h1]
  dsimp only
  rw [h3, ev_bd_ok, h2]
  dsimp only
  rw [h4]
theorem newCat {i n : Nat} {fb : DVn} {ρ : DL.Env} {S : Store} {ds es : List D} (h1 : ρ[i]? = some (some (.cel n))) (h2 : S[n]? = some (some (.lst ds))) (h3 : fb ρ S = .ok (.v (.lst es)) S) (h4 : ds.length + es.length ≤ lim) : mNewCat (mCel i) fb ρ S = .ok (.cel S.length) (S ++ [some (.lst (ds ++ es))]) := by
  unfold mNewCat mCatWith
  rw [show mCel i ρ S = .ok (.cel n) S by unfold mCel; rw [h1], ev_bind_ok, h3, ev_bind_ok]
  have e1 : lstOf S (.cel n) = some ds := by
    show (match S[n]? with
      | some (some (.lst ds)) => some ds
      | _ => none) = _
    rw [h2]
  have e2 : lstOf S (.v (.lst es)) = some es := rfl
  rw [e1, e2]
  dsimp only
  rw [if_pos h4]
/-- the loop over xs leads from one state to another -/
def Goes (tg : Tg) (body : DSn) (xs : List D) (ρ : DL.Env) (S : Store) (ρ1 : DL.Env) (S1 : Store) : Prop := ∀ ys, forL tg body (xs ++ ys) ρ S = forL tg body ys ρ1 S1
theorem Goes.one {tg : Tg} {body : DSn} {d : D} {ρ ρ1 ρ2 : DL.Env} {S S2 : Store} (h1 : asg tg d ρ = some ρ1) (h2 : body ρ1 S = .ok (.nx, ρ2) S2) : Goes tg body [d] ρ S ρ2 S2 := fun ys => forL_step h1 h2
theorem Goes.trans {tg : Tg} {body : DSn} {xs zs : List D} {ρ ρ1 ρ2 : DL.Env} {S S1 S2 : Store} (h1 : Goes tg body xs ρ S ρ1 S1) (h2 : Goes tg body zs ρ1 S1 ρ2 S2) : Goes tg body (xs ++ zs) ρ S ρ2 S2 := fun ys => by
  rw [List.append_assoc, h1, h2]
theorem Goes.end {tg : Tg} {body : DSn} {xs : List D} {ρ ρ1 : DL.Env} {S S1 : Store} (h : Goes tg body xs ρ S ρ1 S1) : forL tg body xs ρ S = .ok (.nx, ρ1) S1 := by
  have := h []
  rw [List.append_nil] at this
  rw [this]
  rfl
theorem popT {L : List T} {v : Int} (h0 : 0 ≤ v) (h1 : v < L.length) (hl : L.length ≤ lim) : ∃ (j : Nat) (t : T), L[j]? = some t ∧ gPopAt (L.map T.d) [.int v] = some ((L.eraseIdx j).map T.d, t.d) := by
  obtain ⟨j, rfl⟩ : ∃ j : Nat, v = (j : Int) := ⟨v.toNat, by omega⟩
  have hj : j < L.length := by omega
  refine ⟨j, L[j], List.getElem?_eq_getElem hj, ?_⟩
  have e : gPopAt (L.map T.d) [.int (j : Int)] = (ixN (L.map T.d).length j).bind fun k => ((L.map T.d)[k]?).map fun d => ((L.map T.d).eraseIdx k, d) := if_pos (by simpa using hl)
  rw [e, ixN_nat (by simpa using hj)]
  simp [hj, erase_map]
def eT (nb : D) (x3 x4 : Option EV) : DL.Env := [some (.cel 0), some (.v nb), some (.cel 1), x3, x4]
def lT (L : List T) : Option Cell := some (.lst (L.map T.d))
def xP : DEn := (mMet 2 gPopAt (mCons (mCall d__law_taken 2 (mConsE (mCel 0) (mConsE (mV (mBiC 2 gLen)) mNilE))) mNil))
theorem lenT {nb : D} {x3 x4 : Option EV} {c : Option Cell} {L : List T} : mBiC 2 gLen (eT nb x3 x4) [c, lT L] = .ok (.int (L.length : Int)) [c, lT L] := by
  show (match gLen [.lst (L.map T.d)] with
    | some d => if d.flat = true then Out.ok d [c, lT L] else Out.bad
    | none => Out.bad) = _
  rw [g_lenL, List.length_map]
  rfl
theorem xP_ok {nb : D} {x3 x4 : Option EV} {c : Cell} {L : List T} (hc : RowOk c) (hL : 1 ≤ L.length) (hl : L.length ≤ 100) : ∃ (j : Nat) (t : T) (c' : Cell), L[j]? = some t ∧ RowOk c' ∧ xP (eT nb x3 x4) [some c, lT L] = .ok t.d [some c', lT (L.eraseIdx j)] := by
  obtain ⟨v, c', v0, v1, hc', e⟩ := taken hc (m := (L.length : Int)) (by omega) (by omega)
  obtain ⟨j, t, ht, eg⟩ := popT (L := L) v0 v1 (by rw [lim_is]; omega)
  refine ⟨j, t, c', ht, hc', ?_⟩
  have k := callC2 (S := [some c, lT L]) (n := 0) (F := d__law_taken) rfl e
  have e1 : mCall d__law_taken 2 (mConsE (mCel 0) (mConsE (mV (mBiC 2 gLen)) mNilE)) (eT nb x3 x4) [some c, lT L] = .ok (.int v) [some c', lT L] := by
    rw [ev_Call, ev_ConsE, show mCel 0 (eT nb x3 x4) [some c, lT L] = .ok (.cel 0) [some c, lT L] from rfl]
    simp only [ev_bind_ok, ev_ConsE, ev_V, lenT, ev_NilE, List.length_cons, List.length_nil, Nat.zero_add, if_true]
    exact k
  have e2 : mCons (mCall d__law_taken 2 (mConsE (mCel 0) (mConsE (mV (mBiC 2 gLen)) mNilE))) mNil (eT nb x3 x4) [some c, lT L] = .ok [.int v] [some c', lT L] := by
    rw [ev_Cons, e1]; rfl
  show ((mCons (mCall d__law_taken 2 (mConsE (mCel 0) (mConsE (mV (mBiC 2 gLen)) mNilE))) mNil (eT nb x3 x4) [some c, lT L]).bind fun ys S1 => match S1[1]? with
    | some (some (Cell.lst ds)) => match gPopAt ds ys with
      | some (ds', d) => Out.ok d (S1.set 1 (some (Cell.lst ds')))
      | none => Out.bad
    | _ => Out.bad) = _
  rw [e2, ev_bind_ok]
  show (match gPopAt (L.map T.d) [.int v] with
    | some (ds', d) => Out.ok d [some c', some (Cell.lst ds')]
    | none => Out.bad) = _
  rw [eg]
  rfl
def bTop : DSn := (mSeq (mSet 3 (mV xP)) (mSeq (mSet 4 (mV xP)) (mDrop (mMet 2 gApp (mCons (mTup (mCons (mVar 3) (mCons (mVar 4) mNil))) mNil)))))
def cTop : DTn := (mCmp gGt (mBiC 2 gLen) (mC (.int 1)))
theorem cTop_ok {nb : D} {x3 x4 : Option EV} {c : Option Cell} {L : List T} : cTop (eT nb x3 x4) [c, lT L] = .ok (decide (1 < (L.length : Int))) [c, lT L] := by
  unfold cTop
  rw [ev_Cmp, lenT]
  rfl
theorem loopTop {nb : D} {R : List Nat} : ∀ (k n : Nat) (L : List T) (c : Cell) (x3 x4 : Option EV), L.length = k + 1 → k + 1 ≤ n → k ≤ 50 → (L.flatMap T.ends).Perm R → RowOk c →
    ∃ (t : T) (c' : Cell) (y3 y4 : Option EV), whileL cTop bTop n (eT nb x3 x4) [some c, lT L] = .ok (.nx, eT nb y3 y4) [some c', lT [t]] ∧ t.ends.Perm R ∧ RowOk c'
  | 0, n + 1, L, c, x3, x4, hL, _, _, hp, hc => by
    match L, hL with
    | [t], _ =>
      refine ⟨t, c, x3, x4, ?_, by simpa using hp, hc⟩
      unfold whileL
      rw [cTop_ok, ev_bindS_ok]
      rfl
  | k + 1, n + 1, L, c, x3, x4, hL, hn, hk, hp, hc => by
    obtain ⟨j1, t1, c1, g1, hc1, e1⟩ := xP_ok (nb := nb) (x3 := x3) (x4 := x4) hc (L := L) (by omega) (by omega)
    have hj1 : j1 < L.length := by
      rcases Nat.lt_or_ge j1 L.length with h | h
      · exact h
      · rw [List.getElem?_eq_none h] at g1; cases g1
    have l1 : (L.eraseIdx j1).length = k + 1 := by rw [List.length_eraseIdx_of_lt hj1]; omega
    obtain ⟨j2, t2, c2, g2, hc2, e2⟩ := xP_ok (nb := nb) (x3 := some (.v t1.d)) (x4 := x4) hc1 (L := L.eraseIdx j1) (by omega) (by omega)
    have hj2 : j2 < (L.eraseIdx j1).length := by
      rcases Nat.lt_or_ge j2 (L.eraseIdx j1).length with h | h
      · exact h
      · rw [List.getElem?_eq_none h] at g2; cases g2
    let M : List T := (L.eraseIdx j1).eraseIdx j2
    have l2 : M.length = k := by unfold M; rw [List.length_eraseIdx_of_lt hj2]; omega
    have p1 := erase_perm g1
    have p2 := erase_perm g2
    have pM : ((M ++ [T.n t1 t2]).flatMap T.ends).Perm R := by
      refine List.Perm.trans ?_ hp
      have q := (p1.trans (List.Perm.cons t1 p2)).flatMap_right T.ends
      refine List.Perm.trans ?_ q.symm
      rw [List.flatMap_append, List.flatMap_cons, List.flatMap_cons]
      show (M.flatMap T.ends ++ ([T.n t1 t2].flatMap T.ends)).Perm (t1.ends ++ (t2.ends ++ M.flatMap T.ends))
      rw [← List.append_assoc]
      have : [T.n t1 t2].flatMap T.ends = t1.ends ++ t2.ends := by simp [T.ends]
      rw [this]
      exact List.perm_append_comm
    obtain ⟨t, c', y3, y4, e, hpt, hc'⟩ := loopTop (nb := nb) k n (M ++ [T.n t1 t2]) c2 (some (.v t1.d)) (some (.v t2.d)) (by rw [List.length_append, l2]; rfl) (by omega) (by omega) pM hc2
    refine ⟨t, c', y3, y4, ?_, hpt, hc'⟩
    have s1 : mSet 3 (mV xP) (eT nb x3 x4) [some c, lT L] = .ok (.nx, eT nb (some (.v t1.d)) x4) [some c1, lT (L.eraseIdx j1)] := by
      rw [ev_Set, ev_V, e1]; rfl
    have s2 : mSet 4 (mV xP) (eT nb (some (.v t1.d)) x4) [some c1, lT (L.eraseIdx j1)] = .ok (.nx, eT nb (some (.v t1.d)) (some (.v t2.d))) [some c2, lT M] := by
      rw [ev_Set, ev_V, e2]; rfl
    have s3 : mDrop (mMet 2 gApp (mCons (mTup (mCons (mVar 3) (mCons (mVar 4) mNil))) mNil)) (eT nb (some (.v t1.d)) (some (.v t2.d))) [some c2, lT M] = .ok (.nx, eT nb (some (.v t1.d)) (some (.v t2.d))) [some c2, lT (M ++ [T.n t1 t2])] := by
      have h2 : (2 : Nat) ≤ lim := by rw [lim_is]; decide
      have hlim : M.length < lim := by rw [lim_is]; omega
      have z : mMet 2 gApp (mCons (mTup (mCons (mVar 3) (mCons (mVar 4) mNil))) mNil) (eT nb (some (.v t1.d)) (some (.v t2.d))) [some c2, lT M] = .ok .non [some c2, lT (M ++ [T.n t1 t2])] := by
        simp [mMet, eT, lT, gApp, hlim, h2, T.d]
      unfold mDrop
      rw [z]; rfl
    have sb : bTop (eT nb x3 x4) [some c, lT L] = .ok (.nx, eT nb (some (.v t1.d)) (some (.v t2.d))) [some c2, lT (M ++ [T.n t1 t2])] := by
      unfold bTop
      exact (seq_nx s1).trans ((seq_nx s2).trans s3)
    unfold whileL
    rw [cTop_ok, ev_bindS_ok, decide_eq_true (by omega), if_pos rfl, sb]
    exact e
theorem topology_spec {c : Cell} {m : Nat} (hc : RowOk c) (h1 : 1 ≤ m) (h6 : m ≤ 6) : ∃ (t : T) (c' : Cell), d__law_topology [.cel 0, .v (.lst (rgD 0 (m : Int)))] [some c] = .ok t.d [some c'] ∧ t.ends.Perm (List.range m) ∧ RowOk c' := by
  let L : List T := (List.range m).map T.e
  have eL : rgD 0 (m : Int) = L.map T.d := by
    rw [rgD_nat]
    show _ = ((List.range m).map T.e).map T.d
    rw [List.map_map]
    rfl
  have hf : ∀ R : List Nat, (R.map T.e).flatMap T.ends = R := fun R => by
    induction R with
    | nil => rfl
    | cons i R ih => rw [List.map_cons, List.flatMap_cons, ih]; rfl
  obtain ⟨t, c', y3, y4, e, hp, hc'⟩ := loopTop (nb := .lst (rgD 0 (m : Int))) (R := List.range m) (m - 1) 1000 L c none none (by simp [L]; omega) (by omega) (by omega) (by rw [hf]) hc
  refine ⟨t, c', ?_, hp, hc'⟩
  refine denB_rt (ρ1 := eT (.lst (rgD 0 (m : Int))) y3 y4) (S1 := [some c', lT [t]]) ?_
  show b__law_topology [some (.cel 0), some (.v (.lst (rgD 0 (m : Int)))), none, none, none] [some c] = _
  unfold b__law_topology
  have s1 : mSet 2 (mNewOf (mVar 1)) [some (.cel 0), some (.v (.lst (rgD 0 (m : Int)))), none, none, none] [some c] = .ok (.nx, eT (.lst (rgD 0 (m : Int))) none none) [some c, lT L] := by
    have : mNewOf (mVar 1) [some (.cel 0), some (.v (.lst (rgD 0 (m : Int)))), none, none, none] [some c] = .ok (.cel 1) [some c, lT L] := by
      unfold lT
      rw [← eL]
      rfl
    rw [ev_Set, this]
    rfl
  refine (seq_nx s1).trans ((seq_nx e).trans ?_)
  rfl
end Pr

/-! k28: the law's loops -/
namespace Pr
open PySem L2 DL
def nI (i : Nat) : D := .int (i : Int)
/-- the slots of the law: script .. rows, the rest -/
def eL (s m tp en ty at' w dl rs to no ac up le pa wa ga on ot he : Option EV) : DL.Env := [s, some (.cel 0), m, tp, en, ty, at', w, dl, rs, to, no, ac, up, le, pa, wa, ga, on, ot, he, none]
theorem q4_int (x : Int) : q4 (4 * x) = fr x 1 := by
  unfold q4
  rw [if_pos (by omega), show 4 * x / 4 = x by omega]
theorem okd2 (a b c d : Int) : (D.tup [fr a b, fr c d]).okd = true := rfl
theorem gNe_fr (a b c d : Int) : gNe (.tup [fr a b, fr c d]) (.tup [fr a b, fr c d]) = some false := by
  have e : deq (.tup [fr a b, fr c d]) (.tup [fr a b, fr c d]) = true := by
    show (((a == a) && ((b == b) && true)) && (((c == c) && ((d == d) && true)) && true)) = true
    simp
  have h : gNe (.tup [fr a b, fr c d]) (.tup [fr a b, fr c d]) = some (!deq (.tup [fr a b, fr c d]) (.tup [fr a b, fr c d])) := if_pos ⟨okd2 a b c d, okd2 a b c d⟩
  rw [h, e]; rfl
def bTot : DSn := (mSeq (mSet 10 (mV (mCall d__law_plus 2 (mConsE (mV (mVar 10)) (mConsE (mV (mVar 14)) mNilE)))))
  (mIfS (mAndT (mNotT (mTru (mIsT "tuple" (mVar 11)))) (mCmp gNe (mTup (mCons (mVar 12) (mCons (mVar 13) mNil))) (mTup (mCons (mTup (mCons (mOp gIx (mOp gIx (mVar 4) (mVar 11)) (mC (.int 0))) (mCons (mC (.int 1)) mNil))) (mCons (mTup (mCons (mOp gIx (mOp gIx (mVar 4) (mVar 11)) (mC (.int 1))) (mCons (mC (.int 1)) mNil))) mNil))))) (mRet (mC (.bl false))) mSkip))
def T.pair : T → Bool
  | .e _ => false
  | .n _ _ => true
theorem isTup (t : T) {i : Nat} {ρ : DL.Env} {S : Store} (h : mVar i ρ S = .ok t.d S) : mTru (mIsT "tuple" (mVar i)) ρ S = .ok t.pair S := by
  rw [ev_Tru, ev_IsT, h, ev_bind_ok]
  cases t with
  | e j =>
    show ((lift ((isTy (.int (j : Int)) "tuple").map D.bl) S).bind fun x S1 => lift x.tru S1) = _
    rw [ty_it]; rfl
  | n a b =>
    show ((lift ((isTy (.tup [a.d, b.d]) "tuple").map D.bl) S).bind fun x S1 => lift x.tru S1) = _
    rw [ty_tt]; rfl
theorem tot_loop {s m tp ty at' w dl rs pa wa ga on ot he : Option EV} {S : Store} {ps : List P2} : ∀ (vs : List Nd) (k : Int) (no ac up le : Option EV), (∀ v ∈ vs, ∀ i, v.t = .e i → i < ps.length ∧ v.x = 4 * (Pr.at' ps i).1 ∧ v.y = 4 * (Pr.at' ps i).2) →
    ∃ no' ac' up' le', forL (.tp [(.nm 11), (.nm 12), (.nm 13), (.nm 14)]) bTot (vs.map rowN) (eL s m tp (vv (endsD ps)) ty at' w dl rs (vv (q4 k)) no ac up le pa wa ga on ot he) S =
      .ok (.nx, eL s m tp (vv (endsD ps)) ty at' w dl rs (vv (q4 (k + 2 * (vs.map Nd.l).sum))) no' ac' up' le' pa wa ga on ot he) S
  | [], k, no, ac, up, le, _ => ⟨no, ac, up, le, by simp [forL]⟩
  | v :: vs, k, no, ac, up, le, h => by
    let ρ1 : DL.Env := eL s m tp (vv (endsD ps)) ty at' w dl rs (vv (q4 k)) (vv v.t.d) (vv (q4 v.x)) (vv (q4 v.y)) (vv (half v.l)) pa wa ga on ot he
    let ρ2 : DL.Env := eL s m tp (vv (endsD ps)) ty at' w dl rs (vv (q4 (k + 2 * v.l))) (vv v.t.d) (vv (q4 v.x)) (vv (q4 v.y)) (vv (half v.l)) pa wa ga on ot he
    obtain ⟨n', a', u', l', e⟩ := tot_loop (s := s) (m := m) (tp := tp) (ty := ty) (at' := at') (w := w) (dl := dl) (rs := rs) (pa := pa) (wa := wa) (ga := ga) (on := on) (ot := ot) (he := he) (S := S) (ps := ps) vs (k + 2 * v.l) (vv v.t.d) (vv (q4 v.x)) (vv (q4 v.y)) (vv (half v.l)) (fun u hu => h u (List.mem_cons_of_mem _ hu))
    refine ⟨n', a', u', l', ?_⟩
    have p : d__law_plus [.v (q4 k), .v (half v.l)] [] = .ok (q4 (k + 2 * v.l)) [] := by rw [half_q]; exact plus_q k (2 * v.l)
    have s1 : mSet 10 (mV (mCall d__law_plus 2 (mConsE (mV (mVar 10)) (mConsE (mV (mVar 14)) mNilE)))) ρ1 S = .ok (.nx, ρ2) S := (st_set (cl2 rfl rfl p)).trans rfl
    have hh := h v List.mem_cons_self
    have tst : mAndT (mNotT (mTru (mIsT "tuple" (mVar 11)))) (mCmp gNe (mTup (mCons (mVar 12) (mCons (mVar 13) mNil))) (mTup (mCons (mTup (mCons (mOp gIx (mOp gIx (mVar 4) (mVar 11)) (mC (.int 0))) (mCons (mC (.int 1)) mNil))) (mCons (mTup (mCons (mOp gIx (mOp gIx (mVar 4) (mVar 11)) (mC (.int 1))) (mCons (mC (.int 1)) mNil))) mNil)))) ρ2 S = .ok false S := by
      have it := isTup v.t (i := 11) (ρ := ρ2) (S := S) rfl
      rw [ev_AndT, ev_NotT, it]
      cases e : v.t with
      | n a b => rfl
      | e i =>
        obtain ⟨hi, hx, hy⟩ := hh i e
        have g : mOp gIx (mVar 4) (mVar 11) ρ2 S = .ok (pd (Pr.at' ps i)) S := opI rfl (show mVar 11 ρ2 S = .ok (.int (i : Int)) S by show Out.ok v.t.d S = _; rw [e]; rfl) (ix_end hi)
        have x1 : mTup (mCons (mVar 12) (mCons (mVar 13) mNil)) ρ2 S = .ok (.tup [fr (Pr.at' ps i).1 1, fr (Pr.at' ps i).2 1]) S := by
          rw [← q4_int, ← q4_int, ← hx, ← hy]
          exact t2 rfl rfl
        have x2 : mTup (mCons (mTup (mCons (mOp gIx (mOp gIx (mVar 4) (mVar 11)) (mC (.int 0))) (mCons (mC (.int 1)) mNil))) (mCons (mTup (mCons (mOp gIx (mOp gIx (mVar 4) (mVar 11)) (mC (.int 1))) (mCons (mC (.int 1)) mNil))) mNil)) ρ2 S = .ok (.tup [fr (Pr.at' ps i).1 1, fr (Pr.at' ps i).2 1]) S :=
          t2 (t2 (opI g rfl (ix0 _ _)) rfl) (t2 (opI g rfl (ix1 _ _)) rfl)
        simp only [ev_bind_ok, Bool.not_false, if_true]
        rw [ev_Cmp, x1, ev_bind_ok, x2, ev_bind_ok, gNe_fr]
        rfl
    have b : bTot ρ1 S = .ok (.nx, ρ2) S := by
      unfold bTot
      refine (seq_nx s1).trans ?_
      rw [ev_IfS, tst]
      rfl
    have hk : k + 2 * ((v :: vs).map Nd.l).sum = k + 2 * v.l + 2 * (vs.map Nd.l).sum := by
      rw [List.map_cons, List.sum_cons]; omega
    rw [hk]
    exact (forL_step (ρ1 := ρ1) rfl b).trans e
/-! parents -/
def oD : Option Nat → D
  | none => .non
  | some k => .int (k : Int)
def pC (P : List (Option Nat)) : Option Cell := some (.lst (P.map oD))
def wC (W : List Nat) : Option Cell := some (.lst (W.map nI))
def bPar : DSn := (mSeq (mIfS (mCmpL 16 gNe (mLst mNil)) (mAsg (mMet 16 gPop mNil) (gIt 15 (mVar 6))) mSkip)
  (mIfS (mTru (mIsT "tuple" (mOp gIx (mOp gIx (mVar 9) (mVar 6)) (mC (.int 0))))) (mSet 16 (mNewCat (mCel 16) (mV (mLst (mCons (mVar 6) (mCons (mVar 6) mNil)))))) mSkip))
theorem row_at {rows : List Nd} {k : Nat} {v : Nd} (h : rows[k]? = some v) : gIx (nodesD rows) (.int (k : Int)) = some (rowN v) := by
  unfold nodesD
  rw [g_ixL]
  exact atI_nat (by rw [List.getElem?_map, h]; rfl)
theorem row_ix (v : Nd) : gIx (rowN v) (.int 0) = some v.t.d ∧ gIx (rowN v) (.int 1) = some (q4 v.x) ∧ gIx (rowN v) (.int 2) = some (q4 v.y) ∧ gIx (rowN v) (.int 3) = some (half v.l) := by
  unfold rowN
  refine ⟨?_, ?_, ?_, ?_⟩
  · rw [g_ixT]; exact atI_nat (j := 0) rfl
  · rw [g_ixT]; exact atI_nat (j := 1) rfl
  · rw [g_ixT]; exact atI_nat (j := 2) rfl
  · rw [g_ixT]; exact atI_nat (j := 3) rfl
theorem okd_nI (W : List Nat) : gNe (.lst (W.map nI)) (.lst []) = some (decide (W ≠ [])) := gNe_nil W
section
variable {s m tp en ty w dl to no ac up le ga on ot he : Option EV} {rows : List Nd} {c : Option Cell}
/-- the state: parents in cell 1, what waits in cell n -/
def eP (s m tp en ty w dl to no ac up le ga on ot he : Option EV) (rows : List Nd) (at' : Option EV) (n : Nat) : DL.Env := eL s m tp en ty at' w dl (vv (nodesD rows)) to no ac up le (some (.cel 1)) (some (.cel n)) ga on ot he
/-- a store with rows' cell, the parents and what waits at n -/
structure St2 (c : Option Cell) (P : List (Option Nat)) (n : Nat) (W : List Nat) (S : Store) : Prop where
  s0 : S[0]? = some c
  s1 : S[1]? = some (pC P)
  n2 : 2 ≤ n
  sn : S[n]? = some (wC W)
theorem pop_step {P : List (Option Nat)} {n k : Nat} {W : List Nat} {S : Store} {x : Nat} (hS : St2 c P n (W ++ [x]) S) (hk : k < P.length) : ∃ S', St2 c (P.set k (some x)) n W S' ∧
    mIfS (mCmpL 16 gNe (mLst mNil)) (mAsg (mMet 16 gPop mNil) (gIt 15 (mVar 6))) mSkip (eP s m tp en ty w dl to no ac up le ga on ot he rows (vv (nI k)) n) S = .ok (.nx, eP s m tp en ty w dl to no ac up le ga on ot he rows (vv (nI k)) n) S' := by
  let ρ : DL.Env := eP s m tp en ty w dl to no ac up le ga on ot he rows (vv (nI k)) n
  obtain ⟨h0, h1, h2, h3⟩ := hS
  have hnl : n < S.length := (List.getElem?_eq_some_iff.mp h3).1
  have e0 : mLst mNil ρ S = .ok (.lst []) S := by
    show (if ([] : List D).length ≤ lim then Out.ok (D.lst []) S else .bad) = _
    exact if_pos (Nat.zero_le _)
  have tst : mCmpL 16 gNe (mLst mNil) ρ S = .ok true S := cmpL (n := n) rfl h3 e0 (by rw [okd_nI]; simp)
  have ep : gPop ((W ++ [x]).map nI) [] = some (W.map nI, nI x) := by
    show ((((W ++ [x]).map nI)[((W ++ [x]).map nI).length - 1]?).map fun d => (((W ++ [x]).map nI).dropLast, d)) = _
    rw [List.map_append]
    simp
  have mp : mMet 16 gPop mNil ρ S = .ok (nI x) (S.set n (wC W)) := metL rfl h3 rfl ep
  let S1 : Store := S.set n (wC W)
  have g1 : S1[1]? = some (pC P) := by
    show (S.set n (wC W))[1]? = _
    rw [List.getElem?_set_ne (by omega)]; exact h1
  have gi : gIt 15 (mVar 6) (nI x) ρ S1 = .ok ρ (S1.set 1 (some (.lst ((P.map oD).set k (nI x))))) := itL (n := 1) rfl g1 rfl (ixN_nat (by rw [List.length_map]; exact hk))
  refine ⟨S1.set 1 (pC (P.set k (some x))), ⟨?_, ?_, h2, ?_⟩, ?_⟩
  · rw [List.getElem?_set_ne (by omega)]
    show (S.set n (wC W))[0]? = _
    rw [List.getElem?_set_ne (by omega)]; exact h0
  · rw [List.getElem?_set_self (by show 1 < (S.set n (wC W)).length; rw [List.length_set]; omega)]
  · rw [List.getElem?_set_ne (by omega)]
    show (S.set n (wC W))[n]? = _
    rw [List.getElem?_set_self hnl]
  · rw [ev_IfS, tst, ev_bindS_ok, if_pos rfl, ev_Asg, mp, ev_bindS_ok]
    show (match gIt 15 (mVar 6) (nI x) ρ S1 with
      | .ok ρ' S2 => Out.ok (Ctl.nx, ρ') S2
      | _ => .bad) = _
    rw [gi]
    have : (P.map oD).set k (nI x) = (P.set k (some x)).map oD := by rw [List.map_set]; rfl
    rw [this]
    rfl
theorem nopop_step {P : List (Option Nat)} {n k : Nat} {S : Store} (hS : St2 c P n [] S) :
    mIfS (mCmpL 16 gNe (mLst mNil)) (mAsg (mMet 16 gPop mNil) (gIt 15 (mVar 6))) mSkip (eP s m tp en ty w dl to no ac up le ga on ot he rows (vv (nI k)) n) S = .ok (.nx, eP s m tp en ty w dl to no ac up le ga on ot he rows (vv (nI k)) n) S := by
  let ρ : DL.Env := eP s m tp en ty w dl to no ac up le ga on ot he rows (vv (nI k)) n
  have e0 : mLst mNil ρ S = .ok (.lst []) S := by
    show (if ([] : List D).length ≤ lim then Out.ok (D.lst []) S else .bad) = _
    exact if_pos (Nat.zero_le _)
  have tst : mCmpL 16 gNe (mLst mNil) ρ S = .ok false S := cmpL (n := n) rfl hS.sn e0 (by rw [okd_nI]; simp)
  rw [ev_IfS, tst]; rfl
theorem push_step {P : List (Option Nat)} {n k : Nat} {W : List Nat} {S : Store} {v : Nd} (hS : St2 c P n W S) (hv : rows[k]? = some v) (hW : W.length ≤ 1000) : ∃ n' S', St2 c P n' (match v.t with | .e _ => W | .n _ _ => W ++ [k, k]) S' ∧
    mIfS (mTru (mIsT "tuple" (mOp gIx (mOp gIx (mVar 9) (mVar 6)) (mC (.int 0))))) (mSet 16 (mNewCat (mCel 16) (mV (mLst (mCons (mVar 6) (mCons (mVar 6) mNil)))))) mSkip (eP s m tp en ty w dl to no ac up le ga on ot he rows (vv (nI k)) n) S = .ok (.nx, eP s m tp en ty w dl to no ac up le ga on ot he rows (vv (nI k)) n') S' := by
  let ρ : DL.Env := eP s m tp en ty w dl to no ac up le ga on ot he rows (vv (nI k)) n
  have g : mOp gIx (mOp gIx (mVar 9) (mVar 6)) (mC (.int 0)) ρ S = .ok v.t.d S := opI (opI rfl rfl (row_at hv)) rfl (row_ix v).1
  obtain ⟨h0, h1, h2, h3⟩ := hS
  cases e : v.t with
  | e i =>
    refine ⟨n, S, ⟨h0, h1, h2, h3⟩, ?_⟩
    have t : mTru (mIsT "tuple" (mOp gIx (mOp gIx (mVar 9) (mVar 6)) (mC (.int 0)))) ρ S = .ok false S := by
      rw [ev_Tru, ev_IsT, g, ev_bind_ok, e]
      show ((lift ((isTy (.int (i : Int)) "tuple").map D.bl) S).bind fun x S1 => lift x.tru S1) = _
      rw [ty_it]; rfl
    rw [ev_IfS, t]; rfl
  | n a b =>
    have t : mTru (mIsT "tuple" (mOp gIx (mOp gIx (mVar 9) (mVar 6)) (mC (.int 0)))) ρ S = .ok true S := by
      rw [ev_Tru, ev_IsT, g, ev_bind_ok, e]
      show ((lift ((isTy (.tup [a.d, b.d]) "tuple").map D.bl) S).bind fun x S1 => lift x.tru S1) = _
      rw [ty_tt]; rfl
    have h2l : (2 : Nat) ≤ lim := by rw [lim_is]; decide
    have el : mV (mLst (mCons (mVar 6) (mCons (mVar 6) mNil))) ρ S = .ok (.v (.lst [nI k, nI k])) S := by
      rw [ev_V]
      show ((if ([nI k, nI k] : List D).length ≤ lim then Out.ok (D.lst [nI k, nI k]) S else .bad).bind _) = _
      rw [if_pos (show ([nI k, nI k] : List D).length ≤ lim from h2l)]; rfl
    have ec := newCat (i := 16) (n := n) (ρ := ρ) rfl h3 el (by rw [lim_is, List.length_map]; simp; omega)
    refine ⟨S.length, S ++ [wC (W ++ [k, k])], ⟨?_, ?_, ?_, ?_⟩, ?_⟩
    · rw [List.getElem?_append_left (List.getElem?_eq_some_iff.mp h0).1]; exact h0
    · rw [List.getElem?_append_left (List.getElem?_eq_some_iff.mp h1).1]; exact h1
    · have := (List.getElem?_eq_some_iff.mp h3).1; omega
    · rw [List.getElem?_append_right (Nat.le_refl _)]; simp
    · rw [ev_IfS, t, ev_bindS_ok, if_pos rfl, ev_Set, ec]
      unfold wC
      rw [List.map_append]
      rfl
/-- the rows of a tree, one after another -/
theorem par_loop {ps : List P2} : ∀ (t : T) (sp : P2) (l : Int) (A B : List Nd) (n : Nat) (W W' : List Nat) (p : Option Nat) (P P' : List (Option Nat)) (at' : Option EV) (S : Store), rows = A ++ nodes ps t sp l ++ B → ((W = [] ∧ W' = [] ∧ p = none) ∨ ∃ x, W = W' ++ [x] ∧ p = some x) →
    P.length = A.length → St2 c (P ++ List.replicate t.size none ++ P') n W S → W.length + 2 * t.size ≤ 1000 →
    ∃ n' S' at'', St2 c (P ++ par t A.length p ++ P') n' W' S' ∧ Goes (.nm 6) bPar ((List.range' A.length t.size).map nI) (eP s m tp en ty w dl to no ac up le ga on ot he rows at' n) S (eP s m tp en ty w dl to no ac up le ga on ot he rows at'' n') S'
  | .e i, sp, l, A, B, n, W, W', p, P, P', at', S, hr, hw, hP, hS, hl => by
    have hv : rows[A.length]? = some (nd (.e i) sp l) := by
      rw [hr, List.append_assoc, List.getElem?_append_right (Nat.le_refl _)]; simp [nodes]
    rcases hw with ⟨rfl, rfl, rfl⟩ | ⟨x, rfl, rfl⟩
    · have e1 := nopop_step (s := s) (m := m) (tp := tp) (en := en) (ty := ty) (w := w) (dl := dl) (to := to) (no := no) (ac := ac) (up := up) (le := le) (ga := ga) (on := on) (ot := ot) (he := he) (rows := rows) (k := A.length) hS
      obtain ⟨n', S', hS', e2⟩ := push_step (s := s) (m := m) (tp := tp) (en := en) (ty := ty) (w := w) (dl := dl) (to := to) (no := no) (ac := ac) (up := up) (le := le) (ga := ga) (on := on) (ot := ot) (he := he) hS hv (by simp)
      exact ⟨n', S', vv (nI A.length), hS', Goes.one rfl ((seq_nx e1).trans e2)⟩
    · obtain ⟨S1, hS1, e1⟩ := pop_step (s := s) (m := m) (tp := tp) (en := en) (ty := ty) (w := w) (dl := dl) (to := to) (no := no) (ac := ac) (up := up) (le := le) (ga := ga) (on := on) (ot := ot) (he := he) (rows := rows) (k := A.length) hS (by simp [T.size]; omega)
      obtain ⟨n', S', hS', e2⟩ := push_step (s := s) (m := m) (tp := tp) (en := en) (ty := ty) (w := w) (dl := dl) (to := to) (no := no) (ac := ac) (up := up) (le := le) (ga := ga) (on := on) (ot := ot) (he := he) hS1 hv (by simp at hl; omega)
      refine ⟨n', S', vv (nI A.length), ?_, Goes.one rfl ((seq_nx e1).trans e2)⟩
      have : (P ++ List.replicate (T.e i).size none ++ P').set A.length (some x) = P ++ par (.e i) A.length (some x) ++ P' := by
        rw [← hP, List.append_assoc, List.set_append_right _ _ (Nat.le_refl _)]
        simp [T.size, par]
      rw [this] at hS'
      exact hS'
  | .n a b, sp, l, A, B, n, W, W', p, P, P', at', S, hr, hw, hP, hS, hl => by
    have hv : rows[A.length]? = some (nd (.n a b) sp l) := by
      rw [hr, List.append_assoc, List.getElem?_append_right (Nat.le_refl _)]; simp [nodes]
    simp only [T.size] at hl
    have hrep : List.replicate (T.n a b).size (none : Option Nat) = none :: (List.replicate a.size none ++ List.replicate b.size none) := by
      rw [show (T.n a b).size = a.size + b.size + 1 from rfl, List.replicate_succ, List.replicate_append_replicate]
    -- the pair itself
    have first : ∃ n1 S1, St2 c (P ++ [p] ++ (List.replicate a.size none ++ (List.replicate b.size none ++ P'))) n1 (W' ++ [A.length, A.length]) S1 ∧ Goes (.nm 6) bPar [nI A.length] (eP s m tp en ty w dl to no ac up le ga on ot he rows at' n) S (eP s m tp en ty w dl to no ac up le ga on ot he rows (vv (nI A.length)) n1) S1 := by
      rcases hw with ⟨rfl, rfl, rfl⟩ | ⟨x, rfl, rfl⟩
      · have e1 := nopop_step (s := s) (m := m) (tp := tp) (en := en) (ty := ty) (w := w) (dl := dl) (to := to) (no := no) (ac := ac) (up := up) (le := le) (ga := ga) (on := on) (ot := ot) (he := he) (rows := rows) (k := A.length) hS
        obtain ⟨n', S', hS', e2⟩ := push_step (s := s) (m := m) (tp := tp) (en := en) (ty := ty) (w := w) (dl := dl) (to := to) (no := no) (ac := ac) (up := up) (le := le) (ga := ga) (on := on) (ot := ot) (he := he) hS hv (by simp)
        refine ⟨n', S', ?_, Goes.one rfl ((seq_nx e1).trans e2)⟩
        have : P ++ List.replicate (T.n a b).size none ++ P' = P ++ [none] ++ (List.replicate a.size none ++ (List.replicate b.size none ++ P')) := by
          rw [hrep]
          simp only [List.append_assoc, List.cons_append, List.nil_append]
        rw [this] at hS'
        exact hS'
      · obtain ⟨S1, hS1, e1⟩ := pop_step (s := s) (m := m) (tp := tp) (en := en) (ty := ty) (w := w) (dl := dl) (to := to) (no := no) (ac := ac) (up := up) (le := le) (ga := ga) (on := on) (ot := ot) (he := he) (rows := rows) (k := A.length) hS (by simp [T.size]; omega)
        obtain ⟨n', S', hS', e2⟩ := push_step (s := s) (m := m) (tp := tp) (en := en) (ty := ty) (w := w) (dl := dl) (to := to) (no := no) (ac := ac) (up := up) (le := le) (ga := ga) (on := on) (ot := ot) (he := he) hS1 hv (by simp at hl; omega)
        refine ⟨n', S', ?_, Goes.one rfl ((seq_nx e1).trans e2)⟩
        have : (P ++ List.replicate (T.n a b).size none ++ P').set A.length (some x) = P ++ [some x] ++ (List.replicate a.size none ++ (List.replicate b.size none ++ P')) := by
          rw [hrep, ← hP, List.append_assoc, List.set_append_right _ _ (Nat.le_refl _), Nat.sub_self, List.cons_append, List.set_cons_zero]
          simp only [List.append_assoc, List.cons_append, List.nil_append]
        rw [this] at hS'
        exact hS'
    obtain ⟨n1, S1, hS1, G1⟩ := first
    have hWl : W'.length + 2 * (a.size + b.size + 1) ≤ 1000 := by
      rcases hw with ⟨rfl, rfl, rfl⟩ | ⟨x, rfl, rfl⟩
      · exact hl
      · simp at hl; omega
    let za : P2 := near [(sp, reach ps (.n a b) - reach ps a)] ps a
    let zb : P2 := near [(sp, reach ps (.n a b) - reach ps b)] ps b
    let la : Int := reach ps (.n a b) - reach ps a
    let lb : Int := reach ps (.n a b) - reach ps b
    have hA1 : (A ++ [nd (.n a b) sp l]).length = A.length + 1 := by simp
    obtain ⟨n2, S2, at2, hS2, G2⟩ := par_loop (ps := ps) a za la (A ++ [nd (.n a b) sp l]) (nodes ps b zb lb ++ B) n1 (W' ++ [A.length, A.length]) (W' ++ [A.length]) (some A.length) (P ++ [p]) (List.replicate b.size none ++ P') (vv (nI A.length)) S1
      (by rw [hr]; simp [nodes, za, zb, la, lb]) (.inr ⟨A.length, by simp, rfl⟩) (by simp [hP]) (by simpa using hS1) (by simp; omega)
    have hA2 : (A ++ [nd (.n a b) sp l] ++ nodes ps a za la).length = A.length + 1 + a.size := by simp [nodes_len]; omega
    obtain ⟨n3, S3, at3, hS3, G3⟩ := par_loop (ps := ps) b zb lb (A ++ [nd (.n a b) sp l] ++ nodes ps a za la) B n2 (W' ++ [A.length]) W' (some A.length) (P ++ [p] ++ par a (A.length + 1) (some A.length)) P' at2 S2
      (by rw [hr]; simp [nodes, za, zb, la, lb]) (.inr ⟨A.length, rfl, rfl⟩) (by rw [hA2]; simp [hP, par_len]; omega) (by rw [hA1] at hS2; simpa using hS2) (by simp; omega)
    refine ⟨n3, S3, at3, ?_, ?_⟩
    · rw [hA2] at hS3
      have : P ++ par (.n a b) A.length p ++ P' = P ++ [p] ++ par a (A.length + 1) (some A.length) ++ par b (A.length + 1 + a.size) (some A.length) ++ P' := by simp [par]
      rw [this]
      exact hS3
    · rw [hA1] at G2
      rw [hA2] at G3
      have er : (List.range' A.length (T.n a b).size).map nI = [nI A.length] ++ ((List.range' (A.length + 1) a.size).map nI ++ (List.range' (A.length + 1 + a.size) b.size).map nI) := by
        rw [show (T.n a b).size = (a.size + b.size) + 1 from rfl, List.range'_succ, List.map_cons, ← List.map_append, List.range'_append_1]
        rfl
      rw [er]
      exact G1.trans (G2.trans G3)
end
end Pr

/-! k28: wires no shorter than they must be; all ends equally far -/
namespace Pr
open PySem L2 DL
structure RP (ps : List P2) (rows : List Nd) (P : List (Option Nat)) (R : Int) : Prop where
  f0 : P[0]? = some none ∧ ∃ v, rows[0]? = some v ∧ reach ps v.t = R
  f1 : ∀ j v, 1 ≤ j → rows[j]? = some v → ∃ k u, P[j]? = some (some k) ∧ k < j ∧ rows[k]? = some u ∧ Edge ps u v
theorem par_at {P : List (Option Nat)} {j : Nat} {p : Option Nat} (h : P[j]? = some p) : atI (P.map oD) (j : Int) = some (oD p) := atI_nat (by rw [List.getElem?_map, h]; rfl)
def bEdge : DSn := (mSeq (mPar2 18 19 (mConsE (mV (mOp gIx (mVar 9) (mVar 6))) (mConsE (mV (mOp gIx (mVar 9) (mIxC 15 (mVar 6)))) mNilE)))
  (mSeq (mSet 17 (mV (mCall d__law_plus 2 (mConsE (mV (mCall d__law_minus 2 (mConsE (mV (mOp gIx (mVar 18) (mC (.int 1)))) (mConsE (mV (mOp gIx (mVar 19) (mC (.int 1)))) mNilE)))) (mConsE (mV (mCall d__law_minus 2 (mConsE (mV (mOp gIx (mVar 18) (mC (.int 2)))) (mConsE (mV (mOp gIx (mVar 19) (mC (.int 2)))) mNilE)))) mNilE)))))
  (mIfS (mTru (mCall d__law_less 2 (mConsE (mV (mOp gIx (mVar 18) (mC (.int 3)))) (mConsE (mV (mVar 17)) mNilE)))) (mRet (mC (.bl false))) mSkip)))
section
variable {ps : List P2} {rows : List Nd} {P : List (Option Nat)} {R : Int} {s m tp en ty w dl to no ac up le wa ga on ot he : Option EV} {S : Store}
theorem edge_loop (H : RP ps rows P R) (hS : S[1]? = some (pC P)) : ∀ (k j : Nat) (at' ga on ot : Option EV), 1 ≤ j → j + k ≤ rows.length →
    ∃ at2 ga2 on2 ot2, forL (.nm 6) bEdge ((List.range' j k).map nI) (eL s m tp en ty at' w dl (vv (nodesD rows)) to no ac up le (some (.cel 1)) wa ga on ot he) S =
      .ok (.nx, eL s m tp en ty at2 w dl (vv (nodesD rows)) to no ac up le (some (.cel 1)) wa ga2 on2 ot2 he) S
  | 0, j, at', ga, on, ot, hj, hk => ⟨at', ga, on, ot, rfl⟩
  | k + 1, j, at', ga, on, ot, hj, hk => by
    have hv : rows[j]? = some rows[j] := List.getElem?_eq_getElem (by omega)
    generalize rows[j] = v at hv
    obtain ⟨p, u, e1, e2, e3, e4, e5⟩ := H.f1 j v hj hv
    obtain ⟨a2, g2, o2, t2', e⟩ := edge_loop H hS k (j + 1) (vv (nI j)) (vv (q4 (ab (v.x - u.x) + ab (v.y - u.y)))) (vv (rowN v)) (vv (rowN u)) (by omega) (by omega)
    refine ⟨a2, g2, o2, t2', ?_⟩
    let ρ1 : DL.Env := eL s m tp en ty (vv (nI j)) w dl (vv (nodesD rows)) to no ac up le (some (.cel 1)) wa ga on ot he
    let ρ2 : DL.Env := eL s m tp en ty (vv (nI j)) w dl (vv (nodesD rows)) to no ac up le (some (.cel 1)) wa ga (vv (rowN v)) (vv (rowN u)) he
    let ρ3 : DL.Env := eL s m tp en ty (vv (nI j)) w dl (vv (nodesD rows)) to no ac up le (some (.cel 1)) wa (vv (q4 (ab (v.x - u.x) + ab (v.y - u.y)))) (vv (rowN v)) (vv (rowN u)) he
    have i1 : mOp gIx (mVar 9) (mVar 6) ρ1 S = .ok (rowN v) S := opI rfl rfl (row_at hv)
    have i2 : mIxC 15 (mVar 6) ρ1 S = .ok (.int (p : Int)) S := ixC (n := 1) (k := (j : Int)) rfl hS rfl (par_at e1)
    have i3 : mOp gIx (mVar 9) (mIxC 15 (mVar 6)) ρ1 S = .ok (rowN u) S := opI rfl i2 (row_at e3)
    have s1 : mPar2 18 19 (mConsE (mV (mOp gIx (mVar 9) (mVar 6))) (mConsE (mV (mOp gIx (mVar 9) (mIxC 15 (mVar 6)))) mNilE)) ρ1 S = .ok (.nx, ρ2) S := by
      rw [ev_Par2, ev_ConsE, ev_V, i1]
      simp only [ev_bind_ok, ev_ConsE, ev_V, i3, ev_NilE, ev_bindS_ok]
      rfl
    have c1 : mCall d__law_minus 2 (mConsE (mV (mOp gIx (mVar 18) (mC (.int 1)))) (mConsE (mV (mOp gIx (mVar 19) (mC (.int 1)))) mNilE)) ρ2 S = .ok (q4 (ab (v.x - u.x))) S := cl2 (opI rfl rfl (row_ix v).2.1) (opI rfl rfl (row_ix u).2.1) (minus_q _ _)
    have c2 : mCall d__law_minus 2 (mConsE (mV (mOp gIx (mVar 18) (mC (.int 2)))) (mConsE (mV (mOp gIx (mVar 19) (mC (.int 2)))) mNilE)) ρ2 S = .ok (q4 (ab (v.y - u.y))) S := cl2 (opI rfl rfl (row_ix v).2.2.1) (opI rfl rfl (row_ix u).2.2.1) (minus_q _ _)
    have s2 : mSet 17 (mV (mCall d__law_plus 2 (mConsE (mV (mCall d__law_minus 2 (mConsE (mV (mOp gIx (mVar 18) (mC (.int 1)))) (mConsE (mV (mOp gIx (mVar 19) (mC (.int 1)))) mNilE)))) (mConsE (mV (mCall d__law_minus 2 (mConsE (mV (mOp gIx (mVar 18) (mC (.int 2)))) (mConsE (mV (mOp gIx (mVar 19) (mC (.int 2)))) mNilE)))) mNilE)))) ρ2 S = .ok (.nx, ρ3) S := (st_set (cl2 c1 c2 (plus_q _ _))).trans rfl
    have c3 : mCall d__law_less 2 (mConsE (mV (mOp gIx (mVar 18) (mC (.int 3)))) (mConsE (mV (mVar 17)) mNilE)) ρ3 S = .ok (.bl false) S := by
      have := cl2 (F := d__law_less) (fa := mOp gIx (mVar 18) (mC (.int 3))) (fb := mVar 17) (ρ := ρ3) (S := S) (opI rfl rfl (row_ix v).2.2.2) rfl (by rw [half_q]; exact less_q (2 * v.l) (ab (v.x - u.x) + ab (v.y - u.y)))
      rw [this, decide_eq_false (by omega)]
    have s3 : mIfS (mTru (mCall d__law_less 2 (mConsE (mV (mOp gIx (mVar 18) (mC (.int 3)))) (mConsE (mV (mVar 17)) mNilE)))) (mRet (mC (.bl false))) mSkip ρ3 S = .ok (.nx, ρ3) S := by
      rw [ev_IfS, ev_Tru, c3]; rfl
    have b : bEdge ρ1 S = .ok (.nx, ρ3) S := by
      unfold bEdge
      exact (seq_nx s1).trans ((seq_nx s2).trans s3)
    rw [List.range'_succ, List.map_cons]
    exact (forL_step (ρ1 := ρ1) rfl b).trans e
def cWalk : DTn := (mCmp gNotN (mIxC 15 (mVar 20)) (mC .non))
def bWalk : DSn := (mPar2 14 20 (mConsE (mV (mCall d__law_plus 2 (mConsE (mV (mVar 14)) (mConsE (mV (mOp gIx (mOp gIx (mVar 9) (mVar 20)) (mC (.int 3)))) mNilE)))) (mConsE (mV (mIxC 15 (mVar 20))) mNilE)))
theorem walk_up (H : RP ps rows P R) (hS : S[1]? = some (pC P)) {at' : Option EV} : ∀ (f k : Nat) (L : Int) (v : Nd), k < f → rows[k]? = some v → ∃ he', whileL cWalk bWalk f (eL s m tp en ty at' w dl (vv (nodesD rows)) to no ac up (vv (q4 L)) (some (.cel 1)) wa ga on ot (vv (nI k))) S =
      .ok (.nx, eL s m tp en ty at' w dl (vv (nodesD rows)) to no ac up (vv (q4 (L + 2 * (R - reach ps v.t)))) (some (.cel 1)) wa ga on ot he') S
  | 0, k, L, v, h, _ => absurd h (Nat.not_lt_zero _)
  | f + 1, k, L, v, h, hv => by
    let ρ1 : DL.Env := eL s m tp en ty at' w dl (vv (nodesD rows)) to no ac up (vv (q4 L)) (some (.cel 1)) wa ga on ot (vv (nI k))
    by_cases hk : k = 0
    · subst hk
      obtain ⟨p0, v0, e0, eR⟩ := H.f0
      rw [e0] at hv
      obtain rfl := Option.some.inj hv
      have i2 : mIxC 15 (mVar 20) ρ1 S = .ok .non S := ixC (n := 1) (k := ((0 : Nat) : Int)) rfl hS rfl (par_at p0)
      refine ⟨vv (nI 0), ?_⟩
      have c : cWalk ρ1 S = .ok false S := by
        unfold cWalk
        rw [ev_Cmp, i2]; rfl
      unfold whileL
      rw [c, ev_bindS_ok, if_neg Bool.false_ne_true, eR, show L + 2 * (R - R) = L by omega]
    · obtain ⟨p, u, e1, e2, e3, e4, e5⟩ := H.f1 k v (by omega) hv
      obtain ⟨he', e⟩ := walk_up H hS f p (L + 2 * v.l) u (by omega) e3
      refine ⟨he', ?_⟩
      have i2 : mIxC 15 (mVar 20) ρ1 S = .ok (.int (p : Int)) S := ixC (n := 1) (k := (k : Int)) rfl hS rfl (par_at e1)
      have c : cWalk ρ1 S = .ok true S := by
        unfold cWalk
        rw [ev_Cmp, i2]; rfl
      have g : mOp gIx (mOp gIx (mVar 9) (mVar 20)) (mC (.int 3)) ρ1 S = .ok (half v.l) S := opI (opI rfl rfl (row_at hv)) rfl (row_ix v).2.2.2
      have cp : mCall d__law_plus 2 (mConsE (mV (mVar 14)) (mConsE (mV (mOp gIx (mOp gIx (mVar 9) (mVar 20)) (mC (.int 3)))) mNilE)) ρ1 S = .ok (q4 (L + 2 * v.l)) S := cl2 rfl g (by rw [half_q]; exact plus_q L (2 * v.l))
      have b : bWalk ρ1 S = .ok (.nx, eL s m tp en ty at' w dl (vv (nodesD rows)) to no ac up (vv (q4 (L + 2 * v.l))) (some (.cel 1)) wa ga on ot (vv (nI p))) S := by
        unfold bWalk
        rw [ev_Par2, ev_ConsE, ev_V, cp]
        simp only [ev_bind_ok, ev_ConsE, ev_V, i2, ev_NilE, ev_bindS_ok]
        rfl
      unfold whileL
      rw [c, ev_bindS_ok, if_pos rfl, b]
      dsimp only
      rw [e, e4, show L + 2 * (reach ps u.t - reach ps v.t) + 2 * (R - reach ps u.t) = L + 2 * (R - reach ps v.t) by omega]
def bLeaf : DSn := (mIfS (mNotT (mTru (mIsT "tuple" (mOp gIx (mOp gIx (mVar 9) (mVar 6)) (mC (.int 0)))))) (mSeq (mPar2 20 14 (mConsE (mV (mVar 6)) (mConsE (mV (mTup (mCons (mC (.int 0)) (mCons (mC (.int 1)) mNil)))) mNilE)))
  (mSeq (whileL cWalk bWalk 1000)
  (mIfS (mCmp gNe (mVar 14) (mVar 8)) (mRet (mC (.bl false))) mSkip))) mSkip)
theorem leaf_loop (H : RP ps rows P R) (hS : S[1]? = some (pC P)) (hl : rows.length ≤ 900) : ∀ (k j : Nat) (at' le he : Option EV), j + k ≤ rows.length →
    ∃ at2 le2 he2, forL (.nm 6) bLeaf ((List.range' j k).map nI) (eL s m tp en ty at' w (vv (half R)) (vv (nodesD rows)) to no ac up le (some (.cel 1)) wa ga on ot he) S =
      .ok (.nx, eL s m tp en ty at2 w (vv (half R)) (vv (nodesD rows)) to no ac up le2 (some (.cel 1)) wa ga on ot he2) S
  | 0, j, at', le, he, hk => ⟨at', le, he, rfl⟩
  | k + 1, j, at', le, he, hk => by
    have hv : rows[j]? = some rows[j] := List.getElem?_eq_getElem (by omega)
    generalize rows[j] = v at hv
    let ρ1 : DL.Env := eL s m tp en ty (vv (nI j)) w (vv (half R)) (vv (nodesD rows)) to no ac up le (some (.cel 1)) wa ga on ot he
    have g : mOp gIx (mOp gIx (mVar 9) (mVar 6)) (mC (.int 0)) ρ1 S = .ok v.t.d S := opI (opI rfl rfl (row_at hv)) rfl (row_ix v).1
    have b : ∃ le2 he2, bLeaf ρ1 S = .ok (.nx, eL s m tp en ty (vv (nI j)) w (vv (half R)) (vv (nodesD rows)) to no ac up le2 (some (.cel 1)) wa ga on ot he2) S := by
      cases e : v.t with
      | n a b =>
        refine ⟨le, he, ?_⟩
        have t : mTru (mIsT "tuple" (mOp gIx (mOp gIx (mVar 9) (mVar 6)) (mC (.int 0)))) ρ1 S = .ok true S := by
          rw [ev_Tru, ev_IsT, g, ev_bind_ok, e]
          show ((lift ((isTy (.tup [a.d, b.d]) "tuple").map D.bl) S).bind fun x S1 => lift x.tru S1) = _
          rw [ty_tt]; rfl
        unfold bLeaf
        rw [ev_IfS, ev_NotT, t]; rfl
      | e i =>
        have t : mTru (mIsT "tuple" (mOp gIx (mOp gIx (mVar 9) (mVar 6)) (mC (.int 0)))) ρ1 S = .ok false S := by
          rw [ev_Tru, ev_IsT, g, ev_bind_ok, e]
          show ((lift ((isTy (.int (i : Int)) "tuple").map D.bl) S).bind fun x S1 => lift x.tru S1) = _
          rw [ty_it]; rfl
        obtain ⟨he', ew⟩ := walk_up (s := s) (m := m) (tp := tp) (en := en) (ty := ty) (w := w) (dl := vv (half R)) (to := to) (no := no) (ac := ac) (up := up) (wa := wa) (ga := ga) (on := on) (ot := ot) (at' := vv (nI j)) H hS 1000 j 0 v (by omega) hv
        rw [e, reach_leaf] at ew
        refine ⟨vv (q4 (0 + 2 * (R - 0))), he', ?_⟩
        have s1 : mPar2 20 14 (mConsE (mV (mVar 6)) (mConsE (mV (mTup (mCons (mC (.int 0)) (mCons (mC (.int 1)) mNil)))) mNilE)) ρ1 S = .ok (.nx, eL s m tp en ty (vv (nI j)) w (vv (half R)) (vv (nodesD rows)) to no ac up (vv (q4 0)) (some (.cel 1)) wa ga on ot (vv (nI j))) S := by
          have z : mTup (mCons (mC (.int 0)) (mCons (mC (.int 1)) mNil)) ρ1 S = .ok (q4 0) S := t2 rfl rfl
          rw [ev_Par2, ev_ConsE, ev_V, show mVar 6 ρ1 S = .ok (nI j) S from rfl]
          simp only [ev_bind_ok, ev_ConsE, ev_V, z, ev_NilE, ev_bindS_ok]
          rfl
        unfold bLeaf
        rw [ev_IfS, ev_NotT, t, ev_bind_ok, ev_bindS_ok, if_pos (show (!false) = true from rfl)]
        refine (seq_nx s1).trans ((seq_nx ew).trans ?_)
        have ne : gNe (q4 (0 + 2 * (R - 0))) (half R) = some false := by rw [half_q, show 0 + 2 * (R - 0) = 2 * R by omega]; exact gNe_q _
        rw [ev_IfS, ev_Cmp]
        show bindS (lift (gNe (q4 (0 + 2 * (R - 0))) (half R)) S) _ _ = _
        rw [ne]
        rfl
    obtain ⟨l2, h2, b⟩ := b
    obtain ⟨a3, l3, h3, e⟩ := leaf_loop H hS hl k (j + 1) (vv (nI j)) l2 h2 (by omega)
    refine ⟨a3, l3, h3, ?_⟩
    rw [List.range'_succ, List.map_cons]
    exact (forL_step (ρ1 := ρ1) rfl b).trans e
end
/-! equal lists of nodes -/
theorem T.okd : ∀ t : T, t.d.py.canLay0 = true ∧ t.d.py.depth = t.h ∧ PyData.eqv t.d.py t.d.py = true
  | .e i => ⟨rfl, rfl, by show ((i : Int) == (i : Int)) = true; simp⟩
  | .n a b => by
    obtain ⟨a1, a2, a3⟩ := T.okd a
    obtain ⟨b1, b2, b3⟩ := T.okd b
    refine ⟨?_, ?_, ?_⟩
    · show (a.d.py.canLay0 && (b.d.py.canLay0 && true)) = true
      rw [a1, b1]; rfl
    · show max a.d.py.depth (max b.d.py.depth 0) + 1 = max a.h b.h + 1
      rw [a2, b2]; omega
    · show (PyData.eqv a.d.py a.d.py && (PyData.eqv b.d.py b.d.py && true)) = true
      rw [a3, b3]; rfl
theorem gNe_ts {L : List T} (h : ∀ t ∈ L, t.h ≤ 10) : gNe (.lst (L.map T.d)) (.lst (L.map T.d)) = some false := by
  have h1 : ∀ L : List T, (∀ t ∈ L, t.h ≤ 10) → PyData.canLayAll0 (D.pys (L.map T.d)) = true ∧ PyData.depthAll (D.pys (L.map T.d)) ≤ 10 ∧ PyData.eqvAll (D.pys (L.map T.d)) (D.pys (L.map T.d)) = true := fun L => by
    induction L with
    | nil => exact fun _ => ⟨rfl, Nat.zero_le _, rfl⟩
    | cons t L ih =>
      intro h
      obtain ⟨i1, i2, i3⟩ := ih fun u hu => h u (List.mem_cons_of_mem _ hu)
      obtain ⟨a1, a2, a3⟩ := T.okd t
      have ht := h t List.mem_cons_self
      refine ⟨?_, ?_, ?_⟩
      · show (t.d.py.canLay0 && PyData.canLayAll0 (D.pys (L.map T.d))) = true
        rw [a1, i1]; rfl
      · show max t.d.py.depth (PyData.depthAll (D.pys (L.map T.d))) ≤ 10
        rw [a2]; omega
      · show (PyData.eqv t.d.py t.d.py && PyData.eqvAll (D.pys (L.map T.d)) (D.pys (L.map T.d))) = true
        rw [a3, i3]; rfl
  obtain ⟨i1, i2, i3⟩ := h1 L h
  have ok : (D.lst (L.map T.d)).okd = true := by
    show (PyData.canLayAll0 (D.pys (L.map T.d)) && decide (PyData.depthAll (D.pys (L.map T.d)) + 1 ≤ 64)) = true
    rw [i1, decide_eq_true (by omega)]; rfl
  have dq : deq (.lst (L.map T.d)) (.lst (L.map T.d)) = true := i3
  show (if _ then some (!deq (.lst (L.map T.d)) (.lst (L.map T.d))) else none) = _
  rw [if_pos ⟨ok, ok⟩, dq]; rfl
theorem all_h : ∀ (t : T), ∀ u ∈ t.all, u.h ≤ t.h
  | .e i, u, hu => by
    obtain rfl : u = .e i := by simpa [T.all] using hu
    exact Nat.le_refl _
  | .n a b, u, hu => by
    simp only [T.all, List.mem_cons, List.mem_append] at hu
    rcases hu with rfl | hu | hu
    · exact Nat.le_refl _
    · have := all_h a u hu; simp only [T.h]; omega
    · have := all_h b u hu; simp only [T.h]; omega
end Pr

/-! k28: the whole law -/
namespace Pr
open PySem L2 DL
theorem rg1 {f : DEn} {ρ : DL.Env} {S : Store} {n : Nat} (h : f ρ S = .ok (.int (n : Int)) S) (hn : n ≤ 1000000000) : mRg1 f ρ S = .ok ((List.range n).map nI) S := by
  show ((f ρ S).bind _) = _
  rw [h, ev_bind_ok]
  show (if (n : Int) ≤ 1000000000 ∧ -1000000000 ≤ (n : Int) then Out.ok (rgD 0 (n : Int)) S else .bad) = _
  rw [if_pos ⟨by omega, by omega⟩, rgD_nat]
  rfl
theorem rgD_from (a n : Nat) : rgD (a : Int) (n : Int) = (List.range' a (n - a)).map nI := by
  unfold rgD
  rw [show ((n : Int) - (a : Int)).toNat = n - a by omega, List.range'_eq_map_range, List.map_map]
  refine List.map_congr_left fun i _ => ?_
  show D.int ((a : Int) + (i : Int)) = D.int ((a + i : Nat) : Int)
  congr 1
theorem law_true : ∀ ns : List Int, ns.length ≤ 63 → ∃ S', d_law [.v (.rol (ns.map D.int))] [] = .ok (.bl true) S' := by
  intro ns _
  let s : Option EV := vv (.rol (ns.map D.int))
  let N : Option EV := none
  have h0 : RowOk (row ns 0 3828 0) := ⟨ns, 0, 3828, 0, rfl, Int.le_refl _⟩
  let ρ1 : DL.Env := eL s N N N N N N N N N N N N N N N N N N N
  obtain ⟨a, c1, a0, a6, hc1, e1⟩ := draw (ρ := ρ1) (i := 1) (fb := mC (.int 6)) (B := 6) rfl (fun S => rfl) (by decide) (by decide) h0 []
  obtain ⟨m, em⟩ : ∃ m : Nat, (m : Int) = 1 + a := ⟨(1 + a).toNat, by omega⟩
  have hm1 : 1 ≤ m := by omega
  have hm6 : m ≤ 6 := by omega
  let M : Option EV := vv (nI m)
  let ρ2 : DL.Env := eL s M N N N N N N N N N N N N N N N N N N
  have s1 : mSet 1 (mNew (mCons (mVar 0) (mCons (mC (.int 0)) (mCons (mC (.int 3828)) (mCons (mC (.int 0)) mNil))))) [s, N, N, N, N, N, N, N, N, N, N, N, N, N, N, N, N, N, N, N, N, N] [] = .ok (.nx, ρ1) [some (row ns 0 3828 0)] := by
    rw [ev_Set]
    unfold mNew
    simp [s, vv, row, lim_is, ρ1, eL, N]
  have s2 : mSet 2 (mV (mOp gAdd (mC (.int 1)) (mCall d__law_taken 2 (mConsE (mCel 1) (mConsE (mV (mC (.int 6))) mNilE))))) ρ1 [some (row ns 0 3828 0)] = .ok (.nx, ρ2) [some c1] := by
    refine (st_set (d := nI m) (S1 := [some c1]) ?_).trans rfl
    rw [ev_Op, ev_C, ev_bind_ok, e1]; unfold nI; rw [em]; rfl
  obtain ⟨pi, pdd, c2, hpi, hc2, e2⟩ := pick_spec hc1 (ds := [.int 3, .int 10, .int 40]) (by simp) (by decide)
  obtain ⟨top, ht, rfl⟩ : ∃ top : Int, (1 ≤ top ∧ top ≤ 40) ∧ pdd = .int top := by
    match pi, hpi with
    | 0, h => exact ⟨3, by decide, (Option.some.inj h).symm⟩
    | 1, h => exact ⟨10, by decide, (Option.some.inj h).symm⟩
    | 2, h => exact ⟨40, by decide, (Option.some.inj h).symm⟩
    | k + 3, h => simp at h
  let TP : Option EV := vv (.int top)
  let ρ3 : DL.Env := eL s M TP N N N N N N N N N N N N N N N N N
  have s3 : mSet 3 (mV (mCall d__law_pick 2 (mConsE (mCel 1) (mConsE (mV (mLst (mCons (mC (.int 3)) (mCons (mC (.int 10)) (mCons (mC (.int 40)) mNil))))) mNilE)))) ρ2 [some c1] = .ok (.nx, ρ3) [some c2] := by
    have k := callC2 (S := [some c1]) (n := 0) (F := d__law_pick) rfl e2
    have h3 : (3 : Nat) ≤ lim := by rw [lim_is]; decide
    have el : mLst (mCons (mC (.int 3)) (mCons (mC (.int 10)) (mCons (mC (.int 40)) mNil))) ρ2 [some c1] = .ok (.lst [.int 3, .int 10, .int 40]) [some c1] := by
      show (if ([.int 3, .int 10, .int 40] : List D).length ≤ lim then Out.ok (D.lst [.int 3, .int 10, .int 40]) [some c1] else .bad) = _
      exact if_pos h3
    refine (st_set (d := .int top) (S1 := [some c2]) ?_).trans rfl
    rw [ev_Call, ev_ConsE, show mCel 1 ρ2 [some c1] = .ok (.cel 0) [some c1] from rfl]
    simp only [ev_bind_ok, ev_ConsE, ev_V, el, ev_NilE, List.length_cons, List.length_nil, Nat.zero_add, if_true]
    exact k
  obtain ⟨xs, c3, hl3, hp3, hc3, e3⟩ := drawL (tg := .nm 6) (fe := mTup (mCons (mCall d__law_taken 2 (mConsE (mCel 1) (mConsE (mV (mOp gAdd (mVar 3) (mC (.int 1)))) mNilE))) (mCons (mCall d__law_taken 2 (mConsE (mCel 1) (mConsE (mV (mOp gAdd (mVar 3) (mC (.int 1)))) mNilE))) mNil))) (ρ := ρ3) (P := fun x => ∃ p : P2, x = pd p ∧ Pt p) (R := []) (fun d c hc => by
    let ρ' : DL.Env := ρ3.set 6 (some (.v d))
    obtain ⟨a, c1, a0, a1, hc1, e1⟩ := draw (ρ := ρ') (i := 1) (fb := mOp gAdd (mVar 3) (mC (.int 1))) (B := top + 1) rfl (fun S => rfl) (by omega) (by omega) hc []
    obtain ⟨b, c2, b0, b1, hc2, e2⟩ := draw (ρ := ρ') (i := 1) (fb := mOp gAdd (mVar 3) (mC (.int 1))) (B := top + 1) rfl (fun S => rfl) (by omega) (by omega) hc1 []
    exact ⟨ρ', pd (a, b), c2, rfl, ⟨(a, b), rfl, by show 0 ≤ a ∧ a ≤ 40 ∧ 0 ≤ b ∧ b ≤ 40; omega⟩, hc2, t2 e1 e2⟩) ((List.range m).map nI) c2 [] hc2 (by rw [lim_is]; simp; omega)
  obtain ⟨ps, rfl, hpl, hps⟩ := as_map hp3
  have hlen : ps.length = m := by rw [hpl, hl3]; simp
  let E : Option EV := vv (endsD ps)
  have s4 : mSet 4 (mV (mBi gTuple (mCons (mLc (mRg1 (mVar 2)) (.nm 6) mYes (mTup (mCons (mCall d__law_taken 2 (mConsE (mCel 1) (mConsE (mV (mOp gAdd (mVar 3) (mC (.int 1)))) mNilE))) (mCons (mCall d__law_taken 2 (mConsE (mCel 1) (mConsE (mV (mOp gAdd (mVar 3) (mC (.int 1)))) mNilE))) mNil))) [6]) mNil))) ρ3 [some c2] = .ok (.nx, eL s M TP E N N N N N N N N N N N N N N N N) [some c3] := by
    refine (st_set (d := endsD ps) (S1 := [some c3]) ?_).trans rfl
    rw [ev_Bi, ev_Cons, ev_Lc, rg1 (n := m) rfl (by omega), ev_bind_ok, show wipeE ρ3 [6] = ρ3 from rfl, e3]
    rfl
  obtain ⟨t, c4, e4, hp, hc4⟩ := topology_spec hc3 hm1 hm6
  let T' : Option EV := vv t.d
  have s5 : mSet 5 (mV (mCall d__law_topology 2 (mConsE (mCel 1) (mConsE (mV (mListRg (mVar 2))) mNilE)))) (eL s M TP E N N N N N N N N N N N N N N N N) [some c3] = .ok (.nx, eL s M TP E T' N N N N N N N N N N N N N N N) [some c4] := by
    have k : mListRg (mVar 2) (eL s M TP E N N N N N N N N N N N N N N N N) [some c3] = .ok (.lst (rgD 0 (m : Int))) [some c3] := by
      show (if (m : Int) ≤ 1000000 ∧ -1000000 ≤ (m : Int) then Out.ok (D.lst (rgD 0 (m : Int))) [some c3] else .bad) = _
      exact if_pos ⟨by omega, by omega⟩
    have k2 := callC2 (S := [some c3]) (n := 0) (F := d__law_topology) rfl e4
    refine (st_set (d := t.d) (S1 := [some c4]) ?_).trans rfl
    rw [ev_Call, ev_ConsE, show mCel 1 (eL s M TP E N N N N N N N N N N N N N N N N) [some c3] = .ok (.cel 0) [some c3] from rfl]
    simp only [ev_bind_ok, ev_ConsE, ev_V, k, ev_NilE, List.length_cons, List.length_nil, Nat.zero_add, if_true]
    exact k2
  have hmem : ∀ i, i ∈ t.ends ↔ i < m := fun i => by rw [hp.mem_iff, List.mem_range]
  have C : Clk ps t := by
    refine ⟨hps, ⟨fun i hi => by rw [hlen]; exact (hmem i).mp hi, ?_⟩, hp.nodup_iff.mpr List.nodup_range, ?_⟩
    · rw [hp.length_eq, List.length_range]; exact hm6
    · rw [hp.length_eq, List.length_range, hlen]
  let W : Int := wire ps t
  let R : Int := reach ps t
  let w : Option EV := vv (half W)
  let dl : Option EV := vv (half R)
  let S4 : Store := [some c4]
  have s6 : mAsg (mCall d_least_wire 2 (mConsE (mV (mVar 4)) (mConsE (mV (mVar 5)) mNilE))) (gTp (DL.gCons (gNm 7) (DL.gCons (gNm 8) DL.gNil)) 2) (eL s M TP E T' N N N N N N N N N N N N N N N) S4 = .ok (.nx, eL s M TP E T' N w dl N N N N N N N N N N N N) S4 := by
    rw [ev_Asg, cl2 rfl rfl (least_wire_spec C)]
    rfl
  let sp : P2 := near [] ps t
  let rows : List Nd := nodes ps t sp 0
  have hrl : rows.length = t.size := nodes_len ps t sp 0
  have hsz := size_ends t
  have hel : t.ends.length = m := by rw [hp.length_eq, List.length_range]
  have hz := size_pos t
  let RS : Option EV := vv (nodesD rows)
  let ρ7 : DL.Env := eL s M TP E T' N w dl RS (vv (q4 0)) N N N N N N N N N N
  have s7 : mPar2 9 10 (mConsE (mV (mCall d_placed 2 (mConsE (mV (mVar 4)) (mConsE (mV (mVar 5)) mNilE)))) (mConsE (mV (mTup (mCons (mC (.int 0)) (mCons (mC (.int 1)) mNil)))) mNilE)) (eL s M TP E T' N w dl N N N N N N N N N N N N) S4 = .ok (.nx, ρ7) S4 := by
    have z : mTup (mCons (mC (.int 0)) (mCons (mC (.int 1)) mNil)) (eL s M TP E T' N w dl N N N N N N N N N N N N) S4 = .ok (q4 0) S4 := t2 rfl rfl
    rw [ev_Par2, ev_ConsE, ev_V, cl2 rfl rfl (placed_spec C)]
    simp only [ev_bind_ok, ev_ConsE, ev_V, z, ev_NilE, ev_bindS_ok]
    rfl
  have ok0 : Ok ps t sp := ok_root ps t
  have s8 : mIfS (mOrT (mCmp gNe (mLc (mIt (mVar 9)) (.nm 21) mYes (mOp gIx (mVar 21) (mC (.int 0))) [21]) (mCall (d__law_nodes 6) 1 (mConsE (mV (mVar 5)) mNilE))) (mCmp gNe (mOp gIx (mOp gIx (mVar 9) (mC (.int 0))) (mC (.int 3))) (mTup (mCons (mC (.int 0)) (mCons (mC (.int 1)) mNil))))) (mRet (mC (.bl false))) mSkip ρ7 S4 = .ok (.nx, ρ7) S4 := by
    have l := lcA1 (tg := .nm 21) (fe := mOp gIx (mVar 21) (mC (.int 0))) (ρ := ρ7) (S := S4) rowN (fun v => v.t.d) rows (fun v _ => ⟨_, rfl, opI rfl rfl (row_ix v).1⟩) (by rw [lim_is]; omega)
    have el : (rows.map fun v => v.t.d) = t.all.map T.d := by
      rw [← nodes_t ps t sp 0, List.map_map]; rfl
    have x1 : mLc (mIt (mVar 9)) (.nm 21) mYes (mOp gIx (mVar 21) (mC (.int 0))) [21] ρ7 S4 = .ok (.lst (t.all.map T.d)) S4 := by
      rw [ev_Lc, show mIt (mVar 9) ρ7 S4 = .ok (rows.map rowN) S4 from rfl, ev_bind_ok, show wipeE ρ7 [21] = ρ7 from rfl, l, el]
      rfl
    have x2 : mCall (d__law_nodes 6) 1 (mConsE (mV (mVar 5)) mNilE) ρ7 S4 = .ok (.lst (t.all.map T.d)) S4 := cl1 rfl (law_nodes_spec 6 t C.fit.h (by omega))
    have x3 : mOp gIx (mOp gIx (mVar 9) (mC (.int 0))) (mC (.int 3)) ρ7 S4 = .ok (q4 0) S4 := by
      have := opI (g := gIx) (fa := mOp gIx (mVar 9) (mC (.int 0))) (fb := mC (.int 3)) (ρ := ρ7) (S := S4) (opI rfl rfl (row_at (k := 0) (nodes_head ps t sp 0))) rfl (row_ix _).2.2.2
      rw [this]; rfl
    have x4 : mTup (mCons (mC (.int 0)) (mCons (mC (.int 1)) mNil)) ρ7 S4 = .ok (q4 0) S4 := t2 rfl rfl
    have ht : ∀ u ∈ t.all, u.h ≤ 10 := fun u hu => by have := all_h t u hu; have := C.fit.h; omega
    rw [ev_IfS, ev_OrT, ev_Cmp, x1, ev_bind_ok, x2, ev_bind_ok, gNe_ts ht]
    simp only [ev_lift_some, ev_bind_ok, Bool.false_eq_true, if_false]
    rw [ev_Cmp, x3, ev_bind_ok, x4, ev_bind_ok, gNe_q]
    rfl
  obtain ⟨no, ac, up, le, s9⟩ := tot_loop (s := s) (m := M) (tp := TP) (ty := T') (at' := N) (w := w) (dl := dl) (rs := RS) (pa := N) (wa := N) (ga := N) (on := N) (ot := N) (he := N) (S := S4) (ps := ps) rows 0 N N N N (fun v hv i e => by
    obtain ⟨h1, h2⟩ := leaves ps t sp 0 ok0 v hv i e
    have : v.t ∈ t.all := by rw [← nodes_t ps t sp 0]; exact List.mem_map.mpr ⟨v, hv, rfl⟩
    rw [e] at this
    have mem : ∀ (u : T), T.e i ∈ u.all → i ∈ u.ends := fun u => by
      induction u with
      | e j => intro h; have h : T.e i = T.e j := by simpa [T.all] using h
               cases h; simp [T.ends]
      | n a b iha ihb =>
        intro h
        simp only [T.all, List.mem_cons, List.mem_append] at h
        rcases h with h | h | h
        · cases h
        · exact List.mem_append.mpr (.inl (iha h))
        · exact List.mem_append.mpr (.inr (ihb h))
    exact ⟨C.fit.lt i (mem t this), h1, h2⟩)
  have hsum : (0 : Int) + 2 * (rows.map Nd.l).sum = 2 * W := by
    have h1 : (rows.map Nd.l).sum = 0 + (reach ps t + sumR ps t) := nodes_sum ps t sp 0
    have h2 : W = reach ps t + sumR ps t := rfl
    omega
  rw [hsum] at s9
  let TO : Option EV := vv (q4 (2 * W))
  let P0 : List (Option Nat) := List.replicate t.size none
  let S10 : Store := [some c4, pC P0, wC []]
  have gl : mBi gLen (mCons (mVar 9) mNil) (eL s M TP E T' N w dl RS TO no ac up le N N N N N N) S4 = .ok (.int (t.size : Int)) S4 := by
    show lift (gLen [nodesD rows]) S4 = _
    unfold nodesD
    rw [g_lenL, List.length_map, hrl]; rfl
  have s10 : mPar2 15 16 (mConsE (mNewRep (mLst (mCons (mC .non) mNil)) (mBi gLen (mCons (mVar 9) mNil))) (mConsE (mNew mNil) mNilE)) (eL s M TP E T' N w dl RS TO no ac up le N N N N N N) S4 = .ok (.nx, eP s M TP E T' w dl TO no ac up le N N N N rows N 2) S10 := by
    have z : mNewRep (mLst (mCons (mC .non) mNil)) (mBi gLen (mCons (mVar 9) mNil)) (eL s M TP E T' N w dl RS TO no ac up le N N N N N N) S4 = .ok (.cel 1) [some c4, pC P0] := by
      unfold mNewRep
      rw [l1 (x := .non) rfl, ev_bind_ok, gl, ev_bind_ok]
      show (if (t.size : Int) ≤ 1000 ∧ -1000 ≤ (t.size : Int) ∧ ([.non] : List D).length ≤ 1000 then Out.ok (EV.cel S4.length) (S4 ++ [some (.lst (List.replicate ((t.size : Int)).toNat [D.non]).flatten)]) else .bad) = _
      rw [if_pos ⟨by omega, by omega, by decide⟩]
      have : (List.replicate ((t.size : Int)).toNat [D.non]).flatten = P0.map oD := by
        show _ = (List.replicate t.size none).map oD
        rw [List.map_replicate, show ((t.size : Int)).toNat = t.size by omega]
        generalize t.size = k
        induction k with
        | zero => rfl
        | succ k ih => rw [List.replicate_succ, List.flatten_cons, ih, List.replicate_succ]; rfl
      rw [this]; rfl
    have z2 : mNew mNil (eL s M TP E T' N w dl RS TO no ac up le N N N N N N) [some c4, pC P0] = .ok (.cel 2) S10 := rfl
    rw [ev_Par2, ev_ConsE, z]
    simp only [ev_bind_ok, ev_ConsE, z2, ev_NilE, ev_bindS_ok]
    rfl
  obtain ⟨n', S11, at1, hS11, G⟩ := par_loop (s := s) (m := M) (tp := TP) (en := E) (ty := T') (w := w) (dl := dl) (to := TO) (no := no) (ac := ac) (up := up) (le := le) (ga := N) (on := N) (ot := N) (he := N) (rows := rows) (c := some c4) (ps := ps) t sp 0 [] [] 2 [] [] none [] [] N S10 (by simp [rows]) (.inl ⟨rfl, rfl, rfl⟩) rfl ⟨rfl, by simp [S10, P0], Nat.le_refl _, rfl⟩ (by simp; omega)
  have G' := G.end
  rw [show ([] : List Nd).length = 0 from rfl, ← List.range_eq_range'] at G'
  let P : List (Option Nat) := par t 0 none
  have hP1 : S11[1]? = some (pC P) := by
    have := hS11.s1
    simpa [P] using this
  have gl2 : ∀ {at' wa ga on ot he le : Option EV} {S : Store}, mBi gLen (mCons (mVar 9) mNil) (eL s M TP E T' at' w dl RS TO no ac up le (some (.cel 1)) wa ga on ot he) S = .ok (.int (t.size : Int)) S := fun {at' wa ga on ot he le S} => by
    show lift (gLen [nodesD rows]) S = _
    unfold nodesD
    rw [g_lenL, List.length_map, hrl]; rfl
  have s11 : mFor (mRg1 (mBi gLen (mCons (mVar 9) mNil))) (.nm 6) bPar (eP s M TP E T' w dl TO no ac up le N N N N rows N 2) S10 = .ok (.nx, eP s M TP E T' w dl TO no ac up le N N N N rows at1 n') S11 := by
    have k : mRg1 (mBi gLen (mCons (mVar 9) mNil)) (eP s M TP E T' w dl TO no ac up le N N N N rows N 2) S10 = .ok ((List.range t.size).map nI) S10 := rg1 gl2 (by omega)
    rw [ev_For, k, ev_bindS_ok]
    exact G'
  have H : RP ps rows P R := by
    refine ⟨⟨par_head t 0 none, nd t sp 0, nodes_head ps t sp 0, rfl⟩, fun j v hj hv => ?_⟩
    obtain ⟨k, u, q1, q2, q3, q4⟩ := edges ps t sp 0 0 none ok0 j v hj hv
    exact ⟨k, u, by rw [Nat.zero_add] at q1; exact q1, q2, q3, q4⟩
  obtain ⟨at2, ga2, on2, ot2, e12⟩ := edge_loop (s := s) (m := M) (tp := TP) (en := E) (ty := T') (w := w) (dl := dl) (to := TO) (no := no) (ac := ac) (up := up) (le := le) (wa := some (.cel n')) (he := N) (S := S11) H hP1 (t.size - 1) 1 at1 N N N (by decide) (by omega)
  have s12 : mFor (mRg2 (mC (.int 1)) (mBi gLen (mCons (mVar 9) mNil))) (.nm 6) bEdge (eP s M TP E T' w dl TO no ac up le N N N N rows at1 n') S11 = .ok (.nx, eL s M TP E T' at2 w dl RS TO no ac up le (some (.cel 1)) (some (.cel n')) ga2 on2 ot2 N) S11 := by
    have k : mRg2 (mC (.int 1)) (mBi gLen (mCons (mVar 9) mNil)) (eP s M TP E T' w dl TO no ac up le N N N N rows at1 n') S11 = .ok ((List.range' 1 (t.size - 1)).map nI) S11 := by
      unfold mRg2
      rw [ev_C, ev_bind_ok, show mBi gLen (mCons (mVar 9) mNil) (eP s M TP E T' w dl TO no ac up le N N N N rows at1 n') S11 = .ok (.int (t.size : Int)) S11 from gl2, ev_bind_ok]
      dsimp only
      rw [if_pos (by omega), ← rgD_from 1 t.size]
      rfl
    rw [ev_For, k, ev_bindS_ok]
    exact e12
  obtain ⟨at3, le3, he3, e13⟩ := leaf_loop (s := s) (m := M) (tp := TP) (en := E) (ty := T') (w := w) (to := TO) (no := no) (ac := ac) (up := up) (wa := some (.cel n')) (ga := ga2) (on := on2) (ot := ot2) (S := S11) H hP1 (by omega) t.size 0 at2 le N (by omega)
  have s13 : mFor (mRg1 (mBi gLen (mCons (mVar 9) mNil))) (.nm 6) bLeaf (eL s M TP E T' at2 w dl RS TO no ac up le (some (.cel 1)) (some (.cel n')) ga2 on2 ot2 N) S11 = .ok (.nx, eL s M TP E T' at3 w dl RS TO no ac up le3 (some (.cel 1)) (some (.cel n')) ga2 on2 ot2 he3) S11 := by
    have k : mRg1 (mBi gLen (mCons (mVar 9) mNil)) (eL s M TP E T' at2 w dl RS TO no ac up le (some (.cel 1)) (some (.cel n')) ga2 on2 ot2 N) S11 = .ok ((List.range t.size).map nI) S11 := rg1 gl2 (by omega)
    rw [ev_For, k, ev_bindS_ok, List.range_eq_range']
    exact e13
  let ρ14 : DL.Env := eL s M TP E T' at3 w dl RS TO no ac up le3 (some (.cel 1)) (some (.cel n')) ga2 on2 ot2 he3
  have s14 : mRet (mB (mCmp gEq (mVar 10) (mVar 7))) ρ14 S11 = .ok (.rt (.bl true), ρ14) S11 := by
    rw [ev_Ret, ev_B, ev_Cmp]
    show bindS ((lift (gEq (q4 (2 * W)) (half W)) S11).bind _) _ _ = _
    rw [half_q, gEq_q]
    rfl
  refine ⟨[], denB_rt (ρ1 := ρ14) (S1 := S11) ?_⟩
  show b_law [s, N, N, N, N, N, N, N, N, N, N, N, N, N, N, N, N, N, N, N, N, N] [] = _
  unfold b_law
  refine (seq_nx s1).trans ((seq_nx s2).trans ((seq_nx s3).trans ((seq_nx s4).trans ((seq_nx s5).trans ((seq_nx s6).trans ((seq_nx s7).trans ((seq_nx s8).trans ((seq_nx (ρ1 := eL s M TP E T' N w dl RS TO no ac up le N N N N N N) (S1 := S4) ?_).trans ((seq_nx s10).trans ((seq_nx s11).trans ((seq_nx s12).trans ((seq_nx s13).trans s14))))))))))))
  exact s9
end Pr

namespace Pr
open PySem PySem.Spec PyProof.Rows L2 DL

/-! ## the program's top -/
set_option maxHeartbeats 0 in
theorem all_mk {l : PySem.W.OpenLaw} {w : World} {K : PySem.W.Frag} {h : Heap} {mg : Str → Option Value} {fa : Addr} (X : K.In h) (G : h.Ns mainGlobals mg) (hfa : mg "law" = some (.ref fa))
    {f0 : Addr} {od0 an0 : Option Addr} {sl0 : Array (Option Value)} {oc0 kV0 dc0 pm0 cd0 ct0 : Value}
    {f1 : Addr} {od1 an1 : Option Addr} {sl1 : Array (Option Value)} {oc1 kV1 dc1 pm1 cd1 ct1 : Value}
    {f2 : Addr} {od2 an2 : Option Addr} {sl2 : Array (Option Value)} {oc2 kV2 dc2 pm2 cd2 ct2 : Value}
    {f3 : Addr} {od3 an3 : Option Addr} {sl3 : Array (Option Value)} {oc3 kV3 dc3 pm3 cd3 ct3 : Value}
    {f4 : Addr} {od4 an4 : Option Addr} {sl4 : Array (Option Value)} {oc4 kV4 dc4 pm4 cd4 ct4 : Value}
    {f5 : Addr} {od5 an5 : Option Addr} {sl5 : Array (Option Value)} {oc5 kV5 dc5 pm5 cd5 ct5 : Value}
    {f6 : Addr} {od6 an6 : Option Addr} {sl6 : Array (Option Value)} {oc6 kV6 dc6 pm6 cd6 ct6 : Value}
    {f7 : Addr} {od7 an7 : Option Addr} {sl7 : Array (Option Value)} {oc7 kV7 dc7 pm7 cd7 ct7 : Value}
    {f8 : Addr} {od8 an8 : Option Addr} {sl8 : Array (Option Value)} {oc8 kV8 dc8 pm8 cd8 ct8 : Value}
    {f9 : Addr} {od9 an9 : Option Addr} {sl9 : Array (Option Value)} {oc9 kV9 dc9 pm9 cd9 ct9 : Value}
    {f10 : Addr} {od10 an10 : Option Addr} {sl10 : Array (Option Value)} {oc10 kV10 dc10 pm10 cd10 ct10 : Value}
    {f11 : Addr} {od11 an11 : Option Addr} {sl11 : Array (Option Value)} {oc11 kV11 dc11 pm11 cd11 ct11 : Value}
    {f12 : Addr} {od12 an12 : Option Addr} {sl12 : Array (Option Value)} {oc12 kV12 dc12 pm12 cd12 ct12 : Value}
    {f13 : Addr} {od13 an13 : Option Addr} {sl13 : Array (Option Value)} {oc13 kV13 dc13 pm13 cd13 ct13 : Value}
    {f14 : Addr} {od14 an14 : Option Addr} {sl14 : Array (Option Value)} {oc14 kV14 dc14 pm14 cd14 ct14 : Value}
    {f15 : Addr} {od15 an15 : Option Addr} {sl15 : Array (Option Value)} {oc15 kV15 dc15 pm15 cd15 ct15 : Value}
    {f16 : Addr} {od16 an16 : Option Addr} {sl16 : Array (Option Value)} {oc16 kV16 dc16 pm16 cd16 ct16 : Value}
    {f17 : Addr} {od17 an17 : Option Addr} {sl17 : Array (Option Value)} {oc17 kV17 dc17 pm17 cd17 ct17 : Value}
    {f18 : Addr} {od18 an18 : Option Addr} {sl18 : Array (Option Value)} {oc18 kV18 dc18 pm18 cd18 ct18 : Value}
    {f19 : Addr} {od19 an19 : Option Addr} {sl19 : Array (Option Value)} {oc19 kV19 dc19 pm19 cd19 ct19 : Value}
    {f20 : Addr} {od20 an20 : Option Addr} {sl20 : Array (Option Value)} {oc20 kV20 dc20 pm20 cd20 ct20 : Value}
    {f21 : Addr} {od21 an21 : Option Addr} {sl21 : Array (Option Value)} {oc21 kV21 dc21 pm21 cd21 ct21 : Value}
    {f22 : Addr} {od22 an22 : Option Addr} {sl22 : Array (Option Value)} {oc22 kV22 dc22 pm22 cd22 ct22 : Value}
    {f23 : Addr} {od23 an23 : Option Addr} {sl23 : Array (Option Value)} {oc23 kV23 dc23 pm23 cd23 ct23 : Value}
    {f24 : Addr} {od24 an24 : Option Addr} {sl24 : Array (Option Value)} {oc24 kV24 dc24 pm24 cd24 ct24 : Value}
    {f25 : Addr} {od25 an25 : Option Addr} {sl25 : Array (Option Value)} {oc25 kV25 dc25 pm25 cd25 ct25 : Value}
    {f26 : Addr} {od26 an26 : Option Addr} {sl26 : Array (Option Value)} {oc26 kV26 dc26 pm26 cd26 ct26 : Value}
    {f27 : Addr} {od27 an27 : Option Addr} {sl27 : Array (Option Value)} {oc27 kV27 dc27 pm27 cd27 ct27 : Value}
    {t_FARTHEST : Tok}
    {t_MOST_POINTS : Tok}
    {C_BadPins : Addr}
    {C_BadTopology : Addr}
    {nm_BadPins q_BadPins : Str} {N_BadPins fI_BadPins : Addr} {bs_BadPins : List Value} {sn_BadPins : List Str} {sub_BadPins : List Value} {ab_BadPins : Bool} {col_BadPins : Option Bool} {dd_BadPins : Option Addr} {m0_BadPins m1_BadPins m2_BadPins m3_BadPins m5_BadPins : Option Value} {B0_BadPins : Addr} {odi_BadPins ani_BadPins : Option Addr} {sli_BadPins : Array (Option Value)} {oci_BadPins kVi_BadPins dci_BadPins pmi_BadPins cdi_BadPins cti_BadPins : Value}
    (ht0 : (PySem.W.tabIn K "law").isSome = true) (hK0 : PySem.W.noTabs K = true)
    (a0 : PySem.W.nsIn K mainGlobals "_law_taken" = some (some (.ref f0))) (l0 : K.lookup f0 = some ⟨oc0, od0, .func (PySem.W.fnOf "_law_taken" "_law_taken" (defArgs st__law_taken) (defBody st__law_taken) (defScope st__law_taken) .none kV0 dc0 pm0 an0 cd0 ct0), sl0⟩) (c0 : PySem.W.codeIn K cd0 "_law_taken" = true) (k0 : PySem.W.keepIn K (.ref f0) = true)
    (a1 : PySem.W.nsIn K mainGlobals "_law_pick" = some (some (.ref f1))) (l1 : K.lookup f1 = some ⟨oc1, od1, .func (PySem.W.fnOf "_law_pick" "_law_pick" (defArgs st__law_pick) (defBody st__law_pick) (defScope st__law_pick) .none kV1 dc1 pm1 an1 cd1 ct1), sl1⟩) (c1 : PySem.W.codeIn K cd1 "_law_pick" = true) (k1 : PySem.W.keepIn K (.ref f1) = true)
    (a2 : PySem.W.nsIn K mainGlobals "_law_topology" = some (some (.ref f2))) (l2 : K.lookup f2 = some ⟨oc2, od2, .func (PySem.W.fnOf "_law_topology" "_law_topology" (defArgs st__law_topology) (defBody st__law_topology) (defScope st__law_topology) .none kV2 dc2 pm2 an2 cd2 ct2), sl2⟩) (c2 : PySem.W.codeIn K cd2 "_law_topology" = true) (k2 : PySem.W.keepIn K (.ref f2) = true)
    (a3 : PySem.W.nsIn K mainGlobals "is_tuple_of" = some (some (.ref f3))) (l3 : K.lookup f3 = some ⟨oc3, od3, .func (PySem.W.fnOf "is_tuple_of" "is_tuple_of" (defArgs st_is_tuple_of) (defBody st_is_tuple_of) (defScope st_is_tuple_of) .none kV3 dc3 pm3 an3 cd3 ct3), sl3⟩) (c3 : PySem.W.codeIn K cd3 "is_tuple_of" = true) (k3 : PySem.W.keepIn K (.ref f3) = true)
    (a4 : PySem.W.nsIn K mainGlobals "is_integer" = some (some (.ref f4))) (l4 : K.lookup f4 = some ⟨oc4, od4, .func (PySem.W.fnOf "is_integer" "is_integer" (defArgs st_is_integer) (defBody st_is_integer) (defScope st_is_integer) .none kV4 dc4 pm4 an4 cd4 ct4), sl4⟩) (c4 : PySem.W.codeIn K cd4 "is_integer" = true) (k4 : PySem.W.keepIn K (.ref f4) = true)
    (a5 : PySem.W.nsIn K mainGlobals "is_between" = some (some (.ref f5))) (l5 : K.lookup f5 = some ⟨oc5, od5, .func (PySem.W.fnOf "is_between" "is_between" (defArgs st_is_between) (defBody st_is_between) (defScope st_is_between) .none kV5 dc5 pm5 an5 cd5 ct5), sl5⟩) (c5 : PySem.W.codeIn K cd5 "is_between" = true) (k5 : PySem.W.keepIn K (.ref f5) = true)
    (a6 : PySem.W.nsIn K mainGlobals "is_point" = some (some (.ref f6))) (l6 : K.lookup f6 = some ⟨oc6, od6, .func (PySem.W.fnOf "is_point" "is_point" (defArgs st_is_point) (defBody st_is_point) (defScope st_is_point) .none kV6 dc6 pm6 an6 cd6 ct6), sl6⟩) (c6 : PySem.W.codeIn K cd6 "is_point" = true) (k6 : PySem.W.keepIn K (.ref f6) = true)
    (a7 : PySem.W.nsIn K mainGlobals "wrong_index" = some (some (.ref f7))) (l7 : K.lookup f7 = some ⟨oc7, od7, .func (PySem.W.fnOf "wrong_index" "wrong_index" (defArgs st_wrong_index) (defBody st_wrong_index) (defScope st_wrong_index) .none kV7 dc7 pm7 an7 cd7 ct7), sl7⟩) (c7 : PySem.W.codeIn K cd7 "wrong_index" = true) (k7 : PySem.W.keepIn K (.ref f7) = true)
    (a8 : PySem.W.nsIn K mainGlobals "check_ends" = some (some (.ref f8))) (l8 : K.lookup f8 = some ⟨oc8, od8, .func (PySem.W.fnOf "check_ends" "check_ends" (defArgs st_check_ends) (defBody st_check_ends) (defScope st_check_ends) .none kV8 dc8 pm8 an8 cd8 ct8), sl8⟩) (c8 : PySem.W.codeIn K cd8 "check_ends" = true) (k8 : PySem.W.keepIn K (.ref f8) = true)
    (a9 : PySem.W.nsIn K mainGlobals "is_topology" = some (some (.ref f9))) (l9 : K.lookup f9 = some ⟨oc9, od9, .func (PySem.W.fnOf "is_topology" "is_topology" (defArgs st_is_topology) (defBody st_is_topology) (defScope st_is_topology) .none kV9 dc9 pm9 an9 cd9 ct9), sl9⟩) (c9 : PySem.W.codeIn K cd9 "is_topology" = true) (k9 : PySem.W.keepIn K (.ref f9) = true)
    (a10 : PySem.W.nsIn K mainGlobals "check_clock" = some (some (.ref f10))) (l10 : K.lookup f10 = some ⟨oc10, od10, .func (PySem.W.fnOf "check_clock" "check_clock" (defArgs st_check_clock) (defBody st_check_clock) (defScope st_check_clock) .none kV10 dc10 pm10 an10 cd10 ct10), sl10⟩) (c10 : PySem.W.codeIn K cd10 "check_clock" = true) (k10 : PySem.W.keepIn K (.ref f10) = true)
    (a11 : PySem.W.nsIn K mainGlobals "ratio" = some (some (.ref f11))) (l11 : K.lookup f11 = some ⟨oc11, od11, .func (PySem.W.fnOf "ratio" "ratio" (defArgs st_ratio) (defBody st_ratio) (defScope st_ratio) .none kV11 dc11 pm11 an11 cd11 ct11), sl11⟩) (c11 : PySem.W.codeIn K cd11 "ratio" = true) (k11 : PySem.W.keepIn K (.ref f11) = true)
    (a12 : PySem.W.nsIn K mainGlobals "ends_below" = some (some (.ref f12))) (l12 : K.lookup f12 = some ⟨oc12, od12, .func (PySem.W.fnOf "ends_below" "ends_below" (defArgs st_ends_below) (defBody st_ends_below) (defScope st_ends_below) .none kV12 dc12 pm12 an12 cd12 ct12), sl12⟩) (c12 : PySem.W.codeIn K cd12 "ends_below" = true) (k12 : PySem.W.keepIn K (.ref f12) = true)
    (a13 : PySem.W.nsIn K mainGlobals "distance" = some (some (.ref f13))) (l13 : K.lookup f13 = some ⟨oc13, od13, .func (PySem.W.fnOf "distance" "distance" (defArgs st_distance) (defBody st_distance) (defScope st_distance) .none kV13 dc13 pm13 an13 cd13 ct13), sl13⟩) (c13 : PySem.W.codeIn K cd13 "distance" = true) (k13 : PySem.W.keepIn K (.ref f13) = true)
    (a14 : PySem.W.nsIn K mainGlobals "twice_reach" = some (some (.ref f14))) (l14 : K.lookup f14 = some ⟨oc14, od14, .func (PySem.W.fnOf "twice_reach" "twice_reach" (defArgs st_twice_reach) (defBody st_twice_reach) (defScope st_twice_reach) .none kV14 dc14 pm14 an14 cd14 ct14), sl14⟩) (c14 : PySem.W.codeIn K cd14 "twice_reach" = true) (k14 : PySem.W.keepIn K (.ref f14) = true)
    (a15 : PySem.W.nsIn K mainGlobals "twice_sum" = some (some (.ref f15))) (l15 : K.lookup f15 = some ⟨oc15, od15, .func (PySem.W.fnOf "twice_sum" "twice_sum" (defArgs st_twice_sum) (defBody st_twice_sum) (defScope st_twice_sum) .none kV15 dc15 pm15 an15 cd15 ct15), sl15⟩) (c15 : PySem.W.codeIn K cd15 "twice_sum" = true) (k15 : PySem.W.keepIn K (.ref f15) = true)
    (a16 : PySem.W.nsIn K mainGlobals "twice_wire" = some (some (.ref f16))) (l16 : K.lookup f16 = some ⟨oc16, od16, .func (PySem.W.fnOf "twice_wire" "twice_wire" (defArgs st_twice_wire) (defBody st_twice_wire) (defScope st_twice_wire) .none kV16 dc16 pm16 an16 cd16 ct16), sl16⟩) (c16 : PySem.W.codeIn K cd16 "twice_wire" = true) (k16 : PySem.W.keepIn K (.ref f16) = true)
    (a17 : PySem.W.nsIn K mainGlobals "least_wire" = some (some (.ref f17))) (l17 : K.lookup f17 = some ⟨oc17, od17, .func (PySem.W.fnOf "least_wire" "least_wire" (defArgs st_least_wire) (defBody st_least_wire) (defScope st_least_wire) .none kV17 dc17 pm17 an17 cd17 ct17), sl17⟩) (c17 : PySem.W.codeIn K cd17 "least_wire" = true) (k17 : PySem.W.keepIn K (.ref f17) = true)
    (a18 : PySem.W.nsIn K mainGlobals "turned" = some (some (.ref f18))) (l18 : K.lookup f18 = some ⟨oc18, od18, .func (PySem.W.fnOf "turned" "turned" (defArgs st_turned) (defBody st_turned) (defScope st_turned) .none kV18 dc18 pm18 an18 cd18 ct18), sl18⟩) (c18 : PySem.W.codeIn K cd18 "turned" = true) (k18 : PySem.W.keepIn K (.ref f18) = true)
    (a19 : PySem.W.nsIn K mainGlobals "spot_near" = some (some (.ref f19))) (l19 : K.lookup f19 = some ⟨oc19, od19, .func (PySem.W.fnOf "spot_near" "spot_near" (defArgs st_spot_near) (defBody st_spot_near) (defScope st_spot_near) .none kV19 dc19 pm19 an19 cd19 ct19), sl19⟩) (c19 : PySem.W.codeIn K cd19 "spot_near" = true) (k19 : PySem.W.keepIn K (.ref f19) = true)
    (a20 : PySem.W.nsIn K mainGlobals "nodes_of" = some (some (.ref f20))) (l20 : K.lookup f20 = some ⟨oc20, od20, .func (PySem.W.fnOf "nodes_of" "nodes_of" (defArgs st_nodes_of) (defBody st_nodes_of) (defScope st_nodes_of) .none kV20 dc20 pm20 an20 cd20 ct20), sl20⟩) (c20 : PySem.W.codeIn K cd20 "nodes_of" = true) (k20 : PySem.W.keepIn K (.ref f20) = true)
    (a21 : PySem.W.nsIn K mainGlobals "placed" = some (some (.ref f21))) (l21 : K.lookup f21 = some ⟨oc21, od21, .func (PySem.W.fnOf "placed" "placed" (defArgs st_placed) (defBody st_placed) (defScope st_placed) .none kV21 dc21 pm21 an21 cd21 ct21), sl21⟩) (c21 : PySem.W.codeIn K cd21 "placed" = true) (k21 : PySem.W.keepIn K (.ref f21) = true)
    (a22 : PySem.W.nsIn K mainGlobals "_law_nodes" = some (some (.ref f22))) (l22 : K.lookup f22 = some ⟨oc22, od22, .func (PySem.W.fnOf "_law_nodes" "_law_nodes" (defArgs st__law_nodes) (defBody st__law_nodes) (defScope st__law_nodes) .none kV22 dc22 pm22 an22 cd22 ct22), sl22⟩) (c22 : PySem.W.codeIn K cd22 "_law_nodes" = true) (k22 : PySem.W.keepIn K (.ref f22) = true)
    (a23 : PySem.W.nsIn K mainGlobals "_law_gcd" = some (some (.ref f23))) (l23 : K.lookup f23 = some ⟨oc23, od23, .func (PySem.W.fnOf "_law_gcd" "_law_gcd" (defArgs st__law_gcd) (defBody st__law_gcd) (defScope st__law_gcd) .none kV23 dc23 pm23 an23 cd23 ct23), sl23⟩) (c23 : PySem.W.codeIn K cd23 "_law_gcd" = true) (k23 : PySem.W.keepIn K (.ref f23) = true)
    (a24 : PySem.W.nsIn K mainGlobals "_law_plus" = some (some (.ref f24))) (l24 : K.lookup f24 = some ⟨oc24, od24, .func (PySem.W.fnOf "_law_plus" "_law_plus" (defArgs st__law_plus) (defBody st__law_plus) (defScope st__law_plus) .none kV24 dc24 pm24 an24 cd24 ct24), sl24⟩) (c24 : PySem.W.codeIn K cd24 "_law_plus" = true) (k24 : PySem.W.keepIn K (.ref f24) = true)
    (a25 : PySem.W.nsIn K mainGlobals "_law_minus" = some (some (.ref f25))) (l25 : K.lookup f25 = some ⟨oc25, od25, .func (PySem.W.fnOf "_law_minus" "_law_minus" (defArgs st__law_minus) (defBody st__law_minus) (defScope st__law_minus) .none kV25 dc25 pm25 an25 cd25 ct25), sl25⟩) (c25 : PySem.W.codeIn K cd25 "_law_minus" = true) (k25 : PySem.W.keepIn K (.ref f25) = true)
    (a26 : PySem.W.nsIn K mainGlobals "_law_less" = some (some (.ref f26))) (l26 : K.lookup f26 = some ⟨oc26, od26, .func (PySem.W.fnOf "_law_less" "_law_less" (defArgs st__law_less) (defBody st__law_less) (defScope st__law_less) .none kV26 dc26 pm26 an26 cd26 ct26), sl26⟩) (c26 : PySem.W.codeIn K cd26 "_law_less" = true) (k26 : PySem.W.keepIn K (.ref f26) = true)
    (a27 : PySem.W.nsIn K mainGlobals "law" = some (some (.ref f27))) (l27 : K.lookup f27 = some ⟨oc27, od27, .func (PySem.W.fnOf "law" "law" (defArgs st_law) (defBody st_law) (defScope st_law) .none kV27 dc27 pm27 an27 cd27 ct27), sl27⟩) (c27 : PySem.W.codeIn K cd27 "law" = true) (k27 : PySem.W.keepIn K (.ref f27) = true)
    (i_gcd : PySem.W.nsIn K mainGlobals "gcd" = some (some (.builtin "math.gcd")))
    (z_abs : PySem.W.nsIn K mainGlobals "abs" = some none)
    (z_all : PySem.W.nsIn K mainGlobals "all" = some none)
    (z_bool : PySem.W.nsIn K mainGlobals "bool" = some none)
    (z_enumerate : PySem.W.nsIn K mainGlobals "enumerate" = some none)
    (z_int : PySem.W.nsIn K mainGlobals "int" = some none)
    (z_isinstance : PySem.W.nsIn K mainGlobals "isinstance" = some none)
    (z_len : PySem.W.nsIn K mainGlobals "len" = some none)
    (z_list : PySem.W.nsIn K mainGlobals "list" = some none)
    (z_max : PySem.W.nsIn K mainGlobals "max" = some none)
    (z_range : PySem.W.nsIn K mainGlobals "range" = some none)
    (z_tuple : PySem.W.nsIn K mainGlobals "tuple" = some none)
    (y_FARTHEST : PySem.W.nsIn K mainGlobals "FARTHEST" = some (some (.int 40 t_FARTHEST)))
    (y_MOST_POINTS : PySem.W.nsIn K mainGlobals "MOST_POINTS" = some (some (.int 6 t_MOST_POINTS)))
    (xa_BadPins : PySem.W.nsIn K mainGlobals "BadPins" = some (some (.ref C_BadPins)))
    (xa_BadTopology : PySem.W.nsIn K mainGlobals "BadTopology" = some (some (.ref C_BadTopology)))
    (xg_BadPins : PySem.W.findIn K (.ref C_BadPins) "__getattribute__" = some (some (.builtin "BaseException.__getattribute__")))
    (xk_BadPins : PySem.W.findIn K (.ref C_BadPins) "__getattr__" = some none)
    (xs_BadPins : PySem.W.subIn K (.ref C_BadPins) (.type "BaseException") = some true)
    (xd_BadPins : PySem.W.hasDictIn K C_BadPins = true)
    (xc_BadPins : PySem.W.findIn K (.ref C_BadPins) "__class__" = some (some (.builtin "object.__class__")))
    (xm_BadPins : PySem.W.mroIn K C_BadPins (.type "object") = some true)
    (xt_BadPins : PySem.W.typeIn K (.ref C_BadPins) = some (.type "type"))
    (xp_BadPins : PySem.W.keepIn K (.ref C_BadPins) = true)
    (xg_BadTopology : PySem.W.findIn K (.ref C_BadTopology) "__getattribute__" = some (some (.builtin "BaseException.__getattribute__")))
    (xk_BadTopology : PySem.W.findIn K (.ref C_BadTopology) "__getattr__" = some none)
    (xs_BadTopology : PySem.W.subIn K (.ref C_BadTopology) (.type "BaseException") = some true)
    (xd_BadTopology : PySem.W.hasDictIn K C_BadTopology = true)
    (xc_BadTopology : PySem.W.findIn K (.ref C_BadTopology) "__class__" = some (some (.builtin "object.__class__")))
    (xm_BadTopology : PySem.W.mroIn K C_BadTopology (.type "object") = some true)
    (xt_BadTopology : PySem.W.typeIn K (.ref C_BadTopology) = some (.type "type"))
    (xp_BadTopology : PySem.W.keepIn K (.ref C_BadTopology) = true)
    (xn : PySem.W.specialIn K (.builtin "object.__class__") "__get__" = some (some (.builtin "getset_descriptor.__get__")))
    (xu : PySem.W.takesIn K (.builtin "object.__class__") = some true)
    (xl_BadPins : K.lookup C_BadPins = some (excClassObj nm_BadPins q_BadPins C_BadPins N_BadPins bs_BadPins [.ref B0_BadPins, .type "ValueError", .type "Exception", .type "BaseException", .type "object"] true sn_BadPins sub_BadPins ab_BadPins col_BadPins dd_BadPins m0_BadPins m1_BadPins m2_BadPins m3_BadPins m5_BadPins "ValueError.__new__"))
    (xsa_BadPins : PySem.W.findIn K (.ref C_BadPins) "__setattr__" = some (some (.builtin "object.__setattr__")))
    (xf_BadPins : PySem.W.findIn K (.ref C_BadPins) "index" = some none)
    (xi_BadPins : PySem.W.findIn K (.ref C_BadPins) "__init__" = some (some (.ref fI_BadPins)))
    (xit_BadPins : PySem.W.typeIn K (.ref fI_BadPins) = some (.type "function"))
    (xil_BadPins : K.lookup fI_BadPins = some ⟨oci_BadPins, odi_BadPins, .func (PySem.W.fnOf "__init__" "BadPins.__init__" (defArgs st_init_BadPins) (defBody st_init_BadPins) (defScope st_init_BadPins) .none kVi_BadPins dci_BadPins pmi_BadPins ani_BadPins cdi_BadPins cti_BadPins), sli_BadPins⟩)
    (xic_BadPins : PySem.W.codeIn K cdi_BadPins "BadPins.__init__" = true)
    (xik_BadPins : PySem.W.keepIn K (.ref fI_BadPins) = true)
    (xe_BadTopology : PySem.W.excIn K C_BadTopology [.type "ValueError", .type "Exception", .type "BaseException", .type "object"] "ValueError.__new__" = true)
    (hlaw : ∀ ns : List Int, ns.length ≤ 63 → ∃ S', d_law [.v (.rol (ns.map D.int))] [] = .ok (.bl true) S') :
    ∃ (fd : FuncData) (c P : Addr), PySem.W.tabIn K "law" = some (c, P) ∧ PySem.W.noTabs K = true ∧ (∀ (s : Shared) (v : Value), BindsTo s fd ⟨[v], []⟩ [("script", v)]) ∧ ∀ base : Heap, K.In base → base.Ns mainGlobals mg → LamX.TabB base mg c P → FnOk l.prog w K mg base (L2.CX l.prog w) 18 fa fd ["script"] (spLaw K) := by
  have B : Bi mg := ⟨PySem.W.mg_none_of X G z_abs, PySem.W.mg_none_of X G z_all, PySem.W.mg_none_of X G z_bool, PySem.W.mg_none_of X G z_enumerate, PySem.W.mg_none_of X G z_int, PySem.W.mg_none_of X G z_isinstance, PySem.W.mg_none_of X G z_len, PySem.W.mg_none_of X G z_list, PySem.W.mg_none_of X G z_max, PySem.W.mg_none_of X G z_range, PySem.W.mg_none_of X G z_tuple⟩
  have I_gcd := PySem.W.mg_of X G i_gcd
  have K_FARTHEST : Kon ⟨K, mg, none⟩ "FARTHEST" k_FARTHEST := kon_int (PySem.W.mg_of X G y_FARTHEST)
  have K_MOST_POINTS : Kon ⟨K, mg, none⟩ "MOST_POINTS" k_MOST_POINTS := kon_int (PySem.W.mg_of X G y_MOST_POINTS)
  have F0 := fun_mk (st := st__law_taken) l0 c0 k0
  have b0 := F0.binds (ps := ["row", "many"]) fun _ _ _ _ _ _ us hl => match us, hl with | [_, _], _ => rfl
  have m0 := PySem.W.mg_of X G a0
  have F1 := fun_mk (st := st__law_pick) l1 c1 k1
  have b1 := F1.binds (ps := ["row", "things"]) fun _ _ _ _ _ _ us hl => match us, hl with | [_, _], _ => rfl
  have m1 := PySem.W.mg_of X G a1
  have F2 := fun_mk (st := st__law_topology) l2 c2 k2
  have b2 := F2.binds (ps := ["row", "numbers"]) fun _ _ _ _ _ _ us hl => match us, hl with | [_, _], _ => rfl
  have m2 := PySem.W.mg_of X G a2
  have F3 := fun_mk (st := st_is_tuple_of) l3 c3 k3
  have b3 := F3.binds (ps := ["value", "least", "most"]) fun _ _ _ _ _ _ us hl => match us, hl with | [_, _, _], _ => rfl
  have m3 := PySem.W.mg_of X G a3
  have F4 := fun_mk (st := st_is_integer) l4 c4 k4
  have b4 := F4.binds (ps := ["value"]) fun _ _ _ _ _ _ us hl => match us, hl with | [_], _ => rfl
  have m4 := PySem.W.mg_of X G a4
  have F5 := fun_mk (st := st_is_between) l5 c5 k5
  have b5 := F5.binds (ps := ["value", "least", "most"]) fun _ _ _ _ _ _ us hl => match us, hl with | [_, _, _], _ => rfl
  have m5 := PySem.W.mg_of X G a5
  have F6 := fun_mk (st := st_is_point) l6 c6 k6
  have b6 := F6.binds (ps := ["value"]) fun _ _ _ _ _ _ us hl => match us, hl with | [_], _ => rfl
  have m6 := PySem.W.mg_of X G a6
  have F7 := fun_mk (st := st_wrong_index) l7 c7 k7
  have b7 := F7.binds (ps := ["values", "is_right"]) fun _ _ _ _ _ _ us hl => match us, hl with | [_, _], _ => rfl
  have m7 := PySem.W.mg_of X G a7
  have F8 := fun_mk (st := st_check_ends) l8 c8 k8
  have b8 := F8.binds (ps := ["ends"]) fun _ _ _ _ _ _ us hl => match us, hl with | [_], _ => rfl
  have m8 := PySem.W.mg_of X G a8
  have F9 := fun_mk (st := st_is_topology) l9 c9 k9
  have b9 := F9.binds (ps := ["value", "many", "deep", "found"]) fun _ _ _ _ _ _ us hl => match us, hl with | [_, _, _, _], _ => rfl
  have m9 := PySem.W.mg_of X G a9
  have F10 := fun_mk (st := st_check_clock) l10 c10 k10
  have b10 := F10.binds (ps := ["ends", "topology"]) fun _ _ _ _ _ _ us hl => match us, hl with | [_, _], _ => rfl
  have m10 := PySem.W.mg_of X G a10
  have F11 := fun_mk (st := st_ratio) l11 c11 k11
  have b11 := F11.binds (ps := ["numerator", "denominator"]) fun _ _ _ _ _ _ us hl => match us, hl with | [_, _], _ => rfl
  have m11 := PySem.W.mg_of X G a11
  have F12 := fun_mk (st := st_ends_below) l12 c12 k12
  have b12 := F12.binds (ps := ["topology"]) fun _ _ _ _ _ _ us hl => match us, hl with | [_], _ => rfl
  have m12 := PySem.W.mg_of X G a12
  have F13 := fun_mk (st := st_distance) l13 c13 k13
  have b13 := F13.binds (ps := ["one", "other"]) fun _ _ _ _ _ _ us hl => match us, hl with | [_, _], _ => rfl
  have m13 := PySem.W.mg_of X G a13
  have F14 := fun_mk (st := st_twice_reach) l14 c14 k14
  have b14 := F14.binds (ps := ["ends", "topology"]) fun _ _ _ _ _ _ us hl => match us, hl with | [_, _], _ => rfl
  have m14 := PySem.W.mg_of X G a14
  have F15 := fun_mk (st := st_twice_sum) l15 c15 k15
  have b15 := F15.binds (ps := ["ends", "topology"]) fun _ _ _ _ _ _ us hl => match us, hl with | [_, _], _ => rfl
  have m15 := PySem.W.mg_of X G a15
  have F16 := fun_mk (st := st_twice_wire) l16 c16 k16
  have b16 := F16.binds (ps := ["ends", "topology"]) fun _ _ _ _ _ _ us hl => match us, hl with | [_, _], _ => rfl
  have m16 := PySem.W.mg_of X G a16
  have F17 := fun_mk (st := st_least_wire) l17 c17 k17
  have b17 := F17.binds (ps := ["ends", "topology"]) fun _ _ _ _ _ _ us hl => match us, hl with | [_, _], _ => rfl
  have m17 := PySem.W.mg_of X G a17
  have F18 := fun_mk (st := st_turned) l18 c18 k18
  have b18 := F18.binds (ps := ["point"]) fun _ _ _ _ _ _ us hl => match us, hl with | [_], _ => rfl
  have m18 := PySem.W.mg_of X G a18
  have F19 := fun_mk (st := st_spot_near) l19 c19 k19
  have b19 := F19.binds (ps := ["hubs", "ends", "topology"]) fun _ _ _ _ _ _ us hl => match us, hl with | [_, _, _], _ => rfl
  have m19 := PySem.W.mg_of X G a19
  have F20 := fun_mk (st := st_nodes_of) l20 c20 k20
  have b20 := F20.binds (ps := ["ends", "topology", "spot", "twice_length"]) fun _ _ _ _ _ _ us hl => match us, hl with | [_, _, _, _], _ => rfl
  have m20 := PySem.W.mg_of X G a20
  have F21 := fun_mk (st := st_placed) l21 c21 k21
  have b21 := F21.binds (ps := ["ends", "topology"]) fun _ _ _ _ _ _ us hl => match us, hl with | [_, _], _ => rfl
  have m21 := PySem.W.mg_of X G a21
  have F22 := fun_mk (st := st__law_nodes) l22 c22 k22
  have b22 := F22.binds (ps := ["topology"]) fun _ _ _ _ _ _ us hl => match us, hl with | [_], _ => rfl
  have m22 := PySem.W.mg_of X G a22
  have F23 := fun_mk (st := st__law_gcd) l23 c23 k23
  have b23 := F23.binds (ps := ["one", "other"]) fun _ _ _ _ _ _ us hl => match us, hl with | [_, _], _ => rfl
  have m23 := PySem.W.mg_of X G a23
  have F24 := fun_mk (st := st__law_plus) l24 c24 k24
  have b24 := F24.binds (ps := ["one", "other"]) fun _ _ _ _ _ _ us hl => match us, hl with | [_, _], _ => rfl
  have m24 := PySem.W.mg_of X G a24
  have F25 := fun_mk (st := st__law_minus) l25 c25 k25
  have b25 := F25.binds (ps := ["one", "other"]) fun _ _ _ _ _ _ us hl => match us, hl with | [_, _], _ => rfl
  have m25 := PySem.W.mg_of X G a25
  have F26 := fun_mk (st := st__law_less) l26 c26 k26
  have b26 := F26.binds (ps := ["one", "other"]) fun _ _ _ _ _ _ us hl => match us, hl with | [_, _], _ => rfl
  have m26 := PySem.W.mg_of X G a26
  have F27 := fun_mk (st := st_law) l27 c27 k27
  have b27 := F27.binds (ps := ["script"]) fun _ _ _ _ _ _ us hl => match us, hl with | [_], _ => rfl
  have m27 := PySem.W.mg_of X G a27
  have e := hfa.symm.trans m27
  cases e
  obtain ⟨⟨cA, PA⟩, ht1⟩ := Option.isSome_iff_exists.mp ht0
  refine ⟨PySem.W.fnOf "law" "law" (defArgs st_law) (defBody st_law) (defScope st_law) .none kV27 dc27 pm27 an27 cd27 ct27, cA, PA, ht1, hK0, fun s v => .of_eq rfl, fun base hK hB TB => ?_⟩
  have FI_BadPins := fun_mk (st := st_init_BadPins) xil_BadPins xic_BadPins xik_BadPins
  have bI_BadPins := FI_BadPins.binds (ps := ["self", "index"]) fun _ _ _ _ _ _ us hl => match us, hl with | [_, _], _ => rfl
  have own_BadPins : OwnE l.prog w ⟨K, mg, none⟩ base 1 "BadPins" "index" := ⟨C_BadPins, fI_BadPins, _, _, PySem.W.mg_of X G xa_BadPins, ⟨⟨_, _, _, _, _, _, _, _, _, _, _, _, _, _, _, xl_BadPins, rfl⟩, xsa_BadPins, xs_BadPins, xt_BadPins, xp_BadPins⟩, xf_BadPins, xi_BadPins, xit_BadPins, bI_BadPins, fn_init (G := ⟨K, mg, none⟩) (k := 0) FI_BadPins sc_init_BadPins rfl⟩
  have XC_BadPins : ExcC K C_BadPins := ⟨xg_BadPins, xk_BadPins, xs_BadPins, xd_BadPins, xc_BadPins, xn, xu, xm_BadPins⟩
  have pl_BadTopology : OwnP ⟨K, mg, none⟩ "BadTopology" := ⟨C_BadTopology, _, _, _, _, PySem.W.mg_of X G xa_BadTopology, PySem.F.excBase_ValueError, xe_BadTopology, xp_BadTopology, xs_BadTopology, xt_BadTopology⟩
  have XC_BadTopology : ExcC K C_BadTopology := ⟨xg_BadTopology, xk_BadTopology, xs_BadTopology, xd_BadTopology, xc_BadTopology, xn, xu, xm_BadTopology⟩
  have tab : XTab K mg xtab := ⟨fun y t b h C hC => by
    unfold xtab at h
    split at h
    · rename_i hy; subst hy; obtain rfl : C_BadPins = C := by (have z := (PySem.W.mg_of X G xa_BadPins).symm.trans hC; cases z; rfl)
      refine ⟨XC_BadPins, ?_⟩
      cases h
    split at h
    · rename_i hy; subst hy; obtain rfl : C_BadTopology = C := by (have z := (PySem.W.mg_of X G xa_BadTopology).symm.trans hC; cases z; rfl)
      refine ⟨XC_BadTopology, ?_⟩
      cases h
    cases h⟩
  have fld : XFld K mg xfld := ⟨fun y f h C hC => by
    unfold xfld at h
    split at h
    · rename_i hy; subst hy; obtain rfl : C_BadPins = C := by (have z := (PySem.W.mg_of X G xa_BadPins).symm.trans hC; cases z; rfl)
      obtain rfl := of_decide_eq_true h
      exact ⟨⟨xg_BadPins, xk_BadPins, xs_BadPins, xd_BadPins⟩, xf_BadPins⟩
    cases h⟩
  have EX : Exs l.prog w K mg base := { own_BadPins := own_BadPins, pl_BadTopology := pl_BadTopology, tab := tab, fld := fld }
  have D__law_taken := ok__law_taken (base := base) (P := l.prog) (w := w) B F0 m0 b0
  have D__law_pick := ok__law_pick (base := base) (P := l.prog) (w := w) B D__law_taken F1 m1 b1
  have D__law_topology := ok__law_topology (base := base) (P := l.prog) (w := w) B D__law_taken F2 m2 b2
  have D_is_tuple_of := ok_is_tuple_of (base := base) (P := l.prog) (w := w) B F3 m3 b3
  have D_is_integer := ok_is_integer (base := base) (P := l.prog) (w := w) B F4 m4 b4
  have D_is_between := ok_is_between (base := base) (P := l.prog) (w := w) B D_is_integer F5 m5 b5
  have D_is_point := ok_is_point (base := base) (P := l.prog) (w := w) B K_FARTHEST D_is_tuple_of D_is_between F6 m6 b6
  have D_wrong_index := ok_wrong_index (base := base) (P := l.prog) (w := w) B D_is_point F7 m7 b7
  have D_check_ends := ok_check_ends (base := base) (P := l.prog) (w := w) B EX K_MOST_POINTS D_is_tuple_of D_wrong_index D_is_point F8 m8 b8
  have D_is_topology := ok_is_topology (base := base) (P := l.prog) (w := w) B D_is_between D_is_tuple_of F9 m9 b9 6
  have D_check_clock := ok_check_clock (base := base) (P := l.prog) (w := w) B EX D_check_ends D_is_topology F10 m10 b10
  have D_ratio := ok_ratio (base := base) (P := l.prog) (w := w) B I_gcd F11 m11 b11
  have D_ends_below := ok_ends_below (base := base) (P := l.prog) (w := w) B F12 m12 b12 6
  have D_distance := ok_distance (base := base) (P := l.prog) (w := w) B F13 m13 b13
  have D_twice_reach := ok_twice_reach (base := base) (P := l.prog) (w := w) B D_ends_below D_distance F14 m14 b14
  have D_twice_sum := ok_twice_sum (base := base) (P := l.prog) (w := w) B D_twice_reach F15 m15 b15 6
  have D_twice_wire := ok_twice_wire (base := base) (P := l.prog) (w := w) B D_twice_reach D_twice_sum F16 m16 b16
  have D_least_wire := ok_least_wire (base := base) (P := l.prog) (w := w) B D_check_clock D_ratio D_twice_reach D_twice_wire F17 m17 b17
  have D_turned := ok_turned (base := base) (P := l.prog) (w := w) B F18 m18 b18
  have D_spot_near := ok_spot_near (base := base) (P := l.prog) (w := w) B D_twice_reach D_ends_below D_turned F19 m19 b19
  have D_nodes_of := ok_nodes_of (base := base) (P := l.prog) (w := w) B D_ratio D_twice_reach D_spot_near F20 m20 b20 6
  have D_placed := ok_placed (base := base) (P := l.prog) (w := w) B D_check_clock D_spot_near D_nodes_of F21 m21 b21
  have D__law_nodes := ok__law_nodes (base := base) (P := l.prog) (w := w) B F22 m22 b22 6
  have D__law_gcd := ok__law_gcd (base := base) (P := l.prog) (w := w) B F23 m23 b23
  have D__law_plus := ok__law_plus (base := base) (P := l.prog) (w := w) B D__law_gcd F24 m24 b24
  have D__law_minus := ok__law_minus (base := base) (P := l.prog) (w := w) B D__law_plus F25 m25 b25
  have D__law_less := ok__law_less (base := base) (P := l.prog) (w := w) B F26 m26 b26
  exact law_fn (G := ⟨K, mg, none⟩) (ok_law B D__law_taken D__law_pick D__law_topology D_least_wire D_placed D__law_nodes D__law_plus D__law_minus D__law_less F27 m27 b27) hlaw
end Pr
open PySem PySem.W PyProof.Rows
set_option maxRecDepth 100000 in
set_option maxHeartbeats 0 in
theorem PySem.Challenge.cw_chipfloor_k28_whole_clocks_holds : PySem.Challenge.rw_chipfloor_k28_whole_clocks.Holds := by
  w_on; o_law; k_head; (case hw => w_witness2)
  k_fill
  refine DL.walk (l := PySem.Challenge.rw_chipfloor_k28_whole_clocks) (k := 18) rfl rfl ⟨rfl, by decide, by decide⟩ (fun w h Y => PySem.W.kIn_of Y) rfl ?F
  case F =>
    intro w mg fa h KX G hmg
    refine' Pr.all_mk KX G hmg ?ht0 ?hK0 ?a0 ?l0 ?c0 ?k0 ?a1 ?l1 ?c1 ?k1 ?a2 ?l2 ?c2 ?k2 ?a3 ?l3 ?c3 ?k3 ?a4 ?l4 ?c4 ?k4 ?a5 ?l5 ?c5 ?k5 ?a6 ?l6 ?c6 ?k6 ?a7 ?l7 ?c7 ?k7 ?a8 ?l8 ?c8 ?k8 ?a9 ?l9 ?c9 ?k9 ?a10 ?l10 ?c10 ?k10 ?a11 ?l11 ?c11 ?k11 ?a12 ?l12 ?c12 ?k12 ?a13 ?l13 ?c13 ?k13 ?a14 ?l14 ?c14 ?k14 ?a15 ?l15 ?c15 ?k15 ?a16 ?l16 ?c16 ?k16 ?a17 ?l17 ?c17 ?k17 ?a18 ?l18 ?c18 ?k18 ?a19 ?l19 ?c19 ?k19 ?a20 ?l20 ?c20 ?k20 ?a21 ?l21 ?c21 ?k21 ?a22 ?l22 ?c22 ?k22 ?a23 ?l23 ?c23 ?k23 ?a24 ?l24 ?c24 ?k24 ?a25 ?l25 ?c25 ?k25 ?a26 ?l26 ?c26 ?k26 ?a27 ?l27 ?c27 ?k27 ?i_gcd ?z_abs ?z_all ?z_bool ?z_enumerate ?z_int ?z_isinstance ?z_len ?z_list ?z_max ?z_range ?z_tuple ?y_FARTHEST ?y_MOST_POINTS ?xa_BadPins ?xa_BadTopology ?xg_BadPins ?xk_BadPins ?xs_BadPins ?xd_BadPins ?xc_BadPins ?xm_BadPins ?xt_BadPins ?xp_BadPins ?xg_BadTopology ?xk_BadTopology ?xs_BadTopology ?xd_BadTopology ?xc_BadTopology ?xm_BadTopology ?xt_BadTopology ?xp_BadTopology ?xn ?xu ?xl_BadPins ?xsa_BadPins ?xf_BadPins ?xi_BadPins ?xit_BadPins ?xil_BadPins ?xic_BadPins ?xik_BadPins ?xe_BadTopology Pr.law_true
    (case ht0 => kernel_rfl)
    (case hK0 => kernel_rfl)
    (case a0 => k_is)
    (case l0 => k_is)
    (case c0 => k_is)
    (case k0 => k_is)
    (case a1 => k_is)
    (case l1 => k_is)
    (case c1 => k_is)
    (case k1 => k_is)
    (case a2 => k_is)
    (case l2 => k_is)
    (case c2 => k_is)
    (case k2 => k_is)
    (case a3 => k_is)
    (case l3 => k_is)
    (case c3 => k_is)
    (case k3 => k_is)
    (case a4 => k_is)
    (case l4 => k_is)
    (case c4 => k_is)
    (case k4 => k_is)
    (case a5 => k_is)
    (case l5 => k_is)
    (case c5 => k_is)
    (case k5 => k_is)
    (case a6 => k_is)
    (case l6 => k_is)
    (case c6 => k_is)
    (case k6 => k_is)
    (case a7 => k_is)
    (case l7 => k_is)
    (case c7 => k_is)
    (case k7 => k_is)
    (case a8 => k_is)
    (case l8 => k_is)
    (case c8 => k_is)
    (case k8 => k_is)
    (case a9 => k_is)
    (case l9 => k_is)
    (case c9 => k_is)
    (case k9 => k_is)
    (case a10 => k_is)
    (case l10 => k_is)
    (case c10 => k_is)
    (case k10 => k_is)
    (case a11 => k_is)
    (case l11 => k_is)
    (case c11 => k_is)
    (case k11 => k_is)
    (case a12 => k_is)
    (case l12 => k_is)
    (case c12 => k_is)
    (case k12 => k_is)
    (case a13 => k_is)
    (case l13 => k_is)
    (case c13 => k_is)
    (case k13 => k_is)
    (case a14 => k_is)
    (case l14 => k_is)
    (case c14 => k_is)
    (case k14 => k_is)
    (case a15 => k_is)
    (case l15 => k_is)
    (case c15 => k_is)
    (case k15 => k_is)
    (case a16 => k_is)
    (case l16 => k_is)
    (case c16 => k_is)
    (case k16 => k_is)
    (case a17 => k_is)
    (case l17 => k_is)
    (case c17 => k_is)
    (case k17 => k_is)
    (case a18 => k_is)
    (case l18 => k_is)
    (case c18 => k_is)
    (case k18 => k_is)
    (case a19 => k_is)
    (case l19 => k_is)
    (case c19 => k_is)
    (case k19 => k_is)
    (case a20 => k_is)
    (case l20 => k_is)
    (case c20 => k_is)
    (case k20 => k_is)
    (case a21 => k_is)
    (case l21 => k_is)
    (case c21 => k_is)
    (case k21 => k_is)
    (case a22 => k_is)
    (case l22 => k_is)
    (case c22 => k_is)
    (case k22 => k_is)
    (case a23 => k_is)
    (case l23 => k_is)
    (case c23 => k_is)
    (case k23 => k_is)
    (case a24 => k_is)
    (case l24 => k_is)
    (case c24 => k_is)
    (case k24 => k_is)
    (case a25 => k_is)
    (case l25 => k_is)
    (case c25 => k_is)
    (case k25 => k_is)
    (case a26 => k_is)
    (case l26 => k_is)
    (case c26 => k_is)
    (case k26 => k_is)
    (case a27 => k_is)
    (case l27 => k_is)
    (case c27 => k_is)
    (case k27 => k_is)
    (case i_gcd => k_is)
    (case z_abs => k_is)
    (case z_all => k_is)
    (case z_bool => k_is)
    (case z_enumerate => k_is)
    (case z_int => k_is)
    (case z_isinstance => k_is)
    (case z_len => k_is)
    (case z_list => k_is)
    (case z_max => k_is)
    (case z_range => k_is)
    (case z_tuple => k_is)
    (case y_FARTHEST => k_is)
    (case y_MOST_POINTS => k_is)
    (case xa_BadPins => k_is)
    (case xa_BadTopology => k_is)
    (case xg_BadPins => k_is)
    (case xk_BadPins => k_is)
    (case xs_BadPins => k_is)
    (case xd_BadPins => k_is)
    (case xc_BadPins => k_is)
    (case xm_BadPins => k_is)
    (case xt_BadPins => k_is)
    (case xp_BadPins => k_is)
    (case xg_BadTopology => k_is)
    (case xk_BadTopology => k_is)
    (case xs_BadTopology => k_is)
    (case xd_BadTopology => k_is)
    (case xc_BadTopology => k_is)
    (case xm_BadTopology => k_is)
    (case xt_BadTopology => k_is)
    (case xp_BadTopology => k_is)
    (case xn => k_is)
    (case xu => k_is)
    (case xl_BadPins => k_is)
    (case xsa_BadPins => k_is)
    (case xf_BadPins => k_is)
    (case xi_BadPins => k_is)
    (case xit_BadPins => k_is)
    (case xil_BadPins => k_is)
    (case xic_BadPins => k_is)
    (case xik_BadPins => k_is)
    (case xe_BadTopology => k_exc)
