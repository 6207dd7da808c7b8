import PyProof.Rows.All
import Wide.All
import OpenK.AllK
import Wide.FinOn
import HandS.Base
import HandS.Call
import HandS.List
import HandS.Comp
import HandS.Ends
import HandS.Dict
import HandS.Iter
import HandS.Text
import HandS.More
import HandS.Words
import HandS.Evl
import HandS.Conv
import HandS.SortInts
import HandS.Wide
import HandS.IsInst
import HandS.TupAny
import HandS.Style
import HandS.Walk
import KE.GoesEnum
import PySem.Challenge.RW_wholeorders_k04_whole_sums_and_parts
set_option Elab.async false
set_option linter.all false
set_option maxRecDepth 100000
set_option maxHeartbeats 2000000
/-! Z: a pure layer over HandS: values are PyData, a def is a plain Lean function. -/
namespace Z
open PySem L2 Evl PyProof.Rows

/-! ### data over a heap that grows -/
mutual
theorem dp_mono {K : PySem.W.Frag} {F F' : Hp} (e : Ex F F') : ∀ {v : V} {d : PyData}, Dp K F v d → Dp K F' v d
  | _, _, .non => .non
  | _, _, .bl b => .bl b
  | _, _, .int i => .int i
  | _, _, .str x => .str x
  | _, _, .lst h r => .lst (ex_l e h) (dpa_mono e r)
  | _, _, .tup h r => .tup (ex_t e h) (dpa_mono e r)
theorem dpa_mono {K : PySem.W.Frag} {F F' : Hp} (e : Ex F F') : ∀ {vs : List V} {ds : List PyData}, DpAll K F vs ds → DpAll K F' vs ds
  | _, _, .nil => .nil
  | _, _, .cons h r => .cons (dp_mono e h) (dpa_mono e r)
end
theorem dpa_len {K : PySem.W.Frag} {F : Hp} : ∀ {vs : List V} {ds : List PyData}, DpAll K F vs ds → vs.length = ds.length
  | _, _, .nil => rfl
  | _, _, .cons _ r => by simp [dpa_len r]
theorem dpa_get {K : PySem.W.Frag} {F : Hp} : ∀ {vs : List V} {ds : List PyData} {i : Nat} {d : PyData}, DpAll K F vs ds → ds[i]? = some d → ∃ v, vs[i]? = some v ∧ Dp K F v d
  | _, _, _, _, .nil, e => by simp at e
  | _, _, 0, _, .cons h _, e => by simp at e; subst e; exact ⟨_, rfl, h⟩
  | _, _, i + 1, d, .cons _ r, e => by
    obtain ⟨v, h1, h2⟩ := dpa_get (i := i) (d := d) r (by simpa using e)
    exact ⟨v, by simpa using h1, h2⟩
theorem dpa_get' {K : PySem.W.Frag} {F : Hp} : ∀ {vs : List V} {ds : List PyData} {i : Nat} {v : V}, DpAll K F vs ds → vs[i]? = some v → ∃ d, ds[i]? = some d ∧ Dp K F v d
  | _, _, _, _, .nil, e => by simp at e
  | _, _, 0, _, .cons h _, e => by simp at e; subst e; exact ⟨_, rfl, h⟩
  | _, _, i + 1, d, .cons _ r, e => by
    obtain ⟨v, h1, h2⟩ := dpa_get' (i := i) (v := d) r (by simpa using e)
    exact ⟨v, by simpa using h1, h2⟩
theorem dpa_app {K : PySem.W.Frag} {F : Hp} : ∀ {vs ws : List V} {ds es : List PyData}, DpAll K F vs ds → DpAll K F ws es → DpAll K F (vs ++ ws) (ds ++ es)
  | _, _, _, _, .nil, s => s
  | _, _, _, _, .cons h r, s => .cons h (dpa_app r s)
theorem dpa_take {K : PySem.W.Frag} {F : Hp} : ∀ {vs : List V} {ds : List PyData} (n : Nat), DpAll K F vs ds → DpAll K F (vs.take n) (ds.take n)
  | _, _, 0, _ => .nil
  | _, _, _ + 1, .nil => .nil
  | _, _, n + 1, .cons h r => .cons h (dpa_take n r)
theorem dpa_drop {K : PySem.W.Frag} {F : Hp} : ∀ {vs : List V} {ds : List PyData} (n : Nat), DpAll K F vs ds → DpAll K F (vs.drop n) (ds.drop n)
  | _, _, 0, r => r
  | _, _, _ + 1, .nil => .nil
  | _, _, n + 1, .cons _ r => dpa_drop n r
theorem dpa_rev {K : PySem.W.Frag} {F : Hp} : ∀ {vs : List V} {ds : List PyData}, DpAll K F vs ds → DpAll K F vs.reverse ds.reverse
  | _, _, .nil => .nil
  | _, _, .cons h r => by rw [List.reverse_cons, List.reverse_cons]; exact dpa_app (dpa_rev r) (.cons h .nil)
theorem dpa_set {K : PySem.W.Frag} {F : Hp} {v : V} {d : PyData} (h : Dp K F v d) : ∀ {vs : List V} {ds : List PyData} (i : Nat), DpAll K F vs ds → DpAll K F (vs.set i v) (ds.set i d)
  | _, _, _, .nil => .nil
  | _, _, 0, .cons _ r => .cons h r
  | _, _, i + 1, .cons q r => .cons q (dpa_set h i r)
theorem dpa_ints {K : PySem.W.Frag} {F : Hp} : ∀ (ns : List Int), DpAll K F (ns.map V.int) (ns.map PyData.int)
  | [] => .nil
  | n :: r => .cons (.int n) (dpa_ints r)
theorem dpa_ints_of {K : PySem.W.Frag} {F : Hp} : ∀ {ns : List Int} {vs : List V}, DpAll K F vs (ns.map PyData.int) → vs = ns.map V.int
  | [], _, .nil => rfl
  | n :: r, _, .cons (.int _) h => by rw [dpa_ints_of h]; rfl

/-! ### slots, environments -/
inductive Slot where
  | no
  | val (d : PyData)
  | own (ds : List PyData)
  | par (ds : List PyData)
abbrev Env := List Slot
def Slot.isOwn : Slot → Bool
  | .own _ => true
  | .par _ => true
  | _ => false

/-- how a call began: what was known, the heap, what the call may change -/
structure Bs where
  F0 : Hp
  H0 : Hp
  /-- what may be changed, must be handed back; what may be changed and taken -/
  M : Addr → Prop
  Z : Addr → Prop
/-- what F may know: lists, tuples, locked lists -/
def PlO : HO → Prop
  | .lst _ => True
  | .tup _ => True
  | .frz _ (.lst _) => True
  | _ => False
def Pl (F : Hp) : Prop := ∀ b o, F b = some o → PlO o
theorem Pl.upd {F : Hp} {p : Addr} {o : HO} (h : Pl F) (ho : PlO o) : Pl (upd F p o) := fun b u e => by
  by_cases hb : b = p
  · subst hb; rw [upd_same] at e; cases e; exact ho
  · rw [upd_ne hb] at e; exact h b u e

def SlotOk (K : PySem.W.Frag) (B : Bs) (F H : Hp) : Slot → Option (Option V) → Prop
  | .no, _ => True
  | .val d, o => ∃ v, o = some (some v) ∧ Dp K F v d
  | .own ds, o => ∃ a vs, o = some (some (.ref a)) ∧ F a = none ∧ (B.H0 a = none ∨ B.Z a) ∧ H a = some (.lst vs) ∧ DpAll K F vs ds
  | .par ds, o => ∃ a vs, o = some (some (.ref a)) ∧ F a = none ∧ B.M a ∧ H a = some (.lst vs) ∧ DpAll K F vs ds

structure Rel (K : PySem.W.Frag) (B : Bs) (Γ : Env) (F : Hp) (σ : L2.St) (H : Hp) : Prop where
  len : σ.length = Γ.length
  slot : ∀ (i : Nat) (s : Slot), Γ[i]? = some s → SlotOk K B F H s σ[i]?
  dist : ∀ (i j : Nat) (s t : Slot) (a : Addr), i ≠ j → Γ[i]? = some s → s.isOwn = true → Γ[j]? = some t → t.isOwn = true → σ[i]? = some (some (.ref a)) → σ[j]? = some (some (.ref a)) → False
  ext0 : Ex B.F0 F
  ext : Ex F H
  frame : ∀ b o, B.H0 b = some o → ¬ B.M b → ¬ B.Z b → H b = some o
  newF : ∀ b o, F b = some o → B.F0 b = some o ∨ B.H0 b = none ∨ B.Z b
  pl : Pl F
  fresh : ∀ b, H b = none → B.H0 b = none

/-- the heap got new things, nothing else changed -/
structure Grow (F H F' H' : Hp) : Prop where
  keep : Ex H H'
  ext : Ex F F'
  ok : Ex F' H'
  new : ∀ b o, F' b = some o → F b = some o ∨ H b = none
  pl : Pl F → Pl F'
theorem Grow.refl {F H : Hp} (e : Ex F H) : Grow F H F H := ⟨Ex.refl H, Ex.refl F, e, fun _ _ h => .inl h, fun h => h⟩
theorem Grow.trans {F H F1 H1 F2 H2 : Hp} (a : Grow F H F1 H1) (b : Grow F1 H1 F2 H2) : Grow F H F2 H2 :=
  ⟨a.keep.trans b.keep, a.ext.trans b.ext, b.ok, fun x o h => by
    rcases b.new x o h with h | h
    · exact a.new x o h
    · exact .inr (fresh_back a.keep h), fun h => b.pl (a.pl h)⟩
theorem Grow.laid {F H : Hp} {p : Addr} {o : HO} (e : Ex F H) (hp : H p = none) (ho : PlO o := by trivial) : Grow F H (upd F p o) (upd H p o) := by
  refine ⟨Ex.new hp, Ex.new (fresh_back e hp), fun b u h => ?_, fun b u h => ?_, fun h => h.upd ho⟩
  · by_cases hb : b = p
    · subst hb; rw [upd_same] at h ⊢; exact h
    · rw [upd_ne hb] at h ⊢; exact e b u h
  · by_cases hb : b = p
    · subst hb; exact .inr hp
    · rw [upd_ne hb] at h; exact .inl h

section
variable {K : PySem.W.Frag} {B : Bs} {Γ Γ' : Env} {F F' H H' : Hp} {σ σ' : L2.St}
theorem Rel.grow (R : Rel K B Γ F σ H) (g : Grow F H F' H') : Rel K B Γ F' σ H' := by
  have noF : ∀ a vs, F a = none → H a = some (.lst vs) → F' a = none := fun a vs h1 h2 => by
    cases q : F' a with
    | none => rfl
    | some o =>
      rcases g.new a o q with z | z
      · rw [h1] at z; cases z
      · rw [h2] at z; cases z
  refine ⟨R.len, fun i s h => ?_, R.dist, R.ext0.trans g.ext, g.ok, fun b o h hm hz => g.keep b o (R.frame b o h hm hz), fun b o h => ?_, g.pl R.pl, fun b h => R.fresh b (fresh_back g.keep h)⟩
  · have q := R.slot i s h
    cases s with
    | no => trivial
    | val d => obtain ⟨v, e, dd⟩ := q; exact ⟨v, e, dp_mono g.ext dd⟩
    | own ds => obtain ⟨a, vs, e, h1, h2, h3, h4⟩ := q; exact ⟨a, vs, e, noF a vs h1 h3, h2, g.keep _ _ h3, dpa_mono g.ext h4⟩
    | par ds => obtain ⟨a, vs, e, h1, h2, h3, h4⟩ := q; exact ⟨a, vs, e, noF a vs h1 h3, h2, g.keep _ _ h3, dpa_mono g.ext h4⟩
  · rcases g.new b o h with z | z
    · exact R.newF b o z
    · exact .inr (.inl (R.fresh b z))

/-- a slot gets a value -/
theorem Rel.setVal (R : Rel K B Γ F σ H) {i : Nat} {v : V} {d : PyData} (hd : Dp K F v d) : Rel K B (Γ.set i (.val d)) F (σ.set i (some v)) H := by
  refine ⟨by rw [List.length_set, List.length_set]; exact R.len, fun j s h => ?_, fun j k s t a hjk h1 h2 h3 h4 h5 h6 => ?_, R.ext0, R.ext, R.frame, R.newF, R.pl, R.fresh⟩
  · by_cases hj : i = j
    · subst hj
      have hl : i < Γ.length := by
        have := (List.getElem?_eq_some_iff.mp h).1
        rw [List.length_set] at this; exact this
      rw [List.getElem?_set_self hl] at h
      cases h
      rw [List.getElem?_set_self (by rw [R.len]; exact hl)]
      exact ⟨v, rfl, hd⟩
    · rw [List.getElem?_set_ne hj] at h
      rw [List.getElem?_set_ne hj]
      exact R.slot j s h
  · have nj : ∀ (j : Nat) (s : Slot), (Γ.set i (.val d))[j]? = some s → s.isOwn = true → i ≠ j := fun j s h q e => by
      subst e
      have hl : i < Γ.length := by
        have := (List.getElem?_eq_some_iff.mp h).1
        rw [List.length_set] at this; exact this
      rw [List.getElem?_set_self hl] at h
      cases h
      cases q
    have e1 := nj j s h1 h2
    have e2 := nj k t h3 h4
    rw [List.getElem?_set_ne e1] at h1 h5
    rw [List.getElem?_set_ne e2] at h3 h6
    exact R.dist j k s t a hjk h1 h2 h3 h4 h5 h6
/-- a slot is forgotten -/
theorem Rel.setNo (R : Rel K B Γ F σ H) {i : Nat} {o : Option V} : Rel K B (Γ.set i .no) F (σ.set i o) H := by
  refine ⟨by rw [List.length_set, List.length_set]; exact R.len, fun j s h => ?_, fun j k s t a hjk h1 h2 h3 h4 h5 h6 => ?_, R.ext0, R.ext, R.frame, R.newF, R.pl, R.fresh⟩
  · by_cases hj : i = j
    · subst hj
      have hl : i < Γ.length := by
        have := (List.getElem?_eq_some_iff.mp h).1
        rw [List.length_set] at this; exact this
      rw [List.getElem?_set_self hl] at h
      cases h
      trivial
    · rw [List.getElem?_set_ne hj] at h
      rw [List.getElem?_set_ne hj]
      exact R.slot j s h
  · have nj : ∀ (j : Nat) (s : Slot), (Γ.set i .no)[j]? = some s → s.isOwn = true → i ≠ j := fun j s h q e => by
      subst e
      have hl : i < Γ.length := by
        have := (List.getElem?_eq_some_iff.mp h).1
        rw [List.length_set] at this; exact this
      rw [List.getElem?_set_self hl] at h
      cases h
      cases q
    have e1 := nj j s h1 h2
    have e2 := nj k t h3 h4
    rw [List.getElem?_set_ne e1] at h1 h5
    rw [List.getElem?_set_ne e2] at h3 h6
    exact R.dist j k s t a hjk h1 h2 h3 h4 h5 h6
/-- a list of the call's own gets a slot: a new list -/
theorem Rel.setOwn (R : Rel K B Γ F σ H) {i : Nat} {p : Addr} {vs : List V} {ds : List PyData} (hp : H p = none) (hd : DpAll K F vs ds) :
    Rel K B (Γ.set i (.own ds)) F (σ.set i (some (.ref p))) (upd H p (.lst vs)) := by
  have keep : Ex H (upd H p (.lst vs)) := Ex.new hp
  have hF : F p = none := fresh_back R.ext hp
  have slotp : ∀ (j : Nat) (s : Slot), Γ[j]? = some s → s.isOwn = true → σ[j]? = some (some (V.ref p)) → False := fun j s h q e => by
    have z := R.slot j s h
    cases s with
    | no => cases q
    | val d => cases q
    | own ds => obtain ⟨a, ws, e1, _, _, h3, _⟩ := z; rw [e] at e1; cases e1; rw [hp] at h3; cases h3
    | par ds => obtain ⟨a, ws, e1, _, _, h3, _⟩ := z; rw [e] at e1; cases e1; rw [hp] at h3; cases h3
  refine ⟨by rw [List.length_set, List.length_set]; exact R.len, fun j s h => ?_, fun j k s t a hjk h1 h2 h3 h4 h5 h6 => ?_, R.ext0, R.ext.trans keep, fun b o h hm hz => keep b o (R.frame b o h hm hz), R.newF, R.pl, fun b h => R.fresh b (fresh_back keep h)⟩
  · by_cases hj : i = j
    · subst hj
      have hl : i < Γ.length := by
        have := (List.getElem?_eq_some_iff.mp h).1
        rw [List.length_set] at this; exact this
      rw [List.getElem?_set_self hl] at h
      cases h
      rw [List.getElem?_set_self (by rw [R.len]; exact hl)]
      exact ⟨p, vs, rfl, hF, .inl (R.fresh p hp), upd_same, hd⟩
    · rw [List.getElem?_set_ne hj] at h
      rw [List.getElem?_set_ne hj]
      have q := R.slot j s h
      cases s with
      | no => trivial
      | val d => exact q
      | own ds => obtain ⟨a, ws, e, h1, h2, h3, h4⟩ := q; exact ⟨a, ws, e, h1, h2, keep _ _ h3, h4⟩
      | par ds => obtain ⟨a, ws, e, h1, h2, h3, h4⟩ := q; exact ⟨a, ws, e, h1, h2, keep _ _ h3, h4⟩
  · have lt : ∀ (j : Nat) (s : Slot), (Γ.set i (.own ds))[j]? = some s → j < Γ.length := fun j s h => by
      have := (List.getElem?_eq_some_iff.mp h).1
      rw [List.length_set] at this; exact this
    by_cases ej : i = j
    · subst ej
      have hl := lt i s h1
      rw [List.getElem?_set_self (by rw [R.len]; exact hl)] at h5
      cases h5
      rw [List.getElem?_set_ne hjk] at h3 h6
      exact slotp k t h3 h4 h6
    · by_cases ek : i = k
      · subst ek
        have hl := lt i t h3
        rw [List.getElem?_set_self (by rw [R.len]; exact hl)] at h6
        cases h6
        rw [List.getElem?_set_ne ej] at h1 h5
        exact slotp j s h1 h2 h5
      · rw [List.getElem?_set_ne ej] at h1 h5
        rw [List.getElem?_set_ne ek] at h3 h6
        exact R.dist j k s t a hjk h1 h2 h3 h4 h5 h6
/-- the content of a list of one's own -/
def ownAt (Γ : Env) (i : Nat) : Option (List PyData) := match Γ[i]? with
  | some (.own ds) => some ds
  | some (.par ds) => some ds
  | _ => none
def ownSet (Γ : Env) (i : Nat) (es : List PyData) : Env := match Γ[i]? with
  | some (.own _) => Γ.set i (.own es)
  | some (.par _) => Γ.set i (.par es)
  | _ => Γ
theorem Rel.ownGet (R : Rel K B Γ F σ H) {i : Nat} {ds : List PyData} (h : ownAt Γ i = some ds) :
    ∃ (a : Addr) (vs : List V), σ[i]? = some (some (V.ref a)) ∧ F a = none ∧ H a = some (.lst vs) ∧ DpAll K F vs ds := by
  unfold ownAt at h
  cases q : Γ[i]? with
  | none => rw [q] at h; cases h
  | some s =>
    rw [q] at h
    have z := R.slot i s q
    cases s with
    | no => cases h
    | val d => cases h
    | own es => cases h; obtain ⟨a, ws, e, h1, h2, h3, h4⟩ := z; exact ⟨a, ws, e, h1, h3, h4⟩
    | par es => cases h; obtain ⟨a, ws, e, h1, h2, h3, h4⟩ := z; exact ⟨a, ws, e, h1, h3, h4⟩
/-- a list of one's own is changed -/
theorem Rel.write (R : Rel K B Γ F σ H) {i : Nat} {ds es : List PyData} {a : Addr} {ws : List V} (h : ownAt Γ i = some ds) (ha : σ[i]? = some (some (.ref a))) (hd : DpAll K F ws es) :
    Rel K B (ownSet Γ i es) F σ (upd H a (.lst ws)) := by
  obtain ⟨a', vs, e', hF, hH, _⟩ := R.ownGet h
  rw [ha] at e'; cases e'
  have own_i : ∃ s : Slot, Γ[i]? = some s ∧ s.isOwn = true := by
    unfold ownAt at h
    cases q : Γ[i]? with
    | none => rw [q] at h; cases h
    | some s => rw [q] at h; cases s <;> first | cases h; done | exact ⟨_, rfl, rfl⟩
  obtain ⟨s0, hs0, hs0o⟩ := own_i
  have hl : i < Γ.length := (List.getElem?_eq_some_iff.mp hs0).1
  -- the shape of the new environment
  have shape : ∃ s1 : Slot, ownSet Γ i es = Γ.set i s1 ∧ s1.isOwn = true ∧ SlotOk K B F (upd H a (.lst ws)) s1 σ[i]? := by
    have z := R.slot i s0 hs0
    unfold ownSet
    rw [hs0]
    cases s0 with
    | no => cases hs0o
    | val d => cases hs0o
    | own es' => obtain ⟨a1, ws1, e, h1, h2, h3, h4⟩ := z; rw [ha] at e; cases e; exact ⟨.own es, rfl, rfl, a, ws, ha, hF, h2, upd_same, hd⟩
    | par es' => obtain ⟨a1, ws1, e, h1, h2, h3, h4⟩ := z; rw [ha] at e; cases e; exact ⟨.par es, rfl, rfl, a, ws, ha, hF, h2, upd_same, hd⟩
  have hout : (B.H0 a = none ∨ B.Z a) ∨ B.M a := by
    have z := R.slot i s0 hs0
    cases s0 with
    | no => cases hs0o
    | val d => cases hs0o
    | own es' => obtain ⟨a1, ws1, e, h1, h2, h3, h4⟩ := z; rw [ha] at e; cases e; exact .inl h2
    | par es' => obtain ⟨a1, ws1, e, h1, h2, h3, h4⟩ := z; rw [ha] at e; cases e; exact .inr h2
  obtain ⟨s1, es1, ho1, ok1⟩ := shape
  rw [es1]
  have nea : ∀ b o, F b = some o → b ≠ a := fun b o e z => by subst z; rw [hF] at e; cases e
  refine ⟨by rw [List.length_set]; exact R.len, fun j s h' => ?_, fun j k s t b hjk h1 h2 h3 h4 h5 h6 => ?_, R.ext0, fun b o e => ?_, fun b o e hm hz => ?_, R.newF, R.pl, fun b e => ?_⟩
  · by_cases hj : i = j
    · subst hj
      rw [List.getElem?_set_self hl] at h'
      cases h'
      exact ok1
    · rw [List.getElem?_set_ne hj] at h'
      have q := R.slot j s h'
      cases s with
      | no => trivial
      | val d => exact q
      | own ds' =>
        obtain ⟨b, ws', e, h1, h2, h3, h4⟩ := q
        have nb : b ≠ a := fun z => R.dist i j s0 _ a hj hs0 hs0o h' rfl ha (z ▸ e)
        exact ⟨b, ws', e, h1, h2, by rw [upd_ne nb]; exact h3, h4⟩
      | par ds' =>
        obtain ⟨b, ws', e, h1, h2, h3, h4⟩ := q
        have nb : b ≠ a := fun z => R.dist i j s0 _ a hj hs0 hs0o h' rfl ha (z ▸ e)
        exact ⟨b, ws', e, h1, h2, by rw [upd_ne nb]; exact h3, h4⟩
  · have back : ∀ (j : Nat) (s : Slot), (Γ.set i s1)[j]? = some s → s.isOwn = true → ∃ t : Slot, Γ[j]? = some t ∧ t.isOwn = true := fun j s q w => by
      by_cases hj : i = j
      · subst hj; exact ⟨s0, hs0, hs0o⟩
      · rw [List.getElem?_set_ne hj] at q; exact ⟨s, q, w⟩
    obtain ⟨s', g1, g2⟩ := back j s h1 h2
    obtain ⟨t', g3, g4⟩ := back k t h3 h4
    exact R.dist j k s' t' b hjk g1 g2 g3 g4 h5 h6
  · rw [upd_ne (nea b o e)]; exact R.ext b o e
  · by_cases hb : b = a
    · subst hb
      rcases hout with (z | z) | z
      · rw [z] at e; cases e
      · exact absurd z hz
      · exact absurd z hm
    · rw [upd_ne hb]; exact R.frame b o e hm hz
  · by_cases hb : b = a
    · subst hb; rw [upd_same] at e; cases e
    · rw [upd_ne hb] at e; exact R.fresh b e
/-- a list of one's own becomes a plain value -/
theorem Rel.freeze (R : Rel K B Γ F σ H) {i : Nat} {ds : List PyData} (h : Γ[i]? = some (.own ds)) :
    ∃ (a : Addr) (F' : Hp), σ[i]? = some (some (V.ref a)) ∧ Ex F F' ∧ Dp K F' (.ref a) (.list ds) ∧ Rel K B (Γ.set i (.val (.list ds))) F' σ H := by
  obtain ⟨a, vs, e, hF, hH0, hH, hd⟩ := R.slot i _ h
  have ex : Ex F (upd F a (.lst vs)) := Ex.new hF
  have dp : Dp K (upd F a (.lst vs)) (.ref a) (.list ds) := .lst (sq_of upd_same) (dpa_mono ex hd)
  have hl : i < Γ.length := (List.getElem?_eq_some_iff.mp h).1
  have noF : ∀ (j : Nat) (s : Slot) (b : Addr), j ≠ i → Γ[j]? = some s → s.isOwn = true → σ[j]? = some (some (V.ref b)) → F b = none → (upd F a (.lst vs)) b = none := fun j s b hj q w eb hb => by
    have nb : b ≠ a := fun z => R.dist j i s _ a hj q w h rfl (z ▸ eb) e
    rw [upd_ne nb]; exact hb
  refine ⟨a, upd F a (.lst vs), e, ex, dp, ?_⟩
  refine ⟨by rw [List.length_set]; exact R.len, fun j s h' => ?_, fun j k s t b hjk h1 h2 h3 h4 h5 h6 => ?_, R.ext0.trans ex, fun b o q => ?_, R.frame, fun b o q => ?_, R.pl.upd trivial, R.fresh⟩
  · by_cases hj : i = j
    · subst hj
      rw [List.getElem?_set_self hl] at h'
      cases h'
      exact ⟨_, e, dp⟩
    · rw [List.getElem?_set_ne hj] at h'
      have q := R.slot j s h'
      cases s with
      | no => trivial
      | val d => obtain ⟨v, e1, e2⟩ := q; exact ⟨v, e1, dp_mono ex e2⟩
      | own ds' => obtain ⟨b, ws', e1, h1, h2, h3, h4⟩ := q; exact ⟨b, ws', e1, noF j _ b (Ne.symm hj) h' rfl e1 h1, h2, h3, dpa_mono ex h4⟩
      | par ds' => obtain ⟨b, ws', e1, h1, h2, h3, h4⟩ := q; exact ⟨b, ws', e1, noF j _ b (Ne.symm hj) h' rfl e1 h1, h2, h3, dpa_mono ex h4⟩
  · have nj : ∀ (j : Nat) (s : Slot), (Γ.set i (.val (.list ds)))[j]? = some s → s.isOwn = true → i ≠ j := fun j s q w z => by
      subst z
      rw [List.getElem?_set_self hl] at q
      cases q
      cases w
    have e1 := nj j s h1 h2
    have e2 := nj k t h3 h4
    rw [List.getElem?_set_ne e1] at h1
    rw [List.getElem?_set_ne e2] at h3
    exact R.dist j k s t b hjk h1 h2 h3 h4 h5 h6
  · by_cases hb : b = a
    · subst hb; rw [upd_same] at q; cases q; exact hH
    · rw [upd_ne hb] at q; exact R.ext b o q
  · by_cases hb : b = a
    · subst hb; exact .inr hH0
    · rw [upd_ne hb] at q; exact R.newF b o q
end

/-! ### what a reading is worth -/
abbrev EX := Env → Option (PyData × Env)
abbrev TX := Env → Option (Bool × Env)
abbrev AX := Env → Option (List PyData × Env)
def EvE (K : PySem.W.Frag) (te : TE) (e : EX) : Prop := ∀ (B : Bs) (Γ : Env) (F : Hp) (σ : L2.St) (H : Hp) (r : PyData) (Γ' : Env), Rel K B Γ F σ H → e Γ = some (r, Γ') →
  ∀ Q : VK, (∀ v F' H', Ex F F' → Rel K B Γ' F' σ H' → Dp K F' v r → Q v H') → te σ H Q
def EvT (K : PySem.W.Frag) (tt : TT) (t : TX) : Prop := ∀ (B : Bs) (Γ : Env) (F : Hp) (σ : L2.St) (H : Hp) (r : Bool) (Γ' : Env), Rel K B Γ F σ H → t Γ = some (r, Γ') →
  ∀ Q : Bool → Hp → Prop, (∀ F' H', Ex F F' → Rel K B Γ' F' σ H' → Q r H') → tt σ H Q
def EvA (K : PySem.W.Frag) (ta : TA) (a : AX) : Prop := ∀ (B : Bs) (Γ : Env) (F : Hp) (σ : L2.St) (H : Hp) (rs : List PyData) (Γ' : Env), Rel K B Γ F σ H → a Γ = some (rs, Γ') →
  ∀ Q : List V → Hp → Prop, (∀ vs F' H', Ex F F' → Rel K B Γ' F' σ H' → DpAll K F' vs rs → Q vs H') → ta σ H Q

/-- by values: an operator, a call, a slice -/
def OpP (K : PySem.W.Frag) (r : R2) (p : PyData → PyData → Option PyData) : Prop := ∀ (F H : Hp) (x y : V) (d e z : PyData), Ex F H → Pl F → Dp K F x d → Dp K F y e → p d e = some z →
  ∀ Q : VK, (∀ v F' H', Grow F H F' H' → Dp K F' v z → Q v H') → r x y H Q
def UnP (K : PySem.W.Frag) (r : V → Hp → VK → Prop) (p : PyData → Option PyData) : Prop := ∀ (F H : Hp) (x : V) (d z : PyData), Ex F H → Pl F → Dp K F x d → p d = some z →
  ∀ Q : VK, (∀ v F' H', Grow F H F' H' → Dp K F' v z → Q v H') → r x H Q
def CallP (K : PySem.W.Frag) (r : List V → Hp → VK → Prop) (p : List PyData → Option PyData) : Prop := ∀ (F H : Hp) (xs : List V) (ds : List PyData) (z : PyData), Ex F H → Pl F → DpAll K F xs ds → p ds = some z →
  ∀ Q : VK, (∀ v F' H', Grow F H F' H' → Dp K F' v z → Q v H') → r xs H Q
def SlP (K : PySem.W.Frag) (r : V → Option Int → Option Int → Hp → VK → Prop) (p : PyData → Option Int → Option Int → Option PyData) : Prop := ∀ (F H : Hp) (x : V) (d z : PyData) (lo hi : Option Int), Ex F H → Pl F → Dp K F x d → p d lo hi = some z →
  ∀ Q : VK, (∀ v F' H', Grow F H F' H' → Dp K F' v z → Q v H') → r x lo hi H Q

/-! ### judgements -/
def EP (X : Cx) (e : Expr) (f : EX) : Prop := ∃ te, PE X e te ∧ EvE X.K te f
def TP (X : Cx) (e : Expr) (f : TX) : Prop := ∃ tt, PT X e tt ∧ EvT X.K tt f
def WP (X : Cx) (e : Expr) (f : TX) : Prop := ∃ tt, PW X e tt ∧ EvT X.K tt f
def AP (X : Cx) (es : List Expr) (f : AX) : Prop := ∃ ta, PA X es ta ∧ EvA X.K ta f
def OpE (X : Cx) (f : Value → Value → Sem Value) (p : PyData → PyData → Option PyData) : Prop := ∃ r, OpR X f r ∧ OpP X.K r p
def UnE (X : Cx) (f : Value → Sem Value) (p : PyData → Option PyData) : Prop := ∃ r, UnR X f r ∧ UnP X.K r p
def CallE (X : Cx) (f : Value) (p : List PyData → Option PyData) : Prop := ∃ r, CallR X f r ∧ CallP X.K r p
def IxE (X : Cx) (p : PyData → PyData → Option PyData) : Prop := ∃ r, IxR X r ∧ OpP X.K r p
def SlE (X : Cx) (p : PyData → Option Int → Option Int → Option PyData) : Prop := ∃ r, SlR X r ∧ SlP X.K r p

/-! ### expressions -/
def eVar (i : Nat) : EX := fun Γ => match Γ[i]? with
  | some (.val d) => some (d, Γ)
  | some (.own ds) => some (.list ds, Γ.set i (.val (.list ds)))
  | _ => none
def eC (d : PyData) : EX := fun Γ => some (d, Γ)
def eOp (p : PyData → PyData → Option PyData) (f g : EX) : EX := fun Γ => (f Γ).bind fun x => (g x.2).bind fun y => (p x.1 y.1).bind fun z => some (z, y.2)
def eUn (p : PyData → Option PyData) (f : EX) : EX := fun Γ => (f Γ).bind fun x => (p x.1).bind fun z => some (z, x.2)
def aNil : AX := fun Γ => some ([], Γ)
def aCons (f : EX) (g : AX) : AX := fun Γ => (f Γ).bind fun x => (g x.2).bind fun y => some (x.1 :: y.1, y.2)
def eTup (a : AX) : EX := fun Γ => (a Γ).bind fun x => if x.1.length ≤ 100000 then some (.tuple x.1, x.2) else none
def eLst (a : AX) : EX := fun Γ => (a Γ).bind fun x => if x.1.length ≤ 100000 then some (.list x.1, x.2) else none
def eCall (p : List PyData → Option PyData) (a : AX) : EX := fun Γ => (a Γ).bind fun x => (p x.1).bind fun z => some (z, x.2)

theorem bind_eq {α β : Type} {o : Option α} {f : α → Option β} {b : β} (h : o.bind f = some b) : ∃ a, o = some a ∧ f a = some b := by
  cases o with
  | none => cases h
  | some a => exact ⟨a, rfl, h⟩

section
variable {X : Cx} {a b : Expr} {f g : EX} {pos : Pos}
theorem ev_var {K : PySem.W.Frag} (i : Nat) : EvE K (tVar i) (eVar i) := by
  intro B Γ F σ H r Γ' R h Q q
  unfold eVar at h
  cases e : Γ[i]? with
  | none => rw [e] at h; cases h
  | some s =>
    rw [e] at h
    cases s with
    | no => cases h
    | par ds => cases h
    | val d =>
      cases h
      obtain ⟨v, ev, dv⟩ := R.slot i _ e
      exact ⟨v, ev, q v F H (Ex.refl F) R dv⟩
    | own ds =>
      cases h
      obtain ⟨p, F', e1, e2, e3, R'⟩ := R.freeze e
      exact ⟨_, e1, q _ F' H e2 R' e3⟩
theorem ep_var {x : Str} (i : Nat) (hN : X.N[i]? = some x := by rfl) (hv : Vis X.env.scope x := by first | exact Or.inl rfl | exact Or.inr (Or.inl rfl) | exact Or.inr (Or.inr rfl)) (hd : (x == ("__debug__" : Str)) = false := by decide)
    (hcd : (x == ("__classdict__" : Str)) = false := by decide) : EP X (.Name x pos) (eVar i) := ⟨_, pe_var hN hv hd hcd, ev_var i⟩
theorem ev_c {K : PySem.W.Frag} {v : V} {d : PyData} (h : ∀ F, Dp K F v d) : EvE K (tC v) (eC d) := by
  intro B Γ F σ H r Γ' R e Q q
  cases e
  exact q v F H (Ex.refl F) R (h F)
theorem ep_int {i : Int} {j} : EP X (.Constant (.int i) j pos) (eC (.int i)) := ⟨_, pe_int, ev_c fun _ => .int i⟩
theorem ep_bl {c : Bool} {j} : EP X (.Constant (.bool c) j pos) (eC (.bool c)) := ⟨_, pe_bl, ev_c fun _ => .bl c⟩
theorem ep_non {j} : EP X (.Constant .none j pos) (eC .none) := ⟨_, pe_non, ev_c fun _ => .non⟩
theorem ep_str {x : Str} {j} : EP X (.Constant (.str x) j pos) (eC (.str x)) := ⟨_, pe_str, ev_c fun _ => .str x⟩

theorem ev_op {K : PySem.W.Frag} {r : R2} {p : PyData → PyData → Option PyData} {ta tb : TE} (hr : OpP K r p) (ha : EvE K ta f) (hb : EvE K tb g) : EvE K (tOp r ta tb) (eOp p f g) := by
  intro B Γ F σ H z Γ' R h Q q
  obtain ⟨⟨x, Γ1⟩, h1, h⟩ := bind_eq h
  obtain ⟨⟨y, Γ2⟩, h2, h⟩ := bind_eq h
  obtain ⟨z', h3, h⟩ := bind_eq h
  cases h
  refine ha B Γ F σ H x Γ1 R h1 _ fun v F1 H1 e1 R1 d1 => ?_
  refine hb B Γ1 F1 σ H1 y Γ2 R1 h2 _ fun u F2 H2 e2 R2 d2 => ?_
  exact hr F2 H2 v u x y z R2.ext R2.pl (dp_mono e2 d1) d2 h3 Q fun w F3 H3 gr d3 => q w F3 H3 ((e1.trans e2).trans gr.ext) (R2.grow gr) d3
theorem ep_op {op : Operator} {p : PyData → PyData → Option PyData} (ho : OpE X (binaryOp op) p) (ha : EP X a f) (hb : EP X b g) : EP X (.BinOp a op b pos) (eOp p f g) := by
  obtain ⟨r, h1, h2⟩ := ho
  obtain ⟨ta, a1, a2⟩ := ha
  obtain ⟨tb, b1, b2⟩ := hb
  exact ⟨_, pe_op h1 a1 b1, ev_op h2 a2 b2⟩
theorem ep_cmp {op : CmpOp} {p : PyData → PyData → Option PyData} (ho : OpE X (compareOp op) p) (ha : EP X a f) (hb : EP X b g) (hm : behindInMarks op b = false := by first | exact nomark _ | rfl) : EP X (.Compare a [op] [b] pos) (eOp p f g) := by
  obtain ⟨r, h1, h2⟩ := ho
  obtain ⟨ta, a1, a2⟩ := ha
  obtain ⟨tb, b1, b2⟩ := hb
  exact ⟨_, pe_cmpR h1 a1 b1 hm, ev_op h2 a2 b2⟩
/-- a value that is True or False -/
def tOf (f : EX) : TX := fun Γ => (f Γ).bind fun x => match x.1 with
  | .bool c => some (c, x.2)
  | _ => none
theorem ev_test {K : PySem.W.Frag} {te : TE} (h : EvE K te f) : EvT K (tTest te) (tOf f) := by
  intro B Γ F σ H r Γ' R e Q q
  obtain ⟨⟨x, Γ1⟩, h1, e⟩ := bind_eq e
  refine h B Γ F σ H x Γ1 R h1 _ fun v F1 H1 e1 R1 d1 => ?_
  cases d1 with
  | bl c => cases e; exact ⟨_, rfl, q F1 H1 e1 R1⟩
  | _ => cases e
theorem tp_cmp {op : CmpOp} {p : PyData → PyData → Option PyData} (ho : OpE X (compareOp op) p) (ha : EP X a f) (hb : EP X b g) (hm : behindInMarks op b = false := by first | exact nomark _ | rfl) : TP X (.Compare a [op] [b] pos) (tOf (eOp p f g)) := by
  obtain ⟨r, h1, h2⟩ := ho
  obtain ⟨ta, a1, a2⟩ := ha
  obtain ⟨tb, b1, b2⟩ := hb
  exact ⟨_, pt_cmpR h1 a1 b1 hm, ev_test (ev_op h2 a2 b2)⟩
theorem tp_val {e : Expr} (h : EP X e f) (he : ∀ whole, isTrue e X.env whole = (do let v ← whole; standAt e.pos; holding [v] (truthy v)) := by intro _; rfl) : TP X e (tOf f) := by
  obtain ⟨te, a1, a2⟩ := h
  exact ⟨_, pt_val a1 he, ev_test a2⟩
theorem ep_un {op : UnaryOp} {p : PyData → Option PyData} (ho : UnE X (unaryOp op) p) (ha : EP X a f) : EP X (.UnaryOp op a pos) (eUn p f) := by
  obtain ⟨r, h1, h2⟩ := ho
  obtain ⟨ta, a1, a2⟩ := ha
  refine ⟨_, pe_un h1 a1, ?_⟩
  intro B Γ F σ H z Γ' R h Q q
  obtain ⟨⟨x, Γ1⟩, e1, h⟩ := bind_eq h
  obtain ⟨z', e2, h⟩ := bind_eq h
  cases h
  refine a2 B Γ F σ H x Γ1 R e1 _ fun v F1 H1 x1 R1 d1 => ?_
  exact h2 F1 H1 v x z R1.ext R1.pl d1 e2 Q fun w F3 H3 gr d3 => q w F3 H3 (x1.trans gr.ext) (R1.grow gr) d3
/-! tests -/
def tNotX (t : TX) : TX := fun Γ => (t Γ).bind fun x => some (!x.1, x.2)
def tAndX (t u : TX) : TX := fun Γ => (t Γ).bind fun x => if x.1 = true then u x.2 else some (false, x.2)
def tOrX (t u : TX) : TX := fun Γ => (t Γ).bind fun x => if x.1 = true then some (true, x.2) else u x.2
theorem tp_not {t : TX} (h : TP X a t) : TP X (.UnaryOp .Not a pos) (tNotX t) := by
  obtain ⟨tt, h1, h2⟩ := h
  refine ⟨_, pt_not h1, ?_⟩
  intro B Γ F σ H r Γ' R e Q q
  obtain ⟨⟨x, Γ1⟩, e1, e⟩ := bind_eq e
  cases e
  exact h2 B Γ F σ H x Γ1 R e1 _ fun F1 H1 x1 R1 => q F1 H1 x1 R1
theorem evt_and {K : PySem.W.Frag} {tt uu : TT} {t u : TX} (h2 : EvT K tt t) (g2 : EvT K uu u) : EvT K (tAnd tt uu) (tAndX t u) := by
  intro B Γ F σ H r Γ' R e Q q
  obtain ⟨⟨x, Γ1⟩, e1, e⟩ := bind_eq e
  refine h2 B Γ F σ H x Γ1 R e1 _ fun F1 H1 x1 R1 => ?_
  cases x with
  | true =>
    have e' : u Γ1 = some (r, Γ') := e
    show uu σ H1 Q
    exact g2 B Γ1 F1 σ H1 r Γ' R1 e' Q fun F2 H2 x2 R2 => q F2 H2 (x1.trans x2) R2
  | false =>
    have e' : some (false, Γ1) = some (r, Γ') := e
    cases e'
    show Q false H1
    exact q F1 H1 x1 R1
theorem evt_or {K : PySem.W.Frag} {tt uu : TT} {t u : TX} (h2 : EvT K tt t) (g2 : EvT K uu u) : EvT K (tOr tt uu) (tOrX t u) := by
  intro B Γ F σ H r Γ' R e Q q
  obtain ⟨⟨x, Γ1⟩, e1, e⟩ := bind_eq e
  refine h2 B Γ F σ H x Γ1 R e1 _ fun F1 H1 x1 R1 => ?_
  cases x with
  | false =>
    have e' : u Γ1 = some (r, Γ') := e
    show uu σ H1 Q
    exact g2 B Γ1 F1 σ H1 r Γ' R1 e' Q fun F2 H2 x2 R2 => q F2 H2 (x1.trans x2) R2
  | true =>
    have e' : some (true, Γ1) = some (r, Γ') := e
    cases e'
    show Q true H1
    exact q F1 H1 x1 R1
theorem wp_and1 {t : TX} (h : TP X a t) : WP X (.BoolOp .And [a] pos) t := by
  obtain ⟨tt, h1, h2⟩ := h
  exact ⟨_, pw_and1 h1, h2⟩
theorem wp_or1 {t : TX} (h : TP X a t) : WP X (.BoolOp .Or [a] pos) t := by
  obtain ⟨tt, h1, h2⟩ := h
  exact ⟨_, pw_or1 h1, h2⟩
theorem wp_and {t u : TX} {rest : List Expr} (h : TP X a t) (k : WP X (.BoolOp .And (b :: rest) pos) u) : WP X (.BoolOp .And (a :: b :: rest) pos) (tAndX t u) := by
  obtain ⟨tt, h1, h2⟩ := h
  obtain ⟨uu, g1, g2⟩ := k
  exact ⟨_, pw_and h1 g1, evt_and h2 g2⟩
theorem wp_or {t u : TX} {rest : List Expr} (h : TP X a t) (k : WP X (.BoolOp .Or (b :: rest) pos) u) : WP X (.BoolOp .Or (a :: b :: rest) pos) (tOrX t u) := by
  obtain ⟨tt, h1, h2⟩ := h
  obtain ⟨uu, g1, g2⟩ := k
  exact ⟨_, pw_or h1 g1, evt_or h2 g2⟩
theorem WP.tp {e : Expr} {t : TX} (h : WP X e t) : TP X e t := by
  obtain ⟨tt, h1, h2⟩ := h
  exact ⟨_, h1.pt, h2⟩
/-! and, or, not as values -/
def eAnd (f g : EX) : EX := fun Γ => (f Γ).bind fun x => match x.1 with
  | .bool true => g x.2
  | .bool false => some (.bool false, x.2)
  | _ => none
def eOr (f g : EX) : EX := fun Γ => (f Γ).bind fun x => match x.1 with
  | .bool true => some (.bool true, x.2)
  | .bool false => g x.2
  | _ => none
def eNot (f : EX) : EX := fun Γ => (f Γ).bind fun x => match x.1 with
  | .bool c => some (.bool (!c), x.2)
  | _ => none
def eIf (t : TX) (f g : EX) : EX := fun Γ => (t Γ).bind fun x => if x.1 = true then f x.2 else g x.2
theorem ep_one {op} (h : EP X a f) : EP X (.BoolOp op [a] pos) f := by
  obtain ⟨te, h1, h2⟩ := h
  exact ⟨_, pe_one h1, h2⟩
theorem ep_and {rest : List Expr} (h : EP X a f) (k : EP X (.BoolOp .And (b :: rest) pos) g) : EP X (.BoolOp .And (a :: b :: rest) pos) (eAnd f g) := by
  obtain ⟨ta, h1, h2⟩ := h
  obtain ⟨tb, g1, g2⟩ := k
  refine ⟨_, pe_and h1 g1, ?_⟩
  intro B Γ F σ H r Γ' R e Q q
  obtain ⟨⟨x, Γ1⟩, e1, e⟩ := bind_eq e
  refine h2 B Γ F σ H x Γ1 R e1 _ fun v F1 H1 x1 R1 d1 => ?_
  cases d1 with
  | bl c =>
    refine ⟨c, rfl, ?_⟩
    cases c with
    | true =>
      have e' : g Γ1 = some (r, Γ') := e
      show tb σ H1 Q
      exact g2 B Γ1 F1 σ H1 r Γ' R1 e' Q fun w F2 H2 x2 R2 d2 => q w F2 H2 (x1.trans x2) R2 d2
    | false =>
      have e' : some (PyData.bool false, Γ1) = some (r, Γ') := e
      cases e'
      show Q (.bl false) H1
      exact q _ F1 H1 x1 R1 (.bl false)
  | _ => cases e
theorem ep_or {rest : List Expr} (h : EP X a f) (k : EP X (.BoolOp .Or (b :: rest) pos) g) : EP X (.BoolOp .Or (a :: b :: rest) pos) (eOr f g) := by
  obtain ⟨ta, h1, h2⟩ := h
  obtain ⟨tb, g1, g2⟩ := k
  refine ⟨_, pe_or h1 g1, ?_⟩
  intro B Γ F σ H r Γ' R e Q q
  obtain ⟨⟨x, Γ1⟩, e1, e⟩ := bind_eq e
  refine h2 B Γ F σ H x Γ1 R e1 _ fun v F1 H1 x1 R1 d1 => ?_
  cases d1 with
  | bl c =>
    refine ⟨c, rfl, ?_⟩
    cases c with
    | false =>
      have e' : g Γ1 = some (r, Γ') := e
      show tb σ H1 Q
      exact g2 B Γ1 F1 σ H1 r Γ' R1 e' Q fun w F2 H2 x2 R2 d2 => q w F2 H2 (x1.trans x2) R2 d2
    | true =>
      have e' : some (PyData.bool true, Γ1) = some (r, Γ') := e
      cases e'
      show Q (.bl true) H1
      exact q _ F1 H1 x1 R1 (.bl true)
  | _ => cases e
theorem ep_not (h : EP X a f) : EP X (.UnaryOp .Not a pos) (eNot f) := by
  obtain ⟨ta, h1, h2⟩ := h
  refine ⟨_, pe_not h1, ?_⟩
  intro B Γ F σ H r Γ' R e Q q
  obtain ⟨⟨x, Γ1⟩, e1, e⟩ := bind_eq e
  refine h2 B Γ F σ H x Γ1 R e1 _ fun v F1 H1 x1 R1 d1 => ?_
  cases d1 with
  | bl c0 => cases e; exact ⟨_, rfl, q _ F1 H1 x1 R1 (.bl _)⟩
  | _ => cases e
theorem ep_if {c : Expr} {t : TX} (hc : TP X c t) (h : EP X a f) (k : EP X b g) : EP X (.IfExp c a b pos) (eIf t f g) := by
  obtain ⟨tt, c1, c2⟩ := hc
  obtain ⟨ta, h1, h2⟩ := h
  obtain ⟨tb, g1, g2⟩ := k
  refine ⟨_, pe_ifExp c1 h1 g1, ?_⟩
  intro B Γ F σ H r Γ' R e Q q
  obtain ⟨⟨x, Γ1⟩, e1, e⟩ := bind_eq e
  refine c2 B Γ F σ H x Γ1 R e1 _ fun F1 H1 x1 R1 => ?_
  cases x with
  | true =>
    show ta σ H1 Q
    exact h2 B Γ1 F1 σ H1 r Γ' R1 e Q fun w F2 H2 x2 R2 d2 => q w F2 H2 (x1.trans x2) R2 d2
  | false =>
    show tb σ H1 Q
    exact g2 B Γ1 F1 σ H1 r Γ' R1 e Q fun w F2 H2 x2 R2 d2 => q w F2 H2 (x1.trans x2) R2 d2
/-! arguments, displays, calls -/
theorem ap_nil : AP X [] aNil := ⟨_, pa_nil, fun B Γ F σ H rs Γ' R e Q q => by cases e; exact q [] F H (Ex.refl F) R .nil⟩
theorem ap_cons {e : Expr} {es : List Expr} {k : AX} (h : EP X e f) (hr : AP X es k) (hs : starEach (e :: es) X.env = (false, eval e X.env) :: starEach es X.env := by rfl) : AP X (e :: es) (aCons f k) := by
  obtain ⟨te, h1, h2⟩ := h
  obtain ⟨ta, g1, g2⟩ := hr
  refine ⟨_, pa_cons h1 g1 hs, ?_⟩
  intro B Γ F σ H rs Γ' R e Q q
  obtain ⟨⟨x, Γ1⟩, e1, e⟩ := bind_eq e
  obtain ⟨⟨ys, Γ2⟩, e2, e⟩ := bind_eq e
  cases e
  refine h2 B Γ F σ H x Γ1 R e1 _ fun v F1 H1 x1 R1 d1 => ?_
  refine g2 B Γ1 F1 σ H1 ys Γ2 R1 e2 _ fun vs F2 H2 x2 R2 d2 => ?_
  exact q (v :: vs) F2 H2 (x1.trans x2) R2 (.cons (dp_mono x2 d1) d2)
theorem ep_tup {es : List Expr} {x1} {k : AX} (h : AP X es k) : EP X (.Tuple es x1 pos) (eTup k) := by
  obtain ⟨ta, g1, g2⟩ := h
  refine ⟨_, pe_tup g1, ?_⟩
  intro B Γ F σ H r Γ' R e Q q
  obtain ⟨⟨xs, Γ1⟩, e1, e⟩ := bind_eq e
  split at e
  · rename_i hl
    cases e
    refine g2 B Γ F σ H xs Γ1 R e1 _ fun vs F1 H1 x1 R1 d1 => ?_
    refine ⟨sz_of (by rw [dpa_len d1]; exact hl), fun p hp => ?_⟩
    have gr := Grow.laid (o := .tup vs) R1.ext hp
    exact q _ _ _ (x1.trans gr.ext) (R1.grow gr) (.tup (st_of upd_same) (dpa_mono gr.ext d1))
  · cases e
theorem ep_lst {es : List Expr} {k : AX} (h : AP X es k) : EP X (.List es pos) (eLst k) := by
  obtain ⟨ta, g1, g2⟩ := h
  refine ⟨_, pe_lst g1, ?_⟩
  intro B Γ F σ H r Γ' R e Q q
  obtain ⟨⟨xs, Γ1⟩, e1, e⟩ := bind_eq e
  split at e
  · rename_i hl
    cases e
    refine g2 B Γ F σ H xs Γ1 R e1 _ fun vs F1 H1 x1 R1 d1 => ?_
    refine ⟨sz_of (by rw [dpa_len d1]; exact hl), fun p hp => ?_⟩
    have gr := Grow.laid (o := .lst vs) R1.ext hp
    exact q _ _ _ (x1.trans gr.ext) (R1.grow gr) (.lst (sq_of upd_same) (dpa_mono gr.ext d1))
  · cases e
theorem ev_call {K : PySem.W.Frag} {r : List V → Hp → VK → Prop} {p : List PyData → Option PyData} {ta : TA} {k : AX} (hr : CallP K r p) (ha : EvA K ta k) : EvE K (tCB r ta) (eCall p k) := by
  intro B Γ F σ H z Γ' R h Q q
  obtain ⟨⟨xs, Γ1⟩, h1, h⟩ := bind_eq h
  obtain ⟨z', h3, h⟩ := bind_eq h
  cases h
  refine ha B Γ F σ H xs Γ1 R h1 _ fun vs F1 H1 e1 R1 d1 => ?_
  exact hr F1 H1 vs xs z R1.ext R1.pl d1 h3 Q fun w F3 H3 gr d3 => q w F3 H3 (e1.trans gr.ext) (R1.grow gr) d3
theorem ep_callB {x : Str} {id : String} {e : Expr} {es : List Expr} {p : List PyData → Option PyData} {k : AX} {ps : Pos} (hc : CallE X (.builtin id) p) (hm : X.mg x = none) (hv : bootBuiltins x = some (.builtin id)) (ha : AP X (e :: es) k)
    (hg : Gl X x := by rfl) (hn : x ≠ "__name__" := by decide) (hdb : (x == ("__debug__" : Str)) = false := by decide)
    (he : starEach (e :: es) X.env = (false, eval e X.env) :: starEach es X.env := by rfl) (hpl : (backTo pos (starEach es X.env)).any (·.1) = false := by rfl) : EP X (.Call (.Name x ps) (e :: es) [] pos) (eCall p k) := by
  obtain ⟨r, h1, h2⟩ := hc
  obtain ⟨ta, a1, a2⟩ := ha
  exact ⟨_, pe_callB h1 hg hm hv a1 hn hdb he hpl, ev_call h2 a2⟩
theorem ep_callTy {x : Str} {T : String} {e : Expr} {es : List Expr} {p : List PyData → Option PyData} {k : AX} {ps : Pos} (hc : CallE X (.type T) p) (hm : X.mg x = none) (hv : bootBuiltins x = some (.type T)) (ha : AP X (e :: es) k)
    (hg : Gl X x := by rfl) (hn : x ≠ "__name__" := by decide) (hdb : (x == ("__debug__" : Str)) = false := by decide)
    (he : starEach (e :: es) X.env = (false, eval e X.env) :: starEach es X.env := by rfl) (hpl : (backTo pos (starEach es X.env)).any (·.1) = false := by rfl) : EP X (.Call (.Name x ps) (e :: es) [] pos) (eCall p k) := by
  obtain ⟨r, h1, h2⟩ := hc
  obtain ⟨ta, a1, a2⟩ := ha
  exact ⟨_, pe_callTy h1 hg hm hv a1 hn hdb he hpl, ev_call h2 a2⟩
end
end Z
set_option Elab.async false
set_option linter.all false
set_option maxRecDepth 100000
set_option maxHeartbeats 2000000
/-! Z: statements, loops, comprehensions, calls of own defs -/
namespace Z
open PySem L2 Evl PyProof.Rows

/-! ### the frame rule: what a call does not own stays -/
def OwnsAt (Γ : Env) (σ : L2.St) (a : Addr) : Prop := ∃ (i : Nat) (s : Slot), Γ[i]? = some s ∧ s.isOwn = true ∧ σ[i]? = some (some (V.ref a))
def ParAt (Γ : Env) (σ : L2.St) (a : Addr) : Prop := ∃ (i : Nat) (ds : List PyData), Γ[i]? = some (.par ds) ∧ σ[i]? = some (some (V.ref a))
def OwnAtO (Γ : Env) (σ : L2.St) (a : Addr) : Prop := ∃ (i : Nat) (ds : List PyData), Γ[i]? = some (.own ds) ∧ σ[i]? = some (some (V.ref a))
def rebase (Γ : Env) (F : Hp) (σ : L2.St) (H : Hp) : Bs := ⟨F, H, ParAt Γ σ, OwnAtO Γ σ⟩
section
variable {K : PySem.W.Frag} {B : Bs} {Γ Γ' : Env} {F F' H H' : Hp} {σ : L2.St}
theorem Rel.rebased (R : Rel K B Γ F σ H) : Rel K (rebase Γ F σ H) Γ F σ H := by
  refine ⟨R.len, fun i s h => ?_, R.dist, Ex.refl F, R.ext, fun b o e _ _ => e, fun b o e => .inl e, R.pl, fun b e => e⟩
  have q := R.slot i s h
  cases s with
  | no => trivial
  | val d => exact q
  | own ds => obtain ⟨a, vs, e, h1, h2, h3, h4⟩ := q; exact ⟨a, vs, e, h1, .inr ⟨i, ds, h, e⟩, h3, h4⟩
  | par ds => obtain ⟨a, vs, e, h1, h2, h3, h4⟩ := q; exact ⟨a, vs, e, h1, ⟨i, ds, h, e⟩, h3, h4⟩
theorem Rel.back (R : Rel K B Γ F σ H) (R' : Rel K (rebase Γ F σ H) Γ' F' σ H') : Rel K B Γ' F' σ H' := by
  have own1 : ∀ b, OwnAtO Γ σ b → B.H0 b = none ∨ B.Z b := fun b ⟨i, ds, h, e⟩ => by
    obtain ⟨a, vs, e', h1, h2, h3, h4⟩ := R.slot i _ h
    rw [e] at e'; cases e'; exact h2
  have par1 : ∀ b, ParAt Γ σ b → B.M b := fun b ⟨i, ds, h, e⟩ => by
    obtain ⟨a, vs, e', h1, h2, h3, h4⟩ := R.slot i _ h
    rw [e] at e'; cases e'; exact h2
  refine ⟨R'.len, fun i s h => ?_, R'.dist, R.ext0.trans R'.ext0, R'.ext, fun b o e hm hz => ?_, fun b o e => ?_, R'.pl, fun b e => R.fresh b (R'.fresh b e)⟩
  · have q := R'.slot i s h
    cases s with
    | no => trivial
    | val d => exact q
    | own ds =>
      obtain ⟨a, vs, e, h1, h2, h3, h4⟩ := q
      refine ⟨a, vs, e, h1, ?_, h3, h4⟩
      rcases h2 with z | z
      · exact .inl (R.fresh a z)
      · exact own1 a z
    | par ds => obtain ⟨a, vs, e, h1, h2, h3, h4⟩ := q; exact ⟨a, vs, e, h1, par1 a h2, h3, h4⟩
  · refine R'.frame b o (R.frame b o e hm hz) (fun z => hm (par1 b z)) fun z => ?_
    rcases own1 b z with y | y
    · rw [y] at e; cases e
    · exact hz y
  · rcases R'.newF b o e with z | z | z
    · exact R.newF b o z
    · exact .inr (.inl (R.fresh b z))
    · exact .inr (own1 b z)
/-- a hidden address: tracked, not known, not owned -/
structure Hid (Γ : Env) (F : Hp) (σ : L2.St) (H : Hp) (p : Addr) (o : HO) : Prop where
  here : H p = some o
  noF : F p = none
  noO : ¬ OwnsAt Γ σ p
theorem Hid.stays {p : Addr} {o : HO} (h : Hid Γ F σ H p o) (R' : Rel K (rebase Γ F σ H) Γ' F' σ H') : Hid Γ' F' σ H' p o := by
  have nP : ¬ ParAt Γ σ p := fun ⟨i, ds, q, e⟩ => h.noO ⟨i, _, q, rfl, e⟩
  have nO : ¬ OwnAtO Γ σ p := fun ⟨i, ds, q, e⟩ => h.noO ⟨i, _, q, rfl, e⟩
  refine ⟨R'.frame p o h.here nP nO, ?_, fun ⟨i, s, q, w, e⟩ => ?_⟩
  · cases q : F' p with
    | none => rfl
    | some u =>
      rcases R'.newF p u q with z | z | z
      · have z' : F p = some u := z
        rw [h.noF] at z'; cases z'
      · have z' : H p = none := z
        rw [h.here] at z'; cases z'
      · exact absurd z nO
  · have z := R'.slot i s q
    cases s with
    | no => cases w
    | val d => cases w
    | own ds =>
      obtain ⟨a, vs, e', _, h2, _, _⟩ := z
      rw [e] at e'; cases e'
      rcases h2 with y | y
      · have y' : H p = none := y
        rw [h.here] at y'; cases y'
      · exact nO y
    | par ds =>
      obtain ⟨a, vs, e', _, h2, _, _⟩ := z
      rw [e] at e'; cases e'
      exact nP h2
theorem Hid.laid {p : Addr} {o : HO} (R : Rel K B Γ F σ H) (hp : H p = none) : Hid Γ F σ (upd H p o) p o := by
  refine ⟨upd_same, fresh_back R.ext hp, fun ⟨i, s, q, w, e⟩ => ?_⟩
  have z := R.slot i s q
  cases s with
  | no => cases w
  | val d => cases w
  | own ds => obtain ⟨a, vs, e', _, _, h3, _⟩ := z; rw [e] at e'; cases e'; rw [hp] at h3; cases h3
  | par ds => obtain ⟨a, vs, e', _, _, h3, _⟩ := z; rw [e] at e'; cases e'; rw [hp] at h3; cases h3
/-- a new hidden object -/
theorem Rel.hide {p : Addr} {o : HO} (R : Rel K B Γ F σ H) (hp : H p = none) : Rel K B Γ F σ (upd H p o) :=
  R.grow ⟨Ex.new hp, Ex.refl F, R.ext.trans (Ex.new hp), fun _ _ h => .inl h, fun h => h⟩
/-- a hidden object changes -/
theorem Rel.rewrite {p : Addr} {o u : HO} (R : Rel K B Γ F σ H) (h : Hid Γ F σ H p o) (hb : B.H0 p = none) : Rel K B Γ F σ (upd H p u) := by
  refine ⟨R.len, fun i s q => ?_, R.dist, R.ext0, fun b w e => ?_, fun b w e hm hz => ?_, R.newF, R.pl, fun b e => ?_⟩
  · have z := R.slot i s q
    cases s with
    | no => trivial
    | val d => exact z
    | own ds =>
      obtain ⟨a, vs, e, h1, h2, h3, h4⟩ := z
      have n : a ≠ p := fun y => h.noO ⟨i, _, q, rfl, y ▸ e⟩
      exact ⟨a, vs, e, h1, h2, by rw [upd_ne n]; exact h3, h4⟩
    | par ds =>
      obtain ⟨a, vs, e, h1, h2, h3, h4⟩ := z
      have n : a ≠ p := fun y => h.noO ⟨i, _, q, rfl, y ▸ e⟩
      exact ⟨a, vs, e, h1, h2, by rw [upd_ne n]; exact h3, h4⟩
  · rw [upd_ne (fun y => by subst y; rw [h.noF] at e; cases e)]; exact R.ext b w e
  · rw [upd_ne (fun y => by subst y; rw [hb] at e; cases e)]; exact R.frame b w e hm hz
  · by_cases y : b = p
    · subst y; rw [upd_same] at e; cases e
    · rw [upd_ne y] at e; exact R.fresh b e
/-- a hidden list becomes known -/
theorem Rel.show {p : Addr} {vs : List V} {ds : List PyData} (R : Rel K B Γ F σ H) (h : Hid Γ F σ H p (.lst vs)) (hb : B.H0 p = none ∨ B.Z p) (hd : DpAll K F vs ds) :
    Rel K B Γ (upd F p (.lst vs)) σ H ∧ Ex F (upd F p (.lst vs)) ∧ Dp K (upd F p (.lst vs)) (.ref p) (.list ds) := by
  have ex : Ex F (upd F p (.lst vs)) := Ex.new h.noF
  refine ⟨⟨R.len, fun i s q => ?_, R.dist, R.ext0.trans ex, fun b w e => ?_, R.frame, fun b w e => ?_, R.pl.upd trivial, R.fresh⟩, ex, .lst (sq_of upd_same) (dpa_mono ex hd)⟩
  · have z := R.slot i s q
    cases s with
    | no => trivial
    | val d => obtain ⟨v, e1, e2⟩ := z; exact ⟨v, e1, dp_mono ex e2⟩
    | own ds =>
      obtain ⟨a, vs, e, h1, h2, h3, h4⟩ := z
      have n : a ≠ p := fun y => h.noO ⟨i, _, q, rfl, y ▸ e⟩
      exact ⟨a, vs, e, by rw [upd_ne n]; exact h1, h2, h3, dpa_mono ex h4⟩
    | par ds =>
      obtain ⟨a, vs, e, h1, h2, h3, h4⟩ := z
      have n : a ≠ p := fun y => h.noO ⟨i, _, q, rfl, y ▸ e⟩
      exact ⟨a, vs, e, by rw [upd_ne n]; exact h1, h2, h3, dpa_mono ex h4⟩
  · by_cases y : b = p
    · subst y; rw [upd_same] at e; cases e; exact h.here
    · rw [upd_ne y] at e; exact R.ext b w e
  · by_cases y : b = p
    · subst y; exact .inr hb
    · rw [upd_ne y] at e; exact R.newF b w e
/-- a hidden list gets a slot -/
theorem Rel.setHid {p : Addr} {vs : List V} {ds : List PyData} (R : Rel K B Γ F σ H) (h : Hid Γ F σ H p (.lst vs)) (hb : B.H0 p = none ∨ B.Z p) (hd : DpAll K F vs ds) {i : Nat} :
    Rel K B (Γ.set i (.own ds)) F (σ.set i (some (.ref p))) H := by
  have lt : ∀ (j : Nat) (s : Slot), (Γ.set i (.own ds))[j]? = some s → j < Γ.length := fun j s h => by
    have := (List.getElem?_eq_some_iff.mp h).1
    rw [List.length_set] at this; exact this
  refine ⟨by rw [List.length_set, List.length_set]; exact R.len, fun j s q => ?_, fun j k s t a hjk h1 h2 h3 h4 h5 h6 => ?_, R.ext0, R.ext, R.frame, R.newF, R.pl, R.fresh⟩
  · by_cases hj : i = j
    · subst hj
      have hl := lt i s q
      rw [List.getElem?_set_self hl] at q
      cases q
      rw [List.getElem?_set_self (by rw [R.len]; exact hl)]
      exact ⟨p, vs, rfl, h.noF, hb, h.here, hd⟩
    · rw [List.getElem?_set_ne hj] at q
      rw [List.getElem?_set_ne hj]
      exact R.slot j s q
  · by_cases ej : i = j
    · subst ej
      have hl := lt i s h1
      rw [List.getElem?_set_self (by rw [R.len]; exact hl)] at h5
      cases h5
      rw [List.getElem?_set_ne hjk] at h3 h6
      exact h.noO ⟨k, t, h3, h4, h6⟩
    · by_cases ek : i = k
      · subst ek
        have hl := lt i t h3
        rw [List.getElem?_set_self (by rw [R.len]; exact hl)] at h6
        cases h6
        rw [List.getElem?_set_ne ej] at h1 h5
        exact h.noO ⟨j, s, h1, h2, h5⟩
      · rw [List.getElem?_set_ne ej] at h1 h5
        rw [List.getElem?_set_ne ek] at h3 h6
        exact R.dist j k s t a hjk h1 h2 h3 h4 h5 h6
end

/-! ### an expression's worth for a slot: a value, or a list of one's own -/
abbrev NX := Env → Option (Slot × Env)
def Held (K : PySem.W.Frag) (B : Bs) (Γ : Env) (F : Hp) (σ : L2.St) (H : Hp) (v : V) : Slot → Prop
  | .val d => Dp K F v d
  | .own ds => ∃ p vs, v = .ref p ∧ Hid Γ F σ H p (.lst vs) ∧ (B.H0 p = none ∨ B.Z p) ∧ DpAll K F vs ds
  | _ => False
def EvN (K : PySem.W.Frag) (te : TE) (e : NX) : Prop := ∀ (B : Bs) (Γ : Env) (F : Hp) (σ : L2.St) (H : Hp) (r : Slot) (Γ' : Env), Rel K B Γ F σ H → e Γ = some (r, Γ') →
  ∀ Q : VK, (∀ v F' H', Ex F F' → Rel K B Γ' F' σ H' → Held K B Γ' F' σ H' v r → Q v H') → te σ H Q
def NP (X : Cx) (e : Expr) (f : NX) : Prop := ∃ te, PE X e te ∧ EvN X.K te f
def nVal (f : EX) : NX := fun Γ => (f Γ).bind fun x => some (.val x.1, x.2)
/-- a new list, kept as one's own -/
def nOwn (f : NX) : EX := fun Γ => (f Γ).bind fun x => match x.1 with
  | .own ds => some (.list ds, x.2)
  | .val d => some (d, x.2)
  | _ => none
def nLst (a : AX) : NX := fun Γ => (a Γ).bind fun x => if x.1.length ≤ 100000 then some (.own x.1, x.2) else none
/-- a list of one's own that stands in a slot is given away -/
def nTake (i : Nat) : NX := fun Γ => match (Γ[i]? : Option Slot) with
  | some (.own ds) => some (.own ds, Γ.set i .no)
  | _ => none
section
variable {X : Cx} {pos : Pos} {f : EX}
theorem set_same {α : Type} : ∀ {l : List α} {i : Nat} {x : α}, l[i]? = some x → l.set i x = l
  | [], _, _, h => by simp at h
  | a :: l, 0, x, h => by simp at h; subst h; rfl
  | a :: l, i + 1, x, h => by rw [List.set_cons_succ, set_same (l := l) (i := i) (x := x) (by simpa using h)]
theorem np_take {x : Str} (i : Nat) (hN : X.N[i]? = some x := by rfl) (hv : Vis X.env.scope x := by first | exact Or.inl rfl | exact Or.inr (Or.inl rfl) | exact Or.inr (Or.inr rfl)) (hd : (x == ("__debug__" : Str)) = false := by decide)
    (hcd : (x == ("__classdict__" : Str)) = false := by decide) : NP X (.Name x pos) (nTake i) := by
  refine ⟨_, pe_var hN hv hd hcd, ?_⟩
  intro B Γ F σ H r Γ' R e Q q
  unfold nTake at e
  cases h : Γ[i]? with
  | none => simp only [h] at e; cases e
  | some s =>
    cases s with
    | own ds =>
      simp only [h] at e
      cases e
      obtain ⟨a, vs, ea, h1, h2, h3, h4⟩ := R.slot i _ h
      have R' : Rel X.K B (Γ.set i .no) F σ H := by
        have := R.setNo (i := i) (o := some (.ref a))
        rw [set_same ea] at this
        exact this
      have hl : i < Γ.length := (List.getElem?_eq_some_iff.mp h).1
      have hh : Hid (Γ.set i .no) F σ H a (.lst vs) := ⟨h3, h1, fun ⟨j, s, q1, q2, q3⟩ => by
        by_cases hj : i = j
        · subst hj
          rw [List.getElem?_set_self hl] at q1
          cases q1; cases q2
        · rw [List.getElem?_set_ne hj] at q1
          exact R.dist i j _ s a hj h rfl q1 q2 ea q3⟩
      refine ⟨.ref a, ea, ?_⟩
      exact q _ F H (Ex.refl F) R' ⟨a, vs, rfl, hh, h2, h4⟩
    | _ => simp only [h] at e; cases e
theorem np_val {e : Expr} (h : EP X e f) : NP X e (nVal f) := by
  obtain ⟨te, h1, h2⟩ := h
  refine ⟨_, h1, ?_⟩
  intro B Γ F σ H r Γ' R e Q q
  obtain ⟨⟨x, Γ1⟩, e1, e⟩ := bind_eq e
  cases e
  exact h2 B Γ F σ H x Γ1 R e1 Q fun v F' H' ex R' d => q v F' H' ex R' d
theorem ep_own {e : Expr} {n : NX} (h : NP X e n) : EP X e (nOwn n) := by
  obtain ⟨te, h1, h2⟩ := h
  refine ⟨_, h1, ?_⟩
  intro B Γ F σ H r Γ' R e Q q
  obtain ⟨⟨x, Γ1⟩, e1, e⟩ := bind_eq e
  refine h2 B Γ F σ H x Γ1 R e1 Q fun v F' H' ex R' hd => ?_
  cases x with
  | no => cases e
  | par ds => cases e
  | val d => cases e; exact q v F' H' ex R' hd
  | own ds =>
    cases e
    obtain ⟨p, vs, rfl, hh, hb, hda⟩ := hd
    obtain ⟨R2, ex2, d2⟩ := R'.show hh hb hda
    exact q _ _ H' (ex.trans ex2) R2 d2
theorem np_lst {es : List Expr} {k : AX} (h : AP X es k) : NP X (.List es pos) (nLst k) := by
  obtain ⟨ta, g1, g2⟩ := h
  refine ⟨_, pe_lst g1, ?_⟩
  intro B Γ F σ H r Γ' R e Q q
  obtain ⟨⟨xs, Γ1⟩, e1, e⟩ := bind_eq e
  split at e
  · rename_i hl
    cases e
    refine g2 B Γ F σ H xs Γ1 R e1 _ fun vs F1 H1 x1 R1 d1 => ?_
    refine ⟨sz_of (by rw [dpa_len d1]; exact hl), fun p hp => ?_⟩
    exact q _ F1 _ x1 (R1.hide hp) ⟨p, vs, rfl, .laid R1 hp, .inl (R1.fresh p hp), d1⟩
  · cases e
end

/-! ### statements -/
inductive Out where
  | nx (Γ : Env)
  | rt (r : PyData) (Γ : Env)
  | bk (Γ : Env)
  | ct (Γ : Env)
  /-- a new list of one's own is handed back -/
  | rl (ds : List PyData) (Γ : Env)
abbrev SX := Env → Option Out
def EndsOk (K : PySem.W.Frag) (B : Bs) (F : Hp) (D : Ends) : Out → Prop
  | .nx Γ' => ∀ F' σ' H', Ex F F' → Rel K B Γ' F' σ' H' → D.nx σ' H'
  | .rt r Γ' => ∀ v F' σ' H', Ex F F' → Rel K B Γ' F' σ' H' → Dp K F' v r → D.rt v H'
  | .bk Γ' => ∀ F' σ' H', Ex F F' → Rel K B Γ' F' σ' H' → D.bk σ' H'
  | .ct Γ' => ∀ F' σ' H', Ex F F' → Rel K B Γ' F' σ' H' → D.ct σ' H'
  | .rl ds Γ' => ∀ v F' σ' H', Ex F F' → Rel K B Γ' F' σ' H' → Held K B Γ' F' σ' H' v (.own ds) → D.rt v H'
theorem EndsOk.mono {K : PySem.W.Frag} {B : Bs} {F F1 : Hp} {D : Ends} {o : Out} (e : Ex F F1) (h : EndsOk K B F D o) : EndsOk K B F1 D o := by
  cases o with
  | nx Γ' => exact fun F' σ' H' x => h F' σ' H' (e.trans x)
  | rt r Γ' => exact fun v F' σ' H' x => h v F' σ' H' (e.trans x)
  | bk Γ' => exact fun F' σ' H' x => h F' σ' H' (e.trans x)
  | ct Γ' => exact fun F' σ' H' x => h F' σ' H' (e.trans x)
  | rl ds Γ' => exact fun v F' σ' H' x => h v F' σ' H' (e.trans x)
def EvS (K : PySem.W.Frag) (ts : TS) (s : SX) : Prop := ∀ (B : Bs) (Γ : Env) (F : Hp) (σ : L2.St) (H : Hp) (o : Out), Rel K B Γ F σ H → s Γ = some o →
  ∀ D : Ends, EndsOk K B F D o → ts D σ H
def SP (X : Cx) (st : Stmt) (s : SX) : Prop := ∃ ts, PS X st ts ∧ EvS X.K ts s
def BP (X : Cx) (sts : List Stmt) (s : SX) : Prop := ∃ ts, PSs X sts ts ∧ EvS X.K ts s

def sNext : SX := fun Γ => some (.nx Γ)
def sSeq (s t : SX) : SX := fun Γ => (s Γ).bind fun o => match o with
  | .nx Γ1 => t Γ1
  | .rt r Γ1 => some (.rt r Γ1)
  | .bk Γ1 => some (.bk Γ1)
  | .ct Γ1 => some (.ct Γ1)
  | .rl ds Γ1 => some (.rl ds Γ1)
def sIf (t : TX) (a b : SX) : SX := fun Γ => (t Γ).bind fun x => if x.1 = true then a x.2 else b x.2
def sRet (e : EX) : SX := fun Γ => (e Γ).bind fun x => some (.rt x.1 x.2)
def sRetN : SX := fun Γ => some (.rt .none Γ)
def sBreak : SX := fun Γ => some (.bk Γ)
def sCont : SX := fun Γ => some (.ct Γ)
def sDrop (e : EX) : SX := fun Γ => (e Γ).bind fun x => some (.nx x.2)
def sNever : SX := fun _ => none
def sSet (i : Nat) (n : NX) : SX := fun Γ => (n Γ).bind fun x => some (.nx (x.2.set i x.1))
section
variable {X : Cx} {st : Stmt} {rest : List Stmt} {s t u : SX} {pos : Pos} {e : Expr} {f : EX}
theorem bp_nil : BP X [] sNext := ⟨_, pss_nil, fun B Γ F σ H o R e D h => by cases e; exact h F σ H (Ex.refl F) R⟩
theorem bp_one (h : SP X st s) : BP X [st] s := by
  obtain ⟨ts, h1, h2⟩ := h
  exact ⟨_, pss_one h1, h2⟩
theorem bp_cons (h : SP X st s) (k : BP X rest t) : BP X (st :: rest) (sSeq s t) := by
  obtain ⟨ts, h1, h2⟩ := h
  obtain ⟨tr, k1, k2⟩ := k
  refine ⟨_, pss_cons h1 k1, ?_⟩
  intro B Γ F σ H o R e D hD
  obtain ⟨o1, e1, e⟩ := bind_eq e
  refine h2 B Γ F σ H o1 R e1 _ ?_
  cases o1 with
  | nx Γ1 => exact fun F' σ' H' x R' => k2 B Γ1 F' σ' H' o R' e D (hD.mono x)
  | rt r Γ1 => cases e; exact hD
  | bk Γ1 => cases e; exact hD
  | ct Γ1 => cases e; exact hD
  | rl ds Γ1 => cases e; exact hD
theorem bp_never {sts : List Stmt} : BP X sts sNever := ⟨_, pss_never, fun _ _ _ _ _ _ _ e => by cases e⟩
theorem sp_never : SP X st sNever := ⟨_, ps_never, fun _ _ _ _ _ _ _ e => by cases e⟩
theorem sp_pass : SP X (.Pass pos) sNext := ⟨_, ps_pass, fun B Γ F σ H o R e D h => by cases e; exact h F σ H (Ex.refl F) R⟩
theorem sp_doc {x j pos'} : SP X (.Expr (.Constant (.str x) j pos) pos') sNext := ⟨_, ps_doc, fun B Γ F σ H o R e D h => by cases e; exact h F σ H (Ex.refl F) R⟩
theorem sp_break : SP X (.Break pos) sBreak := ⟨_, ps_break, fun B Γ F σ H o R e D h => by cases e; exact h F σ H (Ex.refl F) R⟩
theorem sp_cont : SP X (.Continue pos) sCont := ⟨_, ps_continue, fun B Γ F σ H o R e D h => by cases e; exact h F σ H (Ex.refl F) R⟩
theorem sp_ret (h : EP X e f) : SP X (.Return (some e) pos) (sRet f) := by
  obtain ⟨te, h1, h2⟩ := h
  refine ⟨_, ps_ret h1, ?_⟩
  intro B Γ F σ H o R e D hD
  obtain ⟨⟨x, Γ1⟩, e1, e⟩ := bind_eq e
  cases e
  exact h2 B Γ F σ H x Γ1 R e1 _ fun v F' H' ex R' d => hD v F' σ H' ex R' d
/-- return a new list of one's own -/
def sRetL (n : NX) : SX := fun Γ => (n Γ).bind fun x => match x.1 with
  | .own ds => some (.rl ds x.2)
  | _ => none
theorem sp_retL {n : NX} (h : NP X e n) : SP X (.Return (some e) pos) (sRetL n) := by
  obtain ⟨te, h1, h2⟩ := h
  refine ⟨_, ps_ret h1, ?_⟩
  intro B Γ F σ H o R e D hD
  obtain ⟨⟨x, Γ1⟩, e1, e⟩ := bind_eq e
  cases x with
  | own ds =>
    cases e
    exact h2 B Γ F σ H _ Γ1 R e1 _ fun v F' H' ex R' d => hD v F' σ H' ex R' d
  | _ => cases e
theorem sp_retN : SP X (.Return none pos) sRetN := ⟨_, ps_retN, fun B Γ F σ H o R e D h => by cases e; exact h .non F σ H (Ex.refl F) R .non⟩
theorem sp_expr (h : EP X e f) (hs : swapsWith e none pos.line X.env = pure false := by rfl) : SP X (.Expr e pos) (sDrop f) := by
  obtain ⟨te, h1, h2⟩ := h
  refine ⟨_, ps_expr h1 hs, ?_⟩
  intro B Γ F σ H o R e D hD
  obtain ⟨⟨x, Γ1⟩, e1, e⟩ := bind_eq e
  cases e
  exact h2 B Γ F σ H x Γ1 R e1 _ fun v F' H' ex R' d => hD F' σ H' ex R'
theorem sp_if {c : Expr} {a b : List Stmt} {tc : TX} (hc : TP X c tc) (ha : BP X a s) (hb : BP X b t) : SP X (.If c a b pos) (sIf tc s t) := by
  obtain ⟨tt, c1, c2⟩ := hc
  obtain ⟨ta, a1, a2⟩ := ha
  obtain ⟨tb, b1, b2⟩ := hb
  refine ⟨_, ps_if c1 a1 b1, ?_⟩
  intro B Γ F σ H o R e D hD
  obtain ⟨⟨x, Γ1⟩, e1, e⟩ := bind_eq e
  refine c2 B Γ F σ H x Γ1 R e1 _ fun F1 H1 x1 R1 => ?_
  cases x with
  | true => show ta D σ H1; exact a2 B Γ1 F1 σ H1 o R1 e D (hD.mono x1)
  | false => show tb D σ H1; exact b2 B Γ1 F1 σ H1 o R1 e D (hD.mono x1)
theorem Rel.setHeld {K : PySem.W.Frag} {B : Bs} {Γ : Env} {F H : Hp} {σ : L2.St} (R : Rel K B Γ F σ H) {v : V} {r : Slot} (h : Held K B Γ F σ H v r) (i : Nat) : Rel K B (Γ.set i r) F (σ.set i (some v)) H := by
  cases r with
  | no => cases h
  | par ds => cases h
  | val d => exact R.setVal h
  | own ds => obtain ⟨p, vs, rfl, h1, h2, h3⟩ := h; exact R.setHid h1 h2 h3
theorem sp_set {i : Nat} {x : Str} {n : NX} {pos' : Pos} (he : NP X e n) (hN : X.N.Nodup) (hi : X.N[i]? = some x := by rfl) (hx : Loc X.env.scope x := by first | exact Or.inl rfl | exact Or.inr rfl)
    (hs : swapsWith e (some (.Name x pos')) pos.line X.env = pure false := by rfl) (hf : X.fn x = true ∨ X.env.scope.names.lookup x = some .local := by first | exact .inl rfl | exact .inr rfl | assumption) : SP X (.Assign [.Name x pos'] e pos) (sSet i n) := by
  obtain ⟨te, h1, h2⟩ := he
  refine ⟨_, ps_set hN hi hx h1 hs hf, ?_⟩
  intro B Γ F σ H o R e D hD
  obtain ⟨⟨r, Γ1⟩, e1, e⟩ := bind_eq e
  cases e
  exact h2 B Γ F σ H r Γ1 R e1 _ fun v F' H' ex R' hh => hD F' _ H' ex (R'.setHeld hh i)
end
end Z
set_option Elab.async false
set_option linter.all false
set_option maxRecDepth 100000
set_option maxHeartbeats 2000000
/-! Z: targets, stores, loops, comprehensions -/
namespace Z
open PySem L2 Evl PyProof.Rows

section
variable {K : PySem.W.Frag} {B : Bs} {Γ Γ' Γ1 : Env} {F F' F1 H H' H1 : Hp} {σ : L2.St} {v : V} {r : Slot}
/-- what is held stays while something else is reckoned -/
theorem Held.stays (R1 : Rel K B Γ F σ H) (h : Held K B Γ F σ H v r) (R' : Rel K (rebase Γ F σ H) Γ' F' σ H') : Held K B Γ' F' σ H' v r := by
  cases r with
  | no => cases h
  | par ds => cases h
  | val d => exact dp_mono R'.ext0 h
  | own ds =>
    obtain ⟨p, vs, rfl, h1, h2, h3⟩ := h
    exact ⟨p, vs, rfl, h1.stays R', h2, dpa_mono R'.ext0 h3⟩
theorem Held.back (R1 : Rel K B Γ F σ H) (h : Held K (rebase Γ F σ H) Γ' F' σ H' v r) : Held K B Γ' F' σ H' v r := by
  cases r with
  | no => cases h
  | par ds => cases h
  | val d => exact h
  | own ds =>
    obtain ⟨p, vs, e, h1, h2, h3⟩ := h
    refine ⟨p, vs, e, h1, ?_, h3⟩
    rcases h2 with h2 | ⟨i, ds', h, e'⟩
    · exact .inl (R1.fresh p h2)
    · obtain ⟨a, vs', e2, _, h4, _⟩ := R1.slot i _ h
      rw [e'] at e2; cases e2; exact h4
end
def aPair (n m : NX) : Env → Option ((Slot × Slot) × Env) := fun Γ => (n Γ).bind fun x => (m x.2).bind fun y => some ((x.1, y.1), y.2)
def sPar (i j : Nat) (n m : NX) : SX := fun Γ => (n Γ).bind fun x => (m x.2).bind fun y => some (.nx ((y.2.set i x.1).set j y.1))
section
variable {X : Cx} {pos : Pos} {e e2 : Expr} {f g : EX} {n m : NX}
theorem sp_par {i j : Nat} {x y : Str} {px py pt : Pos} {kt k2 pt2} (ha : NP X e n) (hb : NP X e2 m) (hc : X.calm = true) (hN : X.N.Nodup) (hi : X.N[i]? = some x := by rfl) (hj : X.N[j]? = some y := by rfl) (hij : i ≠ j := by decide)
    (hx : X.env.scope.names.lookup x = some .local := by rfl) (hy : X.env.scope.names.lookup y = some .local := by rfl)
    (hw : swappedStores [.Tuple [.Name x px, .Name y py] kt pt] (.Tuple [e, e2] k2 pt2) X.env = pure (some [x, y]) := by rfl)
    (hs : swapsWithSole [.Tuple [.Name x px, .Name y py] kt pt] (.Tuple [e, e2] k2 pt2) pos.line X.env = pure false := by rfl)
    (hz : starEach [e, e2] X.env = (false, eval e X.env) :: starEach [e2] X.env := by rfl) (hz2 : starEach [e2] X.env = (false, eval e2 X.env) :: starEach [] X.env := by rfl) :
    SP X (.Assign [.Tuple [.Name x px, .Name y py] kt pt] (.Tuple [e, e2] k2 pt2) pos) (sPar i j n m) := by
  obtain ⟨ta, a1, a2⟩ := ha
  obtain ⟨tb, b1, b2⟩ := hb
  refine ⟨_, ps_par hc hN hi hj hij hx hy (pa_cons a1 (pa_cons b1 pa_nil hz2) hz) hw hs, ?_⟩
  intro B Γ F σ H o R h D hD
  obtain ⟨⟨r1, Γ1⟩, h1, h⟩ := bind_eq h
  obtain ⟨⟨r2, Γ2⟩, h2, h⟩ := bind_eq h
  cases h
  refine a2 B Γ F σ H r1 Γ1 R h1 _ fun v F1 H1 x1 R1 d1 => ?_
  refine b2 (rebase Γ1 F1 σ H1) Γ1 F1 σ H1 r2 Γ2 R1.rebased h2 _ fun w F2 H2 x2 R2 d2 => ?_
  have S2 := R1.back R2
  have g1 := d1.stays R1 R2
  have g2 := Held.back R1 d2
  have S3 := S2.setHeld g1 i
  refine ⟨v, w, rfl, hD F2 _ H2 (x1.trans x2) (S3.setHeld ?_ j)⟩
  cases r2 with
  | no => cases g2
  | par ds => cases g2
  | val d => exact g2
  | own ds =>
    obtain ⟨p, vs, rfl, hh, h0, hd⟩ := g2
    refine ⟨p, vs, rfl, ⟨hh.here, hh.noF, fun ⟨k, s, q, ho, e⟩ => ?_⟩, h0, hd⟩
    by_cases hk : i = k
    · subst hk
      have hl : i < Γ2.length := by
        have := (List.getElem?_eq_some_iff.mp q).1
        rw [List.length_set] at this; exact this
      rw [List.getElem?_set_self hl] at q
      cases q
      rw [List.getElem?_set_self (by rw [S2.len]; exact hl)] at e
      cases e
      cases r1 with
      | no => cases ho
      | val d => cases ho
      | par ds => cases d1
      | own ds1 =>
        obtain ⟨p1, vs1, e1, hh1, _, _⟩ := d1
        cases e1
        obtain ⟨p2, vs2, e2', _, h02, _⟩ := d2
        cases e2'
        rcases h02 with h02 | ⟨j, ds', h, e'⟩
        · have z : H1 p = none := h02
          rw [hh1.here] at z; cases z
        · exact hh1.noO ⟨j, _, h, rfl, e'⟩
    · rw [List.getElem?_set_ne hk] at q e
      exact hh.noO ⟨k, s, q, ho, e⟩
end

/-! ### targets -/
def EvG (K : PySem.W.Frag) (g : TG) (gx : PyData → Env → Option Env) (S : List Nat) : Prop := ∀ (B : Bs) (Γ : Env) (F : Hp) (σ : L2.St) (H : Hp) (v : V) (d : PyData) (Γ' : Env), Rel K B Γ F σ H → Dp K F v d → gx d Γ = some Γ' →
  ∀ Q : L2.St → Hp → Prop, (∀ σ', Rel K B Γ' F σ' H → σ'.length = σ.length → (∀ i, i ∉ S → σ'[i]? = σ[i]?) → Q σ' H) → g v σ H Q
def EvGs (K : PySem.W.Frag) (g : TGs) (gx : List PyData → Env → Option Env) (S : List Nat) : Prop := ∀ (B : Bs) (Γ : Env) (F : Hp) (σ : L2.St) (H : Hp) (vs : List V) (ds : List PyData) (Γ' : Env), Rel K B Γ F σ H → DpAll K F vs ds → gx ds Γ = some Γ' →
  ∀ Q : L2.St → Hp → Prop, (∀ σ', Rel K B Γ' F σ' H → σ'.length = σ.length → (∀ i, i ∉ S → σ'[i]? = σ[i]?) → Q σ' H) → g vs σ H Q
def GP (X : Cx) (tg : Expr) (gx : PyData → Env → Option Env) (S : List Nat) : Prop := ∃ g, PG X tg g ∧ EvG X.K g gx S
def GPs (X : Cx) (tgs : List Expr) (gx : List PyData → Env → Option Env) (S : List Nat) : Prop := ∃ g, PGs X tgs g ∧ EvGs X.K g gx S
def gxName (i : Nat) : PyData → Env → Option Env := fun d Γ => some (Γ.set i (.val d))
def gxNil : List PyData → Env → Option Env := fun ds Γ => match ds with | [] => some Γ | _ => none
def gxCons (g : PyData → Env → Option Env) (k : List PyData → Env → Option Env) : List PyData → Env → Option Env := fun ds Γ => match ds with
  | d :: r => (g d Γ).bind fun Γ1 => k r Γ1
  | [] => none
def gxTup (n : Nat) (k : List PyData → Env → Option Env) : PyData → Env → Option Env := fun d Γ => match d with
  | .tuple ds => if ds.length = n then k ds Γ else none
  | _ => none
section
variable {X : Cx} {pos : Pos}
theorem gp_name {i : Nat} {x : Str} (hN : X.N.Nodup) (hi : X.N[i]? = some x := by rfl) (hx : Loc X.env.scope x := by first | exact Or.inl rfl | exact Or.inr rfl) (hf : X.fn x = true ∨ X.env.scope.names.lookup x = some .local := by first | exact .inl rfl | exact .inr rfl | assumption) :
    GP X (.Name x pos) (gxName i) [i] := ⟨_, pg_name hN hi hx hf, fun B Γ F σ H v d Γ' R hd e Q q => by
  cases e
  exact q _ (R.setVal hd) (List.length_set ..) fun j hj => List.getElem?_set_ne (fun e => hj (by simp [e]))⟩
theorem gps_nil : GPs X [] gxNil [] := ⟨_, pgs_nil, fun B Γ F σ H vs ds Γ' R hd e Q q => by
  cases hd with
  | nil => cases e; exact ⟨rfl, q σ R rfl fun _ _ => rfl⟩
  | cons _ _ => cases e⟩
theorem gps_cons {e : Expr} {es : List Expr} {g : PyData → Env → Option Env} {k : List PyData → Env → Option Env} {S T : List Nat} (h1 : GP X e g S) (h2 : GPs X es k T)
    (hs : (assignEach (e :: es) X.env).map (·.2) = assign e X.env :: (assignEach es X.env).map (·.2) := by rfl) : GPs X (e :: es) (gxCons g k) (S ++ T) := by
  obtain ⟨tg, a1, a2⟩ := h1
  obtain ⟨tk, b1, b2⟩ := h2
  refine ⟨_, pgs_cons a1 b1 hs, fun B Γ F σ H vs ds Γ' R hd e Q q => ?_⟩
  cases hd with
  | nil => cases e
  | cons h r =>
    obtain ⟨Γ1, e1, e⟩ := bind_eq e
    refine ⟨_, _, rfl, a2 B Γ F σ H _ _ Γ1 R h e1 _ fun σ' R' l' o' => ?_⟩
    exact b2 B Γ1 F σ' H _ _ Γ' R' r e _ fun σ2 R2 l2 o2 => q σ2 R2 (l2.trans l') fun i hi => (o2 i fun z => hi (List.mem_append_right _ z)).trans (o' i fun z => hi (List.mem_append_left _ z))
theorem gp_tup {es : List Expr} {kk : Nat} {k : List PyData → Env → Option Env} {S : List Nat} (hc : X.calm = true) (h : GPs X es k S) {n : Nat} (hn : es.length = n := by rfl)
    (hp : ∀ {t : TGs} (h : PGs X es t), PG X (.Tuple es kk pos) (gTup X.K n t) := by intro t h; exact pg_tup (by rfl) h) : GP X (.Tuple es kk pos) (gxTup n k) S := by
  obtain ⟨tk, b1, b2⟩ := h
  refine ⟨_, hp b1, fun B Γ F σ H v d Γ' R hd e Q q => ?_⟩
  cases hd with
  | tup hs ha =>
    have e' : (if _ then _ else _) = some Γ' := e
    split at e'
    · rename_i hl
      exact ⟨_, _, rfl, ex_t R.ext hs, (dpa_len ha).trans hl, b2 B Γ F σ H _ _ Γ' R ha e' Q q⟩
    · cases e'
  | _ => cases e

/-! ### assignments to targets; stores to a list of one's own -/
def sAsg (e : EX) (gx : PyData → Env → Option Env) : SX := fun Γ => (e Γ).bind fun x => (gx x.1 x.2).bind fun Γ1 => some (.nx Γ1)
theorem sp_asg {tg e : Expr} {f : EX} {gx : PyData → Env → Option Env} {S : List Nat} (he : EP X e f) (hg : GP X tg gx S) (hs : swapsWithSole [tg] e pos.line X.env = pure false := by rfl) (hw : swappedStores [tg] e X.env = pure none := by rfl)
    (ha : (assignEach [tg] X.env).map (·.2) = [assign tg X.env] := by rfl) : SP X (.Assign [tg] e pos) (sAsg f gx) := by
  obtain ⟨te, h1, h2⟩ := he
  obtain ⟨g, g1, g2⟩ := hg
  refine ⟨_, ps_asg h1 g1 hs hw ha, ?_⟩
  intro B Γ F σ H o R h D hD
  obtain ⟨⟨r1, Γ1⟩, e1, h⟩ := bind_eq h
  obtain ⟨Γ2, e2, h⟩ := bind_eq h
  cases h
  refine h2 B Γ F σ H r1 Γ1 R e1 _ fun v F1 H1 x1 R1 d1 => ?_
  exact g2 B Γ1 F1 σ H1 v r1 Γ2 R1 d1 e2 _ fun σ' R' _ _ => hD F1 σ' H1 x1 R'
/-- x[k] = e, x a list of one's own in slot i -/
def sStore (i : Nat) (k e : EX) : SX := fun Γ => (e Γ).bind fun x => (ownAt x.2 i).bind fun _ => (k x.2).bind fun y => match y.1 with
  | .int z => (ownAt y.2 i).bind fun ds => (ixN ds.length z).bind fun j => some (.nx (ownSet y.2 i (ds.set j x.1)))
  | _ => none
theorem sp_store {i : Nat} {x : Str} {px : Pos} {e k : Expr} {f h : EX} {ps : Pos} (he : EP X e f) (hk : EP X k h)
    (hp : ∀ {te ti : TE}, PE X e te → PE X k ti → PS X (.Assign [.Subscript (.Name x px) k ps] e pos) (tAsg te (gSub (tVar i) ti rSetL)) := by intro te ti h1 h3; exact ps_asg h1 (pg_sub (pv _) h3 set_list)) :
    SP X (.Assign [.Subscript (.Name x px) k ps] e pos) (sStore i h f) := by
  obtain ⟨te, h1, h2⟩ := he
  obtain ⟨ti, k1, k2⟩ := hk
  refine ⟨_, hp h1 k1, ?_⟩
  intro B Γ F σ H o R hh D hD
  obtain ⟨⟨r1, Γ1⟩, e1, hh⟩ := bind_eq hh
  obtain ⟨ds0, e0, hh⟩ := bind_eq hh
  obtain ⟨⟨r2, Γ2⟩, e2, hh⟩ := bind_eq hh
  refine h2 B Γ F σ H r1 Γ1 R e1 _ fun v F1 H1 x1 R1 d1 => ?_
  obtain ⟨a, vs0, ea, _⟩ := R1.ownGet e0
  refine ⟨.ref a, ea, ?_⟩
  refine k2 B Γ1 F1 σ H1 r2 Γ2 R1 e2 _ fun u F2 H2 x2 R2 d2 => ?_
  cases d2 with
  | int z =>
    obtain ⟨ds, hn, hh⟩ := bind_eq hh
    obtain ⟨j, e3, hh⟩ := bind_eq hh
    cases hh
    obtain ⟨a', vs, ea', hF, hH, hda⟩ := R2.ownGet hn
    rw [ea] at ea'; cases ea'
    refine ⟨a, vs, z, j, rfl, rfl, hH, by rw [dpa_len hda]; exact e3, ?_⟩
    exact hD F2 σ _ (x1.trans x2) (R2.write hn ea (dpa_set (dp_mono x2 d1) j hda))
  | _ => cases hh
/-- x.append(e) as a statement -/
def sApp (i : Nat) (e : EX) : SX := fun Γ => (ownAt Γ i).bind fun _ => (e Γ).bind fun x => (ownAt x.2 i).bind fun ds => if ds.length < 100000 then some (.nx (ownSet x.2 i (ds ++ [x.1]))) else none
theorem sp_app {i : Nat} {x : Str} {px apos cpos : Pos} {e : Expr} {f : EX} (he : EP X e f)
    (hp : ∀ {te : TE}, PE X e te → PS X (.Expr (.Call (.Attribute (.Name x px) "append" apos) [e] [] cpos) pos) (tDrop (tBM X.K "list" rAppend (tVar i) (tCons te tNil))) := by
      intro te h1; exact ps_expr (pe_bm PySem.F.plainAttrs_list PySem.F.slot_list_append PySem.F.type_list_append mt_append (pv _) (pa_cons h1 pa_nil))) :
    SP X (.Expr (.Call (.Attribute (.Name x px) "append" apos) [e] [] cpos) pos) (sApp i f) := by
  obtain ⟨te, h1, h2⟩ := he
  refine ⟨_, hp h1, ?_⟩
  intro B Γ F σ H o R hh D hD
  obtain ⟨ds0, e0, hh⟩ := bind_eq hh
  obtain ⟨⟨r1, Γ1⟩, e1, hh⟩ := bind_eq hh
  obtain ⟨ds, e2, hh⟩ := bind_eq hh
  obtain ⟨a, vs0, ea, hF0, hH0, hd0⟩ := R.ownGet e0
  refine ⟨.ref a, ea, .inl ⟨rfl, vs0, sq_of hH0⟩, ?_⟩
  refine h2 B Γ F σ H r1 Γ1 R e1 _ fun v F1 H1 x1 R1 d1 => ?_
  split at hh
  · rename_i hl
    cases hh
    obtain ⟨a', vs, ea', hF, hH, hda⟩ := R1.ownGet e2
    rw [ea] at ea'; cases ea'
    exact ⟨a, vs, v, rfl, rfl, hH, sz_lt (by rw [dpa_len hda]; exact hl), hD F1 σ _ x1 (R1.write e2 ea (dpa_app hda (.cons d1 .nil)))⟩
  · cases hh
/-- x.insert(k, e) as a statement -/
def rIns : V → List V → Hp → VK → Prop := fun x vs H Q => ∃ (l : Addr) (xs : List V) (i : Int) (y : V), x = .ref l ∧ vs = [.int i, y] ∧ H l = some (.lst xs) ∧ xs.length < sizeLine ∧ 0 ≤ i ∧ i < 2 ^ 63 ∧
    Q .non (upd H l (.lst (xs.take i.toNat ++ [y] ++ xs.drop i.toNat)))
theorem mt_ins : MtR X "list.insert" rIns := mt_insert
def sIns (i : Nat) (k e : EX) : SX := fun Γ => (ownAt Γ i).bind fun _ => (k Γ).bind fun y => (e y.2).bind fun x => match y.1 with
  | .int z => (ownAt x.2 i).bind fun ds => if ds.length < 100000 ∧ 0 ≤ z ∧ z < 100000 then some (.nx (ownSet x.2 i (ds.take z.toNat ++ [x.1] ++ ds.drop z.toNat))) else none
  | _ => none
theorem sp_ins {i : Nat} {x : Str} {px apos cpos : Pos} {k e : Expr} {h f : EX} (hk : EP X k h) (he : EP X e f)
    (hp : ∀ {tk te : TE}, PE X k tk → PE X e te → PS X (.Expr (.Call (.Attribute (.Name x px) "insert" apos) [k, e] [] cpos) pos) (tDrop (tBM X.K "list" rIns (tVar i) (tCons tk (tCons te tNil)))) := by
      intro tk te h0 h1; exact ps_expr (pe_bm PySem.F.plainAttrs_list PySem.F.slot_list_insert PySem.F.type_list_insert mt_ins (pv _) (pa_cons h0 (pa_cons h1 pa_nil)))) :
    SP X (.Expr (.Call (.Attribute (.Name x px) "insert" apos) [k, e] [] cpos) pos) (sIns i h f) := by
  obtain ⟨tk, k1, k2⟩ := hk
  obtain ⟨te, h1, h2⟩ := he
  refine ⟨_, hp k1 h1, ?_⟩
  intro B Γ F σ H o R hh D hD
  obtain ⟨ds0, e0, hh⟩ := bind_eq hh
  obtain ⟨⟨r0, Γ0⟩, q0, hh⟩ := bind_eq hh
  obtain ⟨⟨r1, Γ1⟩, e1, hh⟩ := bind_eq hh
  obtain ⟨a, vs0, ea, hF0, hH0, hd0⟩ := R.ownGet e0
  refine ⟨.ref a, ea, .inl ⟨rfl, vs0, sq_of hH0⟩, ?_⟩
  refine k2 B Γ F σ H r0 Γ0 R q0 _ fun v0 F0 H0 x0 R0 d0 => ?_
  refine h2 B Γ0 F0 σ H0 r1 Γ1 R0 e1 _ fun v F1 H1 x1 R1 d1 => ?_
  cases d0 with
  | int z =>
    obtain ⟨ds, e2, hh⟩ := bind_eq hh
    split at hh
    · rename_i hl
      cases hh
      obtain ⟨a', vs, ea', hF, hH, hda⟩ := R1.ownGet e2
      rw [ea] at ea'; cases ea'
      exact ⟨a, vs, z, v, rfl, rfl, hH, sz_lt (by rw [dpa_len hda]; exact hl.1), hl.2.1, by omega, hD F1 σ _ (x0.trans x1) (R1.write e2 ea (dpa_app (dpa_app (dpa_take _ hda) (.cons d1 .nil)) (dpa_drop _ hda)))⟩
    · cases hh
  | _ => cases hh
/-- x op= e, x a name -/
def PIE' (X : Cx) (op : Operator) (p : PyData → PyData → Option PyData) : Prop := ∃ r, PIp X op r ∧ OpP X.K r p
def sAug (i : Nat) (p : PyData → PyData → Option PyData) (f : EX) : SX := fun Γ => match Γ[i]? with
  | some (.val d) => (f Γ).bind fun y => (p d y.1).bind fun z => some (.nx (y.2.set i (.val z)))
  | _ => none
theorem sp_aug {i : Nat} {x : Str} {e : Expr} {f : EX} {op : Operator} {p : PyData → PyData → Option PyData} {pos' : Pos} (he : EP X e f) (ho : PIE' X op p)
    (hp : ∀ {te : TE} {r : TIp}, PE X e te → PIp X op r → PS X (.AugAssign (.Name x pos') op e pos) (tAug i te r) := by intro te r h1 h2; exact ps_aug (by first | assumption | decide) rfl (by first | exact Or.inl rfl | exact Or.inr rfl) h1 h2) :
    SP X (.AugAssign (.Name x pos') op e pos) (sAug i p f) := by
  obtain ⟨te, h1, h2⟩ := he
  obtain ⟨r, o1, o2⟩ := ho
  refine ⟨_, hp h1 o1, ?_⟩
  intro B Γ F σ H o R hh D hD
  unfold sAug at hh
  cases e0 : Γ[i]? with
  | none => rw [e0] at hh; cases hh
  | some s =>
    rw [e0] at hh
    cases s with
    | val d =>
      obtain ⟨⟨y, Γ1⟩, e1, hh⟩ := bind_eq hh
      obtain ⟨z, e2, hh⟩ := bind_eq hh
      cases hh
      obtain ⟨v, ev, dv⟩ := R.slot i _ e0
      refine ⟨v, ev, ?_⟩
      refine h2 B Γ F σ H y Γ1 R e1 _ fun u F1 H1 x1 R1 d1 => ?_
      exact o2 F1 H1 v u d y z R1.ext R1.pl (dp_mono x1 dv) d1 e2 _ fun w F2 H2 gr d2 => hD F2 _ H2 (x1.trans gr.ext) ((R1.grow gr).setVal d2)
    | _ => cases hh
end

/-! ### what a loop walks -/
structure Yields (K : PySem.W.Frag) (F : Hp) (J : It) (xs : List PyData) : Prop where
  go : ∀ (i : Nat) (F1 H1 : Hp), Ex F F1 → Ex F1 H1 → Pl F1 → i < xs.length → J.go i H1
  yld : ∀ (i : Nat) (F1 H1 : Hp) (x : V) (H2 : Hp), Ex F F1 → Ex F1 H1 → Pl F1 → i < xs.length → J.yld i H1 x H2 → ∃ F2 d, Grow F1 H1 F2 H2 ∧ xs[i]? = some d ∧ Dp K F2 x d
  stop : ∀ (F1 H1 : Hp), Ex F F1 → Ex F1 H1 → Pl F1 → J.stop xs.length H1
def EvI (K : PySem.W.Frag) (wi : TI) (it : AX) : Prop := ∀ (B : Bs) (Γ : Env) (F : Hp) (σ : L2.St) (H : Hp) (xs : List PyData) (Γ' : Env), Rel K B Γ F σ H → it Γ = some (xs, Γ') →
  ∀ R : It → Hp → Prop, (∀ J F' H', Ex F F' → Rel K B Γ' F' σ H' → Yields K F' J xs → R J H') → wi σ H R
def IP (X : Cx) (tg iter : Expr) (it : AX) : Prop := ∃ wi, PI X tg iter wi ∧ EvI X.K wi it
theorem Yields.mono {K : PySem.W.Frag} {F F' : Hp} {J : It} {xs : List PyData} (y : Yields K F J xs) (e : Ex F F') : Yields K F' J xs :=
  ⟨fun i F1 H1 a b c d => y.go i F1 H1 (e.trans a) b c d, fun i F1 H1 x H2 a b c d f => y.yld i F1 H1 x H2 (e.trans a) b c d f, fun F1 H1 a b c => y.stop F1 H1 (e.trans a) b c⟩

def forLoop (g : PyData → Env → Option Env) (b : SX) : List PyData → SX
  | [], Γ => some (.nx Γ)
  | x :: xs, Γ => (g x Γ).bind fun Γ1 => (b Γ1).bind fun o => match o with
    | .nx Γ2 => forLoop g b xs Γ2
    | .ct Γ2 => forLoop g b xs Γ2
    | .bk Γ2 => some (.nx Γ2)
    | .rt r Γ2 => some (.rt r Γ2)
    | .rl ds Γ2 => some (.rl ds Γ2)
def sFor (it : AX) (g : PyData → Env → Option Env) (b : SX) : SX := fun Γ => (it Γ).bind fun x => forLoop g b x.1 x.2
section
variable {X : Cx} {pos : Pos}
theorem ev_for {K : PySem.W.Frag} {wi : TI} {it : AX} {g : TG} {gx : PyData → Env → Option Env} {S : List Nat} {tb : TS} {b : SX} (hi : EvI K wi it) (hg : EvG K g gx S) (hb : EvS K tb b) : EvS K (tFor wi g tb) (sFor it gx b) := by
  intro B Γ F σ H o R hh D hD
  obtain ⟨⟨xs, Γ0⟩, e1, hh⟩ := bind_eq hh
  refine hi B Γ F σ H xs Γ0 R e1 _ fun J F0 H0 x0 R0 Y => ?_
  refine ⟨fun i m σ' H' => ∃ Γ' F', m = xs.length - i ∧ i ≤ xs.length ∧ Ex F0 F' ∧ Rel K B Γ' F' σ' H' ∧ forLoop gx b (xs.drop i) Γ' = some o,
    ⟨xs.length, Γ0, F0, by simp, Nat.zero_le _, Ex.refl F0, R0, by simpa using hh⟩, ?_⟩
  rintro i m σ1 H1 ⟨Γ1, F1, rfl, hi1, x1, R1, h1⟩
  by_cases hlt : i < xs.length
  · right
    refine ⟨Y.go i F1 H1 x1 R1.ext R1.pl hlt, fun σ' H' => ∃ Γ' F', Ex F0 F' ∧ Rel K B Γ' F' σ' H' ∧ forLoop gx b (xs.drop (i + 1)) Γ' = some o, ?_, fun x H2 hy => ?_⟩
    · rintro σ' H' ⟨Γ', F', a1, a2, a3⟩
      exact ⟨xs.length - (i + 1), by omega, Γ', F', rfl, hlt, a1, a2, a3⟩
    · obtain ⟨F2, d, gr, ed, dd⟩ := Y.yld i F1 H1 x H2 x1 R1.ext R1.pl hlt hy
      have dr : xs.drop i = d :: xs.drop (i + 1) := by
        rw [List.drop_eq_getElem_cons hlt]
        rw [List.getElem?_eq_getElem hlt] at ed
        cases ed; rfl
      rw [dr] at h1
      obtain ⟨Γ2, e2, h1⟩ := bind_eq h1
      obtain ⟨o1, e3, h1⟩ := bind_eq h1
      refine hg B Γ1 F2 σ1 H2 x d Γ2 (R1.grow gr) dd e2 _ fun σ2 R2 _ _ => ?_
      refine hb B Γ2 F2 σ2 H2 o1 R2 e3 _ ?_
      cases o1 with
      | nx Γ3 => exact fun F3 σ3 H3 a3 R3 => ⟨Γ3, F3, (x1.trans gr.ext).trans a3, R3, h1⟩
      | ct Γ3 => exact fun F3 σ3 H3 a3 R3 => ⟨Γ3, F3, (x1.trans gr.ext).trans a3, R3, h1⟩
      | bk Γ3 => cases h1; exact fun F3 σ3 H3 a3 R3 => hD F3 σ3 H3 (((x0.trans x1).trans gr.ext).trans a3) R3
      | rt r Γ3 => cases h1; exact fun v F3 σ3 H3 a3 R3 d3 => hD v F3 σ3 H3 (((x0.trans x1).trans gr.ext).trans a3) R3 d3
      | rl ds Γ3 => cases h1; exact fun v F3 σ3 H3 a3 R3 d3 => hD v F3 σ3 H3 (((x0.trans x1).trans gr.ext).trans a3) R3 d3
  · left
    have ei : i = xs.length := by omega
    subst ei
    rw [List.drop_length] at h1
    cases h1
    exact ⟨Y.stop F1 H1 x1 R1.ext R1.pl, hD F1 σ1 H1 (x0.trans x1) R1⟩
theorem sp_for {tg iter : Expr} {body : List Stmt} {it : AX} {gx : PyData → Env → Option Env} {S : List Nat} {b : SX} (hi : IP X tg iter it) (hg : GP X tg gx S) (hb : BP X body b)
    (hp : ∀ {wi : TI} {g : TG} {tb : TS}, PI X tg iter wi → PG X tg g → PSs X body tb → PS X (.For tg iter body [] pos) (tFor wi g tb) := by intro wi g tb h1 h2 h3; exact ps_for PassesOwn.never rfl h1 h2 h3) :
    SP X (.For tg iter body [] pos) (sFor it gx b) := by
  obtain ⟨wi, i1, i2⟩ := hi
  obtain ⟨g, g1, g2⟩ := hg
  obtain ⟨tb, b1, b2⟩ := hb
  exact ⟨_, hp i1 g1 b1, ev_for i2 g2 b2⟩
end
end Z
set_option Elab.async false
set_option linter.all false
set_option maxRecDepth 100000
set_option maxHeartbeats 2000000
/-! Z: while, comprehensions, defs and their calls -/
namespace Z
open PySem L2 Evl PyProof.Rows

/-! ### while -/
def whileLoop (t : TX) (b : SX) : Nat → SX
  | 0, _ => none
  | n + 1, Γ => (t Γ).bind fun x => if x.1 = true then (b x.2).bind fun o => match o with
    | .nx Γ2 => whileLoop t b n Γ2
    | .ct Γ2 => whileLoop t b n Γ2
    | .bk Γ2 => some (.nx Γ2)
    | .rt r Γ2 => some (.rt r Γ2)
    | .rl ds Γ2 => some (.rl ds Γ2)
    else some (.nx x.2)
def sWhile (t : TX) (b : SX) : SX := whileLoop t b (2 ^ 64)
section
variable {X : Cx} {pos : Pos}
theorem ev_while {K : PySem.W.Frag} {tt : TT} {t : TX} {tb : TS} {b : SX} (n : Nat) (ht : EvT K tt t) (hb : EvS K tb b) : EvS K (tWhile tt tb) (whileLoop t b n) := by
  intro B Γ F σ H o R hh D hD
  refine ⟨fun m σ' H' => ∃ Γ' F', Ex F F' ∧ Rel K B Γ' F' σ' H' ∧ whileLoop t b m Γ' = some o, ⟨n, Γ, F, Ex.refl F, R, hh⟩, ?_⟩
  rintro m σ1 H1 ⟨Γ1, F1, x1, R1, h1⟩
  cases m with
  | zero => cases h1
  | succ m =>
    obtain ⟨⟨c, Γ2⟩, e1, h1⟩ := bind_eq h1
    refine ht B Γ1 F1 σ1 H1 c Γ2 R1 e1 _ fun F2 H2 x2 R2 => ?_
    cases c with
    | false =>
      have h2 : some (Out.nx Γ2) = some o := h1
      cases h2
      show D.nx σ1 H2
      exact hD F2 σ1 H2 (x1.trans x2) R2
    | true =>
      obtain ⟨o1, e2, h1⟩ := bind_eq (show (b Γ2).bind _ = some o from h1)
      show ∃ N : L2.St → Hp → Prop, _
      refine ⟨fun σ' H' => ∃ Γ' F', Ex F F' ∧ Rel K B Γ' F' σ' H' ∧ whileLoop t b m Γ' = some o, fun σ' H' h => ⟨m, Nat.lt_succ_self m, h⟩, ?_⟩
      refine hb B Γ2 F2 σ1 H2 o1 R2 e2 _ ?_
      cases o1 with
      | nx Γ3 => exact fun F3 σ3 H3 a3 R3 => ⟨Γ3, F3, (x1.trans x2).trans a3, R3, h1⟩
      | ct Γ3 => exact fun F3 σ3 H3 a3 R3 => ⟨Γ3, F3, (x1.trans x2).trans a3, R3, h1⟩
      | bk Γ3 => cases h1; exact fun F3 σ3 H3 a3 R3 => hD F3 σ3 H3 ((x1.trans x2).trans a3) R3
      | rt r Γ3 => cases h1; exact fun v F3 σ3 H3 a3 R3 d3 => hD v F3 σ3 H3 ((x1.trans x2).trans a3) R3 d3
      | rl ds Γ3 => cases h1; exact fun v F3 σ3 H3 a3 R3 d3 => hD v F3 σ3 H3 ((x1.trans x2).trans a3) R3 d3
theorem sp_while {c : Expr} {body : List Stmt} {t : TX} {b : SX} (hc : TP X c t) (hb : BP X body b)
    (hp : ∀ {tc : TT} {tb : TS}, PT X c tc → PSs X body tb → PS X (.While c body [] pos) (tWhile tc tb) := by intro tc tb h1 h2; exact ps_while PassesOwn.never h1 h2) : SP X (.While c body [] pos) (sWhile t b) := by
  obtain ⟨tc, c1, c2⟩ := hc
  obtain ⟨tb, b1, b2⟩ := hb
  exact ⟨_, hp c1 b1, ev_while _ c2 b2⟩
end

/-! ### comprehensions -/
def wipeE (Γ : Env) : List Nat → Env
  | [] => Γ
  | v :: vs => (wipeE Γ vs).set v .no
def restE (Γ0 Γ : Env) : List Nat → Env
  | [] => Γ
  | v :: vs => (restE Γ0 Γ vs).set v (Γ0[v]?.getD .no)
theorem wipeE_len (Γ : Env) : ∀ vs, (wipeE Γ vs).length = Γ.length
  | [] => rfl
  | v :: vs => by unfold wipeE; rw [List.length_set, wipeE_len Γ vs]
theorem restE_len (Γ0 Γ : Env) : ∀ vs, (restE Γ0 Γ vs).length = Γ.length
  | [] => rfl
  | v :: vs => by unfold restE; rw [List.length_set, restE_len Γ0 Γ vs]
theorem wipeE_out {Γ : Env} {i : Nat} : ∀ {vs : List Nat}, i ∉ vs → (wipeE Γ vs)[i]? = Γ[i]?
  | [], _ => rfl
  | v :: vs, h => by
    unfold wipeE
    rw [List.getElem?_set_ne (fun e => h (by simp [e])), wipeE_out fun z => h (List.mem_cons_of_mem _ z)]
theorem wipeE_in {Γ : Env} {i : Nat} (hl : i < Γ.length) : ∀ {vs : List Nat}, i ∈ vs → (wipeE Γ vs)[i]? = some .no
  | v :: vs, h => by
    unfold wipeE
    by_cases e : v = i
    · subst e; rw [List.getElem?_set_self (by rw [wipeE_len]; exact hl)]
    · rw [List.getElem?_set_ne e]
      exact wipeE_in hl ((List.mem_cons.mp h).resolve_left (Ne.symm e))
theorem restE_out {Γ0 Γ : Env} {i : Nat} : ∀ {vs : List Nat}, i ∉ vs → (restE Γ0 Γ vs)[i]? = Γ[i]?
  | [], _ => rfl
  | v :: vs, h => by
    unfold restE
    rw [List.getElem?_set_ne (fun e => h (by simp [e])), restE_out fun z => h (List.mem_cons_of_mem _ z)]
theorem restE_in {Γ0 Γ : Env} {i : Nat} (hl : i < Γ.length) : ∀ {vs : List Nat}, i ∈ vs → (restE Γ0 Γ vs)[i]? = some (Γ0[i]?.getD .no)
  | v :: vs, h => by
    unfold restE
    by_cases e : v = i
    · subst e; rw [List.getElem?_set_self (by rw [restE_len]; exact hl)]
    · rw [List.getElem?_set_ne e]
      exact restE_in hl ((List.mem_cons.mp h).resolve_left (Ne.symm e))
theorem wipe_in {σ : L2.St} {i : Nat} (hl : i < σ.length) : ∀ {vs : List Nat}, i ∈ vs → (wipe σ vs)[i]? = some none
  | v :: vs, h => by
    unfold wipe
    by_cases e : v = i
    · subst e; rw [List.getElem?_set_self (by rw [wipe_length]; exact hl)]
    · rw [List.getElem?_set_ne e]
      exact wipe_in hl ((List.mem_cons.mp h).resolve_left (Ne.symm e))
theorem wipe_eq {σ σ' : L2.St} {vs : List Nat} (hl : σ'.length = σ.length) (h : ∀ i, i ∉ vs → σ'[i]? = σ[i]?) : wipe σ' vs = wipe σ vs := by
  apply List.ext_getElem?
  intro i
  by_cases hi : i ∈ vs
  · by_cases hb : i < σ.length
    · rw [wipe_in hb hi, wipe_in (by omega) hi]
    · rw [List.getElem?_eq_none_iff.mpr (by rw [wipe_length]; omega), List.getElem?_eq_none_iff.mpr (by rw [wipe_length]; omega)]
  · rw [wipe_out hi, wipe_out hi, h i hi]
/-- the slots of a comprehension's names hold no list of one's own -/
def freeE (Γ : Env) (vs : List Nat) : Bool := vs.all fun v => match Γ[v]? with
  | some s => !s.isOwn
  | none => true
section
variable {K : PySem.W.Frag} {B : Bs} {Γ Γ' Γ0 : Env} {F F' F0 H H' : Hp} {σ : L2.St} {vs : List Nat}
theorem Rel.wiped (R : Rel K B Γ F σ H) (vs : List Nat) : Rel K B (wipeE Γ vs) F (wipe σ vs) H := by
  induction vs with
  | nil => exact R
  | cons v vs ih => exact ih.setNo
theorem Rel.unwipe (R0 : Rel K B Γ0 F0 σ H) (hf : freeE Γ0 vs = true) (e : Ex F0 F') (R : Rel K B Γ F' (wipe σ vs) H') : Rel K B (restE Γ0 Γ vs) F' σ H' := by
  have hlen : σ.length = Γ.length := by have := R.len; rw [wipe_length] at this; exact this
  have free : ∀ i s, i ∈ vs → Γ0[i]? = some s → s.isOwn = true → False := fun i s hi h ho => by
    have q := List.all_eq_true.mp hf i hi
    rw [h] at q
    simp [ho] at q
  refine ⟨by rw [restE_len]; exact hlen, fun i s h => ?_, fun i j s t a hij h1 h2 h3 h4 h5 h6 => ?_, R.ext0, R.ext, R.frame, R.newF, R.pl, R.fresh⟩
  · by_cases hi : i ∈ vs
    · have hl : i < Γ.length := by
        have := (List.getElem?_eq_some_iff.mp h).1
        rw [restE_len] at this; exact this
      rw [restE_in hl hi] at h
      cases h
      cases q : Γ0[i]? with
      | none => trivial
      | some s =>
        show SlotOk K B F' H' s σ[i]?
        have z := R0.slot i s q
        cases s with
        | no => trivial
        | val d => obtain ⟨v, e1, e2⟩ := z; exact ⟨v, e1, dp_mono e e2⟩
        | own ds => exact (free i _ hi q rfl).elim
        | par ds => exact (free i _ hi q rfl).elim
    · rw [restE_out hi] at h
      have z := R.slot i s h
      rw [wipe_out hi] at z
      exact z
  · have notin : ∀ i s, (restE Γ0 Γ vs)[i]? = some s → s.isOwn = true → i ∉ vs := fun i s h ho hi => by
      have hl : i < Γ.length := by
        have := (List.getElem?_eq_some_iff.mp h).1
        rw [restE_len] at this; exact this
      rw [restE_in hl hi] at h
      cases h
      cases q : Γ0[i]? with
      | none => rw [q] at ho; cases ho
      | some s => rw [q] at ho; exact free i s hi q ho
    have n1 := notin i s h1 h2
    have n2 := notin j t h3 h4
    rw [restE_out n1] at h1
    rw [restE_out n2] at h3
    exact R.dist i j s t a hij h1 h2 h3 h4 (by rw [wipe_out n1]; exact h5) (by rw [wipe_out n2]; exact h6)
end
def tYesX : TX := fun Γ => some (true, Γ)
/-- the turns: what is made so far -/
def lcLoop (g : PyData → Env → Option Env) (t : TX) (f : EX) (vs : List Nat) : List PyData → List PyData → Env → Option (List PyData × Env)
  | [], acc, Γ => some (acc, Γ)
  | x :: xs, acc, Γ => (g x (wipeE Γ vs)).bind fun Γ1 => (t Γ1).bind fun c => if c.1 = true then (f c.2).bind fun y => if acc.length < 100000 then lcLoop g t f vs xs (acc ++ [y.1]) y.2 else none
    else lcLoop g t f vs xs acc c.2
def nLc (it : AX) (g : PyData → Env → Option Env) (t : TX) (f : EX) (vs : List Nat) : NX := fun Γ => (it Γ).bind fun x => if freeE x.2 vs = true then (lcLoop g t f vs x.1 [] x.2).bind fun y => some (.own y.1, restE x.2 y.2 vs) else none
section
variable {K : PySem.W.Frag}
/-- the comprehension wipes its names at each turn: the slots' map is the outer one, wiped -/
theorem ev_lc {wi : TI} {it : AX} {g : TG} {gx : PyData → Env → Option Env} {S : List Nat} {tt : TT} {t : TX} {te : TE} {f : EX} {vs : List Nat} (hi : EvI K wi it) (hg : EvG K g gx S) (hS : ∀ i, i ∈ S → i ∈ vs) (ht : EvT K tt t) (he : EvE K te f) :
    EvN K (tLc wi g tt te vs) (nLc it gx t f vs) := by
  intro B Γ F σ H r Γ' R hh Q q
  obtain ⟨⟨xs, Γ0⟩, e1, hh⟩ := bind_eq hh
  split at hh
  · rename_i hfree
    obtain ⟨⟨out, Γe⟩, e2, hh⟩ := bind_eq hh
    cases hh
    refine hi B Γ F σ H xs Γ0 R e1 _ fun J F0 H0 x0 R0 Y => fun D hD => ?_
    have W0 := R0.wiped vs
    -- the invariant: the environment of the turn, wiped; the list made so far is hidden
    refine ⟨fun i m H' => ∃ Γ1 F1 acc ws, m = xs.length - i ∧ i ≤ xs.length ∧ Ex F0 F1 ∧ Rel K B (wipeE Γ1 vs) F1 (wipe σ vs) H' ∧ Hid (wipeE Γ1 vs) F1 (wipe σ vs) H' D (.lst ws) ∧ DpAll K F1 ws acc ∧ Γ1.length = Γ0.length ∧ lcLoop gx t f vs (xs.drop i) acc Γ1 = some (out, Γe),
      ⟨xs.length, Γ0, F0, [], [], by simp, Nat.zero_le _, Ex.refl F0, W0.hide hD, .laid W0 hD, .nil, rfl, by simpa using e2⟩, ?_⟩
    rintro i m H1 ⟨Γ1, F1, acc, ws, rfl, hi1, x1, R1, hid1, da1, hl1, h1⟩
    have hB : B.H0 D = none := R0.fresh D hD
    by_cases hlt : i < xs.length
    · right
      refine ⟨Y.go i F1 H1 x1 R1.ext R1.pl hlt, fun H' => ∃ Γ1 F1 acc ws, Ex F0 F1 ∧ Rel K B (wipeE Γ1 vs) F1 (wipe σ vs) H' ∧ Hid (wipeE Γ1 vs) F1 (wipe σ vs) H' D (.lst ws) ∧ DpAll K F1 ws acc ∧ Γ1.length = Γ0.length ∧ lcLoop gx t f vs (xs.drop (i + 1)) acc Γ1 = some (out, Γe), ?_, fun x H2 hy => ?_⟩
      · rintro H' ⟨Γ2, F2, acc2, ws2, a1, a2, a3, a4, a5, a6⟩
        exact ⟨xs.length - (i + 1), by omega, Γ2, F2, acc2, ws2, rfl, hlt, a1, a2, a3, a4, a5, a6⟩
      · obtain ⟨F2, d, gr, ed, dd⟩ := Y.yld i F1 H1 x H2 x1 R1.ext R1.pl hlt hy
        have dr : xs.drop i = d :: xs.drop (i + 1) := by
          rw [List.drop_eq_getElem_cons hlt]
          rw [List.getElem?_eq_getElem hlt] at ed
          cases ed; rfl
        rw [dr] at h1
        obtain ⟨Γ2, e3, h1⟩ := bind_eq h1
        obtain ⟨⟨c, Γ3⟩, e4, h1⟩ := bind_eq h1
        have R2 := R1.grow gr
        have nD : F2 D = none := by
          cases z : F2 D with
          | none => rfl
          | some u =>
            rcases gr.new D u z with y | y
            · rw [hid1.noF] at y; cases y
            · rw [hid1.here] at y; cases y
        have hid2 : Hid (wipeE Γ1 vs) F2 (wipe σ vs) H2 D (.lst ws) := ⟨gr.keep _ _ hid1.here, nD, hid1.noO⟩
        have A2 := R2.rebased
        refine hg (rebase (wipeE Γ1 vs) F2 (wipe σ vs) H2) (wipeE Γ1 vs) F2 (wipe σ vs) H2 x d Γ2 A2 dd e3 _ fun σ2 A3 l2 o2 => ?_
        have ew : wipe σ2 vs = wipe σ vs := by
          have e0 : wipe (wipe σ vs) vs = wipe σ vs := wipe_eq (wipe_length σ vs) fun i hi => wipe_out hi
          rw [← e0]
          exact wipe_eq l2 fun i hi => o2 i fun z => hi (hS i z)
        refine ⟨ew, ?_⟩
        refine ht _ Γ2 F2 σ2 H2 c Γ3 A3 e4 _ fun F3 H3 x3 A4 => ?_
        have back : ∀ {Γz : Env} {Fz Hz : Hp}, Rel K (rebase (wipeE Γ1 vs) F2 (wipe σ vs) H2) Γz Fz σ2 Hz → Rel K B (wipeE Γz vs) Fz (wipe σ vs) Hz ∧ Hid (wipeE Γz vs) Fz (wipe σ vs) Hz D (.lst ws) ∧ Γz.length = Γ0.length := fun {Γz Fz Hz} A => by
          have A' := A.wiped vs
          rw [ew] at A'
          refine ⟨R2.back A', hid2.stays A', ?_⟩
          have z1 := A.len
          have z2 := A2.len
          rw [wipeE_len] at z2
          rw [← z1, l2, z2, hl1]
        cases c with
        | false =>
          show ∃ Γ1 F1 acc ws, _
          obtain ⟨b1, b2, b3⟩ := back A4
          exact ⟨Γ3, F3, acc, ws, (x1.trans gr.ext).trans x3, b1, b2, dpa_mono (gr.ext.trans x3) da1, b3, h1⟩
        | true =>
          obtain ⟨⟨y, Γ4⟩, e5, h1⟩ := bind_eq (show (f Γ3).bind _ = _ from h1)
          show te σ2 H3 _
          refine he _ Γ3 F3 σ2 H3 y Γ4 A4 e5 _ fun v F4 H4 x4 A5 d5 => ?_
          split at h1
          · rename_i hsz
            obtain ⟨b1, b2, b3⟩ := back A5
            have exs : Ex F1 F4 := (gr.ext.trans x3).trans x4
            refine ⟨ws, b2.here, sz_lt (by rw [dpa_len da1]; exact hsz), Γ4, F4, acc ++ [y], ws ++ [v], (x1.trans exs), b1.rewrite b2 hB, ?_, dpa_app (dpa_mono exs da1) (.cons d5 .nil), b3, h1⟩
            exact ⟨upd_same, b2.noF, b2.noO⟩
          · cases h1
    · left
      have ei : i = xs.length := by omega
      subst ei
      rw [List.drop_length] at h1
      cases h1
      have hw : Rel K B (restE Γ0 Γe vs) F1 σ H1 := by
        have hz : restE Γ0 (wipeE Γe vs) vs = restE Γ0 Γe vs := by
          apply List.ext_getElem?
          intro i
          by_cases hi : i ∈ vs
          · by_cases hb : i < Γe.length
            · rw [restE_in (by rw [wipeE_len]; exact hb) hi, restE_in hb hi]
            · rw [List.getElem?_eq_none_iff.mpr (by rw [restE_len, wipeE_len]; omega), List.getElem?_eq_none_iff.mpr (by rw [restE_len]; omega)]
          · rw [restE_out hi, restE_out hi, wipeE_out hi]
        rw [← hz]
        exact R0.unwipe hfree x1 R1
      refine ⟨Y.stop F1 H1 x1 R1.ext R1.pl, q _ F1 H1 (x0.trans x1) hw ⟨D, ws, rfl, ⟨hid1.here, hid1.noF, fun ⟨i, s, h1, h2, h3⟩ => ?_⟩, .inl hB, da1⟩⟩
      -- not owned in the outer environment
      by_cases hi : i ∈ vs
      · have hl : i < Γe.length := by
          have := (List.getElem?_eq_some_iff.mp h1).1
          rw [restE_len] at this; exact this
        rw [restE_in hl hi] at h1
        cases h1
        have z := List.all_eq_true.mp hfree i hi
        cases w : Γ0[i]? with
        | none => rw [w] at h2; cases h2
        | some s => rw [w] at h2 z; have h2' : s.isOwn = true := h2; simp [h2'] at z
      · rw [restE_out hi] at h1
        exact hid1.noO ⟨i, s, by rw [wipeE_out hi]; exact h1, h2, by rw [wipe_out hi]; exact h3⟩
  · cases hh
end
end Z
set_option Elab.async false
set_option linter.all false
set_option maxRecDepth 100000
set_option maxHeartbeats 2000000
/-! Z: comprehensions as judgements, defs and their calls -/
namespace Z
open PySem L2 Evl PyProof.Rows

/-! ### the parts of a comprehension stand in a block of their own: one reading for all of them -/
theorem uniE {P : Type} {K : PySem.W.Frag} {Xf : P → Cx} {e : Expr} {f : EX} (hK : ∀ p, (Xf p).K = K) (h : ∀ p, EP (Xf p) e f) : ∃ te, (∀ p, PE (Xf p) e te) ∧ EvE K te f := by
  have h' : ∀ p, ∃ te, PE (Xf p) e te ∧ EvE K te f := fun p => by
    obtain ⟨te, h1, h2⟩ := h p
    exact ⟨te, h1, (hK p) ▸ h2⟩
  refine ⟨fun σ H Q => ∀ p, (Classical.choose (h' p)) σ H Q, fun p => ?_, ?_⟩
  · have hp := Classical.choose_spec (h' p)
    exact ⟨fun pins s σ H Q I hw => hp.1.run pins s σ H Q I (hw p)⟩
  · intro B Γ F σ H r Γ' R e Q q p
    have hp := Classical.choose_spec (h' p)
    exact hp.2 B Γ F σ H r Γ' R e Q q
theorem uniG {P : Type} {K : PySem.W.Frag} {Xf : P → Cx} {tg : Expr} {gx : PyData → Env → Option Env} {S : List Nat} (hK : ∀ p, (Xf p).K = K) (h : ∀ p, GP (Xf p) tg gx S) : ∃ g, (∀ p, PG (Xf p) tg g) ∧ EvG K g gx S := by
  have h' : ∀ p, ∃ g, PG (Xf p) tg g ∧ EvG K g gx S := fun p => by
    obtain ⟨te, h1, h2⟩ := h p
    exact ⟨te, h1, (hK p) ▸ h2⟩
  refine ⟨fun v σ H Q => ∀ p, (Classical.choose (h' p)) v σ H Q, fun p => ?_, ?_⟩
  · have hp := Classical.choose_spec (h' p)
    exact ⟨fun pins s σ H v u Q I r hw => hp.1.run pins s σ H v u Q I r (hw p)⟩
  · intro B Γ F σ H v d Γ' R hd e Q q p
    have hp := Classical.choose_spec (h' p)
    exact hp.2 B Γ F σ H v d Γ' R hd e Q q
/-- the tests of a comprehension -/
def TsP (X : Cx) (ifs : List Expr) (t : TX) : Prop := ∃ tt, PTs X ifs tt ∧ EvT X.K tt t
theorem tsp_nil {X : Cx} : TsP X [] tYesX := ⟨_, pts_nil, fun B Γ F σ H r Γ' R e Q q => by cases e; exact q F H (Ex.refl F) R⟩
theorem tsp_one {X : Cx} {c : Expr} {t : TX} (h : TP X c t) : TsP X [c] t := by
  obtain ⟨tt, h1, h2⟩ := h
  exact ⟨_, pts_one h1, h2⟩
theorem uniT {P : Type} {K : PySem.W.Frag} {Xf : P → Cx} {ifs : List Expr} {t : TX} (hK : ∀ p, (Xf p).K = K) (h : ∀ p, TsP (Xf p) ifs t) : ∃ tt, (∀ p, PTs (Xf p) ifs tt) ∧ EvT K tt t := by
  have h' : ∀ p, ∃ tt, PTs (Xf p) ifs tt ∧ EvT K tt t := fun p => by
    obtain ⟨te, h1, h2⟩ := h p
    exact ⟨te, h1, (hK p) ▸ h2⟩
  refine ⟨fun σ H Q => ∀ p, (Classical.choose (h' p)) σ H Q, fun p => ?_, ?_⟩
  · have hp := Classical.choose_spec (h' p)
    exact ⟨fun pins s σ H Q I hw => hp.1.run pins s σ H Q I (hw p)⟩
  · intro B Γ F σ H r Γ' R e Q q p
    have hp := Classical.choose_spec (h' p)
    exact hp.2 B Γ F σ H r Γ' R e Q q
abbrev Blk := Shared × Hp × Addr × List (Str × Addr) × List Addr
abbrev blkOf (X : Cx) (scope : Scope) (p : Blk) : Cx := X.blk p.1 p.2.1 scope (compEnvC scope p.2.2.2.1 p.2.2.1 X.env) p.2.2.2.2
section
variable {X : Cx} {pos : Pos}
theorem np_lc {elt tg iter : Expr} {ifs : List Expr} {scope : Scope} {it : AX} {gx : PyData → Env → Option Env} {S : List Nat} {t : TX} {f : EX} (own : List (Str × Nat)) (hi : IP X tg iter it) (ok : BlkOk X.N X.env.scope scope own)
    (hg : ∀ p : Blk, GP (blkOf X scope p) tg gx S) (ht : ∀ p : Blk, TsP (blkOf X scope p) ifs t) (he : ∀ p : Blk, EP (blkOf X scope p) elt f)
    (hc : X.calm = true) (hN : X.N.Nodup) (hS : ∀ i, i ∈ S → i ∈ own.map (·.2) := by decide) (hs : ∀ x, foldedSetIterable iter X.env x = pure x := by intro _; rfl) :
    NP X (.ListComp elt [⟨tg, iter, ifs, 0⟩] scope pos) (nLc it gx t f (own.map (·.2))) := by
  obtain ⟨wi, i1, i2⟩ := hi
  obtain ⟨g, g1, g2⟩ := uniG (Xf := blkOf X scope) (K := X.K) (fun _ => rfl) hg
  obtain ⟨tt, t1, t2⟩ := uniT (Xf := blkOf X scope) (K := X.K) (fun _ => rfl) ht
  obtain ⟨te, e1, e2⟩ := uniE (Xf := blkOf X scope) (K := X.K) (fun _ => rfl) he
  exact ⟨_, pe_lc hc hN i1 ok (fun s H C cl fp => g1 (s, H, C, cl, fp)) (fun s H C cl fp => t1 (s, H, C, cl, fp)) (fun s H C cl fp => e1 (s, H, C, cl, fp)) hs, ev_lc i2 g2 hS t2 e2⟩
/-- y = [..] on one line -/
theorem sp_setLc {i : Nat} {y : Str} {py spos : Pos} {elt tg iter : Expr} {ifs : List Expr} {scope : Scope} {it : AX} {gx : PyData → Env → Option Env} {S : List Nat} {t : TX} {f : EX} (own : List (Str × Nat)) (hi : IP X tg iter it) (ok : BlkOk X.N X.env.scope scope own)
    (hg : ∀ p : Blk, GP (blkOf X scope p) tg gx S) (ht : ∀ p : Blk, TsP (blkOf X scope p) ifs t) (he : ∀ p : Blk, EP (blkOf X scope p) elt f)
    (hc : X.calm = true) (hN : X.N.Nodup) (hsw : swapsWith (.ListComp elt [⟨tg, iter, ifs, 0⟩] scope pos) (some (.Name y py)) spos.line X.env = pure true) (hy : X.N[i]? = some y := by rfl) (hyl : X.env.scope.names.lookup y = some .local := by rfl)
    (hS : ∀ i, i ∈ S → i ∈ own.map (·.2) := by decide) (hs : ∀ x, foldedSetIterable iter X.env x = pure x := by intro _; rfl) :
    SP X (.Assign [.Name y py] (.ListComp elt [⟨tg, iter, ifs, 0⟩] scope pos) spos) (sSet i (nLc it gx t f (own.map (·.2)))) := by
  obtain ⟨wi, i1, i2⟩ := hi
  obtain ⟨g, g1, g2⟩ := uniG (Xf := blkOf X scope) (K := X.K) (fun _ => rfl) hg
  obtain ⟨tt, t1, t2⟩ := uniT (Xf := blkOf X scope) (K := X.K) (fun _ => rfl) ht
  obtain ⟨te, e1, e2⟩ := uniE (Xf := blkOf X scope) (K := X.K) (fun _ => rfl) he
  refine ⟨_, ps_setLc hc hN hy hyl hsw i1 ok (fun s H C cl fp => g1 (s, H, C, cl, fp)) (fun s H C cl fp => t1 (s, H, C, cl, fp)) (fun s H C cl fp => e1 (s, H, C, cl, fp)) hs, ?_⟩
  intro B Γ F σ H o R e D hD
  obtain ⟨⟨r, Γ1⟩, h1, e⟩ := bind_eq e
  cases e
  exact ev_lc i2 g2 hS t2 e2 B Γ F σ H r Γ1 R h1 _ fun v F' H' ex R' hh => hD F' _ H' ex (R'.setHeld hh i)
end

/-! ### the promise of a def: its plain function -/
def spP (K : PySem.W.Frag) (n : Nat) (p : List PyData → Option PyData) : Sp := fun vs H Q _ => vs.length = n ∧ ∃ (F : Hp) (ds : List PyData) (r : PyData), Ex F H ∧ Pl F ∧ DpAll K F vs ds ∧ p ds = some r ∧
  ∀ v F' H', Grow F H F' H' → Dp K F' v r → Q v H'
/-- .. whose first argument is a list that it may change -/
def spM (K : PySem.W.Frag) (n : Nat) (p : List PyData → List PyData → Option (PyData × List PyData)) : Sp := fun vs H Q _ => vs.length = n ∧ ∃ (F : Hp) (a : Addr) (ws : List V) (cs : List PyData) (vs' : List V) (ds : List PyData) (r : PyData) (cs' : List PyData),
  vs = .ref a :: vs' ∧ Ex F H ∧ Pl F ∧ F a = none ∧ H a = some (.lst ws) ∧ DpAll K F ws cs ∧ DpAll K F vs' ds ∧ p cs ds = some (r, cs') ∧
  ∀ v F' H' ws', (∀ b o, b ≠ a → H b = some o → H' b = some o) → Ex F F' → Ex F' H' → Pl F' → F' a = none → (∀ b o, F' b = some o → F b = some o ∨ H b = none) → (∀ b, H' b = none → H b = none) → H' a = some (.lst ws') → DpAll K F' ws' cs' → Dp K F' v r → Q v H'
def envOf (n : Nat) (ds : List PyData) : Env := ds.map .val ++ List.replicate (n - ds.length) .no
def envM (n : Nat) (cs ds : List PyData) : Env := .par cs :: (ds.map .val ++ List.replicate (n - (ds.length + 1)) .no)
/-- the worth of a body -/
def runP (n : Nat) (b : SX) : List PyData → Option PyData := fun ds => (b (envOf n ds)).bind fun o => match o with
  | .rt r _ => some r
  | .nx _ => some .none
  | _ => none
def parOf (Γ : Env) : Option (List PyData) := match (Γ[0]? : Option Slot) with
  | some (.par cs) => some cs
  | _ => none
def runM (n : Nat) (b : SX) : List PyData → List PyData → Option (PyData × List PyData) := fun cs ds => (b (envM n cs ds)).bind fun o => match o with
  | .rt r Γ => (parOf Γ).bind fun c => some (r, c)
  | .nx Γ => (parOf Γ).bind fun c => some (.none, c)
  | _ => none
theorem start_val {K : PySem.W.Frag} {F H : Hp} : ∀ {vs : List V} {ds : List PyData} (n : Nat) {B : Bs} (h : DpAll K F vs ds) (i : Nat) (s : Slot), (ds.map Slot.val ++ List.replicate n Slot.no)[i]? = some s →
    SlotOk K B F H s (vs.map some ++ List.replicate n none)[i]? ∧ s.isOwn = false
  | [], [], n, B, .nil, i, s, h => by
    have : s = .no := by
      have := List.mem_of_getElem? h
      exact (by simpa using this : ¬n = 0 ∧ s = Slot.no).2
    subst this
    exact ⟨trivial, rfl⟩
  | v :: vs, d :: ds, n, B, .cons hd hr, 0, s, h => by
    simp at h; subst h
    exact ⟨⟨v, by simp, hd⟩, rfl⟩
  | v :: vs, d :: ds, n, B, .cons hd hr, i + 1, s, h => by
    have h' : (ds.map Slot.val ++ List.replicate n Slot.no)[i]? = some s := by simpa using h
    have := start_val (H := H) (B := B) n hr i s h'
    simpa using this
section
variable {P : Program} {w : World} {K : PySem.W.Frag} {mg : Str → Option Value} {base : Heap}
theorem fn_pure {x qual : Str} {st : Stmt} {f : Addr} {fd : FuncData} {N ps : List Str} {k : Nat} {b : SX} (F : Fun K x qual st f fd) (S : FnScope N ps (defScope st))
    (hb : ∀ (cdv : Value) (A : Around) (outer : List PySem.Env) (s : Shared) (H : Hp) (E : XK), Room k (A.deeper (envOfC qual (defScope st) s.heap.objs.size f cdv)) →
      BP (cxOf CX0 P w K mg base N qual (defScope st) f cdv A outer s H E).nox (defBody st) b) : FnOk P w K mg base CX0 (k + 1) f fd ps (spP K ps.length (runP N.length b)) := by
  refine F.ok S (fun vs H Q E h => h.1) fun cdv A outer s H vs Q E hr h => ?_
  obtain ⟨hl, F0, ds, r, ex, pl, hd, hp, q⟩ := h
  obtain ⟨ts, h1, h2⟩ := hb cdv A outer s H E hr
  refine ⟨ts, h1, ?_⟩
  obtain ⟨o, e1, e2⟩ := bind_eq hp
  have eqs : L2.start N vs = vs.map some ++ List.replicate (N.length - ds.length) none := by unfold L2.start; rw [dpa_len hd]
  have R : Rel K ⟨F0, H, fun _ => False, fun _ => False⟩ (envOf N.length ds) F0 (L2.start N vs) H := by
    rw [eqs]
    refine ⟨?_, fun i s h => (start_val _ hd i s h).1, fun i j s t a hij h1 h2 h3 h4 h5 h6 => ?_, Ex.refl F0, ex, fun b o e _ _ => e, fun b o e => .inl e, pl, fun b e => e⟩
    · simp [envOf, dpa_len hd]
    · have z := (start_val (H := H) (B := ⟨F0, H, fun _ => False, fun _ => False⟩) _ hd i s h1).2
      rw [z] at h2; cases h2
  have gr : ∀ {Γ' F' σ' H'}, Rel K ⟨F0, H, fun _ => False, fun _ => False⟩ Γ' F' σ' H' → Grow F0 H F' H' := fun {Γ' F' σ' H'} R' =>
    ⟨fun b o e => R'.frame b o e (fun z => z) (fun z => z), R'.ext0, R'.ext, fun b o e => by
      rcases R'.newF b o e with z | z | z
      · exact .inl z
      · exact .inr z
      · exact z.elim, fun _ => R'.pl⟩
  refine h2 _ _ F0 _ H o R e1 _ ?_
  cases o with
  | rt r' Γ' => cases e2; exact fun v F' σ' H' x R' d => q v F' H' (gr R') d
  | nx Γ' => cases e2; exact fun F' σ' H' x R' => q .non F' H' (gr R') .non
  | bk Γ' => cases e2
  | ct Γ' => cases e2
  | rl ds Γ' => cases e2
theorem fn_mut {x qual : Str} {st : Stmt} {f : Addr} {fd : FuncData} {N ps : List Str} {k : Nat} {b : SX} (F : Fun K x qual st f fd) (S : FnScope N ps (defScope st))
    (hb : ∀ (cdv : Value) (A : Around) (outer : List PySem.Env) (s : Shared) (H : Hp) (E : XK), Room k (A.deeper (envOfC qual (defScope st) s.heap.objs.size f cdv)) →
      BP (cxOf CX0 P w K mg base N qual (defScope st) f cdv A outer s H E).nox (defBody st) b) : FnOk P w K mg base CX0 (k + 1) f fd ps (spM K ps.length (runM N.length b)) := by
  refine F.ok S (fun vs H Q E h => h.1) fun cdv A outer s H vs Q E hr h => ?_
  obtain ⟨hl, F0, a, ws, cs, vs', ds, r, cs', rfl, ex, pl, ha0, ha, hc, hd, hp, q⟩ := h
  obtain ⟨ts, h1, h2⟩ := hb cdv A outer s H E hr
  refine ⟨ts, h1, ?_⟩
  obtain ⟨o, e1, e2⟩ := bind_eq hp
  have eqs : L2.start N (.ref a :: vs') = some (.ref a) :: (vs'.map some ++ List.replicate (N.length - (ds.length + 1)) none) := by unfold L2.start; rw [List.map_cons, List.cons_append, List.length_cons, dpa_len hd]
  have R : Rel K ⟨F0, H, fun b => b = a, fun _ => False⟩ (envM N.length cs ds) F0 (L2.start N (.ref a :: vs')) H := by
    rw [eqs]
    have own0 : ∀ (i : Nat) (s : Slot), (envM N.length cs ds)[i]? = some s → s.isOwn = true → i = 0 := fun i s h ho => by
      cases i with
      | zero => rfl
      | succ i =>
        have z := (start_val (H := H) (B := ⟨F0, H, fun b => b = a, fun _ => False⟩) _ hd i s (by simpa [envM] using h)).2
        rw [z] at ho; cases ho
    refine ⟨?_, fun i s h => ?_, fun i j s t a' hij h1 h2 h3 h4 h5 h6 => hij ((own0 i s h1 h2).trans (own0 j t h3 h4).symm), Ex.refl F0, ex, fun b o e _ _ => e, fun b o e => .inl e, pl, fun b e => e⟩
    · simp [envM, dpa_len hd]
    · cases i with
      | zero => simp [envM] at h; subst h; exact ⟨a, ws, by simp, ha0, rfl, ha, hc⟩
      | succ i =>
        have z := (start_val (H := H) (B := ⟨F0, H, fun b => b = a, fun _ => False⟩) _ hd i s (by simpa [envM] using h)).1
        simpa using z
  have fin : ∀ {Γ' F' σ' H'} {c : List PyData} {v : V} {r : PyData}, Rel K ⟨F0, H, fun b => b = a, fun _ => False⟩ Γ' F' σ' H' → parOf Γ' = some c → Dp K F' v r → (∀ v F' H' ws', (∀ b o, b ≠ a → H b = some o → H' b = some o) → Ex F0 F' → Ex F' H' → Pl F' → F' a = none → (∀ b o, F' b = some o → F0 b = some o ∨ H b = none) → (∀ b, H' b = none → H b = none) → H' a = some (.lst ws') → DpAll K F' ws' c → Dp K F' v r → Q v H') → Q v H' :=
    fun {Γ' F' σ' H' c v r} R' hc' d k => by
    have e0 : Γ'[0]? = some (.par c) := by
      unfold parOf at hc'
      cases z : Γ'[0]? with
      | none => rw [z] at hc'; cases hc'
      | some s => rw [z] at hc'; cases s <;> cases hc'; rfl
    obtain ⟨a', vs2, e', h1, h2, h3, h4⟩ := R'.slot 0 _ e0
    have ea : a' = a := h2
    subst ea
    exact k v F' H' vs2 (fun b o hb e => R'.frame b o e hb (fun z => z)) R'.ext0 R'.ext R'.pl h1 (fun b o e => by
      rcases R'.newF b o e with z | z | z
      · exact .inl z
      · exact .inr z
      · exact z.elim) R'.fresh h3 h4 d
  refine h2 _ _ F0 _ H o R e1 _ ?_
  cases o with
  | rt r' Γ' =>
    obtain ⟨c, hc', e2⟩ := bind_eq e2
    cases e2
    exact fun v F' σ' H' x R' d => fin R' hc' d q
  | nx Γ' =>
    obtain ⟨c, hc', e2⟩ := bind_eq e2
    cases e2
    exact fun F' σ' H' x R' => fin R' hc' .non q
  | bk Γ' => cases e2
  | ct Γ' => cases e2
  | rl ds Γ' => cases e2
end

/-! ### defs that hand back a new list -/
def spL (K : PySem.W.Frag) (n : Nat) (p : List PyData → Option (List PyData)) : Sp := fun vs H Q _ => vs.length = n ∧ ∃ (F : Hp) (ds : List PyData) (rs : List PyData), Ex F H ∧ Pl F ∧ DpAll K F vs ds ∧ p ds = some rs ∧
  ∀ a ws F' H', Grow F H F' H' → H a = none → H' a = some (.lst ws) → F' a = none → DpAll K F' ws rs → Q (.ref a) H'
def runL (n : Nat) (b : SX) : List PyData → Option (List PyData) := fun ds => (b (envOf n ds)).bind fun o => match o with
  | .rl rs _ => some rs
  | _ => none
section
variable {P : Program} {w : World} {K : PySem.W.Frag} {mg : Str → Option Value} {base : Heap}
theorem fn_list {x qual : Str} {st : Stmt} {f : Addr} {fd : FuncData} {N ps : List Str} {k : Nat} {b : SX} (F : Fun K x qual st f fd) (S : FnScope N ps (defScope st))
    (hb : ∀ (cdv : Value) (A : Around) (outer : List PySem.Env) (s : Shared) (H : Hp) (E : XK), Room k (A.deeper (envOfC qual (defScope st) s.heap.objs.size f cdv)) →
      BP (cxOf CX0 P w K mg base N qual (defScope st) f cdv A outer s H E).nox (defBody st) b) : FnOk P w K mg base CX0 (k + 1) f fd ps (spL K ps.length (runL N.length b)) := by
  refine F.ok S (fun vs H Q E h => h.1) fun cdv A outer s H vs Q E hr h => ?_
  obtain ⟨hl, F0, ds, r, ex, pl, hd, hp, q⟩ := h
  obtain ⟨ts, h1, h2⟩ := hb cdv A outer s H E hr
  refine ⟨ts, h1, ?_⟩
  obtain ⟨o, e1, e2⟩ := bind_eq hp
  have eqs : L2.start N vs = vs.map some ++ List.replicate (N.length - ds.length) none := by unfold L2.start; rw [dpa_len hd]
  have R : Rel K ⟨F0, H, fun _ => False, fun _ => False⟩ (envOf N.length ds) F0 (L2.start N vs) H := by
    rw [eqs]
    refine ⟨?_, fun i s h => (start_val _ hd i s h).1, fun i j s t a hij h1 h2 h3 h4 h5 h6 => ?_, Ex.refl F0, ex, fun b o e _ _ => e, fun b o e => .inl e, pl, fun b e => e⟩
    · simp [envOf, dpa_len hd]
    · have z := (start_val (H := H) (B := ⟨F0, H, fun _ => False, fun _ => False⟩) _ hd i s h1).2
      rw [z] at h2; cases h2
  have gr : ∀ {Γ' F' σ' H'}, Rel K ⟨F0, H, fun _ => False, fun _ => False⟩ Γ' F' σ' H' → Grow F0 H F' H' := fun {Γ' F' σ' H'} R' =>
    ⟨fun b o e => R'.frame b o e (fun z => z) (fun z => z), R'.ext0, R'.ext, fun b o e => by
      rcases R'.newF b o e with z | z | z
      · exact .inl z
      · exact .inr z
      · exact z.elim, fun _ => R'.pl⟩
  refine h2 _ _ F0 _ H o R e1 _ ?_
  cases o with
  | rl rs Γ' =>
    cases e2
    rintro v F' σ' H' x R' ⟨p, ws, rfl, hh, h0, hda⟩
    rcases h0 with h0 | h0
    · exact q p ws F' H' (gr R') h0 hh.here hh.noF hda
    · exact h0.elim
  | _ => cases e2
end
/-- f(..) that hands back a new list -/
def nCallL (p : List PyData → Option (List PyData)) (a : AX) : NX := fun Γ => (a Γ).bind fun x => (p x.1).bind fun z => some (.own z, x.2)
theorem notOwned {K : PySem.W.Frag} {B : Bs} {Γ : Env} {F H : Hp} {σ : L2.St} (R : Rel K B Γ F σ H) {p : Addr} (hp : H p = none) : ¬ OwnsAt Γ σ p := (Hid.laid (o := .lst []) R hp).noO
theorem np_fnL {X : Cx} {pos : Pos} {x : Str} {pp : Pos} {e : Expr} {es : List Expr} {p : List PyData → Option (List PyData)} {n : Nat} {k : AX} {f : Addr} {fd : FuncData} {ps : List Str} {lv : Nat} (G : FnOk X.prog X.w X.K X.mg X.base CX0 lv f fd ps (spL X.K n p)) (hr : Room lv X.A) (hm : X.mg x = some (.ref f)) (hk : PySem.W.keepIn X.K (.ref f) = true)
    (hb : Binds X.K fd ps []) (ha : AP X (e :: es) k) (hn : ∀ Γ x, k Γ = some x → x.1.length = n) (hg : Gl X x := by rfl) (hdb : (x == ("__debug__" : Str)) = false := by decide)
    (he : starEach (e :: es) X.env = (false, eval e X.env) :: starEach es X.env := by rfl) (hpl : (backTo pos (starEach es X.env)).any (·.1) = false := by rfl) : NP X (.Call (.Name x pp) (e :: es) [] pos) (nCallL p k) := by
  obtain ⟨ta, a1, a2⟩ := ha
  refine ⟨_, pe_call (E := E0) G hr hg hm hk hb .nil pass0 a1 hdb he hpl, ?_⟩
  intro B Γ F σ H z Γ' R h Q q
  obtain ⟨⟨xs, Γ1⟩, h1, h⟩ := bind_eq h
  obtain ⟨z', h3, h⟩ := bind_eq h
  cases h
  refine a2 B Γ F σ H xs Γ1 R h1 _ fun vs F1 H1 e1 R1 d1 => ?_
  show spL X.K n p (vs ++ []) H1 Q E0
  rw [List.append_nil]
  exact ⟨by rw [dpa_len d1]; exact hn _ _ h1, F1, xs, z', R1.ext, R1.pl, d1, h3, fun a ws F2 H2 gr g1 g2 g3 g4 => q _ F2 H2 (e1.trans gr.ext) (R1.grow gr) ⟨a, ws, rfl, ⟨g2, g3, notOwned R1 g1⟩, .inl (R1.fresh a g1), g4⟩⟩

/-! ### calls of defs -/
/-- f(x, ..), x a list in slot i that f may change -/
def eCallM (i : Nat) (p : List PyData → List PyData → Option (PyData × List PyData)) (a : AX) : EX := fun Γ => (ownAt Γ i).bind fun _ => (a Γ).bind fun x => (ownAt x.2 i).bind fun cs => (p cs x.1).bind fun z => some (z.1, ownSet x.2 i z.2)
section
variable {X : Cx} {pos : Pos}
theorem ap_len {X : Cx} {es : List Expr} {k : AX} (h : AP X es k) : True := trivial
theorem ev_fn {K : PySem.W.Frag} {p : List PyData → Option PyData} {n : Nat} {ta : TA} {k : AX} {E : XK} (hn : ∀ Γ x, k Γ = some x → x.1.length = n) (ha : EvA K ta k) : EvE K (tCall (spP K n p) [] E ta) (eCall p k) := by
  intro B Γ F σ H z Γ' R h Q q
  obtain ⟨⟨xs, Γ1⟩, h1, h⟩ := bind_eq h
  obtain ⟨z', h3, h⟩ := bind_eq h
  cases h
  refine ha B Γ F σ H xs Γ1 R h1 _ fun vs F1 H1 e1 R1 d1 => ?_
  show spP K n p (vs ++ []) H1 Q E
  rw [List.append_nil]
  exact ⟨by rw [dpa_len d1]; exact hn _ _ h1, F1, xs, z, R1.ext, R1.pl, d1, h3, fun w F3 H3 gr d3 => q w F3 H3 (e1.trans gr.ext) (R1.grow gr) d3⟩
theorem ep_fn {x : Str} {pp : Pos} {e : Expr} {es : List Expr} {p : List PyData → Option PyData} {n : Nat} {k : AX} {f : Addr} {fd : FuncData} {ps : List Str} {lv : Nat} (G : FnOk X.prog X.w X.K X.mg X.base CX0 lv f fd ps (spP X.K n p)) (hr : Room lv X.A) (hm : X.mg x = some (.ref f)) (hk : PySem.W.keepIn X.K (.ref f) = true)
    (hb : Binds X.K fd ps []) (ha : AP X (e :: es) k) (hn : ∀ Γ x, k Γ = some x → x.1.length = n) (hg : Gl X x := by rfl) (hdb : (x == ("__debug__" : Str)) = false := by decide)
    (he : starEach (e :: es) X.env = (false, eval e X.env) :: starEach es X.env := by rfl) (hpl : (backTo pos (starEach es X.env)).any (·.1) = false := by rfl) : EP X (.Call (.Name x pp) (e :: es) [] pos) (eCall p k) := by
  obtain ⟨ta, a1, a2⟩ := ha
  exact ⟨_, pe_call G hr hg hm hk hb .nil pass0 a1 hdb he hpl, ev_fn hn a2⟩
theorem ep_fnM {x y : Str} {pp py : Pos} {es : List Expr} {p : List PyData → List PyData → Option (PyData × List PyData)} {n i : Nat} {k : AX} {f : Addr} {fd : FuncData} {ps : List Str} {lv : Nat} (G : FnOk X.prog X.w X.K X.mg X.base CX0 lv f fd ps (spM X.K n p)) (hr : Room lv X.A) (hm : X.mg x = some (.ref f)) (hk : PySem.W.keepIn X.K (.ref f) = true)
    (hb : Binds X.K fd ps []) (ha : AP X es k) (hn : ∀ Γ x, k Γ = some x → x.1.length + 1 = n)
    (hp : ∀ {ta : TA} {E : XK} {sp : Sp}, (FnOk X.prog X.w X.K X.mg X.base CX0 lv f fd ps sp) → PA X es ta → PE X (.Call (.Name x pp) (.Name y py :: es) [] pos) (tCall sp [] E0 (tCons (tVar i) ta)) := by
      intro ta E sp G' h; exact pe_call G' (by assumption) (by rfl) (by assumption) (by assumption) (by assumption) .nil pass0 (pa_cons (pv _) h)) :
    EP X (.Call (.Name x pp) (.Name y py :: es) [] pos) (eCallM i p k) := by
  obtain ⟨ta, a1, a2⟩ := ha
  refine ⟨_, hp (E := E0) G a1, ?_⟩
  intro B Γ F σ H zz Γ' R h Q q
  obtain ⟨ds0, e0, h⟩ := bind_eq h
  obtain ⟨⟨xs, Γ1⟩, h1, h⟩ := bind_eq h
  obtain ⟨cs, h2, h⟩ := bind_eq h
  obtain ⟨⟨z, cs'⟩, h3, h⟩ := bind_eq h
  cases h
  obtain ⟨a, vs0, ea, _⟩ := R.ownGet e0
  refine ⟨.ref a, ea, ?_⟩
  refine a2 B Γ F σ H xs Γ1 R h1 _ fun vs F1 H1 e1 R1 d1 => ?_
  show spM X.K n p (V.ref a :: vs ++ []) H1 Q E0
  rw [List.append_nil]
  obtain ⟨a', ws, ea', hF, hH, hd⟩ := R1.ownGet h2
  rw [ea] at ea'; cases ea'
  refine ⟨by rw [List.length_cons, dpa_len d1]; exact hn _ _ h1, F1, a, ws, cs, vs, xs, z, cs', rfl, R1.ext, R1.pl, hF, hH, hd, d1, h3, fun v F2 H2 ws2 k1 k2 k3 k4 k5 k6 k7 k8 k9 k10 => ?_⟩
  -- first everything but a grows, then a is written
  have R2 : Rel X.K B (ownSet Γ1 i cs') F2 σ H2 := by
    have own_i : ∃ s : Slot, Γ1[i]? = some s ∧ s.isOwn = true := by
      unfold ownAt at h2
      cases q : Γ1[i]? with
      | none => rw [q] at h2; cases h2
      | some s => rw [q] at h2; cases s <;> first | cases h2; done | exact ⟨_, rfl, rfl⟩
    obtain ⟨s0, hs0, hs0o⟩ := own_i
    have hl : i < Γ1.length := (List.getElem?_eq_some_iff.mp hs0).1
    have noF : ∀ b us, F1 b = none → H1 b = some (.lst us) → F2 b = none := fun b us g1 g2 => by
      cases q : F2 b with
      | none => rfl
      | some o =>
        rcases k6 b o q with z | z
        · rw [g1] at z; cases z
        · rw [g2] at z; cases z
    have shape : ∃ s1 : Slot, ownSet Γ1 i cs' = Γ1.set i s1 ∧ s1.isOwn = true ∧ SlotOk X.K B F2 H2 s1 σ[i]? := by
      have z := R1.slot i s0 hs0
      unfold ownSet
      rw [hs0]
      cases s0 with
      | no => cases hs0o
      | val d => cases hs0o
      | own es' => obtain ⟨a1, ws1, e, g1, g2, g3, g4⟩ := z; rw [ea] at e; cases e; exact ⟨.own cs', rfl, rfl, a, ws2, ea, k5, g2, k8, k9⟩
      | par es' => obtain ⟨a1, ws1, e, g1, g2, g3, g4⟩ := z; rw [ea] at e; cases e; exact ⟨.par cs', rfl, rfl, a, ws2, ea, k5, g2, k8, k9⟩
    have hout : (B.H0 a = none ∨ B.Z a) ∨ B.M a := by
      have z := R1.slot i s0 hs0
      cases s0 with
      | no => cases hs0o
      | val d => cases hs0o
      | own es' => obtain ⟨a1, ws1, e, g1, g2, g3, g4⟩ := z; rw [ea] at e; cases e; exact .inl g2
      | par es' => obtain ⟨a1, ws1, e, g1, g2, g3, g4⟩ := z; rw [ea] at e; cases e; exact .inr g2
    obtain ⟨s1, es1, ho1, ok1⟩ := shape
    rw [es1]
    refine ⟨by rw [List.length_set]; exact R1.len, fun j s h' => ?_, fun j l s t b hjl g1 g2 g3 g4 g5 g6 => ?_, R1.ext0.trans k2, k3, fun b o e hm hz => ?_, fun b o e => ?_, k4, fun b e => R1.fresh b (k7 b e)⟩
    · by_cases hj : i = j
      · subst hj
        rw [List.getElem?_set_self hl] at h'
        cases h'
        exact ok1
      · rw [List.getElem?_set_ne hj] at h'
        have q := R1.slot j s h'
        cases s with
        | no => trivial
        | val d => obtain ⟨v, e, dd⟩ := q; exact ⟨v, e, dp_mono k2 dd⟩
        | own ds' =>
          obtain ⟨b, ws', e, g1, g2, g3, g4⟩ := q
          have nb : b ≠ a := fun z => R1.dist i j s0 _ a hj hs0 hs0o h' rfl ea (z ▸ e)
          exact ⟨b, ws', e, noF b ws' g1 g3, g2, k1 b _ nb g3, dpa_mono k2 g4⟩
        | par ds' =>
          obtain ⟨b, ws', e, g1, g2, g3, g4⟩ := q
          have nb : b ≠ a := fun z => R1.dist i j s0 _ a hj hs0 hs0o h' rfl ea (z ▸ e)
          exact ⟨b, ws', e, noF b ws' g1 g3, g2, k1 b _ nb g3, dpa_mono k2 g4⟩
    · have back : ∀ (j : Nat) (s : Slot), (Γ1.set i s1)[j]? = some s → s.isOwn = true → ∃ t : Slot, Γ1[j]? = some t ∧ t.isOwn = true := fun j s q w => by
        by_cases hj : i = j
        · subst hj; exact ⟨s0, hs0, hs0o⟩
        · rw [List.getElem?_set_ne hj] at q; exact ⟨s, q, w⟩
      obtain ⟨s', y1, y2⟩ := back j s g1 g2
      obtain ⟨t', y3, y4⟩ := back l t g3 g4
      exact R1.dist j l s' t' b hjl y1 y2 y3 y4 g5 g6
    · by_cases hb : b = a
      · subst hb
        rcases hout with (z | z) | z
        · rw [z] at e; cases e
        · exact absurd z hz
        · exact absurd z hm
      · exact k1 b o hb (R1.frame b o e hm hz)
    · rcases k6 b o e with z | z
      · exact R1.newF b o z
      · exact .inr (.inl (R1.fresh b z))
  exact q v F2 H2 (e1.trans k2) R2 k10
end
end Z
set_option Elab.async false
set_option linter.all false
set_option maxRecDepth 100000
set_option maxHeartbeats 2000000
/-! Z: what the library lacks: tuple[::-1], sorted(tuple), enumerate(tuple), list + list whatever lists, tuple(range(a, b, c)) -/
namespace HT
open PySem PyProof.Rows
section
variable {prog : Program} {w : World} {A : Around} {E : Value → Shared → Prop} {s : Shared}
theorem sliceApplied_rev {sl : Addr} {vl vu vs : Value} {n : Nat} {Q : Int × Int × Nat → Shared → Prop} (hs : s.heap.IsSliceOf sl vl vu vs) (pl : IsPart vl none) (pu : IsPart vu none) (ps : IsPart vs (some (-1)))
    (h : Q ((n : Int) - 1, -1, n) s) : wpAny (model prog w) A (Builtin.Slice.sliceApplied (.ref sl) (pure (n : Int))) Q E s := by
  obtain ⟨os, hos, hcs, hds⟩ := id hs
  unfold Builtin.Slice.sliceApplied Builtin.Slice.sliceFields
  refine wpAny_bind (wpAny_bind (wpAny_field hos hds (x := vl) rfl (wpAny_bind (wpAny_field hos hds (x := vu) rfl (wpAny_bind (wpAny_field hos hds (x := vs) rfl (wpAny_pure ?_)))))))
  refine wpAny_bind (slicePart_ ps ?_)
  show wpAny _ _ (if ((-1 : Int) == 0) = true then _ else _) _ _ s
  rw [if_neg (by decide)]
  refine wpAny_bind (slicePart_ pl (wpAny_bind (slicePart_ pu (wpAny_bind (wpAny_pure ?_)))))
  show wpAny _ _ (match Builtin.Slice.sliceAdjust none none (-1) (n : Int) with | (lo, hi) => pure (lo, (-1 : Int), Builtin.Slice.slicePlaces lo hi (-1))) _ _ s
  have e1 : Builtin.Slice.sliceAdjust none none (-1) (n : Int) = ((n : Int) - 1, -1) := by
    unfold Builtin.Slice.sliceAdjust
    rfl
  rw [e1]
  show wpAny _ _ (pure ((n : Int) - 1, (-1 : Int), Builtin.Slice.slicePlaces ((n : Int) - 1) (-1) (-1))) _ _ s
  have e2 : Builtin.Slice.slicePlaces ((n : Int) - 1) (-1) (-1) = n := by
    unfold Builtin.Slice.slicePlaces
    have h1 : ¬ (-1 : Int) > 0 := by decide
    simp only [h1, if_false]
    split
    · show (((n : Int) - 1 - -1 - 1) / - -1 + 1).toNat = n
      have : ((n : Int) - 1 - -1 - 1) / - -1 = (n : Int) - 1 := by
        show ((n : Int) - 1 - -1 - 1) / 1 = _
        rw [Int.ediv_one]; omega
      rw [this]; omega
    · omega
  rw [e2]
  exact wpAny_pure h
theorem pick_rev (xs : Array Value) : ((List.range xs.size).filterMap fun (m : Nat) => xs[(((xs.size : Int) - 1) + (m : Int) * (-1)).toNat]?).toArray = xs.toList.reverse.toArray := by
  congr 1
  have e : ((List.range xs.size).filterMap fun (m : Nat) => xs[(((xs.size : Int) - 1) + (m : Int) * (-1)).toNat]?) = ((List.range xs.size).map fun m => xs[xs.size - 1 - m]?).filterMap id := by
    have all : ∀ l : List Nat, (∀ m ∈ l, m < xs.size) → (l.filterMap fun (m : Nat) => xs[(((xs.size : Int) - 1) + (m : Int) * (-1)).toNat]?) = (l.map fun m => xs[xs.size - 1 - m]?).filterMap id := by
      intro l
      induction l with
      | nil => intro _; rfl
      | cons m l ih =>
        intro hl
        have hm := hl m List.mem_cons_self
        have e0 : (((xs.size : Int) - 1) + (m : Int) * (-1)).toNat = xs.size - 1 - m := by omega
        rw [List.filterMap_cons, List.map_cons, List.filterMap_cons, ih fun k hk => hl k (List.mem_cons_of_mem _ hk), e0]
        rfl
    exact all _ fun m hm => List.mem_range.mp hm
  rw [e]
  have e2 : ((List.range xs.size).map fun m => xs[xs.size - 1 - m]?) = xs.toList.reverse.map some := by
    apply List.ext_getElem?
    intro i
    simp only [List.getElem?_map]
    by_cases hi : i < xs.size
    · rw [List.getElem?_range hi, List.getElem?_reverse (by simpa using hi)]
      have hh : xs.size - 1 - i < xs.size := by omega
      simp [hh]
    · rw [List.getElem?_eq_none_iff.mpr (by simpa using hi), List.getElem?_eq_none_iff.mpr (by simp; omega)]
      rfl
  rw [e2, List.filterMap_map]
  simp
theorem getItem_tuple_rev {t sl : Addr} {items : Array Value} {vl vu vs : Value} {Q : Value → Shared → Prop} (ht : IsTup s.heap t items) (hs : s.heap.IsSliceOf sl vl vu vs) (pl : IsPart vl none) (pu : IsPart vu none) (ps : IsPart vs (some (-1)))
    (h : Q (.ref s.heap.objs.size) { s with heap := s.heap.push { cls := .type "tuple", data := .seq items.toList.reverse.toArray } })
    (hsz : items.size ≤ sizeLine) : wpAny (model prog w) A (getItem (.ref t) (.ref sl)) Q E s := by
  have htake : sizeOk (.seq items.toList.reverse.toArray) := by
    show items.toList.reverse.toArray.size ≤ sizeLine
    simpa using hsz
  obtain ⟨os, hos, hcs, hds⟩ := id hs
  have hTs : s.TypeIs (.ref sl) "slice" := ⟨os, hos, hcs⟩
  unfold getItem
  try with_reducible refine wpAny_holding ?_
  first | refine wpAny_bind (wpAny_pure ?_) | skip
  refine wpAny_bind (wpAny_sequenceKey ht.typeIs (by decide) ?_)
  refine wpAny_bind (wpAny_callSpecial?_slot (name := Str.ofString "__getitem__") ht.typeIs PyProof.Rows.slot_tuple_getitem
    (wpAny_call_entry PyProof.Rows.slot_tuple_getitem ht.typeIs entry_tuple_getitem ?_ (args_tuple_getitem _ _)))
  show wpAny _ _ (Builtin.Tuple.tupleItemsOf (.ref t) >>= _) _ _ s
  refine wpAny_bind (tupleItemsOf_ ht ?_)
  refine wpAny_bind (wpAny_typeOf hTs ?_)
  rw [if_pos (by decide)]
  refine wpAny_bind (sliceApplied_rev hs pl pu ps ?_)
  have hno : ¬ ((((items.size : Int) - 1) == 0 && (-1 : Int) == 1 && items.size == items.size) = true) := by
    intro q
    rw [Bool.and_eq_true, Bool.and_eq_true] at q
    exact absurd q.1.2 (by decide)
  show wpAny _ _ (if (((items.size : Int) - 1) == 0 && (-1 : Int) == 1 && items.size == items.size) = true then _ else _) _ _ s
  rw [if_neg hno, pick_rev]
  first
    | exact wpAny_bind (m := Builtin.Tuple.tupleExact _) (wpAny_newObj_type (wpAny_pure ⟨_, rfl, wpAny_pure h⟩) htake)
    | exact wpAny_bind (m := Builtin.Tuple.tupleExact _) (wpAny_newObj_type (wpAny_bind (wpAny_pure (wpAny_pure ⟨_, rfl, wpAny_pure h⟩))) htake)
    | exact wpAny_bind (wpAny_bind (m := Builtin.Tuple.tupleExact _) (wpAny_newObj_type (wpAny_pure (wpAny_pure ⟨_, rfl, wpAny_pure h⟩)) htake))
    | exact wpAny_bind (wpAny_bind (m := Builtin.Tuple.tupleExact _) (wpAny_newObj_type (wpAny_pure ⟨_, rfl, wpAny_pure h⟩) htake))
end
end HT
namespace Z
open PySem L2 Evl PyProof.Rows
section
variable {X : Cx}
/-- x[::-1], a list or a tuple: a new one -/
def tRevX (K : PySem.W.Frag) (te : TE) : TE := fun σ H Q => te σ H fun x H1 => ∃ a xs, x = .ref a ∧ ((SqL K H1 a xs ∧ ∀ p, H1 p = none → Q (.ref p) (upd H1 p (.lst xs.reverse))) ∨ (SqT K H1 a xs ∧ ∀ p, H1 p = none → Q (.ref p) (upd H1 p (.tup xs.reverse))))
theorem pe_revX {e : Expr} {te : TE} {k : Nat} {p1 p2 p3 pos : Pos} (he : PE X e te) : PE X (.Subscript e (.Slice none none (some (.UnaryOp .USub (.Constant (.int 1) k p1) p2)) p3) pos) (tRevX X.K te) := by
  refine ⟨fun pins s σ H Q I h => ?_⟩
  refine Subscript_ (thn (he.run pins s σ H _ I h) fun v s1 ⟨x, H1, I1, r1, q1⟩ => ?_)
  obtain ⟨a, xs, ex, hx⟩ := q1
  subst ex
  cases r1
  have hst : PO X (some (.UnaryOp .USub (.Constant (.int 1) k p1) p2)) (tPart (tUn (rU fun i => .int (-i)) (tC (.int 1)))) := po_some (pe_un un_neg pe_int)
  refine wpAny_Slice (thn (po_none.run pins s1 σ H1 (fun o H2 => o = none ∧ H2 = H1) I1 ⟨rfl, rfl⟩) fun vl s2 ⟨l, H2, I2, pl, el, e2⟩ => ?_)
  subst el e2
  refine thn (po_none.run pins s2 σ H2 (fun o H3 => o = none ∧ H3 = H2) I2 ⟨rfl, rfl⟩) fun vu s3 ⟨u, H3, I3, pu, eu, e3⟩ => ?_
  subst eu e3
  refine thn (hst.run pins s3 σ H3 (fun o H4 => o = some (-1) ∧ H4 = H3) I3 ⟨1, rfl, -1, rfl, rfl, rfl⟩) fun vs s4 ⟨o, H4, I4, ps, eo, e4⟩ => ?_
  subst eo e4
  have I5 : Inv X pins σ H4 { s4 with heap := s4.heap.push { cls := .type "slice", data := .fields #[vl, vu, vs] } } := I4.kept (t' := s4.toks) fun b ob q => Heap.get?_push_of_some _ q
  show wpAny (model X.prog X.w) X.A (subscriptTail e (.Slice none none (some (.UnaryOp .USub (.Constant (.int 1) k p1) p2)) p3) (.ref a) (.ref s4.heap.objs.size)) (L2.EP X pins σ Q) X.xe { s4 with heap := s4.heap.push { cls := .type "slice", data := .fields #[vl, vu, vs] } }
  rcases hx with ⟨hx, q⟩ | ⟨hx, q⟩
  · obtain ⟨its, r, ht, hz⟩ := I5.list hx
    have hlen := r.length
    refine tail_any (ops := [.ref a, .ref s4.heap.objs.size]) ht.isList.typeIs (PySem.slot_list_getitem.lookup) ?_ (by with_unfolding_all rfl)
    refine wpAny_getItem_list_slice ht.isList (Heap.IsSliceOf.new _ vl vu vs) pl pu ps (by decide) ?_ (by rw [List.size_toArray]; omega)
    rw [PySem.W.krv_pick]
    refine ⟨.ref _, _, I5.laid (t' := s4.toks) (o := .lst xs.reverse) (fun b ob q => Heap.get?_push_of_some _ q) (Nat.le_refl _) ?_, rfl, q _ (I5.hok.fresh (Nat.le_refl _))⟩
    exact ⟨by rw [List.length_reverse]; exact hz, _, 0, r.reverse, Heap.get?_push_size _ rfl⟩
  · obtain ⟨its, r, ht, hz⟩ := I5.tuple hx
    have hlen := r.length
    refine tail_any (ops := [.ref a, .ref s4.heap.objs.size]) ht.typeIs (PyProof.Rows.slot_tuple_getitem.lookup) ?_ (by with_unfolding_all rfl)
    refine HT.getItem_tuple_rev ht (Heap.IsSliceOf.new _ vl vu vs) pl pu ps ?_ (by rw [List.size_toArray]; omega)
    refine ⟨.ref _, _, I5.laid (t' := s4.toks) (o := .tup xs.reverse) (fun b ob q => Heap.get?_push_of_some _ q) (Nat.le_refl _) ?_, rfl, q _ (I5.hok.fresh (Nat.le_refl _))⟩
    exact ⟨by rw [List.length_reverse]; exact hz, _, r.reverse, IsTup.new _ _⟩
/-- list + list, whatever lists -/
def rCatL (K : PySem.W.Frag) : R2 := fun x y H Q => ∃ l b xs zs, x = .ref l ∧ y = .ref b ∧ SqL K H l xs ∧ SqL K H b zs ∧ xs.length + zs.length ≤ sizeLine ∧ ∀ p, H p = none → Q (.ref p) (upd H p (.lst (xs ++ zs)))
theorem op_catL : OpR X (binaryOp .Add) (rCatL X.K) := by
  intro pins s σ H x y v u Q I rx ry h
  obtain ⟨l, b, xs, zs, rfl, rfl, hH, hB, hz, q⟩ := h
  cases rx
  cases ry
  obtain ⟨vs, r, hl, z1⟩ := I.list hH
  obtain ⟨ws, r2, hb, z2⟩ := I.list hB
  have l1 := r.length
  have l2 := r2.length
  obtain ⟨⟨cls, dd, data, sl⟩, ho, hc, n, hd⟩ := hl.isList
  obtain ⟨⟨cls2, dd2, data2, sl2⟩, ho2, hc2, n2, hd2⟩ := hb.isList
  simp only at hc hd hc2 hd2
  subst hc hd hc2 hd2
  have e : vs.toArray ++ ws.toArray = (vs ++ ws).toArray := by simp
  refine concat_meets ⟨_, ho, rfl⟩ ⟨_, ho2, rfl⟩ noFill_list_add seq_list_add PySem.F.slot_list_add PySem.F.entry_list_add (PySem.F.args_list_add_2 _ _) (list_addW l b vs.toArray ws.toArray n n2 dd dd2 sl sl2 (by simp; omega)) ⟨ho, ho2, ?_⟩
  rw [e]
  refine ⟨.ref s.heap.objs.size, _, I.laid (t' := s.toks) (o := .lst (xs ++ zs)) (fun b ob q => Heap.get?_push_of_some _ q) (Nat.le_refl _) ?_, rfl, q _ (I.hok.fresh (Nat.le_refl _))⟩
  exact ⟨by rw [List.length_append]; exact hz, _, 0, r.append r2, Heap.get?_push_size _ rfl⟩
end
end Z
namespace SrtO
open PySem PyProof.Rows
section
variable {prog : Program} {w : World} {A : Around} {E : Value → Shared → Prop} {s : Shared}
/-- sorted(t), t a tuple (or a list) -/
theorem sorted_ordS {l : Addr} {T : String} {o : Obj} {n0 : Nat} {vs : List Value} {ltv : Value → Value → Bool} {Q : Value → Shared → Prop} (O : Swo ltv) (hT : T = "list" ∨ T = "tuple") (ho : s.heap.get? l = some o) (hc : o.cls = .type T) (hd : o.data = .seq vs.toArray n0) (hz : vs.length ≤ sizeLine)
    (hS : 2 ≤ vs.length → ∀ (h₁ : Heap) (a : Addr), h₁.get? a = some (seqObj "list" vs.toArray 0) → (∀ b o, s.heap.get? b = some o → h₁.get? b = some o) → SortableO prog w A.in1.in1 { s with heap := h₁ } a vs ltv)
    (h : ∀ (out : List Value) (h₂ h' : Heap) (p : Addr), Srtd ltv out → Stb ltv out vs → (∀ b o, s.heap.get? b = some o → h₂.get? b = some o) → (∀ b o, h₂.get? b = some o → h'.get? b = some o) → h₂.objs.size ≤ p → (∃ ep, h'.get? p = some (seqObj "list" out.toArray ep)) → Q (.ref p) { s with heap := h' }) :
    wpAny (model prog w) A (call (.builtin "sorted") [.ref l]) Q E s := by
  refine Calls.call_function_entry kind_sorted plain_sorted entry_sorted (args_sorted1 _) ?_
  unfold Builtin.«sorted»
  refine wpAny_bind (m := checkCount "sorted" 1 1 _) (wpAny_pure ?_)
  refine wpAny_bind (PySem.wpAny_collect_seq l hT ho hc hd (fun h₂ k2 => ?_) (by simpa using hz))
  refine wpAny_bind (wpAny_newList ?_ hz)
  have hoL : (h₂.push (seqObj "list" vs.toArray 0)).get? h₂.objs.size = some (seqObj "list" vs.toArray 0) := Heap.get?_push_size _ rfl
  have k3 : ∀ b o, s.heap.get? b = some o → (h₂.push (seqObj "list" vs.toArray 0)).get? b = some o := fun b o q => Heap.get?_push_of_some _ (k2 b o q)
  show wpAny _ _ _ _ _ { s with heap := h₂.push (seqObj "list" vs.toArray 0) }
  refine wpAny_bind (wpAny_holding (wpAny_call_entry slot_list_sort ⟨_, hoL, rfl⟩ entry_list_sort (list_sort_ord O hoL hz (fun h2 => hS h2 _ _ hoL k3) fun out hs hb => ⟨_, rfl, ?_⟩) (args_list_sort _)))
  refine wpAny_pure ⟨_, rfl, h out h₂ _ h₂.objs.size hs hb k2 (fun b o q => ?_) (Nat.le_refl _) (sortedHeap_at hoL)⟩
  have hlt : b < h₂.objs.size := Heap.lt_size q
  rw [sortedHeap_old (Nat.ne_of_lt hlt) (by rw [size_push']; exact Nat.lt_succ_of_lt hlt)]
  exact Heap.get?_push_of_some _ q
end
end SrtO
namespace Z
open PySem L2 Evl PyProof.Rows
section
variable {X : Cx}
/-- sorted of ints, a list or a tuple -/
def rSrt (K : PySem.W.Frag) : List V → Hp → VK → Prop := fun vs H Q => ∃ (a : Addr) (ns : List Int), vs = [V.ref a] ∧ (SqL K H a (ns.map V.int) ∨ SqT K H a (ns.map V.int)) ∧
  ∀ (ns' : List Int) (p : Addr), ns'.Perm ns → ns'.Pairwise (· ≤ ·) → H p = none → Q (.ref p) (upd H p (.lst (ns'.map V.int)))
theorem cr_srt : CallR X (.builtin "sorted") (rSrt X.K) := by
  intro pins s σ H vs us Q I r h
  obtain ⟨a, ns, rfl, hs, q⟩ := h
  rw [Vals.ref1 r]
  have fin : ∀ (its : List Value) (T : String) (o : Obj) (n0 : Nat), Vals (ns.map V.int) its → (T = "list" ∨ T = "tuple") → s.heap.get? a = some o → o.cls = .type T → o.data = .seq its.toArray n0 → (ns.map V.int).length ≤ sizeLine →
      wpAny (model X.prog X.w) X.A (call (.builtin "sorted") [.ref a]) (L2.EP X pins σ Q) X.xe s := fun its T o n0 rv hT ho hc hd hz => by
    have hi := rv.ints
    refine SrtO.sorted_ordS SrtO.swo_int hT ho hc hd (by rw [← rv.length]; exact hz) (fun h2 h₁ a' _ _ => SrtO.ints_sortable hi h2) fun out h₂ h' p h1 h2 k2 k3 hp he => ?_
    obtain ⟨e1, e2, e3⟩ := SrtO.ints_out hi h1 h2
    obtain ⟨ep, he'⟩ := he
    have hlen : ((out.map SrtO.iv).map V.int).length ≤ sizeLine := by
      rw [List.length_map, e2.length_eq]
      rw [List.length_map] at hz
      exact hz
    have I2 : Inv X pins σ H { s with heap := h₂ } := I.kept (t' := s.toks) k2
    exact ⟨.ref p, upd H p (.lst ((out.map SrtO.iv).map V.int)), I2.laid (t' := s.toks) k3 hp ⟨hlen, out, ep, vals_of_ints e1, he'⟩, rfl, q _ _ e2 e3 (I2.hok.fresh hp)⟩
  rcases hs with hs | hs
  · obtain ⟨its, rv, hl, hz⟩ := I.list hs
    obtain ⟨o, ho, hc, n, hd⟩ := hl.isList
    exact fin its "list" o n rv (.inl rfl) ho hc hd hz
  · obtain ⟨its, rv, ht, hz⟩ := I.tuple hs
    obtain ⟨o, ho, hc, n, hd⟩ := ht
    exact fin its "tuple" o n rv (.inr rfl) ho hc hd hz
/-! tuple(range(a, b, c)) -/
def PRg3 (X : Cx) (e : Expr) (t : L2.St → Hp → (Int → Int → Int → Hp → Prop) → Prop) : Prop :=
  ∀ (pins : List (Addr × Obj)) (s : Shared) (σ : L2.St) (H : Hp) (Q : Int → Int → Int → Hp → Prop), Inv X pins σ H s → t σ H Q →
    wpAny (model X.prog X.w) X.A (eval e X.env) (fun x s' => ∃ r a b c t u v H', x = .ref r ∧ IsRange s'.heap r a b c t u v ∧ Inv X pins σ H' s' ∧ Q a b c H') X.xe s
end
end Z
set_option Elab.async false
set_option linter.all false
set_option maxRecDepth 100000
set_option maxHeartbeats 2000000
/-! Z: for i, x in enumerate(t), t a tuple -/
namespace PySem
set_option maxHeartbeats 1000000 in
theorem meets_enumerate_newB1 {v : Value} {o : Obj} {H : Heap → Prop} (B : Begins v o H) :
    Meets (Builtin.«enumerate.__new__» ⟨[.type "enumerate", v], []⟩) (fun _ R s => H s.heap ∧
      R (.ok (.ret (.ref (s.heap.push o).objs.size))) { s with heap := (s.heap.push o).push { cls := .type "enumerate", data := .fields #[.none, .bool false, .ref s.heap.objs.size, rawInt 0, .none, .none] } }) :=
  .of_wp fun prog w A R s h => by
    obtain ⟨hp, g, d, tk, os⟩ := s; obtain ⟨h1, h⟩ := h
    have hsub := sub_enumerate
    have q1 : ∀ {A' : Around} {E : Value → Shared → Prop} {Q : Value → Shared → Prop}, Q (.ref hp.objs.size) ⟨hp.push o, g, d, tk, os⟩ → wpAny (model prog w) A' (pyIter v) Q E ⟨hp, g, d, tk, os⟩ :=
      fun q => B.iter prog w _ _ ⟨hp, g, d, tk, os⟩ _ h1 q
    wp_walk using q1
    refine wpAny_stack_any fun st => wpAny_pure ?_
    split
    · rename_i c _ _ _ _ _
      cases (c == Value.type "enumerate")
      · wp_walk using q1
        exact ⟨_, rfl, h⟩
      · wp_walk using q1
        exact ⟨_, rfl, h⟩
    · wp_walk using q1
      exact ⟨_, rfl, h⟩
section
variable {prog : Program} {w : World} {A : Around} {E : Value → Shared → Prop} {s : Shared}
theorem enum_begins1 {v : Value} {o : Obj} {H : Heap → Prop} {Q : Value → Shared → Prop} (B : Begins v o H) (h1 : H s.heap)
    (h : ∀ h', IsEnum h' (s.heap.objs.size + 1) s.heap.objs.size 0 .none → h'.get? s.heap.objs.size = some o → h'.objs.size = s.heap.objs.size + 2 →
      (∀ b o, s.heap.get? b = some o → h'.get? b = some o) → Q (.ref (s.heap.objs.size + 1)) { s with heap := h' }) :
    wpAny (model prog w) A (call (.type "enumerate") [v]) Q E s := by
  refine callType_new F.called_enumerate (by decide) (F.typeCall_enumerate_1 _) (F.newCall_enumerate_1 _) (fun obj => F.args_object_init_2 obj _) F.entry_enumerate_new
    (meets_enumerate_newB1 B) ⟨h1, ?_⟩
  have hz : (s.heap.push o).objs.size = s.heap.objs.size + 1 := Heap.size_push ..
  show _ ∧ _
  rw [hz]
  have he : IsEnum ((s.heap.push o).push { cls := .type "enumerate", data := .fields #[.none, .bool false, .ref s.heap.objs.size, rawInt 0, .none, .none] }) (s.heap.objs.size + 1) s.heap.objs.size 0 .none := by
    have := Heap.get?_push_size (s.heap.push o) (o := { cls := .type "enumerate", data := .fields #[.none, .bool false, .ref s.heap.objs.size, rawInt 0, .none, .none] }) rfl
    rw [hz] at this; exact this
  refine ⟨⟨_, he, rfl⟩, h _ he (Heap.get?_push_of_some _ (Heap.get?_push_size _ B.free)) (by rw [Heap.size_push, hz]) fun b o x => Heap.get?_push_of_some _ (Heap.get?_push_of_some _ x)⟩
end
end PySem
namespace L2
open PySem PySem.Spec PyProof.Rows
/-- the tuple at a, its items in new pairs -/
def IteT (K : PySem.W.Frag) (a : Addr) : It :=
  ⟨fun i H => ∃ (xs : List V) (x : V), SqT K H a xs ∧ xs[i]? = some x, fun i H v H' => ∃ T x, v = .ref T ∧ H T = none ∧ H' = upd H T (.tup [.int (i : Nat), x]) ∧ ∀ xs, SqT K H a xs → xs[i]? = some x, fun i H => ∃ xs : List V, SqT K H a xs ∧ xs.length ≤ i⟩
theorem turn_enumT {P : Program} {w : World} {K : PySem.W.Frag} {elts : List Expr} {kk : Nat} {tpos : Pos} (a e it : Addr) :
    Turn P w K (.Tuple elts kk tpos) (IteT K a) [e, it] e (fun i h => (∃ old, IsEnum h e it ((i : Nat) : Int) old) ∧ h.IsTupleIter it a i ∧ e ≠ it ∧ a ≠ it ∧ a ≠ e) where
  mem := by simp
  obj := fun i h st b hb => by
    obtain ⟨⟨old, he⟩, ⟨o, ho, hc, hd⟩, _⟩ := st
    have e' : b = e ∨ b = it := by simpa using hb
    rcases e' with z | z
    · rw [z]; exact ⟨_, he, fun v q => nomatch q⟩
    · rw [z]; exact ⟨o, ho, fun v q => by rw [hd] at q; cases q⟩
  keep := fun i h h' st k => let ⟨⟨old, he⟩, hi, hne⟩ := st; ⟨⟨old, k e (by simp) _ he⟩, hi.at fun o q => k it (by simp) o q, hne⟩
  item := by
    intro X hP hw hK hc i pins s σ H E I hf st hg
    subst hP hw hK
    obtain ⟨⟨old, he⟩, hit, hne, ha1, ha2⟩ := st
    obtain ⟨xs, x, hq, hx⟩ := hg
    obtain ⟨its, rv, p, hz⟩ := I.tuple hq
    obtain ⟨u, hu, ru⟩ := rv.get hx
    have hel : e < s.heap.objs.size := Heap.lt_size he
    have hil : it < s.heap.objs.size := by obtain ⟨_, q, _⟩ := hit; exact Heap.lt_size q
    have hi : i < its.toArray.size := by
      have := (List.getElem?_eq_some_iff.mp hu).1
      simpa using this
    refine wpAny_pyNext_enum_itemD (Draws.tuple (prog := X.prog) (w := X.w) (A := X.A.in1) (I.ok.hd hc) it a ha1 its.toArray) he ⟨hit, p⟩ hi hne (by simp [hne, Ne.symm ha2]) fun x' h' tk hP ho hit' hT hsz hk => ?_
    have ex : x' = u := by
      have hP' : its.toArray[i]? = some x' := hP
      simp only [List.getElem?_toArray] at hP'
      rw [hu] at hP'; exact (Option.some.inj hP').symm
    subst ex
    refine ⟨_, rfl, wpAny_letOwnedTupleGo_enum (s := { s with heap := h', toks := tk + 1 }) ho fun h'' he' sb => ?_⟩
    have hT2 : h''.get? s.heap.objs.size = some { cls := .type "tuple", data := .seq #[.int i tk, x'] } := (sb.2 _ (Nat.ne_of_gt hel)).trans hT
    have new : ObjOk X.prog X.w (upd H s.heap.objs.size (.tup [.int (i : Nat), x])) h'' s.heap.objs.size (.tup [.int (i : Nat), x]) :=
      ⟨by show 2 ≤ sizeLine; decide, [.int i tk, x'], .cons ⟨_, rfl⟩ (.cons ru .nil), ⟨_, hT2, rfl, _, rfl⟩⟩
    have I1 : Inv X pins σ (upd H s.heap.objs.size (.tup [.int (i : Nat), x])) { s with heap := h'', toks := tk + 1 } :=
      I.turnedNew (ch := [e, it]) (fun b ob hb q => (sb.2 b (fun z => hb (by simp [z]))).trans (hk b ob (fun z => hb (by simp [z])) (fun z => hb (by simp [z])) q)) hf (Nat.le_refl _) new
    refine ⟨.ref s.heap.objs.size, _, I1, rfl, ⟨_, x, rfl, I.hok.fresh (Nat.le_refl _), rfl, fun ys hy => by rw [I.tuple_inj hy hq]; exact hx⟩, ⟨⟨x', ?_⟩, hit'.1.at fun o q => (sb.2 it (Ne.symm hne)).trans q, hne, ha1, ha2⟩, fun b hb => ?_⟩
    · have e1 : ((i + 1 : Nat) : Int) = (i : Int) + 1 := by omega
      rw [e1]; exact he'
    · have hb' : b < s.heap.objs.size := by
        have e' : b = e ∨ b = it := by simpa using hb
        rcases e' with z | z
        · rw [z]; exact hel
        · rw [z]; exact hil
      rw [upd_ne (Nat.ne_of_lt hb')]
      exact (hf b hb).1
  done := by
    intro X hP hw hK hc i pins s σ H E I hf st hg
    subst hP hw hK
    obtain ⟨⟨old, he⟩, hit, hne, ha1, ha2⟩ := st
    obtain ⟨xs, hq, hx⟩ := hg
    obtain ⟨its, rv, p, hz⟩ := I.tuple hq
    obtain ⟨f0, f1, f2, f3, f4, f5⟩ := hf it (by simp)
    have hl := rv.length
    have hT : s.TypeIs (.ref e) "enumerate" := ⟨_, he, rfl⟩
    unfold pyNext
    refine wpAny_bind (wpAny_attempt (wpAny_callSpecial?_slot (name := Str.ofString "__next__") hT PySem.F.slot_enumerate_next
      (wpAny_call_entry PySem.F.slot_enumerate_next hT PySem.F.entry_enumerate_next ?_ (PySem.F.args_enumerate_next_1 _))))
    show wpAny _ _ (field (.ref e) 2 >>= _) _ _ _
    refine wpAny_bind (wpAny_field he rfl (x := .ref it) rfl ?_)
    refine wpAny_bind (wpAny_nextOf_tuple_end (I.ok.hd hc) hit p (by simp; omega) fun h' x he' hx' => ?_)
    obtain ⟨o, ho, hc'⟩ := hx'
    refine wpAny_bind (wpAny_isInstance (T := "StopIteration") (b := true) ⟨o, ho, hc'⟩ isSubtype_stop ?_)
    exact wpAny_pure ⟨rfl, I.turned (t' := s.toks) (fun b o hb q => he' b o hb q) f0 f1 f3 f4 f5⟩
  self := fun A i s Q E st h => let ⟨⟨_, he⟩, _⟩ := st; wpAny_pyIter_enum he h
def iEnumT (K : PySem.W.Frag) (ta : TA) : TI := fun σ H R => ta σ H fun vs H1 => ∃ a xs, vs = [.ref a] ∧ SqT K H1 a xs ∧ R (IteT K a) H1
theorem pi_enumT {X : Cx} {e : Expr} {ta : TA} {p pos tpos : Pos} {elts : List Expr} {kk : Nat} (hg : Gl X "enumerate") (hm : X.mg "enumerate" = none) (ha : PA X [e] ta) (hs : starEach [e] X.env = [(false, eval e X.env)] := by rfl) :
    PI X (.Tuple elts kk tpos) (.Call (.Name "enumerate" p) [e] [] pos) (iEnumT X.K ta) := by
  refine ⟨fun pins s σ H R I h => ?_⟩
  refine Call_ (ld_blt I hg hm boot_enumerate (PyProof.Rows.callWith_type1 (thn (ha.run pos pins s σ H _ I h) fun us s1 ⟨vs, H1, I1, r1, q1⟩ => ?_) hs rfl))
  obtain ⟨a, xs, ex, hq, q⟩ := q1
  subst ex
  cases r1 with
  | cons r rr =>
    cases rr
    cases r
    obtain ⟨its, rv, p', hz⟩ := I1.tuple hq
    have hal : a < s1.heap.objs.size := by obtain ⟨_, q, _⟩ := p'; exact Heap.lt_size q
    refine enum_begins1 (begins_tuple a its.toArray) p' fun h' he hit hsz hk => wpAny_pyIter_enum he ?_
    have I2 : Inv X pins σ H1 { s1 with heap := h' } := I1.kept (t' := s1.toks) hk
    refine ⟨s1.heap.objs.size + 1, [s1.heap.objs.size + 1, s1.heap.objs.size], _, _, H1, rfl, I2, turn_enumT a (s1.heap.objs.size + 1) s1.heap.objs.size, ⟨⟨.none, he⟩, ⟨_, hit, rfl, rfl⟩, Nat.succ_ne_self _, Nat.ne_of_lt hal, Nat.ne_of_lt (Nat.lt_succ_of_lt hal)⟩, fun b hb => ?_, q⟩
    have e' : b = s1.heap.objs.size + 1 ∨ b = s1.heap.objs.size := by simpa using hb
    have hle : s1.heap.objs.size ≤ b := by
      rcases e' with z | z
      · rw [z]; exact Nat.le_add_right _ _
      · rw [z]; exact Nat.le_refl _
    exact I1.fpOk hle (I1.hok.fresh hle)
end L2
set_option Elab.async false
set_option linter.all false
set_option maxRecDepth 100000
set_option maxHeartbeats 2000000
/-! Z: operators, comparisons, built-ins, what is walked -/
namespace Z
open PySem L2 Evl PyProof.Rows

def pAdd : PyData → PyData → Option PyData
  | .int i, .int j => some (.int (i + j))
  | .tuple xs, .tuple ys => if xs.length + ys.length ≤ 100000 then some (.tuple (xs ++ ys)) else none
  | .list xs, .list ys => if xs.length + ys.length ≤ 100000 then some (.list (xs ++ ys)) else none
  | _, _ => none
def pSub : PyData → PyData → Option PyData
  | .int i, .int j => some (.int (i - j))
  | _, _ => none
def pMul : PyData → PyData → Option PyData
  | .int i, .int j => if i.natAbs.log2 + j.natAbs.log2 < 1000000 then some (.int (i * j)) else none
  | _, _ => none
def pFdiv : PyData → PyData → Option PyData
  | .int i, .int j => if 0 < j ∧ j.natAbs.log2 < 9000 then some (.int (i / j)) else none
  | _, _ => none
def pMod : PyData → PyData → Option PyData
  | .int i, .int j => if 0 < j then some (.int (i % j)) else none
  | _, _ => none
def pPow : PyData → PyData → Option PyData
  | .int i, .int j => if 0 ≤ j ∧ j ≤ 1000000 ∧ i.natAbs < 2 ^ 64 then some (.int (i ^ j.toNat)) else none
  | _, _ => none
def pNeg : PyData → Option PyData
  | .int i => some (.int (-i))
  | _ => none
def pCmp (c : Int → Int → Bool) : PyData → PyData → Option PyData
  | .int i, .int j => some (.bool (c i j))
  | _, _ => none
def pLt := pCmp fun i j => decide (i < j)
def pLe := pCmp fun i j => decide (i ≤ j)
def pGt := pCmp fun i j => decide (j < i)
def pGe := pCmp fun i j => decide (j ≤ i)
def pEq (d e : PyData) : Option PyData := if SeqAt.shaped d = true ∧ SeqAt.shaped e = true then some (.bool (PyData.eqv d e)) else none
def pNe (d e : PyData) : Option PyData := if SeqAt.shaped d = true ∧ SeqAt.shaped e = true then some (.bool (!PyData.eqv d e)) else none
def isNone : PyData → Bool
  | .none => true
  | _ => false
def pIs : PyData → PyData → Option PyData
  | d, .none => some (.bool (isNone d))
  | _, _ => none
def pIsNot : PyData → PyData → Option PyData
  | d, .none => some (.bool (!isNone d))
  | _, _ => none
/-- flat things: what in, not in may look at -/
def flatD : PyData → Bool
  | .none => true
  | .bool _ => true
  | .int _ => true
  | _ => false
def seqOf : PyData → Option (List PyData)
  | .list xs => some xs
  | .tuple xs => some xs
  | _ => none
def pIn (neg : Bool) (d e : PyData) : Option PyData := (seqOf e).bind fun xs => if flatD d = true ∧ xs.all flatD = true then some (.bool (if neg then !(xs.any fun y => PyData.eqv y d) else xs.any fun y => PyData.eqv y d)) else none
def pIx (d k : PyData) : Option PyData := match k with
  | .int i => (seqOf d).bind fun xs => (ixN xs.length i).bind fun j => xs[j]?
  | _ => none
def cutD (xs : List PyData) (lo hi : Option Int) : List PyData := (xs.drop (HT.sIx xs.length 0 lo)).take (HT.sIx xs.length xs.length hi - HT.sIx xs.length 0 lo)
def pSl (d : PyData) (lo hi : Option Int) : Option PyData := match d with
  | .list xs => some (.list (cutD xs lo hi))
  | .tuple xs => some (.tuple (cutD xs lo hi))
  | _ => none

section
variable {K : PySem.W.Frag} {F H : Hp} {v : V}
theorem dp_int {i : Int} (h : Dp K F v (.int i)) : v = .int i := by cases h; rfl
theorem dp_list {ds : List PyData} (h : Dp K F v (.list ds)) : ∃ a vs, v = .ref a ∧ SqL K F a vs ∧ DpAll K F vs ds := by cases h with | lst h1 h2 => exact ⟨_, _, rfl, h1, h2⟩
theorem dp_tup {ds : List PyData} (h : Dp K F v (.tuple ds)) : ∃ a vs, v = .ref a ∧ SqT K F a vs ∧ DpAll K F vs ds := by cases h with | tup h1 h2 => exact ⟨_, _, rfl, h1, h2⟩
theorem dp_none : Dp K F v .none → v = .non := fun h => by cases h; rfl
theorem dp_isN {d : PyData} (h : Dp K F v d) : decide (v = .non) = isNone d := by
  cases h <;> first | rfl | exact decide_eq_false (fun z => by cases z)
theorem opp_int {C : Int → Int → Prop} [∀ i j, Decidable (C i j)] {g : Int → Int → V} {p : PyData → PyData → Option PyData} (hp : ∀ d e z, p d e = some z → ∃ i j, d = .int i ∧ e = .int j ∧ C i j ∧ ∀ F, Dp K F (g i j) z) : OpP K (rI C g) p := by
  intro F H x y d e z ex pl dx dy h Q q
  obtain ⟨i, j, rfl, rfl, hc, hz⟩ := hp d e z h
  exact ⟨i, j, dp_int dx, dp_int dy, hc, q _ F H (Grow.refl ex) (hz F)⟩
theorem opp_int0 {g : Int → Int → V} {p : PyData → PyData → Option PyData} (hp : ∀ d e z, p d e = some z → ∃ i j, d = .int i ∧ e = .int j ∧ ∀ F, Dp K F (g i j) z) : OpP K (rI0 g) p := by
  intro F H x y d e z ex pl dx dy h Q q
  obtain ⟨i, j, rfl, rfl, hz⟩ := hp d e z h
  exact ⟨i, j, dp_int dx, dp_int dy, q _ F H (Grow.refl ex) (hz F)⟩
end
section
variable {X : Cx}
theorem o_add : OpE X (binaryOp .Add) pAdd := by
  refine ⟨_, op_add.or (op_catA.or op_catL), ?_⟩
  intro F H x y d e z ex pl dx dy h Q q
  unfold pAdd at h
  split at h
  · cases h
    exact .inl ⟨_, _, dp_int dx, dp_int dy, q _ F H (Grow.refl ex) (.int _)⟩
  · rename_i xs ys
    split at h
    · rename_i hl
      cases h
      obtain ⟨a, vs, rfl, h1, h2⟩ := dp_tup dx
      obtain ⟨b, ws, rfl, h3, h4⟩ := dp_tup dy
      have l1 := dpa_len h2
      have l2 := dpa_len h4
      refine .inr (.inl ⟨a, b, vs, ws, rfl, rfl, ex_t ex h1, ex_t ex h3, sz_of (by omega), fun e => ?_, fun _ e => ?_, fun _ _ p hp => ?_⟩)
      · subst e
        have : xs = [] := List.eq_nil_of_length_eq_zero (by simpa using l1.symm)
        subst this
        exact q _ F H (Grow.refl ex) (by simpa using Dp.tup h3 h4)
      · subst e
        have : ys = [] := List.eq_nil_of_length_eq_zero (by simpa using l2.symm)
        subst this
        exact q _ F H (Grow.refl ex) (by simpa using Dp.tup h1 h2)
      · have gr := Grow.laid (o := .tup (vs ++ ws)) ex hp
        exact q _ _ _ gr (.tup (st_of upd_same) (dpa_mono gr.ext (dpa_app h2 h4)))
    · cases h
  · rename_i xs ys
    split at h
    · rename_i hl
      cases h
      obtain ⟨a, vs, rfl, h1, h2⟩ := dp_list dx
      obtain ⟨b, ws, rfl, h3, h4⟩ := dp_list dy
      have l1 := dpa_len h2
      have l2 := dpa_len h4
      refine .inr (.inr ⟨a, b, vs, ws, rfl, rfl, ex_l ex h1, ex_l ex h3, sz_of (by omega), fun p hp => ?_⟩)
      have gr := Grow.laid (o := .lst (vs ++ ws)) ex hp
      exact q _ _ _ gr (.lst (sq_of upd_same) (dpa_mono gr.ext (dpa_app h2 h4)))
    · cases h
  · cases h
theorem o_sub : OpE X (binaryOp .Sub) pSub := ⟨_, op_sub, opp_int0 fun d e z h => by
  unfold pSub at h; split at h <;> cases h; exact ⟨_, _, rfl, rfl, fun F => .int _⟩⟩
instance (i j : Int) : Decidable (CMulW i j) := by unfold CMulW; infer_instance
instance (i j : Int) : Decidable (CDivW i j) := by unfold CDivW; infer_instance
instance (i j : Int) : Decidable (CPow i j) := by unfold CPow; infer_instance
theorem o_mul : OpE X (binaryOp .Mult) pMul := ⟨_, op_mulW, opp_int fun d e z h => by
  unfold pMul at h
  split at h
  · split at h
    · rename_i hc; cases h; exact ⟨_, _, rfl, rfl, hc, fun F => .int _⟩
    · cases h
  · cases h⟩
theorem o_fdiv : OpE X (binaryOp .FloorDiv) pFdiv := ⟨_, op_fdivW, opp_int fun d e z h => by
  unfold pFdiv at h
  split at h
  · split at h
    · rename_i hc; cases h; exact ⟨_, _, rfl, rfl, hc, fun F => .int _⟩
    · cases h
  · cases h⟩
theorem o_mod : OpE X (binaryOp .Mod) pMod := ⟨_, op_mod, opp_int fun d e z h => by
  unfold pMod at h
  split at h
  · split at h
    · rename_i hc; cases h; exact ⟨_, _, rfl, rfl, hc, fun F => .int _⟩
    · cases h
  · cases h⟩
theorem o_pow : OpE X (binaryOp .Pow) pPow := ⟨_, op_pow, opp_int fun d e z h => by
  unfold pPow at h
  split at h
  · split at h
    · rename_i hc; cases h; exact ⟨_, _, rfl, rfl, hc, fun F => .int _⟩
    · cases h
  · cases h⟩
theorem u_neg : UnE X (unaryOp .USub) pNeg := by
  refine ⟨_, un_neg, ?_⟩
  intro F H x d z ex pl dx h Q q
  unfold pNeg at h
  split at h
  · cases h; exact ⟨_, dp_int dx, q _ F H (Grow.refl ex) (.int _)⟩
  · cases h
theorem cmp_of {c : Int → Int → Bool} {f : Value → Value → Sem Value} (h : OpR X f (rI0 fun i j => .bl (c i j))) : OpE X f (pCmp c) := ⟨_, h, opp_int0 fun d e z h => by
  unfold pCmp at h; split at h <;> cases h; exact ⟨_, _, rfl, rfl, fun F => .bl _⟩⟩
theorem c_lt : OpE X (compareOp .Lt) pLt := cmp_of op_lt
theorem c_le : OpE X (compareOp .LtE) pLe := cmp_of op_le
theorem c_gt : OpE X (compareOp .Gt) pGt := cmp_of op_gt
theorem c_ge : OpE X (compareOp .GtE) pGe := cmp_of op_ge
theorem c_eq (hu : X.A.units + 64 < cLine) : OpE X (compareOp .Eq) pEq := by
  refine ⟨_, op_eqD hu, ?_⟩
  intro F H x y d e z ex pl dx dy h Q q
  unfold pEq at h
  split at h
  · rename_i hs; cases h
    exact ⟨d, e, dp_mono ex dx, dp_mono ex dy, hs.1, hs.2, q _ F H (Grow.refl ex) (.bl _)⟩
  · cases h
theorem c_ne (hu : X.A.units + 64 < cLine) : OpE X (compareOp .NotEq) pNe := by
  refine ⟨_, op_neD hu, ?_⟩
  intro F H x y d e z ex pl dx dy h Q q
  unfold pNe at h
  split at h
  · rename_i hs; cases h
    exact ⟨d, e, dp_mono ex dx, dp_mono ex dy, hs.1, hs.2, q _ F H (Grow.refl ex) (.bl _)⟩
  · cases h
theorem c_is : OpE X (compareOp .Is) pIs := by
  refine ⟨_, op_isN, ?_⟩
  intro F H x y d e z ex pl dx dy h Q q
  unfold pIs at h
  split at h
  · cases h
    refine ⟨dp_none dy, ?_⟩
    rw [dp_isN dx]
    exact q _ F H (Grow.refl ex) (.bl _)
  · cases h
theorem c_isNot : OpE X (compareOp .IsNot) pIsNot := by
  refine ⟨_, op_notN, ?_⟩
  intro F H x y d e z ex pl dx dy h Q q
  unfold pIsNot at h
  split at h
  · cases h
    refine ⟨dp_none dy, ?_⟩
    rw [dp_isN dx]
    exact q _ F H (Grow.refl ex) (.bl _)
  · cases h
theorem flat_v {K : PySem.W.Frag} {F : Hp} {v : V} {d : PyData} (h : Dp K F v d) (hf : flatD d = true) : flatV v = true := by
  cases h <;> first | rfl | cases hf
theorem eqv_v {K : PySem.W.Frag} {F : Hp} {v w : V} {d e : PyData} (h : Dp K F v d) (k : Dp K F w e) (hf : flatD d = true) (kf : flatD e = true) : eqV v w = PyData.eqv d e := by
  cases h <;> first | (cases hf; done) | (cases k <;> first | (cases kf; done) | (simp [eqV, PyData.eqv]; done) | rfl)
theorem any_v {K : PySem.W.Frag} {F : Hp} {v : V} {d : PyData} (h : Dp K F v d) (hf : flatD d = true) : ∀ {vs : List V} {ds : List PyData}, DpAll K F vs ds → ds.all flatD = true → vs.all flatV = true ∧ inV v vs = ds.any fun y => PyData.eqv y d
  | _, _, .nil, _ => ⟨rfl, rfl⟩
  | _, _, .cons h1 h2, ha => by
    simp only [List.all_cons, Bool.and_eq_true] at ha
    obtain ⟨i1, i2⟩ := any_v h hf h2 ha.2
    unfold inV at i2 ⊢
    refine ⟨by rw [List.all_cons, flat_v h1 ha.1, i1]; rfl, ?_⟩
    rw [List.any_cons, List.any_cons, i2, eqv_v h1 h ha.1 hf]
theorem opp_in {K : PySem.W.Frag} (neg : Bool) : OpP K (rIn K neg) (pIn neg) := by
  intro F H x y d e z ex pl dx dy h Q q
  unfold pIn at h
  obtain ⟨xs, hs, h⟩ := bind_eq h
  split at h
  · rename_i hf
    cases h
    cases e with
    | list ys =>
      cases hs
      obtain ⟨a, vs, rfl, h1, h2⟩ := dp_list dy
      obtain ⟨i1, i2⟩ := any_v dx hf.1 h2 hf.2
      refine ⟨a, vs, rfl, .inl (ex_l ex h1), flat_v dx hf.1, i1, ?_⟩
      rw [i2]
      exact q _ F H (Grow.refl ex) (.bl _)
    | tuple ys =>
      cases hs
      obtain ⟨a, vs, rfl, h1, h2⟩ := dp_tup dy
      obtain ⟨i1, i2⟩ := any_v dx hf.1 h2 hf.2
      refine ⟨a, vs, rfl, .inr (ex_t ex h1), flat_v dx hf.1, i1, ?_⟩
      rw [i2]
      exact q _ F H (Grow.refl ex) (.bl _)
    | _ => cases hs
  · cases h
theorem c_in : OpE X (compareOp .In) (pIn false) := ⟨_, op_in_seq, opp_in false⟩
theorem c_notIn : OpE X (compareOp .NotIn) (pIn true) := ⟨_, op_notIn_seq, opp_in true⟩

/-! ### items, slices -/
theorem atI_of {vs : List V} {ds : List PyData} {K : PySem.W.Frag} {F : Hp} {i : Int} {j : Nat} {z : PyData} (h : DpAll K F vs ds) (e : ixN ds.length i = some j) (hz : ds[j]? = some z) : ∃ v, atI vs i = some v ∧ Dp K F v z := by
  obtain ⟨v, h1, h2⟩ := dpa_get h hz
  refine ⟨v, ?_, h2⟩
  unfold atI
  rw [dpa_len h, e]
  exact h1
def rIx (K : PySem.W.Frag) : R2 := fun x y H Q => rIxL K x y H Q ∨ rIxT K x y H Q
theorem i_ix : IxE X pIx := by
  refine ⟨_, ix_list.or ix_tup, ?_⟩
  intro F H x y d e z ex pl dx dy h Q q
  unfold pIx at h
  cases e with
  | int i =>
    obtain ⟨xs, hs, h0⟩ := bind_eq h
    obtain ⟨j, hj, h3⟩ := bind_eq h0
    have := dp_int dy
    subst this
    cases d with
    | list ys =>
      cases hs
      obtain ⟨a, vs, rfl, h1, h2⟩ := dp_list dx
      obtain ⟨v, e1, e2⟩ := atI_of h2 hj h3
      exact .inl ⟨a, vs, i, v, rfl, rfl, ex_l ex h1, e1, q _ F H (Grow.refl ex) e2⟩
    | tuple ys =>
      cases hs
      obtain ⟨a, vs, rfl, h1, h2⟩ := dp_tup dx
      obtain ⟨v, e1, e2⟩ := atI_of h2 hj h3
      exact .inr ⟨a, vs, i, v, rfl, rfl, ex_t ex h1, e1, q _ F H (Grow.refl ex) e2⟩
    | _ => cases hs
  | _ => cases h
theorem ep_ix {a b : Expr} {f g : EX} {pos : Pos} {p : PyData → PyData → Option PyData} (hp : IxE X p) (ha : EP X a f) (hb : EP X b g) (hs : PlainIx b := by exact fun _ _ => rfl) : EP X (.Subscript a b pos) (eOp p f g) := by
  obtain ⟨r, h1, h2⟩ := hp
  obtain ⟨ta, a1, a2⟩ := ha
  obtain ⟨tb, b1, b2⟩ := hb
  exact ⟨_, pe_ix h1 a1 b1 hs, ev_op h2 a2 b2⟩
/-- x[k], x a name: a list of one's own stays one's own -/
def eIxV (i : Nat) (g : EX) : EX := fun Γ => match (Γ[i]? : Option Slot) with
  | some .no => none
  | none => none
  | some _ => (g Γ).bind fun y => match (y.2[i]? : Option Slot) with
    | some (.val d) => (pIx d y.1).bind fun z => some (z, y.2)
    | some (.own ds) => (pIx (.list ds) y.1).bind fun z => some (z, y.2)
    | some (.par ds) => (pIx (.list ds) y.1).bind fun z => some (z, y.2)
    | _ => none
theorem ep_ixV {b : Expr} {g : EX} {pos px : Pos} {x : Str} {i : Nat} (hb : EP X b g) (hN : X.N[i]? = some x := by rfl) (hv : Vis X.env.scope x := by first | exact Or.inl rfl | exact Or.inr (Or.inl rfl) | exact Or.inr (Or.inr rfl)) (hd : (x == ("__debug__" : Str)) = false := by decide)
    (hcd : (x == ("__classdict__" : Str)) = false := by decide) (hs : PlainIx b := by exact fun _ _ => rfl) : EP X (.Subscript (.Name x px) b pos) (eIxV i g) := by
  obtain ⟨tb, b1, b2⟩ := hb
  obtain ⟨r, h1, h2⟩ := (i_ix : IxE X pIx)
  refine ⟨_, pe_ix (ix_list.or ix_tup) (pe_var hN hv hd hcd) b1 hs, ?_⟩
  clear h1 h2 r
  intro B Γ F σ H z Γ' R h Q q
  unfold eIxV at h
  -- the slot holds something
  have hv : ∃ v, σ[i]? = some (some v) := by
    cases e : Γ[i]? with
    | none => simp only [e] at h; cases h
    | some s =>
      have w := R.slot i s e
      cases s with
      | no => simp only [e] at h; cases h
      | val d => obtain ⟨v, e1, _⟩ := w; exact ⟨v, e1⟩
      | own ds => obtain ⟨a, vs, e1, _⟩ := w; exact ⟨_, e1⟩
      | par ds => obtain ⟨a, vs, e1, _⟩ := w; exact ⟨_, e1⟩
  have h' : (g Γ).bind (fun y => match (y.2[i]? : Option Slot) with
    | some (.val d) => (pIx d y.1).bind fun z => some (z, y.2)
    | some (.own ds) => (pIx (.list ds) y.1).bind fun z => some (z, y.2)
    | some (.par ds) => (pIx (.list ds) y.1).bind fun z => some (z, y.2)
    | _ => none) = some (z, Γ') := by
    cases e : Γ[i]? with
    | none => simp only [e] at h; cases h
    | some s => cases s <;> simp only [e] at h <;> first | exact h | cases h
  obtain ⟨v, ev⟩ := hv
  refine ⟨v, ev, ?_⟩
  obtain ⟨⟨y, Γ1⟩, e1, h⟩ := bind_eq h'
  refine b2 B Γ F σ H y Γ1 R e1 _ fun u F1 H1 x1 R1 d1 => ?_
  cases e2 : Γ1[i]? with
  | none => simp only [e2] at h; cases h
  | some s =>
    have w := R1.slot i s e2
    cases s with
    | no => simp only [e2] at h; cases h
    | val d =>
      simp only [e2] at h
      obtain ⟨z', h3, h⟩ := bind_eq h
      cases h
      obtain ⟨v', ev', dv⟩ := w
      rw [ev] at ev'; cases ev'
      unfold pIx at h3
      cases y with
      | int k =>
        obtain ⟨xs, hs', h5⟩ := bind_eq h3
        obtain ⟨j, hj, h4⟩ := bind_eq h5
        have := dp_int d1
        subst this
        cases d with
        | list ys =>
          cases hs'
          obtain ⟨a, vs, rfl, g1, g2⟩ := dp_list dv
          obtain ⟨v, w1, w2⟩ := atI_of g2 hj h4
          exact .inl ⟨a, vs, k, v, rfl, rfl, ex_l R1.ext g1, w1, q _ F1 H1 x1 R1 w2⟩
        | tuple ys =>
          cases hs'
          obtain ⟨a, vs, rfl, g1, g2⟩ := dp_tup dv
          obtain ⟨v, w1, w2⟩ := atI_of g2 hj h4
          exact .inr ⟨a, vs, k, v, rfl, rfl, ex_t R1.ext g1, w1, q _ F1 H1 x1 R1 w2⟩
        | _ => cases hs'
      | _ => cases h3
    | own ds =>
      simp only [e2] at h
      obtain ⟨z', h3, h⟩ := bind_eq h
      cases h
      obtain ⟨a, vs, ev', g1, g2, g3, g4⟩ := w
      rw [ev] at ev'; cases ev'
      unfold pIx at h3
      cases y with
      | int k =>
        obtain ⟨xs, hs', h5⟩ := bind_eq h3
        obtain ⟨j, hj, h4⟩ := bind_eq h5
        have := dp_int d1
        subst this
        cases hs'
        obtain ⟨v, w1, w2⟩ := atI_of g4 hj h4
        exact .inl ⟨a, vs, k, v, rfl, rfl, sq_of g3, w1, q _ F1 H1 x1 R1 w2⟩
      | _ => cases h3
    | par ds =>
      simp only [e2] at h
      obtain ⟨z', h3, h⟩ := bind_eq h
      cases h
      obtain ⟨a, vs, ev', g1, g2, g3, g4⟩ := w
      rw [ev] at ev'; cases ev'
      unfold pIx at h3
      cases y with
      | int k =>
        obtain ⟨xs, hs', h5⟩ := bind_eq h3
        obtain ⟨j, hj, h4⟩ := bind_eq h5
        have := dp_int d1
        subst this
        cases hs'
        obtain ⟨v, w1, w2⟩ := atI_of g4 hj h4
        exact .inl ⟨a, vs, k, v, rfl, rfl, sq_of g3, w1, q _ F1 H1 x1 R1 w2⟩
      | _ => cases h3

/-! slices -/
abbrev OX := Env → Option (Option Int × Env)
def oNone : OX := fun Γ => some (none, Γ)
def oSome (f : EX) : OX := fun Γ => (f Γ).bind fun x => match x.1 with
  | .int i => some (some i, x.2)
  | _ => none
def EvO (K : PySem.W.Frag) (to : TO) (o : OX) : Prop := ∀ (B : Bs) (Γ : Env) (F : Hp) (σ : L2.St) (H : Hp) (r : Option Int) (Γ' : Env), Rel K B Γ F σ H → o Γ = some (r, Γ') →
  ∀ Q : Option Int → Hp → Prop, (∀ F' H', Ex F F' → Rel K B Γ' F' σ H' → Q r H') → to σ H Q
def OP (X : Cx) (e : Option Expr) (o : OX) : Prop := ∃ to, PO X e to ∧ EvO X.K to o
theorem opt_none : OP X none oNone := ⟨_, po_none, fun B Γ F σ H r Γ' R e Q q => by cases e; exact q F H (Ex.refl F) R⟩
theorem opt_some {e : Expr} {f : EX} (h : EP X e f) : OP X (some e) (oSome f) := by
  obtain ⟨te, h1, h2⟩ := h
  refine ⟨_, po_some h1, ?_⟩
  intro B Γ F σ H r Γ' R e Q q
  obtain ⟨⟨x, Γ1⟩, e1, e⟩ := bind_eq e
  refine h2 B Γ F σ H x Γ1 R e1 _ fun v F' H' ex R' d => ?_
  cases d with
  | int i => cases e; exact ⟨i, rfl, q F' H' ex R'⟩
  | _ => cases e
def eSl (p : PyData → Option Int → Option Int → Option PyData) (f : EX) (l u : OX) : EX := fun Γ => (f Γ).bind fun x => (l x.2).bind fun a => (u a.2).bind fun b => (p x.1 a.1 b.1).bind fun z => some (z, b.2)
theorem ep_slice {e : Expr} {lo hi : Option Expr} {f : EX} {l u : OX} {p : PyData → Option Int → Option Int → Option PyData} {p2 pos : Pos} (hp : SlE X p) (he : EP X e f) (hl : OP X lo l) (hu : OP X hi u) : EP X (.Subscript e (.Slice lo hi none p2) pos) (eSl p f l u) := by
  obtain ⟨r, h1, h2⟩ := hp
  obtain ⟨te, a1, a2⟩ := he
  obtain ⟨tl, l1, l2⟩ := hl
  obtain ⟨tu, u1, u2⟩ := hu
  refine ⟨_, pe_slice h1 a1 l1 u1, ?_⟩
  intro B Γ F σ H z Γ' R h Q q
  obtain ⟨⟨x, Γ1⟩, e1, h⟩ := bind_eq h
  obtain ⟨⟨a, Γ2⟩, e2, h⟩ := bind_eq h
  obtain ⟨⟨b, Γ3⟩, e3, h⟩ := bind_eq h
  obtain ⟨z', e4, h⟩ := bind_eq h
  cases h
  refine a2 B Γ F σ H x Γ1 R e1 _ fun v F1 H1 x1 R1 d1 => ?_
  refine l2 B Γ1 F1 σ H1 a Γ2 R1 e2 _ fun F2 H2 x2 R2 => ?_
  refine u2 B Γ2 F2 σ H2 b Γ3 R2 e3 _ fun F3 H3 x3 R3 => ?_
  exact h2 F3 H3 v x z a b R3.ext R3.pl (dp_mono (x2.trans x3) d1) e4 Q fun w F4 H4 gr d4 => q w F4 H4 (((x1.trans x2).trans x3).trans gr.ext) (R3.grow gr) d4
theorem s_sl : SlE X pSl := by
  refine ⟨_, sl_list.or sl_tupA, ?_⟩
  intro F H x d z lo hi ex pl dx h Q q
  have cut : ∀ {vs : List V} {ds : List PyData}, DpAll X.K F vs ds → DpAll X.K F (cutV vs lo hi) (cutD ds lo hi) := fun {vs ds} h => by
    unfold cutV cutD
    rw [dpa_len h]
    exact dpa_take _ (dpa_drop _ h)
  cases d with
  | list ys =>
    cases h
    obtain ⟨a, vs, rfl, h1, h2⟩ := dp_list dx
    refine .inl ⟨a, vs, rfl, ex_l ex h1, fun p hp => ?_⟩
    have gr := Grow.laid (o := .lst (cutV vs lo hi)) ex hp
    exact q _ _ _ gr (.lst (sq_of upd_same) (dpa_mono gr.ext (cut h2)))
  | tuple ys =>
    cases h
    obtain ⟨a, vs, rfl, h1, h2⟩ := dp_tup dx
    refine .inr ⟨a, vs, rfl, ex_t ex h1, fun hw => ?_, fun _ p hp => ?_⟩
    · have e : cutD ys lo hi = ys := by
        unfold cutD
        rw [dpa_len h2] at hw
        rw [hw.1, hw.2]
        simp
      rw [e] at q
      exact q _ F H (Grow.refl ex) (.tup h1 h2)
    · have gr := Grow.laid (o := .tup (cutV vs lo hi)) ex hp
      exact q _ _ _ gr (.tup (st_of upd_same) (dpa_mono gr.ext (cut h2)))
  | _ => cases h
def pRev : PyData → Option PyData
  | .list xs => some (.list xs.reverse)
  | .tuple xs => some (.tuple xs.reverse)
  | _ => none
theorem ep_rev {e : Expr} {f : EX} {k : Nat} {p1 p2 p3 pos : Pos} (he : EP X e f) : EP X (.Subscript e (.Slice none none (some (.UnaryOp .USub (.Constant (.int 1) k p1) p2)) p3) pos) (eUn pRev f) := by
  obtain ⟨te, h1, h2⟩ := he
  refine ⟨_, pe_revX h1, ?_⟩
  intro B Γ F σ H z Γ' R h Q q
  obtain ⟨⟨x, Γ1⟩, e1, h⟩ := bind_eq h
  obtain ⟨z', e2, h⟩ := bind_eq h
  cases h
  refine h2 B Γ F σ H x Γ1 R e1 _ fun v F1 H1 x1 R1 d1 => ?_
  cases x with
  | list ys =>
    cases e2
    obtain ⟨a, vs, rfl, g1, g2⟩ := dp_list d1
    refine ⟨a, vs, rfl, .inl ⟨ex_l R1.ext g1, fun p hp => ?_⟩⟩
    have gr := Grow.laid (o := .lst vs.reverse) R1.ext hp
    exact q _ _ _ (x1.trans gr.ext) (R1.grow gr) (.lst (sq_of upd_same) (dpa_mono gr.ext (dpa_rev g2)))
  | tuple ys =>
    cases e2
    obtain ⟨a, vs, rfl, g1, g2⟩ := dp_tup d1
    refine ⟨a, vs, rfl, .inr ⟨ex_t R1.ext g1, fun p hp => ?_⟩⟩
    have gr := Grow.laid (o := .tup vs.reverse) R1.ext hp
    exact q _ _ _ (x1.trans gr.ext) (R1.grow gr) (.tup (st_of upd_same) (dpa_mono gr.ext (dpa_rev g2)))
  | _ => cases e2
end
end Z
set_option Elab.async false
set_option linter.all false
set_option maxRecDepth 100000
set_option maxHeartbeats 2000000
/-! Z: built-in calls, isinstance, what a loop walks -/
namespace Z
open PySem L2 Evl PyProof.Rows

/-! ### sorting ints -/
def ins (x : Int) : List Int → List Int
  | [] => [x]
  | y :: r => if x ≤ y then x :: y :: r else y :: ins x r
def srt : List Int → List Int
  | [] => []
  | x :: r => ins x (srt r)
theorem ins_perm (x : Int) : ∀ l : List Int, (ins x l).Perm (x :: l)
  | [] => .refl _
  | y :: r => by
    unfold ins
    split
    · exact .refl _
    · exact .trans (.cons y (ins_perm x r)) (.swap x y r)
theorem srt_perm : ∀ l : List Int, (srt l).Perm l
  | [] => .refl _
  | x :: r => (ins_perm x (srt r)).trans (.cons x (srt_perm r))
theorem ins_sorted (x : Int) : ∀ {l : List Int}, l.Pairwise (· ≤ ·) → (ins x l).Pairwise (· ≤ ·)
  | [], _ => by unfold ins; exact List.pairwise_singleton _ _
  | y :: r, h => by
    unfold ins
    have h1 := List.pairwise_cons.mp h
    split
    · rename_i hxy
      exact List.pairwise_cons.mpr ⟨fun z hz => by
        rcases List.mem_cons.mp hz with e | hz
        · subst e; exact hxy
        · exact Int.le_trans hxy (h1.1 z hz), h⟩
    · rename_i hxy
      refine List.pairwise_cons.mpr ⟨fun z hz => ?_, ins_sorted x h1.2⟩
      rcases List.mem_cons.mp ((ins_perm x r).mem_iff.mp hz) with e | hz
      · subst e; omega
      · exact h1.1 z hz
theorem srt_sorted : ∀ l : List Int, (srt l).Pairwise (· ≤ ·)
  | [] => .nil
  | x :: r => ins_sorted x (srt_sorted r)
theorem sorted_unique : ∀ {l m : List Int}, l.Pairwise (· ≤ ·) → m.Pairwise (· ≤ ·) → l.Perm m → l = m
  | [], m, _, _, p => (List.Perm.nil_eq p)
  | x :: l, [], _, _, p => by have := p.length_eq; simp at this
  | x :: l, y :: m, h1, h2, p => by
    have a1 := List.pairwise_cons.mp h1
    have a2 := List.pairwise_cons.mp h2
    have e : x = y := by
      have m1 : x ∈ y :: m := p.mem_iff.mp List.mem_cons_self
      have m2 : y ∈ x :: l := p.mem_iff.mpr List.mem_cons_self
      rcases List.mem_cons.mp m1 with e | m1
      · exact e
      · rcases List.mem_cons.mp m2 with e | m2
        · exact e.symm
        · have := a1.1 y m2; have := a2.1 x m1; omega
    subst e
    rw [sorted_unique a1.2 a2.2 (List.Perm.cons_inv p)]
theorem srt_unique {l m : List Int} (p : m.Perm l) (s : m.Pairwise (· ≤ ·)) : m = srt l := sorted_unique s (srt_sorted l) (p.trans (srt_perm l).symm)

def intsOf : List PyData → Option (List Int)
  | [] => some []
  | .int i :: r => (intsOf r).bind fun ns => some (i :: ns)
  | _ :: _ => none
theorem intsOf_map (ns : List Int) : intsOf (ns.map PyData.int) = some ns := by
  induction ns with
  | nil => rfl
  | cons n r ih => simp [intsOf, ih]
theorem intsOf_eq : ∀ {ds : List PyData} {ns : List Int}, intsOf ds = some ns → ds = ns.map PyData.int
  | [], ns, h => by cases h; rfl
  | .int i :: r, ns, h => by
    obtain ⟨ms, h1, h⟩ := bind_eq h
    cases h
    rw [intsOf_eq h1]; rfl
  | .none :: _, _, h => by cases h
  | .bool _ :: _, _, h => by cases h
  | .str _ :: _, _, h => by cases h
  | .list _ :: _, _, h => by cases h
  | .tuple _ :: _, _, h => by cases h
  | .dict _ :: _, _, h => by cases h

def pLen : List PyData → Option PyData
  | [.list xs] => some (.int xs.length)
  | [.tuple xs] => some (.int xs.length)
  | _ => none
def pSorted : List PyData → Option PyData
  | [d] => (seqOf d).bind fun xs => (intsOf xs).bind fun ns => some (.list ((srt ns).map .int))
  | _ => none
def pSum : List PyData → Option PyData
  | [.list xs] => (intsOf xs).bind fun ns => some (.int ns.sum)
  | _ => none
def pMax2 : List PyData → Option PyData
  | [.int i, .int j] => some (.int (if j > i then j else i))
  | _ => none
def pMin2 : List PyData → Option PyData
  | [.int i, .int j] => some (.int (if j < i then j else i))
  | _ => none
def maxI : List Int → Int
  | [] => 0
  | [x] => x
  | x :: y :: r => max x (maxI (y :: r))
def minI : List Int → Int
  | [] => 0
  | [x] => x
  | x :: y :: r => min x (minI (y :: r))
theorem maxI_spec : ∀ {l : List Int}, l ≠ [] → maxI l ∈ l ∧ ∀ y ∈ l, y ≤ maxI l
  | [x], _ => ⟨by simp [maxI], fun y h => by simp at h; subst h; exact Int.le_refl _⟩
  | x :: y :: r, _ => by
    obtain ⟨h1, h2⟩ := maxI_spec (l := y :: r) (by simp)
    unfold maxI
    refine ⟨?_, fun z hz => ?_⟩
    · by_cases h : x ≤ maxI (y :: r)
      · rw [Int.max_eq_right h]; exact List.mem_cons_of_mem _ h1
      · rw [Int.max_eq_left (by omega)]; exact List.mem_cons_self
    · rcases List.mem_cons.mp hz with e | hz
      · subst e; omega
      · have := h2 z hz; omega
theorem minI_spec : ∀ {l : List Int}, l ≠ [] → minI l ∈ l ∧ ∀ y ∈ l, minI l ≤ y
  | [x], _ => ⟨by simp [minI], fun y h => by simp at h; subst h; exact Int.le_refl _⟩
  | x :: y :: r, _ => by
    obtain ⟨h1, h2⟩ := minI_spec (l := y :: r) (by simp)
    unfold minI
    refine ⟨?_, fun z hz => ?_⟩
    · by_cases h : minI (y :: r) ≤ x
      · rw [Int.min_eq_right h]; exact List.mem_cons_of_mem _ h1
      · rw [Int.min_eq_left (by omega)]; exact List.mem_cons_self
    · rcases List.mem_cons.mp hz with e | hz
      · subst e; omega
      · have := h2 z hz; omega
def pMax1 : List PyData → Option PyData
  | [.list xs] => (intsOf xs).bind fun ns => if ns.length = 0 then none else some (.int (maxI ns))
  | _ => none
def pMin1 : List PyData → Option PyData
  | [.list xs] => (intsOf xs).bind fun ns => if ns.length = 0 then none else some (.int (minI ns))
  | _ => none
def pInt : List PyData → Option PyData
  | [.int i] => some (.int i)
  | [.bool c] => some (.int (if c then 1 else 0))
  | _ => none
def pAbs : List PyData → Option PyData
  | [.int i] => some (.int (if i < 0 then -i else i))
  | _ => none
def pTuple : List PyData → Option PyData
  | [.list xs] => some (.tuple xs)
  | [.tuple xs] => some (.tuple xs)
  | _ => none
def pList : List PyData → Option PyData
  | [.list xs] => some (.list xs)
  | [.tuple xs] => some (.list xs)
  | _ => none
section
variable {X : Cx}
theorem dpa1 {K : PySem.W.Frag} {F : Hp} {vs : List V} {d : PyData} (h : DpAll K F vs [d]) : ∃ v, vs = [v] ∧ Dp K F v d := by
  cases h with | cons h1 h2 => cases h2; exact ⟨_, rfl, h1⟩
theorem dpa2 {K : PySem.W.Frag} {F : Hp} {vs : List V} {d e : PyData} (h : DpAll K F vs [d, e]) : ∃ v w, vs = [v, w] ∧ Dp K F v d ∧ Dp K F w e := by
  cases h with | cons h1 h2 => obtain ⟨w, rfl, h3⟩ := dpa1 h2; exact ⟨_, _, rfl, h1, h3⟩
theorem b_len : CallE X (.builtin "len") pLen := by
  refine ⟨_, call_len_seq, ?_⟩
  intro F H xs ds z ex pl hd h Q q
  unfold pLen at h
  split at h
  · cases h
    obtain ⟨v, rfl, d1⟩ := dpa1 hd
    obtain ⟨a, vs, rfl, h1, h2⟩ := dp_list d1
    refine ⟨a, vs, rfl, .inl (ex_l ex h1), ?_⟩
    rw [dpa_len h2]
    exact q _ F H (Grow.refl ex) (.int _)
  · cases h
    obtain ⟨v, rfl, d1⟩ := dpa1 hd
    obtain ⟨a, vs, rfl, h1, h2⟩ := dp_tup d1
    refine ⟨a, vs, rfl, .inr (ex_t ex h1), ?_⟩
    rw [dpa_len h2]
    exact q _ F H (Grow.refl ex) (.int _)
  · cases h
theorem b_sorted : CallE X (.builtin "sorted") pSorted := by
  refine ⟨_, cr_srt, ?_⟩
  intro F H xs ds z ex pl hd h Q q
  unfold pSorted at h
  split at h
  · rename_i d
    obtain ⟨v, rfl, d1⟩ := dpa1 hd
    obtain ⟨ys, hs, h1⟩ := bind_eq h
    obtain ⟨ns, hn, h2⟩ := bind_eq h1
    cases h2
    clear h h1
    have fin : ∀ a, v = .ref a → (SqL X.K H a (ns.map V.int) ∨ SqT X.K H a (ns.map V.int)) → rSrt X.K [v] H Q := fun a e hq => by
      subst e
      refine ⟨a, ns, rfl, hq, fun ns' p p1 p2 hp => ?_⟩
      have e := srt_unique p1 p2
      subst e
      have gr := Grow.laid (o := .lst ((srt ns).map V.int)) ex hp
      exact q _ _ _ gr (.lst (sq_of upd_same) (dpa_ints _))
    have ey := intsOf_eq hn
    subst ey
    cases d with
    | list _ =>
      cases hs
      obtain ⟨a, vs, rfl, h1, h2⟩ := dp_list d1
      rw [dpa_ints_of h2] at h1
      exact fin a rfl (.inl (ex_l ex h1))
    | tuple _ =>
      cases hs
      obtain ⟨a, vs, rfl, h1, h2⟩ := dp_tup d1
      rw [dpa_ints_of h2] at h1
      exact fin a rfl (.inr (ex_t ex h1))
    | _ => cases hs
  · cases h
theorem b_sum (hc : X.calm = true) : CallE X (.builtin "sum") pSum := by
  refine ⟨_, cr_sum hc, ?_⟩
  intro F H xs ds z ex pl hd h Q q
  unfold pSum at h
  split at h
  · obtain ⟨v, rfl, d1⟩ := dpa1 hd
    obtain ⟨ns, hn, h⟩ := bind_eq h
    cases h
    have ey := intsOf_eq hn
    subst ey
    obtain ⟨a, vs, rfl, h1, h2⟩ := dp_list d1
    rw [dpa_ints_of h2] at h1
    exact ⟨a, ns, rfl, ex_l ex h1, q _ F H (Grow.refl ex) (.int _)⟩
  · cases h
theorem b_max2 (hc : X.calm = true) : CallE X (.builtin "max") pMax2 := by
  refine ⟨_, call_max2 hc, ?_⟩
  intro F H xs ds z ex pl hd h Q q
  unfold pMax2 at h
  split at h
  · cases h
    obtain ⟨v, w, rfl, d1, d2⟩ := dpa2 hd
    exact ⟨_, _, by rw [dp_int d1, dp_int d2], q _ F H (Grow.refl ex) (.int _)⟩
  · cases h
theorem b_min2 (hc : X.calm = true) : CallE X (.builtin "min") pMin2 := by
  refine ⟨_, call_min2 hc, ?_⟩
  intro F H xs ds z ex pl hd h Q q
  unfold pMin2 at h
  split at h
  · cases h
    obtain ⟨v, w, rfl, d1, d2⟩ := dpa2 hd
    exact ⟨_, _, by rw [dp_int d1, dp_int d2], q _ F H (Grow.refl ex) (.int _)⟩
  · cases h
theorem b_max1 (hc : X.calm = true) : CallE X (.builtin "max") pMax1 := by
  refine ⟨_, cr_max hc, ?_⟩
  intro F H xs ds z ex pl hd h Q q
  unfold pMax1 at h
  split at h
  · obtain ⟨v, rfl, d1⟩ := dpa1 hd
    obtain ⟨ns, hn, h⟩ := bind_eq h
    split at h
    · cases h
    · rename_i hl
      cases h
      have ey := intsOf_eq hn
      subst ey
      obtain ⟨a, vs, rfl, h1, h2⟩ := dp_list d1
      rw [dpa_ints_of h2] at h1
      have hne : ns ≠ [] := fun e => hl (by rw [e]; rfl)
      obtain ⟨g1, g2⟩ := maxI_spec hne
      refine ⟨a, ns, rfl, ex_l ex h1, by omega, fun m hm hle => ?_⟩
      have : m = maxI ns := by have := hle _ g1; have := g2 _ hm; omega
      subst this
      exact q _ F H (Grow.refl ex) (.int _)
  · cases h
theorem b_min1 (hc : X.calm = true) : CallE X (.builtin "min") pMin1 := by
  refine ⟨_, cr_min hc, ?_⟩
  intro F H xs ds z ex pl hd h Q q
  unfold pMin1 at h
  split at h
  · obtain ⟨v, rfl, d1⟩ := dpa1 hd
    obtain ⟨ns, hn, h⟩ := bind_eq h
    split at h
    · cases h
    · rename_i hl
      cases h
      have ey := intsOf_eq hn
      subst ey
      obtain ⟨a, vs, rfl, h1, h2⟩ := dp_list d1
      rw [dpa_ints_of h2] at h1
      have hne : ns ≠ [] := fun e => hl (by rw [e]; rfl)
      obtain ⟨g1, g2⟩ := minI_spec hne
      refine ⟨a, ns, rfl, ex_l ex h1, by omega, fun m hm hle => ?_⟩
      have : m = minI ns := by have := hle _ g1; have := g2 _ hm; omega
      subst this
      exact q _ F H (Grow.refl ex) (.int _)
  · cases h
theorem b_int : CallE X (.type "int") pInt := by
  refine ⟨_, call_int1, ?_⟩
  intro F H xs ds z ex pl hd h Q q
  unfold pInt at h
  split at h
  · cases h
    obtain ⟨v, rfl, d1⟩ := dpa1 hd
    exact .inl ⟨_, by rw [dp_int d1], q _ F H (Grow.refl ex) (.int _)⟩
  · cases h
    obtain ⟨v, rfl, d1⟩ := dpa1 hd
    cases d1
    exact .inr ⟨_, rfl, q _ F H (Grow.refl ex) (.int _)⟩
  · cases h
theorem b_abs : CallE X (.builtin "abs") pAbs := by
  refine ⟨_, call_abs, ?_⟩
  intro F H xs ds z ex pl hd h Q q
  unfold pAbs at h
  split at h
  · cases h
    obtain ⟨v, rfl, d1⟩ := dpa1 hd
    exact ⟨_, by rw [dp_int d1], q _ F H (Grow.refl ex) (.int _)⟩
  · cases h
theorem b_tuple : CallE X (.type "tuple") pTuple := by
  refine ⟨_, call_tuple_of, ?_⟩
  intro F H xs ds z ex pl hd h Q q
  unfold pTuple at h
  split at h
  · cases h
    obtain ⟨v, rfl, d1⟩ := dpa1 hd
    obtain ⟨a, vs, rfl, h1, h2⟩ := dp_list d1
    refine ⟨a, vs, rfl, .inl ⟨ex_l ex h1, fun p hp => ?_⟩⟩
    have gr := Grow.laid (o := .tup vs) ex hp
    exact q _ _ _ gr (.tup (st_of upd_same) (dpa_mono gr.ext h2))
  · cases h
    obtain ⟨v, rfl, d1⟩ := dpa1 hd
    obtain ⟨a, vs, rfl, h1, h2⟩ := dp_tup d1
    exact ⟨a, vs, rfl, .inr ⟨ex_t ex h1, q _ F H (Grow.refl ex) (.tup h1 h2)⟩⟩
  · cases h
theorem b_list : CallE X (.type "list") pList := by
  refine ⟨_, call_list_of, ?_⟩
  intro F H xs ds z ex pl hd h Q q
  unfold pList at h
  split at h
  · cases h
    obtain ⟨v, rfl, d1⟩ := dpa1 hd
    obtain ⟨a, vs, rfl, h1, h2⟩ := dp_list d1
    refine ⟨a, vs, rfl, .inl (ex_l ex h1), fun p hp => ?_⟩
    have gr := Grow.laid (o := .lst vs) ex hp
    exact q _ _ _ gr (.lst (sq_of upd_same) (dpa_mono gr.ext h2))
  · cases h
    obtain ⟨v, rfl, d1⟩ := dpa1 hd
    obtain ⟨a, vs, rfl, h1, h2⟩ := dp_tup d1
    refine ⟨a, vs, rfl, .inr (ex_t ex h1), fun p hp => ?_⟩
    have gr := Grow.laid (o := .lst vs) ex hp
    exact q _ _ _ gr (.lst (sq_of upd_same) (dpa_mono gr.ext h2))
  · cases h
/-- len(x), x a name: a list of one's own stays one's own -/
def eLenV (i : Nat) : EX := fun Γ => match (Γ[i]? : Option Slot) with
  | some (.val d) => (pLen [d]).bind fun z => some (z, Γ)
  | some (.own ds) => some (.int ds.length, Γ)
  | some (.par ds) => some (.int ds.length, Γ)
  | _ => none
theorem ep_lenV {x : Str} {px pp pos : Pos} {i : Nat} (hm : X.mg "len" = none) (hN : X.N[i]? = some x := by rfl) (hv : Vis X.env.scope x := by first | exact Or.inl rfl | exact Or.inr (Or.inl rfl) | exact Or.inr (Or.inr rfl)) (hd : (x == ("__debug__" : Str)) = false := by decide)
    (hcd : (x == ("__classdict__" : Str)) = false := by decide) (hg : Gl X "len" := by rfl)
    (he : starEach [.Name x px] X.env = (false, eval (.Name x px) X.env) :: starEach [] X.env := by rfl) (hpl : (backTo pos (starEach [] X.env)).any (·.1) = false := by rfl) : EP X (.Call (.Name "len" pp) [.Name x px] [] pos) (eLenV i) := by
  refine ⟨_, pe_callB call_len_seq hg hm PySem.boot_len (pa_cons (pe_var hN hv hd hcd) pa_nil he) (by decide) (by decide) he hpl, ?_⟩
  intro B Γ F σ H z Γ' R h Q q
  unfold eLenV at h
  cases e : Γ[i]? with
  | none => simp only [e] at h; cases h
  | some s =>
    have w := R.slot i s e
    cases s with
    | no => simp only [e] at h; cases h
    | val d =>
      simp only [e] at h
      obtain ⟨z', h1, h⟩ := bind_eq h
      cases h
      obtain ⟨v, ev, dv⟩ := w
      refine ⟨v, ev, ?_⟩
      cases d with
      | list xs =>
        cases h1
        obtain ⟨a, vs, rfl, g1, g2⟩ := dp_list dv
        refine ⟨a, vs, rfl, .inl (ex_l R.ext g1), ?_⟩
        rw [dpa_len g2]
        exact q _ F H (Ex.refl F) R (.int _)
      | tuple xs =>
        cases h1
        obtain ⟨a, vs, rfl, g1, g2⟩ := dp_tup dv
        refine ⟨a, vs, rfl, .inr (ex_t R.ext g1), ?_⟩
        rw [dpa_len g2]
        exact q _ F H (Ex.refl F) R (.int _)
      | _ => cases h1
    | own ds =>
      simp only [e] at h
      cases h
      obtain ⟨a, vs, ev, g1, g2, g3, g4⟩ := w
      refine ⟨.ref a, ev, a, vs, rfl, .inl (sq_of g3), ?_⟩
      rw [dpa_len g4]
      exact q _ F H (Ex.refl F) R (.int _)
    | par ds =>
      simp only [e] at h
      cases h
      obtain ⟨a, vs, ev, g1, g2, g3, g4⟩ := w
      refine ⟨.ref a, ev, a, vs, rfl, .inl (sq_of g3), ?_⟩
      rw [dpa_len g4]
      exact q _ F H (Ex.refl F) R (.int _)

/-! ### isinstance -/
def tyD : PyData → String
  | .none => "NoneType"
  | .bool _ => "bool"
  | .int _ => "int"
  | .str _ => "str"
  | .list _ => "list"
  | .tuple _ => "tuple"
  | .dict _ => "dict"
def isiD (T : String) (d : PyData) : Option Bool := kitB (tyD d) T
theorem ty_of {K : PySem.W.Frag} {F H : Hp} {v : V} {d : PyData} (ex : Ex F H) (pl : Pl F) (h : Dp K F v d) : TyX K H v (.type (tyD d)) := by
  cases h with
  | non => exact .base .non
  | bl b => exact .base (.bl b)
  | int i => exact .base (.int i)
  | str x => exact .base (.str x)
  | lst h1 h2 =>
    rename_i a _ _
    rcases h1 with (h1 | ⟨o, h1⟩) | ⟨o, its, n, h1, h3, _⟩
    · exact .base (.lst (ex _ _ h1))
    · exact .base (.frz (ex _ _ h1))
    · exact .kList h1 h3
  | tup h1 h2 =>
    rename_i a _ _
    rcases h1 with (h1 | ⟨o, h1⟩) | ⟨o, its, n, h1, h3, _⟩
    · exact .base (.tup (ex _ _ h1))
    · exact (pl _ _ h1).elim
    · exact .kTuple h1 h3
def pIsi (T : String) : PyData → Option PyData := fun d => (isiD T d).bind fun b => some (.bool b)
theorem ep_isi {e : Expr} {f : EX} {pp pt pos : Pos} {x : Str} {T : String} (hm : X.mg "isinstance" = none) (hmT : X.mg x = none) (hbT : bootBuiltins x = some (.type T)) (he : EP X e f) (hg : Gl X "isinstance" := by rfl) (hgT : Gl X x := by rfl) (hn : x ≠ "__name__" := by decide) (hdb : (x == ("__debug__" : Str)) = false := by decide)
    (hs : starEach [e, .Name x pt] X.env = (false, eval e X.env) :: starEach [.Name x pt] X.env := by rfl) (hs2 : starEach [.Name x pt] X.env = (false, eval (.Name x pt) X.env) :: starEach [] X.env := by rfl) (hpl : (backTo pos (starEach [.Name x pt] X.env)).any (·.1) = false := by rfl) :
    EP X (.Call (.Name "isinstance" pp) [e, .Name x pt] [] pos) (eUn (pIsi T) f) := by
  obtain ⟨te, h1, h2⟩ := he
  refine ⟨_, pe_callB call_isi hg hm boot_isinstance (pa_cons h1 (pa_cons (pe_bltn (v := .ty T) hgT hmT hbT rfl hn hdb) pa_nil hs2) hs) (by decide) (by decide) hs hpl, ?_⟩
  intro B Γ F σ H z Γ' R h Q q
  obtain ⟨⟨d, Γ1⟩, e1, h⟩ := bind_eq h
  obtain ⟨z', e2, h⟩ := bind_eq h
  cases h
  obtain ⟨b, e3, e2⟩ := bind_eq e2
  cases e2
  refine h2 B Γ F σ H d Γ1 R e1 _ fun v F1 H1 x1 R1 d1 => ?_
  exact ⟨v, .ty T, _, _, b, rfl, .ty T, ty_of R1.ext R1.pl d1, kit_ty e3, q _ F1 H1 x1 R1 (.bl b)⟩
/-- isinstance(e, (T, U)) -/
def pIsi2 (T U : String) : PyData → Option PyData := fun d => (isiD T d).bind fun b => (isiD U d).bind fun c => some (.bool (b || c))
theorem ep_isi2 {e : Expr} {f : EX} {pp pt pu ptt pos : Pos} {x y : Str} {T U : String} {kk} (hm : X.mg "isinstance" = none) (hmT : X.mg x = none) (hbT : bootBuiltins x = some (.type T)) (hmU : X.mg y = none) (hbU : bootBuiltins y = some (.type U)) (he : EP X e f) (hg : Gl X "isinstance" := by rfl) (hgT : Gl X x := by rfl) (hn : x ≠ "__name__" := by decide) (hdb : (x == ("__debug__" : Str)) = false := by decide)
    (hgU : Gl X y := by rfl) (hnU : y ≠ "__name__" := by decide) (hdbU : (y == ("__debug__" : Str)) = false := by decide)
    (hs : starEach [e, .Tuple [.Name x pt, .Name y pu] kk ptt] X.env = (false, eval e X.env) :: starEach [.Tuple [.Name x pt, .Name y pu] kk ptt] X.env := by rfl) (hs2 : starEach [.Tuple [.Name x pt, .Name y pu] kk ptt] X.env = (false, eval (.Tuple [.Name x pt, .Name y pu] kk ptt) X.env) :: starEach [] X.env := by rfl) (hpl : (backTo pos (starEach [.Tuple [.Name x pt, .Name y pu] kk ptt] X.env)).any (·.1) = false := by rfl)
    (hz : starEach [.Name x pt, .Name y pu] X.env = (false, eval (.Name x pt) X.env) :: starEach [.Name y pu] X.env := by rfl) (hz2 : starEach [.Name y pu] X.env = (false, eval (.Name y pu) X.env) :: starEach [] X.env := by rfl) :
    EP X (.Call (.Name "isinstance" pp) [e, .Tuple [.Name x pt, .Name y pu] kk ptt] [] pos) (eUn (pIsi2 T U) f) := by
  obtain ⟨te, h1, h2⟩ := he
  refine ⟨_, pe_callB call_isiT hg hm boot_isinstance (pa_cons h1 (pa_cons (pe_tup (pa_cons (pe_bltn (v := .ty T) hgT hmT hbT rfl hn hdb) (pa_cons (pe_bltn (v := .ty U) hgU hmU hbU rfl hnU hdbU) pa_nil hz2) hz)) pa_nil hs2) hs) (by decide) (by decide) hs hpl, ?_⟩
  intro B Γ F σ H z Γ' R h Q q
  obtain ⟨⟨d, Γ1⟩, e1, h⟩ := bind_eq h
  obtain ⟨z', e2, h⟩ := bind_eq h
  cases h
  obtain ⟨b, e3, e2⟩ := bind_eq e2
  obtain ⟨c, e4, e2⟩ := bind_eq e2
  cases e2
  refine h2 B Γ F σ H d Γ1 R e1 _ fun v F1 H1 x1 R1 d1 => ?_
  refine ⟨by show 2 ≤ sizeLine; decide, fun p hp => ?_⟩
  refine ⟨v, p, [.ty T, .ty U], _, [.type T, .type U], b || c, rfl, upd_same, .cons (.ty T) (.cons (.ty U) .nil), ty_of (R1.ext.trans (Ex.new hp)) R1.pl d1, ?_, q _ F1 _ x1 (R1.hide hp) (.bl _)⟩
  have k2 : PySem.W.kitAny X.K (.type (tyD d)) [.type U] = some c := by
    refine kitAny_cons (kit_ty e4) (fun e => ?_) (fun e => e)
    rw [e]; exact kitAny_nil
  refine kitAny_cons (kit_ty e3) (fun e => ?_) (fun e => ?_)
  · rw [e]; exact k2
  · rw [e]; rfl
end
end Z
set_option Elab.async false
set_option linter.all false
set_option maxRecDepth 100000
set_option maxHeartbeats 2000000
/-! Z: what a loop walks; ranges; calls with keywords -/
namespace Z
open PySem L2 Evl PyProof.Rows

section
variable {X : Cx} {tg : Expr} {pos : Pos}
theorem pi_or {iter : Expr} {w1 w2 : TI} (h1 : PI X tg iter w1) (h2 : PI X tg iter w2) : PI X tg iter (fun σ H R => w1 σ H R ∨ w2 σ H R) :=
  ⟨fun pins s σ H R I h => h.elim (h1.run pins s σ H R I) (h2.run pins s σ H R I)⟩
/-- a list or a tuple -/
def itSeq (f : EX) : AX := fun Γ => (f Γ).bind fun x => (seqOf x.1).bind fun xs => some (xs, x.2)
theorem yields_list {K : PySem.W.Frag} {F : Hp} {a : Addr} {vs : List V} {ds : List PyData} (h1 : SqL K F a vs) (h2 : DpAll K F vs ds) : Yields K F (Itl K a) ds := by
  have hl := dpa_len h2
  refine ⟨fun i F1 H1 e1 e2 _ hi => ?_, fun i F1 H1 x H2 e1 e2 pl hi hy => ?_, fun F1 H1 e1 e2 _ => ⟨vs, ex_l (e1.trans e2) h1, by omega⟩⟩
  · exact ⟨vs, vs[i]'(by omega), ex_l (e1.trans e2) h1, by simp⟩
  · obtain ⟨rfl, hx⟩ := hy
    have := hx vs (ex_l (e1.trans e2) h1)
    obtain ⟨d, g1, g2⟩ := dpa_get' h2 this
    exact ⟨F1, d, Grow.refl e2, g1, dp_mono e1 g2⟩
theorem yields_tup {K : PySem.W.Frag} {F : Hp} {a : Addr} {vs : List V} {ds : List PyData} (h1 : SqT K F a vs) (h2 : DpAll K F vs ds) : Yields K F (Itt K a) ds := by
  have hl := dpa_len h2
  refine ⟨fun i F1 H1 e1 e2 _ hi => ?_, fun i F1 H1 x H2 e1 e2 pl hi hy => ?_, fun F1 H1 e1 e2 _ => ⟨vs, ex_t (e1.trans e2) h1, by omega⟩⟩
  · exact ⟨vs, vs[i]'(by omega), ex_t (e1.trans e2) h1, by simp⟩
  · obtain ⟨rfl, hx⟩ := hy
    have := hx vs (ex_t (e1.trans e2) h1)
    obtain ⟨d, g1, g2⟩ := dpa_get' h2 this
    exact ⟨F1, d, Grow.refl e2, g1, dp_mono e1 g2⟩
theorem ip_seq {l : Expr} {f : EX} (h : EP X l f) : IP X tg l (itSeq f) := by
  obtain ⟨te, h1, h2⟩ := h
  refine ⟨_, pi_or (pi_list h1) (pi_tup h1), ?_⟩
  intro B Γ F σ H xs Γ' R e Q q
  obtain ⟨⟨d, Γ1⟩, e1, e⟩ := bind_eq e
  obtain ⟨ys, e2, e3⟩ := bind_eq e
  cases e3
  cases d with
  | list _ =>
    cases e2
    refine .inl (h2 B Γ F σ H _ Γ1 R e1 _ fun v F1 H1 x1 R1 d1 => ?_)
    obtain ⟨a, vs, rfl, g1, g2⟩ := dp_list d1
    exact ⟨a, rfl, ⟨vs, ex_l R1.ext g1⟩, q _ F1 H1 x1 R1 (yields_list g1 g2)⟩
  | tuple _ =>
    cases e2
    refine .inr (h2 B Γ F σ H _ Γ1 R e1 _ fun v F1 H1 x1 R1 d1 => ?_)
    obtain ⟨a, vs, rfl, g1, g2⟩ := dp_tup d1
    exact ⟨a, rfl, ⟨vs, ex_t R1.ext g1⟩, q _ F1 H1 x1 R1 (yields_tup g1 g2)⟩
  | _ => cases e2
/-- ranges: small numbers; steps of 1 and -1 -/
def rgI (lo c : Int) (n : Nat) : List Int := (List.range n).map fun (i : Nat) => lo + (i : Int) * c
def smallI (i : Int) : Bool := decide (-100000 ≤ i ∧ i ≤ 100000)
def rangeOf : List PyData → Option (List Int)
  | [.int n] => if smallI n = true then some (rgI 0 1 n.toNat) else none
  | [.int a, .int b] => if smallI a = true ∧ smallI b = true then some (rgI a 1 (b - a).toNat) else none
  | [.int a, .int b, .int c] => if smallI a = true ∧ smallI b = true ∧ c = -1 then some (rgI a (-1) (a - b).toNat) else none
  | _ => none
def itRange (k : AX) : AX := fun Γ => (k Γ).bind fun x => (rangeOf x.1).bind fun ns => some (ns.map .int, x.2)
theorem rgI_get {lo c : Int} {n i : Nat} (h : i < n) : ((rgI lo c n).map PyData.int)[i]? = some (.int (lo + i * c)) := by
  simp [rgI, h]
theorem rgI_len {lo c : Int} {n : Nat} : ((rgI lo c n).map PyData.int).length = n := by simp [rgI]
theorem yields_range {K : PySem.W.Frag} {F : Hp} {lo : Int} {n : Nat} : Yields K F (Itr lo n) ((rgI lo 1 n).map .int) := by
  refine ⟨fun i F1 H1 e1 e2 _ hi => by rw [rgI_len] at hi; exact hi, fun i F1 H1 x H2 e1 e2 pl hi hy => ?_, fun F1 H1 e1 e2 _ => by rw [rgI_len]; exact Nat.le_refl _⟩
  rw [rgI_len] at hi
  obtain ⟨rfl, rfl⟩ := hy
  refine ⟨F1, _, Grow.refl e2, rgI_get hi, ?_⟩
  rw [Int.mul_one]
  exact .int _
theorem yields_rangeC {K : PySem.W.Frag} {F : Hp} {lo c : Int} {n : Nat} : Yields K F (Itc lo c n) ((rgI lo c n).map .int) := by
  refine ⟨fun i F1 H1 e1 e2 _ hi => by rw [rgI_len] at hi; exact hi, fun i F1 H1 x H2 e1 e2 pl hi hy => ?_, fun F1 H1 e1 e2 _ => by rw [rgI_len]; exact Nat.le_refl _⟩
  rw [rgI_len] at hi
  obtain ⟨rfl, rfl⟩ := hy
  exact ⟨F1, _, Grow.refl e2, rgI_get hi, .int _⟩
theorem small_b {i : Int} (h : smallI i = true) : -100000 ≤ i ∧ i ≤ 100000 := of_decide_eq_true h
theorem one_of {f : EX} {Γ Γ' : Env} {ds : List PyData} (h : aCons f aNil Γ = some (ds, Γ')) : ∃ x, ds = [x] := by
  obtain ⟨⟨x, Γ1⟩, e1, h⟩ := bind_eq h
  cases h
  exact ⟨x, rfl⟩
theorem two_of {f g : EX} {Γ Γ' : Env} {ds : List PyData} (h : aCons f (aCons g aNil) Γ = some (ds, Γ')) : ∃ x y, ds = [x, y] := by
  obtain ⟨⟨x, Γ1⟩, e1, h⟩ := bind_eq h
  obtain ⟨⟨ys, Γ2⟩, e2, h⟩ := bind_eq h
  obtain ⟨y, rfl⟩ := one_of e2
  cases h
  exact ⟨x, y, rfl⟩
theorem three_of {f g k : EX} {Γ Γ' : Env} {ds : List PyData} (h : aCons f (aCons g (aCons k aNil)) Γ = some (ds, Γ')) : ∃ x y z, ds = [x, y, z] := by
  obtain ⟨⟨x, Γ1⟩, e1, h⟩ := bind_eq h
  obtain ⟨⟨ys, Γ2⟩, e2, h⟩ := bind_eq h
  obtain ⟨y, z, rfl⟩ := two_of e2
  cases h
  exact ⟨x, y, z, rfl⟩
theorem ip_range1 {a : Expr} {f : EX} {p : Pos} (hm : X.mg "range" = none) (ha : EP X a f) (hg : Gl X "range" := by rfl) (hs : starEach [a] X.env = [(false, eval a X.env)] := by rfl) : IP X tg (.Call (.Name "range" p) [a] [] pos) (itRange (aCons f aNil)) := by
  obtain ⟨ta, a1, a2⟩ := ap_cons ha ap_nil hs
  refine ⟨_, pi_range1 hg hm a1 hs, ?_⟩
  intro B Γ F σ H xs Γ' R e Q q
  obtain ⟨⟨ds, Γ1⟩, e1, e⟩ := bind_eq e
  obtain ⟨ns, e2, e3⟩ := bind_eq e
  cases e3
  obtain ⟨x, rfl⟩ := one_of e1
  refine a2 B Γ F σ H _ Γ1 R e1 _ fun vs F1 H1 x1 R1 d1 => ?_
  obtain ⟨v, rfl, d1'⟩ := dpa1 d1
  clear d1
  cases d1' with
  | int n =>
    simp only [rangeOf] at e2
    split at e2
    · rename_i hn
      cases e2
      have := small_b hn
      exact ⟨n, rfl, by omega, by omega, q _ F1 H1 x1 R1 yields_range⟩
    · cases e2
  | _ => cases e2
theorem ip_range2 {a b : Expr} {f g : EX} {p : Pos} (hm : X.mg "range" = none) (ha : EP X a f) (hb : EP X b g) (hg : Gl X "range" := by rfl) (hs : starEach [a, b] X.env = [(false, eval a X.env), (false, eval b X.env)] := by rfl) (hs2 : starEach [b] X.env = [(false, eval b X.env)] := by rfl) : IP X tg (.Call (.Name "range" p) [a, b] [] pos) (itRange (aCons f (aCons g aNil))) := by
  obtain ⟨ta, a1, a2⟩ := ap_cons ha (ap_cons hb ap_nil hs2) (by rw [hs, hs2])
  refine ⟨_, pi_range2 hg hm a1 hs hs2, ?_⟩
  intro B Γ F σ H xs Γ' R e Q q
  obtain ⟨⟨ds, Γ1⟩, e1, e⟩ := bind_eq e
  obtain ⟨ns, e2, e3⟩ := bind_eq e
  cases e3
  obtain ⟨x, y, rfl⟩ := two_of e1
  refine a2 B Γ F σ H _ Γ1 R e1 _ fun vs F1 H1 x1 R1 d1 => ?_
  obtain ⟨v, w, rfl, d1', d2⟩ := dpa2 d1
  clear d1
  cases d1' with
  | int n =>
    cases d2 with
    | int m =>
      simp only [rangeOf] at e2
      split at e2
      · rename_i hn
        cases e2
        have h1 := small_b hn.1
        have h2 := small_b hn.2
        exact ⟨n, m, rfl, ⟨by omega, by omega, by omega, by omega⟩, q _ F1 H1 x1 R1 yields_range⟩
      · cases e2
    | _ => cases e2
  | _ => cases e2
theorem ip_range3 {a b c : Expr} {f g k : EX} {p : Pos} (hm : X.mg "range" = none) (ha : EP X a f) (hb : EP X b g) (hc : EP X c k) (hg : Gl X "range" := by rfl)
    (hs : starEach [a, b, c] X.env = (false, eval a X.env) :: starEach [b, c] X.env := by rfl) (hs2 : starEach [b, c] X.env = (false, eval b X.env) :: starEach [c] X.env := by rfl) (hs3 : starEach [c] X.env = (false, eval c X.env) :: starEach [] X.env := by rfl) (hpl : (backTo pos (starEach [b, c] X.env)).any (·.1) = false := by rfl) :
    IP X tg (.Call (.Name "range" p) [a, b, c] [] pos) (itRange (aCons f (aCons g (aCons k aNil)))) := by
  obtain ⟨ta, a1, a2⟩ := ap_cons ha (ap_cons hb (ap_cons hc ap_nil hs3) hs2) hs
  refine ⟨_, pi_range3 hg hm a1 hs hpl, ?_⟩
  intro B Γ F σ H xs Γ' R e Q q
  obtain ⟨⟨ds, Γ1⟩, e1, e⟩ := bind_eq e
  obtain ⟨ns, e2, e3⟩ := bind_eq e
  cases e3
  obtain ⟨x, y, z, rfl⟩ := three_of e1
  refine a2 B Γ F σ H _ Γ1 R e1 _ fun vs F1 H1 x1 R1 d1 => ?_
  cases d1 with
  | cons d1 d23 =>
    obtain ⟨w, u, rfl, d2, d3⟩ := dpa2 d23
    cases d1 with
    | int n =>
      cases d2 with
      | int m =>
        cases d3 with
        | int c =>
          simp only [rangeOf] at e2
          split at e2
          · rename_i hn
            cases e2
            have h1 := small_b hn.1
            have h2 := small_b hn.2.1
            have h3 := hn.2.2
            subst h3
            exact ⟨n, m, -1, _, rfl, RgC.neg (by omega) (by omega) (by omega) (by omega), q _ F1 H1 x1 R1 yields_rangeC⟩
          · cases e2
        | _ => cases e2
      | _ => cases e2
    | _ => cases e2
/-! enumerate, zip: new pairs -/
def enumFrom : Nat → List PyData → List PyData
  | _, [] => []
  | n, x :: xs => .tuple [.int n, x] :: enumFrom (n + 1) xs
theorem enum_len : ∀ (n : Nat) (xs : List PyData), (enumFrom n xs).length = xs.length
  | _, [] => rfl
  | n, x :: xs => by simp [enumFrom, enum_len (n + 1) xs]
theorem enum_get : ∀ (n : Nat) (xs : List PyData) (i : Nat) (d : PyData), xs[i]? = some d → (enumFrom n xs)[i]? = some (.tuple [.int ((n + i : Nat) : Int), d])
  | _, [], _, _, h => by simp at h
  | n, x :: xs, 0, d, h => by simp at h; subst h; simp [enumFrom]
  | n, x :: xs, i + 1, d, h => by
    have h' : xs[i]? = some d := by simpa using h
    have := enum_get (n + 1) xs i d h'
    simp only [enumFrom, List.getElem?_cons_succ, this]
    congr 4
    omega
def itEnum (f : EX) : AX := fun Γ => (f Γ).bind fun x => (seqOf x.1).bind fun xs => some (enumFrom 0 xs, x.2)
theorem yields_enum {K : PySem.W.Frag} {F : Hp} {a : Addr} {vs : List V} {ds : List PyData} (h1 : SqL K F a vs) (h2 : DpAll K F vs ds) : Yields K F (Ite K a) (enumFrom 0 ds) := by
  have hl := dpa_len h2
  refine ⟨fun i F1 H1 e1 e2 _ hi => ?_, fun i F1 H1 x H2 e1 e2 pl hi hy => ?_, fun F1 H1 e1 e2 _ => ⟨vs, ex_l (e1.trans e2) h1, by rw [enum_len]; omega⟩⟩
  · rw [enum_len] at hi
    exact ⟨vs, vs[i]'(by omega), ex_l (e1.trans e2) h1, by simp⟩
  · obtain ⟨T, y, rfl, hT, rfl, hx⟩ := hy
    have := hx vs (ex_l (e1.trans e2) h1)
    obtain ⟨d, g1, g2⟩ := dpa_get' h2 this
    have gr := Grow.laid (o := .tup [.int (i : Nat), y]) e2 hT
    exact ⟨_, _, gr, enum_get 0 ds i d g1, .tup (st_of upd_same) (.cons (by simpa using Dp.int _) (.cons (dp_mono (e1.trans gr.ext) g2) .nil))⟩
theorem yields_enumT {K : PySem.W.Frag} {F : Hp} {a : Addr} {vs : List V} {ds : List PyData} (h1 : SqT K F a vs) (h2 : DpAll K F vs ds) : Yields K F (IteT K a) (enumFrom 0 ds) := by
  have hl := dpa_len h2
  refine ⟨fun i F1 H1 e1 e2 _ hi => ?_, fun i F1 H1 x H2 e1 e2 pl hi hy => ?_, fun F1 H1 e1 e2 _ => ⟨vs, ex_t (e1.trans e2) h1, by rw [enum_len]; omega⟩⟩
  · rw [enum_len] at hi
    exact ⟨vs, vs[i]'(by omega), ex_t (e1.trans e2) h1, by simp⟩
  · obtain ⟨T, y, rfl, hT, rfl, hx⟩ := hy
    have := hx vs (ex_t (e1.trans e2) h1)
    obtain ⟨d, g1, g2⟩ := dpa_get' h2 this
    have gr := Grow.laid (o := .tup [.int (i : Nat), y]) e2 hT
    exact ⟨_, _, gr, enum_get 0 ds i d g1, .tup (st_of upd_same) (.cons (by simpa using Dp.int _) (.cons (dp_mono (e1.trans gr.ext) g2) .nil))⟩
theorem ip_enum {elts : List Expr} {kk : Nat} {tpos p : Pos} {l : Expr} {f : EX} (hm : X.mg "enumerate" = none) (h : EP X l f) (hg : Gl X "enumerate" := by rfl) (hs : starEach [l] X.env = [(false, eval l X.env)] := by rfl) : IP X (.Tuple elts kk tpos) (.Call (.Name "enumerate" p) [l] [] pos) (itEnum f) := by
  obtain ⟨te, h1, h2⟩ := h
  refine ⟨_, pi_or (pi_enum hg hm (pa_cons h1 pa_nil hs) hs) (pi_enumT hg hm (pa_cons h1 pa_nil hs) hs), ?_⟩
  intro B Γ F σ H xs Γ' R e Q q
  obtain ⟨⟨d, Γ1⟩, e1, e⟩ := bind_eq e
  obtain ⟨ys, e2, e3⟩ := bind_eq e
  cases e3
  cases d with
  | list _ =>
    cases e2
    refine .inl (h2 B Γ F σ H _ Γ1 R e1 _ fun v F1 H1 x1 R1 d1 => ?_)
    obtain ⟨a, vs, rfl, g1, g2⟩ := dp_list d1
    exact ⟨a, vs, rfl, ex_l R1.ext g1, q _ F1 H1 x1 R1 (yields_enum g1 g2)⟩
  | tuple _ =>
    cases e2
    refine .inr (h2 B Γ F σ H _ Γ1 R e1 _ fun v F1 H1 x1 R1 d1 => ?_)
    obtain ⟨a, vs, rfl, g1, g2⟩ := dp_tup d1
    exact ⟨a, vs, rfl, ex_t R1.ext g1, q _ F1 H1 x1 R1 (yields_enumT g1 g2)⟩
  | _ => cases e2

/-! ### list(range(..)), tuple(range(..)) -/
def PRgN (X : Cx) (e : Expr) (t : L2.St → Hp → (Int → Int → Nat → Hp → Prop) → Prop) : Prop :=
  ∀ (pins : List (Addr × Obj)) (s : Shared) (σ : L2.St) (H : Hp) (Q : Int → Int → Nat → Hp → Prop), Inv X pins σ H s → t σ H Q →
    wpAny (model X.prog X.w) X.A (eval e X.env) (fun x s' => ∃ (r : Addr) (a b c : Int) (n : Nat) (t u v : Tok) (H' : Hp), x = .ref r ∧ IsRange s'.heap r a b c t u v ∧ Builtin.Range.small a b c = true ∧ Builtin.Range.rangeSize a b c = n ∧ Inv X pins σ H' s' ∧ Q a c n H') X.xe s
def tRgN (t : L2.St → Hp → (Int → Int → Hp → Prop) → Prop) : L2.St → Hp → (Int → Int → Nat → Hp → Prop) → Prop := fun σ H Q => t σ H fun a b H1 => (smallI a = true ∧ smallI b = true) ∧ Q a 1 (b - a).toNat H1
theorem prgN {e : Expr} {t : L2.St → Hp → (Int → Int → Hp → Prop) → Prop} (h : PRg X e t) : PRgN X e (tRgN t) := by
  intro pins s σ H Q I hw
  refine thn (h pins s σ H _ I hw) fun x s' ⟨r, a, b, t, u, v, H', e1, e2, e3, e4, e5⟩ => ?_
  have h1 := small_b e4.1
  have h2 := small_b e4.2
  exact ⟨r, a, b, 1, _, t, u, v, H', e1, e2, small_one (by omega) (by omega) (by omega) (by omega), rangeSize_nat a b, e3, e5⟩
def tRg3 (k : TA) : L2.St → Hp → (Int → Int → Nat → Hp → Prop) → Prop := fun σ H Q => k σ H fun vs H1 => ∃ i j, vs = [.int i, .int j, .int (-1)] ∧ (smallI i = true ∧ smallI j = true) ∧ Q i (-1) (i - j).toNat H1
theorem prg_3 {a b c : Expr} {k : TA} {p pos : Pos} (hg : Gl X "range") (hm : X.mg "range" = none) (ha : PA X [a, b, c] k)
    (hs : starEach [a, b, c] X.env = (false, eval a X.env) :: starEach [b, c] X.env) (hpl : (backTo pos (starEach [b, c] X.env)).any (·.1) = false) :
    PRgN X (.Call (.Name "range" p) [a, b, c] [] pos) (tRg3 k) := by
  intro pins s σ H Q I h
  refine Call_ (ld_blt I hg hm boot_range (PyProof.Rows.callWith_type1 (thn (ha.run pos pins s σ H _ I h) fun us s1 ⟨vs, H1, I1, r1, q1⟩ => ?_) hs hpl))
  obtain ⟨i, j, rfl, hsm, q⟩ := q1
  have h1 := small_b hsm.1
  have h2 := small_b hsm.2
  cases r1 with
  | cons r1 r2 =>
    cases r2 with
    | cons r2 r3 =>
      cases r3 with
      | cons r3 r4 =>
        cases r4
        obtain ⟨t1, rfl⟩ := r1
        obtain ⟨t2, rfl⟩ := r2
        obtain ⟨t3, rfl⟩ := r3
        refine call_range_3 (by decide) ?_ (.inl (PyProof.noPylong_small (by decide)))
        exact ⟨_, i, j, -1, _, _, _, _, H1, rfl, IsRange.new _ _ _ _ _ _ _, PySem.W.small_down (by omega) (by omega) (by omega) (by omega), PySem.W.rangeSize_downNat i j, I1.kept fun b u e => Heap.get?_push_of_some _ e, q⟩
def rgVC (a c : Int) (n : Nat) : List V := (rgI a c n).map V.int
theorem vals_rgC {a c : Int} {n : Nat} {acc : Array Value} (h : ItemsOf (fun i v => ∃ t, v = .int (a + i * c) t) acc n) : Vals (rgVC a c n) acc.toList := by
  have e : acc.toList.length = n := by rw [Array.length_toList]; exact h.1
  have e2 : rgVC a c n = (List.range n).map fun (i : Nat) => V.int (a + (i : Int) * c) := by unfold rgVC rgI; rw [List.map_map]; rfl
  rw [e2, ← e]
  refine vals_of_get acc.toList _ fun j u hj => ?_
  obtain ⟨t, rfl⟩ := h.2 j u (by rw [← hj, Array.getElem?_toList])
  exact ⟨t, rfl⟩
theorem rgVC_len {a c : Int} {n : Nat} : (rgVC a c n).length = n := by simp [rgVC, rgI]
def tLR (te : L2.St → Hp → (Int → Int → Nat → Hp → Prop) → Prop) : TE := fun σ H Q => te σ H fun a c n H1 => n ≤ 2 ^ 24 ∧ ∀ q, H1 q = none → Q (.ref q) (upd H1 q (.lst (rgVC a c n)))
def tTR (te : L2.St → Hp → (Int → Int → Nat → Hp → Prop) → Prop) : TE := fun σ H Q => te σ H fun a c n H1 => n ≤ 2 ^ 24 ∧ ∀ q, H1 q = none → Q (.ref q) (upd H1 q (.tup (rgVC a c n)))
variable {e : Expr} {te : L2.St → Hp → (Int → Int → Nat → Hp → Prop) → Prop}
theorem pe_LR {p pos : Pos} (hc : X.calm = true) (hg : Gl X "list") (hm : X.mg "list" = none) (he : PRgN X e te) (na : starEach [e] X.env = (false, eval e X.env) :: starEach [] X.env) : PE X (.Call (.Name "list" p) [e] [] pos) (tLR te) := by
  refine ⟨fun pins s σ H Q I h => ?_⟩
  refine Call_ (ld_blt I hg hm boot_list (PyProof.Rows.callWith_type1 (args_cons (thn (he pins s σ H _ I h) fun x s1 ⟨r, a, b, c, n, t, u, v, H1, ex, hr, b1, b2, I1, ok, q⟩ => args_nil ?_) na) na))
  subst ex
  refine call_list_range (n := n) (I1.ok.hd hc) hr b1 b2 ok fun h' tk acc c' hk e' hi => ?_
  refine ⟨.ref s1.heap.objs.size, upd H1 s1.heap.objs.size (.lst (rgVC a c n)), I1.laid hk (Nat.le_refl _) (show ObjOk X.prog X.w _ _ _ (.lst (rgVC a c n)) from ⟨?_, acc.toList, c', vals_rgC hi, ?_⟩), rfl, q _ (I1.hok.fresh (Nat.le_refl _))⟩
  · rw [rgVC_len, sizeLine_eq]; omega
  · rw [Array.toArray_toList]; exact e'
theorem pe_TR {p pos : Pos} (hc : X.calm = true) (hg : Gl X "tuple") (hm : X.mg "tuple" = none) (he : PRgN X e te) (na : starEach [e] X.env = (false, eval e X.env) :: starEach [] X.env) : PE X (.Call (.Name "tuple" p) [e] [] pos) (tTR te) := by
  refine ⟨fun pins s σ H Q I h => ?_⟩
  refine Call_ (ld_blt I hg hm boot_tuple (PyProof.Rows.callWith_type1 (args_cons (thn (he pins s σ H _ I h) fun x s1 ⟨r, a, b, c, n, t, u, v, H1, ex, hr, b1, b2, I1, ok, q⟩ => args_nil ?_) na) na))
  subst ex
  refine call_tuple_range (n := n) (I1.ok.hd hc) hr b1 b2 ok fun h' tk acc hk hi => ?_
  have I2 : Inv X pins σ H1 { s1 with heap := h', toks := tk } := I1.kept hk
  refine ⟨.ref h'.objs.size, upd H1 h'.objs.size (.tup (rgVC a c n)), I2.laid (t' := tk) (fun c o e => Heap.get?_push_of_some _ e) (Nat.le_refl _) (show ObjOk X.prog X.w _ _ _ (.tup (rgVC a c n)) from ⟨?_, acc.toList, vals_rgC hi, ?_⟩), rfl, q _ (I2.hok.fresh (Nat.le_refl _))⟩
  · rw [rgVC_len, sizeLine_eq]; omega
  · rw [Array.toArray_toList]; exact IsTup.new _ _
/-- the worth of a range -/
abbrev RX := Env → Option (List Int × Env)
def rxOf (k : AX) : RX := fun Γ => (k Γ).bind fun x => (rangeOf x.1).bind fun ns => some (ns, x.2)
def EvR (K : PySem.W.Frag) (tr : L2.St → Hp → (Int → Int → Nat → Hp → Prop) → Prop) (f : RX) : Prop := ∀ (B : Bs) (Γ : Env) (F : Hp) (σ : L2.St) (H : Hp) (r : List Int) (Γ' : Env), Rel K B Γ F σ H → f Γ = some (r, Γ') →
  ∀ Q : Int → Int → Nat → Hp → Prop, (∀ a c n F' H', r = rgI a c n → n ≤ 200000 → Ex F F' → Rel K B Γ' F' σ H' → Q a c n H') → tr σ H Q
def RP (X : Cx) (e : Expr) (f : RX) : Prop := ∃ t, PRgN X e t ∧ EvR X.K t f
theorem rp_1 {a : Expr} {f : EX} {p pos : Pos} (hm : X.mg "range" = none) (ha : EP X a f) (hg : Gl X "range" := by rfl) (hs : starEach [a] X.env = (false, eval a X.env) :: starEach [] X.env := by rfl) : RP X (.Call (.Name "range" p) [a] [] pos) (rxOf (aCons f aNil)) := by
  obtain ⟨te, h1, h2⟩ := ha
  refine ⟨_, prgN (prg_1 hg hm h1 hs), ?_⟩
  intro B Γ F σ H r Γ' R e Q q
  obtain ⟨⟨ds, Γ1⟩, e1, e⟩ := bind_eq e
  obtain ⟨ns, e2, e3⟩ := bind_eq e
  cases e3
  obtain ⟨⟨x, Γ2⟩, g1, g2⟩ := bind_eq e1
  cases g2
  refine h2 B Γ F σ H _ _ R g1 _ fun v F1 H1 x1 R1 d1 => ?_
  cases d1 with
  | int n =>
    simp only [rangeOf] at e2
    split at e2
    · rename_i hn
      cases e2
      have := small_b hn
      refine ⟨n, rfl, ⟨by decide, hn⟩, q _ _ _ F1 H1 (by simp) (by omega) x1 R1⟩
    · cases e2
  | _ => cases e2
theorem rp_2 {a b : Expr} {f g : EX} {p pos : Pos} (hm : X.mg "range" = none) (ha : EP X a f) (hb : EP X b g) (hg : Gl X "range" := by rfl) (hs : starEach [a, b] X.env = (false, eval a X.env) :: starEach [b] X.env := by rfl) (hs2 : starEach [b] X.env = (false, eval b X.env) :: starEach [] X.env := by rfl) (hpl : (backTo pos (starEach [b] X.env)).any (·.1) = false := by rfl) :
    RP X (.Call (.Name "range" p) [a, b] [] pos) (rxOf (aCons f (aCons g aNil))) := by
  obtain ⟨te, h1, h2⟩ := ha
  obtain ⟨tf, k1, k2⟩ := hb
  refine ⟨_, prgN (prg_2 hg hm h1 k1 hs hs2 hpl), ?_⟩
  intro B Γ F σ H r Γ' R e Q q
  obtain ⟨⟨ds, Γ1⟩, e1, e⟩ := bind_eq e
  obtain ⟨ns, e2, e3⟩ := bind_eq e
  cases e3
  obtain ⟨⟨x, Γ2⟩, g1, g2⟩ := bind_eq e1
  obtain ⟨⟨ys, Γ3⟩, g3, g4⟩ := bind_eq g2
  obtain ⟨⟨y, Γ4⟩, g5, g6⟩ := bind_eq g3
  cases g6
  cases g4
  refine h2 B Γ F σ H _ _ R g1 _ fun v F1 H1 x1 R1 d1 => ?_
  refine k2 B _ F1 σ H1 _ _ R1 g5 _ fun u F2 H2 x2 R2 d2 => ?_
  cases d1 with
  | int n =>
    cases d2 with
    | int m =>
      simp only [rangeOf] at e2
      split at e2
      · rename_i hn
        cases e2
        have h1 := small_b hn.1
        have h2 := small_b hn.2
        exact ⟨n, m, rfl, rfl, hn, q _ _ _ F2 H2 rfl (by omega) (x1.trans x2) R2⟩
      · cases e2
    | _ => cases e2
  | _ => cases e2
theorem rp_3 {a b c : Expr} {f g k : EX} {p pos : Pos} (hm : X.mg "range" = none) (ha : EP X a f) (hb : EP X b g) (hc : EP X c k) (hg : Gl X "range" := by rfl)
    (hs : starEach [a, b, c] X.env = (false, eval a X.env) :: starEach [b, c] X.env := by rfl) (hs2 : starEach [b, c] X.env = (false, eval b X.env) :: starEach [c] X.env := by rfl) (hs3 : starEach [c] X.env = (false, eval c X.env) :: starEach [] X.env := by rfl) (hpl : (backTo pos (starEach [b, c] X.env)).any (·.1) = false := by rfl) :
    RP X (.Call (.Name "range" p) [a, b, c] [] pos) (rxOf (aCons f (aCons g (aCons k aNil)))) := by
  obtain ⟨ta, a1, a2⟩ := ap_cons ha (ap_cons hb (ap_cons hc ap_nil hs3) hs2) hs
  refine ⟨_, prg_3 hg hm a1 hs hpl, ?_⟩
  intro B Γ F σ H r Γ' R e Q q
  obtain ⟨⟨ds, Γ1⟩, e1, e⟩ := bind_eq e
  obtain ⟨ns, e2, e3⟩ := bind_eq e
  cases e3
  obtain ⟨x, y, z, rfl⟩ := three_of e1
  refine a2 B Γ F σ H _ Γ1 R e1 _ fun vs F1 H1 x1 R1 d1 => ?_
  cases d1 with
  | cons d1 d23 =>
    obtain ⟨w, u, rfl, d2, d3⟩ := dpa2 d23
    cases d1 with
    | int n =>
      cases d2 with
      | int m =>
        cases d3 with
        | int c =>
          simp only [rangeOf] at e2
          split at e2
          · rename_i hn
            cases e2
            have h1 := small_b hn.1
            have h2 := small_b hn.2.1
            have h3 := hn.2.2
            subst h3
            exact ⟨n, m, rfl, ⟨hn.1, hn.2.1⟩, q _ _ _ F1 H1 rfl (by omega) x1 R1⟩
          · cases e2
        | _ => cases e2
      | _ => cases e2
    | _ => cases e2
def eLR (f : RX) : EX := fun Γ => (f Γ).bind fun x => some (.list (x.1.map .int), x.2)
def eTR (f : RX) : EX := fun Γ => (f Γ).bind fun x => some (.tuple (x.1.map .int), x.2)
theorem ep_LR {f : RX} {p pos : Pos} (hc : X.calm = true) (hm : X.mg "list" = none) (he : RP X e f) (hg : Gl X "list" := by rfl) (na : starEach [e] X.env = (false, eval e X.env) :: starEach [] X.env := by rfl) : EP X (.Call (.Name "list" p) [e] [] pos) (eLR f) := by
  obtain ⟨t, h1, h2⟩ := he
  refine ⟨_, pe_LR hc hg hm h1 na, ?_⟩
  intro B Γ F σ H r Γ' R e Q q
  obtain ⟨⟨ns, Γ1⟩, e1, e⟩ := bind_eq e
  cases e
  refine h2 B Γ F σ H ns Γ1 R e1 _ fun a c n F1 H1 er hn x1 R1 => ⟨Nat.le_trans hn (by decide), fun p hp => ?_⟩
  subst er
  have gr := Grow.laid (o := .lst (rgVC a c n)) R1.ext hp
  exact q _ _ _ (x1.trans gr.ext) (R1.grow gr) (.lst (sq_of upd_same) (dpa_ints _))
theorem ep_TR {f : RX} {p pos : Pos} (hc : X.calm = true) (hm : X.mg "tuple" = none) (he : RP X e f) (hg : Gl X "tuple" := by rfl) (na : starEach [e] X.env = (false, eval e X.env) :: starEach [] X.env := by rfl) : EP X (.Call (.Name "tuple" p) [e] [] pos) (eTR f) := by
  obtain ⟨t, h1, h2⟩ := he
  refine ⟨_, pe_TR hc hg hm h1 na, ?_⟩
  intro B Γ F σ H r Γ' R e Q q
  obtain ⟨⟨ns, Γ1⟩, e1, e⟩ := bind_eq e
  cases e
  refine h2 B Γ F σ H ns Γ1 R e1 _ fun a c n F1 H1 er hn x1 R1 => ⟨Nat.le_trans hn (by decide), fun p hp => ?_⟩
  subst er
  have gr := Grow.laid (o := .tup (rgVC a c n)) R1.ext hp
  exact q _ _ _ (x1.trans gr.ext) (R1.grow gr) (.tup (st_of upd_same) (dpa_ints _))
end

/-! ### calls with keywords: f(x, .., k = y, ..) -/
def KwP (X : Cx) (kws : List Keyword) (f : AX) : Prop := ∃ ta, PK X kws ta ∧ EvA X.K ta f
section
variable {X : Cx} {pos : Pos}
theorem kp_nil : KwP X [] aNil := ⟨_, pk_nil, fun B Γ F σ H rs Γ' R e Q q => by cases e; exact q [] F H (Ex.refl F) R .nil⟩
theorem kp_cons {e : Expr} {nm : Option Str} {kpos : Pos} {kws : List Keyword} {f : EX} {k : AX} (h : EP X e f) (hr : KwP X kws k) (hp : ∀ {te : TE} {t : TA}, PE X e te → PK X kws t → PK X (⟨nm, e, kpos⟩ :: kws) (tCons te t) := by intro te t h1 h2; exact pk_cons h1 h2) : KwP X (⟨nm, e, kpos⟩ :: kws) (aCons f k) := by
  obtain ⟨te, h1, h2⟩ := h
  obtain ⟨ta, g1, g2⟩ := hr
  refine ⟨_, hp h1 g1, ?_⟩
  intro B Γ F σ H rs Γ' R e Q q
  obtain ⟨⟨x, Γ1⟩, e1, e⟩ := bind_eq e
  obtain ⟨⟨ys, Γ2⟩, e2, e⟩ := bind_eq e
  cases e
  refine h2 B Γ F σ H x Γ1 R e1 _ fun v F1 H1 x1 R1 d1 => ?_
  refine g2 B Γ1 F1 σ H1 ys Γ2 R1 e2 _ fun vs F2 H2 x2 R2 d2 => ?_
  exact q (v :: vs) F2 H2 (x1.trans x2) R2 (.cons (dp_mono x2 d1) d2)
end
end Z
set_option Elab.async false
set_option linter.all false
set_option maxRecDepth 100000
set_option maxHeartbeats 2000000
/-! Z: calls of defs with keywords -/
namespace Z
open PySem L2 Evl PyProof.Rows

/-- positional values us (np of them), then the keywords' values ws, in the parameters' order -/
def gK (np : Nat) (perm : List Nat) {α : Type} (us ws : List α) : List α := if us.length = np ∧ ws.length + np = perm.length then perm.filterMap (fun i => (us ++ ws)[i]?) else []
theorem gK_len {np : Nat} {perm : List Nat} {α : Type} {us ws : List α} {n : Nat} (h : (gK np perm us ws).length = n + 1) : us.length = np ∧ ws.length + np = perm.length := by
  unfold gK at h
  split at h
  · rename_i hc; exact hc
  · cases h
theorem vals_fm {us : List V} {ws : List Value} (r : Vals us ws) : ∀ perm : List Nat, Vals (perm.filterMap fun i => us[i]?) (perm.filterMap fun i => ws[i]?)
  | [] => .nil
  | i :: p => by
    rw [List.filterMap_cons, List.filterMap_cons]
    cases h : us[i]? with
    | none => rw [Vals.none_of r h]; exact vals_fm r p
    | some x =>
      obtain ⟨u, h1, h2⟩ := Vals.get r h
      rw [h1]
      exact .cons h2 (vals_fm r p)
theorem gK_rel {np : Nat} {perm : List Nat} {vs : List V} {us : List Value} {zs : List V} {ws : List Value} (r : Vals vs us) (z : Vals zs ws) : Vals (gK np perm vs zs) (gK np perm us ws) := by
  have l1 := r.length
  have l2 := z.length
  unfold gK
  rw [l1, l2]
  split
  · exact vals_fm (r.append z) perm
  · exact .nil
theorem kbinds {K : PySem.W.Frag} {x qual : Str} {st : Stmt} {f : Addr} {fd : FuncData} {p0 : Str} {ps ks : List Str} (np : Nat) (perm : List Nat) (F : Fun K x qual st f fd)
    (h : ∀ (kV doc pm : Value) (an : Option Addr) (cdv ct : Value) (us ws : List Value), us.length = np → ws.length + np = perm.length → bindArgs (PySem.W.fnOf x qual (defArgs st) (defBody st) (defScope st) .none kV doc pm an cdv ct) ⟨us, ks.zip ws⟩ = pure ((p0 :: ps).zip (gK np perm us ws))) : KBinds K fd (p0 :: ps) ks (gK np perm) (gK np perm) := by
  obtain ⟨oc, od, kV, doc, pm, an, cdv, ct, osl, rfl, lk, hcd⟩ := F.ex
  refine ⟨fun s us ws _ hl => ?_, fun r z => gK_rel r z⟩
  obtain ⟨h1, h2⟩ := gK_len (by simpa using hl)
  exact .of_eq (h kV doc pm an cdv ct us ws h1 h2)
section
variable {X : Cx} {pos p : Pos} {x : Str} {k : Nat} {f : Addr} {fd : FuncData} {ps ks : List Str} {sp : Sp} {CX : CXT} {E : XK} {tk : TA} {kws : List Keyword}
variable {g : List Value → List Value → List Value} {gV : List V → List V → List V}
/-- f(k = v, ..) -/
theorem pe_callK0 (F : FnOk X.prog X.w X.K X.mg X.base CX k f fd ps sp) (hr : Room k X.A) (hg : Gl X x) (hm : X.mg x = some (.ref f)) (hk : PySem.W.keepIn X.K (.ref f) = true) (hb : KBinds X.K fd ps ks g gV) (hx : Passes CX X E)
    (hkw : PK X kws tk) (hall : (backToKw pos (keywordEach kws X.env)).all (·.1.isSome) = true := by rfl) (hks : (backToKw pos (keywordEach kws X.env)).filterMap (·.1) = ks := by rfl)
    (hdb : (x == ("__debug__" : Str)) = false := by decide)
    (hpl : ((backTo pos (starEach [] X.env)).any (·.1) || (backToKw pos (keywordEach kws X.env)).any (·.1.isNone)) = false := by rfl) :
    PE X (.Call (.Name x p) [] kws pos) (tCallK sp gV E tNil tk) := by
  refine ⟨fun pins s σ H Q I h => ?_⟩
  refine wpAny_Call_Name_kw (ld_glob I hg hm ?_ hdb)
  refine PySem.W.callWith_KW0 (h₀ := X.base) I.ok.mod.kin hk hall ?_ hpl
  refine thn (hkw.run pos pins s σ H _ I h) fun ws s2 ⟨zs, H2, I2, rz, q2⟩ => ⟨I2.kIn, ?_⟩
  rw [hks]
  exact run_fnk F hr hb hx I2 .nil rz q2
def eCallK (p : List PyData → Option PyData) (np : Nat) (perm : List Nat) (a b : AX) : EX := fun Γ => (a Γ).bind fun x => (b x.2).bind fun y => (p (gK np perm x.1 y.1)).bind fun z => some (z, y.2)
theorem dpa_gK {K : PySem.W.Frag} {F : Hp} {np : Nat} {perm : List Nat} {vs : List V} {ds : List PyData} {zs : List V} {es : List PyData} (h : DpAll K F vs ds) (k : DpAll K F zs es) : DpAll K F (gK np perm vs zs) (gK np perm ds es) := by
  unfold gK
  rw [dpa_len h, dpa_len k]
  split
  · have ha := dpa_app h k
    have all : ∀ l : List Nat, DpAll K F (l.filterMap fun i => (vs ++ zs)[i]?) (l.filterMap fun i => (ds ++ es)[i]?) := by
      intro l
      induction l with
      | nil => exact .nil
      | cons i l ih =>
        rw [List.filterMap_cons, List.filterMap_cons]
        cases q : (ds ++ es)[i]? with
        | none =>
          have : (vs ++ zs)[i]? = none := List.getElem?_eq_none_iff.mpr (by rw [dpa_len ha]; exact List.getElem?_eq_none_iff.mp q)
          rw [this]; exact ih
        | some d =>
          obtain ⟨v, h1, h2⟩ := dpa_get ha q
          rw [h1]; exact .cons h2 ih
    exact all perm
  · exact .nil
theorem ev_fnK {K : PySem.W.Frag} {p : List PyData → Option PyData} {n : Nat} {np : Nat} {perm : List Nat} {ta tb : TA} {a b : AX} {E : XK} (hn : ∀ Γ x Γ2 y, a Γ = some x → b Γ2 = some y → (gK np perm x.1 y.1).length = n) (ha : EvA K ta a) (hb : EvA K tb b) : EvE K (tCallK (spP K n p) (gK np perm) E ta tb) (eCallK p np perm a b) := by
  intro B Γ F σ H z Γ' R h Q q
  obtain ⟨⟨xs, Γ1⟩, h1, h⟩ := bind_eq h
  obtain ⟨⟨ys, Γ2⟩, h2, h⟩ := bind_eq h
  obtain ⟨z', h3, h⟩ := bind_eq h
  cases h
  refine ha B Γ F σ H xs Γ1 R h1 _ fun vs F1 H1 e1 R1 d1 => ?_
  refine hb B Γ1 F1 σ H1 ys Γ2 R1 h2 _ fun zs F2 H2 e2 R2 d2 => ?_
  have d := dpa_gK (np := np) (perm := perm) (dpa_mono e2 d1) d2
  exact ⟨by rw [dpa_len d]; exact hn _ _ _ _ h1 h2, F2, _, z, R2.ext, R2.pl, d, h3, fun w F3 H3 gr d3 => q w F3 H3 ((e1.trans e2).trans gr.ext) (R2.grow gr) d3⟩
theorem ep_fnK0 {P : List PyData → Option PyData} {n : Nat} {perm : List Nat} {b : AX} (G : FnOk X.prog X.w X.K X.mg X.base CX0 k f fd ps (spP X.K n P)) (hr : Room k X.A) (hm : X.mg x = some (.ref f)) (hk : PySem.W.keepIn X.K (.ref f) = true) (hb : KBinds X.K fd ps ks (gK 0 perm) (gK 0 perm))
    (hkw : KwP X kws b) (hn : ∀ Γ y, b Γ = some y → (gK 0 perm ([] : List PyData) y.1).length = n) (hg : Gl X x := by rfl) (hall : (backToKw pos (keywordEach kws X.env)).all (·.1.isSome) = true := by rfl) (hks : (backToKw pos (keywordEach kws X.env)).filterMap (·.1) = ks := by rfl)
    (hdb : (x == ("__debug__" : Str)) = false := by decide)
    (hpl : ((backTo pos (starEach [] X.env)).any (·.1) || (backToKw pos (keywordEach kws X.env)).any (·.1.isNone)) = false := by rfl) :
    EP X (.Call (.Name x p) [] kws pos) (eCallK P 0 perm aNil b) := by
  obtain ⟨tb, b1, b2⟩ := hkw
  refine ⟨_, pe_callK0 G hr hg hm hk hb pass0 b1 hall hks hdb hpl, ?_⟩
  exact ev_fnK (fun Γ x Γ2 y h1 h2 => by cases h1; exact hn _ _ h2) (fun B Γ F σ H rs Γ' R e Q q => by cases e; exact q [] F H (Ex.refl F) R .nil) b2
theorem ep_fnK {P : List PyData → Option PyData} {n np : Nat} {perm : List Nat} {a b : AX} {e : Expr} {es : List Expr} (G : FnOk X.prog X.w X.K X.mg X.base CX0 k f fd ps (spP X.K n P)) (hr : Room k X.A) (hm : X.mg x = some (.ref f)) (hk : PySem.W.keepIn X.K (.ref f) = true) (hb : KBinds X.K fd ps ks (gK np perm) (gK np perm))
    (ha : AP X (e :: es) a) (hkw : KwP X kws b) (hn : ∀ Γ x Γ2 y, a Γ = some x → b Γ2 = some y → (gK np perm x.1 y.1).length = n) (hg : Gl X x := by rfl) (hall : (backToKw pos (keywordEach kws X.env)).all (·.1.isSome) = true := by rfl) (hks : (backToKw pos (keywordEach kws X.env)).filterMap (·.1) = ks := by rfl)
    (hdb : (x == ("__debug__" : Str)) = false := by decide) (he : starEach (e :: es) X.env = (false, eval e X.env) :: starEach es X.env := by rfl)
    (hpl : ((backTo pos (starEach (e :: es) X.env)).any (·.1) || (backToKw pos (keywordEach kws X.env)).any (·.1.isNone)) = false := by rfl) :
    EP X (.Call (.Name x p) (e :: es) kws pos) (eCallK P np perm a b) := by
  obtain ⟨ta, a1, a2⟩ := ha
  obtain ⟨tb, b1, b2⟩ := hkw
  exact ⟨_, pe_callK G hr hg hm hk hb pass0 a1 b1 hall hks hdb he hpl, ev_fnK hn a2 b2⟩
end
end Z
set_option Elab.async false
set_option linter.all false
set_option maxRecDepth 100000
set_option maxHeartbeats 2000000
/-! Z: defs by name; truth of any value; the end of a law -/
namespace Z
open PySem L2 Evl PyProof.Rows

/-- a def of the text stands under its name -/
def Df (K : PySem.W.Frag) (mg : Str → Option Value) (x : Str) (st : Stmt) (ps : List Str) : Prop := ∃ (f : Addr) (fd : FuncData), Fun K x x st f fd ∧ mg x = some (.ref f) ∧ Binds K fd ps []
/-- .. and keeps its promise -/
def Ok (P : Program) (w : World) (K : PySem.W.Frag) (mg : Str → Option Value) (base : Heap) (k : Nat) (x : Str) (st : Stmt) (ps : List Str) (sp : Sp) : Prop :=
  ∃ (f : Addr) (fd : FuncData), Fun K x x st f fd ∧ mg x = some (.ref f) ∧ Binds K fd ps [] ∧ FnOk P w K mg base CX0 k f fd ps sp
theorem df_mk {K : PySem.W.Frag} {h : Heap} {mg : Str → Option Value} {x : Str} {st : Stmt} {ps : List Str} {f : Addr} {oc : Value} {od an : Option Addr} {osl : Array (Option Value)} {kV doc pm cdv ct : Value} (X : K.In h) (G : h.Ns mainGlobals mg)
    (hb : ∀ (kV doc pm : Value) (an : Option Addr) (cdv ct : Value) (us : List Value), us.length = ps.length → bindArgs (PySem.W.fnOf x x (defArgs st) (defBody st) (defScope st) .none kV doc pm an cdv ct) ⟨us, []⟩ = pure (ps.zip us))
    (a : PySem.W.nsIn K mainGlobals x = some (some (.ref f))) (l : K.lookup f = some ⟨oc, od, .func (PySem.W.fnOf x x (defArgs st) (defBody st) (defScope st) .none kV doc pm an cdv ct), osl⟩) (c : PySem.W.codeIn K cdv x = true) (k : PySem.W.keepIn K (.ref f) = true) : Df K mg x st ps := by
  have F := fun_mk (st := st) l c k
  exact ⟨f, _, F, PySem.W.mg_of X G a, F.binds hb⟩
section
variable {P : Program} {w : World} {K : PySem.W.Frag} {mg : Str → Option Value} {base : Heap}
theorem ok_pure {x : Str} {st : Stmt} {N ps : List Str} {k n m : Nat} {b : SX} (D : Df K mg x st ps) (S : FnScope N ps (defScope st)) (hn : ps.length = n := by rfl) (hm : N.length = m := by rfl)
    (hb : ∀ (f : Addr) (cdv : Value) (A : Around) (outer : List PySem.Env) (s : Shared) (H : Hp) (E : XK), Room k (A.deeper (envOfC x (defScope st) s.heap.objs.size f cdv)) →
      BP (cxOf CX0 P w K mg base N x (defScope st) f cdv A outer s H E).nox (defBody st) b) : Ok P w K mg base (k + 1) x st ps (spP K n (runP m b)) := by
  obtain ⟨f, fd, F, g, bi⟩ := D
  subst hn hm
  exact ⟨f, fd, F, g, bi, fn_pure F S (hb f)⟩
theorem ok_mut {x : Str} {st : Stmt} {N ps : List Str} {k n m : Nat} {b : SX} (D : Df K mg x st ps) (S : FnScope N ps (defScope st)) (hn : ps.length = n := by rfl) (hm : N.length = m := by rfl)
    (hb : ∀ (f : Addr) (cdv : Value) (A : Around) (outer : List PySem.Env) (s : Shared) (H : Hp) (E : XK), Room k (A.deeper (envOfC x (defScope st) s.heap.objs.size f cdv)) →
      BP (cxOf CX0 P w K mg base N x (defScope st) f cdv A outer s H E).nox (defBody st) b) : Ok P w K mg base (k + 1) x st ps (spM K n (runM m b)) := by
  obtain ⟨f, fd, F, g, bi⟩ := D
  subst hn hm
  exact ⟨f, fd, F, g, bi, fn_mut F S (hb f)⟩
theorem ok_list {x : Str} {st : Stmt} {N ps : List Str} {k n m : Nat} {b : SX} (D : Df K mg x st ps) (S : FnScope N ps (defScope st)) (hn : ps.length = n := by rfl) (hm : N.length = m := by rfl)
    (hb : ∀ (f : Addr) (cdv : Value) (A : Around) (outer : List PySem.Env) (s : Shared) (H : Hp) (E : XK), Room k (A.deeper (envOfC x (defScope st) s.heap.objs.size f cdv)) →
      BP (cxOf CX0 P w K mg base N x (defScope st) f cdv A outer s H E).nox (defBody st) b) : Ok P w K mg base (k + 1) x st ps (spL K n (runL m b)) := by
  obtain ⟨f, fd, F, g, bi⟩ := D
  subst hn hm
  exact ⟨f, fd, F, g, bi, fn_list F S (hb f)⟩
theorem ok_no {x : Str} {st : Stmt} {ps : List Str} {k n : Nat} (D : Df K mg x st ps) (hn : ps.length = n := by rfl) : Ok P w K mg base k x st ps (spP K n fun _ => none) := by
  obtain ⟨f, fd, F, g, bi⟩ := D
  subst hn
  exact ⟨f, fd, F, g, bi, ⟨fun vs H Q E h => h.1, fun A outer s H args us vs Q E _ _ _ _ h => by obtain ⟨_, _, _, _, _, _, _, h, _⟩ := h; cases h⟩⟩
theorem ok_noM {x : Str} {st : Stmt} {ps : List Str} {k n : Nat} (D : Df K mg x st ps) (hn : ps.length = n := by rfl) : Ok P w K mg base k x st ps (spM K n fun _ _ => none) := by
  obtain ⟨f, fd, F, g, bi⟩ := D
  subst hn
  exact ⟨f, fd, F, g, bi, ⟨fun vs H Q E h => h.1, fun A outer s H args us vs Q E _ _ _ _ h => by
    obtain ⟨_, _, _, _, _, _, _, _, _, _, _, _, _, _, _, _, h, _⟩ := h; cases h⟩⟩
theorem Ok.mono {x : Str} {st : Stmt} {ps : List Str} {j k : Nat} {sp : Sp} (o : Ok P w K mg base j x st ps sp) (h : j ≤ k) : Ok P w K mg base k x st ps sp := by
  obtain ⟨f, fd, F, g, bi, G⟩ := o
  exact ⟨f, fd, F, g, bi, G.mono h⟩
end
/-- how many values an argument list gives -/
def Len (k : AX) (n : Nat) : Prop := ∀ Γ x, k Γ = some x → x.1.length = n
theorem len_nil : Len aNil 0 := fun Γ x h => by cases h; rfl
theorem len_cons {f : EX} {k : AX} {n : Nat} (h : Len k n) : Len (aCons f k) (n + 1) := fun Γ x e => by
  obtain ⟨⟨y, Γ1⟩, e1, e⟩ := bind_eq e
  obtain ⟨⟨ys, Γ2⟩, e2, e⟩ := bind_eq e
  cases e
  simp [h _ _ e2]
section
variable {X : Cx} {pos pp : Pos} {x : Str} {st : Stmt} {ps : List Str} {lv n : Nat}
theorem ep_o {e : Expr} {es : List Expr} {p : List PyData → Option PyData} {k : AX} (G : Ok X.prog X.w X.K X.mg X.base lv x st ps (spP X.K n p)) (hr : Room lv X.A) (ha : AP X (e :: es) k) (hn : Len k n) (hg : Gl X x := by rfl) (hdb : (x == ("__debug__" : Str)) = false := by decide)
    (he : starEach (e :: es) X.env = (false, eval e X.env) :: starEach es X.env := by rfl) (hpl : (backTo pos (starEach es X.env)).any (·.1) = false := by rfl) : EP X (.Call (.Name x pp) (e :: es) [] pos) (eCall p k) := by
  obtain ⟨f, fd, F, g, bi, G⟩ := G
  exact ep_fn G hr g F.kp bi ha hn hg hdb he hpl
theorem np_oL {e : Expr} {es : List Expr} {p : List PyData → Option (List PyData)} {k : AX} (G : Ok X.prog X.w X.K X.mg X.base lv x st ps (spL X.K n p)) (hr : Room lv X.A) (ha : AP X (e :: es) k) (hn : Len k n) (hg : Gl X x := by rfl) (hdb : (x == ("__debug__" : Str)) = false := by decide)
    (he : starEach (e :: es) X.env = (false, eval e X.env) :: starEach es X.env := by rfl) (hpl : (backTo pos (starEach es X.env)).any (·.1) = false := by rfl) : NP X (.Call (.Name x pp) (e :: es) [] pos) (nCallL p k) := by
  obtain ⟨f, fd, F, g, bi, G⟩ := G
  exact np_fnL G hr g F.kp bi ha hn hg hdb he hpl
theorem ep_oM {y : Str} {py : Pos} {es : List Expr} {p : List PyData → List PyData → Option (PyData × List PyData)} {i : Nat} {k : AX} (G : Ok X.prog X.w X.K X.mg X.base lv x st ps (spM X.K n p)) (hr : Room lv X.A) (ha : AP X es k) (hn : Len k n') (hn' : n' + 1 = n)
    (hp : ∀ {f : Addr} {fd : FuncData} {ta : TA} {sp : Sp}, (FnOk X.prog X.w X.K X.mg X.base CX0 lv f fd ps sp) → X.mg x = some (.ref f) → PySem.W.keepIn X.K (.ref f) = true → Binds X.K fd ps [] → Room lv X.A → PA X es ta → PE X (.Call (.Name x pp) (.Name y py :: es) [] pos) (tCall sp [] E0 (tCons (tVar i) ta)) := by
      intro f fd ta sp h1 h2 h3 h4 h5 h6; exact pe_call h1 h5 (by rfl) h2 h3 h4 .nil pass0 (pa_cons (pv _) h6)) :
    EP X (.Call (.Name x pp) (.Name y py :: es) [] pos) (eCallM i p k) := by
  obtain ⟨f, fd, F, g, bi, G⟩ := G
  exact ep_fnM G hr g F.kp bi ha (fun Γ x h => by rw [hn Γ x h]; exact hn') (fun h1 h2 => hp h1 g F.kp bi hr h2)
theorem ep_oK0 {p0 : Str} {ps ks : List Str} {kws : List Keyword} {p : List PyData → Option PyData} {perm : List Nat} {b : AX} (G : Ok X.prog X.w X.K X.mg X.base lv x st (p0 :: ps) (spP X.K n p)) (hr : Room lv X.A)
    (hkb : ∀ (kV doc pm : Value) (an : Option Addr) (cdv ct : Value) (us ws : List Value), us.length = 0 → ws.length + 0 = perm.length → bindArgs (PySem.W.fnOf x x (defArgs st) (defBody st) (defScope st) .none kV doc pm an cdv ct) ⟨us, ks.zip ws⟩ = pure ((p0 :: ps).zip (gK 0 perm us ws)))
    (hkw : KwP X kws b) (hn : Len b m) (hl : ∀ ds : List PyData, ds.length = m → (gK 0 perm ([] : List PyData) ds).length = n) (hg : Gl X x := by rfl) (hall : (backToKw pos (keywordEach kws X.env)).all (·.1.isSome) = true := by rfl) (hks : (backToKw pos (keywordEach kws X.env)).filterMap (·.1) = ks := by rfl)
    (hdb : (x == ("__debug__" : Str)) = false := by decide)
    (hpl : ((backTo pos (starEach [] X.env)).any (·.1) || (backToKw pos (keywordEach kws X.env)).any (·.1.isNone)) = false := by rfl) :
    EP X (.Call (.Name x pp) [] kws pos) (eCallK p 0 perm aNil b) := by
  obtain ⟨f, fd, F, g, bi, G⟩ := G
  exact ep_fnK0 G hr g F.kp (kbinds 0 perm F hkb) hkw (fun Γ y h => hl _ (hn Γ y h)) hg hall hks hdb hpl
theorem ep_oK {p0 : Str} {ps ks : List Str} {kws : List Keyword} {e : Expr} {es : List Expr} {p : List PyData → Option PyData} {np : Nat} {perm : List Nat} {a b : AX} (G : Ok X.prog X.w X.K X.mg X.base lv x st (p0 :: ps) (spP X.K n p)) (hr : Room lv X.A)
    (hkb : ∀ (kV doc pm : Value) (an : Option Addr) (cdv ct : Value) (us ws : List Value), us.length = np → ws.length + np = perm.length → bindArgs (PySem.W.fnOf x x (defArgs st) (defBody st) (defScope st) .none kV doc pm an cdv ct) ⟨us, ks.zip ws⟩ = pure ((p0 :: ps).zip (gK np perm us ws)))
    (ha : AP X (e :: es) a) (hkw : KwP X kws b) (hna : Len a np) (hn : Len b m) (hl : ∀ cs ds : List PyData, cs.length = np → ds.length = m → (gK np perm cs ds).length = n) (hg : Gl X x := by rfl) (hall : (backToKw pos (keywordEach kws X.env)).all (·.1.isSome) = true := by rfl) (hks : (backToKw pos (keywordEach kws X.env)).filterMap (·.1) = ks := by rfl)
    (hdb : (x == ("__debug__" : Str)) = false := by decide) (he : starEach (e :: es) X.env = (false, eval e X.env) :: starEach es X.env := by rfl)
    (hpl : ((backTo pos (starEach (e :: es) X.env)).any (·.1) || (backToKw pos (keywordEach kws X.env)).any (·.1.isNone)) = false := by rfl) :
    EP X (.Call (.Name x pp) (e :: es) kws pos) (eCallK p np perm a b) := by
  obtain ⟨f, fd, F, g, bi, G⟩ := G
  exact ep_fnK G hr g F.kp (kbinds np perm F hkb) ha hkw (fun Γ x Γ2 y h1 h2 => hl _ _ (hna Γ x h1) (hn Γ2 y h2)) hg hall hks hdb he hpl
/-- truth of any value -/
def truD : PyData → Option Bool
  | .none => some false
  | .bool b => some b
  | .int i => some (i != 0)
  | .list xs => some (!xs.isEmpty)
  | .tuple xs => some (!xs.isEmpty)
  | _ => none
def tTruX (f : EX) : TX := fun Γ => (f Γ).bind fun x => (truD x.1).bind fun b => some (b, x.2)
theorem isEmpty_dpa {K : PySem.W.Frag} {F : Hp} {vs : List V} {ds : List PyData} (h : DpAll K F vs ds) : vs.isEmpty = ds.isEmpty := by cases h <;> rfl
theorem tp_tru {e : Expr} {f : EX} (h : EP X e f) (he : ∀ whole, isTrue e X.env whole = (do let v ← whole; standAt e.pos; holding [v] (truthy v)) := by intro _; rfl) : TP X e (tTruX f) := by
  obtain ⟨te, h1, h2⟩ := h
  refine ⟨_, pt_truth h1 he, ?_⟩
  intro B Γ F σ H r Γ' R e Q q
  obtain ⟨⟨d, Γ1⟩, e1, e⟩ := bind_eq e
  obtain ⟨b, e2, e3⟩ := bind_eq e
  cases e3
  refine h2 B Γ F σ H d Γ1 R e1 _ fun v F1 H1 x1 R1 d1 => ⟨r, ?_, q F1 H1 x1 R1⟩
  cases d1 with
  | non => cases e2; rfl
  | bl c => cases e2; rfl
  | int i => cases e2; rfl
  | str s => cases e2
  | lst g1 g2 => cases e2; exact .inl ⟨_, ex_l R1.ext g1, by rw [isEmpty_dpa g2]⟩
  | tup g1 g2 => cases e2; exact .inr (.inl ⟨_, ex_t R1.ext g1, by rw [isEmpty_dpa g2]⟩)
end
/-! ### the end -/
def spLaw (K : PySem.W.Frag) : Sp := fun vs H Q _ => ∃ (a : Addr) (ns : List Int), vs = [.ref a] ∧ SqL K H a (ns.map V.int) ∧ ns.length ≤ 63 ∧ ∀ H', Q (.bl true) H'
theorem sp_law {K : PySem.W.Frag} {p : List PyData → Option PyData} (h : ∀ ns : List Int, ns.length ≤ 63 → p [.list (ns.map .int)] = some (.bool true)) : ∀ (vs : List V) (H : Hp) (Q : VK) (E : XK), spLaw K vs H Q E → spP K 1 p vs H Q E := by
  rintro vs H Q E ⟨a, ns, rfl, hs, hl, q⟩
  have fin : ∀ F : Hp, Ex F H → Pl F → SqL K F a (ns.map V.int) → spP K 1 p [.ref a] H Q E := fun F ex pl hq =>
    ⟨rfl, F, [.list (ns.map .int)], .bool true, ex, pl, .cons (.lst hq (dpa_ints ns)) .nil, h ns hl, fun v F' H' gr d => by cases d; exact q H'⟩
  rcases hs with (hs | ⟨o, hs⟩) | hs
  · refine fin (fun b => if b = a then some (.lst (ns.map V.int)) else none) (fun b o e => ?_) (fun b o e => ?_) (.inl (.inl (if_pos rfl)))
    · have e' : (if b = a then some (HO.lst (ns.map V.int)) else none) = some o := e
      split at e'
      · rename_i hb; cases e'; rw [hb]; exact hs
      · cases e'
    · have e' : (if b = a then some (HO.lst (ns.map V.int)) else none) = some o := e
      split at e'
      · cases e'; trivial
      · cases e'
  · refine fin (fun b => if b = a then some (.frz o (.lst (ns.map V.int))) else none) (fun b o' e => ?_) (fun b o' e => ?_) (.inl (.inr ⟨o, if_pos rfl⟩))
    · have e' : (if b = a then some (HO.frz o (HO.lst (ns.map V.int))) else none) = some o' := e
      split at e'
      · rename_i hb; cases e'; rw [hb]; exact hs
      · cases e'
    · have e' : (if b = a then some (HO.frz o (HO.lst (ns.map V.int))) else none) = some o' := e
      split at e'
      · cases e'; trivial
      · cases e'
  · exact fin (fun _ => none) (fun _ _ e => by cases e) (fun _ _ e => by cases e) (.inr hs)
theorem ok_end {P : Program} {w : World} {K : PySem.W.Frag} {mg : Str → Option Value} {base : Heap} {k : Nat} {st : Stmt} {fa : Addr} {p : List PyData → Option PyData} (h : ∀ ns : List Int, ns.length ≤ 63 → p [.list (ns.map .int)] = some (.bool true)) (hfa : mg "law" = some (.ref fa))
    (o : Ok P w K mg base k "law" st ["script"] (spP K 1 p)) : ∃ fd, Fun K "law" "law" st fa fd ∧ FnOk P w K mg base CX0 k fa fd ["script"] (spLaw K) := by
  obtain ⟨f, fd, F, g, bi, G⟩ := o
  rw [hfa] at g
  cases g
  exact ⟨fd, F, ⟨fun vs H Q E hh => by obtain ⟨a, ns, rfl, _⟩ := hh; rfl, fun A outer s H args us vs Q E hr e0 hb hv hh => G.run A outer s H args us vs Q E hr e0 hb hv (sp_law h vs H Q E hh)⟩⟩
end Z
set_option Elab.async false
set_option linter.all false
set_option maxRecDepth 100000
set_option maxHeartbeats 2000000
/-! Z: chains of two comparisons; x += e -/
namespace Z
open PySem L2 Evl PyProof.Rows
def eChain (p p' : PyData → PyData → Option PyData) (f g k : EX) : EX := fun Γ => (f Γ).bind fun x => (g x.2).bind fun y => (p x.1 y.1).bind fun z => match z with
  | .bool true => (k y.2).bind fun w => (p' y.1 w.1).bind fun u => some (u, w.2)
  | .bool false => some (.bool false, y.2)
  | _ => none
section
variable {X : Cx} {a b c : Expr} {f g k : EX} {pos : Pos}
theorem ev_chain {K : PySem.W.Frag} {r r' : R2} {p p' : PyData → PyData → Option PyData} {ta tb tc : TE} (hr : OpP K r p) (hr' : OpP K r' p') (ha : EvE K ta f) (hb : EvE K tb g) (hc : EvE K tc k) : EvE K (tChain r r' ta tb tc) (eChain p p' f g k) := by
  intro B Γ F σ H z Γ' R h Q q
  obtain ⟨⟨x, Γ1⟩, h1, h⟩ := bind_eq h
  obtain ⟨⟨y, Γ2⟩, h2, h⟩ := bind_eq h
  obtain ⟨u, h3, h⟩ := bind_eq h
  refine ha B Γ F σ H x Γ1 R h1 _ fun v F1 H1 e1 R1 d1 => ?_
  refine hb B Γ1 F1 σ H1 y Γ2 R1 h2 _ fun w F2 H2 e2 R2 d2 => ?_
  refine hr F2 H2 v w x y u R2.ext R2.pl (dp_mono e2 d1) d2 h3 _ fun s F3 H3 gr d3 => ?_
  have R3 := R2.grow gr
  cases d3 with
  | bl c =>
    refine ⟨c, rfl, ?_⟩
    cases c with
    | true =>
      obtain ⟨⟨y', Γ3⟩, h4, h⟩ := bind_eq (show (k Γ2).bind _ = some (z, Γ') from h)
      obtain ⟨u', h5, h⟩ := bind_eq h
      cases h
      show tc σ H3 _
      refine hc B Γ2 F3 σ H3 y' Γ3 R3 h4 _ fun w' F4 H4 e4 R4 d4 => ?_
      exact hr' F4 H4 w w' y y' z R4.ext R4.pl (dp_mono (gr.ext.trans e4) d2) d4 h5 Q fun s F5 H5 gr5 d5 => q s F5 H5 ((((e1.trans e2).trans gr.ext).trans e4).trans gr5.ext) (R4.grow gr5) d5
    | false =>
      have h' : some (PyData.bool false, Γ2) = some (z, Γ') := h
      cases h'
      show Q (.bl false) H3
      exact q _ F3 H3 ((e1.trans e2).trans gr.ext) R3 (.bl false)
  | _ => cases h
theorem ep_chain {op op' : CmpOp} {p p' : PyData → PyData → Option PyData} (ho : OpE X (compareOp op) p) (ho' : OpE X (compareOp op') p') (ha : EP X a f) (hb : EP X b g) (hc : EP X c k)
    (hm : lastMarks [op, op'] [b, c] = false := by with_unfolding_all rfl) : EP X (.Compare a [op, op'] [b, c] pos) (eChain p p' f g k) := by
  obtain ⟨r, o1, o2⟩ := ho
  obtain ⟨r', o3, o4⟩ := ho'
  obtain ⟨ta, a1, a2⟩ := ha
  obtain ⟨tb, b1, b2⟩ := hb
  obtain ⟨tc, c1, c2⟩ := hc
  exact ⟨_, pe_chain o1 o3 a1 b1 c1 hm, ev_chain o2 o4 a2 b2 c2⟩
theorem tp_chain {op op' : CmpOp} {p p' : PyData → PyData → Option PyData} (ho : OpE X (compareOp op) p) (ho' : OpE X (compareOp op') p') (ha : EP X a f) (hb : EP X b g) (hc : EP X c k)
    (hm : lastMarks [op, op'] [b, c] = false := by with_unfolding_all rfl) : TP X (.Compare a [op, op'] [b, c] pos) (tOf (eChain p p' f g k)) := by
  obtain ⟨r, o1, o2⟩ := ho
  obtain ⟨r', o3, o4⟩ := ho'
  obtain ⟨ta, a1, a2⟩ := ha
  obtain ⟨tb, b1, b2⟩ := hb
  obtain ⟨tc, c1, c2⟩ := hc
  exact ⟨_, pt_chain o1 o3 a1 b1 c1 hm, ev_test (ev_chain o2 o4 a2 b2 c2)⟩
end
end Z
set_option Elab.async false
set_option linter.all false
set_option maxRecDepth 100000
set_option maxHeartbeats 2000000
/-! Z: reckoning with plain functions -/
namespace Z
open PySem

/-! ### comprehensions over plain turns -/
theorem set_set' {α : Type} (l : List α) (i : Nat) (a b : α) : (l.set i a).set i b = l.set i b := by
  rw [List.set_set]
theorem lcLoop_pure {t : TX} {f : EX} {i : Nat} {c : PyData → Bool} {h : PyData → PyData} {Γ : Env} : ∀ (xs acc : List PyData) (Γ' : Env), Γ'.set i .no = Γ.set i .no →
    (∀ x ∈ xs, t (Γ.set i (.val x)) = some (c x, Γ.set i (.val x)) ∧ (c x = true → f (Γ.set i (.val x)) = some (h x, Γ.set i (.val x)))) → acc.length + xs.length ≤ 100000 →
    ∃ Γe, lcLoop (gxName i) t f [i] xs acc Γ' = some (acc ++ (xs.filter c).map h, Γe) ∧ Γe.set i .no = Γ.set i .no
  | [], acc, Γ', e, _, _ => ⟨Γ', by simp [lcLoop], e⟩
  | x :: xs, acc, Γ', e, hx, hl => by
    obtain ⟨h1, h2⟩ := hx x List.mem_cons_self
    have eg : gxName i x (wipeE Γ' [i]) = some (Γ.set i (.val x)) := by
      show some (((wipeE Γ' []).set i .no).set i (.val x)) = _
      show some ((Γ'.set i .no).set i (.val x)) = _
      rw [e, set_set']
    have en : (Γ.set i (Slot.val x)).set i .no = Γ.set i .no := set_set' _ _ _ _
    have hl' : acc.length < 100000 := by simp at hl; omega
    cases hc : c x with
    | true =>
      rw [hc] at h1
      have h3 := h2 hc
      obtain ⟨Γe, g1, g2⟩ := lcLoop_pure (h := h) (c := c) xs (acc ++ [h x]) (Γ.set i (.val x)) en (fun y hy => hx y (List.mem_cons_of_mem _ hy)) (by simp at hl ⊢; omega)
      refine ⟨Γe, ?_, g2⟩
      unfold lcLoop
      rw [eg]
      simp only [Option.bind_some, h1, if_true, h3, if_pos hl', g1]
      simp [hc]
    | false =>
      rw [hc] at h1
      obtain ⟨Γe, g1, g2⟩ := lcLoop_pure (h := h) (c := c) xs acc (Γ.set i (.val x)) en (fun y hy => hx y (List.mem_cons_of_mem _ hy)) (by simp at hl ⊢; omega)
      refine ⟨Γe, ?_, g2⟩
      unfold lcLoop
      rw [eg]
      simp only [Option.bind_some, h1, g1]
      simp [hc]
theorem rest1 {Γ Γe : Env} {i : Nat} (e : Γe.set i .no = Γ.set i .no) : restE Γ Γe [i] = Γ := by
  show Γe.set i (Γ[i]?.getD .no) = Γ
  rw [← set_set' Γe i .no, e, set_set']
  cases h : Γ[i]? with
  | none =>
    have hl := List.getElem?_eq_none_iff.mp h
    exact List.set_eq_of_length_le hl
  | some s => exact set_same h
theorem nLc_pure {it : AX} {t : TX} {f : EX} {i : Nat} {Γ : Env} (xs : List PyData) (c : PyData → Bool) (h : PyData → PyData) (hit : it Γ = some (xs, Γ)) (hfr : freeE Γ [i] = true)
    (hx : ∀ x ∈ xs, t (Γ.set i (.val x)) = some (c x, Γ.set i (.val x)) ∧ (c x = true → f (Γ.set i (.val x)) = some (h x, Γ.set i (.val x)))) (hl : xs.length ≤ 100000) :
    nLc it (gxName i) t f [i] Γ = some (.own ((xs.filter c).map h), Γ) := by
  obtain ⟨Γe, g1, g2⟩ := lcLoop_pure (h := h) (c := c) xs [] Γ rfl hx (by simpa using hl)
  unfold nLc
  simp only [hit, Option.bind_some, hfr, if_true, g1, rest1 g2]
  simp
/-- without a test -/
theorem nLc_map {it : AX} {f : EX} {i : Nat} {Γ : Env} (xs : List PyData) (h : PyData → PyData) (hit : it Γ = some (xs, Γ)) (hfr : freeE Γ [i] = true)
    (hx : ∀ x ∈ xs, f (Γ.set i (.val x)) = some (h x, Γ.set i (.val x))) (hl : xs.length ≤ 100000) :
    nLc it (gxName i) tYesX f [i] Γ = some (.own (xs.map h), Γ) := by
  have := nLc_pure (t := tYesX) xs (fun _ => true) h hit hfr (fun x hx' => ⟨rfl, fun _ => hx x hx'⟩) hl
  rw [this, List.filter_eq_self.mpr (fun _ _ => rfl)]
/-- over ints -/
theorem nLc_ints {it : AX} {t : TX} {f : EX} {i : Nat} {Γ : Env} (ns : List Int) (c : Int → Bool) (h : Int → PyData) (hit : it Γ = some (ns.map .int, Γ)) (hfr : freeE Γ [i] = true)
    (hx : ∀ x ∈ ns, t (Γ.set i (.val (.int x))) = some (c x, Γ.set i (.val (.int x))) ∧ (c x = true → f (Γ.set i (.val (.int x))) = some (h x, Γ.set i (.val (.int x))))) (hl : ns.length ≤ 100000) :
    nLc it (gxName i) t f [i] Γ = some (.own ((ns.filter c).map h), Γ) := by
  have := nLc_pure (t := t) (f := f) (i := i) (ns.map .int) (fun d => match d with | .int x => c x | _ => false) (fun d => match d with | .int x => h x | _ => .none) hit hfr (fun x hx' => by
    obtain ⟨n, hn, rfl⟩ := List.mem_map.mp hx'
    exact hx n hn) (by simpa using hl)
  rw [this]
  rw [List.filter_map, List.map_map]
  rfl
theorem nLc_intsM {it : AX} {f : EX} {i : Nat} {Γ : Env} (ns : List Int) (h : Int → PyData) (hit : it Γ = some (ns.map .int, Γ)) (hfr : freeE Γ [i] = true)
    (hx : ∀ x ∈ ns, f (Γ.set i (.val (.int x))) = some (h x, Γ.set i (.val (.int x)))) (hl : ns.length ≤ 100000) :
    nLc it (gxName i) tYesX f [i] Γ = some (.own (ns.map h), Γ) := by
  have := nLc_ints (t := tYesX) ns (fun _ => true) h hit hfr (fun x hx' => ⟨rfl, fun _ => hx x hx'⟩) hl
  rw [this, List.filter_eq_self.mpr (fun _ _ => rfl)]
/-! ### loops -/
theorem forLoop_inv {g : PyData → Env → Option Env} {b : SX} (I : List PyData → Env → Prop) (xs : List PyData)
    (step : ∀ pre x post Γ, xs = pre ++ x :: post → I pre Γ → ∃ Γ1 Γ2, g x Γ = some Γ1 ∧ (b Γ1 = some (.nx Γ2) ∨ b Γ1 = some (.ct Γ2)) ∧ I (pre ++ [x]) Γ2) {Γ : Env} (h0 : I [] Γ) :
    ∃ Γ', forLoop g b xs Γ = some (.nx Γ') ∧ I xs Γ' := by
  have all : ∀ (post pre : List PyData) (Γ : Env), xs = pre ++ post → I pre Γ → ∃ Γ', forLoop g b post Γ = some (.nx Γ') ∧ I xs Γ' := by
    intro post
    induction post with
    | nil => intro pre Γ e h; rw [List.append_nil] at e; subst e; exact ⟨Γ, rfl, h⟩
    | cons x post ih =>
      intro pre Γ e h
      obtain ⟨Γ1, Γ2, h1, h2, h3⟩ := step pre x post Γ e h
      obtain ⟨Γ', g1, g2⟩ := ih (pre ++ [x]) Γ2 (by rw [e]; simp) h3
      refine ⟨Γ', ?_, g2⟩
      unfold forLoop
      rw [h1]
      rcases h2 with h2 | h2 <;> simp only [Option.bind_some, h2, g1]
  exact all xs [] Γ rfl h0
/-- over ints, the state told by a function of what is taken -/
theorem forLoop_ints {g : PyData → Env → Option Env} {b : SX} (I : List Int → Env → Prop) (ns : List Int)
    (step : ∀ pre x post Γ, ns = pre ++ x :: post → I pre Γ → ∃ Γ1 Γ2, g (.int x) Γ = some Γ1 ∧ (b Γ1 = some (.nx Γ2) ∨ b Γ1 = some (.ct Γ2)) ∧ I (pre ++ [x]) Γ2) {Γ : Env} (h0 : I [] Γ) :
    ∃ Γ', forLoop g b (ns.map .int) Γ = some (.nx Γ') ∧ I ns Γ' := by
  have all : ∀ (post pre : List Int) (Γ : Env), ns = pre ++ post → I pre Γ → ∃ Γ', forLoop g b (post.map .int) Γ = some (.nx Γ') ∧ I ns Γ' := by
    intro post
    induction post with
    | nil => intro pre Γ e h; rw [List.append_nil] at e; subst e; exact ⟨Γ, rfl, h⟩
    | cons x post ih =>
      intro pre Γ e h
      obtain ⟨Γ1, Γ2, h1, h2, h3⟩ := step pre x post Γ e h
      obtain ⟨Γ', g1, g2⟩ := ih (pre ++ [x]) Γ2 (by rw [e]; simp) h3
      refine ⟨Γ', ?_, g2⟩
      show forLoop g b (.int x :: post.map .int) Γ = _
      unfold forLoop
      rw [h1]
      rcases h2 with h2 | h2 <;> simp only [Option.bind_some, h2, g1]
  exact all ns [] Γ rfl h0

/-! ### the rules of reckoning -/
section
variable {Γ : Env} {d : PyData} {p p' : PyData → PyData → Option PyData} {f g k : EX} {a b : AX} {t u : TX} {s r : SX} {n m : NX} {i j : Nat}
@[simp] theorem z_c : eC d Γ = some (d, Γ) := rfl
@[simp] theorem z_op : eOp p f g Γ = (f Γ).bind fun x => (g x.2).bind fun y => (p x.1 y.1).bind fun z => some (z, y.2) := rfl
@[simp] theorem z_un {p : PyData → Option PyData} : eUn p f Γ = (f Γ).bind fun x => (p x.1).bind fun z => some (z, x.2) := rfl
@[simp] theorem z_anil : aNil Γ = some ([], Γ) := rfl
@[simp] theorem z_acons : aCons f a Γ = (f Γ).bind fun x => (a x.2).bind fun y => some (x.1 :: y.1, y.2) := rfl
@[simp] theorem z_tup : eTup a Γ = (a Γ).bind fun x => if x.1.length ≤ 100000 then some (.tuple x.1, x.2) else none := rfl
@[simp] theorem z_lst : eLst a Γ = (a Γ).bind fun x => if x.1.length ≤ 100000 then some (.list x.1, x.2) else none := rfl
@[simp] theorem z_call {p : List PyData → Option PyData} : eCall p a Γ = (a Γ).bind fun x => (p x.1).bind fun z => some (z, x.2) := rfl
@[simp] theorem z_tof : tOf f Γ = (f Γ).bind fun x => match x.1 with | .bool c => some (c, x.2) | _ => none := rfl
@[simp] theorem z_ttru : tTruX f Γ = (f Γ).bind fun x => (truD x.1).bind fun b => some (b, x.2) := rfl
@[simp] theorem z_tnot : tNotX t Γ = (t Γ).bind fun x => some (!x.1, x.2) := rfl
@[simp] theorem z_tand : tAndX t u Γ = (t Γ).bind fun x => if x.1 = true then u x.2 else some (false, x.2) := rfl
@[simp] theorem z_tor : tOrX t u Γ = (t Γ).bind fun x => if x.1 = true then some (true, x.2) else u x.2 := rfl
@[simp] theorem z_eand : eAnd f g Γ = (f Γ).bind fun x => match x.1 with | .bool true => g x.2 | .bool false => some (.bool false, x.2) | _ => none := rfl
@[simp] theorem z_eor : eOr f g Γ = (f Γ).bind fun x => match x.1 with | .bool true => some (.bool true, x.2) | .bool false => g x.2 | _ => none := rfl
@[simp] theorem z_enot : eNot f Γ = (f Γ).bind fun x => match x.1 with | .bool c => some (.bool (!c), x.2) | _ => none := rfl
@[simp] theorem z_eif : eIf t f g Γ = (t Γ).bind fun x => if x.1 = true then f x.2 else g x.2 := rfl
@[simp] theorem z_chain : eChain p p' f g k Γ = (f Γ).bind fun x => (g x.2).bind fun y => (p x.1 y.1).bind fun z => match z with | .bool true => (k y.2).bind fun w => (p' y.1 w.1).bind fun u => some (u, w.2) | .bool false => some (.bool false, y.2) | _ => none := rfl
@[simp] theorem z_nval : nVal f Γ = (f Γ).bind fun x => some (.val x.1, x.2) := rfl
@[simp] theorem z_nown : nOwn n Γ = (n Γ).bind fun x => match x.1 with | .own ds => some (.list ds, x.2) | .val d => some (d, x.2) | _ => none := rfl
@[simp] theorem z_nlst : nLst a Γ = (a Γ).bind fun x => if x.1.length ≤ 100000 then some (.own x.1, x.2) else none := rfl
@[simp] theorem z_ncall {p : List PyData → Option (List PyData)} : nCallL p a Γ = (a Γ).bind fun x => (p x.1).bind fun z => some (.own z, x.2) := rfl
@[simp] theorem z_next : sNext Γ = some (.nx Γ) := rfl
@[simp] theorem z_seq : sSeq s r Γ = (s Γ).bind fun o => match o with | .nx Γ1 => r Γ1 | .rt x Γ1 => some (.rt x Γ1) | .bk Γ1 => some (.bk Γ1) | .ct Γ1 => some (.ct Γ1) | .rl ds Γ1 => some (.rl ds Γ1) := rfl
@[simp] theorem z_if : sIf t s r Γ = (t Γ).bind fun x => if x.1 = true then s x.2 else r x.2 := rfl
@[simp] theorem z_ret : sRet f Γ = (f Γ).bind fun x => some (.rt x.1 x.2) := rfl
@[simp] theorem z_retn : sRetN Γ = some (.rt .none Γ) := rfl
@[simp] theorem z_retl : sRetL n Γ = (n Γ).bind fun x => match x.1 with | .own ds => some (.rl ds x.2) | _ => none := rfl
@[simp] theorem z_break : sBreak Γ = some (.bk Γ) := rfl
@[simp] theorem z_cont : sCont Γ = some (.ct Γ) := rfl
@[simp] theorem z_drop : sDrop f Γ = (f Γ).bind fun x => some (.nx x.2) := rfl
@[simp] theorem z_set : sSet i n Γ = (n Γ).bind fun x => some (.nx (x.2.set i x.1)) := rfl
@[simp] theorem z_par : sPar i j n m Γ = (n Γ).bind fun x => (m x.2).bind fun y => some (.nx ((y.2.set i x.1).set j y.1)) := rfl
@[simp] theorem z_asg {gx : PyData → Env → Option Env} : sAsg f gx Γ = (f Γ).bind fun x => (gx x.1 x.2).bind fun Γ1 => some (.nx Γ1) := rfl
@[simp] theorem z_store : sStore i k f Γ = (f Γ).bind fun x => (ownAt x.2 i).bind fun _ => (k x.2).bind fun y => match y.1 with | .int z => (ownAt y.2 i).bind fun ds => (L2.ixN ds.length z).bind fun j => some (.nx (ownSet y.2 i (ds.set j x.1))) | _ => none := rfl
@[simp] theorem z_app : sApp i f Γ = (ownAt Γ i).bind fun _ => (f Γ).bind fun x => (ownAt x.2 i).bind fun ds => if ds.length < 100000 then some (.nx (ownSet x.2 i (ds ++ [x.1]))) else none := rfl
@[simp] theorem z_ins : sIns i k f Γ = (ownAt Γ i).bind fun _ => (k Γ).bind fun y => (f y.2).bind fun x => match y.1 with | .int z => (ownAt x.2 i).bind fun ds => if ds.length < 100000 ∧ 0 ≤ z ∧ z < 100000 then some (.nx (ownSet x.2 i (ds.take z.toNat ++ [x.1] ++ ds.drop z.toNat))) else none | _ => none := rfl
@[simp] theorem z_for {it : AX} {gx : PyData → Env → Option Env} : sFor it gx s Γ = (it Γ).bind fun x => forLoop gx s x.1 x.2 := rfl
@[simp] theorem z_gname : gxName i d Γ = some (Γ.set i (.val d)) := rfl
@[simp] theorem z_gnil : gxNil [] Γ = some Γ := rfl
@[simp] theorem z_gcons {gx : PyData → Env → Option Env} {kx : List PyData → Env → Option Env} {ds : List PyData} : gxCons gx kx (d :: ds) Γ = (gx d Γ).bind fun Γ1 => kx ds Γ1 := rfl
@[simp] theorem z_gtup {kx : List PyData → Env → Option Env} {ds : List PyData} {n : Nat} : gxTup n kx (.tuple ds) Γ = if ds.length = n then kx ds Γ else none := rfl
@[simp] theorem z_callm {p : List PyData → List PyData → Option (PyData × List PyData)} : eCallM i p a Γ = (ownAt Γ i).bind fun _ => (a Γ).bind fun x => (ownAt x.2 i).bind fun cs => (p cs x.1).bind fun z => some (z.1, ownSet x.2 i z.2) := rfl
@[simp] theorem z_callk {p : List PyData → Option PyData} {np : Nat} {perm : List Nat} : eCallK p np perm a b Γ = (a Γ).bind fun x => (b x.2).bind fun y => (p (gK np perm x.1 y.1)).bind fun z => some (z, y.2) := rfl
@[simp] theorem z_lr {f : RX} : eLR f Γ = (f Γ).bind fun x => some (.list (x.1.map .int), x.2) := rfl
@[simp] theorem z_tr {f : RX} : eTR f Γ = (f Γ).bind fun x => some (.tuple (x.1.map .int), x.2) := rfl
@[simp] theorem z_rx : rxOf a Γ = (a Γ).bind fun x => (rangeOf x.1).bind fun ns => some (ns, x.2) := rfl
@[simp] theorem z_itrange : itRange a Γ = (a Γ).bind fun x => (rangeOf x.1).bind fun ns => some (ns.map .int, x.2) := rfl
@[simp] theorem z_itseq : itSeq f Γ = (f Γ).bind fun x => (seqOf x.1).bind fun xs => some (xs, x.2) := rfl
@[simp] theorem z_itenum : itEnum f Γ = (f Γ).bind fun x => (seqOf x.1).bind fun xs => some (enumFrom 0 xs, x.2) := rfl
@[simp] theorem z_osome : oSome f Γ = (f Γ).bind fun x => match x.1 with | .int i => some (some i, x.2) | _ => none := rfl
@[simp] theorem z_onone : oNone Γ = some (none, Γ) := rfl
@[simp] theorem z_sl {p : PyData → Option Int → Option Int → Option PyData} {l u : OX} : eSl p f l u Γ = (f Γ).bind fun x => (l x.2).bind fun a => (u a.2).bind fun b => (p x.1 a.1 b.1).bind fun z => some (z, b.2) := rfl
@[simp] theorem z_var : eVar i Γ = match (Γ[i]? : Option Slot) with | some (.val d) => some (d, Γ) | some (.own ds) => some (.list ds, Γ.set i (.val (.list ds))) | _ => none := rfl
@[simp] theorem z_lenv : eLenV i Γ = match (Γ[i]? : Option Slot) with | some (.val d) => (pLen [d]).bind fun z => some (z, Γ) | some (.own ds) => some (.int ds.length, Γ) | some (.par ds) => some (.int ds.length, Γ) | _ => none := rfl
@[simp] theorem z_ixv : eIxV i g Γ = match (Γ[i]? : Option Slot) with
  | some .no => none
  | none => none
  | some _ => (g Γ).bind fun y => match (y.2[i]? : Option Slot) with
    | some (.val d) => (pIx d y.1).bind fun z => some (z, y.2)
    | some (.own ds) => (pIx (.list ds) y.1).bind fun z => some (z, y.2)
    | some (.par ds) => (pIx (.list ds) y.1).bind fun z => some (z, y.2)
    | _ => none := by
  unfold eIxV
  rfl
@[simp] theorem z_ownat : ownAt Γ i = match (Γ[i]? : Option Slot) with | some (.own ds) => some ds | some (.par ds) => some ds | _ => none := rfl
@[simp] theorem z_ownset {es : List PyData} : ownSet Γ i es = match (Γ[i]? : Option Slot) with | some (.own _) => Γ.set i (.own es) | some (.par _) => Γ.set i (.par es) | _ => Γ := rfl
@[simp] theorem z_par0 : parOf Γ = match (Γ[0]? : Option Slot) with | some (.par cs) => some cs | _ => none := rfl
end
section
variable {i j : Int} {xs ys : List PyData}
@[simp] theorem z_add : pAdd (.int i) (.int j) = some (.int (i + j)) := rfl
@[simp] theorem z_addT : pAdd (.tuple xs) (.tuple ys) = if xs.length + ys.length ≤ 100000 then some (.tuple (xs ++ ys)) else none := rfl
@[simp] theorem z_addL : pAdd (.list xs) (.list ys) = if xs.length + ys.length ≤ 100000 then some (.list (xs ++ ys)) else none := rfl
@[simp] theorem z_sub : pSub (.int i) (.int j) = some (.int (i - j)) := rfl
@[simp] theorem z_mul : pMul (.int i) (.int j) = if i.natAbs.log2 + j.natAbs.log2 < 1000000 then some (.int (i * j)) else none := rfl
@[simp] theorem z_fdiv : pFdiv (.int i) (.int j) = if 0 < j ∧ j.natAbs.log2 < 9000 then some (.int (i / j)) else none := rfl
@[simp] theorem z_mod : pMod (.int i) (.int j) = if 0 < j then some (.int (i % j)) else none := rfl
@[simp] theorem z_pow : pPow (.int i) (.int j) = if 0 ≤ j ∧ j ≤ 1000000 ∧ i.natAbs < 2 ^ 64 then some (.int (i ^ j.toNat)) else none := rfl
@[simp] theorem z_neg : pNeg (.int i) = some (.int (-i)) := rfl
@[simp] theorem z_lt : pLt (.int i) (.int j) = some (.bool (decide (i < j))) := rfl
@[simp] theorem z_le : pLe (.int i) (.int j) = some (.bool (decide (i ≤ j))) := rfl
@[simp] theorem z_gt : pGt (.int i) (.int j) = some (.bool (decide (j < i))) := rfl
@[simp] theorem z_ge : pGe (.int i) (.int j) = some (.bool (decide (j ≤ i))) := rfl
theorem sh_int : SeqAt.shaped (.int i) = true := rfl
theorem eqv_int : PyData.eqv (.int i) (.int j) = decide (i = j) := by
  show (i == j) = _
  by_cases h : i = j <;> simp [h]
@[simp] theorem z_eq : pEq (.int i) (.int j) = some (.bool (decide (i = j))) := by
  unfold pEq; rw [if_pos ⟨sh_int, sh_int⟩, eqv_int]
@[simp] theorem z_ne : pNe (.int i) (.int j) = some (.bool (!decide (i = j))) := by
  unfold pNe; rw [if_pos ⟨sh_int, sh_int⟩, eqv_int]
@[simp] theorem z_eqB {a b : Bool} : pEq (.bool a) (.bool b) = some (.bool (a == b)) := rfl
@[simp] theorem z_neB {a b : Bool} : pNe (.bool a) (.bool b) = some (.bool (!(a == b))) := rfl
@[simp] theorem z_is {d : PyData} : pIs d .none = some (.bool (isNone d)) := by cases d <;> rfl
@[simp] theorem z_isnot {d : PyData} : pIsNot d .none = some (.bool (!isNone d)) := by cases d <;> rfl
@[simp] theorem z_pint : pInt [.int i] = some (.int i) := rfl
@[simp] theorem z_plenL : pLen [.list xs] = some (.int xs.length) := rfl
@[simp] theorem z_plenT : pLen [.tuple xs] = some (.int xs.length) := rfl
@[simp] theorem z_ptupL : pTuple [.list xs] = some (.tuple xs) := rfl
@[simp] theorem z_ptupT : pTuple [.tuple xs] = some (.tuple xs) := rfl
@[simp] theorem z_plistL : pList [.list xs] = some (.list xs) := rfl
@[simp] theorem z_plistT : pList [.tuple xs] = some (.list xs) := rfl
@[simp] theorem z_max2 : pMax2 [.int i, .int j] = some (.int (if j > i then j else i)) := rfl
@[simp] theorem z_min2 : pMin2 [.int i, .int j] = some (.int (if j < i then j else i)) := rfl
@[simp] theorem z_rev : pRev (.tuple xs) = some (.tuple xs.reverse) := rfl
@[simp] theorem z_revL : pRev (.list xs) = some (.list xs.reverse) := rfl
@[simp] theorem z_seqL : seqOf (.list xs) = some xs := rfl
@[simp] theorem z_seqT : seqOf (.tuple xs) = some xs := rfl
@[simp] theorem z_truB {b : Bool} : truD (.bool b) = some b := rfl
@[simp] theorem z_ix {d : PyData} : pIx d (.int i) = (seqOf d).bind fun xs => (L2.ixN xs.length i).bind fun j => xs[j]? := rfl
@[simp] theorem z_slT {lo hi : Option Int} : pSl (.tuple xs) lo hi = some (.tuple (cutD xs lo hi)) := rfl
@[simp] theorem z_slL {lo hi : Option Int} : pSl (.list xs) lo hi = some (.list (cutD xs lo hi)) := rfl
@[simp] theorem z_intsOf {ns : List Int} : intsOf (ns.map PyData.int) = some ns := intsOf_map ns
end
theorem z_sortT {ns : List Int} : pSorted [.tuple (ns.map .int)] = some (.list ((srt ns).map .int)) := by simp [pSorted]
theorem z_sortL {ns : List Int} : pSorted [.list (ns.map .int)] = some (.list ((srt ns).map .int)) := by simp [pSorted]
theorem z_sumL {ns : List Int} : pSum [.list (ns.map .int)] = some (.int ns.sum) := by simp [pSum]
/-! isinstance -/
theorem kit_none_int : L2.kitB "NoneType" "int" = some false := by decide +kernel
@[simp] theorem isi_none_int : pIsi "int" .none = some (.bool false) := by
  show (L2.kitB "NoneType" "int").bind _ = _
  rw [kit_none_int]; rfl
theorem kit_bool_int : L2.kitB "bool" "int" = some true := by decide +kernel
@[simp] theorem isi_bool_int {b : Bool} : pIsi "int" (.bool b) = some (.bool true) := by
  show (L2.kitB "bool" "int").bind _ = _
  rw [kit_bool_int]; rfl
theorem kit_int_int : L2.kitB "int" "int" = some true := by decide +kernel
@[simp] theorem isi_int_int {i : Int} : pIsi "int" (.int i) = some (.bool true) := by
  show (L2.kitB "int" "int").bind _ = _
  rw [kit_int_int]; rfl
theorem kit_str_int : L2.kitB "str" "int" = some false := by decide +kernel
@[simp] theorem isi_str_int {x : Str} : pIsi "int" (.str x) = some (.bool false) := by
  show (L2.kitB "str" "int").bind _ = _
  rw [kit_str_int]; rfl
theorem kit_list_int : L2.kitB "list" "int" = some false := by decide +kernel
@[simp] theorem isi_list_int {xs : List PyData} : pIsi "int" (.list xs) = some (.bool false) := by
  show (L2.kitB "list" "int").bind _ = _
  rw [kit_list_int]; rfl
theorem kit_tuple_int : L2.kitB "tuple" "int" = some false := by decide +kernel
@[simp] theorem isi_tuple_int {xs : List PyData} : pIsi "int" (.tuple xs) = some (.bool false) := by
  show (L2.kitB "tuple" "int").bind _ = _
  rw [kit_tuple_int]; rfl
theorem kit_none_bool : L2.kitB "NoneType" "bool" = some false := by decide +kernel
@[simp] theorem isi_none_bool : pIsi "bool" .none = some (.bool false) := by
  show (L2.kitB "NoneType" "bool").bind _ = _
  rw [kit_none_bool]; rfl
theorem kit_bool_bool : L2.kitB "bool" "bool" = some true := by decide +kernel
@[simp] theorem isi_bool_bool {b : Bool} : pIsi "bool" (.bool b) = some (.bool true) := by
  show (L2.kitB "bool" "bool").bind _ = _
  rw [kit_bool_bool]; rfl
theorem kit_int_bool : L2.kitB "int" "bool" = some false := by decide +kernel
@[simp] theorem isi_int_bool {i : Int} : pIsi "bool" (.int i) = some (.bool false) := by
  show (L2.kitB "int" "bool").bind _ = _
  rw [kit_int_bool]; rfl
theorem kit_str_bool : L2.kitB "str" "bool" = some false := by decide +kernel
@[simp] theorem isi_str_bool {x : Str} : pIsi "bool" (.str x) = some (.bool false) := by
  show (L2.kitB "str" "bool").bind _ = _
  rw [kit_str_bool]; rfl
theorem kit_list_bool : L2.kitB "list" "bool" = some false := by decide +kernel
@[simp] theorem isi_list_bool {xs : List PyData} : pIsi "bool" (.list xs) = some (.bool false) := by
  show (L2.kitB "list" "bool").bind _ = _
  rw [kit_list_bool]; rfl
theorem kit_tuple_bool : L2.kitB "tuple" "bool" = some false := by decide +kernel
@[simp] theorem isi_tuple_bool {xs : List PyData} : pIsi "bool" (.tuple xs) = some (.bool false) := by
  show (L2.kitB "tuple" "bool").bind _ = _
  rw [kit_tuple_bool]; rfl
theorem kit_none_str : L2.kitB "NoneType" "str" = some false := by decide +kernel
@[simp] theorem isi_none_str : pIsi "str" .none = some (.bool false) := by
  show (L2.kitB "NoneType" "str").bind _ = _
  rw [kit_none_str]; rfl
theorem kit_bool_str : L2.kitB "bool" "str" = some false := by decide +kernel
@[simp] theorem isi_bool_str {b : Bool} : pIsi "str" (.bool b) = some (.bool false) := by
  show (L2.kitB "bool" "str").bind _ = _
  rw [kit_bool_str]; rfl
theorem kit_int_str : L2.kitB "int" "str" = some false := by decide +kernel
@[simp] theorem isi_int_str {i : Int} : pIsi "str" (.int i) = some (.bool false) := by
  show (L2.kitB "int" "str").bind _ = _
  rw [kit_int_str]; rfl
theorem kit_str_str : L2.kitB "str" "str" = some true := by decide +kernel
@[simp] theorem isi_str_str {x : Str} : pIsi "str" (.str x) = some (.bool true) := by
  show (L2.kitB "str" "str").bind _ = _
  rw [kit_str_str]; rfl
theorem kit_list_str : L2.kitB "list" "str" = some false := by decide +kernel
@[simp] theorem isi_list_str {xs : List PyData} : pIsi "str" (.list xs) = some (.bool false) := by
  show (L2.kitB "list" "str").bind _ = _
  rw [kit_list_str]; rfl
theorem kit_tuple_str : L2.kitB "tuple" "str" = some false := by decide +kernel
@[simp] theorem isi_tuple_str {xs : List PyData} : pIsi "str" (.tuple xs) = some (.bool false) := by
  show (L2.kitB "tuple" "str").bind _ = _
  rw [kit_tuple_str]; rfl
theorem kit_none_list : L2.kitB "NoneType" "list" = some false := by decide +kernel
@[simp] theorem isi_none_list : pIsi "list" .none = some (.bool false) := by
  show (L2.kitB "NoneType" "list").bind _ = _
  rw [kit_none_list]; rfl
theorem kit_bool_list : L2.kitB "bool" "list" = some false := by decide +kernel
@[simp] theorem isi_bool_list {b : Bool} : pIsi "list" (.bool b) = some (.bool false) := by
  show (L2.kitB "bool" "list").bind _ = _
  rw [kit_bool_list]; rfl
theorem kit_int_list : L2.kitB "int" "list" = some false := by decide +kernel
@[simp] theorem isi_int_list {i : Int} : pIsi "list" (.int i) = some (.bool false) := by
  show (L2.kitB "int" "list").bind _ = _
  rw [kit_int_list]; rfl
theorem kit_str_list : L2.kitB "str" "list" = some false := by decide +kernel
@[simp] theorem isi_str_list {x : Str} : pIsi "list" (.str x) = some (.bool false) := by
  show (L2.kitB "str" "list").bind _ = _
  rw [kit_str_list]; rfl
theorem kit_list_list : L2.kitB "list" "list" = some true := by decide +kernel
@[simp] theorem isi_list_list {xs : List PyData} : pIsi "list" (.list xs) = some (.bool true) := by
  show (L2.kitB "list" "list").bind _ = _
  rw [kit_list_list]; rfl
theorem kit_tuple_list : L2.kitB "tuple" "list" = some false := by decide +kernel
@[simp] theorem isi_tuple_list {xs : List PyData} : pIsi "list" (.tuple xs) = some (.bool false) := by
  show (L2.kitB "tuple" "list").bind _ = _
  rw [kit_tuple_list]; rfl
theorem kit_none_tuple : L2.kitB "NoneType" "tuple" = some false := by decide +kernel
@[simp] theorem isi_none_tuple : pIsi "tuple" .none = some (.bool false) := by
  show (L2.kitB "NoneType" "tuple").bind _ = _
  rw [kit_none_tuple]; rfl
theorem kit_bool_tuple : L2.kitB "bool" "tuple" = some false := by decide +kernel
@[simp] theorem isi_bool_tuple {b : Bool} : pIsi "tuple" (.bool b) = some (.bool false) := by
  show (L2.kitB "bool" "tuple").bind _ = _
  rw [kit_bool_tuple]; rfl
theorem kit_int_tuple : L2.kitB "int" "tuple" = some false := by decide +kernel
@[simp] theorem isi_int_tuple {i : Int} : pIsi "tuple" (.int i) = some (.bool false) := by
  show (L2.kitB "int" "tuple").bind _ = _
  rw [kit_int_tuple]; rfl
theorem kit_str_tuple : L2.kitB "str" "tuple" = some false := by decide +kernel
@[simp] theorem isi_str_tuple {x : Str} : pIsi "tuple" (.str x) = some (.bool false) := by
  show (L2.kitB "str" "tuple").bind _ = _
  rw [kit_str_tuple]; rfl
theorem kit_list_tuple : L2.kitB "list" "tuple" = some false := by decide +kernel
@[simp] theorem isi_list_tuple {xs : List PyData} : pIsi "tuple" (.list xs) = some (.bool false) := by
  show (L2.kitB "list" "tuple").bind _ = _
  rw [kit_list_tuple]; rfl
theorem kit_tuple_tuple : L2.kitB "tuple" "tuple" = some true := by decide +kernel
@[simp] theorem isi_tuple_tuple {xs : List PyData} : pIsi "tuple" (.tuple xs) = some (.bool true) := by
  show (L2.kitB "tuple" "tuple").bind _ = _
  rw [kit_tuple_tuple]; rfl
@[simp] theorem isi2_none_tuple_list : pIsi2 "tuple" "list" .none = some (.bool false) := by
  show (L2.kitB "NoneType" "tuple").bind (fun b => (L2.kitB "NoneType" "list").bind fun c => some (PyData.bool (b || c))) = _
  rw [kit_none_tuple, kit_none_list]; rfl
@[simp] theorem isi2_bool_tuple_list {b : Bool} : pIsi2 "tuple" "list" (.bool b) = some (.bool false) := by
  show (L2.kitB "bool" "tuple").bind (fun b => (L2.kitB "bool" "list").bind fun c => some (PyData.bool (b || c))) = _
  rw [kit_bool_tuple, kit_bool_list]; rfl
@[simp] theorem isi2_int_tuple_list {i : Int} : pIsi2 "tuple" "list" (.int i) = some (.bool false) := by
  show (L2.kitB "int" "tuple").bind (fun b => (L2.kitB "int" "list").bind fun c => some (PyData.bool (b || c))) = _
  rw [kit_int_tuple, kit_int_list]; rfl
@[simp] theorem isi2_str_tuple_list {x : Str} : pIsi2 "tuple" "list" (.str x) = some (.bool false) := by
  show (L2.kitB "str" "tuple").bind (fun b => (L2.kitB "str" "list").bind fun c => some (PyData.bool (b || c))) = _
  rw [kit_str_tuple, kit_str_list]; rfl
@[simp] theorem isi2_list_tuple_list {xs : List PyData} : pIsi2 "tuple" "list" (.list xs) = some (.bool true) := by
  show (L2.kitB "list" "tuple").bind (fun b => (L2.kitB "list" "list").bind fun c => some (PyData.bool (b || c))) = _
  rw [kit_list_tuple, kit_list_list]; rfl
@[simp] theorem isi2_tuple_tuple_list {xs : List PyData} : pIsi2 "tuple" "list" (.tuple xs) = some (.bool true) := by
  show (L2.kitB "tuple" "tuple").bind (fun b => (L2.kitB "tuple" "list").bind fun c => some (PyData.bool (b || c))) = _
  rw [kit_tuple_tuple, kit_tuple_list]; rfl
@[simp] theorem isi2_none_list_tuple : pIsi2 "list" "tuple" .none = some (.bool false) := by
  show (L2.kitB "NoneType" "list").bind (fun b => (L2.kitB "NoneType" "tuple").bind fun c => some (PyData.bool (b || c))) = _
  rw [kit_none_list, kit_none_tuple]; rfl
@[simp] theorem isi2_bool_list_tuple {b : Bool} : pIsi2 "list" "tuple" (.bool b) = some (.bool false) := by
  show (L2.kitB "bool" "list").bind (fun b => (L2.kitB "bool" "tuple").bind fun c => some (PyData.bool (b || c))) = _
  rw [kit_bool_list, kit_bool_tuple]; rfl
@[simp] theorem isi2_int_list_tuple {i : Int} : pIsi2 "list" "tuple" (.int i) = some (.bool false) := by
  show (L2.kitB "int" "list").bind (fun b => (L2.kitB "int" "tuple").bind fun c => some (PyData.bool (b || c))) = _
  rw [kit_int_list, kit_int_tuple]; rfl
@[simp] theorem isi2_str_list_tuple {x : Str} : pIsi2 "list" "tuple" (.str x) = some (.bool false) := by
  show (L2.kitB "str" "list").bind (fun b => (L2.kitB "str" "tuple").bind fun c => some (PyData.bool (b || c))) = _
  rw [kit_str_list, kit_str_tuple]; rfl
@[simp] theorem isi2_list_list_tuple {xs : List PyData} : pIsi2 "list" "tuple" (.list xs) = some (.bool true) := by
  show (L2.kitB "list" "list").bind (fun b => (L2.kitB "list" "tuple").bind fun c => some (PyData.bool (b || c))) = _
  rw [kit_list_list, kit_list_tuple]; rfl
@[simp] theorem isi2_tuple_list_tuple {xs : List PyData} : pIsi2 "list" "tuple" (.tuple xs) = some (.bool true) := by
  show (L2.kitB "tuple" "list").bind (fun b => (L2.kitB "tuple" "tuple").bind fun c => some (PyData.bool (b || c))) = _
  rw [kit_tuple_list, kit_tuple_tuple]; rfl
end Z
set_option Elab.async false
set_option linter.all false
set_option maxRecDepth 100000
set_option maxHeartbeats 2000000
/-! orders as lists of ints: rearrangements of a, a + 1, ..; parts and skew parts -/
namespace Om
open Z

theorem rg_nil (a c : Int) : rgI a c 0 = [] := rfl
theorem rg_len (a c : Int) (n : Nat) : (rgI a c n).length = n := by simp [rgI]
theorem rg_succ (a : Int) (n : Nat) : rgI a 1 (n + 1) = a :: rgI (a + 1) 1 n := by
  unfold rgI
  rw [List.range_succ_eq_map, List.map_cons, List.map_map]
  congr 1
  · simp
  · apply List.map_congr_left
    intro i _
    simp; omega
theorem rg_snoc (a : Int) (n : Nat) : rgI a 1 (n + 1) = rgI a 1 n ++ [a + n] := by
  unfold rgI
  rw [List.range_succ, List.map_append]
  simp
theorem rg_add (a : Int) : ∀ (n m : Nat), rgI a 1 (n + m) = rgI a 1 n ++ rgI (a + n) 1 m
  | n, 0 => by simp [rg_nil]
  | n, m + 1 => by
    rw [← Nat.add_assoc, rg_snoc, rg_add a n m, rg_snoc, List.append_assoc]
    congr 2
    simp
    try omega
theorem mem_rg {a x : Int} : ∀ {n : Nat}, x ∈ rgI a 1 n ↔ a ≤ x ∧ x < a + n
  | 0 => by simp [rg_nil]; try omega
  | n + 1 => by rw [rg_snoc, List.mem_append, mem_rg (n := n)]; simp; try omega
theorem rg_map_add (a d : Int) (n : Nat) : (rgI a 1 n).map (· + d) = rgI (a + d) 1 n := by
  unfold rgI
  rw [List.map_map]
  apply List.map_congr_left
  intro i _
  simp; omega
theorem rg_sorted (a : Int) : ∀ n : Nat, (rgI a 1 n).Pairwise (· < ·)
  | 0 => .nil
  | n + 1 => by
    rw [rg_snoc, List.pairwise_append]
    refine ⟨rg_sorted a n, List.pairwise_singleton _ _, fun x hx y hy => ?_⟩
    have := mem_rg.mp hx
    simp at hy; omega
theorem srt_rg (a : Int) (n : Nat) : srt (rgI a 1 n) = rgI a 1 n := (srt_unique (.refl _) ((rg_sorted a n).imp fun h => Int.le_of_lt h)).symm
theorem srt_iff {l : List Int} {a : Int} {n : Nat} : srt l = rgI a 1 n ↔ l.Perm (rgI a 1 n) := by
  constructor
  · intro h
    have := srt_perm l
    rw [h] at this
    exact this.symm
  · intro h
    rw [← srt_rg a n]
    exact srt_unique ((srt_perm l).trans h) (srt_sorted l)
/-- a rearrangement of a, a + 1, .. -/
def IsR (a : Int) (l : List Int) : Prop := l.Perm (rgI a 1 l.length)
theorem isR_nil (a : Int) : IsR a [] := .refl _
theorem IsR.mem {a x : Int} {l : List Int} (h : IsR a l) : x ∈ l ↔ a ≤ x ∧ x < a + l.length := h.mem_iff.trans mem_rg
theorem IsR.nodup {a : Int} {l : List Int} (h : IsR a l) : l.Nodup := h.nodup_iff.mpr ((rg_sorted a l.length).imp fun h => Int.ne_of_lt h)
theorem IsR.perm {a : Int} {l m : List Int} (h : IsR a l) (p : m.Perm l) : IsR a m := by
  unfold IsR; rw [p.length_eq]; exact p.trans h
theorem IsR.shift {a : Int} {l : List Int} (h : IsR a l) (d : Int) : IsR (a + d) (l.map (· + d)) := by
  unfold IsR
  rw [List.length_map, ← rg_map_add]
  exact h.map _
theorem IsR.shift' {a : Int} {l : List Int} (h : IsR a l) (d : Int) : IsR (a - d) (l.map (· - d)) := by
  have := h.shift (-d)
  simpa [Int.sub_eq_add_neg] using this
theorem IsR.append {a : Int} {l m : List Int} (h : IsR a l) (k : IsR (a + l.length) m) : IsR a (l ++ m) := by
  unfold IsR
  rw [List.length_append, rg_add]
  exact List.Perm.append h k
theorem IsR.append' {a : Int} {l m : List Int} (h : IsR (a + m.length) l) (k : IsR a m) : IsR a (l ++ m) :=
  (k.append h).perm List.perm_append_comm
theorem IsR.rest {a : Int} {l m : List Int} (h : IsR a (l ++ m)) (k : IsR a l) : IsR (a + l.length) m := by
  unfold IsR at *
  rw [List.length_append, rg_add] at h
  exact (List.perm_append_left_iff _).mp (h.trans (List.Perm.append k.symm (.refl _)) )
theorem IsR.rest' {a : Int} {l m : List Int} (h : IsR a (l ++ m)) (k : IsR (a + m.length) l) : IsR a m := by
  unfold IsR at *
  rw [List.length_append, Nat.add_comm, rg_add] at h
  have h1 : (l ++ m).Perm (l ++ rgI a 1 m.length) := h.trans ((List.Perm.append (.refl _) k.symm).trans List.perm_append_comm)
  exact (List.perm_append_left_iff _).mp h1
/-- strictly rising ints that fill their room -/
theorem strict_rg : ∀ {l : List Int} {c : Int}, l.Pairwise (· < ·) → (∀ x ∈ l, c < x ∧ x ≤ c + l.length) → l = rgI (c + 1) 1 l.length
  | [], c, _, _ => rfl
  | x :: r, c, h, hx => by
    have hp := List.pairwise_cons.mp h
    have h0 := hx x List.mem_cons_self
    have ih := strict_rg (l := r) (c := c + 1) hp.2 fun y hy => by
      have h1 := hp.1 y hy
      have h2 := hx y (List.mem_cons_of_mem _ hy)
      simp at h2 ⊢; omega
    rw [List.length_cons, rg_succ, ← ih]
    congr 1
    cases r with
    | nil => simp at h0; omega
    | cons y r' =>
      rw [List.length_cons, rg_succ] at ih
      have hy : y = c + 1 + 1 := (List.cons.inj ih).1
      have := hp.1 y List.mem_cons_self
      omega
theorem isR_of {l : List Int} {c : Int} (hn : l.Nodup) (hx : ∀ x ∈ l, c < x ∧ x ≤ c + l.length) : IsR (c + 1) l := by
  have hs : (srt l).Pairwise (· < ·) := by
    have h1 := srt_sorted l
    have h2 : (srt l).Nodup := (srt_perm l).nodup_iff.mpr hn
    exact (h1.and h2).imp fun h => by omega
  have hl : (srt l).length = l.length := (srt_perm l).length_eq
  have := strict_rg (c := c) hs fun x hx' => by
    rw [hl]; exact hx x ((srt_perm l).mem_iff.mp hx')
  unfold IsR
  rw [hl] at this
  exact srt_iff.mp this
/-! ### the greatest of the first ones -/
def mx (l : List Int) : Int := l.foldl (fun m x => if x > m then x else m) 0
theorem mx_snoc (l : List Int) (x : Int) : mx (l ++ [x]) = if x > mx l then x else mx l := by
  unfold mx; rw [List.foldl_append]; rfl
theorem snoc_ind {P : List Int → Prop} (h0 : P []) (hs : ∀ l x, P l → P (l ++ [x])) (l : List Int) : P l := by
  have all : ∀ m : List Int, P m.reverse := by
    intro m
    induction m with
    | nil => exact h0
    | cons x m ih => rw [List.reverse_cons]; exact hs _ _ ih
  have := all l.reverse
  rwa [List.reverse_reverse] at this
theorem mx_spec (l : List Int) : 0 ≤ mx l ∧ (∀ x ∈ l, x ≤ mx l) ∧ (mx l = 0 ∨ mx l ∈ l) := by
  refine snoc_ind (P := fun l => 0 ≤ mx l ∧ (∀ x ∈ l, x ≤ mx l) ∧ (mx l = 0 ∨ mx l ∈ l)) ⟨by decide, by simp, .inl rfl⟩ (fun l x ⟨h1, h2, h3⟩ => ?_) l
  rw [mx_snoc]
  by_cases h : x > mx l
  · rw [if_pos h]
    refine ⟨by omega, fun y hy => ?_, .inr (by simp)⟩
    rcases List.mem_append.mp hy with hy | hy
    · have := h2 y hy; omega
    · simp at hy; omega
  · rw [if_neg h]
    refine ⟨h1, fun y hy => ?_, ?_⟩
    · rcases List.mem_append.mp hy with hy | hy
      · exact h2 y hy
      · simp at hy; omega
    · rcases h3 with h3 | h3
      · exact .inl h3
      · exact .inr (List.mem_append_left _ h3)
/-- the first ones of an order are an order exactly if the greatest is as many as they are -/
theorem cut_iff {p q : List Int} (h : IsR 1 (p ++ q)) : mx p = p.length ↔ IsR 1 p := by
  have hn := h.nodup
  obtain ⟨h1, h2, h3⟩ := mx_spec p
  constructor
  · intro e
    have := isR_of (l := p) (c := 0) (List.nodup_append.mp hn).1 fun x hx => by
      have a1 := h2 x hx
      have a2 := (h.mem (x := x)).mp (List.mem_append_left _ hx)
      omega
    simpa using this
  · intro k
    cases hp : p with
    | nil => rfl
    | cons x r =>
      have hl : (p.length : Int) ∈ p := k.mem.mpr (by rw [hp]; simp; omega)
      have a1 := h2 _ hl
      rw [← hp]
      rcases h3 with h3 | h3
      · have : 0 < p.length := by rw [hp]; simp
        omega
      · have := k.mem.mp h3
        omega
/-! ### the parts, as the program goes along -/
def go (c m k : Int) (cur : List Int) : List Int → List (List Int)
  | [] => []
  | x :: r => if (if x > m then x else m) = k + 1 then (cur ++ [x]).map (· - c) :: go (k + 1) (if x > m then x else m) (k + 1) [] r
    else go c (if x > m then x else m) (k + 1) (cur ++ [x]) r
theorem go_cons (c m k : Int) (cur : List Int) (x : Int) (r : List Int) : go c m k cur (x :: r) = if (if x > m then x else m) = k + 1 then (cur ++ [x]).map (· - c) :: go (k + 1) (if x > m then x else m) (k + 1) [] r
    else go c (if x > m then x else m) (k + 1) (cur ++ [x]) r := rfl
def parts (o : List Int) : List (List Int) := go 0 0 0 [] o
theorem go_shift (d : Int) : ∀ (r : List Int) (c m k : Int) (cur : List Int), go (c + d) (m + d) (k + d) (cur.map (· + d)) (r.map (· + d)) = go c m k cur r
  | [], _, _, _, _ => rfl
  | x :: r, c, m, k, cur => by
    have e1 : (if x + d > m + d then x + d else m + d) = (if x > m then x else m) + d := by
      by_cases h : x > m
      · rw [if_pos h, if_pos (by omega)]
      · rw [if_neg h, if_neg (by omega)]
    have e2 : cur.map (· + d) ++ [x + d] = (cur ++ [x]).map (· + d) := by simp
    have e3 : ((cur ++ [x]).map (· + d)).map (· - (c + d)) = (cur ++ [x]).map (· - c) := by
      rw [List.map_map]; apply List.map_congr_left; intro y _; simp; omega
    rw [List.map_cons]
    unfold go
    rw [e1, e2]
    by_cases h : (if x > m then x else m) = k + 1
    · rw [if_pos h, if_pos (by omega), e3]
      have := go_shift d r (k + 1) (if x > m then x else m) (k + 1) []
      rw [List.map_nil] at this
      rw [show k + d + 1 = k + 1 + d by omega, this]
    · rw [if_neg h, if_neg (by omega)]
      rw [show k + d + 1 = k + 1 + d by omega, go_shift d r c _ (k + 1) (cur ++ [x])]
theorem go_at (s : Int) (r : List Int) : go s s s [] r = parts (r.map (· - s)) := by
  have := go_shift s (r.map (· - s)) 0 0 0 []
  rw [List.map_nil, List.map_map] at this
  have e : r.map ((· + s) ∘ (· - s)) = r := by
    rw [show ((· + s) ∘ (· - s) : Int → Int) = id by funext x; simp]
    exact List.map_id r
  rw [e] at this
  simpa [parts] using this
/-- the least place behind which an order begins anew -/
def First (r : List Int) (s : Nat) : Prop := 1 ≤ s ∧ s ≤ r.length ∧ IsR 1 (r.take s) ∧ ∀ j, 1 ≤ j → j < s → ¬ IsR 1 (r.take j)
theorem first_ex {r : List Int} (h : IsR 1 r) (hr : r ≠ []) : ∃ s, First r s := by
  have all : ∀ n, (∃ s, 1 ≤ s ∧ s ≤ n ∧ IsR 1 (r.take s)) → ∃ s, 1 ≤ s ∧ s ≤ n ∧ IsR 1 (r.take s) ∧ ∀ j, 1 ≤ j → j < s → ¬ IsR 1 (r.take j) := by
    intro n
    induction n with
    | zero => rintro ⟨s, h1, h2, _⟩; omega
    | succ n ih =>
      rintro ⟨s, h1, h2, h3⟩
      by_cases hx : ∃ s, 1 ≤ s ∧ s ≤ n ∧ IsR 1 (r.take s)
      · obtain ⟨t, t1, t2, t3, t4⟩ := ih hx
        exact ⟨t, t1, by omega, t3, t4⟩
      · exact ⟨s, h1, h2, h3, fun j j1 j2 j3 => hx ⟨j, j1, by omega, j3⟩⟩
  have hl : 1 ≤ r.length := by cases r with | nil => exact absurd rfl hr | cons _ _ => simp
  obtain ⟨s, h1, h2, h3, h4⟩ := all r.length ⟨r.length, hl, Nat.le_refl _, by rw [List.take_length]; exact h⟩
  exact ⟨s, h1, h2, h3, h4⟩
theorem parts_first {r : List Int} {s : Nat} (h : IsR 1 r) (hs : First r s) : parts r = r.take s :: parts ((r.drop s).map (· - (s : Int))) := by
  obtain ⟨h1, h2, h3, h4⟩ := hs
  -- going along from j things
  have all : ∀ (k j : Nat), j + k + 1 = s → go 0 (mx (r.take j)) j (r.take j) (r.drop j) = r.take s :: go s s s [] (r.drop s) := by
    intro k
    induction k with
    | zero =>
      intro j hj
      have hjl : j < r.length := by omega
      rw [List.drop_eq_getElem_cons hjl, go_cons]
      have et : r.take j ++ [r[j]] = r.take (j + 1) := by rw [List.take_succ_eq_append_getElem hjl]
      rw [← mx_snoc, et]
      have hsj : j + 1 = s := by omega
      rw [hsj]
      have hlen : (r.take s).length = s := by rw [List.length_take]; omega
      have hm : mx (r.take s) = s := by
        have := (cut_iff (p := r.take s) (q := r.drop s) (by rw [List.take_append_drop]; exact h)).mpr h3
        rw [this, hlen]
      have hc : (j : Int) + 1 = s := by omega
      rw [hm, hc, if_pos rfl]
      congr 1
      rw [List.map_congr_left (g := id) (fun x _ => by simp), List.map_id]
    | succ k ih =>
      intro j hj
      have hjl : j < r.length := by omega
      rw [List.drop_eq_getElem_cons hjl, go_cons]
      have et : r.take j ++ [r[j]] = r.take (j + 1) := by rw [List.take_succ_eq_append_getElem hjl]
      rw [← mx_snoc, et]
      have hlen : (r.take (j + 1)).length = j + 1 := by rw [List.length_take]; omega
      have hm : ¬ mx (r.take (j + 1)) = (j : Int) + 1 := fun e => by
        have := (cut_iff (p := r.take (j + 1)) (q := r.drop (j + 1)) (by rw [List.take_append_drop]; exact h)).mp (by rw [hlen, e]; simp)
        exact h4 (j + 1) (by omega) (by omega) this
      rw [if_neg hm]
      have := ih (j + 1) (by omega)
      simpa using this
  have := all (s - 1) 0 (by omega)
  rw [go_at] at this
  simpa [parts, mx] using this
theorem rest_ord {r : List Int} {s : Nat} (h : IsR 1 r) (hs : First r s) : IsR 1 ((r.drop s).map (· - (s : Int))) := by
  have h0 : IsR 1 (r.take s ++ r.drop s) := by rw [List.take_append_drop]; exact h
  have h1 := h0.rest hs.2.2.1
  have hl : (r.take s).length = s := by rw [List.length_take]; have := hs.2.1; omega
  rw [hl] at h1
  have := h1.shift' (s : Int)
  simpa [Int.add_sub_cancel] using this
theorem parts_nil : parts [] = [] := rfl
/-- going down from an order to its rest -/
theorem ord_ind {P : List Int → Prop} (h0 : P []) (hs : ∀ r s, IsR 1 r → First r s → P ((r.drop s).map (· - (s : Int))) → P r) : ∀ r, IsR 1 r → P r := by
  have all : ∀ n r, r.length ≤ n → IsR 1 r → P r := by
    intro n
    induction n with
    | zero => intro r hr _; have e : r = [] := List.eq_nil_of_length_eq_zero (by omega); subst e; exact h0
    | succ n ih =>
      intro r hr h
      by_cases e : r = []
      · subst e; exact h0
      · obtain ⟨s, hs'⟩ := first_ex h e
        refine hs r s h hs' (ih _ ?_ (rest_ord h hs'))
        rw [List.length_map, List.length_drop]
        have := hs'.1; have := hs'.2.1; omega
  exact fun r h => all r.length r (Nat.le_refl _) h
theorem parts_ord : ∀ r, IsR 1 r → ∀ p ∈ parts r, IsR 1 p := ord_ind (by simp [parts, go]) fun r s h hs ih p hp => by
  rw [parts_first h hs] at hp
  rcases List.mem_cons.mp hp with e | hp
  · subst e; exact hs.2.2.1
  · exact ih p hp
theorem take_take_le {α : Type} (l : List α) {s p : Nat} (h : s ≤ p) : (l.take p).take s = l.take s := by
  rw [List.take_take, Nat.min_eq_left h]
/-- an order that begins anew behind p things -/
theorem parts_cut : ∀ q, IsR 1 q → ∀ p : Nat, p ≤ q.length → IsR 1 (q.take p) → parts q = parts (q.take p) ++ parts ((q.drop p).map (· - (p : Int))) := by
  refine ord_ind (fun p hp _ => ?_) fun q s h hs ih p hp hc => ?_
  · have : p = 0 := by simpa using hp
    subst this; rfl
  · obtain ⟨h1, h2, h3, h4⟩ := id hs
    by_cases hp0 : p = 0
    · subst hp0
      simp [parts_nil]
    · have hsp : s ≤ p := by
        apply Decidable.byContradiction
        intro hlt
        exact h4 p (by omega) (by omega) hc
      have hl : ((q.drop s).map (· - (s : Int))).length = q.length - s := by simp
      have e1 : ((q.drop s).map (· - (s : Int))).take (p - s) = ((q.take p).drop s).map (· - (s : Int)) := by
        rw [← List.map_take]
        congr 1
        rw [List.drop_take]
      have hsf : First (q.take p) s := ⟨h1, by rw [List.length_take]; omega, by rw [take_take_le q hsp]; exact h3, fun j j1 j2 => by rw [take_take_le q (by omega)]; exact h4 j j1 j2⟩
      have hc2 : IsR 1 (((q.drop s).map (· - (s : Int))).take (p - s)) := by
        rw [e1]; exact rest_ord hc hsf
      have := ih (p - s) (by rw [hl]; omega) hc2
      rw [parts_first h hs, this, parts_first hc hsf, take_take_le q hsp, e1, List.cons_append]
      congr 3
      rw [← List.map_drop, List.map_map, List.drop_drop]
      have : s + (p - s) = p := by omega
      rw [this]
      apply List.map_congr_left
      intro x _
      simp; omega
theorem parts_one {q : List Int} (h : IsR 1 q) (hq : q ≠ []) (hn : ∀ j, 1 ≤ j → j < q.length → ¬ IsR 1 (q.take j)) : parts q = [q] := by
  obtain ⟨s, hs⟩ := first_ex h hq
  have e : s = q.length := by
    have h1 := hs.1; have h2 := hs.2.1
    apply Decidable.byContradiction
    intro hne
    exact hn s h1 (by omega) hs.2.2.1
  rw [parts_first h hs, e]
  simp [parts_nil]
theorem go_len : ∀ (r : List Int) (c m k : Int) (cur : List Int), (go c m k cur r).length ≤ r.length
  | [], _, _, _, _ => Nat.le_refl _
  | x :: r, c, m, k, cur => by
    rw [go_cons]
    by_cases h : (if x > m then x else m) = k + 1
    · rw [if_pos h, List.length_cons, List.length_cons]
      exact Nat.succ_le_succ (go_len r _ _ _ _)
    · rw [if_neg h, List.length_cons]
      exact Nat.le_succ_of_le (go_len r _ _ _ _)
theorem parts_len (o : List Int) : (parts o).length ≤ o.length := go_len o _ _ _ _
/-! ### skew parts -/
def skewParts (o : List Int) : List (List Int) := ((parts o.reverse).reverse).map List.reverse
def FirstS (r : List Int) (s : Nat) : Prop := 1 ≤ s ∧ s ≤ r.length ∧ IsR ((r.length - s : Nat) + 1) (r.take s) ∧ ∀ j, 1 ≤ j → j < s → ¬ IsR ((r.length - j : Nat) + 1) (r.take j)
theorem firstS_ex {r : List Int} (h : IsR 1 r) (hr : r ≠ []) : ∃ s, FirstS r s := by
  have all : ∀ n, (∃ s, 1 ≤ s ∧ s ≤ n ∧ IsR ((r.length - s : Nat) + 1) (r.take s)) → ∃ s, 1 ≤ s ∧ s ≤ n ∧ IsR ((r.length - s : Nat) + 1) (r.take s) ∧ ∀ j, 1 ≤ j → j < s → ¬ IsR ((r.length - j : Nat) + 1) (r.take j) := by
    intro n
    induction n with
    | zero => rintro ⟨s, h1, h2, _⟩; omega
    | succ n ih =>
      rintro ⟨s, h1, h2, h3⟩
      by_cases hx : ∃ s, 1 ≤ s ∧ s ≤ n ∧ IsR ((r.length - s : Nat) + 1) (r.take s)
      · obtain ⟨t, t1, t2, t3, t4⟩ := ih hx
        exact ⟨t, t1, by omega, t3, t4⟩
      · exact ⟨s, h1, h2, h3, fun j j1 j2 j3 => hx ⟨j, j1, by omega, j3⟩⟩
  have hl : 1 ≤ r.length := by cases r with | nil => exact absurd rfl hr | cons _ _ => simp
  obtain ⟨s, h1, h2, h3, h4⟩ := all r.length ⟨r.length, hl, Nat.le_refl _, by rw [List.take_length, Nat.sub_self]; exact h⟩
  exact ⟨s, h1, h2, h3, h4⟩
/-- the first ones are the greatest exactly if the others are the least -/
theorem skew_iff {r : List Int} (h : IsR 1 r) {s : Nat} (hs : s ≤ r.length) : IsR ((r.length - s : Nat) + 1) (r.take s) ↔ IsR 1 (r.drop s) := by
  have h0 : IsR 1 (r.take s ++ r.drop s) := by rw [List.take_append_drop]; exact h
  have hd : (r.drop s).length = r.length - s := List.length_drop
  constructor
  · intro k
    refine h0.rest' ?_
    rw [hd, Int.add_comm]; exact k
  · intro k
    have h1 : IsR 1 (r.drop s ++ r.take s) := h0.perm List.perm_append_comm
    have := h1.rest k
    rw [hd, Int.add_comm] at this; exact this
theorem isR_rev {a : Int} {l : List Int} (h : IsR a l) : IsR a l.reverse := h.perm (List.reverse_perm l)
theorem isR_rev_iff {a : Int} {l : List Int} : IsR a l.reverse ↔ IsR a l := ⟨fun h => by simpa using isR_rev h, isR_rev⟩
theorem skew_first {r : List Int} {s : Nat} (h : IsR 1 r) (hs : FirstS r s) : skewParts r = (r.take s).map (· - ((r.length - s : Nat) : Int)) :: skewParts (r.drop s) := by
  obtain ⟨h1, h2, h3, h4⟩ := hs
  have hq : IsR 1 r.reverse := isR_rev h
  have et : r.reverse.take (r.length - s) = (r.drop s).reverse := by
    rw [List.take_reverse]
    congr 2
    omega
  have ed : r.reverse.drop (r.length - s) = (r.take s).reverse := by
    rw [List.drop_reverse]
    congr 2
    omega
  have hc : IsR 1 (r.reverse.take (r.length - s)) := by
    rw [et]; exact isR_rev ((skew_iff h h2).mp h3)
  have hcut := parts_cut r.reverse hq (r.length - s) (by simp) hc
  have ht : IsR 1 (((r.take s).reverse).map (· - ((r.length - s : Nat) : Int))) := by
    have := (isR_rev h3).shift' ((r.length - s : Nat) : Int)
    rw [show ((r.length - s : Nat) : Int) + 1 - ((r.length - s : Nat) : Int) = 1 by omega] at this
    exact this
  have hlen : (((r.take s).reverse).map (· - ((r.length - s : Nat) : Int))).length = s := by simp; omega
  have one : parts (((r.take s).reverse).map (· - ((r.length - s : Nat) : Int))) = [((r.take s).reverse).map (· - ((r.length - s : Nat) : Int))] := by
    refine parts_one ht (fun e => by rw [e] at hlen; simp at hlen; omega) fun j j1 j2 hj => ?_
    have j2 : j < s := Nat.lt_of_lt_of_eq j2 hlen
    -- then r would begin with s - j greatest ones
    refine h4 (s - j) (by omega) (by omega) ((skew_iff h (by omega)).mpr ?_)
    have e1 : (((r.take s).reverse).map (· - ((r.length - s : Nat) : Int))).take j = (((r.drop (s - j)).take j).reverse).map (· - ((r.length - s : Nat) : Int)) := by
      rw [← List.map_take, List.take_reverse, List.length_take, List.drop_take, show min s r.length = s by omega, show s - (s - j) = j by omega]
    rw [e1] at hj
    have hlj : ((r.drop (s - j)).take j).length = j := by rw [List.length_take, List.length_drop]; omega
    have k1 : IsR ((r.length - s : Nat) + 1) ((r.drop (s - j)).take j) := by
      have := hj.shift ((r.length - s : Nat) : Int)
      rw [List.map_map] at this
      have e2 : (((r.drop (s - j)).take j).reverse).map ((fun x => x + ((r.length - s : Nat) : Int)) ∘ (fun x => x - ((r.length - s : Nat) : Int))) = ((r.drop (s - j)).take j).reverse := by
        rw [show ((fun x => x + ((r.length - s : Nat) : Int)) ∘ (fun x => x - ((r.length - s : Nat) : Int)) : Int → Int) = id by funext x; simp]
        exact List.map_id _
      rw [e2, isR_rev_iff, Int.add_comm] at this
      exact this
    have e3 : r.drop (s - j) = (r.drop (s - j)).take j ++ r.drop s := by
      have := (List.take_append_drop j (r.drop (s - j))).symm
      rw [List.drop_drop] at this
      rw [show s - j + j = s by omega] at this
      exact this
    rw [e3]
    have k2 : IsR 1 (r.drop s) := (skew_iff h h2).mp h3
    refine IsR.append' ?_ k2
    rw [List.length_drop, Int.add_comm]; exact k1
  unfold skewParts
  rw [hcut, et, ed, one]
  simp
theorem drop_ord {r : List Int} {s : Nat} (h : IsR 1 r) (hs : FirstS r s) : IsR 1 (r.drop s) := (skew_iff h hs.2.1).mp hs.2.2.1
theorem take_ord {r : List Int} {s : Nat} (h : IsR 1 r) (hs : FirstS r s) : IsR 1 ((r.take s).map (· - ((r.length - s : Nat) : Int))) := by
  have := hs.2.2.1.shift' ((r.length - s : Nat) : Int)
  rw [show ((r.length - s : Nat) : Int) + 1 - ((r.length - s : Nat) : Int) = 1 by omega] at this
  exact this
theorem skew_ind {P : List Int → Prop} (h0 : P []) (hs : ∀ r s, IsR 1 r → FirstS r s → P (r.drop s) → P r) : ∀ r, IsR 1 r → P r := by
  have all : ∀ n r, r.length ≤ n → IsR 1 r → P r := by
    intro n
    induction n with
    | zero => intro r hr _; have e : r = [] := List.eq_nil_of_length_eq_zero (by omega); subst e; exact h0
    | succ n ih =>
      intro r hr h
      by_cases e : r = []
      · subst e; exact h0
      · obtain ⟨s, hs'⟩ := firstS_ex h e
        refine hs r s h hs' (ih _ ?_ (drop_ord h hs'))
        rw [List.length_drop]
        have := hs'.1; have := hs'.2.1; omega
  exact fun r h => all r.length r (Nat.le_refl _) h
theorem skew_nil : skewParts [] = [] := rfl
theorem skew_ord : ∀ r, IsR 1 r → ∀ p ∈ skewParts r, IsR 1 p := skew_ind (by simp [skewParts, parts, go]) fun r s h hs ih p hp => by
  rw [skew_first h hs] at hp
  rcases List.mem_cons.mp hp with e | hp
  · subst e; exact take_ord h hs
  · exact ih p hp
/-! ### the mirror -/
def mir (o : List Int) : List Int := o.map fun x => (o.length : Int) + 1 - x
theorem rg_mir (a K : Int) : ∀ n : Nat, ((rgI a 1 n).map fun x => K - x).Perm (rgI (K - a - n + 1) 1 n)
  | 0 => .refl _
  | n + 1 => by
    rw [rg_succ a n, rg_snoc, List.map_cons]
    have := rg_mir (a + 1) K n
    have e : K - (a + 1) - (n : Int) + 1 = K - a - ((n + 1 : Nat) : Int) + 1 := by omega
    rw [e] at this
    have e2 : K - a - ((n + 1 : Nat) : Int) + 1 + (n : Int) = K - a := by omega
    rw [e2]
    exact (List.Perm.cons _ this).trans (List.perm_append_comm (l₁ := [K - a]) (l₂ := rgI (K - a - ((n + 1 : Nat) : Int) + 1) 1 n))
theorem IsR.mirrored {a : Int} {l : List Int} (h : IsR a l) (K : Int) : IsR (K - a - l.length + 1) (l.map fun x => K - x) := by
  unfold IsR
  rw [List.length_map]
  exact (h.map _).trans (rg_mir a K l.length)
theorem mir_ord {o : List Int} (h : IsR 1 o) : IsR 1 (mir o) := by
  have := h.mirrored ((o.length : Int) + 1)
  rw [show (o.length : Int) + 1 - 1 - o.length + 1 = 1 by omega] at this
  exact this
theorem unmir {l : List Int} (K : Int) : (l.map fun x => K - x).map (fun x => K - x) = l := by
  rw [List.map_map]
  rw [show ((fun x => K - x) ∘ (fun x => K - x) : Int → Int) = id by funext x; show K - (K - x) = x; omega]
  exact List.map_id l
theorem mir_first {o : List Int} {s : Nat} (h : IsR 1 o) (hs : First o s) : FirstS (mir o) s := by
  have hl : (mir o).length = o.length := by simp [mir]
  have key : ∀ j, j ≤ o.length → (IsR (((mir o).length - j : Nat) + 1) ((mir o).take j) ↔ IsR 1 (o.take j)) := fun j hj => by
    have hlj : (o.take j).length = j := by rw [List.length_take]; omega
    have e : (mir o).take j = (o.take j).map fun x => (o.length : Int) + 1 - x := by unfold mir; rw [← List.map_take]
    rw [hl, e]
    constructor
    · intro k
      have := k.mirrored ((o.length : Int) + 1)
      rw [unmir, List.length_map, hlj, show (o.length : Int) + 1 - (((o.length - j : Nat) : Int) + 1) - (j : Int) + 1 = 1 by omega] at this
      exact this
    · intro k
      have := k.mirrored ((o.length : Int) + 1)
      rw [hlj, show (o.length : Int) + 1 - 1 - (j : Int) + 1 = ((o.length - j : Nat) : Int) + 1 by omega] at this
      exact this
  obtain ⟨h1, h2, h3, h4⟩ := hs
  exact ⟨h1, by rw [hl]; exact h2, (key s h2).mpr h3, fun j j1 j2 k => h4 j j1 j2 ((key j (by omega)).mp k)⟩
theorem skew_mir : ∀ o, IsR 1 o → skewParts (mir o) = (parts o).map mir := ord_ind rfl fun o s h hs ih => by
  have hs2 := mir_first h hs
  have hl : (mir o).length = o.length := by simp [mir]
  have h2 := hs.2.1
  rw [skew_first (mir_ord h) hs2, parts_first h hs, List.map_cons]
  have e1 : ((mir o).take s).map (· - (((mir o).length - s : Nat) : Int)) = mir (o.take s) := by
    have hlj : (o.take s).length = s := by rw [List.length_take]; omega
    rw [hl]
    unfold mir
    rw [← List.map_take, List.map_map, hlj]
    apply List.map_congr_left
    intro x _
    simp; omega
  have e2 : (mir o).drop s = mir ((o.drop s).map (· - (s : Int))) := by
    unfold mir
    rw [← List.map_drop, List.map_map, List.length_map, List.length_drop]
    apply List.map_congr_left
    intro x _
    simp; omega
  rw [e1, e2, ih]
/-! ### sums -/
def summed (a b : List Int) : List Int := a ++ b.map (· + (a.length : Int))
def skewSummed (a b : List Int) : List Int := a.map (· + (b.length : Int)) ++ b
theorem summed_ord {a b : List Int} (h : IsR 1 a) (k : IsR 1 b) : IsR 1 (summed a b) := h.append (k.shift _)
theorem skewSummed_ord {a b : List Int} (h : IsR 1 a) (k : IsR 1 b) : IsR 1 (skewSummed a b) := IsR.append' (h.shift _) k
theorem parts_sum : ∀ o, IsR 1 o → ∀ a, (parts o).foldl summed a = summed a o := ord_ind (fun a => by simp [parts, go, summed]) fun o s h hs ih a => by
  rw [parts_first h hs, List.foldl_cons, ih]
  have h2 := hs.2.1
  have hlj : (o.take s).length = s := by rw [List.length_take]; omega
  unfold summed
  rw [List.append_assoc]
  congr 1
  have e : o = o.take s ++ o.drop s := (List.take_append_drop s o).symm
  conv => rhs; rw [e, List.map_append]
  congr 1
  rw [List.map_map, List.length_append, List.length_map, hlj]
  apply List.map_congr_left
  intro x _
  simp; omega
theorem skew_sum : ∀ o, IsR 1 o → ∀ a, (skewParts o).foldl skewSummed a = skewSummed a o := skew_ind (fun a => by simp [skewParts, parts, go, skewSummed]) fun o s h hs ih a => by
  rw [skew_first h hs, List.foldl_cons, ih]
  have h2 := hs.2.1
  have hlj : (o.take s).length = s := by rw [List.length_take]; omega
  unfold skewSummed
  have e : o = o.take s ++ o.drop s := (List.take_append_drop s o).symm
  conv => rhs; rw [e, ← List.append_assoc]
  congr 1
  rw [List.map_append, List.map_map, List.map_map, List.length_map, List.length_drop, hlj]
  congr 1
  · apply List.map_congr_left
    intro x _
    simp; omega
  · rw [List.map_congr_left (g := id) (fun x _ => by simp), List.map_id]
/-! ### put together -/
def W : List (Int × List Int) → Int → Int
  | [], _ => 0
  | q :: r, v => (if q.1 < v then (q.2.length : Int) else 0) + W r v
theorem W_mono : ∀ (ps : List (Int × List Int)) {v w : Int}, v ≤ w → W ps v ≤ W ps w
  | [], _, _, _ => Int.le_refl _
  | q :: r, v, w, h => by
    have := W_mono r h
    unfold W
    by_cases h1 : q.1 < v
    · rw [if_pos h1, if_pos (by omega)]; omega
    · rw [if_neg h1]
      by_cases h2 : q.1 < w
      · rw [if_pos h2]; omega
      · rw [if_neg h2]; omega
theorem W_nonneg : ∀ (ps : List (Int × List Int)) (v : Int), 0 ≤ W ps v
  | [], _ => Int.le_refl _
  | q :: r, v => by
    have := W_nonneg r v
    unfold W
    by_cases h1 : q.1 < v
    · rw [if_pos h1]; omega
    · rw [if_neg h1]; omega
theorem W_next : ∀ (ps : List (Int × List Int)) {q}, q ∈ ps → W ps q.1 + q.2.length ≤ W ps (q.1 + 1)
  | p :: r, q, h => by
    unfold W
    rcases List.mem_cons.mp h with e | h
    · subst e
      rw [if_neg (by omega), if_pos (by omega)]
      have := W_mono r (v := q.1) (w := q.1 + 1) (by omega)
      omega
    · have := W_next r h
      by_cases h1 : p.1 < q.1
      · rw [if_pos h1, if_pos (by omega)]; omega
      · rw [if_neg h1]
        by_cases h2 : p.1 < q.1 + 1
        · rw [if_pos h2]; omega
        · rw [if_neg h2]; omega
def fill (ps qs : List (Int × List Int)) : List Int := qs.flatMap fun q => q.2.map (W ps q.1 + ·)
theorem W_total : ∀ (ps : List (Int × List Int)) (v : Int), W ps v ≤ ((ps.map fun q => q.2.length).sum : Nat)
  | [], _ => Int.le_refl _
  | q :: r, v => by
    have := W_total r v
    unfold W
    rw [List.map_cons, List.sum_cons]
    by_cases h1 : q.1 < v
    · rw [if_pos h1]; omega
    · rw [if_neg h1]; omega
theorem fill_len (ps : List (Int × List Int)) : ∀ qs : List (Int × List Int), (fill ps qs).length = (qs.map fun q => q.2.length).sum
  | [] => rfl
  | q :: r => by
    have := fill_len ps r
    unfold fill at *
    rw [List.flatMap_cons, List.length_append, this, List.length_map, List.map_cons, List.sum_cons]
theorem fill_nodup (ps : List (Int × List Int)) : ∀ qs : List (Int × List Int), (∀ q ∈ qs, q ∈ ps ∧ IsR 1 q.2) → (qs.map (·.1)).Nodup → (fill ps qs).Nodup
  | [], _, _ => List.nodup_nil
  | q :: r, h, hn => by
    unfold fill
    rw [List.flatMap_cons]
    rw [List.map_cons, List.nodup_cons] at hn
    have ih := fill_nodup ps r (fun p hp => h p (List.mem_cons_of_mem _ hp)) hn.2
    refine List.nodup_append.mpr ⟨?_, ih, ?_⟩
    · have := (h q List.mem_cons_self).2.nodup
      exact List.pairwise_map.mpr (this.imp fun h e => h (by omega))
    · intro a ha b hb e
      subst e
      obtain ⟨x, hx, rfl⟩ := List.mem_map.mp ha
      obtain ⟨p, hp, hb⟩ := List.mem_flatMap.mp hb
      obtain ⟨y, hy, e⟩ := List.mem_map.mp hb
      have hq := h q List.mem_cons_self
      have hp' := h p (List.mem_cons_of_mem _ hp)
      have a1 := hq.2.mem.mp hx
      have a2 := hp'.2.mem.mp hy
      have n1 := W_next ps hq.1
      have n2 := W_next ps hp'.1
      have hne : q.1 ≠ p.1 := fun e => hn.1 (e ▸ List.mem_map_of_mem hp)
      rcases Int.lt_or_gt_of_ne hne with hlt | hlt
      · have := W_mono ps (v := q.1 + 1) (w := p.1) (by omega)
        omega
      · have := W_mono ps (v := p.1 + 1) (w := q.1) (by omega)
        omega
theorem fill_ord {ps : List (Int × List Int)} (h : ∀ q ∈ ps, IsR 1 q.2) (hn : (ps.map (·.1)).Nodup) : IsR 1 (fill ps ps) := by
  refine isR_of (c := 0) (fill_nodup ps ps (fun q hq => ⟨hq, h q hq⟩) hn) fun x hx => ?_
  rw [fill_len]
  obtain ⟨q, hq, hx⟩ := List.mem_flatMap.mp hx
  obtain ⟨y, hy, rfl⟩ := List.mem_map.mp hx
  have a1 := (h q hq).mem.mp hy
  have a2 := W_next ps hq
  have a3 := W_total ps (q.1 + 1)
  have a4 := W_nonneg ps q.1
  omega
/-- how many are less -/
theorem rg_less (a : Int) : ∀ (n k : Nat), k ≤ n → ((rgI a 1 n).filter fun x => decide (x < a + k)).length = k := by
  intro n k h
  obtain ⟨m, rfl⟩ : ∃ m, n = k + m := ⟨n - k, by omega⟩
  rw [rg_add, List.filter_append, List.length_append]
  have h1 : (rgI a 1 k).filter (fun x => decide (x < a + k)) = rgI a 1 k := List.filter_eq_self.mpr fun x hx => decide_eq_true (mem_rg.mp hx).2
  have h2 : (rgI (a + k) 1 m).filter (fun x => decide (x < a + k)) = [] := List.filter_eq_nil_iff.mpr fun x hx => by
    have := (mem_rg.mp hx).1
    simp; omega
  rw [h1, h2, rg_len]; rfl
theorem like_eq {a : Int} {l : List Int} (h : IsR a l) : (l.map fun y => 1 + ((l.filter fun x => decide (x < y)).length : Int)) = l.map fun y => y - a + 1 := by
  apply List.map_congr_left
  intro y hy
  have hy' := h.mem.mp hy
  have := (h.filter fun x => decide (x < y)).length_eq
  rw [this]
  have := rg_less a l.length (y - a).toNat (by omega)
  rw [show a + ((y - a).toNat : Int) = y by omega] at this
  rw [this]; omega
/-- not in parts and in skew parts -/
theorem not_both {o : List Int} (h : IsR 1 o) (h1 : 1 < (parts o).length) (h2 : 1 < (skewParts o).length) : False := by
  have hne : o ≠ [] := fun e => by subst e; simp [parts, go] at h1
  obtain ⟨s, hs⟩ := first_ex h hne
  obtain ⟨t, ht⟩ := firstS_ex h hne
  have hs1 := hs.1; have hs2 := hs.2.1; have ht1 := ht.1; have ht2 := ht.2.1
  have hsl : s < o.length := by
    apply Decidable.byContradiction
    intro hc
    have : s = o.length := by omega
    rw [parts_first h hs, this] at h1
    simp [parts_nil] at h1
  have htl : t < o.length := by
    apply Decidable.byContradiction
    intro hc
    have : t = o.length := by omega
    rw [skew_first h ht, this] at h2
    simp [skew_nil] at h2
  have hlt : (o.take s).length = s := by rw [List.length_take]; omega
  have hlt' : (o.take t).length = t := by rw [List.length_take]; omega
  -- the first and the last thing
  have f1 : o[0] ∈ o.take s := List.mem_take_iff_getElem.mpr ⟨0, by omega, rfl⟩
  have f2 : o[0] ∈ o.take t := List.mem_take_iff_getElem.mpr ⟨0, by omega, rfl⟩
  have l1 : o[o.length - 1] ∈ o.drop s := List.mem_drop_iff_getElem.mpr ⟨o.length - 1 - s, by omega, by congr 1; omega⟩
  have l2 : o[o.length - 1] ∈ o.drop t := List.mem_drop_iff_getElem.mpr ⟨o.length - 1 - t, by omega, by congr 1; omega⟩
  have a1 := (hs.2.2.1.mem).mp f1
  have a2 := (ht.2.2.1.mem).mp f2
  have hd : IsR (1 + (s : Int)) (o.drop s) := by
    have h0 : IsR 1 (o.take s ++ o.drop s) := by rw [List.take_append_drop]; exact h
    have := h0.rest hs.2.2.1
    rw [hlt] at this; exact this
  have a3 := (hd.mem).mp l1
  have a4 := ((drop_ord h ht).mem).mp l2
  rw [hlt] at a1
  rw [List.length_drop] at a4
  omega
end Om
set_option Elab.async false
set_option linter.all false
set_option maxRecDepth 100000
set_option maxHeartbeats 2000000
namespace Law
open PySem L2 Evl PyProof.Rows Z
def top (i : Nat) : Stmt := PySem.Challenge.pw_wholeorders_k04_whole_sums_and_parts.main.body.getD i (.Pass ⟨0, 0, 0, 0⟩)

/-! ### is_integer -/
abbrev t_is_integer : Stmt := top 4
abbrev N_is_integer : List Str := ["told"]
theorem sc_is_integer : FnScope ["told"] ["told"] (defScope t_is_integer) := ⟨rfl, rfl, rfl, by decide +kernel, rfl, by decide +kernel, by decide +kernel⟩
def b_is_integer : SX := (sRet (eAnd (eUn (pIsi "int") (eVar 0)) (eNot (eUn (pIsi "bool") (eVar 0)))))
def s_is_integer : List PyData → Option PyData := runP 1 b_is_integer
section
variable {P : Program} {w : World} {K : PySem.W.Frag} {mg : Str → Option Value} {base : Heap}
theorem ok_is_integer (D : Df K mg "is_integer" t_is_integer ["told"])
    (m_bool : mg "bool" = none)
    (m_int : mg "int" = none)
    (m_isinstance : mg "isinstance" = none) : Ok P w K mg base 1 "is_integer" t_is_integer ["told"] (spP K 1 s_is_integer) := by
  refine ok_pure D sc_is_integer rfl rfl (fun f cdv A outer s H E hr => ?_)
  have hu : (cxOf CX0 P w K mg base ["told"] "is_integer" (defScope t_is_integer) f cdv A outer s H E).nox.A.units + 64 < cLine := hr.units
  have nd : (["told"] : List Str).Nodup := sc_is_integer.nd
  exact (bp_one (sp_ret (ep_and (ep_isi m_isinstance m_int (by decide +kernel) (ep_var 0)) (ep_one (ep_not (ep_isi m_isinstance m_bool (by decide +kernel) (ep_var 0)))))))
end

/-! ### are_integers -/
abbrev t_are_integers : Stmt := top 5
abbrev N_are_integers : List Str := ["told", "number"]
theorem sc_are_integers : FnScope ["told", "number"] ["told"] (defScope t_are_integers) := ⟨rfl, rfl, rfl, by decide +kernel, rfl, by decide +kernel, by decide +kernel⟩
def b_are_integers : SX := (sSeq (sIf (tNotX (tTruX (eUn (pIsi "tuple") (eVar 0)))) (sRet (eC (.bool false))) sNext)
    (sSeq (sFor (itSeq (eVar 0)) (gxName 1) (sIf (tNotX (tTruX (eCall s_is_integer (aCons (eVar 1) aNil)))) (sRet (eC (.bool false))) sNext))
    (sRet (eC (.bool true)))))
def s_are_integers : List PyData → Option PyData := runP 2 b_are_integers
section
variable {P : Program} {w : World} {K : PySem.W.Frag} {mg : Str → Option Value} {base : Heap}
theorem ok_are_integers (D : Df K mg "are_integers" t_are_integers ["told"])
    (G_is_integer : Ok P w K mg base 1 "is_integer" t_is_integer ["told"] (spP K 1 s_is_integer))
    (m_isinstance : mg "isinstance" = none)
    (m_tuple : mg "tuple" = none) : Ok P w K mg base 2 "are_integers" t_are_integers ["told"] (spP K 1 s_are_integers) := by
  refine ok_pure D sc_are_integers rfl rfl (fun f cdv A outer s H E hr => ?_)
  have hu : (cxOf CX0 P w K mg base ["told", "number"] "are_integers" (defScope t_are_integers) f cdv A outer s H E).nox.A.units + 64 < cLine := hr.units
  have nd : (["told", "number"] : List Str).Nodup := sc_are_integers.nd
  exact (bp_cons (sp_if (tp_not (tp_tru (ep_isi m_isinstance m_tuple (by decide +kernel) (ep_var 0)))) (bp_one (sp_ret ep_bl)) bp_nil)
    (bp_cons (sp_for (ip_seq (ep_var 0)) (gp_name (i := 1) nd) (bp_one (sp_if (tp_not (tp_tru (ep_o G_is_integer (hr.mono (by first | decide | omega)) (ap_cons (ep_var 1) ap_nil) (len_cons len_nil)))) (bp_one (sp_ret ep_bl)) bp_nil)))
    (bp_one (sp_ret ep_bl))))
end

/-! ### is_order -/
abbrev t_is_order : Stmt := top 7
abbrev N_is_order : List Str := ["told"]
theorem sc_is_order : FnScope ["told"] ["told"] (defScope t_is_order) := ⟨rfl, rfl, rfl, by decide +kernel, rfl, by decide +kernel, by decide +kernel⟩
def b_is_order : SX := (sRet (eAnd (eCall s_are_integers (aCons (eVar 0) aNil)) (eOp pEq (eCall pSorted (aCons (eVar 0) aNil)) (eLR (rxOf (aCons (eC (.int 1)) (aCons (eOp pAdd (eLenV 0) (eC (.int 1))) aNil)))))))
def s_is_order : List PyData → Option PyData := runP 1 b_is_order
section
variable {P : Program} {w : World} {K : PySem.W.Frag} {mg : Str → Option Value} {base : Heap}
theorem ok_is_order (D : Df K mg "is_order" t_is_order ["told"])
    (G_are_integers : Ok P w K mg base 2 "are_integers" t_are_integers ["told"] (spP K 1 s_are_integers))
    (m_len : mg "len" = none)
    (m_list : mg "list" = none)
    (m_range : mg "range" = none)
    (m_sorted : mg "sorted" = none) : Ok P w K mg base 3 "is_order" t_is_order ["told"] (spP K 1 s_is_order) := by
  refine ok_pure D sc_is_order rfl rfl (fun f cdv A outer s H E hr => ?_)
  have hu : (cxOf CX0 P w K mg base ["told"] "is_order" (defScope t_is_order) f cdv A outer s H E).nox.A.units + 64 < cLine := hr.units
  have nd : (["told"] : List Str).Nodup := sc_is_order.nd
  exact (bp_one (sp_ret (ep_and (ep_o G_are_integers (hr.mono (by first | decide | omega)) (ap_cons (ep_var 0) ap_nil) (len_cons len_nil)) (ep_one (ep_cmp (c_eq hu) (ep_callB b_sorted m_sorted (by decide +kernel) (ap_cons (ep_var 0) ap_nil)) (ep_LR rfl m_list (rp_2 m_range ep_int (ep_op o_add (ep_lenV (i := 0) m_len) ep_int))))))))
end

/-! ### check_order -/
abbrev t_check_order : Stmt := top 8
abbrev N_check_order : List Str := ["order"]
theorem sc_check_order : FnScope ["order"] ["order"] (defScope t_check_order) := ⟨rfl, rfl, rfl, by decide +kernel, rfl, by decide +kernel, by decide +kernel⟩
def b_check_order : SX := (sIf (tNotX (tTruX (eCall s_is_order (aCons (eVar 0) aNil)))) sNever sNext)
def s_check_order : List PyData → Option PyData := runP 1 b_check_order
section
variable {P : Program} {w : World} {K : PySem.W.Frag} {mg : Str → Option Value} {base : Heap}
theorem ok_check_order (D : Df K mg "check_order" t_check_order ["order"])
    (G_is_order : Ok P w K mg base 3 "is_order" t_is_order ["told"] (spP K 1 s_is_order)) : Ok P w K mg base 4 "check_order" t_check_order ["order"] (spP K 1 s_check_order) := by
  refine ok_pure D sc_check_order rfl rfl (fun f cdv A outer s H E hr => ?_)
  have hu : (cxOf CX0 P w K mg base ["order"] "check_order" (defScope t_check_order) f cdv A outer s H E).nox.A.units + 64 < cLine := hr.units
  have nd : (["order"] : List Str).Nodup := sc_check_order.nd
  exact (bp_one (sp_if (tp_not (tp_tru (ep_o G_is_order (hr.mono (by first | decide | omega)) (ap_cons (ep_var 0) ap_nil) (len_cons len_nil)))) (bp_one sp_never) bp_nil))
end

/-! ### mirrored -/
abbrev t_mirrored : Stmt := top 9
abbrev N_mirrored : List Str := ["order", "number"]
theorem sc_mirrored : FnScope ["order", "number"] ["order"] (defScope t_mirrored) := ⟨rfl, rfl, rfl, by decide +kernel, rfl, by decide +kernel, by decide +kernel⟩
def b_mirrored : SX := (sSeq (sDrop (eCall s_check_order (aCons (eVar 0) aNil)))
    (sRet (eCall pTuple (aCons (nOwn (nLc (itSeq (eVar 0)) (gxName 1) tYesX (eOp pSub (eOp pAdd (eLenV 0) (eC (.int 1))) (eVar 1)) [1])) aNil))))
def s_mirrored : List PyData → Option PyData := runP 2 b_mirrored
section
variable {P : Program} {w : World} {K : PySem.W.Frag} {mg : Str → Option Value} {base : Heap}
theorem ok_mirrored (D : Df K mg "mirrored" t_mirrored ["order"])
    (G_check_order : Ok P w K mg base 4 "check_order" t_check_order ["order"] (spP K 1 s_check_order))
    (m_len : mg "len" = none)
    (m_tuple : mg "tuple" = none) : Ok P w K mg base 5 "mirrored" t_mirrored ["order"] (spP K 1 s_mirrored) := by
  refine ok_pure D sc_mirrored rfl rfl (fun f cdv A outer s H E hr => ?_)
  have hu : (cxOf CX0 P w K mg base ["order", "number"] "mirrored" (defScope t_mirrored) f cdv A outer s H E).nox.A.units + 64 < cLine := hr.units
  have nd : (["order", "number"] : List Str).Nodup := sc_mirrored.nd
  exact (bp_cons (sp_expr (ep_o G_check_order (hr.mono (by first | decide | omega)) (ap_cons (ep_var 0) ap_nil) (len_cons len_nil)))
    (bp_one (sp_ret (ep_callTy b_tuple m_tuple (by decide +kernel) (ap_cons (ep_own (np_lc [("number", 1)] (ip_seq (ep_var 0)) (blkOk_by (N := N_mirrored) (sc := defScope t_mirrored) (by decide +kernel)) (fun _ => (gp_name (i := 1) nd)) (fun _ => tsp_nil) (fun _ => (ep_op o_sub (ep_op o_add (ep_lenV (i := 0) m_len) ep_int) (ep_var 1))) rfl nd)) ap_nil)))))
end

/-! ### raised -/
abbrev t_raised : Stmt := top 13
abbrev N_raised : List Str := ["order", "by", "number"]
theorem sc_raised : FnScope ["order", "by", "number"] ["order", "by"] (defScope t_raised) := ⟨rfl, rfl, rfl, by decide +kernel, rfl, by decide +kernel, by decide +kernel⟩
def b_raised : SX := (sRet (eCall pTuple (aCons (nOwn (nLc (itSeq (eVar 0)) (gxName 2) tYesX (eOp pAdd (eVar 2) (eVar 1)) [2])) aNil)))
def s_raised : List PyData → Option PyData := runP 3 b_raised
section
variable {P : Program} {w : World} {K : PySem.W.Frag} {mg : Str → Option Value} {base : Heap}
theorem ok_raised (D : Df K mg "raised" t_raised ["order", "by"])
    (m_tuple : mg "tuple" = none) : Ok P w K mg base 1 "raised" t_raised ["order", "by"] (spP K 2 s_raised) := by
  refine ok_pure D sc_raised rfl rfl (fun f cdv A outer s H E hr => ?_)
  have hu : (cxOf CX0 P w K mg base ["order", "by", "number"] "raised" (defScope t_raised) f cdv A outer s H E).nox.A.units + 64 < cLine := hr.units
  have nd : (["order", "by", "number"] : List Str).Nodup := sc_raised.nd
  exact (bp_one (sp_ret (ep_callTy b_tuple m_tuple (by decide +kernel) (ap_cons (ep_own (np_lc [("number", 2)] (ip_seq (ep_var 0)) (blkOk_by (N := N_raised) (sc := defScope t_raised) (by decide +kernel)) (fun _ => (gp_name (i := 2) nd)) (fun _ => tsp_nil) (fun _ => (ep_op o_add (ep_var 2) (ep_var 1))) rfl nd)) ap_nil))))
end

/-! ### summed -/
abbrev t_summed : Stmt := top 11
abbrev N_summed : List Str := ["one", "other"]
theorem sc_summed : FnScope ["one", "other"] ["one", "other"] (defScope t_summed) := ⟨rfl, rfl, rfl, by decide +kernel, rfl, by decide +kernel, by decide +kernel⟩
def b_summed : SX := (sSeq (sDrop (eCall s_check_order (aCons (eVar 0) aNil)))
    (sSeq (sDrop (eCall s_check_order (aCons (eVar 1) aNil)))
    (sRet (eOp pAdd (eVar 0) (eCall s_raised (aCons (eVar 1) (aCons (eLenV 0) aNil)))))))
def s_summed : List PyData → Option PyData := runP 2 b_summed
section
variable {P : Program} {w : World} {K : PySem.W.Frag} {mg : Str → Option Value} {base : Heap}
theorem ok_summed (D : Df K mg "summed" t_summed ["one", "other"])
    (G_check_order : Ok P w K mg base 4 "check_order" t_check_order ["order"] (spP K 1 s_check_order))
    (G_raised : Ok P w K mg base 1 "raised" t_raised ["order", "by"] (spP K 2 s_raised))
    (m_len : mg "len" = none) : Ok P w K mg base 5 "summed" t_summed ["one", "other"] (spP K 2 s_summed) := by
  refine ok_pure D sc_summed rfl rfl (fun f cdv A outer s H E hr => ?_)
  have hu : (cxOf CX0 P w K mg base ["one", "other"] "summed" (defScope t_summed) f cdv A outer s H E).nox.A.units + 64 < cLine := hr.units
  have nd : (["one", "other"] : List Str).Nodup := sc_summed.nd
  exact (bp_cons (sp_expr (ep_o G_check_order (hr.mono (by first | decide | omega)) (ap_cons (ep_var 0) ap_nil) (len_cons len_nil)))
    (bp_cons (sp_expr (ep_o G_check_order (hr.mono (by first | decide | omega)) (ap_cons (ep_var 1) ap_nil) (len_cons len_nil)))
    (bp_one (sp_ret (ep_op o_add (ep_var 0) (ep_o G_raised (hr.mono (by first | decide | omega)) (ap_cons (ep_var 1) (ap_cons (ep_lenV (i := 0) m_len) ap_nil)) (len_cons (len_cons len_nil))))))))
end

/-! ### skew_summed -/
abbrev t_skew_summed : Stmt := top 12
abbrev N_skew_summed : List Str := ["one", "other"]
theorem sc_skew_summed : FnScope ["one", "other"] ["one", "other"] (defScope t_skew_summed) := ⟨rfl, rfl, rfl, by decide +kernel, rfl, by decide +kernel, by decide +kernel⟩
def b_skew_summed : SX := (sSeq (sDrop (eCall s_check_order (aCons (eVar 0) aNil)))
    (sSeq (sDrop (eCall s_check_order (aCons (eVar 1) aNil)))
    (sRet (eOp pAdd (eCall s_raised (aCons (eVar 0) (aCons (eLenV 1) aNil))) (eVar 1)))))
def s_skew_summed : List PyData → Option PyData := runP 2 b_skew_summed
section
variable {P : Program} {w : World} {K : PySem.W.Frag} {mg : Str → Option Value} {base : Heap}
theorem ok_skew_summed (D : Df K mg "skew_summed" t_skew_summed ["one", "other"])
    (G_check_order : Ok P w K mg base 4 "check_order" t_check_order ["order"] (spP K 1 s_check_order))
    (G_raised : Ok P w K mg base 1 "raised" t_raised ["order", "by"] (spP K 2 s_raised))
    (m_len : mg "len" = none) : Ok P w K mg base 5 "skew_summed" t_skew_summed ["one", "other"] (spP K 2 s_skew_summed) := by
  refine ok_pure D sc_skew_summed rfl rfl (fun f cdv A outer s H E hr => ?_)
  have hu : (cxOf CX0 P w K mg base ["one", "other"] "skew_summed" (defScope t_skew_summed) f cdv A outer s H E).nox.A.units + 64 < cLine := hr.units
  have nd : (["one", "other"] : List Str).Nodup := sc_skew_summed.nd
  exact (bp_cons (sp_expr (ep_o G_check_order (hr.mono (by first | decide | omega)) (ap_cons (ep_var 0) ap_nil) (len_cons len_nil)))
    (bp_cons (sp_expr (ep_o G_check_order (hr.mono (by first | decide | omega)) (ap_cons (ep_var 1) ap_nil) (len_cons len_nil)))
    (bp_one (sp_ret (ep_op o_add (ep_o G_raised (hr.mono (by first | decide | omega)) (ap_cons (ep_var 0) (ap_cons (ep_lenV (i := 1) m_len) ap_nil)) (len_cons (len_cons len_nil))) (ep_var 1))))))
end

/-! ### parts -/
abbrev t_parts : Stmt := top 14
abbrev N_parts : List Str := ["order", "found", "start", "top", "place", "number"]
theorem sc_parts : FnScope ["order", "found", "start", "top", "place", "number"] ["order"] (defScope t_parts) := ⟨rfl, rfl, rfl, by decide +kernel, rfl, by decide +kernel, by decide +kernel⟩
def b_parts : SX := (sSeq (sDrop (eCall s_check_order (aCons (eVar 0) aNil)))
    (sSeq (sSet 1 (nLst aNil))
    (sSeq (sSet 2 (nVal (eC (.int 0))))
    (sSeq (sSet 3 (nVal (eC (.int 0))))
    (sSeq (sFor (itEnum (eVar 0)) (gxTup 2 (gxCons (gxName 4) (gxCons (gxName 5) gxNil))) (sSeq (sSet 3 (nVal (eCall pMax2 (aCons (eVar 3) (aCons (eVar 5) aNil)))))
    (sIf (tOf (eOp pEq (eVar 3) (eOp pAdd (eVar 4) (eC (.int 1))))) (sSeq (sApp 1 (eCall s_raised (aCons (eSl pSl (eVar 0) (oSome (eVar 2)) (oSome (eVar 3))) (aCons (eUn pNeg (eVar 2)) aNil))))
    (sSet 2 (nVal (eVar 3)))) sNext)))
    (sRet (eCall pTuple (aCons (eVar 1) aNil))))))))
def s_parts : List PyData → Option PyData := runP 6 b_parts
section
variable {P : Program} {w : World} {K : PySem.W.Frag} {mg : Str → Option Value} {base : Heap}
theorem ok_parts (D : Df K mg "parts" t_parts ["order"])
    (G_check_order : Ok P w K mg base 4 "check_order" t_check_order ["order"] (spP K 1 s_check_order))
    (G_raised : Ok P w K mg base 1 "raised" t_raised ["order", "by"] (spP K 2 s_raised))
    (m_enumerate : mg "enumerate" = none)
    (m_max : mg "max" = none)
    (m_tuple : mg "tuple" = none) : Ok P w K mg base 5 "parts" t_parts ["order"] (spP K 1 s_parts) := by
  refine ok_pure D sc_parts rfl rfl (fun f cdv A outer s H E hr => ?_)
  have hu : (cxOf CX0 P w K mg base ["order", "found", "start", "top", "place", "number"] "parts" (defScope t_parts) f cdv A outer s H E).nox.A.units + 64 < cLine := hr.units
  have nd : (["order", "found", "start", "top", "place", "number"] : List Str).Nodup := sc_parts.nd
  exact (bp_cons (sp_expr (ep_o G_check_order (hr.mono (by first | decide | omega)) (ap_cons (ep_var 0) ap_nil) (len_cons len_nil)))
    (bp_cons (sp_set (i := 1) (np_lst ap_nil) nd)
    (bp_cons (sp_set (i := 2) (np_val ep_int) nd)
    (bp_cons (sp_set (i := 3) (np_val ep_int) nd)
    (bp_cons (sp_for (ip_enum m_enumerate (ep_var 0)) (gp_tup rfl (gps_cons (gp_name (i := 4) nd) (gps_cons (gp_name (i := 5) nd) gps_nil))) (bp_cons (sp_set (i := 3) (np_val (ep_callB (b_max2 rfl) m_max (by decide +kernel) (ap_cons (ep_var 3) (ap_cons (ep_var 5) ap_nil)))) nd)
    (bp_one (sp_if (tp_cmp (c_eq hu) (ep_var 3) (ep_op o_add (ep_var 4) ep_int)) (bp_cons (sp_app (i := 1) (ep_o G_raised (hr.mono (by first | decide | omega)) (ap_cons (ep_slice s_sl (ep_var 0) (opt_some (ep_var 2)) (opt_some (ep_var 3))) (ap_cons (ep_un u_neg (ep_var 2)) ap_nil)) (len_cons (len_cons len_nil))))
    (bp_one (sp_set (i := 2) (np_val (ep_var 3)) nd))) bp_nil))))
    (bp_one (sp_ret (ep_callTy b_tuple m_tuple (by decide +kernel) (ap_cons (ep_var 1) ap_nil)))))))))
end

/-! ### skew_parts -/
abbrev t_skew_parts : Stmt := top 15
abbrev N_skew_parts : List Str := ["order", "part"]
theorem sc_skew_parts : FnScope ["order", "part"] ["order"] (defScope t_skew_parts) := ⟨rfl, rfl, rfl, by decide +kernel, rfl, by decide +kernel, by decide +kernel⟩
def b_skew_parts : SX := (sSeq (sDrop (eCall s_check_order (aCons (eVar 0) aNil)))
    (sRet (eCall pTuple (aCons (nOwn (nLc (itSeq (eUn pRev (eCall s_parts (aCons (eUn pRev (eVar 0)) aNil)))) (gxName 1) tYesX (eUn pRev (eVar 1)) [1])) aNil))))
def s_skew_parts : List PyData → Option PyData := runP 2 b_skew_parts
section
variable {P : Program} {w : World} {K : PySem.W.Frag} {mg : Str → Option Value} {base : Heap}
theorem ok_skew_parts (D : Df K mg "skew_parts" t_skew_parts ["order"])
    (G_check_order : Ok P w K mg base 4 "check_order" t_check_order ["order"] (spP K 1 s_check_order))
    (G_parts : Ok P w K mg base 5 "parts" t_parts ["order"] (spP K 1 s_parts))
    (m_tuple : mg "tuple" = none) : Ok P w K mg base 6 "skew_parts" t_skew_parts ["order"] (spP K 1 s_skew_parts) := by
  refine ok_pure D sc_skew_parts rfl rfl (fun f cdv A outer s H E hr => ?_)
  have hu : (cxOf CX0 P w K mg base ["order", "part"] "skew_parts" (defScope t_skew_parts) f cdv A outer s H E).nox.A.units + 64 < cLine := hr.units
  have nd : (["order", "part"] : List Str).Nodup := sc_skew_parts.nd
  exact (bp_cons (sp_expr (ep_o G_check_order (hr.mono (by first | decide | omega)) (ap_cons (ep_var 0) ap_nil) (len_cons len_nil)))
    (bp_one (sp_ret (ep_callTy b_tuple m_tuple (by decide +kernel) (ap_cons (ep_own (np_lc [("part", 1)] (ip_seq (ep_rev (ep_o G_parts (hr.mono (by first | decide | omega)) (ap_cons (ep_rev (ep_var 0)) ap_nil) (len_cons len_nil)))) (blkOk_by (N := N_skew_parts) (sc := defScope t_skew_parts) (by decide +kernel)) (fun _ => (gp_name (i := 1) nd)) (fun _ => tsp_nil) (fun _ => (ep_rev (ep_var 1))) rfl nd)) ap_nil)))))
end

/-! ### _law_deck -/
abbrev t_law_deck : Stmt := top 17
abbrev N_law_deck : List Str := ["script", "at", "cell", "stir"]
theorem sc_law_deck : FnScope ["script", "at", "cell", "stir"] ["script", "at"] (defScope t_law_deck) := ⟨rfl, rfl, rfl, by decide +kernel, rfl, by decide +kernel, by decide +kernel⟩
def b_law_deck : SX := (sSeq (sSet 2 (nVal (eC (.int 0))))
    (sSeq (sIf (tOf (eOp pLt (eVar 1) (eLenV 0))) (sSet 2 (nVal (eIxV 0 (eVar 1)))) sNext)
    (sSeq (sSet 3 (nVal (eOp pMod (eCall pInt (aCons (eOp pAdd (eOp pAdd (eVar 2) (eOp pMul (eC (.int 7919)) (eVar 1))) (eC (.int 104729))) aNil)) (eC (.int 2305843009213693951)))))
    (sSeq (sSet 3 (nVal (eOp pMod (eCall pInt (aCons (eOp pAdd (eOp pAdd (eOp pMul (eOp pMul (eVar 3) (eVar 3)) (eVar 3)) (eOp pMul (eC (.int 31)) (eVar 1))) (eC (.int 7))) aNil)) (eC (.int 2305843009213693951)))))
    (sSeq (sIf (tOf (eOp pLt (eVar 2) (eOp pPow (eC (.int 10)) (eC (.int 18))))) (sRetL (nLst (aCons (eC (.int 0)) (aCons (eVar 3) aNil)))) sNext)
    (sRetL (nLst (aCons (eOp pSub (eVar 2) (eOp pPow (eC (.int 10)) (eC (.int 18)))) (aCons (eVar 3) aNil)))))))))
def s_law_deck : List PyData → Option (List PyData) := runL 4 b_law_deck
section
variable {P : Program} {w : World} {K : PySem.W.Frag} {mg : Str → Option Value} {base : Heap}
theorem ok_law_deck (D : Df K mg "_law_deck" t_law_deck ["script", "at"])
    (m_int : mg "int" = none)
    (m_len : mg "len" = none) : Ok P w K mg base 1 "_law_deck" t_law_deck ["script", "at"] (spL K 2 s_law_deck) := by
  refine ok_list D sc_law_deck rfl rfl (fun f cdv A outer s H E hr => ?_)
  have hu : (cxOf CX0 P w K mg base ["script", "at", "cell", "stir"] "_law_deck" (defScope t_law_deck) f cdv A outer s H E).nox.A.units + 64 < cLine := hr.units
  have nd : (["script", "at", "cell", "stir"] : List Str).Nodup := sc_law_deck.nd
  exact (bp_cons (sp_set (i := 2) (np_val ep_int) nd)
    (bp_cons (sp_if (tp_cmp c_lt (ep_var 1) (ep_lenV (i := 0) m_len)) (bp_one (sp_set (i := 2) (np_val (ep_ixV (i := 0) (ep_var 1))) nd)) bp_nil)
    (bp_cons (sp_set (i := 3) (np_val (ep_op o_mod (ep_callTy b_int m_int (by decide +kernel) (ap_cons (ep_op o_add (ep_op o_add (ep_var 2) (ep_op o_mul ep_int (ep_var 1))) ep_int) ap_nil)) ep_int)) nd)
    (bp_cons (sp_set (i := 3) (np_val (ep_op o_mod (ep_callTy b_int m_int (by decide +kernel) (ap_cons (ep_op o_add (ep_op o_add (ep_op o_mul (ep_op o_mul (ep_var 3) (ep_var 3)) (ep_var 3)) (ep_op o_mul ep_int (ep_var 1))) ep_int) ap_nil)) ep_int)) nd)
    (bp_cons (sp_if (tp_cmp c_lt (ep_var 2) (ep_op o_pow ep_int ep_int)) (bp_one (sp_retL (np_lst (ap_cons ep_int (ap_cons (ep_var 3) ap_nil))))) bp_nil)
    (bp_one (sp_retL (np_lst (ap_cons (ep_op o_sub (ep_var 2) (ep_op o_pow ep_int ep_int)) (ap_cons (ep_var 3) ap_nil))))))))))
end

/-! ### _law_take -/
abbrev t_law_take : Stmt := top 18
abbrev N_law_take : List Str := ["deck", "many", "taken"]
theorem sc_law_take : FnScope ["deck", "many", "taken"] ["deck", "many"] (defScope t_law_take) := ⟨rfl, rfl, rfl, by decide +kernel, rfl, by decide +kernel, by decide +kernel⟩
def b_law_take : SX := (sSeq (sIf (tOf (eOp pGt (eIxV 0 (eC (.int 0))) (eC (.int 0)))) (sSeq (sSet 2 (nVal (eOp pMod (eCall pInt (aCons (eIxV 0 (eC (.int 0))) aNil)) (eVar 1))))
    (sSeq (sStore 0 (eC (.int 0)) (eOp pFdiv (eIxV 0 (eC (.int 0))) (eVar 1)))
    (sRet (eVar 2)))) sNext)
    (sSeq (sStore 0 (eC (.int 1)) (eOp pMod (eCall pInt (aCons (eOp pAdd (eOp pMul (eIxV 0 (eC (.int 1))) (eC (.int 6364136223846793005))) (eC (.int 1442695040888963407))) aNil)) (eOp pPow (eC (.int 2)) (eC (.int 64)))))
    (sRet (eOp pMod (eOp pFdiv (eIxV 0 (eC (.int 1))) (eOp pPow (eC (.int 2)) (eC (.int 33)))) (eVar 1)))))
def s_law_take : List PyData → List PyData → Option (PyData × List PyData) := runM 3 b_law_take
section
variable {P : Program} {w : World} {K : PySem.W.Frag} {mg : Str → Option Value} {base : Heap}
theorem ok_law_take (D : Df K mg "_law_take" t_law_take ["deck", "many"])
    (m_int : mg "int" = none) : Ok P w K mg base 1 "_law_take" t_law_take ["deck", "many"] (spM K 2 s_law_take) := by
  refine ok_mut D sc_law_take rfl rfl (fun f cdv A outer s H E hr => ?_)
  have hu : (cxOf CX0 P w K mg base ["deck", "many", "taken"] "_law_take" (defScope t_law_take) f cdv A outer s H E).nox.A.units + 64 < cLine := hr.units
  have nd : (["deck", "many", "taken"] : List Str).Nodup := sc_law_take.nd
  exact (bp_cons (sp_if (tp_cmp c_gt (ep_ixV (i := 0) ep_int) ep_int) (bp_cons (sp_set (i := 2) (np_val (ep_op o_mod (ep_callTy b_int m_int (by decide +kernel) (ap_cons (ep_ixV (i := 0) ep_int) ap_nil)) (ep_var 1))) nd)
    (bp_cons (sp_store (i := 0) (ep_op o_fdiv (ep_ixV (i := 0) ep_int) (ep_var 1)) ep_int)
    (bp_one (sp_ret (ep_var 2))))) bp_nil)
    (bp_cons (sp_store (i := 0) (ep_op o_mod (ep_callTy b_int m_int (by decide +kernel) (ap_cons (ep_op o_add (ep_op o_mul (ep_ixV (i := 0) ep_int) ep_int) ep_int) ap_nil)) (ep_op o_pow ep_int ep_int)) ep_int)
    (bp_one (sp_ret (ep_op o_mod (ep_op o_fdiv (ep_ixV (i := 0) ep_int) (ep_op o_pow ep_int ep_int)) (ep_var 1))))))
end

/-! ### _law_same -/
abbrev t_law_same : Stmt := top 19
abbrev N_law_same : List Str := ["found", "due", "at"]
theorem sc_law_same : FnScope ["found", "due", "at"] ["found", "due"] (defScope t_law_same) := ⟨rfl, rfl, rfl, by decide +kernel, rfl, by decide +kernel, by decide +kernel⟩
def b_law_same (rec : List PyData → Option PyData) : SX := (sSeq (sIf (tTruX (eUn (pIsi2 "tuple" "list") (eVar 1))) (sSeq (sIf (tOrX (tOf (eOp pNe (eUn (pIsi "tuple") (eVar 0)) (eUn (pIsi "tuple") (eVar 1)))) (tOf (eOp pNe (eUn (pIsi "list") (eVar 0)) (eUn (pIsi "list") (eVar 1))))) (sRet (eC (.bool false))) sNext)
    (sSeq (sIf (tOf (eOp pNe (eLenV 0) (eLenV 1))) (sRet (eC (.bool false))) sNext)
    (sRet (eOp pEq (nOwn (nLc (itRange (aCons (eLenV 1) aNil)) (gxName 2) (tNotX (tTruX (eCall rec (aCons (eIxV 0 (eVar 2)) (aCons (eIxV 1 (eVar 2)) aNil))))) (eVar 2) [2])) (eLst aNil))))) sNext)
    (sSeq (sIf (tOf (eOp pIs (eVar 1) (eC .none))) (sRet (eOp pIs (eVar 0) (eC .none))) sNext)
    (sSeq (sIf (tTruX (eUn (pIsi "str") (eVar 1))) (sRet (eAnd (eUn (pIsi "str") (eVar 0)) (eOp pEq (eVar 0) (eVar 1)))) sNext)
    (sSeq (sIf (tOrX (tTruX (eUn (pIsi "bool") (eVar 1))) (tTruX (eUn (pIsi "bool") (eVar 0)))) (sRet (eAnd (eUn (pIsi "bool") (eVar 1)) (eAnd (eUn (pIsi "bool") (eVar 0)) (eOp pEq (eVar 0) (eVar 1))))) sNext)
    (sRet (eAnd (eUn (pIsi "int") (eVar 0)) (eOp pEq (eVar 0) (eVar 1))))))))
def s_law_same : Nat → List PyData → Option PyData
  | 0 => fun _ => none
  | n + 1 => runP 3 (b_law_same (s_law_same n))
section
variable {P : Program} {w : World} {K : PySem.W.Frag} {mg : Str → Option Value} {base : Heap}
theorem ok_law_same (D : Df K mg "_law_same" t_law_same ["found", "due"])
    (m_bool : mg "bool" = none)
    (m_int : mg "int" = none)
    (m_isinstance : mg "isinstance" = none)
    (m_len : mg "len" = none)
    (m_list : mg "list" = none)
    (m_range : mg "range" = none)
    (m_str : mg "str" = none)
    (m_tuple : mg "tuple" = none) : ∀ n, Ok P w K mg base (1 + n) "_law_same" t_law_same ["found", "due"] (spP K 2 (s_law_same n))
  | 0 => ok_no D
  | n + 1 => by
    have G_law_same := ok_law_same D m_bool m_int m_isinstance m_len m_list m_range m_str m_tuple n
    refine ok_pure D sc_law_same rfl rfl (fun f cdv A outer s H E hr => ?_)
    have hu : (cxOf CX0 P w K mg base ["found", "due", "at"] "_law_same" (defScope t_law_same) f cdv A outer s H E).nox.A.units + 64 < cLine := hr.units
    have nd : (["found", "due", "at"] : List Str).Nodup := sc_law_same.nd
    exact (bp_cons (sp_if (tp_tru (ep_isi2 m_isinstance m_tuple (by decide +kernel) m_list (by decide +kernel) (ep_var 1))) (bp_cons (sp_if (wp_or (tp_cmp (c_ne hu) (ep_isi m_isinstance m_tuple (by decide +kernel) (ep_var 0)) (ep_isi m_isinstance m_tuple (by decide +kernel) (ep_var 1))) (wp_or1 (tp_cmp (c_ne hu) (ep_isi m_isinstance m_list (by decide +kernel) (ep_var 0)) (ep_isi m_isinstance m_list (by decide +kernel) (ep_var 1))))).tp (bp_one (sp_ret ep_bl)) bp_nil)
    (bp_cons (sp_if (tp_cmp (c_ne hu) (ep_lenV (i := 0) m_len) (ep_lenV (i := 1) m_len)) (bp_one (sp_ret ep_bl)) bp_nil)
    (bp_one (sp_ret (ep_cmp (c_eq hu) (ep_own (np_lc [("at", 2)] (ip_range1 m_range (ep_lenV (i := 1) m_len)) (blkOk_by (N := N_law_same) (sc := defScope t_law_same) (by decide +kernel)) (fun _ => (gp_name (i := 2) nd)) (fun _ => (tsp_one (tp_not (tp_tru (ep_o G_law_same hr (ap_cons (ep_ixV (i := 0) (ep_var 2)) (ap_cons (ep_ixV (i := 1) (ep_var 2)) ap_nil)) (len_cons (len_cons len_nil))))))) (fun _ => (ep_var 2)) rfl nd)) (ep_lst ap_nil)))))) bp_nil)
    (bp_cons (sp_if (tp_cmp c_is (ep_var 1) ep_non) (bp_one (sp_ret (ep_cmp c_is (ep_var 0) ep_non))) bp_nil)
    (bp_cons (sp_if (tp_tru (ep_isi m_isinstance m_str (by decide +kernel) (ep_var 1))) (bp_one (sp_ret (ep_and (ep_isi m_isinstance m_str (by decide +kernel) (ep_var 0)) (ep_one (ep_cmp (c_eq hu) (ep_var 0) (ep_var 1)))))) bp_nil)
    (bp_cons (sp_if (wp_or (tp_tru (ep_isi m_isinstance m_bool (by decide +kernel) (ep_var 1))) (wp_or1 (tp_tru (ep_isi m_isinstance m_bool (by decide +kernel) (ep_var 0))))).tp (bp_one (sp_ret (ep_and (ep_isi m_isinstance m_bool (by decide +kernel) (ep_var 1)) (ep_and (ep_isi m_isinstance m_bool (by decide +kernel) (ep_var 0)) (ep_one (ep_cmp (c_eq hu) (ep_var 0) (ep_var 1))))))) bp_nil)
    (bp_one (sp_ret (ep_and (ep_isi m_isinstance m_int (by decide +kernel) (ep_var 0)) (ep_one (ep_cmp (c_eq hu) (ep_var 0) (ep_var 1))))))))))
end

/-! ### _law_drawn -/
abbrev t_law_drawn : Stmt := top 20
abbrev N_law_drawn : List Str := ["deck", "many", "found", "j"]
theorem sc_law_drawn : FnScope ["deck", "many", "found", "j"] ["deck", "many"] (defScope t_law_drawn) := ⟨rfl, rfl, rfl, by decide +kernel, rfl, by decide +kernel, by decide +kernel⟩
def b_law_drawn : SX := (sSeq (sSet 2 (nLst aNil))
    (sSeq (sFor (itRange (aCons (eC (.int 1)) (aCons (eOp pAdd (eVar 1) (eC (.int 1))) aNil))) (gxName 3) (sIns 2 (eCallM 0 s_law_take (aCons (eVar 3) aNil)) (eVar 3)))
    (sRet (eCall pTuple (aCons (eVar 2) aNil)))))
def s_law_drawn : List PyData → List PyData → Option (PyData × List PyData) := runM 4 b_law_drawn
section
variable {P : Program} {w : World} {K : PySem.W.Frag} {mg : Str → Option Value} {base : Heap}
theorem ok_law_drawn (D : Df K mg "_law_drawn" t_law_drawn ["deck", "many"])
    (G_law_take : Ok P w K mg base 1 "_law_take" t_law_take ["deck", "many"] (spM K 2 s_law_take))
    (m_range : mg "range" = none)
    (m_tuple : mg "tuple" = none) : Ok P w K mg base 2 "_law_drawn" t_law_drawn ["deck", "many"] (spM K 2 s_law_drawn) := by
  refine ok_mut D sc_law_drawn rfl rfl (fun f cdv A outer s H E hr => ?_)
  have hu : (cxOf CX0 P w K mg base ["deck", "many", "found", "j"] "_law_drawn" (defScope t_law_drawn) f cdv A outer s H E).nox.A.units + 64 < cLine := hr.units
  have nd : (["deck", "many", "found", "j"] : List Str).Nodup := sc_law_drawn.nd
  exact (bp_cons (sp_set (i := 2) (np_lst ap_nil) nd)
    (bp_cons (sp_for (ip_range2 m_range ep_int (ep_op o_add (ep_var 1) ep_int)) (gp_name (i := 3) nd) (bp_one (sp_ins (i := 2) (ep_oM (i := 0) G_law_take (hr.mono (by first | decide | omega)) (ap_cons (ep_var 3) ap_nil) (len_cons len_nil) rfl) (ep_var 3))))
    (bp_one (sp_ret (ep_callTy b_tuple m_tuple (by decide +kernel) (ap_cons (ep_var 2) ap_nil))))))
end

/-! ### _law_like -/
abbrev t_law_like : Stmt := top 21
abbrev N_law_like : List Str := ["cells", "x", "y"]
theorem sc_law_like : FnScope ["cells", "x", "y"] ["cells"] (defScope t_law_like) := ⟨rfl, rfl, rfl, by decide +kernel, rfl, by decide +kernel, by decide +kernel⟩
def b_law_like : SX := (sRet (eCall pTuple (aCons (nOwn (nLc (itSeq (eVar 0)) (gxName 2) tYesX (eOp pAdd (eC (.int 1)) (eCall pLen (aCons (nOwn (nLc (itSeq (eVar 0)) (gxName 1) (tOf (eOp pLt (eVar 1) (eVar 2))) (eVar 1) [1])) aNil))) [2])) aNil)))
def s_law_like : List PyData → Option PyData := runP 3 b_law_like
section
variable {P : Program} {w : World} {K : PySem.W.Frag} {mg : Str → Option Value} {base : Heap}
theorem ok_law_like (D : Df K mg "_law_like" t_law_like ["cells"])
    (m_len : mg "len" = none)
    (m_tuple : mg "tuple" = none) : Ok P w K mg base 1 "_law_like" t_law_like ["cells"] (spP K 1 s_law_like) := by
  refine ok_pure D sc_law_like rfl rfl (fun f cdv A outer s H E hr => ?_)
  have hu : (cxOf CX0 P w K mg base ["cells", "x", "y"] "_law_like" (defScope t_law_like) f cdv A outer s H E).nox.A.units + 64 < cLine := hr.units
  have nd : (["cells", "x", "y"] : List Str).Nodup := sc_law_like.nd
  exact (bp_one (sp_ret (ep_callTy b_tuple m_tuple (by decide +kernel) (ap_cons (ep_own (np_lc [("y", 2)] (ip_seq (ep_var 0)) (blkOk_by (N := N_law_like) (sc := defScope t_law_like) (by decide +kernel)) (fun _ => (gp_name (i := 2) nd)) (fun _ => tsp_nil) (fun _ => (ep_op o_add ep_int (ep_callB b_len m_len (by decide +kernel) (ap_cons (ep_own (np_lc [("x", 1)] (ip_seq (ep_var 0)) (blkOk_by (by kernel_rfl)) (fun _ => (gp_name (i := 1) nd)) (fun _ => (tsp_one (tp_cmp c_lt (ep_var 1) (ep_var 2)))) (fun _ => (ep_var 1)) rfl nd)) ap_nil)))) rfl nd)) ap_nil))))
end

/-! ### _law_filled -/
abbrev t_law_filled : Stmt := top 22
abbrev N_law_filled : List Str := ["row", "rows", "found", "at", "less", "j", "x"]
theorem sc_law_filled : FnScope ["row", "rows", "found", "at", "less", "j", "x"] ["row", "rows"] (defScope t_law_filled) := ⟨rfl, rfl, rfl, by decide +kernel, rfl, by decide +kernel, by decide +kernel⟩
def b_law_filled : SX := (sSeq (sSet 2 (nVal (eLst aNil)))
    (sSeq (sFor (itRange (aCons (eLenV 0) aNil)) (gxName 3) (sSeq (sSet 4 (nVal (eCall pSum (aCons (nOwn (nLc (itRange (aCons (eLenV 0) aNil)) (gxName 5) (tOf (eOp pLt (eIxV 0 (eVar 5)) (eIxV 0 (eVar 3)))) (eCall pLen (aCons (eIxV 1 (eVar 5)) aNil)) [5])) aNil))))
    (sSet 2 (nVal (eOp pAdd (eVar 2) (nOwn (nLc (itSeq (eIxV 1 (eVar 3))) (gxName 6) tYesX (eOp pAdd (eVar 4) (eVar 6)) [6])))))))
    (sRet (eCall pTuple (aCons (eVar 2) aNil)))))
def s_law_filled : List PyData → Option PyData := runP 7 b_law_filled
section
variable {P : Program} {w : World} {K : PySem.W.Frag} {mg : Str → Option Value} {base : Heap}
theorem ok_law_filled (D : Df K mg "_law_filled" t_law_filled ["row", "rows"])
    (m_len : mg "len" = none)
    (m_range : mg "range" = none)
    (m_sum : mg "sum" = none)
    (m_tuple : mg "tuple" = none) : Ok P w K mg base 1 "_law_filled" t_law_filled ["row", "rows"] (spP K 2 s_law_filled) := by
  refine ok_pure D sc_law_filled rfl rfl (fun f cdv A outer s H E hr => ?_)
  have hu : (cxOf CX0 P w K mg base ["row", "rows", "found", "at", "less", "j", "x"] "_law_filled" (defScope t_law_filled) f cdv A outer s H E).nox.A.units + 64 < cLine := hr.units
  have nd : (["row", "rows", "found", "at", "less", "j", "x"] : List Str).Nodup := sc_law_filled.nd
  exact (bp_cons (sp_set (i := 2) (np_val (ep_lst ap_nil)) nd)
    (bp_cons (sp_for (ip_range1 m_range (ep_lenV (i := 0) m_len)) (gp_name (i := 3) nd) (bp_cons (sp_set (i := 4) (np_val (ep_callB (b_sum rfl) m_sum (by decide +kernel) (ap_cons (ep_own (np_lc [("j", 5)] (ip_range1 m_range (ep_lenV (i := 0) m_len)) (blkOk_by (N := N_law_filled) (sc := defScope t_law_filled) (by decide +kernel)) (fun _ => (gp_name (i := 5) nd)) (fun _ => (tsp_one (tp_cmp c_lt (ep_ixV (i := 0) (ep_var 5)) (ep_ixV (i := 0) (ep_var 3))))) (fun _ => (ep_callB b_len m_len (by decide +kernel) (ap_cons (ep_ixV (i := 1) (ep_var 5)) ap_nil))) rfl nd)) ap_nil))) nd)
    (bp_one (sp_set (i := 2) (np_val (ep_op o_add (ep_var 2) (ep_own (np_lc [("x", 6)] (ip_seq (ep_ixV (i := 1) (ep_var 3))) (blkOk_by (N := N_law_filled) (sc := defScope t_law_filled) (by decide +kernel)) (fun _ => (gp_name (i := 6) nd)) (fun _ => tsp_nil) (fun _ => (ep_op o_add (ep_var 4) (ep_var 6))) rfl nd)))) nd))))
    (bp_one (sp_ret (ep_callTy b_tuple m_tuple (by decide +kernel) (ap_cons (ep_var 2) ap_nil))))))
end

/-! ### _law_row -/
abbrev t_law_row : Stmt := top 23
abbrev N_law_row : List Str := ["deck", "most", "way", "many", "straight", "base", "rest", "rows", "at", "more"]
theorem sc_law_row : FnScope ["deck", "most", "way", "many", "straight", "base", "rest", "rows", "at", "more"] ["deck", "most"] (defScope t_law_row) := ⟨rfl, rfl, rfl, by decide +kernel, rfl, by decide +kernel, by decide +kernel⟩
def b_law_row : SX := (sSeq (sPar 2 3 (nVal (eCallM 0 s_law_take (aCons (eC (.int 6)) aNil))) (nVal (eCallM 0 s_law_take (aCons (eOp pAdd (eVar 1) (eC (.int 1))) aNil))))
    (sSeq (sIf (tOrX (tOf (eOp pLt (eVar 2) (eC (.int 2)))) (tOf (eOp pLt (eVar 3) (eC (.int 2))))) (sRet (eCallM 0 s_law_drawn (aCons (eVar 3) aNil))) sNext)
    (sSeq (sIf (tOf (eOp pEq (eVar 2) (eC (.int 2)))) (sSeq (sSet 4 (nVal (eTR (rxOf (aCons (eC (.int 1)) (aCons (eOp pAdd (eVar 3) (eC (.int 1))) aNil))))))
    (sRet (eOp pIx (eLst (aCons (eVar 4) (aCons (eUn pRev (eVar 4)) aNil))) (eCallM 0 s_law_take (aCons (eC (.int 2)) aNil))))) sNext)
    (sSeq (sSet 5 (nVal (eCallM 0 s_law_drawn (aCons (eOp pAdd (eC (.int 2)) (eCallM 0 s_law_take (aCons (eOp pSub (eVar 3) (eC (.int 1))) aNil))) aNil))))
    (sSeq (sIf (tOf (eOp pEq (eVar 2) (eC (.int 3)))) (sSet 5 (nVal (eOp pIx (eLst (aCons (eTR (rxOf (aCons (eC (.int 1)) (aCons (eOp pAdd (eLenV 5) (eC (.int 1))) aNil)))) (aCons (eTR (rxOf (aCons (eLenV 5) (aCons (eC (.int 0)) (aCons (eUn pNeg (eC (.int 1))) aNil))))) aNil))) (eCallM 0 s_law_take (aCons (eC (.int 2)) aNil))))) sNext)
    (sSeq (sPar 6 7 (nVal (eOp pSub (eVar 3) (eLenV 5))) (nLst aNil))
    (sSeq (sFor (itRange (aCons (eLenV 5) aNil)) (gxName 8) (sSeq (sSet 9 (nVal (eCallM 0 s_law_take (aCons (eOp pAdd (eVar 6) (eC (.int 1))) aNil))))
    (sSeq (sSet 6 (nVal (eOp pSub (eVar 6) (eVar 9))))
    (sApp 7 (eCallM 0 s_law_drawn (aCons (eOp pAdd (eC (.int 1)) (eVar 9)) aNil))))))
    (sRet (eCall s_law_filled (aCons (eVar 5) (aCons (eVar 7) aNil)))))))))))
def s_law_row : List PyData → List PyData → Option (PyData × List PyData) := runM 10 b_law_row
section
variable {P : Program} {w : World} {K : PySem.W.Frag} {mg : Str → Option Value} {base : Heap}
theorem ok_law_row (D : Df K mg "_law_row" t_law_row ["deck", "most"])
    (G_law_drawn : Ok P w K mg base 2 "_law_drawn" t_law_drawn ["deck", "many"] (spM K 2 s_law_drawn))
    (G_law_filled : Ok P w K mg base 1 "_law_filled" t_law_filled ["row", "rows"] (spP K 2 s_law_filled))
    (G_law_take : Ok P w K mg base 1 "_law_take" t_law_take ["deck", "many"] (spM K 2 s_law_take))
    (m_len : mg "len" = none)
    (m_range : mg "range" = none)
    (m_tuple : mg "tuple" = none) : Ok P w K mg base 3 "_law_row" t_law_row ["deck", "most"] (spM K 2 s_law_row) := by
  refine ok_mut D sc_law_row rfl rfl (fun f cdv A outer s H E hr => ?_)
  have hu : (cxOf CX0 P w K mg base ["deck", "most", "way", "many", "straight", "base", "rest", "rows", "at", "more"] "_law_row" (defScope t_law_row) f cdv A outer s H E).nox.A.units + 64 < cLine := hr.units
  have nd : (["deck", "most", "way", "many", "straight", "base", "rest", "rows", "at", "more"] : List Str).Nodup := sc_law_row.nd
  exact (bp_cons (sp_par (i := 2) (j := 3) (np_val (ep_oM (i := 0) G_law_take (hr.mono (by first | decide | omega)) (ap_cons ep_int ap_nil) (len_cons len_nil) rfl)) (np_val (ep_oM (i := 0) G_law_take (hr.mono (by first | decide | omega)) (ap_cons (ep_op o_add (ep_var 1) ep_int) ap_nil) (len_cons len_nil) rfl)) rfl nd)
    (bp_cons (sp_if (wp_or (tp_cmp c_lt (ep_var 2) ep_int) (wp_or1 (tp_cmp c_lt (ep_var 3) ep_int))).tp (bp_one (sp_ret (ep_oM (i := 0) G_law_drawn (hr.mono (by first | decide | omega)) (ap_cons (ep_var 3) ap_nil) (len_cons len_nil) rfl))) bp_nil)
    (bp_cons (sp_if (tp_cmp (c_eq hu) (ep_var 2) ep_int) (bp_cons (sp_set (i := 4) (np_val (ep_TR rfl m_tuple (rp_2 m_range ep_int (ep_op o_add (ep_var 3) ep_int)))) nd)
    (bp_one (sp_ret (ep_ix i_ix (ep_lst (ap_cons (ep_var 4) (ap_cons (ep_rev (ep_var 4)) ap_nil))) (ep_oM (i := 0) G_law_take (hr.mono (by first | decide | omega)) (ap_cons ep_int ap_nil) (len_cons len_nil) rfl))))) bp_nil)
    (bp_cons (sp_set (i := 5) (np_val (ep_oM (i := 0) G_law_drawn (hr.mono (by first | decide | omega)) (ap_cons (ep_op o_add ep_int (ep_oM (i := 0) G_law_take (hr.mono (by first | decide | omega)) (ap_cons (ep_op o_sub (ep_var 3) ep_int) ap_nil) (len_cons len_nil) rfl)) ap_nil) (len_cons len_nil) rfl)) nd)
    (bp_cons (sp_if (tp_cmp (c_eq hu) (ep_var 2) ep_int) (bp_one (sp_set (i := 5) (np_val (ep_ix i_ix (ep_lst (ap_cons (ep_TR rfl m_tuple (rp_2 m_range ep_int (ep_op o_add (ep_lenV (i := 5) m_len) ep_int))) (ap_cons (ep_TR rfl m_tuple (rp_3 m_range (ep_lenV (i := 5) m_len) ep_int (ep_un u_neg ep_int))) ap_nil))) (ep_oM (i := 0) G_law_take (hr.mono (by first | decide | omega)) (ap_cons ep_int ap_nil) (len_cons len_nil) rfl))) nd)) bp_nil)
    (bp_cons (sp_par (i := 6) (j := 7) (np_val (ep_op o_sub (ep_var 3) (ep_lenV (i := 5) m_len))) (np_lst ap_nil) rfl nd)
    (bp_cons (sp_for (ip_range1 m_range (ep_lenV (i := 5) m_len)) (gp_name (i := 8) nd) (bp_cons (sp_set (i := 9) (np_val (ep_oM (i := 0) G_law_take (hr.mono (by first | decide | omega)) (ap_cons (ep_op o_add (ep_var 6) ep_int) ap_nil) (len_cons len_nil) rfl)) nd)
    (bp_cons (sp_set (i := 6) (np_val (ep_op o_sub (ep_var 6) (ep_var 9))) nd)
    (bp_one (sp_app (i := 7) (ep_oM (i := 0) G_law_drawn (hr.mono (by first | decide | omega)) (ap_cons (ep_op o_add ep_int (ep_var 9)) ap_nil) (len_cons len_nil) rfl))))))
    (bp_one (sp_ret (ep_o G_law_filled (hr.mono (by first | decide | omega)) (ap_cons (ep_var 5) (ap_cons (ep_var 7) ap_nil)) (len_cons (len_cons len_nil))))))))))))
end

/-! ### _law_blocks -/
abbrev t_law_blocks : Stmt := top 24
abbrev N_law_blocks : List Str := ["row", "found", "start", "stop", "cells"]
theorem sc_law_blocks : FnScope ["row", "found", "start", "stop", "cells"] ["row"] (defScope t_law_blocks) := ⟨rfl, rfl, rfl, by decide +kernel, rfl, by decide +kernel, by decide +kernel⟩
def b_law_blocks : SX := (sSeq (sSet 1 (nLst aNil))
    (sSeq (sFor (itRange (aCons (eLenV 0) aNil)) (gxName 2) (sFor (itRange (aCons (eOp pAdd (eVar 2) (eC (.int 1))) (aCons (eOp pAdd (eLenV 0) (eC (.int 1))) aNil))) (gxName 3) (sSeq (sSet 4 (nVal (eCall pSorted (aCons (eSl pSl (eVar 0) (oSome (eVar 2)) (oSome (eVar 3))) aNil))))
    (sIf (tOf (eOp pEq (eVar 4) (eLR (rxOf (aCons (eIxV 4 (eC (.int 0))) (aCons (eOp pAdd (eIxV 4 (eC (.int 0))) (eLenV 4)) aNil)))))) (sApp 1 (eTup (aCons (eVar 2) (aCons (eVar 3) aNil)))) sNext))))
    (sRet (eVar 1))))
def s_law_blocks : List PyData → Option PyData := runP 5 b_law_blocks
section
variable {P : Program} {w : World} {K : PySem.W.Frag} {mg : Str → Option Value} {base : Heap}
theorem ok_law_blocks (D : Df K mg "_law_blocks" t_law_blocks ["row"])
    (m_len : mg "len" = none)
    (m_list : mg "list" = none)
    (m_range : mg "range" = none)
    (m_sorted : mg "sorted" = none) : Ok P w K mg base 1 "_law_blocks" t_law_blocks ["row"] (spP K 1 s_law_blocks) := by
  refine ok_pure D sc_law_blocks rfl rfl (fun f cdv A outer s H E hr => ?_)
  have hu : (cxOf CX0 P w K mg base ["row", "found", "start", "stop", "cells"] "_law_blocks" (defScope t_law_blocks) f cdv A outer s H E).nox.A.units + 64 < cLine := hr.units
  have nd : (["row", "found", "start", "stop", "cells"] : List Str).Nodup := sc_law_blocks.nd
  exact (bp_cons (sp_set (i := 1) (np_lst ap_nil) nd)
    (bp_cons (sp_for (ip_range1 m_range (ep_lenV (i := 0) m_len)) (gp_name (i := 2) nd) (bp_one (sp_for (ip_range2 m_range (ep_op o_add (ep_var 2) ep_int) (ep_op o_add (ep_lenV (i := 0) m_len) ep_int)) (gp_name (i := 3) nd) (bp_cons (sp_set (i := 4) (np_val (ep_callB b_sorted m_sorted (by decide +kernel) (ap_cons (ep_slice s_sl (ep_var 0) (opt_some (ep_var 2)) (opt_some (ep_var 3))) ap_nil))) nd)
    (bp_one (sp_if (tp_cmp (c_eq hu) (ep_var 4) (ep_LR rfl m_list (rp_2 m_range (ep_ixV (i := 4) ep_int) (ep_op o_add (ep_ixV (i := 4) ep_int) (ep_lenV (i := 4) m_len))))) (bp_one (sp_app (i := 1) (ep_tup (ap_cons (ep_var 2) (ap_cons (ep_var 3) ap_nil))))) bp_nil))))))
    (bp_one (sp_ret (ep_var 1)))))
end

/-! ### _law_is_simple -/
abbrev t_law_is_simple : Stmt := top 25
abbrev N_law_is_simple : List Str := ["row", "block"]
theorem sc_law_is_simple : FnScope ["row", "block"] ["row"] (defScope t_law_is_simple) := ⟨rfl, rfl, rfl, by decide +kernel, rfl, by decide +kernel, by decide +kernel⟩
def b_law_is_simple : SX := (sRet (eAnd (eOp pGt (eLenV 0) (eC (.int 3))) (eOp pEq (nOwn (nLc (itSeq (eCall s_law_blocks (aCons (eVar 0) aNil))) (gxName 1) (tOf (eChain pLt pLt (eC (.int 1)) (eOp pSub (eIxV 1 (eC (.int 1))) (eIxV 1 (eC (.int 0)))) (eLenV 0))) (eVar 1) [1])) (eLst aNil))))
def s_law_is_simple : List PyData → Option PyData := runP 2 b_law_is_simple
section
variable {P : Program} {w : World} {K : PySem.W.Frag} {mg : Str → Option Value} {base : Heap}
theorem ok_law_is_simple (D : Df K mg "_law_is_simple" t_law_is_simple ["row"])
    (G_law_blocks : Ok P w K mg base 1 "_law_blocks" t_law_blocks ["row"] (spP K 1 s_law_blocks))
    (m_len : mg "len" = none) : Ok P w K mg base 2 "_law_is_simple" t_law_is_simple ["row"] (spP K 1 s_law_is_simple) := by
  refine ok_pure D sc_law_is_simple rfl rfl (fun f cdv A outer s H E hr => ?_)
  have hu : (cxOf CX0 P w K mg base ["row", "block"] "_law_is_simple" (defScope t_law_is_simple) f cdv A outer s H E).nox.A.units + 64 < cLine := hr.units
  have nd : (["row", "block"] : List Str).Nodup := sc_law_is_simple.nd
  exact (bp_one (sp_ret (ep_and (ep_cmp c_gt (ep_lenV (i := 0) m_len) ep_int) (ep_one (ep_cmp (c_eq hu) (ep_own (np_lc [("block", 1)] (ip_seq (ep_o G_law_blocks (hr.mono (by first | decide | omega)) (ap_cons (ep_var 0) ap_nil) (len_cons len_nil))) (blkOk_by (N := N_law_is_simple) (sc := defScope t_law_is_simple) (by decide +kernel)) (fun _ => (gp_name (i := 1) nd)) (fun _ => (tsp_one (tp_chain c_lt c_lt ep_int (ep_op o_sub (ep_ixV (i := 1) ep_int) (ep_ixV (i := 1) ep_int)) (ep_lenV (i := 0) m_len)))) (fun _ => (ep_var 1)) rfl nd)) (ep_lst ap_nil))))))
end

/-! ### _law_split -/
abbrev t_law_split : Stmt := top 26
abbrev N_law_split : List Str := ["row", "skew", "found", "rest", "turn", "many", "size", "ends"]
theorem sc_law_split : FnScope ["row", "skew", "found", "rest", "turn", "many", "size", "ends"] ["row", "skew"] (defScope t_law_split) := ⟨rfl, rfl, rfl, by decide +kernel, rfl, by decide +kernel, by decide +kernel⟩
def b_law_split : SX := (sSeq (sPar 2 3 (nLst aNil) (nVal (eVar 0)))
    (sSeq (sFor (itRange (aCons (eLenV 0) aNil)) (gxName 4) (sSeq (sSet 5 (nVal (eLenV 3)))
    (sFor (itRange (aCons (eC (.int 1)) (aCons (eOp pAdd (eVar 5) (eC (.int 1))) aNil))) (gxName 6) (sSeq (sSet 7 (nVal (eIf (tTruX (eVar 1)) (eLR (rxOf (aCons (eOp pAdd (eOp pSub (eVar 5) (eVar 6)) (eC (.int 1))) (aCons (eOp pAdd (eVar 5) (eC (.int 1))) aNil)))) (eLR (rxOf (aCons (eC (.int 1)) (aCons (eOp pAdd (eVar 6) (eC (.int 1))) aNil)))))))
    (sIf (tOf (eOp pEq (eCall pSorted (aCons (eSl pSl (eVar 3) oNone (oSome (eVar 6))) aNil)) (eVar 7))) (sSeq (sApp 2 (eCall s_law_like (aCons (eSl pSl (eVar 3) oNone (oSome (eVar 6))) aNil)))
    (sSeq (sSet 3 (nVal (eCall s_law_like (aCons (eSl pSl (eVar 3) (oSome (eVar 6)) oNone) aNil))))
    sBreak)) sNext)))))
    (sRet (eCall pTuple (aCons (eVar 2) aNil)))))
def s_law_split : List PyData → Option PyData := runP 8 b_law_split
section
variable {P : Program} {w : World} {K : PySem.W.Frag} {mg : Str → Option Value} {base : Heap}
theorem ok_law_split (D : Df K mg "_law_split" t_law_split ["row", "skew"])
    (G_law_like : Ok P w K mg base 1 "_law_like" t_law_like ["cells"] (spP K 1 s_law_like))
    (m_len : mg "len" = none)
    (m_list : mg "list" = none)
    (m_range : mg "range" = none)
    (m_sorted : mg "sorted" = none)
    (m_tuple : mg "tuple" = none) : Ok P w K mg base 2 "_law_split" t_law_split ["row", "skew"] (spP K 2 s_law_split) := by
  refine ok_pure D sc_law_split rfl rfl (fun f cdv A outer s H E hr => ?_)
  have hu : (cxOf CX0 P w K mg base ["row", "skew", "found", "rest", "turn", "many", "size", "ends"] "_law_split" (defScope t_law_split) f cdv A outer s H E).nox.A.units + 64 < cLine := hr.units
  have nd : (["row", "skew", "found", "rest", "turn", "many", "size", "ends"] : List Str).Nodup := sc_law_split.nd
  exact (bp_cons (sp_par (i := 2) (j := 3) (np_lst ap_nil) (np_val (ep_var 0)) rfl nd)
    (bp_cons (sp_for (ip_range1 m_range (ep_lenV (i := 0) m_len)) (gp_name (i := 4) nd) (bp_cons (sp_set (i := 5) (np_val (ep_lenV (i := 3) m_len)) nd)
    (bp_one (sp_for (ip_range2 m_range ep_int (ep_op o_add (ep_var 5) ep_int)) (gp_name (i := 6) nd) (bp_cons (sp_set (i := 7) (np_val (ep_if (tp_tru (ep_var 1)) (ep_LR rfl m_list (rp_2 m_range (ep_op o_add (ep_op o_sub (ep_var 5) (ep_var 6)) ep_int) (ep_op o_add (ep_var 5) ep_int))) (ep_LR rfl m_list (rp_2 m_range ep_int (ep_op o_add (ep_var 6) ep_int))))) nd)
    (bp_one (sp_if (tp_cmp (c_eq hu) (ep_callB b_sorted m_sorted (by decide +kernel) (ap_cons (ep_slice s_sl (ep_var 3) opt_none (opt_some (ep_var 6))) ap_nil)) (ep_var 7)) (bp_cons (sp_app (i := 2) (ep_o G_law_like (hr.mono (by first | decide | omega)) (ap_cons (ep_slice s_sl (ep_var 3) opt_none (opt_some (ep_var 6))) ap_nil) (len_cons len_nil)))
    (bp_cons (sp_set (i := 3) (np_val (ep_o G_law_like (hr.mono (by first | decide | omega)) (ap_cons (ep_slice s_sl (ep_var 3) (opt_some (ep_var 6)) opt_none) ap_nil) (len_cons len_nil))) nd)
    (bp_one sp_break))) bp_nil)))))))
    (bp_one (sp_ret (ep_callTy b_tuple m_tuple (by decide +kernel) (ap_cons (ep_var 2) ap_nil))))))
end

/-! ### _law_sum -/
abbrev t_law_sum : Stmt := top 27
abbrev N_law_sum : List Str := ["row", "second_row", "x"]
theorem sc_law_sum : FnScope ["row", "second_row", "x"] ["row", "second_row"] (defScope t_law_sum) := ⟨rfl, rfl, rfl, by decide +kernel, rfl, by decide +kernel, by decide +kernel⟩
def b_law_sum : SX := (sRet (eOp pAdd (eVar 0) (eCall pTuple (aCons (nOwn (nLc (itSeq (eVar 1)) (gxName 2) tYesX (eOp pAdd (eLenV 0) (eVar 2)) [2])) aNil))))
def s_law_sum : List PyData → Option PyData := runP 3 b_law_sum
section
variable {P : Program} {w : World} {K : PySem.W.Frag} {mg : Str → Option Value} {base : Heap}
theorem ok_law_sum (D : Df K mg "_law_sum" t_law_sum ["row", "second_row"])
    (m_len : mg "len" = none)
    (m_tuple : mg "tuple" = none) : Ok P w K mg base 1 "_law_sum" t_law_sum ["row", "second_row"] (spP K 2 s_law_sum) := by
  refine ok_pure D sc_law_sum rfl rfl (fun f cdv A outer s H E hr => ?_)
  have hu : (cxOf CX0 P w K mg base ["row", "second_row", "x"] "_law_sum" (defScope t_law_sum) f cdv A outer s H E).nox.A.units + 64 < cLine := hr.units
  have nd : (["row", "second_row", "x"] : List Str).Nodup := sc_law_sum.nd
  exact (bp_one (sp_ret (ep_op o_add (ep_var 0) (ep_callTy b_tuple m_tuple (by decide +kernel) (ap_cons (ep_own (np_lc [("x", 2)] (ip_seq (ep_var 1)) (blkOk_by (N := N_law_sum) (sc := defScope t_law_sum) (by decide +kernel)) (fun _ => (gp_name (i := 2) nd)) (fun _ => tsp_nil) (fun _ => (ep_op o_add (ep_lenV (i := 0) m_len) (ep_var 2))) rfl nd)) ap_nil)))))
end

/-! ### _law_skew_sum -/
abbrev t_law_skew_sum : Stmt := top 28
abbrev N_law_skew_sum : List Str := ["row", "second_row", "x"]
theorem sc_law_skew_sum : FnScope ["row", "second_row", "x"] ["row", "second_row"] (defScope t_law_skew_sum) := ⟨rfl, rfl, rfl, by decide +kernel, rfl, by decide +kernel, by decide +kernel⟩
def b_law_skew_sum : SX := (sRet (eOp pAdd (eCall pTuple (aCons (nOwn (nLc (itSeq (eVar 0)) (gxName 2) tYesX (eOp pAdd (eLenV 1) (eVar 2)) [2])) aNil)) (eVar 1)))
def s_law_skew_sum : List PyData → Option PyData := runP 3 b_law_skew_sum
section
variable {P : Program} {w : World} {K : PySem.W.Frag} {mg : Str → Option Value} {base : Heap}
theorem ok_law_skew_sum (D : Df K mg "_law_skew_sum" t_law_skew_sum ["row", "second_row"])
    (m_len : mg "len" = none)
    (m_tuple : mg "tuple" = none) : Ok P w K mg base 1 "_law_skew_sum" t_law_skew_sum ["row", "second_row"] (spP K 2 s_law_skew_sum) := by
  refine ok_pure D sc_law_skew_sum rfl rfl (fun f cdv A outer s H E hr => ?_)
  have hu : (cxOf CX0 P w K mg base ["row", "second_row", "x"] "_law_skew_sum" (defScope t_law_skew_sum) f cdv A outer s H E).nox.A.units + 64 < cLine := hr.units
  have nd : (["row", "second_row", "x"] : List Str).Nodup := sc_law_skew_sum.nd
  exact (bp_one (sp_ret (ep_op o_add (ep_callTy b_tuple m_tuple (by decide +kernel) (ap_cons (ep_own (np_lc [("x", 2)] (ip_seq (ep_var 0)) (blkOk_by (N := N_law_skew_sum) (sc := defScope t_law_skew_sum) (by decide +kernel)) (fun _ => (gp_name (i := 2) nd)) (fun _ => tsp_nil) (fun _ => (ep_op o_add (ep_lenV (i := 1) m_len) (ep_var 2))) rfl nd)) ap_nil)) (ep_var 1))))
end

/-! ### _law_summed_right -/
abbrev t_law_summed_right : Stmt := top 29
abbrev N_law_summed_right : List Str := ["row", "second_row", "due"]
theorem sc_law_summed_right : FnScope ["row", "second_row", "due"] ["row", "second_row"] (defScope t_law_summed_right) := ⟨rfl, rfl, rfl, by decide +kernel, rfl, by decide +kernel, by decide +kernel⟩
def b_law_summed_right : SX := (sSeq (sSet 2 (nVal (eCall s_law_sum (aCons (eVar 0) (aCons (eVar 1) aNil)))))
    (sSeq (sIf (tNotX (tTruX (eCall (s_law_same 40) (aCons (eLst (aCons (eCall s_summed (aCons (eVar 0) (aCons (eVar 1) aNil))) (aCons (eCallK s_summed 0 [1, 0] aNil (aCons (eVar 1) (aCons (eVar 0) aNil))) aNil))) (aCons (eLst (aCons (eVar 2) (aCons (eVar 2) aNil))) aNil))))) (sRet (eC (.bool false))) sNext)
    (sSeq (sSet 2 (nVal (eCall s_law_skew_sum (aCons (eVar 0) (aCons (eVar 1) aNil)))))
    (sRet (eCall (s_law_same 40) (aCons (eLst (aCons (eCall s_skew_summed (aCons (eVar 0) (aCons (eVar 1) aNil))) (aCons (eCallK s_skew_summed 0 [1, 0] aNil (aCons (eVar 1) (aCons (eVar 0) aNil))) aNil))) (aCons (eLst (aCons (eVar 2) (aCons (eVar 2) aNil))) aNil)))))))
def s_law_summed_right : List PyData → Option PyData := runP 3 b_law_summed_right
section
variable {P : Program} {w : World} {K : PySem.W.Frag} {mg : Str → Option Value} {base : Heap}
theorem ok_law_summed_right (D : Df K mg "_law_summed_right" t_law_summed_right ["row", "second_row"])
    (G_law_same : Ok P w K mg base 41 "_law_same" t_law_same ["found", "due"] (spP K 2 (s_law_same 40)))
    (G_law_skew_sum : Ok P w K mg base 1 "_law_skew_sum" t_law_skew_sum ["row", "second_row"] (spP K 2 s_law_skew_sum))
    (G_law_sum : Ok P w K mg base 1 "_law_sum" t_law_sum ["row", "second_row"] (spP K 2 s_law_sum))
    (G_skew_summed : Ok P w K mg base 5 "skew_summed" t_skew_summed ["one", "other"] (spP K 2 s_skew_summed))
    (G_summed : Ok P w K mg base 5 "summed" t_summed ["one", "other"] (spP K 2 s_summed)) : Ok P w K mg base 42 "_law_summed_right" t_law_summed_right ["row", "second_row"] (spP K 2 s_law_summed_right) := by
  refine ok_pure D sc_law_summed_right rfl rfl (fun f cdv A outer s H E hr => ?_)
  have hu : (cxOf CX0 P w K mg base ["row", "second_row", "due"] "_law_summed_right" (defScope t_law_summed_right) f cdv A outer s H E).nox.A.units + 64 < cLine := hr.units
  have nd : (["row", "second_row", "due"] : List Str).Nodup := sc_law_summed_right.nd
  exact (bp_cons (sp_set (i := 2) (np_val (ep_o G_law_sum (hr.mono (by first | decide | omega)) (ap_cons (ep_var 0) (ap_cons (ep_var 1) ap_nil)) (len_cons (len_cons len_nil)))) nd)
    (bp_cons (sp_if (tp_not (tp_tru (ep_o G_law_same (hr.mono (by first | decide | omega)) (ap_cons (ep_lst (ap_cons (ep_o G_summed (hr.mono (by first | decide | omega)) (ap_cons (ep_var 0) (ap_cons (ep_var 1) ap_nil)) (len_cons (len_cons len_nil))) (ap_cons (ep_oK0 (perm := [1, 0]) (ks := ["other", "one"]) G_summed (hr.mono (by first | decide | omega)) (fun _ _ _ _ _ _ us ws h1 h2 => match us, ws, h1, h2 with | [], [_, _], _, _ => rfl) (kp_cons (ep_var 1) (kp_cons (ep_var 0) kp_nil)) (len_cons (len_cons len_nil)) (fun ds h => match ds, h with | [_, _], _ => rfl)) ap_nil))) (ap_cons (ep_lst (ap_cons (ep_var 2) (ap_cons (ep_var 2) ap_nil))) ap_nil)) (len_cons (len_cons len_nil))))) (bp_one (sp_ret ep_bl)) bp_nil)
    (bp_cons (sp_set (i := 2) (np_val (ep_o G_law_skew_sum (hr.mono (by first | decide | omega)) (ap_cons (ep_var 0) (ap_cons (ep_var 1) ap_nil)) (len_cons (len_cons len_nil)))) nd)
    (bp_one (sp_ret (ep_o G_law_same (hr.mono (by first | decide | omega)) (ap_cons (ep_lst (ap_cons (ep_o G_skew_summed (hr.mono (by first | decide | omega)) (ap_cons (ep_var 0) (ap_cons (ep_var 1) ap_nil)) (len_cons (len_cons len_nil))) (ap_cons (ep_oK0 (perm := [1, 0]) (ks := ["other", "one"]) G_skew_summed (hr.mono (by first | decide | omega)) (fun _ _ _ _ _ _ us ws h1 h2 => match us, ws, h1, h2 with | [], [_, _], _, _ => rfl) (kp_cons (ep_var 1) (kp_cons (ep_var 0) kp_nil)) (len_cons (len_cons len_nil)) (fun ds h => match ds, h with | [_, _], _ => rfl)) ap_nil))) (ap_cons (ep_lst (ap_cons (ep_var 2) (ap_cons (ep_var 2) ap_nil))) ap_nil)) (len_cons (len_cons len_nil))))))))
end

/-! ### _law_parts_right -/
abbrev t_law_parts_right : Stmt := top 30
abbrev N_law_parts_right : List Str := ["row", "due", "skew_due", "again", "skew_again", "part", "mirror", "x"]
theorem sc_law_parts_right : FnScope ["row", "due", "skew_due", "again", "skew_again", "part", "mirror", "x"] ["row"] (defScope t_law_parts_right) := ⟨rfl, rfl, rfl, by decide +kernel, rfl, by decide +kernel, by decide +kernel⟩
def b_law_parts_right : SX := (sSeq (sPar 1 2 (nVal (eCall s_law_split (aCons (eVar 0) (aCons (eC (.bool false)) aNil)))) (nVal (eCall s_law_split (aCons (eVar 0) (aCons (eC (.bool true)) aNil)))))
    (sSeq (sIf (tNotX (tTruX (eCall (s_law_same 40) (aCons (eLst (aCons (eCall s_parts (aCons (eVar 0) aNil)) (aCons (eCallK s_parts 0 [0] aNil (aCons (eVar 0) aNil)) (aCons (eCall s_skew_parts (aCons (eVar 0) aNil)) (aCons (eCallK s_skew_parts 0 [0] aNil (aCons (eVar 0) aNil)) aNil))))) (aCons (eLst (aCons (eVar 1) (aCons (eVar 1) (aCons (eVar 2) (aCons (eVar 2) aNil))))) aNil))))) (sRet (eC (.bool false))) sNext)
    (sSeq (sIf (tAndX (tOf (eOp pGt (eLenV 0) (eC (.int 1)))) (tAndX (tOf (eOp pGt (eLenV 1) (eC (.int 1)))) (tOf (eOp pGt (eLenV 2) (eC (.int 1)))))) (sRet (eC (.bool false))) sNext)
    (sSeq (sAsg (eTup (aCons (eTup aNil) (aCons (eTup aNil) aNil))) (gxTup 2 (gxCons (gxName 3) (gxCons (gxName 4) gxNil))))
    (sSeq (sFor (itSeq (eVar 1)) (gxName 5) (sSet 3 (nVal (eCall s_summed (aCons (eVar 3) (aCons (eVar 5) aNil))))))
    (sSeq (sFor (itSeq (eVar 2)) (gxName 5) (sSet 4 (nVal (eCall s_skew_summed (aCons (eVar 4) (aCons (eVar 5) aNil))))))
    (sSeq (sSet 6 (nLc (itSeq (eVar 1)) (gxName 5) tYesX (eCall pTuple (aCons (nOwn (nLc (itSeq (eVar 5)) (gxName 7) tYesX (eOp pSub (eOp pAdd (eLenV 5) (eC (.int 1))) (eVar 7)) [7])) aNil)) [5]))
    (sRet (eCall (s_law_same 40) (aCons (eLst (aCons (eVar 3) (aCons (eVar 4) (aCons (eCall s_skew_parts (aCons (eCall s_mirrored (aCons (eVar 0) aNil)) aNil)) aNil)))) (aCons (eLst (aCons (eVar 0) (aCons (eVar 0) (aCons (eCall pTuple (aCons (eVar 6) aNil)) aNil)))) aNil)))))))))))
def s_law_parts_right : List PyData → Option PyData := runP 8 b_law_parts_right
section
variable {P : Program} {w : World} {K : PySem.W.Frag} {mg : Str → Option Value} {base : Heap}
theorem ok_law_parts_right (D : Df K mg "_law_parts_right" t_law_parts_right ["row"])
    (G_law_same : Ok P w K mg base 41 "_law_same" t_law_same ["found", "due"] (spP K 2 (s_law_same 40)))
    (G_law_split : Ok P w K mg base 2 "_law_split" t_law_split ["row", "skew"] (spP K 2 s_law_split))
    (G_mirrored : Ok P w K mg base 5 "mirrored" t_mirrored ["order"] (spP K 1 s_mirrored))
    (G_parts : Ok P w K mg base 5 "parts" t_parts ["order"] (spP K 1 s_parts))
    (G_skew_parts : Ok P w K mg base 6 "skew_parts" t_skew_parts ["order"] (spP K 1 s_skew_parts))
    (G_skew_summed : Ok P w K mg base 5 "skew_summed" t_skew_summed ["one", "other"] (spP K 2 s_skew_summed))
    (G_summed : Ok P w K mg base 5 "summed" t_summed ["one", "other"] (spP K 2 s_summed))
    (m_len : mg "len" = none)
    (m_tuple : mg "tuple" = none) : Ok P w K mg base 42 "_law_parts_right" t_law_parts_right ["row"] (spP K 1 s_law_parts_right) := by
  refine ok_pure D sc_law_parts_right rfl rfl (fun f cdv A outer s H E hr => ?_)
  have hu : (cxOf CX0 P w K mg base ["row", "due", "skew_due", "again", "skew_again", "part", "mirror", "x"] "_law_parts_right" (defScope t_law_parts_right) f cdv A outer s H E).nox.A.units + 64 < cLine := hr.units
  have nd : (["row", "due", "skew_due", "again", "skew_again", "part", "mirror", "x"] : List Str).Nodup := sc_law_parts_right.nd
  exact (bp_cons (sp_par (i := 1) (j := 2) (np_val (ep_o G_law_split (hr.mono (by first | decide | omega)) (ap_cons (ep_var 0) (ap_cons ep_bl ap_nil)) (len_cons (len_cons len_nil)))) (np_val (ep_o G_law_split (hr.mono (by first | decide | omega)) (ap_cons (ep_var 0) (ap_cons ep_bl ap_nil)) (len_cons (len_cons len_nil)))) rfl nd)
    (bp_cons (sp_if (tp_not (tp_tru (ep_o G_law_same (hr.mono (by first | decide | omega)) (ap_cons (ep_lst (ap_cons (ep_o G_parts (hr.mono (by first | decide | omega)) (ap_cons (ep_var 0) ap_nil) (len_cons len_nil)) (ap_cons (ep_oK0 (perm := [0]) (ks := ["order"]) G_parts (hr.mono (by first | decide | omega)) (fun _ _ _ _ _ _ us ws h1 h2 => match us, ws, h1, h2 with | [], [_], _, _ => rfl) (kp_cons (ep_var 0) kp_nil) (len_cons len_nil) (fun ds h => match ds, h with | [_], _ => rfl)) (ap_cons (ep_o G_skew_parts (hr.mono (by first | decide | omega)) (ap_cons (ep_var 0) ap_nil) (len_cons len_nil)) (ap_cons (ep_oK0 (perm := [0]) (ks := ["order"]) G_skew_parts (hr.mono (by first | decide | omega)) (fun _ _ _ _ _ _ us ws h1 h2 => match us, ws, h1, h2 with | [], [_], _, _ => rfl) (kp_cons (ep_var 0) kp_nil) (len_cons len_nil) (fun ds h => match ds, h with | [_], _ => rfl)) ap_nil))))) (ap_cons (ep_lst (ap_cons (ep_var 1) (ap_cons (ep_var 1) (ap_cons (ep_var 2) (ap_cons (ep_var 2) ap_nil))))) ap_nil)) (len_cons (len_cons len_nil))))) (bp_one (sp_ret ep_bl)) bp_nil)
    (bp_cons (sp_if (wp_and (tp_cmp c_gt (ep_lenV (i := 0) m_len) ep_int) (wp_and (tp_cmp c_gt (ep_lenV (i := 1) m_len) ep_int) (wp_and1 (tp_cmp c_gt (ep_lenV (i := 2) m_len) ep_int)))).tp (bp_one (sp_ret ep_bl)) bp_nil)
    (bp_cons (sp_asg (ep_tup (ap_cons (ep_tup ap_nil) (ap_cons (ep_tup ap_nil) ap_nil))) (gp_tup rfl (gps_cons (gp_name (i := 3) nd) (gps_cons (gp_name (i := 4) nd) gps_nil))))
    (bp_cons (sp_for (ip_seq (ep_var 1)) (gp_name (i := 5) nd) (bp_one (sp_set (i := 3) (np_val (ep_o G_summed (hr.mono (by first | decide | omega)) (ap_cons (ep_var 3) (ap_cons (ep_var 5) ap_nil)) (len_cons (len_cons len_nil)))) nd)))
    (bp_cons (sp_for (ip_seq (ep_var 2)) (gp_name (i := 5) nd) (bp_one (sp_set (i := 4) (np_val (ep_o G_skew_summed (hr.mono (by first | decide | omega)) (ap_cons (ep_var 4) (ap_cons (ep_var 5) ap_nil)) (len_cons (len_cons len_nil)))) nd)))
    (bp_cons (sp_setLc (i := 6) [("part", 5)] (ip_seq (ep_var 1)) (blkOk_by (N := N_law_parts_right) (sc := defScope t_law_parts_right) (by decide +kernel)) (fun _ => (gp_name (i := 5) nd)) (fun _ => tsp_nil) (fun _ => (ep_callTy b_tuple m_tuple (by decide +kernel) (ap_cons (ep_own (np_lc [("x", 7)] (ip_seq (ep_var 5)) (blkOk_by (by kernel_rfl)) (fun _ => (gp_name (i := 7) nd)) (fun _ => tsp_nil) (fun _ => (ep_op o_sub (ep_op o_add (ep_lenV (i := 5) m_len) ep_int) (ep_var 7))) rfl nd)) ap_nil))) rfl nd (sw_true rfl rfl rfl (by decide +kernel)))
    (bp_one (sp_ret (ep_o G_law_same (hr.mono (by first | decide | omega)) (ap_cons (ep_lst (ap_cons (ep_var 3) (ap_cons (ep_var 4) (ap_cons (ep_o G_skew_parts (hr.mono (by first | decide | omega)) (ap_cons (ep_o G_mirrored (hr.mono (by first | decide | omega)) (ap_cons (ep_var 0) ap_nil) (len_cons len_nil)) ap_nil) (len_cons len_nil)) ap_nil)))) (ap_cons (ep_lst (ap_cons (ep_var 0) (ap_cons (ep_var 0) (ap_cons (ep_callTy b_tuple m_tuple (by decide +kernel) (ap_cons (ep_var 6) ap_nil)) ap_nil)))) ap_nil)) (len_cons (len_cons len_nil))))))))))))
end

/-! ### law -/
abbrev t_law : Stmt := top 31
abbrev N_law : List Str := ["script", "at", "deck", "row", "second_row", "wide"]
theorem sc_law : FnScope ["script", "at", "deck", "row", "second_row", "wide"] ["script"] (defScope t_law) := ⟨rfl, rfl, rfl, by decide +kernel, rfl, by decide +kernel, by decide +kernel⟩
def b_law : SX := (sSeq (sFor (itRange (aCons (eCall pMax2 (aCons (eC (.int 2)) (aCons (eCall pMin2 (aCons (eLenV 0) (aCons (eC (.int 10)) aNil))) aNil))) aNil)) (gxName 1) (sSeq (sSet 2 (nCallL s_law_deck (aCons (eVar 0) (aCons (eVar 1) aNil))))
    (sSeq (sPar 3 4 (nVal (eCallM 2 s_law_row (aCons (eC (.int 6)) aNil))) (nVal (eCallM 2 s_law_row (aCons (eOp pIx (eLst (aCons (eC (.int 2)) (aCons (eC (.int 6)) aNil))) (eCallM 2 s_law_take (aCons (eC (.int 2)) aNil))) aNil))))
    (sSeq (sIf (tOrX (tNotX (tTruX (eCall s_law_summed_right (aCons (eVar 3) (aCons (eVar 4) aNil))))) (tOrX (tNotX (tTruX (eCall s_law_summed_right (aCons (eTup aNil) (aCons (eVar 3) aNil))))) (tNotX (tTruX (eCall s_law_summed_right (aCons (eVar 3) (aCons (eTup aNil) aNil))))))) (sRet (eC (.bool false))) sNext)
    (sSeq (sSet 5 (nVal (eOp pIx (eLst (aCons (eCall s_law_sum (aCons (eVar 3) (aCons (eVar 4) aNil))) (aCons (eCall s_law_skew_sum (aCons (eVar 3) (aCons (eVar 4) aNil))) (aCons (eCallM 2 s_law_row (aCons (eC (.int 12)) aNil)) aNil)))) (eCallM 2 s_law_take (aCons (eC (.int 3)) aNil)))))
    (sIf (tOrX (tNotX (tTruX (eCall s_law_parts_right (aCons (eVar 5) aNil)))) (tNotX (tTruX (eCall s_law_parts_right (aCons (eVar 3) aNil))))) (sRet (eC (.bool false))) sNext))))))
    (sRet (eC (.bool true))))
def s_law : List PyData → Option PyData := runP 6 b_law
section
variable {P : Program} {w : World} {K : PySem.W.Frag} {mg : Str → Option Value} {base : Heap}
theorem ok_law (D : Df K mg "law" t_law ["script"])
    (G_law_deck : Ok P w K mg base 1 "_law_deck" t_law_deck ["script", "at"] (spL K 2 s_law_deck))
    (G_law_parts_right : Ok P w K mg base 42 "_law_parts_right" t_law_parts_right ["row"] (spP K 1 s_law_parts_right))
    (G_law_row : Ok P w K mg base 3 "_law_row" t_law_row ["deck", "most"] (spM K 2 s_law_row))
    (G_law_skew_sum : Ok P w K mg base 1 "_law_skew_sum" t_law_skew_sum ["row", "second_row"] (spP K 2 s_law_skew_sum))
    (G_law_sum : Ok P w K mg base 1 "_law_sum" t_law_sum ["row", "second_row"] (spP K 2 s_law_sum))
    (G_law_summed_right : Ok P w K mg base 42 "_law_summed_right" t_law_summed_right ["row", "second_row"] (spP K 2 s_law_summed_right))
    (G_law_take : Ok P w K mg base 1 "_law_take" t_law_take ["deck", "many"] (spM K 2 s_law_take))
    (m_len : mg "len" = none)
    (m_max : mg "max" = none)
    (m_min : mg "min" = none)
    (m_range : mg "range" = none) : Ok P w K mg base 43 "law" t_law ["script"] (spP K 1 s_law) := by
  refine ok_pure D sc_law rfl rfl (fun f cdv A outer s H E hr => ?_)
  have hu : (cxOf CX0 P w K mg base ["script", "at", "deck", "row", "second_row", "wide"] "law" (defScope t_law) f cdv A outer s H E).nox.A.units + 64 < cLine := hr.units
  have nd : (["script", "at", "deck", "row", "second_row", "wide"] : List Str).Nodup := sc_law.nd
  exact (bp_cons (sp_for (ip_range1 m_range (ep_callB (b_max2 rfl) m_max (by decide +kernel) (ap_cons ep_int (ap_cons (ep_callB (b_min2 rfl) m_min (by decide +kernel) (ap_cons (ep_lenV (i := 0) m_len) (ap_cons ep_int ap_nil))) ap_nil)))) (gp_name (i := 1) nd) (bp_cons (sp_set (i := 2) (np_oL G_law_deck (hr.mono (by first | decide | omega)) (ap_cons (ep_var 0) (ap_cons (ep_var 1) ap_nil)) (len_cons (len_cons len_nil))) nd)
    (bp_cons (sp_par (i := 3) (j := 4) (np_val (ep_oM (i := 2) G_law_row (hr.mono (by first | decide | omega)) (ap_cons ep_int ap_nil) (len_cons len_nil) rfl)) (np_val (ep_oM (i := 2) G_law_row (hr.mono (by first | decide | omega)) (ap_cons (ep_ix i_ix (ep_lst (ap_cons ep_int (ap_cons ep_int ap_nil))) (ep_oM (i := 2) G_law_take (hr.mono (by first | decide | omega)) (ap_cons ep_int ap_nil) (len_cons len_nil) rfl)) ap_nil) (len_cons len_nil) rfl)) rfl nd)
    (bp_cons (sp_if (wp_or (tp_not (tp_tru (ep_o G_law_summed_right (hr.mono (by first | decide | omega)) (ap_cons (ep_var 3) (ap_cons (ep_var 4) ap_nil)) (len_cons (len_cons len_nil))))) (wp_or (tp_not (tp_tru (ep_o G_law_summed_right (hr.mono (by first | decide | omega)) (ap_cons (ep_tup ap_nil) (ap_cons (ep_var 3) ap_nil)) (len_cons (len_cons len_nil))))) (wp_or1 (tp_not (tp_tru (ep_o G_law_summed_right (hr.mono (by first | decide | omega)) (ap_cons (ep_var 3) (ap_cons (ep_tup ap_nil) ap_nil)) (len_cons (len_cons len_nil)))))))).tp (bp_one (sp_ret ep_bl)) bp_nil)
    (bp_cons (sp_set (i := 5) (np_val (ep_ix i_ix (ep_lst (ap_cons (ep_o G_law_sum (hr.mono (by first | decide | omega)) (ap_cons (ep_var 3) (ap_cons (ep_var 4) ap_nil)) (len_cons (len_cons len_nil))) (ap_cons (ep_o G_law_skew_sum (hr.mono (by first | decide | omega)) (ap_cons (ep_var 3) (ap_cons (ep_var 4) ap_nil)) (len_cons (len_cons len_nil))) (ap_cons (ep_oM (i := 2) G_law_row (hr.mono (by first | decide | omega)) (ap_cons ep_int ap_nil) (len_cons len_nil) rfl) ap_nil)))) (ep_oM (i := 2) G_law_take (hr.mono (by first | decide | omega)) (ap_cons ep_int ap_nil) (len_cons len_nil) rfl))) nd)
    (bp_one (sp_if (wp_or (tp_not (tp_tru (ep_o G_law_parts_right (hr.mono (by first | decide | omega)) (ap_cons (ep_var 5) ap_nil) (len_cons len_nil)))) (wp_or1 (tp_not (tp_tru (ep_o G_law_parts_right (hr.mono (by first | decide | omega)) (ap_cons (ep_var 3) ap_nil) (len_cons len_nil)))))).tp (bp_one (sp_ret ep_bl)) bp_nil)))))))
    (bp_one (sp_ret ep_bl)))
end

/-! ### the end -/
theorem all_mk {l : PySem.W.OpenLaw} {w : World} {K : PySem.W.Frag} {h : Heap} {mg : Str → Option Value} {fa : Addr} (main : ∀ ns : List Int, ns.length ≤ 63 → s_law [.list (ns.map .int)] = some (.bool true)) (X : K.In h) (G : h.Ns mainGlobals mg) (hfa : mg "law" = some (.ref fa))
    {f0 : Addr} {oc0 kV0 dc0 pm0 cd0 ct0 : Value} {od0 an0 : Option Addr} {sl0 : Array (Option Value)}
    (a0 : PySem.W.nsIn K mainGlobals "_law_deck" = some (some (.ref f0))) (l0 : K.lookup f0 = some ⟨oc0, od0, .func (PySem.W.fnOf "_law_deck" "_law_deck" (defArgs t_law_deck) (defBody t_law_deck) (defScope t_law_deck) .none kV0 dc0 pm0 an0 cd0 ct0), sl0⟩) (c0 : PySem.W.codeIn K cd0 "_law_deck" = true) (k0 : PySem.W.keepIn K (.ref f0) = true)
    {f1 : Addr} {oc1 kV1 dc1 pm1 cd1 ct1 : Value} {od1 an1 : Option Addr} {sl1 : Array (Option Value)}
    (a1 : PySem.W.nsIn K mainGlobals "_law_same" = some (some (.ref f1))) (l1 : K.lookup f1 = some ⟨oc1, od1, .func (PySem.W.fnOf "_law_same" "_law_same" (defArgs t_law_same) (defBody t_law_same) (defScope t_law_same) .none kV1 dc1 pm1 an1 cd1 ct1), sl1⟩) (c1 : PySem.W.codeIn K cd1 "_law_same" = true) (k1 : PySem.W.keepIn K (.ref f1) = true)
    {f2 : Addr} {oc2 kV2 dc2 pm2 cd2 ct2 : Value} {od2 an2 : Option Addr} {sl2 : Array (Option Value)}
    (a2 : PySem.W.nsIn K mainGlobals "_law_like" = some (some (.ref f2))) (l2 : K.lookup f2 = some ⟨oc2, od2, .func (PySem.W.fnOf "_law_like" "_law_like" (defArgs t_law_like) (defBody t_law_like) (defScope t_law_like) .none kV2 dc2 pm2 an2 cd2 ct2), sl2⟩) (c2 : PySem.W.codeIn K cd2 "_law_like" = true) (k2 : PySem.W.keepIn K (.ref f2) = true)
    {f3 : Addr} {oc3 kV3 dc3 pm3 cd3 ct3 : Value} {od3 an3 : Option Addr} {sl3 : Array (Option Value)}
    (a3 : PySem.W.nsIn K mainGlobals "_law_split" = some (some (.ref f3))) (l3 : K.lookup f3 = some ⟨oc3, od3, .func (PySem.W.fnOf "_law_split" "_law_split" (defArgs t_law_split) (defBody t_law_split) (defScope t_law_split) .none kV3 dc3 pm3 an3 cd3 ct3), sl3⟩) (c3 : PySem.W.codeIn K cd3 "_law_split" = true) (k3 : PySem.W.keepIn K (.ref f3) = true)
    {f4 : Addr} {oc4 kV4 dc4 pm4 cd4 ct4 : Value} {od4 an4 : Option Addr} {sl4 : Array (Option Value)}
    (a4 : PySem.W.nsIn K mainGlobals "is_integer" = some (some (.ref f4))) (l4 : K.lookup f4 = some ⟨oc4, od4, .func (PySem.W.fnOf "is_integer" "is_integer" (defArgs t_is_integer) (defBody t_is_integer) (defScope t_is_integer) .none kV4 dc4 pm4 an4 cd4 ct4), sl4⟩) (c4 : PySem.W.codeIn K cd4 "is_integer" = true) (k4 : PySem.W.keepIn K (.ref f4) = true)
    {f5 : Addr} {oc5 kV5 dc5 pm5 cd5 ct5 : Value} {od5 an5 : Option Addr} {sl5 : Array (Option Value)}
    (a5 : PySem.W.nsIn K mainGlobals "are_integers" = some (some (.ref f5))) (l5 : K.lookup f5 = some ⟨oc5, od5, .func (PySem.W.fnOf "are_integers" "are_integers" (defArgs t_are_integers) (defBody t_are_integers) (defScope t_are_integers) .none kV5 dc5 pm5 an5 cd5 ct5), sl5⟩) (c5 : PySem.W.codeIn K cd5 "are_integers" = true) (k5 : PySem.W.keepIn K (.ref f5) = true)
    {f6 : Addr} {oc6 kV6 dc6 pm6 cd6 ct6 : Value} {od6 an6 : Option Addr} {sl6 : Array (Option Value)}
    (a6 : PySem.W.nsIn K mainGlobals "is_order" = some (some (.ref f6))) (l6 : K.lookup f6 = some ⟨oc6, od6, .func (PySem.W.fnOf "is_order" "is_order" (defArgs t_is_order) (defBody t_is_order) (defScope t_is_order) .none kV6 dc6 pm6 an6 cd6 ct6), sl6⟩) (c6 : PySem.W.codeIn K cd6 "is_order" = true) (k6 : PySem.W.keepIn K (.ref f6) = true)
    {f7 : Addr} {oc7 kV7 dc7 pm7 cd7 ct7 : Value} {od7 an7 : Option Addr} {sl7 : Array (Option Value)}
    (a7 : PySem.W.nsIn K mainGlobals "check_order" = some (some (.ref f7))) (l7 : K.lookup f7 = some ⟨oc7, od7, .func (PySem.W.fnOf "check_order" "check_order" (defArgs t_check_order) (defBody t_check_order) (defScope t_check_order) .none kV7 dc7 pm7 an7 cd7 ct7), sl7⟩) (c7 : PySem.W.codeIn K cd7 "check_order" = true) (k7 : PySem.W.keepIn K (.ref f7) = true)
    {f8 : Addr} {oc8 kV8 dc8 pm8 cd8 ct8 : Value} {od8 an8 : Option Addr} {sl8 : Array (Option Value)}
    (a8 : PySem.W.nsIn K mainGlobals "mirrored" = some (some (.ref f8))) (l8 : K.lookup f8 = some ⟨oc8, od8, .func (PySem.W.fnOf "mirrored" "mirrored" (defArgs t_mirrored) (defBody t_mirrored) (defScope t_mirrored) .none kV8 dc8 pm8 an8 cd8 ct8), sl8⟩) (c8 : PySem.W.codeIn K cd8 "mirrored" = true) (k8 : PySem.W.keepIn K (.ref f8) = true)
    {f9 : Addr} {oc9 kV9 dc9 pm9 cd9 ct9 : Value} {od9 an9 : Option Addr} {sl9 : Array (Option Value)}
    (a9 : PySem.W.nsIn K mainGlobals "raised" = some (some (.ref f9))) (l9 : K.lookup f9 = some ⟨oc9, od9, .func (PySem.W.fnOf "raised" "raised" (defArgs t_raised) (defBody t_raised) (defScope t_raised) .none kV9 dc9 pm9 an9 cd9 ct9), sl9⟩) (c9 : PySem.W.codeIn K cd9 "raised" = true) (k9 : PySem.W.keepIn K (.ref f9) = true)
    {f10 : Addr} {oc10 kV10 dc10 pm10 cd10 ct10 : Value} {od10 an10 : Option Addr} {sl10 : Array (Option Value)}
    (a10 : PySem.W.nsIn K mainGlobals "parts" = some (some (.ref f10))) (l10 : K.lookup f10 = some ⟨oc10, od10, .func (PySem.W.fnOf "parts" "parts" (defArgs t_parts) (defBody t_parts) (defScope t_parts) .none kV10 dc10 pm10 an10 cd10 ct10), sl10⟩) (c10 : PySem.W.codeIn K cd10 "parts" = true) (k10 : PySem.W.keepIn K (.ref f10) = true)
    {f11 : Addr} {oc11 kV11 dc11 pm11 cd11 ct11 : Value} {od11 an11 : Option Addr} {sl11 : Array (Option Value)}
    (a11 : PySem.W.nsIn K mainGlobals "skew_parts" = some (some (.ref f11))) (l11 : K.lookup f11 = some ⟨oc11, od11, .func (PySem.W.fnOf "skew_parts" "skew_parts" (defArgs t_skew_parts) (defBody t_skew_parts) (defScope t_skew_parts) .none kV11 dc11 pm11 an11 cd11 ct11), sl11⟩) (c11 : PySem.W.codeIn K cd11 "skew_parts" = true) (k11 : PySem.W.keepIn K (.ref f11) = true)
    {f12 : Addr} {oc12 kV12 dc12 pm12 cd12 ct12 : Value} {od12 an12 : Option Addr} {sl12 : Array (Option Value)}
    (a12 : PySem.W.nsIn K mainGlobals "skew_summed" = some (some (.ref f12))) (l12 : K.lookup f12 = some ⟨oc12, od12, .func (PySem.W.fnOf "skew_summed" "skew_summed" (defArgs t_skew_summed) (defBody t_skew_summed) (defScope t_skew_summed) .none kV12 dc12 pm12 an12 cd12 ct12), sl12⟩) (c12 : PySem.W.codeIn K cd12 "skew_summed" = true) (k12 : PySem.W.keepIn K (.ref f12) = true)
    {f13 : Addr} {oc13 kV13 dc13 pm13 cd13 ct13 : Value} {od13 an13 : Option Addr} {sl13 : Array (Option Value)}
    (a13 : PySem.W.nsIn K mainGlobals "summed" = some (some (.ref f13))) (l13 : K.lookup f13 = some ⟨oc13, od13, .func (PySem.W.fnOf "summed" "summed" (defArgs t_summed) (defBody t_summed) (defScope t_summed) .none kV13 dc13 pm13 an13 cd13 ct13), sl13⟩) (c13 : PySem.W.codeIn K cd13 "summed" = true) (k13 : PySem.W.keepIn K (.ref f13) = true)
    {f14 : Addr} {oc14 kV14 dc14 pm14 cd14 ct14 : Value} {od14 an14 : Option Addr} {sl14 : Array (Option Value)}
    (a14 : PySem.W.nsIn K mainGlobals "_law_parts_right" = some (some (.ref f14))) (l14 : K.lookup f14 = some ⟨oc14, od14, .func (PySem.W.fnOf "_law_parts_right" "_law_parts_right" (defArgs t_law_parts_right) (defBody t_law_parts_right) (defScope t_law_parts_right) .none kV14 dc14 pm14 an14 cd14 ct14), sl14⟩) (c14 : PySem.W.codeIn K cd14 "_law_parts_right" = true) (k14 : PySem.W.keepIn K (.ref f14) = true)
    {f15 : Addr} {oc15 kV15 dc15 pm15 cd15 ct15 : Value} {od15 an15 : Option Addr} {sl15 : Array (Option Value)}
    (a15 : PySem.W.nsIn K mainGlobals "_law_take" = some (some (.ref f15))) (l15 : K.lookup f15 = some ⟨oc15, od15, .func (PySem.W.fnOf "_law_take" "_law_take" (defArgs t_law_take) (defBody t_law_take) (defScope t_law_take) .none kV15 dc15 pm15 an15 cd15 ct15), sl15⟩) (c15 : PySem.W.codeIn K cd15 "_law_take" = true) (k15 : PySem.W.keepIn K (.ref f15) = true)
    {f16 : Addr} {oc16 kV16 dc16 pm16 cd16 ct16 : Value} {od16 an16 : Option Addr} {sl16 : Array (Option Value)}
    (a16 : PySem.W.nsIn K mainGlobals "_law_drawn" = some (some (.ref f16))) (l16 : K.lookup f16 = some ⟨oc16, od16, .func (PySem.W.fnOf "_law_drawn" "_law_drawn" (defArgs t_law_drawn) (defBody t_law_drawn) (defScope t_law_drawn) .none kV16 dc16 pm16 an16 cd16 ct16), sl16⟩) (c16 : PySem.W.codeIn K cd16 "_law_drawn" = true) (k16 : PySem.W.keepIn K (.ref f16) = true)
    {f17 : Addr} {oc17 kV17 dc17 pm17 cd17 ct17 : Value} {od17 an17 : Option Addr} {sl17 : Array (Option Value)}
    (a17 : PySem.W.nsIn K mainGlobals "_law_filled" = some (some (.ref f17))) (l17 : K.lookup f17 = some ⟨oc17, od17, .func (PySem.W.fnOf "_law_filled" "_law_filled" (defArgs t_law_filled) (defBody t_law_filled) (defScope t_law_filled) .none kV17 dc17 pm17 an17 cd17 ct17), sl17⟩) (c17 : PySem.W.codeIn K cd17 "_law_filled" = true) (k17 : PySem.W.keepIn K (.ref f17) = true)
    {f18 : Addr} {oc18 kV18 dc18 pm18 cd18 ct18 : Value} {od18 an18 : Option Addr} {sl18 : Array (Option Value)}
    (a18 : PySem.W.nsIn K mainGlobals "_law_row" = some (some (.ref f18))) (l18 : K.lookup f18 = some ⟨oc18, od18, .func (PySem.W.fnOf "_law_row" "_law_row" (defArgs t_law_row) (defBody t_law_row) (defScope t_law_row) .none kV18 dc18 pm18 an18 cd18 ct18), sl18⟩) (c18 : PySem.W.codeIn K cd18 "_law_row" = true) (k18 : PySem.W.keepIn K (.ref f18) = true)
    {f19 : Addr} {oc19 kV19 dc19 pm19 cd19 ct19 : Value} {od19 an19 : Option Addr} {sl19 : Array (Option Value)}
    (a19 : PySem.W.nsIn K mainGlobals "_law_skew_sum" = some (some (.ref f19))) (l19 : K.lookup f19 = some ⟨oc19, od19, .func (PySem.W.fnOf "_law_skew_sum" "_law_skew_sum" (defArgs t_law_skew_sum) (defBody t_law_skew_sum) (defScope t_law_skew_sum) .none kV19 dc19 pm19 an19 cd19 ct19), sl19⟩) (c19 : PySem.W.codeIn K cd19 "_law_skew_sum" = true) (k19 : PySem.W.keepIn K (.ref f19) = true)
    {f20 : Addr} {oc20 kV20 dc20 pm20 cd20 ct20 : Value} {od20 an20 : Option Addr} {sl20 : Array (Option Value)}
    (a20 : PySem.W.nsIn K mainGlobals "_law_sum" = some (some (.ref f20))) (l20 : K.lookup f20 = some ⟨oc20, od20, .func (PySem.W.fnOf "_law_sum" "_law_sum" (defArgs t_law_sum) (defBody t_law_sum) (defScope t_law_sum) .none kV20 dc20 pm20 an20 cd20 ct20), sl20⟩) (c20 : PySem.W.codeIn K cd20 "_law_sum" = true) (k20 : PySem.W.keepIn K (.ref f20) = true)
    {f21 : Addr} {oc21 kV21 dc21 pm21 cd21 ct21 : Value} {od21 an21 : Option Addr} {sl21 : Array (Option Value)}
    (a21 : PySem.W.nsIn K mainGlobals "_law_summed_right" = some (some (.ref f21))) (l21 : K.lookup f21 = some ⟨oc21, od21, .func (PySem.W.fnOf "_law_summed_right" "_law_summed_right" (defArgs t_law_summed_right) (defBody t_law_summed_right) (defScope t_law_summed_right) .none kV21 dc21 pm21 an21 cd21 ct21), sl21⟩) (c21 : PySem.W.codeIn K cd21 "_law_summed_right" = true) (k21 : PySem.W.keepIn K (.ref f21) = true)
    {f22 : Addr} {oc22 kV22 dc22 pm22 cd22 ct22 : Value} {od22 an22 : Option Addr} {sl22 : Array (Option Value)}
    (a22 : PySem.W.nsIn K mainGlobals "law" = some (some (.ref f22))) (l22 : K.lookup f22 = some ⟨oc22, od22, .func (PySem.W.fnOf "law" "law" (defArgs t_law) (defBody t_law) (defScope t_law) .none kV22 dc22 pm22 an22 cd22 ct22), sl22⟩) (c22 : PySem.W.codeIn K cd22 "law" = true) (k22 : PySem.W.keepIn K (.ref f22) = true)
    (z_bool : PySem.W.nsIn K mainGlobals "bool" = some none)
    (z_enumerate : PySem.W.nsIn K mainGlobals "enumerate" = some none)
    (z_int : PySem.W.nsIn K mainGlobals "int" = some none)
    (z_isinstance : PySem.W.nsIn K mainGlobals "isinstance" = some none)
    (z_len : PySem.W.nsIn K mainGlobals "len" = some none)
    (z_list : PySem.W.nsIn K mainGlobals "list" = some none)
    (z_max : PySem.W.nsIn K mainGlobals "max" = some none)
    (z_min : PySem.W.nsIn K mainGlobals "min" = some none)
    (z_range : PySem.W.nsIn K mainGlobals "range" = some none)
    (z_sorted : PySem.W.nsIn K mainGlobals "sorted" = some none)
    (z_str : PySem.W.nsIn K mainGlobals "str" = some none)
    (z_sum : PySem.W.nsIn K mainGlobals "sum" = some none)
    (z_tuple : PySem.W.nsIn K mainGlobals "tuple" = some none) :
    ∃ fd : FuncData, (∀ (s : Shared) (v : Value), BindsTo s fd ⟨[v], []⟩ [("script", v)]) ∧ ∀ base : Heap, K.In base → base.Ns mainGlobals mg → FnOk l.prog w K mg base CX0 43 fa fd ["script"] (spLaw K) := by
  have m_bool := PySem.W.mg_none_of X G z_bool
  have m_enumerate := PySem.W.mg_none_of X G z_enumerate
  have m_int := PySem.W.mg_none_of X G z_int
  have m_isinstance := PySem.W.mg_none_of X G z_isinstance
  have m_len := PySem.W.mg_none_of X G z_len
  have m_list := PySem.W.mg_none_of X G z_list
  have m_max := PySem.W.mg_none_of X G z_max
  have m_min := PySem.W.mg_none_of X G z_min
  have m_range := PySem.W.mg_none_of X G z_range
  have m_sorted := PySem.W.mg_none_of X G z_sorted
  have m_str := PySem.W.mg_none_of X G z_str
  have m_sum := PySem.W.mg_none_of X G z_sum
  have m_tuple := PySem.W.mg_none_of X G z_tuple
  have D0 : Df K mg "_law_deck" t_law_deck ["script", "at"] := df_mk X G (fun _ _ _ _ _ _ us hl => match us, hl with | [_, _], _ => rfl) a0 l0 c0 k0
  have D1 : Df K mg "_law_same" t_law_same ["found", "due"] := df_mk X G (fun _ _ _ _ _ _ us hl => match us, hl with | [_, _], _ => rfl) a1 l1 c1 k1
  have D2 : Df K mg "_law_like" t_law_like ["cells"] := df_mk X G (fun _ _ _ _ _ _ us hl => match us, hl with | [_], _ => rfl) a2 l2 c2 k2
  have D3 : Df K mg "_law_split" t_law_split ["row", "skew"] := df_mk X G (fun _ _ _ _ _ _ us hl => match us, hl with | [_, _], _ => rfl) a3 l3 c3 k3
  have D4 : Df K mg "is_integer" t_is_integer ["told"] := df_mk X G (fun _ _ _ _ _ _ us hl => match us, hl with | [_], _ => rfl) a4 l4 c4 k4
  have D5 : Df K mg "are_integers" t_are_integers ["told"] := df_mk X G (fun _ _ _ _ _ _ us hl => match us, hl with | [_], _ => rfl) a5 l5 c5 k5
  have D6 : Df K mg "is_order" t_is_order ["told"] := df_mk X G (fun _ _ _ _ _ _ us hl => match us, hl with | [_], _ => rfl) a6 l6 c6 k6
  have D7 : Df K mg "check_order" t_check_order ["order"] := df_mk X G (fun _ _ _ _ _ _ us hl => match us, hl with | [_], _ => rfl) a7 l7 c7 k7
  have D8 : Df K mg "mirrored" t_mirrored ["order"] := df_mk X G (fun _ _ _ _ _ _ us hl => match us, hl with | [_], _ => rfl) a8 l8 c8 k8
  have D9 : Df K mg "raised" t_raised ["order", "by"] := df_mk X G (fun _ _ _ _ _ _ us hl => match us, hl with | [_, _], _ => rfl) a9 l9 c9 k9
  have D10 : Df K mg "parts" t_parts ["order"] := df_mk X G (fun _ _ _ _ _ _ us hl => match us, hl with | [_], _ => rfl) a10 l10 c10 k10
  have D11 : Df K mg "skew_parts" t_skew_parts ["order"] := df_mk X G (fun _ _ _ _ _ _ us hl => match us, hl with | [_], _ => rfl) a11 l11 c11 k11
  have D12 : Df K mg "skew_summed" t_skew_summed ["one", "other"] := df_mk X G (fun _ _ _ _ _ _ us hl => match us, hl with | [_, _], _ => rfl) a12 l12 c12 k12
  have D13 : Df K mg "summed" t_summed ["one", "other"] := df_mk X G (fun _ _ _ _ _ _ us hl => match us, hl with | [_, _], _ => rfl) a13 l13 c13 k13
  have D14 : Df K mg "_law_parts_right" t_law_parts_right ["row"] := df_mk X G (fun _ _ _ _ _ _ us hl => match us, hl with | [_], _ => rfl) a14 l14 c14 k14
  have D15 : Df K mg "_law_take" t_law_take ["deck", "many"] := df_mk X G (fun _ _ _ _ _ _ us hl => match us, hl with | [_, _], _ => rfl) a15 l15 c15 k15
  have D16 : Df K mg "_law_drawn" t_law_drawn ["deck", "many"] := df_mk X G (fun _ _ _ _ _ _ us hl => match us, hl with | [_, _], _ => rfl) a16 l16 c16 k16
  have D17 : Df K mg "_law_filled" t_law_filled ["row", "rows"] := df_mk X G (fun _ _ _ _ _ _ us hl => match us, hl with | [_, _], _ => rfl) a17 l17 c17 k17
  have D18 : Df K mg "_law_row" t_law_row ["deck", "most"] := df_mk X G (fun _ _ _ _ _ _ us hl => match us, hl with | [_, _], _ => rfl) a18 l18 c18 k18
  have D19 : Df K mg "_law_skew_sum" t_law_skew_sum ["row", "second_row"] := df_mk X G (fun _ _ _ _ _ _ us hl => match us, hl with | [_, _], _ => rfl) a19 l19 c19 k19
  have D20 : Df K mg "_law_sum" t_law_sum ["row", "second_row"] := df_mk X G (fun _ _ _ _ _ _ us hl => match us, hl with | [_, _], _ => rfl) a20 l20 c20 k20
  have D21 : Df K mg "_law_summed_right" t_law_summed_right ["row", "second_row"] := df_mk X G (fun _ _ _ _ _ _ us hl => match us, hl with | [_, _], _ => rfl) a21 l21 c21 k21
  have D22 : Df K mg "law" t_law ["script"] := df_mk X G (fun _ _ _ _ _ _ us hl => match us, hl with | [_], _ => rfl) a22 l22 c22 k22
  have go : ∀ base : Heap, K.In base → base.Ns mainGlobals mg → Ok l.prog w K mg base 43 "law" t_law ["script"] (spP K 1 s_law) := fun base _ _ => by
    have G_law_deck := ok_law_deck (P := l.prog) (w := w) (base := base) D0 m_int m_len
    have G_law_same := ok_law_same (P := l.prog) (w := w) (base := base) D1 m_bool m_int m_isinstance m_len m_list m_range m_str m_tuple 40
    have G_law_like := ok_law_like (P := l.prog) (w := w) (base := base) D2 m_len m_tuple
    have G_law_split := ok_law_split (P := l.prog) (w := w) (base := base) D3 G_law_like m_len m_list m_range m_sorted m_tuple
    have G_is_integer := ok_is_integer (P := l.prog) (w := w) (base := base) D4 m_bool m_int m_isinstance
    have G_are_integers := ok_are_integers (P := l.prog) (w := w) (base := base) D5 G_is_integer m_isinstance m_tuple
    have G_is_order := ok_is_order (P := l.prog) (w := w) (base := base) D6 G_are_integers m_len m_list m_range m_sorted
    have G_check_order := ok_check_order (P := l.prog) (w := w) (base := base) D7 G_is_order
    have G_mirrored := ok_mirrored (P := l.prog) (w := w) (base := base) D8 G_check_order m_len m_tuple
    have G_raised := ok_raised (P := l.prog) (w := w) (base := base) D9 m_tuple
    have G_parts := ok_parts (P := l.prog) (w := w) (base := base) D10 G_check_order G_raised m_enumerate m_max m_tuple
    have G_skew_parts := ok_skew_parts (P := l.prog) (w := w) (base := base) D11 G_check_order G_parts m_tuple
    have G_skew_summed := ok_skew_summed (P := l.prog) (w := w) (base := base) D12 G_check_order G_raised m_len
    have G_summed := ok_summed (P := l.prog) (w := w) (base := base) D13 G_check_order G_raised m_len
    have G_law_parts_right := ok_law_parts_right (P := l.prog) (w := w) (base := base) D14 G_law_same G_law_split G_mirrored G_parts G_skew_parts G_skew_summed G_summed m_len m_tuple
    have G_law_take := ok_law_take (P := l.prog) (w := w) (base := base) D15 m_int
    have G_law_drawn := ok_law_drawn (P := l.prog) (w := w) (base := base) D16 G_law_take m_range m_tuple
    have G_law_filled := ok_law_filled (P := l.prog) (w := w) (base := base) D17 m_len m_range m_sum m_tuple
    have G_law_row := ok_law_row (P := l.prog) (w := w) (base := base) D18 G_law_drawn G_law_filled G_law_take m_len m_range m_tuple
    have G_law_skew_sum := ok_law_skew_sum (P := l.prog) (w := w) (base := base) D19 m_len m_tuple
    have G_law_sum := ok_law_sum (P := l.prog) (w := w) (base := base) D20 m_len m_tuple
    have G_law_summed_right := ok_law_summed_right (P := l.prog) (w := w) (base := base) D21 G_law_same G_law_skew_sum G_law_sum G_skew_summed G_summed
    have G_law := ok_law (P := l.prog) (w := w) (base := base) D22 G_law_deck G_law_parts_right G_law_row G_law_skew_sum G_law_sum G_law_summed_right G_law_take m_len m_max m_min m_range
    exact G_law
  obtain ⟨f0', fd0, F0, g0, _⟩ := D22
  rw [hfa] at g0; cases g0
  refine ⟨fd0, fun s v => ?_, fun base h1 h2 => ?_⟩
  · obtain ⟨oc, od, kV, doc, pm, an, cdv, ct, osl, rfl, _, _⟩ := F0.ex
    exact .of_eq rfl
  · obtain ⟨fd, F, G⟩ := ok_end main hfa (go base h1 h2)
    have e : fd = fd0 := by
      obtain ⟨_, _, _, _, _, _, _, _, _, _, e1, _⟩ := F.ex
      obtain ⟨_, _, _, _, _, _, _, _, _, _, e2, _⟩ := F0.ex
      rw [e1] at e2
      have e3 := congrArg Obj.data (Option.some.inj e2)
      injection e3
    subst e
    exact G
end Law
set_option Elab.async false
set_option linter.all false
set_option maxRecDepth 100000
set_option maxHeartbeats 4000000
namespace Law
open PySem Z
theorem log2_small {n : Nat} (h : n < 2 ^ 64) : n.log2 < 64 := by
  by_cases h0 : n = 0
  · subst h0; decide
  · exact (Nat.log2_lt h0).mpr h
theorem take_eq (a b m : Int) (hb : 0 ≤ b ∧ b < 2 ^ 64) (hm : 0 < m ∧ m < 2 ^ 64) : ∃ r a' b', s_law_take [.int a, .int b] [.int m] = some (.int r, [.int a', .int b']) ∧ (0 ≤ r ∧ r < m) ∧ (0 ≤ b' ∧ b' < 2 ^ 64) := by
  have hml : m.natAbs.log2 < 9000 := Nat.lt_trans (log2_small (by omega)) (by decide)
  have hbl : b.natAbs.log2 < 64 := log2_small (by omega)
  by_cases h : 0 < a
  · refine ⟨a % m, a / m, b, ?_, ⟨Int.emod_nonneg _ (by omega), Int.emod_lt_of_pos _ hm.1⟩, hb⟩
    simp [s_law_take, runM, b_law_take, envM, h, hm.1, hml, L2.ixN]
  · have h1 : b.natAbs.log2 + 62 < 1000000 := by omega
    refine ⟨(b * 6364136223846793005 + 1442695040888963407) % 18446744073709551616 / 8589934592 % m, a, (b * 6364136223846793005 + 1442695040888963407) % 18446744073709551616, ?_, ⟨Int.emod_nonneg _ (by omega), Int.emod_lt_of_pos _ hm.1⟩, by omega⟩
    have e1 : Nat.log2 6364136223846793005 = 62 := by decide +kernel
    have e2 : Nat.log2 8589934592 = 33 := by decide +kernel
    simp [s_law_take, runM, b_law_take, envM, h, hm.1, hml, L2.ixN, h1, e1, e2]

def DeckOk (cs : List PyData) : Prop := ∃ a b : Int, cs = [.int a, .int b] ∧ 0 ≤ b ∧ b < 2 ^ 64
theorem log2_lt {n k : Nat} (h : n < 2 ^ (k + 1)) : n.log2 ≤ k := by
  by_cases h0 : n = 0
  · subst h0; simp
  · have := (Nat.log2_lt h0).mpr h; omega
theorem mul_ok {s : Int} (h : 0 ≤ s ∧ s < 2305843009213693951) : s.natAbs.log2 + s.natAbs.log2 < 1000000 ∧ (s * s).natAbs.log2 + s.natAbs.log2 < 1000000 := by
  have h1 : s.natAbs < 2 ^ 61 := by omega
  have h2 : (s * s).natAbs < 2 ^ 122 := by
    rw [Int.natAbs_mul]
    calc s.natAbs * s.natAbs < 2 ^ 61 * 2 ^ 61 := Nat.mul_lt_mul'' h1 h1
      _ = 2 ^ 122 := by decide
  have g1 := log2_lt (k := 60) h1
  have g2 := log2_lt (k := 121) h2
  omega
theorem deck_eq (ns : List Int) (k : Int) (hk : 0 ≤ k ∧ k < 1000) : ∃ cs, s_law_deck [.list (ns.map .int), .int k] = some cs ∧ DeckOk cs := by
  have e1 : Nat.log2 7919 = 12 := by decide +kernel
  have e2 : Nat.log2 31 = 4 := by decide +kernel
  have e3 : ∀ n : Nat, n < 64 → 12 + n < 1000000 := by omega
  have e4 : ∀ n : Nat, n < 64 → 4 + n < 1000000 := by omega
  have e0 : k.natAbs.log2 < 64 := log2_small (by omega)
  have key : ∀ c : Int, ∀ M, M = (c + 7919 * k + 104729) % 2305843009213693951 → (M.natAbs.log2 + M.natAbs.log2 < 1000000 ∧ (M * M).natAbs.log2 + M.natAbs.log2 < 1000000) := fun c M e => mul_ok (by omega)
  by_cases h : k < ns.length
  · have hn : k.toNat < ns.length := by omega
    obtain ⟨k1, k2⟩ := key ns[k.toNat] _ rfl
    by_cases h5 : ns[k.toNat] < 1000000000000000000
    · refine ⟨_, by simp [s_law_deck, runL, b_law_deck, envOf, L2.ixN, h, hk.1, hn, e1, e2, e3 _ e0, e4 _ e0, k1, k2, h5]; exact ⟨rfl, rfl⟩, _, _, rfl, by omega, by omega⟩
    · refine ⟨_, by simp [s_law_deck, runL, b_law_deck, envOf, L2.ixN, h, hk.1, hn, e1, e2, e3 _ e0, e4 _ e0, k1, k2, h5]; exact ⟨rfl, rfl⟩, _, _, rfl, by omega, by omega⟩
  · obtain ⟨k1, k2⟩ := key 0 _ rfl
    simp only [Int.zero_add] at k1 k2
    refine ⟨_, by simp [s_law_deck, runL, b_law_deck, envOf, L2.ixN, h, hk.1, e1, e2, e3 _ e0, e4 _ e0, k1, k2]; exact ⟨rfl, rfl⟩, _, _, rfl, by omega, by omega⟩
end Law
set_option Elab.async false
set_option linter.all false
set_option maxRecDepth 100000
set_option maxHeartbeats 4000000
namespace Law
open PySem Z
abbrev T (o : List Int) : PyData := .tuple (o.map .int)
/-! ### equality of ints in a row -/
theorem eqvAll_ints : ∀ (a b : List Int), PyData.eqvAll (a.map .int) (b.map .int) = decide (a = b)
  | [], [] => rfl
  | [], _ :: _ => rfl
  | _ :: _, [] => rfl
  | x :: a, y :: b => by
    show (PyData.eqv (.int x) (.int y) && PyData.eqvAll (a.map .int) (b.map .int)) = _
    rw [eqv_int, eqvAll_ints a b]
    by_cases h : x = y <;> by_cases k : a = b <;> simp [h, k]
theorem lay_ints : ∀ a : List Int, PyData.canLayAll0 (a.map .int) = true
  | [] => rfl
  | x :: a => by
    show (PyData.canLay0 (.int x) && PyData.canLayAll0 (a.map .int)) = true
    rw [lay_ints a]; rfl
theorem deep_ints : ∀ a : List Int, PyData.depthAll (a.map .int) ≤ 1
  | [] => by decide
  | x :: a => by
    show max (PyData.depth (.int x)) (PyData.depthAll (a.map .int)) ≤ 1
    exact Nat.max_le.mpr ⟨Nat.zero_le _, deep_ints a⟩
theorem sh_ints (a : List Int) : SeqAt.shaped (.list (a.map .int)) = true := by
  unfold SeqAt.shaped
  rw [show PyData.canLay0 (.list (a.map .int)) = PyData.canLayAll0 (a.map .int) from rfl, lay_ints]
  have : PyData.depth (.list (a.map .int)) = PyData.depthAll (a.map .int) + 1 := rfl
  rw [this]
  have := deep_ints a
  simp; omega
theorem z_eqL (a b : List Int) : pEq (.list (a.map .int)) (.list (b.map .int)) = some (.bool (decide (a = b))) := by
  unfold pEq
  rw [if_pos ⟨sh_ints a, sh_ints b⟩]
  exact congrArg (fun x => some (PyData.bool x)) (eqvAll_ints a b)
theorem range2 (a b : Int) (ha : -100000 ≤ a ∧ a ≤ 100000) (hb : -100000 ≤ b ∧ b ≤ 100000) : rangeOf [.int a, .int b] = some (rgI a 1 (b - a).toNat) := by
  simp [rangeOf, smallI, ha, hb]
theorem range1 (b : Int) (hb : -100000 ≤ b ∧ b ≤ 100000) : rangeOf [.int b] = some (rgI 0 1 b.toNat) := by
  simp [rangeOf, smallI, hb]
/-! ### raised, is_order -/
theorem raised_eq (o : List Int) (b : Int) (h : o.length ≤ 1000) : s_raised [T o, .int b] = some (T (o.map (· + b))) := by
  have e := nLc_intsM (it := itSeq (eVar 0)) (f := eOp pAdd (eVar 2) (eVar 1)) (i := 2) (Γ := [.val (T o), .val (.int b), .no]) o (fun x => .int (x + b)) (by simp) (by simp [freeE, Slot.isOwn]) (fun x _ => by simp) (by omega)
  simp [s_raised, runP, b_raised, envOf, e]
theorem is_integer_int (i : Int) : s_is_integer [.int i] = some (.bool true) := by
  simp [s_is_integer, runP, b_is_integer, envOf]
theorem are_integers_ints (o : List Int) : s_are_integers [T o] = some (.bool true) := by
  obtain ⟨Γ', h1, h2⟩ := forLoop_ints (g := gxName 1) (b := sIf (tNotX (tTruX (eCall s_is_integer (aCons (eVar 1) aNil)))) (sRet (eC (.bool false))) sNext) (fun _ Γ => ∃ s, Γ = [.val (T o), s]) o
    (fun pre x post Γ e ⟨s, hs⟩ => by subst hs; exact ⟨_, _, rfl, .inl (by simp [is_integer_int]; rfl), ⟨_, rfl⟩⟩) (Γ := [.val (T o), .no]) ⟨_, rfl⟩
  simp [s_are_integers, runP, b_are_integers, envOf, h1]
theorem is_order_ints (o : List Int) (h : o.length ≤ 1000) : s_is_order [T o] = some (.bool (decide (srt o = rgI 1 1 o.length))) := by
  have hr := range2 1 ((o.length : Int) + 1) (by omega) (by omega)
  have hn : ((o.length : Int) + 1 - 1).toNat = o.length := by omega
  rw [hn] at hr
  simp [s_is_order, runP, b_is_order, envOf, are_integers_ints, z_sortT, hr, z_eqL]
theorem is_order_ok {o : List Int} (h : o.length ≤ 1000) (k : Om.IsR 1 o) : s_is_order [T o] = some (.bool true) := by
  rw [is_order_ints o h, decide_eq_true (Om.srt_iff.mpr k)]
theorem check_ok {o : List Int} (h : o.length ≤ 1000) (k : Om.IsR 1 o) : s_check_order [T o] = some .none := by
  simp [s_check_order, runP, b_check_order, envOf, is_order_ok h k]
theorem mirrored_eq {o : List Int} (h : o.length ≤ 1000) (k : Om.IsR 1 o) : s_mirrored [T o] = some (T (Om.mir o)) := by
  have e := nLc_intsM (it := itSeq (eVar 0)) (f := eOp pSub (eOp pAdd (eLenV 0) (eC (.int 1))) (eVar 1)) (i := 1) (Γ := [.val (T o), .no]) o (fun x => .int ((o.length : Int) + 1 - x)) (by simp) (by simp [freeE, Slot.isOwn]) (fun x _ => by simp) (by omega)
  simp [s_mirrored, runP, b_mirrored, envOf, check_ok h k, e, Om.mir]
theorem summed_eq {a b : List Int} (ha : a.length ≤ 1000) (hb : b.length ≤ 1000) (ka : Om.IsR 1 a) (kb : Om.IsR 1 b) : s_summed [T a, T b] = some (T (Om.summed a b)) := by
  have : a.length + b.length ≤ 100000 := by omega
  simp [s_summed, runP, b_summed, envOf, check_ok ha ka, check_ok hb kb, raised_eq b _ hb, this, Om.summed]
theorem skew_summed_eq {a b : List Int} (ha : a.length ≤ 1000) (hb : b.length ≤ 1000) (ka : Om.IsR 1 a) (kb : Om.IsR 1 b) : s_skew_summed [T a, T b] = some (T (Om.skewSummed a b)) := by
  have : a.length + b.length ≤ 100000 := by omega
  simp [s_skew_summed, runP, b_skew_summed, envOf, check_ok ha ka, check_ok hb kb, raised_eq a _ ha, this, Om.skewSummed]
/-! ### slices -/
theorem cut_ab (xs : List PyData) (a b : Nat) (h : b ≤ xs.length) (hab : a ≤ b) : cutD xs (some (a : Int)) (some (b : Int)) = (xs.take b).drop a := by
  unfold cutD
  have e1 : HT.sIx xs.length 0 (some (a : Int)) = a := by
    show (if (a : Int) < 0 then ((a : Int) + xs.length).toNat else min ((a : Int).toNat) xs.length) = a
    rw [if_neg (by omega)]; omega
  have e2 : HT.sIx xs.length xs.length (some (b : Int)) = b := by
    show (if (b : Int) < 0 then ((b : Int) + xs.length).toNat else min ((b : Int).toNat) xs.length) = b
    rw [if_neg (by omega)]; omega
  rw [e1, e2, List.drop_take]
theorem cut_to (xs : List PyData) (b : Nat) (h : b ≤ xs.length) : cutD xs none (some (b : Int)) = xs.take b := by
  unfold cutD
  have e1 : HT.sIx xs.length 0 none = 0 := rfl
  have e2 : HT.sIx xs.length xs.length (some (b : Int)) = b := by
    show (if (b : Int) < 0 then ((b : Int) + xs.length).toNat else min ((b : Int).toNat) xs.length) = b
    rw [if_neg (by omega)]; omega
  rw [e1, e2]; simp
theorem cut_from (xs : List PyData) (a : Nat) (h : a ≤ xs.length) : cutD xs (some (a : Int)) none = xs.drop a := by
  unfold cutD
  have e1 : HT.sIx xs.length 0 (some (a : Int)) = a := by
    show (if (a : Int) < 0 then ((a : Int) + xs.length).toNat else min ((a : Int).toNat) xs.length) = a
    rw [if_neg (by omega)]; omega
  have e2 : HT.sIx xs.length xs.length none = xs.length := rfl
  rw [e1, e2, ← List.length_drop, List.take_length]
/-! ### parts -/
abbrev TT (l : List (List Int)) : List PyData := l.map T
abbrev bd_parts : SX := (sSeq (sSet 3 (nVal (eCall pMax2 (aCons (eVar 3) (aCons (eVar 5) aNil)))))
    (sIf (tOf (eOp pEq (eVar 3) (eOp pAdd (eVar 4) (eC (.int 1))))) (sSeq (sApp 1 (eCall s_raised (aCons (eSl pSl (eVar 0) (oSome (eVar 2)) (oSome (eVar 3))) (aCons (eUn pNeg (eVar 2)) aNil))))
    (sSet 2 (nVal (eVar 3)))) sNext))
theorem parts_loop (o : List Int) (ho : o.length ≤ 1000) : ∀ (r : List Int) (k c : Nat) (m : Int) (acc : List (List Int)) (s4 s5 : Slot), o.drop k = r → k ≤ o.length → c ≤ k → acc.length ≤ k →
    ∃ Γ' s2 s3 t4 t5, forLoop (gxTup 2 (gxCons (gxName 4) (gxCons (gxName 5) gxNil))) bd_parts (enumFrom k (r.map .int)) [.val (T o), .own (TT acc), .val (.int c), .val (.int m), s4, s5] = some (.nx Γ') ∧
      Γ' = [.val (T o), .own (TT (acc ++ Om.go c m k ((o.take k).drop c) r)), s2, s3, t4, t5]
  | [], k, c, m, acc, s4, s5, hr, hk, hc, hl => ⟨_, .val (.int c), .val (.int m), s4, s5, rfl, by simp [Om.go]⟩
  | x :: r, k, c, m, acc, s4, s5, hr, hk, hc, hl => by
    have hkl : k < o.length := by
      apply Decidable.byContradiction
      intro h
      rw [List.drop_eq_nil_of_le (by omega)] at hr
      simp at hr
    have hx : o[k] = x := by
      have := List.drop_eq_getElem_cons hkl
      rw [hr] at this
      exact (List.cons.inj this).1.symm
    have hr' : o.drop (k + 1) = r := by
      have := List.drop_eq_getElem_cons hkl
      rw [hr] at this
      exact (List.cons.inj this).2.symm
    have et : (o.take (k + 1)).drop c = (o.take k).drop c ++ [x] := by
      rw [List.take_succ_eq_append_getElem hkl, hx, List.drop_append_of_le_length (by rw [List.length_take]; omega)]
    show ∃ Γ' s2 s3 t4 t5, forLoop (gxTup 2 (gxCons (gxName 4) (gxCons (gxName 5) gxNil))) bd_parts (.tuple [.int k, .int x] :: enumFrom (k + 1) (r.map .int)) _ = _ ∧ _
    rw [Om.go_cons]
    by_cases hm : (if x > m then x else m) = (k : Int) + 1
    · rw [if_pos hm]
      have hq : (o.take (k + 1)).drop c = (o.take k).drop c ++ [x] := et
      have e3 : cutD (o.map .int) (some (c : Int)) (some ((k : Int) + 1)) = ((o.take (k + 1)).drop c).map .int := by
        have := cut_ab (o.map .int) c (k + 1) (by simp; omega) (by omega)
        rw [show ((k + 1 : Nat) : Int) = (k : Int) + 1 by omega] at this
        rw [this, List.map_drop, List.map_take]
      obtain ⟨P, hP⟩ : ∃ P, P = (o.take (k + 1)).drop c := ⟨_, rfl⟩
      rw [← hP] at e3
      have e4 := raised_eq P (-(c : Int)) (by rw [hP]; simp; omega)
      have hal : acc.length < 100000 := by omega
      obtain ⟨Γ', s2, s3, t4, t5, g1, g2⟩ := parts_loop o ho r (k + 1) (k + 1) ((k : Int) + 1) (acc ++ [P.map (· + -(c : Int))]) (.val (.int k)) (.val (.int x)) hr' (by omega) (by omega) (by simp; omega)
      refine ⟨Γ', s2, s3, t4, t5, ?_, ?_⟩
      · unfold forLoop
        simp [hm, e3, e4, hal]
        rw [show ((k : Int) + 1) = ((k + 1 : Nat) : Int) by omega]
        simpa using g1
      · rw [g2, ← et, hm, show ((k : Int) + 1) = ((k + 1 : Nat) : Int) by omega]
        have : (o.take (k + 1)).drop (k + 1) = [] := List.drop_eq_nil_of_le (by rw [List.length_take]; omega)
        rw [this, List.append_assoc, hP]
        rfl
    · rw [if_neg hm]
      obtain ⟨Γ', s2, s3, t4, t5, g1, g2⟩ := parts_loop o ho r (k + 1) c (if x > m then x else m) acc (.val (.int k)) (.val (.int x)) hr' (by omega) (by omega) (by omega)
      refine ⟨Γ', s2, s3, t4, t5, ?_, ?_⟩
      · unfold forLoop
        simp [hm]
        simpa using g1
      · rw [g2, et]
        rfl
theorem parts_eq {o : List Int} (h : o.length ≤ 1000) (k : Om.IsR 1 o) : s_parts [T o] = some (.tuple (TT (Om.parts o))) := by
  obtain ⟨Γ', s2, s3, t4, t5, g1, g2⟩ := parts_loop o h o 0 0 0 [] .no .no rfl (by omega) (by omega) (by simp)
  subst g2
  simp at g1
  simp [s_parts, runP, b_parts, envOf, check_ok h k, g1, Om.parts]
theorem revd_eq : (fun d : PyData => d) = id := rfl
theorem skew_parts_eq {o : List Int} (h : o.length ≤ 1000) (k : Om.IsR 1 o) : s_skew_parts [T o] = some (.tuple (TT (Om.skewParts o))) := by
  have hp := parts_eq (o := o.reverse) (by simpa using h) (Om.isR_rev k)
  have hl : (Om.parts o.reverse).length ≤ 100000 := by have := Om.parts_len o.reverse; simp at this; omega
  have e := nLc_map (it := itSeq (eUn pRev (eCall s_parts (aCons (eUn pRev (eVar 0)) aNil)))) (f := eUn pRev (eVar 1)) (i := 1) (Γ := [.val (T o), .no]) (TT (Om.parts o.reverse)).reverse (fun d => (pRev d).getD .none)
    (by simp [← List.map_reverse, hp]) (by simp [freeE, Slot.isOwn]) (fun x hx => by
      rw [List.mem_reverse] at hx
      obtain ⟨p, _, rfl⟩ := List.mem_map.mp hx
      simp) (by simpa using hl)
  simp [s_skew_parts, runP, b_skew_parts, envOf, check_ok h k, e, Om.skewParts]
end Law
set_option Elab.async false
set_option linter.all false
set_option maxRecDepth 100000
set_option maxHeartbeats 4000000
namespace Law
open PySem Z
theorem ixN_nat {n i : Nat} (h : i < n) : L2.ixN n (i : Int) = some i := by
  unfold L2.ixN
  rw [if_pos (by omega), if_pos (by omega)]
  simp
theorem rg_split {a : Int} {n : Nat} {pre post : List Int} {x : Int} (h : rgI a 1 n = pre ++ x :: post) : x = a + pre.length ∧ pre = rgI a 1 pre.length ∧ pre.length < n := by
  have hl := congrArg List.length h
  rw [Om.rg_len] at hl
  simp at hl
  have hn : n = pre.length + (post.length + 1) := by omega
  rw [hn, Om.rg_add, Om.rg_succ] at h
  obtain ⟨h1, h2⟩ := List.append_inj h (by rw [Om.rg_len])
  exact ⟨(List.cons.inj h2).1.symm, h1.symm, by omega⟩
/-! ### drawn -/
theorem drawn_eq (cs : List PyData) (hd : DeckOk cs) (n : Nat) (hn : n ≤ 1000) : ∃ o cs', s_law_drawn cs [.int n] = some (T o, cs') ∧ DeckOk cs' ∧ Om.IsR 1 o ∧ o.length = n := by
  have hr := range2 1 ((n : Int) + 1) (by omega) (by omega)
  rw [show ((n : Int) + 1 - 1).toNat = n by omega] at hr
  obtain ⟨Γ', h1, h2⟩ := forLoop_ints (g := gxName 3) (b := sIns 2 (eCallM 0 s_law_take (aCons (eVar 3) aNil)) (eVar 3))
    (fun pre Γ => ∃ cs' o s, Γ = [.par cs', .val (.int n), .own (o.map .int), s] ∧ DeckOk cs' ∧ o.Perm pre) (rgI 1 1 n)
    (fun pre x post Γ e ⟨cs', o, s, hs, hd', hp⟩ => by
      obtain ⟨hx, _, hl⟩ := rg_split e
      obtain ⟨a, b, rfl, hb⟩ := hd'
      obtain ⟨r, a', b', t1, t2, t3⟩ := take_eq a b x hb (by omega)
      subst hs
      have ho := hp.length_eq
      have g1 : o.length < 100000 := by omega
      have g2 : 0 ≤ r ∧ r < 100000 := by omega
      refine ⟨_, [.par [.int a', .int b'], .val (.int n), .own ((o.take r.toNat ++ [x] ++ o.drop r.toNat).map .int), .val (.int x)], rfl, .inl ?_, _, _, _, rfl, ⟨a', b', rfl, t3⟩, ?_⟩
      · simp [t1, g1, g2]
      · have p1 : (o.take r.toNat ++ [x] ++ o.drop r.toNat).Perm (o.take r.toNat ++ o.drop r.toNat ++ [x]) := by
          rw [List.append_assoc, List.append_assoc]
          exact List.Perm.append_left _ List.perm_append_comm
        rw [List.take_append_drop] at p1
        exact p1.trans (hp.append_right [x]))
    (Γ := [.par cs, .val (.int n), .own [], .no]) ⟨cs, [], .no, rfl, hd, .refl _⟩
  obtain ⟨cs', o, s, rfl, hd', hp⟩ := h2
  have ho : o.length = n := by rw [hp.length_eq, Om.rg_len]
  refine ⟨o, cs', ?_, hd', by unfold Om.IsR; rw [ho]; exact hp, ho⟩
  simp [s_law_drawn, runM, b_law_drawn, envM, hr, h1]
/-! ### like -/
theorem like_val (o : List Int) (h : o.length ≤ 1000) : s_law_like [T o] = some (T (o.map fun y => 1 + ((o.filter fun x => decide (x < y)).length : Int))) := by
  have e2 : ∀ y : Int, nLc (itSeq (eVar 0)) (gxName 1) (tOf (eOp pLt (eVar 1) (eVar 2))) (eVar 1) [1] [.val (T o), .no, .val (.int y)] = some (.own ((o.filter fun x => decide (x < y)).map .int), [.val (T o), .no, .val (.int y)]) := fun y =>
    nLc_ints (i := 1) (Γ := [.val (T o), .no, .val (.int y)]) o (fun x => decide (x < y)) (fun x => .int x) (by simp) (by simp [freeE, Slot.isOwn]) (fun x _ => ⟨by simp, fun _ => by simp⟩) (by omega)
  have e := nLc_intsM (it := itSeq (eVar 0)) (f := eOp pAdd (eC (.int 1)) (eCall pLen (aCons (nOwn (nLc (itSeq (eVar 0)) (gxName 1) (tOf (eOp pLt (eVar 1) (eVar 2))) (eVar 1) [1])) aNil))) (i := 2) (Γ := [.val (T o), .no, .no]) o (fun y => .int (1 + ((o.filter fun x => decide (x < y)).length : Int))) (by simp) (by simp [freeE, Slot.isOwn]) (fun y _ => by simp [e2 y]) (by omega)
  simp [s_law_like, runP, b_law_like, envOf, e]
theorem like_ord {a : Int} {o : List Int} (h : o.length ≤ 1000) (k : Om.IsR a o) : s_law_like [T o] = some (T (o.map fun y => y - a + 1)) := by
  rw [like_val o h, Om.like_eq k]
/-! ### filled -/
theorem range_get {α : Type} (l : List α) (d : α) : l = (List.range l.length).map fun i => l.getD i d := by
  apply List.ext_getElem
  · simp
  · intro i h1 h2
    simp [List.getD_eq_getElem?_getD, h1]
theorem W_sum : ∀ (ps : List (Int × List Int)) (v : Int), ((ps.filter fun q => decide (q.1 < v)).map fun q => (q.2.length : Int)).sum = Om.W ps v
  | [], _ => rfl
  | q :: r, v => by
    have := W_sum r v
    unfold Om.W
    by_cases h : q.1 < v
    · rw [List.filter_cons, if_pos (decide_eq_true h), List.map_cons, List.sum_cons, this, if_pos h]
    · rw [List.filter_cons, if_neg (by simpa using h), this, if_neg h]; omega
theorem filled_eq (ps : List (Int × List Int)) (hL : ps.length ≤ 100) (hR : ∀ q ∈ ps, q.2.length ≤ 100) : s_law_filled [T (ps.map (·.1)), .list (TT (ps.map (·.2)))] = some (T (Om.fill ps ps)) := by
  have hr : rangeOf [.int (ps.length : Int)] = some (rgI 0 1 ps.length) := by
    have := range1 (ps.length : Int) (by omega)
    simpa using this
  have hget : ∀ i : Nat, i < ps.length → ∃ q, ps[i]? = some q ∧ q ∈ ps := fun i hi => ⟨ps[i], List.getElem?_eq_getElem hi, List.getElem_mem hi⟩
  let d0 : Int × List Int := (0, [])
  -- the sum of those that are less
  have e2 : ∀ (k : Nat) (q : Int × List Int) (s2 s4 s6 : Slot), ps[k]? = some q → nLc (itRange (aCons (eLenV 0) aNil)) (gxName 5) (tOf (eOp pLt (eIxV 0 (eVar 5)) (eIxV 0 (eVar 3)))) (eCall pLen (aCons (eIxV 1 (eVar 5)) aNil)) [5] [.val (T (ps.map (·.1))), .val (.list (TT (ps.map (·.2)))), s2, .val (.int k), s4, .no, s6] =
      some (.own ((((rgI 0 1 ps.length).filter fun j => decide ((ps.getD j.toNat d0).1 < q.1)).map fun j => .int ((ps.getD j.toNat d0).2.length : Int))), [.val (T (ps.map (·.1))), .val (.list (TT (ps.map (·.2)))), s2, .val (.int k), s4, .no, s6]) := fun k q s2 s4 s6 hk => by
    have hkl : k < ps.length := (List.getElem?_eq_some_iff.mp hk).1
    refine nLc_ints (i := 5) (rgI 0 1 ps.length) (fun j => decide ((ps.getD j.toNat d0).1 < q.1)) (fun j => .int ((ps.getD j.toNat d0).2.length : Int)) (by simp [hr]) (by simp [freeE, Slot.isOwn]) (fun j hj => ?_) (by rw [Om.rg_len]; omega)
    obtain ⟨j1, j2⟩ := Om.mem_rg.mp hj
    obtain ⟨i, rfl⟩ : ∃ i : Nat, j = i := ⟨j.toNat, by omega⟩
    have hi : i < ps.length := by omega
    obtain ⟨p, hp, _⟩ := hget i hi
    constructor
    · simp [ixN_nat hi, ixN_nat hkl, hp, hk, List.getD_eq_getElem?_getD]
    · intro _
      simp [ixN_nat hi, hp, List.getD_eq_getElem?_getD]
  have e3 : ∀ v : Int, (((rgI 0 1 ps.length).filter fun j => decide ((ps.getD j.toNat d0).1 < v)).map fun j => ((ps.getD j.toNat d0).2.length : Int)).sum = Om.W ps v := fun v => by
    rw [← W_sum]
    congr 1
    conv => rhs; rw [range_get ps d0, List.filter_map, List.map_map]
    unfold rgI
    rw [List.filter_map, List.map_map]
    have : ((fun j : Int => decide ((ps.getD j.toNat d0).1 < v)) ∘ fun i : Nat => (0 : Int) + (i : Int) * 1) = ((fun q : Int × List Int => decide (q.1 < v)) ∘ fun i => ps.getD i d0) := by
      funext i; simp
    rw [this]
    apply List.map_congr_left
    intro i _
    simp
  have tot : ∀ qs : List (Int × List Int), (∀ q ∈ qs, q.2.length ≤ 100) → (Om.fill ps qs).length ≤ 100 * qs.length := fun qs hq => by
    rw [Om.fill_len]
    induction qs with
    | nil => simp
    | cons q r ih =>
      have := ih fun p hp => hq p (List.mem_cons_of_mem _ hp)
      have := hq q List.mem_cons_self
      simp; omega
  obtain ⟨Γ', h1, h2⟩ := forLoop_ints (g := gxName 3) (b := (sSeq (sSet 4 (nVal (eCall pSum (aCons (nOwn (nLc (itRange (aCons (eLenV 0) aNil)) (gxName 5) (tOf (eOp pLt (eIxV 0 (eVar 5)) (eIxV 0 (eVar 3)))) (eCall pLen (aCons (eIxV 1 (eVar 5)) aNil)) [5])) aNil))))
    (sSet 2 (nVal (eOp pAdd (eVar 2) (nOwn (nLc (itSeq (eIxV 1 (eVar 3))) (gxName 6) tYesX (eOp pAdd (eVar 4) (eVar 6)) [6])))))))
    (fun pre Γ => ∃ s3 s4, Γ = [.val (T (ps.map (·.1))), .val (.list (TT (ps.map (·.2)))), .val (.list ((Om.fill ps (ps.take pre.length)).map .int)), s3, s4, .no, .no]) (rgI 0 1 ps.length)
    (fun pre x post Γ e ⟨s3, s4, hs⟩ => by
      obtain ⟨hx, _, hl⟩ := rg_split e
      subst hs
      obtain ⟨q, hq, hqm⟩ := hget pre.length hl
      have hx' : x = (pre.length : Int) := by omega
      subst hx'
      have e4 := nLc_intsM (it := itSeq (eIxV 1 (eVar 3))) (f := eOp pAdd (eVar 4) (eVar 6)) (i := 6) (Γ := [.val (T (ps.map (·.1))), .val (.list (TT (ps.map (·.2)))), .val (.list ((Om.fill ps (ps.take pre.length)).map .int)), .val (.int (pre.length : Int)), .val (.int (Om.W ps q.1)), .no, .no]) q.2 (fun x => .int (Om.W ps q.1 + x))
        (by simp [ixN_nat hl, hq]) (by simp [freeE, Slot.isOwn]) (fun x _ => by simp) (by have := hR q hqm; omega)
      have e5 := e2 pre.length q (.val (.list ((Om.fill ps (ps.take pre.length)).map .int))) s4 .no hq
      have ht := tot (ps.take pre.length) fun q hq => hR q (List.mem_of_mem_take hq)
      rw [List.length_take] at ht
      have hq2 := hR q hqm
      have ef : Om.fill ps (ps.take (pre.length + 1)) = Om.fill ps (ps.take pre.length) ++ q.2.map (Om.W ps q.1 + ·) := by
        have : ps.take (pre.length + 1) = ps.take pre.length ++ [q] := by
          rw [List.take_succ_eq_append_getElem hl]
          rw [List.getElem?_eq_getElem hl] at hq
          rw [Option.some.inj hq]
        unfold Om.fill
        rw [this, List.flatMap_append]
        simp
      have hb : (Om.fill ps (ps.take pre.length)).length + q.2.length ≤ 100000 := by omega
      have e6 : ∀ v, pSum [.list (((rgI 0 1 ps.length).filter fun j => decide ((ps.getD j.toNat d0).1 < v)).map fun j => .int ((ps.getD j.toNat d0).2.length : Int))] = some (.int (Om.W ps v)) := fun v => by
        rw [← e3 v, ← z_sumL, List.map_map]; rfl
      refine ⟨_, [.val (T (ps.map (·.1))), .val (.list (TT (ps.map (·.2)))), .val (.list ((Om.fill ps (ps.take (pre.length + 1))).map .int)), .val (.int (pre.length : Int)), .val (.int (Om.W ps q.1)), .no, .no], rfl, .inl ?_, ?_⟩
      · rw [ef]
        simp [-List.map_map, -List.getD_eq_getElem?_getD, e5, e6, e4, hb, List.map_map (g := PyData.int)]
      · refine ⟨.val (.int (pre.length : Int)), .val (.int (Om.W ps q.1)), ?_⟩
        rw [List.length_append]; rfl)
    (Γ := [.val (T (ps.map (·.1))), .val (.list (TT (ps.map (·.2)))), .val (.list []), .no, .no, .no, .no]) ⟨.no, .no, rfl⟩
  obtain ⟨s3, s4, rfl⟩ := h2
  rw [Om.rg_len, List.take_length] at h1
  simp [-List.map_map, s_law_filled, runP, b_law_filled, envOf, hr, h1]
end Law
set_option Elab.async false
set_option linter.all false
set_option maxRecDepth 100000
set_option maxHeartbeats 4000000
namespace Law
open PySem Z
abbrev tailBody : SX := (sSeq (sSet 9 (nVal (eCallM 0 s_law_take (aCons (eOp pAdd (eVar 6) (eC (.int 1))) aNil))))
    (sSeq (sSet 6 (nVal (eOp pSub (eVar 6) (eVar 9))))
    (sApp 7 (eCallM 0 s_law_drawn (aCons (eOp pAdd (eC (.int 1)) (eVar 9)) aNil)))))
def tail : SX := (sSeq (sPar 6 7 (nVal (eOp pSub (eVar 3) (eLenV 5))) (nLst aNil))
    (sSeq (sFor (itRange (aCons (eLenV 5) aNil)) (gxName 8) tailBody)
    (sRet (eCall s_law_filled (aCons (eVar 5) (aCons (eVar 7) aNil))))))
def total (rows : List (List Int)) : Nat := (rows.map List.length).sum
theorem mem_total : ∀ {rows : List (List Int)} {r}, r ∈ rows → r.length ≤ total rows
  | x :: rows, r, h => by
    unfold total
    rw [List.map_cons, List.sum_cons]
    rcases List.mem_cons.mp h with e | h
    · subst e; omega
    · have := mem_total h
      unfold total at this; omega
theorem zip_fst : ∀ {a : List Int} {b : List (List Int)}, a.length = b.length → (a.zip b).map (·.1) = a
  | [], [], _ => rfl
  | x :: a, y :: b, h => by
    have := zip_fst (a := a) (b := b) (by simpa using h)
    simp [this]
theorem zip_snd : ∀ {a : List Int} {b : List (List Int)}, a.length = b.length → (a.zip b).map (·.2) = b
  | [], [], _ => rfl
  | x :: a, y :: b, h => by
    have := zip_snd (a := a) (b := b) (by simpa using h)
    simp [this]
theorem tail_eq (cs : List PyData) (hd : DeckOk cs) (b : List Int) (n : Nat) (hn : n ≤ 100) (hb : b.length ≤ n) (kb : Om.IsR 1 b) (s1 s2 s4 s6 s7 s8 s9 : Slot) :
    ∃ o cs' Γ', tail [.par cs, s1, s2, .val (.int n), s4, .val (T b), s6, s7, s8, s9] = some (.rt (T o) Γ') ∧ parOf Γ' = some cs' ∧ DeckOk cs' ∧ Om.IsR 1 o ∧ o.length ≤ n := by
  have hr : rangeOf [.int (b.length : Int)] = some (rgI 0 1 b.length) := by
    have := range1 (b.length : Int) (by omega)
    simpa using this
  obtain ⟨Γ', h1, h2⟩ := forLoop_ints (g := gxName 8) (b := tailBody)
    (fun pre Γ => ∃ cs' rows s8 s9, ∃ rest : Nat, Γ = [.par cs', s1, s2, .val (.int n), s4, .val (T b), .val (.int rest), .own (TT rows), s8, s9] ∧ DeckOk cs' ∧ (∀ r ∈ rows, Om.IsR 1 r) ∧ rows.length = pre.length ∧ total rows + rest + (b.length - pre.length) = n) (rgI 0 1 b.length)
    (fun pre x post Γ e ⟨cs', rows, s8, s9, rest, hs, hd', hro, hrl, hto⟩ => by
      obtain ⟨hx, _, hl⟩ := rg_split e
      obtain ⟨a, c, rfl, hc⟩ := hd'
      obtain ⟨r, a', c', t1, t2, t3⟩ := take_eq a c ((rest : Int) + 1) hc (by omega)
      obtain ⟨o, cs2, d1, d2, d3, d4⟩ := drawn_eq [.int a', .int c'] ⟨a', c', rfl, t3⟩ (1 + r.toNat) (by omega)
      have er : (((1 + r.toNat : Nat)) : Int) = 1 + r := by omega
      rw [er] at d1
      subst hs
      have hrl' : rows.length < 100000 := by omega
      refine ⟨_, [.par cs2, s1, s2, .val (.int n), s4, .val (T b), .val (.int (rest - r)), .own (TT rows ++ [T o]), .val (.int x), .val (.int r)], rfl, .inl ?_, cs2, rows ++ [o], .val (.int x), .val (.int r), ((rest : Int) - r).toNat, ?_, d2, ?_, ?_, ?_⟩
      · simp [t1, d1, hrl']
      · rw [show ((((rest : Int) - r).toNat : Nat) : Int) = rest - r by omega]; simp
      · intro p hp
        rcases List.mem_append.mp hp with hp | hp
        · exact hro p hp
        · rw [List.mem_singleton.mp hp]; exact d3
      · simp [hrl]
      · have : total (rows ++ [o]) = total rows + o.length := by simp [total]
        rw [this, d4, List.length_append, List.length_singleton]
        omega)
    (Γ := [.par cs, s1, s2, .val (.int n), s4, .val (T b), .val (.int ((n - b.length : Nat) : Int)), .own [], s8, s9]) ⟨cs, [], s8, s9, n - b.length, rfl, hd, by simp, rfl, by simp [total]; omega⟩
  obtain ⟨cs', rows, s8', s9', rest, rfl, hd', hro, hrl, hto⟩ := h2
  rw [Om.rg_len] at hrl hto
  have hz1 := zip_fst hrl.symm
  have hz2 := zip_snd hrl.symm
  have hzl : (b.zip rows).length = b.length := by rw [List.length_zip, hrl, Nat.min_self]
  have hf := filled_eq (b.zip rows) (by omega) (fun q hq => by
    have := mem_total (List.of_mem_zip (a := q.1) (b := q.2) hq).2
    omega)
  rw [hz1, hz2] at hf
  refine ⟨Om.fill (b.zip rows) (b.zip rows), cs', [.par cs', s1, s2, .val (.int n), s4, .val (T b), .val (.int rest), .val (.list (TT rows)), s8', s9'], ?_, rfl, hd', Om.fill_ord (fun q hq => hro q.2 (List.of_mem_zip (a := q.1) (b := q.2) hq).2) (by rw [hz1]; exact kb.nodup), ?_⟩
  · rw [show (((n - b.length : Nat)) : Int) = (n : Int) - b.length by omega] at h1
    simp [tail, hr, h1, hf]
  · rw [Om.fill_len]
    have : (b.zip rows).map (fun q => q.2.length) = rows.map List.length := by
      conv => rhs; rw [← hz2, List.map_map]
      rfl
    rw [this]
    have : (rows.map List.length).sum = total rows := rfl
    omega
theorem rg_neg (n : Nat) : rgI (n : Int) (-1) n = (rgI 1 1 n).reverse := by
  apply List.ext_getElem
  · simp [rgI]
  · intro i h1 h2
    simp [rgI] at h1
    simp [rgI]
    omega
theorem isR_rg (n : Nat) : Om.IsR 1 (rgI 1 1 n) := by unfold Om.IsR; rw [Om.rg_len]
theorem isR_rgr (n : Nat) : Om.IsR 1 (rgI 1 1 n).reverse := Om.isR_rev (isR_rg n)
theorem range3 (a : Int) (ha : 0 ≤ a ∧ a ≤ 100000) : rangeOf [.int a, .int 0, .int (-1)] = some (rgI a (-1) a.toNat) := by
  have h1 : -100000 ≤ a := by omega
  have : a - 0 = a := by omega
  simp [rangeOf, smallI, ha, h1]
theorem two_cases {r : Int} (h : 0 ≤ r ∧ r < 2) : r = 0 ∨ r = 1 := by omega
theorem b_row_eq : b_law_row = (sSeq (sPar 2 3 (nVal (eCallM 0 s_law_take (aCons (eC (.int 6)) aNil))) (nVal (eCallM 0 s_law_take (aCons (eOp pAdd (eVar 1) (eC (.int 1))) aNil))))
    (sSeq (sIf (tOrX (tOf (eOp pLt (eVar 2) (eC (.int 2)))) (tOf (eOp pLt (eVar 3) (eC (.int 2))))) (sRet (eCallM 0 s_law_drawn (aCons (eVar 3) aNil))) sNext)
    (sSeq (sIf (tOf (eOp pEq (eVar 2) (eC (.int 2)))) (sSeq (sSet 4 (nVal (eTR (rxOf (aCons (eC (.int 1)) (aCons (eOp pAdd (eVar 3) (eC (.int 1))) aNil))))))
    (sRet (eOp pIx (eLst (aCons (eVar 4) (aCons (eUn pRev (eVar 4)) aNil))) (eCallM 0 s_law_take (aCons (eC (.int 2)) aNil))))) sNext)
    (sSeq (sSet 5 (nVal (eCallM 0 s_law_drawn (aCons (eOp pAdd (eC (.int 2)) (eCallM 0 s_law_take (aCons (eOp pSub (eVar 3) (eC (.int 1))) aNil))) aNil))))
    (sSeq (sIf (tOf (eOp pEq (eVar 2) (eC (.int 3)))) (sSet 5 (nVal (eOp pIx (eLst (aCons (eTR (rxOf (aCons (eC (.int 1)) (aCons (eOp pAdd (eLenV 5) (eC (.int 1))) aNil)))) (aCons (eTR (rxOf (aCons (eLenV 5) (aCons (eC (.int 0)) (aCons (eUn pNeg (eC (.int 1))) aNil))))) aNil))) (eCallM 0 s_law_take (aCons (eC (.int 2)) aNil))))) sNext)
    tail))))) := rfl
theorem row_eq (cs : List PyData) (hd : DeckOk cs) (n : Nat) (hn : n ≤ 50) : ∃ o cs', s_law_row cs [.int n] = some (T o, cs') ∧ DeckOk cs' ∧ Om.IsR 1 o ∧ o.length ≤ n := by
  obtain ⟨a, c, rfl, hc⟩ := hd
  obtain ⟨w, a1, c1, t1, w1, w2⟩ := take_eq a c 6 hc (by omega)
  obtain ⟨m, a2, c2, u1, u2, u3⟩ := take_eq a1 c1 ((n : Int) + 1) w2 (by omega)
  obtain ⟨m, rfl⟩ : ∃ k : Nat, m = k := ⟨m.toNat, by omega⟩
  by_cases h1 : w < 2 ∨ (m : Int) < 2
  · obtain ⟨o, cs2, d1, d2, d3, d4⟩ := drawn_eq [.int a2, .int c2] ⟨a2, c2, rfl, u3⟩ m (by omega)
    refine ⟨o, cs2, ?_, d2, d3, by omega⟩
    by_cases hw : w < 2
    · simp [s_law_row, runM, b_law_row, envM, t1, u1, hw, d1]
    · have hm : (m : Int) < 2 := by omega
      have hm' : m < 2 := by omega
      simp [s_law_row, runM, b_law_row, envM, t1, u1, hw, hm, d1]
  · have hw : ¬ w < 2 := fun h => h1 (.inl h)
    have hm : ¬ (m : Int) < 2 := fun h => h1 (.inr h)
    by_cases h2 : w = 2
    · obtain ⟨r, a3, c3, v1, v2, v3⟩ := take_eq a2 c2 2 u3 (by omega)
      have hr := range2 1 ((m : Int) + 1) (by omega) (by omega)
      rw [show ((m : Int) + 1 - 1).toNat = m by omega] at hr
      rcases two_cases v2 with e | e
      · subst e
        refine ⟨rgI 1 1 m, [.int a3, .int c3], ?_, ⟨a3, c3, rfl, v3⟩, isR_rg m, by rw [Om.rg_len]; omega⟩
        simp [s_law_row, runM, b_law_row, envM, t1, u1, hw, hm, h2, hr, v1, L2.ixN]
      · subst e
        refine ⟨(rgI 1 1 m).reverse, [.int a3, .int c3], ?_, ⟨a3, c3, rfl, v3⟩, isR_rgr m, by rw [List.length_reverse, Om.rg_len]; omega⟩
        simp [s_law_row, runM, b_law_row, envM, t1, u1, hw, hm, h2, hr, v1, L2.ixN]
    · obtain ⟨r, a3, c3, v1, v2, v3⟩ := take_eq a2 c2 ((m : Int) - 1) u3 (by omega)
      obtain ⟨b, cs4, d1, d2, d3, d4⟩ := drawn_eq [.int a3, .int c3] ⟨a3, c3, rfl, v3⟩ (2 + r.toNat) (by omega)
      have er : ((2 + r.toNat : Nat) : Int) = 2 + r := by omega
      rw [er] at d1
      by_cases h3 : w = 3
      · obtain ⟨a4, c4, rfl, hc4⟩ := d2
        obtain ⟨r2, a5, c5, x1, x2, x3⟩ := take_eq a4 c4 2 hc4 (by omega)
        have hr := range2 1 ((b.length : Int) + 1) (by omega) (by omega)
        rw [show ((b.length : Int) + 1 - 1).toNat = b.length by omega] at hr
        have hr2 := range3 (b.length : Int) (by omega)
        rw [show ((b.length : Int)).toNat = b.length by omega, rg_neg] at hr2
        rcases two_cases x2 with e | e
        · subst e
          obtain ⟨o, cs6, Γ', f1, f2, f3, f4, f5⟩ := tail_eq [.int a5, .int c5] ⟨a5, c5, rfl, x3⟩ (rgI 1 1 b.length) m (by omega) (by rw [Om.rg_len]; omega) (isR_rg _) (.val (.int n)) (.val (.int w)) .no .no .no .no .no
          refine ⟨o, cs6, ?_, f3, f4, by omega⟩
          subst h3
          simp [-z_par0, -List.map_reverse, s_law_row, runM, b_row_eq, envM, t1, u1, hm, v1, d1, hr, hr2, x1, L2.ixN, f1, f2]
        · subst e
          obtain ⟨o, cs6, Γ', f1, f2, f3, f4, f5⟩ := tail_eq [.int a5, .int c5] ⟨a5, c5, rfl, x3⟩ (rgI 1 1 b.length).reverse m (by omega) (by rw [List.length_reverse, Om.rg_len]; omega) (isR_rgr _) (.val (.int n)) (.val (.int w)) .no .no .no .no .no
          refine ⟨o, cs6, ?_, f3, f4, by omega⟩
          subst h3
          simp [-z_par0, -List.map_reverse, s_law_row, runM, b_row_eq, envM, t1, u1, hm, v1, d1, hr, hr2, x1, L2.ixN, f1, f2]
      · obtain ⟨o, cs6, Γ', f1, f2, f3, f4, f5⟩ := tail_eq cs4 d2 b m (by omega) (by omega) d3 (.val (.int n)) (.val (.int w)) .no .no .no .no .no
        refine ⟨o, cs6, ?_, f3, f4, by omega⟩
        simp [-z_par0, s_law_row, runM, b_row_eq, envM, t1, u1, hw, hm, h2, h3, v1, d1, f1, f2]
end Law
set_option Elab.async false
set_option linter.all false
set_option maxRecDepth 100000
set_option maxHeartbeats 4000000
namespace Law
open PySem Z
/-! ### same -/
inductive Nest : Nat → PyData → Prop
  | int (n : Nat) (i : Int) : Nest (n + 1) (.int i)
  | tup (n : Nat) (xs : List PyData) : (∀ x ∈ xs, Nest n x) → xs.length ≤ 1000 → Nest (n + 1) (.tuple xs)
  | lst (n : Nat) (xs : List PyData) : (∀ x ∈ xs, Nest n x) → xs.length ≤ 1000 → Nest (n + 1) (.list xs)
theorem eq_nil : pEq (.list []) (.list []) = some (.bool true) := z_eqL [] []
theorem same_eq : ∀ {n : Nat} {d : PyData}, Nest n d → s_law_same n [d, d] = some (.bool true) := by
  intro n d h
  induction h with
  | int n i => simp [s_law_same, runP, b_law_same, envOf, isNone]
  | tup n xs hx hl ih =>
    have hr : rangeOf [.int (xs.length : Int)] = some (rgI 0 1 xs.length) := by
      have := range1 (xs.length : Int) (by omega)
      simpa using this
    have e := nLc_ints (it := itRange (aCons (eLenV 1) aNil)) (t := tNotX (tTruX (eCall (s_law_same n) (aCons (eIxV 0 (eVar 2)) (aCons (eIxV 1 (eVar 2)) aNil))))) (f := eVar 2) (i := 2) (Γ := [.val (.tuple xs), .val (.tuple xs), .no]) (rgI 0 1 xs.length) (fun _ => false) (fun j => .int j)
      (by simp [hr]) (by simp [freeE, Slot.isOwn]) (fun j hj => by
        obtain ⟨j1, j2⟩ := Om.mem_rg.mp hj
        obtain ⟨i, rfl⟩ : ∃ i : Nat, j = i := ⟨j.toNat, by omega⟩
        have hi : i < xs.length := by omega
        have hs := ih xs[i] (List.getElem_mem hi)
        exact ⟨by simp [ixN_nat hi, hi, hs], fun h => absurd h (by decide)⟩) (by rw [Om.rg_len]; omega)
    rw [List.filter_eq_nil_iff.mpr (fun _ _ => by simp)] at e
    simp [s_law_same, runP, b_law_same, envOf, e, eq_nil]
  | lst n xs hx hl ih =>
    have hr : rangeOf [.int (xs.length : Int)] = some (rgI 0 1 xs.length) := by
      have := range1 (xs.length : Int) (by omega)
      simpa using this
    have e := nLc_ints (it := itRange (aCons (eLenV 1) aNil)) (t := tNotX (tTruX (eCall (s_law_same n) (aCons (eIxV 0 (eVar 2)) (aCons (eIxV 1 (eVar 2)) aNil))))) (f := eVar 2) (i := 2) (Γ := [.val (.list xs), .val (.list xs), .no]) (rgI 0 1 xs.length) (fun _ => false) (fun j => .int j)
      (by simp [hr]) (by simp [freeE, Slot.isOwn]) (fun j hj => by
        obtain ⟨j1, j2⟩ := Om.mem_rg.mp hj
        obtain ⟨i, rfl⟩ : ∃ i : Nat, j = i := ⟨j.toNat, by omega⟩
        have hi : i < xs.length := by omega
        have hs := ih xs[i] (List.getElem_mem hi)
        exact ⟨by simp [ixN_nat hi, hi, hs], fun h => absurd h (by decide)⟩) (by rw [Om.rg_len]; omega)
    rw [List.filter_eq_nil_iff.mpr (fun _ _ => by simp)] at e
    simp [s_law_same, runP, b_law_same, envOf, e, eq_nil]
theorem nest_T (n : Nat) (o : List Int) (h : o.length ≤ 1000) : Nest (n + 2) (T o) :=
  .tup _ _ (fun x hx => by obtain ⟨i, _, rfl⟩ := List.mem_map.mp hx; exact .int _ _) (by simpa using h)
theorem nest_TT (n : Nat) (l : List (List Int)) (h : l.length ≤ 1000) (k : ∀ o ∈ l, o.length ≤ 1000) : Nest (n + 3) (.tuple (TT l)) :=
  .tup _ _ (fun x hx => by obtain ⟨o, ho, rfl⟩ := List.mem_map.mp hx; exact nest_T _ _ (k o ho)) (by simpa using h)
/-! ### the law's sums -/
theorem law_sum_eq (a b : List Int) (ha : a.length ≤ 1000) (hb : b.length ≤ 1000) : s_law_sum [T a, T b] = some (T (Om.summed a b)) := by
  have e := nLc_intsM (it := itSeq (eVar 1)) (f := eOp pAdd (eLenV 0) (eVar 2)) (i := 2) (Γ := [.val (T a), .val (T b), .no]) b (fun x => .int ((a.length : Int) + x)) (by simp) (by simp [freeE, Slot.isOwn]) (fun x _ => by simp) (by omega)
  have : a.length + b.length ≤ 100000 := by omega
  simp [s_law_sum, runP, b_law_sum, envOf, e, this, Om.summed]
  intro x _; omega
theorem law_skew_sum_eq (a b : List Int) (ha : a.length ≤ 1000) (hb : b.length ≤ 1000) : s_law_skew_sum [T a, T b] = some (T (Om.skewSummed a b)) := by
  have e := nLc_intsM (it := itSeq (eVar 0)) (f := eOp pAdd (eLenV 1) (eVar 2)) (i := 2) (Γ := [.val (T a), .val (T b), .no]) a (fun x => .int ((b.length : Int) + x)) (by simp) (by simp [freeE, Slot.isOwn]) (fun x _ => by simp) (by omega)
  have : a.length + b.length ≤ 100000 := by omega
  simp [s_law_skew_sum, runP, b_law_skew_sum, envOf, e, this, Om.skewSummed]
  intro x _; omega
theorem summed_right_eq (a b : List Int) (ha : a.length ≤ 400) (hb : b.length ≤ 400) (ka : Om.IsR 1 a) (kb : Om.IsR 1 b) : s_law_summed_right [T a, T b] = some (.bool true) := by
  have e1 := law_sum_eq a b (by omega) (by omega)
  have e2 := law_skew_sum_eq a b (by omega) (by omega)
  have e3 := summed_eq (a := a) (b := b) (by omega) (by omega) ka kb
  have e4 := skew_summed_eq (a := a) (b := b) (by omega) (by omega) ka kb
  have l1 : (Om.summed a b).length ≤ 1000 := by simp [Om.summed]; omega
  have l2 : (Om.skewSummed a b).length ≤ 1000 := by simp [Om.skewSummed]; omega
  have g1 : s_law_same 40 [.list [T (Om.summed a b), T (Om.summed a b)], .list [T (Om.summed a b), T (Om.summed a b)]] = some (.bool true) :=
    same_eq (.lst 39 _ (fun x hx => by simp at hx; subst hx; exact nest_T 37 _ l1) (by simp))
  have g2 : s_law_same 40 [.list [T (Om.skewSummed a b), T (Om.skewSummed a b)], .list [T (Om.skewSummed a b), T (Om.skewSummed a b)]] = some (.bool true) :=
    same_eq (.lst 39 _ (fun x hx => by simp at hx; subst hx; exact nest_T 37 _ l2) (by simp))
  have gk : ∀ x y : PyData, gK 0 [1, 0] [] [y, x] = [x, y] := fun x y => rfl
  simp [s_law_summed_right, runP, b_law_summed_right, envOf, e1, e2, e3, e4, g1, g2, gk]
end Law
set_option Elab.async false
set_option linter.all false
set_option maxRecDepth 100000
set_option maxHeartbeats 4000000
namespace Law
open PySem Z
theorem forLoop_brk {g : PyData → Z.Env → Option Z.Env} {b : SX} (I : List Int → Z.Env → Prop) (l : List Int) (x : Int) (post : List Int) (Γe : Z.Env)
    (step : ∀ p y q Γ, l = p ++ y :: q → I p Γ → ∃ Γ1 Γ2, g (.int y) Γ = some Γ1 ∧ b Γ1 = some (.nx Γ2) ∧ I (p ++ [y]) Γ2)
    (fin : ∀ Γ, I l Γ → ∃ Γ1, g (.int x) Γ = some Γ1 ∧ b Γ1 = some (.bk Γe)) {Γ : Z.Env} (h0 : I [] Γ) : forLoop g b ((l ++ x :: post).map .int) Γ = some (.nx Γe) := by
  have all : ∀ (q p : List Int) (Γ : Z.Env), l = p ++ q → I p Γ → forLoop g b ((q ++ x :: post).map .int) Γ = some (.nx Γe) := by
    intro q
    induction q with
    | nil =>
      intro p Γ e h
      rw [List.append_nil] at e; subst e
      obtain ⟨Γ1, h1, h2⟩ := fin Γ h
      show forLoop g b (.int x :: post.map .int) Γ = _
      unfold forLoop
      rw [h1]
      simp only [Option.bind_some, h2]
    | cons y q ih =>
      intro p Γ e h
      obtain ⟨Γ1, Γ2, h1, h2, h3⟩ := step p y q Γ e h
      have := ih (p ++ [y]) Γ2 (by rw [e]; simp) h3
      show forLoop g b (.int y :: (q ++ x :: post).map .int) Γ = _
      unfold forLoop
      rw [h1]
      simp only [Option.bind_some, h2, this]
  exact all l [] Γ rfl h0
abbrev inBody : SX := (sSeq (sSet 7 (nVal (eIf (tTruX (eVar 1)) (eLR (rxOf (aCons (eOp pAdd (eOp pSub (eVar 5) (eVar 6)) (eC (.int 1))) (aCons (eOp pAdd (eVar 5) (eC (.int 1))) aNil)))) (eLR (rxOf (aCons (eC (.int 1)) (aCons (eOp pAdd (eVar 6) (eC (.int 1))) aNil)))))))
    (sIf (tOf (eOp pEq (eCall pSorted (aCons (eSl pSl (eVar 3) oNone (oSome (eVar 6))) aNil)) (eVar 7))) (sSeq (sApp 2 (eCall s_law_like (aCons (eSl pSl (eVar 3) oNone (oSome (eVar 6))) aNil)))
    (sSeq (sSet 3 (nVal (eCall s_law_like (aCons (eSl pSl (eVar 3) (oSome (eVar 6)) oNone) aNil))))
    sBreak)) sNext))
def lo (skew : Bool) (many j : Nat) : Int := if skew = true then ((many - j : Nat) : Int) + 1 else 1
def FirstB (skew : Bool) (r : List Int) (s : Nat) : Prop := 1 ≤ s ∧ s ≤ r.length ∧ Om.IsR (lo skew r.length s) (r.take s) ∧ ∀ j, 1 ≤ j → j < s → ¬ Om.IsR (lo skew r.length j) (r.take j)
theorem ends_eq (skew : Bool) (many j : Nat) (hm : many ≤ 1000) (hj : j ≤ many) (row s2 s3 s4 : Slot) (s7 : Slot) :
    (eIf (tTruX (eVar 1)) (eLR (rxOf (aCons (eOp pAdd (eOp pSub (eVar 5) (eVar 6)) (eC (.int 1))) (aCons (eOp pAdd (eVar 5) (eC (.int 1))) aNil)))) (eLR (rxOf (aCons (eC (.int 1)) (aCons (eOp pAdd (eVar 6) (eC (.int 1))) aNil)))))
      [row, .val (.bool skew), s2, s3, s4, .val (.int many), .val (.int j), s7] = some (.list ((rgI (lo skew many j) 1 j).map .int), [row, .val (.bool skew), s2, s3, s4, .val (.int many), .val (.int j), s7]) := by
  cases skew with
  | true =>
    have hr := range2 ((many : Int) - j + 1) ((many : Int) + 1) (by omega) (by omega)
    rw [show ((many : Int) + 1 - ((many : Int) - j + 1)).toNat = j by omega, show ((many : Int) - j + 1) = lo true many j by simp [lo]; omega] at hr
    have : (many : Int) - j + 1 = lo true many j := by simp [lo]; omega
    simp [this, hr]
  | false =>
    have hr := range2 1 ((j : Int) + 1) (by omega) (by omega)
    rw [show ((j : Int) + 1 - 1).toNat = j by omega] at hr
    simp [hr, lo]
theorem inner_eq (skew : Bool) (r : List Int) (s : Nat) (hr : r.length ≤ 1000) (hs : FirstB skew r s) {c : Int} (hc : Om.IsR c (r.drop s)) (row s4 s6 s7 : Slot) (found : List (List Int)) (hf : found.length ≤ 1000) :
    ∃ t6 t7, forLoop (gxName 6) inBody ((rgI 1 1 r.length).map .int) [row, .val (.bool skew), .own (TT found), .val (T r), s4, .val (.int r.length), s6, s7] =
      some (.nx [row, .val (.bool skew), .own (TT (found ++ [(r.take s).map fun y => y - lo skew r.length s + 1])), .val (T ((r.drop s).map fun y => y - c + 1)), s4, .val (.int r.length), t6, t7]) := by
  obtain ⟨h1, h2, h3, h4⟩ := hs
  have hsp : rgI 1 1 r.length = rgI 1 1 (s - 1) ++ (s : Int) :: rgI ((s : Int) + 1) 1 (r.length - s) := by
    have : r.length = (s - 1) + ((r.length - s) + 1) := by omega
    conv => lhs; rw [this, Om.rg_add, Om.rg_succ]
    rw [show (1 : Int) + ((s - 1 : Nat) : Int) = s by omega]
  refine ⟨.val (.int s), .val (.list ((rgI (lo skew r.length s) 1 s).map .int)), ?_⟩
  rw [hsp]
  have hq : ∀ j : Nat, 1 ≤ j → j ≤ r.length → ∀ row s2 s4, (tOf (eOp pEq (eCall pSorted (aCons (eSl pSl (eVar 3) oNone (oSome (eVar 6))) aNil)) (eVar 7))) [row, .val (.bool skew), s2, .val (T r), s4, .val (.int r.length), .val (.int j), .val (.list ((rgI (lo skew r.length j) 1 j).map .int))] =
      some (decide (srt (r.take j) = rgI (lo skew r.length j) 1 j), [row, .val (.bool skew), s2, .val (T r), s4, .val (.int r.length), .val (.int j), .val (.list ((rgI (lo skew r.length j) 1 j).map .int))]) := fun j j1 j2 row s2 s4 => by
    have hcut := cut_to (r.map .int) j (by simp; omega)
    rw [← List.map_take] at hcut
    simp [-List.map_take, hcut, z_sortT, z_eqL]
  have hiff : ∀ j : Nat, j ≤ r.length → (srt (r.take j) = rgI (lo skew r.length j) 1 j ↔ Om.IsR (lo skew r.length j) (r.take j)) := fun j hj => by
    unfold Om.IsR
    rw [show (r.take j).length = j by rw [List.length_take]; omega]
    exact Om.srt_iff
  refine forLoop_brk (fun p Γ => ∃ s6 s7, Γ = [row, .val (.bool skew), .own (TT found), .val (T r), s4, .val (.int r.length), s6, s7]) _ _ _ _ (fun p y q Γ e ⟨s6, s7, hΓ⟩ => ?_) (fun Γ ⟨s6, s7, hΓ⟩ => ?_) ⟨s6, s7, rfl⟩
  · obtain ⟨hy, _, hl⟩ := rg_split e
    obtain ⟨j, rfl⟩ : ∃ j : Nat, y = j := ⟨y.toNat, by omega⟩
    subst hΓ
    have e1 := ends_eq skew r.length j hr (by omega) row (.own (TT found)) (.val (T r)) s4 s7
    have e2 := hq j (by omega) (by omega) row (.own (TT found)) s4
    have e3 : ¬ srt (r.take j) = rgI (lo skew r.length j) 1 j := fun h => h4 j (by omega) (by omega) ((hiff j (by omega)).mp h)
    refine ⟨_, [row, .val (.bool skew), .own (TT found), .val (T r), s4, .val (.int r.length), .val (.int j), .val (.list ((rgI (lo skew r.length j) 1 j).map .int))], rfl, ?_, _, _, rfl⟩
    rw [decide_eq_false e3] at e2
    simp only [inBody, z_seq, z_set, z_nval, z_if, z_next, List.set, e1, e2, Option.bind_some]
    rfl
  · subst hΓ
    have e1 := ends_eq skew r.length s hr (by omega) row (.own (TT found)) (.val (T r)) s4 s7
    have e2 := hq s (by omega) (by omega) row (.own (TT found)) s4
    rw [decide_eq_true ((hiff s h2).mpr h3)] at e2
    have hcut := cut_to (r.map .int) s (by simp; omega)
    rw [← List.map_take] at hcut
    have hcut2 := cut_from (r.map .int) s (by simp; omega)
    rw [← List.map_drop] at hcut2
    have e4 := like_ord (by rw [List.length_take]; omega) h3
    have e5 := like_ord (by rw [List.length_drop]; omega) hc
    obtain ⟨p1, hp1⟩ : ∃ p, p = r.take s := ⟨_, rfl⟩
    obtain ⟨p2, hp2⟩ : ∃ p, p = r.drop s := ⟨_, rfl⟩
    rw [← hp1] at hcut e4
    rw [← hp2] at hcut2 e5
    have hf' : found.length < 100000 := by omega
    refine ⟨_, rfl, ?_⟩
    rw [← hp1, ← hp2]
    simp only [inBody, z_seq, z_set, z_nval, z_if, z_next, List.set, e1, e2, Option.bind_some]
    simp [hcut, hcut2, e4, e5, hf']
/-! ### the outer loop -/
def F (skew : Bool) (r : List Int) : List (List Int) := if skew = true then Om.skewParts r else Om.parts r
theorem F_nil (skew : Bool) : F skew [] = [] := by cases skew <;> rfl
theorem step_ex (skew : Bool) {r : List Int} (h : Om.IsR 1 r) (hr : r ≠ []) : ∃ s c, FirstB skew r s ∧ Om.IsR c (r.drop s) ∧ Om.IsR 1 ((r.drop s).map fun y => y - c + 1) ∧
    F skew r = ((r.take s).map fun y => y - lo skew r.length s + 1) :: F skew ((r.drop s).map fun y => y - c + 1) := by
  cases skew with
  | true =>
    obtain ⟨s, hs⟩ := Om.firstS_ex h hr
    have hd := Om.drop_ord h hs
    have e1 : ((r.drop s).map fun y => y - 1 + 1) = r.drop s := by
      rw [List.map_congr_left (g := id) (fun x _ => by simp), List.map_id]
    refine ⟨s, 1, hs, hd, by rw [e1]; exact hd, ?_⟩
    show Om.skewParts r = _ :: Om.skewParts _
    rw [e1, Om.skew_first h hs]
    congr 1
    apply List.map_congr_left
    intro x _
    simp [lo]; omega
  | false =>
    obtain ⟨s, hs⟩ := Om.first_ex h hr
    have h0 : Om.IsR 1 (r.take s ++ r.drop s) := by rw [List.take_append_drop]; exact h
    have hd := h0.rest hs.2.2.1
    have hl : (r.take s).length = s := by rw [List.length_take]; have := hs.2.1; omega
    rw [hl] at hd
    have e1 : ((r.drop s).map fun y => y - (1 + (s : Int)) + 1) = (r.drop s).map (· - (s : Int)) := by
      apply List.map_congr_left
      intro x _
      show x - (1 + (s : Int)) + 1 = x - s
      omega
    have e2 : ((r.take s).map fun y => y - lo false r.length s + 1) = r.take s := by
      rw [List.map_congr_left (g := id) (fun x _ => by simp [lo]), List.map_id]
    refine ⟨s, 1 + (s : Int), hs, hd, by rw [e1]; exact Om.rest_ord h hs, ?_⟩
    show Om.parts r = _ :: Om.parts _
    rw [e1, e2, Om.parts_first h hs]
theorem split_eq (skew : Bool) (o : List Int) (ho : o.length ≤ 900) (k : Om.IsR 1 o) : s_law_split [T o, .bool skew] = some (.tuple (TT (F skew o))) := by
  have hr : rangeOf [.int (o.length : Int)] = some (rgI 0 1 o.length) := by
    have := range1 (o.length : Int) (by omega)
    simpa using this
  obtain ⟨Γ', h1, h2⟩ := forLoop_ints (g := gxName 4) (b := (sSeq (sSet 5 (nVal (eLenV 3))) (sFor (itRange (aCons (eC (.int 1)) (aCons (eOp pAdd (eVar 5) (eC (.int 1))) aNil))) (gxName 6) inBody)))
    (fun pre Γ => ∃ found r s4 s5 s6 s7, Γ = [.val (T o), .val (.bool skew), .own (TT found), .val (T r), s4, s5, s6, s7] ∧ Om.IsR 1 r ∧ r.length + pre.length ≤ max o.length pre.length ∧ found.length ≤ pre.length ∧ found ++ F skew r = F skew o) (rgI 0 1 o.length)
    (fun pre x post Γ e ⟨found, r, s4, s5, s6, s7, hΓ, hk, hl, hf, hF⟩ => by
      obtain ⟨hx, _, hpl⟩ := rg_split e
      subst hΓ
      have hr2 := range2 1 ((r.length : Int) + 1) (by omega) (by omega)
      rw [show ((r.length : Int) + 1 - 1).toNat = r.length by omega] at hr2
      by_cases hr0 : r = []
      · subst hr0
        refine ⟨_, [.val (T o), .val (.bool skew), .own (TT found), .val (T []), .val (.int x), .val (.int 0), s6, s7], rfl, .inl ?_, found, [], _, _, _, _, rfl, hk, by simp; omega, by simp; omega, hF⟩
        simp at hr2
        simp [hr2, Om.rg_nil, forLoop]
      · obtain ⟨s, c, g1, g2, g3, g4⟩ := step_ex skew hk hr0
        obtain ⟨t6, t7, g5⟩ := inner_eq skew r s (by omega) g1 g2 (.val (T o)) (.val (.int x)) s6 s7 found (by omega)
        refine ⟨_, [.val (T o), .val (.bool skew), .own (TT (found ++ [(r.take s).map fun y => y - lo skew r.length s + 1])), .val (T ((r.drop s).map fun y => y - c + 1)), .val (.int x), .val (.int r.length), t6, t7], rfl, .inl ?_, _, _, _, _, _, _, rfl, g3, ?_, by simp; omega, ?_⟩
        · have : (sFor (itRange (aCons (eC (.int 1)) (aCons (eOp pAdd (eVar 5) (eC (.int 1))) aNil))) (gxName 6) inBody) [.val (T o), .val (.bool skew), .own (TT found), .val (T r), .val (.int x), .val (.int r.length), s6, s7] = some (.nx [.val (T o), .val (.bool skew), .own (TT (found ++ [(r.take s).map fun y => y - lo skew r.length s + 1])), .val (T ((r.drop s).map fun y => y - c + 1)), .val (.int x), .val (.int r.length), t6, t7]) := by
            rw [← g5]
            rw [z_for]
            simp only [z_itrange, z_acons, z_c, z_op, z_var, z_anil, Option.bind_some, List.getElem?_cons_succ, List.getElem?_cons_zero, z_add, hr2]
          have e0 : (sSet 5 (nVal (eLenV 3))) ([.val (T o), .val (.bool skew), .own (TT found), .val (T r), .val (.int x), s5, s6, s7] : Z.Env) = some (.nx [.val (T o), .val (.bool skew), .own (TT found), .val (T r), .val (.int x), .val (.int r.length), s6, s7]) := by simp
          rw [z_seq]
          show ((sSet 5 (nVal (eLenV 3))) ([.val (T o), .val (.bool skew), .own (TT found), .val (T r), .val (.int x), s5, s6, s7] : Z.Env)).bind _ = _
          rw [e0, Option.bind_some]
          exact this
        · have h1 := g1.1
          have h2 := g1.2.1
          simp
          omega
        · rw [← hF, g4, List.append_assoc]; rfl)
    (Γ := [.val (T o), .val (.bool skew), .own [], .val (T o), .no, .no, .no, .no]) ⟨[], o, _, _, _, _, rfl, k, by simp, by simp, rfl⟩
  obtain ⟨found, r, s4, s5, s6, s7, rfl, hk, hl, hf, hF⟩ := h2
  rw [Om.rg_len] at hl
  have hr0 : r = [] := List.eq_nil_of_length_eq_zero (by omega)
  subst hr0
  rw [F_nil, List.append_nil] at hF
  subst hF
  have e : (sFor (itRange (aCons (eLenV 0) aNil)) (gxName 4) (sSeq (sSet 5 (nVal (eLenV 3))) (sFor (itRange (aCons (eC (.int 1)) (aCons (eOp pAdd (eVar 5) (eC (.int 1))) aNil))) (gxName 6) inBody))) [.val (T o), .val (.bool skew), .own [], .val (T o), .no, .no, .no, .no] = some (.nx [.val (T o), .val (.bool skew), .own (TT (F skew o)), .val (T []), s4, s5, s6, s7]) := by
    rw [← h1]
    rw [z_for]
    simp [hr]
  have e0 : b_law_split = sSeq (sPar 2 3 (nLst aNil) (nVal (eVar 0))) (sSeq (sFor (itRange (aCons (eLenV 0) aNil)) (gxName 4) (sSeq (sSet 5 (nVal (eLenV 3))) (sFor (itRange (aCons (eC (.int 1)) (aCons (eOp pAdd (eVar 5) (eC (.int 1))) aNil))) (gxName 6) inBody))) (sRet (eCall pTuple (aCons (eVar 2) aNil)))) := rfl
  simp only [s_law_split, runP, e0]
  simp [-z_for, envOf, e]
end Law
set_option Elab.async false
set_option linter.all false
set_option maxRecDepth 100000
set_option maxHeartbeats 4000000
namespace Law
open PySem Z
theorem total_cons (p : List Int) (l : List (List Int)) : total (p :: l) = p.length + total l := by simp [total]
theorem fold_len : ∀ (l : List (List Int)) (a : List Int), (l.foldl Om.summed a).length = a.length + total l
  | [], a => rfl
  | p :: l, a => by
    rw [List.foldl_cons, fold_len l, total_cons]
    simp [Om.summed]; omega
theorem foldS_len : ∀ (l : List (List Int)) (a : List Int), (l.foldl Om.skewSummed a).length = a.length + total l
  | [], a => rfl
  | p :: l, a => by
    rw [List.foldl_cons, foldS_len l, total_cons]
    simp [Om.skewSummed]; omega
theorem parts_back {o : List Int} (k : Om.IsR 1 o) : (Om.parts o).foldl Om.summed [] = o := by
  rw [Om.parts_sum o k []]
  unfold Om.summed
  rw [List.map_congr_left (g := id) (fun x _ => by simp), List.map_id]; rfl
theorem skew_back {o : List Int} (k : Om.IsR 1 o) : (Om.skewParts o).foldl Om.skewSummed [] = o := by
  rw [Om.skew_sum o k []]
  rfl
theorem parts_total {o : List Int} (k : Om.IsR 1 o) : total (Om.parts o) = o.length := by
  have := fold_len (Om.parts o) []
  rw [parts_back k] at this
  simpa using this.symm
theorem skew_total {o : List Int} (k : Om.IsR 1 o) : total (Om.skewParts o) = o.length := by
  have := foldS_len (Om.skewParts o) []
  rw [skew_back k] at this
  simpa using this.symm
theorem skew_count (o : List Int) : (Om.skewParts o).length ≤ o.length := by
  have := Om.parts_len o.reverse
  simp at this
  simpa [Om.skewParts] using this
theorem loop_sum : ∀ (l : List (List Int)) (acc : List Int), (∀ p ∈ l, Om.IsR 1 p) → Om.IsR 1 acc → acc.length + total l ≤ 1000 → ∀ (s0 s1 s2 s4 s5 s6 s7 : Slot), s5.isOwn = false →
    ∃ t5, t5.isOwn = false ∧ forLoop (gxName 5) (sSet 3 (nVal (eCall s_summed (aCons (eVar 3) (aCons (eVar 5) aNil))))) (TT l) [s0, s1, s2, .val (T acc), s4, s5, s6, s7] = some (.nx [s0, s1, s2, .val (T (l.foldl Om.summed acc)), s4, t5, s6, s7])
  | [], acc, _, _, _, s0, s1, s2, s4, s5, s6, s7, h5 => ⟨s5, h5, rfl⟩
  | p :: l, acc, hp, ha, hl, s0, s1, s2, s4, s5, s6, s7, h5 => by
    rw [total_cons] at hl
    have e := summed_eq (a := acc) (b := p) (by omega) (by omega) ha (hp p List.mem_cons_self)
    obtain ⟨t5, h6, h⟩ := loop_sum l (Om.summed acc p) (fun q hq => hp q (List.mem_cons_of_mem _ hq)) (Om.summed_ord ha (hp p List.mem_cons_self)) (by simp [Om.summed]; omega) s0 s1 s2 s4 (.val (T p)) s6 s7 rfl
    refine ⟨t5, h6, ?_⟩
    show forLoop _ _ (T p :: TT l) _ = _
    unfold forLoop
    rw [List.foldl_cons, ← h]
    simp [e]
theorem loop_skew : ∀ (l : List (List Int)) (acc : List Int), (∀ p ∈ l, Om.IsR 1 p) → Om.IsR 1 acc → acc.length + total l ≤ 1000 → ∀ (s0 s1 s2 s3 s5 s6 s7 : Slot), s5.isOwn = false →
    ∃ t5, t5.isOwn = false ∧ forLoop (gxName 5) (sSet 4 (nVal (eCall s_skew_summed (aCons (eVar 4) (aCons (eVar 5) aNil))))) (TT l) [s0, s1, s2, s3, .val (T acc), s5, s6, s7] = some (.nx [s0, s1, s2, s3, .val (T (l.foldl Om.skewSummed acc)), t5, s6, s7])
  | [], acc, _, _, _, s0, s1, s2, s3, s5, s6, s7, h5 => ⟨s5, h5, rfl⟩
  | p :: l, acc, hp, ha, hl, s0, s1, s2, s3, s5, s6, s7, h5 => by
    rw [total_cons] at hl
    have e := skew_summed_eq (a := acc) (b := p) (by omega) (by omega) ha (hp p List.mem_cons_self)
    obtain ⟨t5, h6, h⟩ := loop_skew l (Om.skewSummed acc p) (fun q hq => hp q (List.mem_cons_of_mem _ hq)) (Om.skewSummed_ord ha (hp p List.mem_cons_self)) (by simp [Om.skewSummed]; omega) s0 s1 s2 s3 (.val (T p)) s6 s7 rfl
    refine ⟨t5, h6, ?_⟩
    show forLoop _ _ (T p :: TT l) _ = _
    unfold forLoop
    rw [List.foldl_cons, ← h]
    simp [e]
/-! ### comprehensions over orders -/
def inv : PyData → List Int
  | .tuple xs => (intsOf xs).getD []
  | _ => []
theorem inv_T (p : List Int) : inv (T p) = p := by
  show (intsOf (p.map .int)).getD [] = p
  rw [z_intsOf]; rfl
theorem nLc_TT {it : AX} {f : EX} {i : Nat} {Γ : Z.Env} (l : List (List Int)) (h : List Int → PyData) (hit : it Γ = some (TT l, Γ)) (hfr : freeE Γ [i] = true)
    (hx : ∀ p ∈ l, f (Γ.set i (.val (T p))) = some (h p, Γ.set i (.val (T p)))) (hl : l.length ≤ 100000) :
    nLc it (gxName i) tYesX f [i] Γ = some (.own (l.map h), Γ) := by
  have := nLc_map (f := f) (i := i) (TT l) (fun d => h (inv d)) hit hfr (fun x hx' => by
    obtain ⟨p, hp, rfl⟩ := List.mem_map.mp hx'
    show f (Γ.set i (.val (T p))) = some (h (inv (T p)), _)
    rw [inv_T]
    exact hx p hp) (by simpa using hl)
  rw [this, List.map_map]
  congr 3
  apply List.map_congr_left
  intro p _
  show h (inv (T p)) = h p
  rw [inv_T]
theorem parts_right_eq (o : List Int) (ho : o.length ≤ 400) (k : Om.IsR 1 o) : s_law_parts_right [T o] = some (.bool true) := by
  have e1 : s_law_split [T o, .bool false] = some (.tuple (TT (Om.parts o))) := split_eq false o (by omega) k
  have e2 : s_law_split [T o, .bool true] = some (.tuple (TT (Om.skewParts o))) := split_eq true o (by omega) k
  have e3 := parts_eq (o := o) (by omega) k
  have e4 := skew_parts_eq (o := o) (by omega) k
  have c1 := Om.parts_len o
  have c2 := skew_count o
  have p1 : ∀ p ∈ Om.parts o, p.length ≤ 1000 := fun p hp => by have := mem_total hp; rw [parts_total k] at this; omega
  have p2 : ∀ p ∈ Om.skewParts o, p.length ≤ 1000 := fun p hp => by have := mem_total hp; rw [skew_total k] at this; omega
  have n1 := nest_TT 36 (Om.parts o) (by omega) p1
  have n2 := nest_TT 36 (Om.skewParts o) (by omega) p2
  have g1 : s_law_same 40 [.list [.tuple (TT (Om.parts o)), .tuple (TT (Om.parts o)), .tuple (TT (Om.skewParts o)), .tuple (TT (Om.skewParts o))], .list [.tuple (TT (Om.parts o)), .tuple (TT (Om.parts o)), .tuple (TT (Om.skewParts o)), .tuple (TT (Om.skewParts o))]] = some (.bool true) :=
    same_eq (.lst 39 _ (fun x hx => by
      simp only [List.mem_cons, List.not_mem_nil, or_false] at hx
      rcases hx with rfl | rfl | rfl | rfl
      · exact n1
      · exact n1
      · exact n2
      · exact n2) (by simp))
  have gk : ∀ x : PyData, gK 0 [0] [] [x] = [x] := fun x => rfl
  have e5 := mirrored_eq (o := o) (by omega) k
  have lm : (Om.mir o).length = o.length := by simp [Om.mir]
  have e6 := skew_parts_eq (o := Om.mir o) (by omega) (Om.mir_ord k)
  rw [Om.skew_mir o k] at e6
  have n3 : Nest 39 (.tuple (TT ((Om.parts o).map Om.mir))) := nest_TT 36 _ (by simp; omega) (fun p hp => by
    obtain ⟨q, hq, rfl⟩ := List.mem_map.mp hp
    have := p1 q hq
    simpa [Om.mir] using this)
  have g2 : s_law_same 40 [.list [T o, T o, .tuple (TT ((Om.parts o).map Om.mir))], .list [T o, T o, .tuple (TT ((Om.parts o).map Om.mir))]] = some (.bool true) :=
    same_eq (.lst 39 _ (fun x hx => by
      simp only [List.mem_cons, List.not_mem_nil, or_false] at hx
      rcases hx with rfl | rfl | rfl
      · exact nest_T 37 _ (by omega)
      · exact nest_T 37 _ (by omega)
      · exact n3) (by simp))
  -- the mirrored parts
  have ei : ∀ (p : List Int), p.length ≤ 1000 → ∀ s0 s1 s2 s3 s4 s6 : Slot, nLc (itSeq (eVar 5)) (gxName 7) tYesX (eOp pSub (eOp pAdd (eLenV 5) (eC (.int 1))) (eVar 7)) [7] [s0, s1, s2, s3, s4, .val (T p), s6, .no] = some (.own ((Om.mir p).map .int), [s0, s1, s2, s3, s4, .val (T p), s6, .no]) := fun p hp s0 s1 s2 s3 s4 s6 => by
    have := nLc_intsM (it := itSeq (eVar 5)) (f := eOp pSub (eOp pAdd (eLenV 5) (eC (.int 1))) (eVar 7)) (i := 7) (Γ := [s0, s1, s2, s3, s4, .val (T p), s6, .no]) p (fun x => .int ((p.length : Int) + 1 - x)) (by simp) (by simp [freeE, Slot.isOwn]) (fun x _ => by simp) (by omega)
    rw [this]
    simp [Om.mir]
  have em : ∀ s0 s2 s3 s4 s5, freeE [s0, .val (.tuple (TT (Om.parts o))), s2, s3, s4, s5, .no, .no] [5] = true → nLc (itSeq (eVar 1)) (gxName 5) tYesX (eCall pTuple (aCons (nOwn (nLc (itSeq (eVar 5)) (gxName 7) tYesX (eOp pSub (eOp pAdd (eLenV 5) (eC (.int 1))) (eVar 7)) [7])) aNil)) [5] [s0, .val (.tuple (TT (Om.parts o))), s2, s3, s4, s5, .no, .no] =
      some (.own (TT ((Om.parts o).map Om.mir)), [s0, .val (.tuple (TT (Om.parts o))), s2, s3, s4, s5, .no, .no]) := fun s0 s2 s3 s4 s5 hfr => by
    have := nLc_TT (it := itSeq (eVar 1)) (f := eCall pTuple (aCons (nOwn (nLc (itSeq (eVar 5)) (gxName 7) tYesX (eOp pSub (eOp pAdd (eLenV 5) (eC (.int 1))) (eVar 7)) [7])) aNil)) (i := 5) (Γ := [s0, .val (.tuple (TT (Om.parts o))), s2, s3, s4, s5, .no, .no]) (Om.parts o) (fun p => T (Om.mir p)) (by simp) hfr (fun p hp => by
      have := ei p (p1 p hp) s0 (.val (.tuple (TT (Om.parts o)))) s2 s3 s4 .no
      simp [this]) (by omega)
    rw [this]
    simp
  have nb : ¬ (1 < (Om.parts o).length ∧ 1 < (Om.skewParts o).length) := fun h => Om.not_both k h.1 h.2
  have hP1 : (TT (Om.parts o)).length = (Om.parts o).length := by simp
  have hP2 : (TT (Om.skewParts o)).length = (Om.skewParts o).length := by simp
  have hu5 : ∃ w5, w5.isOwn = false ∧ forLoop (gxName 5) (sSet 3 (nVal (eCall s_summed (aCons (eVar 3) (aCons (eVar 5) aNil))))) (TT (Om.parts o)) [.val (T o), .val (.tuple (TT (Om.parts o))), .val (.tuple (TT (Om.skewParts o))), .val (.tuple []), .val (.tuple []), .no, .no, .no] = some (.nx [.val (T o), .val (.tuple (TT (Om.parts o))), .val (.tuple (TT (Om.skewParts o))), .val (T o), .val (.tuple []), w5, .no, .no]) := by
    obtain ⟨u5, h5, l1⟩ := loop_sum (Om.parts o) [] (Om.parts_ord o k) (Om.isR_nil 1) (by rw [parts_total k]; simp; omega) (.val (T o)) (.val (.tuple (TT (Om.parts o)))) (.val (.tuple (TT (Om.skewParts o)))) (.val (T [])) .no .no .no rfl
    rw [parts_back k] at l1
    exact ⟨u5, h5, l1⟩
  obtain ⟨u5, h5, l1⟩ := hu5
  have hv5 : ∃ w5, w5.isOwn = false ∧ forLoop (gxName 5) (sSet 4 (nVal (eCall s_skew_summed (aCons (eVar 4) (aCons (eVar 5) aNil))))) (TT (Om.skewParts o)) [.val (T o), .val (.tuple (TT (Om.parts o))), .val (.tuple (TT (Om.skewParts o))), .val (T o), .val (.tuple []), u5, .no, .no] = some (.nx [.val (T o), .val (.tuple (TT (Om.parts o))), .val (.tuple (TT (Om.skewParts o))), .val (T o), .val (T o), w5, .no, .no]) := by
    obtain ⟨v5, h6, l2⟩ := loop_skew (Om.skewParts o) [] (Om.skew_ord o k) (Om.isR_nil 1) (by rw [skew_total k]; simp; omega) (.val (T o)) (.val (.tuple (TT (Om.parts o)))) (.val (.tuple (TT (Om.skewParts o)))) (.val (T o)) u5 .no .no h5
    rw [skew_back k] at l2
    exact ⟨v5, h6, l2⟩
  obtain ⟨v5, h6, l2⟩ := hv5
  have em' := em (.val (T o)) (.val (.tuple (TT (Om.skewParts o)))) (.val (T o)) (.val (T o)) v5 (by simp [freeE, h6])
  rw [← hP1, ← hP2] at nb
  clear n1 n2 n3 em ei p1 p2 hP1 hP2
  generalize TT (Om.parts o) = P at *
  generalize TT (Om.skewParts o) = Q at *
  generalize TT ((Om.parts o).map Om.mir) = M at *
  have nb1 : ∀ Γ : Z.Env, (if 1 < (o.length : Int) then (if 1 < (P.length : Int) then some (decide (1 < (Q.length : Int)), Γ) else some (false, Γ)) else some (false, Γ)) = some (false, Γ) := fun Γ => by
    by_cases h0 : 1 < (o.length : Int)
    · by_cases h : 1 < (P.length : Int)
      · rw [if_pos h0, if_pos h, decide_eq_false (fun h2 => nb ⟨by omega, by omega⟩)]
      · rw [if_pos h0, if_neg h]
    · rw [if_neg h0]
  simp [s_law_parts_right, runP, b_law_parts_right, envOf, e1, e2, e3, e4, e5, e6, g1, g2, gk, nb1, l1, l2, em']
end Law
set_option Elab.async false
set_option linter.all false
set_option maxRecDepth 100000
set_option maxHeartbeats 4000000
namespace Law
open PySem Z
theorem three_cases {r : Int} (h : 0 ≤ r ∧ r < 3) : r = 0 ∨ r = 1 ∨ r = 2 := by omega
abbrev lawBody : SX := (sSeq (sSet 2 (nCallL s_law_deck (aCons (eVar 0) (aCons (eVar 1) aNil))))
    (sSeq (sPar 3 4 (nVal (eCallM 2 s_law_row (aCons (eC (.int 6)) aNil))) (nVal (eCallM 2 s_law_row (aCons (eOp pIx (eLst (aCons (eC (.int 2)) (aCons (eC (.int 6)) aNil))) (eCallM 2 s_law_take (aCons (eC (.int 2)) aNil))) aNil))))
    (sSeq (sIf (tOrX (tNotX (tTruX (eCall s_law_summed_right (aCons (eVar 3) (aCons (eVar 4) aNil))))) (tOrX (tNotX (tTruX (eCall s_law_summed_right (aCons (eTup aNil) (aCons (eVar 3) aNil))))) (tNotX (tTruX (eCall s_law_summed_right (aCons (eVar 3) (aCons (eTup aNil) aNil))))))) (sRet (eC (.bool false))) sNext)
    (sSeq (sSet 5 (nVal (eOp pIx (eLst (aCons (eCall s_law_sum (aCons (eVar 3) (aCons (eVar 4) aNil))) (aCons (eCall s_law_skew_sum (aCons (eVar 3) (aCons (eVar 4) aNil))) (aCons (eCallM 2 s_law_row (aCons (eC (.int 12)) aNil)) aNil)))) (eCallM 2 s_law_take (aCons (eC (.int 3)) aNil)))))
    (sIf (tOrX (tNotX (tTruX (eCall s_law_parts_right (aCons (eVar 5) aNil)))) (tNotX (tTruX (eCall s_law_parts_right (aCons (eVar 3) aNil))))) (sRet (eC (.bool false))) sNext)))))
theorem body_eq (ns : List Int) (x : Int) (hx : 0 ≤ x ∧ x < 1000) (s2 s3 s4 s5 : Slot) : ∃ t2 t3 t4 t5, lawBody [.val (.list (ns.map .int)), .val (.int x), s2, s3, s4, s5] = some (.nx [.val (.list (ns.map .int)), .val (.int x), t2, t3, t4, t5]) := by
  obtain ⟨cs, d1, d2⟩ := deck_eq ns x hx
  obtain ⟨a, cs2, r1, r2, r3, r4⟩ := row_eq cs d2 6 (by omega)
  obtain ⟨p, q, rfl, hq⟩ := r2
  obtain ⟨w, p1, q1, t1, t2, t3⟩ := take_eq p q 2 hq (by omega)
  have hb : ∃ m : Nat, m ≤ 6 ∧ ((PyData.int w = .int 0 ∧ m = 2) ∨ (PyData.int w = .int 1 ∧ m = 6)) := by
    rcases two_cases t2 with e | e
    · exact ⟨2, by omega, .inl ⟨by rw [e], rfl⟩⟩
    · exact ⟨6, by omega, .inr ⟨by rw [e], rfl⟩⟩
  obtain ⟨m, hm, hwm⟩ := hb
  obtain ⟨b, cs3, u1, u2, u3, u4⟩ := row_eq [.int p1, .int q1] ⟨p1, q1, rfl, t3⟩ m (by omega)
  obtain ⟨c, cs4, v1, v2, v3, v4⟩ := row_eq cs3 u2 12 (by omega)
  obtain ⟨p2, q2, rfl, hq2⟩ := v2
  obtain ⟨z, p3, q3, w1, w2, w3⟩ := take_eq p2 q2 3 hq2 (by omega)
  have s1 := summed_right_eq a b (by omega) (by omega) r3 u3
  have s2' : s_law_summed_right [.tuple [], T a] = some (.bool true) := summed_right_eq [] a (by simp) (by omega) (Om.isR_nil 1) r3
  have s3' : s_law_summed_right [T a, .tuple []] = some (.bool true) := summed_right_eq a [] (by omega) (by simp) r3 (Om.isR_nil 1)
  have q1' := law_sum_eq a b (by omega) (by omega)
  have q2' := law_skew_sum_eq a b (by omega) (by omega)
  have x1 := parts_right_eq a (by omega) r3
  have x2 := parts_right_eq (Om.summed a b) (by simp [Om.summed]; omega) (Om.summed_ord r3 u3)
  have x3 := parts_right_eq (Om.skewSummed a b) (by simp [Om.skewSummed]; omega) (Om.skewSummed_ord r3 u3)
  have x4 := parts_right_eq c (by omega) v3
  simp at r1 v1
  rcases hwm with ⟨e, rfl⟩ | ⟨e, rfl⟩
  · obtain rfl := PyData.int.inj e
    simp at u1
    rcases three_cases w2 with e | e | e
    · subst e
      refine ⟨.own [.int p3, .int q3], .val (T a), .val (T b), .val (T (Om.summed a b)), ?_⟩
      simp [lawBody, d1, r1, t1, u1, v1, w1, s1, s2', s3', q1', q2', x1, x2, L2.ixN]
    · subst e
      refine ⟨.own [.int p3, .int q3], .val (T a), .val (T b), .val (T (Om.skewSummed a b)), ?_⟩
      simp [lawBody, d1, r1, t1, u1, v1, w1, s1, s2', s3', q1', q2', x1, x3, L2.ixN]
    · subst e
      refine ⟨.own [.int p3, .int q3], .val (T a), .val (T b), .val (T c), ?_⟩
      simp [lawBody, d1, r1, t1, u1, v1, w1, s1, s2', s3', q1', q2', x1, x4, L2.ixN]
  · obtain rfl := PyData.int.inj e
    simp at u1
    rcases three_cases w2 with e | e | e
    · subst e
      refine ⟨.own [.int p3, .int q3], .val (T a), .val (T b), .val (T (Om.summed a b)), ?_⟩
      simp [lawBody, d1, r1, t1, u1, v1, w1, s1, s2', s3', q1', q2', x1, x2, L2.ixN]
    · subst e
      refine ⟨.own [.int p3, .int q3], .val (T a), .val (T b), .val (T (Om.skewSummed a b)), ?_⟩
      simp [lawBody, d1, r1, t1, u1, v1, w1, s1, s2', s3', q1', q2', x1, x3, L2.ixN]
    · subst e
      refine ⟨.own [.int p3, .int q3], .val (T a), .val (T b), .val (T c), ?_⟩
      simp [lawBody, d1, r1, t1, u1, v1, w1, s1, s2', s3', q1', q2', x1, x4, L2.ixN]
theorem main (ns : List Int) (hl : ns.length ≤ 63) : s_law [.list (ns.map .int)] = some (.bool true) := by
  obtain ⟨n, hn, hn2⟩ : ∃ n : Int, n = (if (if (10 : Int) < ns.length then 10 else (ns.length : Int)) > 2 then (if (10 : Int) < ns.length then 10 else (ns.length : Int)) else 2) ∧ 0 ≤ n ∧ n ≤ 10 := ⟨_, rfl, by
    by_cases h1 : (10 : Int) < ns.length
    · rw [if_pos h1, if_pos (by omega)]; omega
    · rw [if_neg h1]
      by_cases h2 : (ns.length : Int) > 2
      · rw [if_pos h2]; omega
      · rw [if_neg h2]; omega⟩
  have hr := range1 n (by omega)
  obtain ⟨Γ', h1, h2⟩ := forLoop_ints (g := gxName 1) (b := lawBody)
    (fun pre Γ => ∃ s1 s2 s3 s4 s5, Γ = [.val (.list (ns.map .int)), s1, s2, s3, s4, s5]) (rgI 0 1 n.toNat)
    (fun pre x post Γ e ⟨s1, s2, s3, s4, s5, hΓ⟩ => by
      obtain ⟨hx, _, hpl⟩ := rg_split e
      subst hΓ
      obtain ⟨t2, t3, t4, t5, h⟩ := body_eq ns x (by omega) s2 s3 s4 s5
      exact ⟨_, _, rfl, .inl h, _, _, _, _, _, rfl⟩)
    (Γ := [.val (.list (ns.map .int)), .no, .no, .no, .no, .no]) ⟨_, _, _, _, _, rfl⟩
  have e0 : b_law = sSeq (sFor (itRange (aCons (eCall pMax2 (aCons (eC (.int 2)) (aCons (eCall pMin2 (aCons (eLenV 0) (aCons (eC (.int 10)) aNil))) aNil))) aNil)) (gxName 1) lawBody) (sRet (eC (.bool true))) := rfl
  have e1 : (sFor (itRange (aCons (eCall pMax2 (aCons (eC (.int 2)) (aCons (eCall pMin2 (aCons (eLenV 0) (aCons (eC (.int 10)) aNil))) aNil))) aNil)) (gxName 1) lawBody) [.val (.list (ns.map .int)), .no, .no, .no, .no, .no] = some (.nx Γ') := by
    rw [z_for, ← h1]
    have : itRange (aCons (eCall pMax2 (aCons (eC (.int 2)) (aCons (eCall pMin2 (aCons (eLenV 0) (aCons (eC (.int 10)) aNil))) aNil))) aNil) [.val (.list (ns.map .int)), .no, .no, .no, .no, .no] = some ((rgI 0 1 n.toNat).map .int, [.val (.list (ns.map .int)), .no, .no, .no, .no, .no]) := by
      rw [hn] at hr ⊢
      simp only [z_itrange, z_acons, z_c, z_call, z_lenv, z_anil, Option.bind_some, List.getElem?_cons_zero, z_plenL, List.length_map, z_min2, z_max2, hr]
    rw [this, Option.bind_some]
  simp only [s_law, runP, e0]
  simp [-z_for, envOf, e1]
end Law
open PySem PySem.W PyProof.Rows
set_option maxHeartbeats 0 in
theorem PySem.Challenge.cw_wholeorders_k04_whole_sums_and_parts_holds : PySem.Challenge.rw_wholeorders_k04_whole_sums_and_parts.Holds := by
  w_on; o_law; k_head; (case hw => w_witness2)
  k_fill
  refine L2.walk_of (l := PySem.Challenge.rw_wholeorders_k04_whole_sums_and_parts) (n := 63) (k := 43) (x := "script") (CX := fun _ => L2.CX0) (sp := fun w => Z.spLaw _) rfl (by decide) rfl ⟨rfl, by decide, by decide⟩ (fun w h Y => PySem.W.kIn_of Y) ?F (fun _ _ a ns hl _ hS => ⟨a, ns, rfl, hS, hl, fun _ => rfl⟩) (fun _ _ _ _ _ h => h)
  case F =>
    intro w mg fa h KX G hmg
    refine' Law.all_mk Law.main KX G hmg ?a0 ?l0 ?c0 ?k0 ?a1 ?l1 ?c1 ?k1 ?a2 ?l2 ?c2 ?k2 ?a3 ?l3 ?c3 ?k3 ?a4 ?l4 ?c4 ?k4 ?a5 ?l5 ?c5 ?k5 ?a6 ?l6 ?c6 ?k6 ?a7 ?l7 ?c7 ?k7 ?a8 ?l8 ?c8 ?k8 ?a9 ?l9 ?c9 ?k9 ?a10 ?l10 ?c10 ?k10 ?a11 ?l11 ?c11 ?k11 ?a12 ?l12 ?c12 ?k12 ?a13 ?l13 ?c13 ?k13 ?a14 ?l14 ?c14 ?k14 ?a15 ?l15 ?c15 ?k15 ?a16 ?l16 ?c16 ?k16 ?a17 ?l17 ?c17 ?k17 ?a18 ?l18 ?c18 ?k18 ?a19 ?l19 ?c19 ?k19 ?a20 ?l20 ?c20 ?k20 ?a21 ?l21 ?c21 ?k21 ?a22 ?l22 ?c22 ?k22 ?z_bool ?z_enumerate ?z_int ?z_isinstance ?z_len ?z_list ?z_max ?z_min ?z_range ?z_sorted ?z_str ?z_sum ?z_tuple
    (case a0 => k_is)
    (case l0 => k_is)
    (case c0 => k_is)
    (case k0 => k_is)
    (case a1 => k_is)
    (case l1 => k_is)
    (case c1 => k_is)
    (case k1 => k_is)
    (case a2 => k_is)
    (case l2 => k_is)
    (case c2 => k_is)
    (case k2 => k_is)
    (case a3 => k_is)
    (case l3 => k_is)
    (case c3 => k_is)
    (case k3 => k_is)
    (case a4 => k_is)
    (case l4 => k_is)
    (case c4 => k_is)
    (case k4 => k_is)
    (case a5 => k_is)
    (case l5 => k_is)
    (case c5 => k_is)
    (case k5 => k_is)
    (case a6 => k_is)
    (case l6 => k_is)
    (case c6 => k_is)
    (case k6 => k_is)
    (case a7 => k_is)
    (case l7 => k_is)
    (case c7 => k_is)
    (case k7 => k_is)
    (case a8 => k_is)
    (case l8 => k_is)
    (case c8 => k_is)
    (case k8 => k_is)
    (case a9 => k_is)
    (case l9 => k_is)
    (case c9 => k_is)
    (case k9 => k_is)
    (case a10 => k_is)
    (case l10 => k_is)
    (case c10 => k_is)
    (case k10 => k_is)
    (case a11 => k_is)
    (case l11 => k_is)
    (case c11 => k_is)
    (case k11 => k_is)
    (case a12 => k_is)
    (case l12 => k_is)
    (case c12 => k_is)
    (case k12 => k_is)
    (case a13 => k_is)
    (case l13 => k_is)
    (case c13 => k_is)
    (case k13 => k_is)
    (case a14 => k_is)
    (case l14 => k_is)
    (case c14 => k_is)
    (case k14 => k_is)
    (case a15 => k_is)
    (case l15 => k_is)
    (case c15 => k_is)
    (case k15 => k_is)
    (case a16 => k_is)
    (case l16 => k_is)
    (case c16 => k_is)
    (case k16 => k_is)
    (case a17 => k_is)
    (case l17 => k_is)
    (case c17 => k_is)
    (case k17 => k_is)
    (case a18 => k_is)
    (case l18 => k_is)
    (case c18 => k_is)
    (case k18 => k_is)
    (case a19 => k_is)
    (case l19 => k_is)
    (case c19 => k_is)
    (case k19 => k_is)
    (case a20 => k_is)
    (case l20 => k_is)
    (case c20 => k_is)
    (case k20 => k_is)
    (case a21 => k_is)
    (case l21 => k_is)
    (case c21 => k_is)
    (case k21 => k_is)
    (case a22 => k_is)
    (case l22 => k_is)
    (case c22 => k_is)
    (case k22 => k_is)
    (case z_bool => k_is)
    (case z_enumerate => k_is)
    (case z_int => k_is)
    (case z_isinstance => k_is)
    (case z_len => k_is)
    (case z_list => k_is)
    (case z_max => k_is)
    (case z_min => k_is)
    (case z_range => k_is)
    (case z_sorted => k_is)
    (case z_str => k_is)
    (case z_sum => k_is)
    (case z_tuple => k_is)
