import PyProof.Rows.All
import Wide.All
import OpenK.AllK
import Wide.FinOn
import HandS.Base
import HandS.Call
import HandS.List
import HandS.TupAny
import KE.KIndexOf
import KE.Datum
import HandS.Comp
import HandS.Ends
import HandS.Dict
import HandS.Iter
import HandS.Text
import HandS.More
import HandS.Words
import HandS.Evl
import HandS.Conv
import HandS.SortInts
import HandS.Wide
import HandS.IsInst
import HandS.Style
import HandS.Walk
import PyProof.Draws
import KE.GoesEnum
import KE.IntBitsLaws
import HandS.Flow
import HandS.DictComp
import PyProof.AutoSeq1
import HandS.IterVal
import HandS.NoneIn
import HandS.SetFor
import KE.DataFind
import KE.KDictKeyed
import HandS.TupLen
import KE.SortData
import KE.KDictWalk
import KE.KDictSum
import KE.SortKeyHeap
import HandS.SortKw
import PySem.Challenge.RW_wholeorders_k14_whole_lists_turned_about
set_option Elab.async false
set_option linter.all false
set_option maxRecDepth 100000
set_option maxHeartbeats 2000000
/-! Z: new tuples, known to have no dict of their own; their methods -/
namespace Z
open PySem PySem.Spec PyProof.Rows L2
/-- a plain tuple object -/
def Dl (o : Obj) : Prop := o.cls = .type "tuple" ∧ o.dict = none
/-- a new plain tuple -/
def NewT (H : Hp) (xs : List V) (Q : VK) : Prop := ∀ p o, H p = none → Dl o → Q (.ref p) (upd H p (.frz o (.tup xs)))
theorem newT_of {X : Cx} {pins : List (Addr × Obj)} {σ : L2.St} {H : Hp} {s : Shared} {h : Heap} {tk : Nat} {xs : List V} {its : List Value} {Q : VK} (I : Inv X pins σ H { s with heap := h, toks := tk }) (hz : xs.length ≤ sizeLine) (r : Vals xs its) (q : NewT H xs Q) :
    L2.EP X pins σ Q (.ref h.objs.size) { s with heap := h.push { cls := .type "tuple", data := .seq its.toArray }, toks := tk } := by
  have ob : (h.push { cls := .type "tuple", data := .seq its.toArray }).get? h.objs.size = some { cls := .type "tuple", data := .seq its.toArray } := Heap.get?_push_size _ rfl
  have ok : ObjOk X.prog X.w (upd H h.objs.size (.frz { cls := .type "tuple", data := .seq its.toArray } (.tup xs))) (h.push { cls := .type "tuple", data := .seq its.toArray }) h.objs.size (.frz { cls := .type "tuple", data := .seq its.toArray } (.tup xs)) :=
    ⟨ob, hz, its, r, _, ob, rfl, _, rfl⟩
  have I1 := I.laid (t' := tk) (a := h.objs.size) (fun b u e => Heap.get?_push_of_some _ e) (Nat.le_refl _) ok
  exact ⟨.ref h.objs.size, _, I1, rfl, q _ _ (I.hok.fresh (Nat.le_refl _)) ⟨rfl, rfl⟩⟩
def tTupF (t : TA) : TE := fun σ H Q => t σ H fun xs H1 => xs.length ≤ sizeLine ∧ NewT H1 xs Q
section
variable {X : Cx} {pos : Pos}
theorem pe_tupF {es : List Expr} {x1} {t : TA} (h : PA X es t) : PE X (.Tuple es x1 pos) (tTupF t) := by
  refine ⟨fun pins s σ H Q I hq => wpAny_Tuple_spliced (thn (h.run pos pins s σ H _ I hq) fun us s1 ⟨xs, H1, I1, r, z, q⟩ => ⟨by rw [← r.length]; exact z, ?_⟩)⟩
  exact newT_of (h := s1.heap) (tk := s1.toks) I1 z r q
def rTupF (K : PySem.W.Frag) : List V → Hp → VK → Prop := fun xs H Q => ∃ p ys, xs = [.ref p] ∧ ((SqL K H p ys ∧ NewT H ys Q) ∨ (SqT K H p ys ∧ Q (.ref p) H))
theorem call_tupleF : CallR X (.type "tuple") (rTupF X.K) := by
  intro pins s σ H xs us Q I r h
  obtain ⟨p, ys, rfl, h⟩ := h
  obtain ⟨u, rfl, rx⟩ := vals1 r
  cases rx
  rcases h with ⟨hq, q⟩ | ⟨hq, q⟩
  · obtain ⟨its, rv, pl, hz⟩ := I.list hq
    have hlen := rv.length
    exact call_tuple_list pl.isList (fun h' kp => newT_of (h := h') (tk := s.toks) (I.kept (t' := s.toks) kp) hz rv q) (by simp only [List.size_toArray] <;> omega)
  · obtain ⟨its, rv, pl, hz⟩ := I.tuple hq
    exact call_tuple_same pl ⟨.ref p, H, I, rfl, q⟩
def rCatF (K : PySem.W.Frag) : R2 := fun x y H Q => ∃ a b xs ys, x = .ref a ∧ y = .ref b ∧ SqT K H a xs ∧ SqT K H b ys ∧ xs.length + ys.length ≤ sizeLine ∧
  (xs = [] → Q (.ref b) H) ∧ (xs ≠ [] → ys = [] → Q (.ref a) H) ∧ (xs ≠ [] → ys ≠ [] → NewT H (xs ++ ys) Q)
theorem op_catF : OpR X (binaryOp .Add) (rCatF X.K) := by
  intro pins s σ H x y v u Q I rx ry h
  obtain ⟨a, b, xs, ys, rfl, rfl, ha, hb, hz, q0, q1, q2⟩ := h
  cases rx
  cases ry
  obtain ⟨its, r1, p1, _⟩ := I.tuple ha
  obtain ⟨its2, r2, p2, _⟩ := I.tuple hb
  by_cases hx : xs = []
  · subst hx
    cases r1
    exact cat_tup0 p1 p2 ⟨.ref b, H, I, rfl, q0 rfl⟩
  · exact HT.cat_tup p1 p2 (fun z => hx (r1.nil_iff.mp z)) (fun z => ⟨.ref a, H, I, rfl, q1 hx (r2.nil_iff.mp z)⟩)
      (fun z => newT_of (h := s.heap) (tk := s.toks) I (by rw [List.length_append]; exact hz) (r1.append r2) (q2 hx fun w => z (r2.nil_iff.mpr w))) (by rw [← r1.length, ← r2.length]; exact hz)
def rSlF (K : PySem.W.Frag) : V → Option Int → Option Int → Hp → VK → Prop := fun x lo hi H Q => ∃ a xs, x = .ref a ∧ SqT K H a xs ∧
  (HT.sIx xs.length 0 lo = 0 ∧ HT.sIx xs.length xs.length hi = xs.length → Q (.ref a) H) ∧ (¬ (HT.sIx xs.length 0 lo = 0 ∧ HT.sIx xs.length xs.length hi = xs.length) → NewT H (cutV xs lo hi) Q)
theorem sl_tupF : SlR X (rSlF X.K) := by
  intro pins s σ H x v vl vu lo hi sl Q I rx hs pl pu h
  obtain ⟨a, xs, rfl, hx, q1, q2⟩ := h
  cases rx
  obtain ⟨its, r, ht, hz⟩ := I.tuple hx
  have hlen : its.toArray.size = xs.length := by rw [List.size_toArray]; exact r.length.symm
  refine ⟨"tuple", _, PyProof.Rows.slot_tuple_getitem.lookup, ht.typeIs, ?_⟩
  by_cases hw : HT.sIx xs.length 0 lo = 0 ∧ HT.sIx xs.length xs.length hi = xs.length
  · exact getItem_tuple_whole ht hs pl pu (by rw [hlen]; exact hw) ⟨.ref a, H, I, rfl, q1 hw⟩
  · refine HT.getItem_tuple_cut ht hs pl pu (by rw [hlen]; exact hw) ?_ (by rw [hlen]; exact hz)
    rw [hlen]
    exact newT_of (h := s.heap) (tk := s.toks) I (Nat.le_trans (cutV_length xs lo hi) hz) ((r.drop (HT.sIx xs.length 0 lo)).take (HT.sIx xs.length xs.length hi - HT.sIx xs.length 0 lo)) (q2 hw)
end
/-! ### methods of plain tuples -/
/-- all written tuples are plain -/
def KT (K : PySem.W.Frag) : Prop := ∀ a o, K.lookup a = some o → o.cls = .type "tuple" → o.dict = none
def PlT (K : PySem.W.Frag) (H : Hp) (a : Addr) (xs : List V) : Prop := (∃ o, H a = some (.frz o (.tup xs)) ∧ Dl o) ∨ ∃ (o : Obj) (its : Array Value) (n : Nat), K.lookup a = some o ∧ o.cls = .type "tuple" ∧ o.dict = none ∧ o.data = .seq its n ∧ its.size ≤ sizeLine ∧ Vals xs its.toList
theorem PlT.sq {K : PySem.W.Frag} {H : Hp} {a : Addr} {xs : List V} (h : PlT K H a xs) : SqT K H a xs := by
  rcases h with ⟨o, h, _⟩ | ⟨o, its, n, h1, h2, _, h3, h4, h5⟩
  · exact .inl (.inr ⟨o, h⟩)
  · exact .inr ⟨o, its, n, h1, h2, h3, h4, h5⟩
theorem PlT.ob {X : Cx} {pins : List (Addr × Obj)} {σ : L2.St} {H : Hp} {s : Shared} {a : Addr} {xs : List V} (I : Inv X pins σ H s) (h : PlT X.K H a xs) : s.TypeIs (.ref a) "tuple" ∧ ∀ b, Value.ref a = .ref b → ∃ ob, s.heap.get? b = some ob ∧ ob.dict = none := by
  rcases h with ⟨o, h, hd⟩ | ⟨o, its, n, h1, h2, h0, _⟩
  · obtain ⟨e, _⟩ := I.hok a _ h
    exact ⟨⟨o, e, hd.1⟩, fun b eb => by cases eb; exact ⟨o, e, hd.2⟩⟩
  · have e := I.kIn a o h1
    exact ⟨⟨o, e, h2⟩, fun b eb => by cases eb; exact ⟨o, e, h0⟩⟩
/-- t.m(e), t a plain tuple -/
def tTM (K : PySem.W.Frag) (r : V → List V → Hp → VK → Prop) (to : TE) (t : TA) : TE := fun σ H Q => to σ H fun x H1 => (∃ a ys, x = .ref a ∧ PlT K H1 a ys) ∧ t σ H1 fun xs H2 => r x xs H2 Q
section
variable {X : Cx} {o e : Expr} {es : List Expr} {to : TE} {t : TA} {name : Str} {apos cpos : Pos} {id : String} {r : V → List V → Hp → VK → Prop}
theorem pe_tm (pa : PlainAttrs "tuple") (slot : Slot "tuple" name id) (hty : typeOf (.builtin id) = pure (.type "method_descriptor")) (hm : MtR X id r) (ho : PE X o to) (ha : PA X (e :: es) t)
    (hbase : attributeBase o name X.env (eval o X.env) = eval o X.env := by rfl)
    (hfew : ((backTo cpos (starEach (e :: es) X.env)).all (fun x => !x.1) && (backToKw cpos (keywordEach [] X.env)).all (fun x => x.1.isSome) && decide ((e :: es).length + ([] : List Keyword).length + (if ([] : List Keyword).isEmpty then 0 else 1) < 30)) = true := by rfl)
    (hline : (apos.endLine == cpos.line) = true := by rfl) (hs : starEach (e :: es) X.env = (false, eval e X.env) :: starEach es X.env := by rfl) (hplain : (backTo cpos (starEach es X.env)).any (·.1) = false := by rfl) :
    PE X (.Call (.Attribute o name apos) (e :: es) [] cpos) (tTM X.K r to t) := by
  refine ⟨fun pins s σ H Q I h => wpAny_Call_method_late hbase hfew hline rfl (thn (ho.run pins s σ H _ I h) fun v s1 ⟨x, H1, I1, r1, ⟨a, ys, ex, pt⟩, q1⟩ => ?_)⟩
  subst ex
  cases r1
  obtain ⟨h1, h2⟩ := pt.ob I1
  refine ⟨"tuple", id, pa, slot, hty, h1, h2, ?_⟩
  have hA := ha.run cpos pins s1 σ H1 _ I1 q1
  rw [hs] at hA ⊢
  exact Calls.callWith_builtin (by show (false || (backTo cpos (starEach es X.env)).any (·.1)) = false; rw [hplain] <;> rfl) (Calls.evalArgs_plain (thn hA fun us s2 ⟨vs, H2, I2, r2, q2⟩ => hm pins s2 σ H2 (.ref a) vs (.ref a) us Q I2 rfl r2 q2))
end
end Z
set_option Elab.async false
set_option linter.all false
set_option maxRecDepth 100000
set_option maxHeartbeats 2000000
/-! Z: a pure layer over HandS: values are PyData, a def is a plain Lean function. -/
namespace Z
open PySem L2 Evl PyProof.Rows

/-! ### data over a heap that grows -/
mutual
theorem dp_mono {K : PySem.W.Frag} {F F' : Hp} (e : Ex F F') : ∀ {v : V} {d : PyData}, Dp K F v d → Dp K F' v d
  | _, _, .non => .non
  | _, _, .bl b => .bl b
  | _, _, .int i => .int i
  | _, _, .str x => .str x
  | _, _, .lst h r => .lst (ex_l e h) (dpa_mono e r)
  | _, _, .tup h r => .tup (ex_t e h) (dpa_mono e r)
theorem dpa_mono {K : PySem.W.Frag} {F F' : Hp} (e : Ex F F') : ∀ {vs : List V} {ds : List PyData}, DpAll K F vs ds → DpAll K F' vs ds
  | _, _, .nil => .nil
  | _, _, .cons h r => .cons (dp_mono e h) (dpa_mono e r)
end
theorem dpa_len {K : PySem.W.Frag} {F : Hp} : ∀ {vs : List V} {ds : List PyData}, DpAll K F vs ds → vs.length = ds.length
  | _, _, .nil => rfl
  | _, _, .cons _ r => by simp [dpa_len r]
theorem dpa_get {K : PySem.W.Frag} {F : Hp} : ∀ {vs : List V} {ds : List PyData} {i : Nat} {d : PyData}, DpAll K F vs ds → ds[i]? = some d → ∃ v, vs[i]? = some v ∧ Dp K F v d
  | _, _, _, _, .nil, e => by simp at e
  | _, _, 0, _, .cons h _, e => by simp at e; subst e; exact ⟨_, rfl, h⟩
  | _, _, i + 1, d, .cons _ r, e => by
    obtain ⟨v, h1, h2⟩ := dpa_get (i := i) (d := d) r (by simpa using e)
    exact ⟨v, by simpa using h1, h2⟩
theorem dpa_get' {K : PySem.W.Frag} {F : Hp} : ∀ {vs : List V} {ds : List PyData} {i : Nat} {v : V}, DpAll K F vs ds → vs[i]? = some v → ∃ d, ds[i]? = some d ∧ Dp K F v d
  | _, _, _, _, .nil, e => by simp at e
  | _, _, 0, _, .cons h _, e => by simp at e; subst e; exact ⟨_, rfl, h⟩
  | _, _, i + 1, d, .cons _ r, e => by
    obtain ⟨v, h1, h2⟩ := dpa_get' (i := i) (v := d) r (by simpa using e)
    exact ⟨v, by simpa using h1, h2⟩
theorem dpa_app {K : PySem.W.Frag} {F : Hp} : ∀ {vs ws : List V} {ds es : List PyData}, DpAll K F vs ds → DpAll K F ws es → DpAll K F (vs ++ ws) (ds ++ es)
  | _, _, _, _, .nil, s => s
  | _, _, _, _, .cons h r, s => .cons h (dpa_app r s)
theorem dpa_take {K : PySem.W.Frag} {F : Hp} : ∀ {vs : List V} {ds : List PyData} (n : Nat), DpAll K F vs ds → DpAll K F (vs.take n) (ds.take n)
  | _, _, 0, _ => .nil
  | _, _, _ + 1, .nil => .nil
  | _, _, n + 1, .cons h r => .cons h (dpa_take n r)
theorem dpa_drop {K : PySem.W.Frag} {F : Hp} : ∀ {vs : List V} {ds : List PyData} (n : Nat), DpAll K F vs ds → DpAll K F (vs.drop n) (ds.drop n)
  | _, _, 0, r => r
  | _, _, _ + 1, .nil => .nil
  | _, _, n + 1, .cons _ r => dpa_drop n r
theorem dpa_rev {K : PySem.W.Frag} {F : Hp} : ∀ {vs : List V} {ds : List PyData}, DpAll K F vs ds → DpAll K F vs.reverse ds.reverse
  | _, _, .nil => .nil
  | _, _, .cons h r => by rw [List.reverse_cons, List.reverse_cons]; exact dpa_app (dpa_rev r) (.cons h .nil)
theorem dpa_set {K : PySem.W.Frag} {F : Hp} {v : V} {d : PyData} (h : Dp K F v d) : ∀ {vs : List V} {ds : List PyData} (i : Nat), DpAll K F vs ds → DpAll K F (vs.set i v) (ds.set i d)
  | _, _, _, .nil => .nil
  | _, _, 0, .cons _ r => .cons h r
  | _, _, i + 1, .cons q r => .cons q (dpa_set h i r)
theorem dpa_ints {K : PySem.W.Frag} {F : Hp} : ∀ (ns : List Int), DpAll K F (ns.map V.int) (ns.map PyData.int)
  | [] => .nil
  | n :: r => .cons (.int n) (dpa_ints r)
theorem dpa_ints_of {K : PySem.W.Frag} {F : Hp} : ∀ {ns : List Int} {vs : List V}, DpAll K F vs (ns.map PyData.int) → vs = ns.map V.int
  | [], _, .nil => rfl
  | n :: r, _, .cons (.int _) h => by rw [dpa_ints_of h]; rfl

/-! ### slots, environments -/
inductive Slot where
  | no
  | val (d : PyData)
  | own (ds : List PyData)
  | par (ds : List PyData)
  /-- a dict that changes no more -/
  | dic (kvs : List (Key × PyData))
  /-- a dict of one's own, whose keys are tuples of ints and such tuples -/
  | od (kvs : List (PySem.NestedKey × PyData))
  /-- such a dict that changes no more -/
  | fd (kvs : List (PySem.NestedKey × PyData))
abbrev Env := List Slot
def Slot.isOwn : Slot → Bool
  | .own _ => true
  | .par _ => true
  | .od _ => true
  | _ => false

/-- how a call began: what was known, the heap, what the call may change -/
structure Bs where
  F0 : Hp
  H0 : Hp
  /-- what may be changed, must be handed back; what may be changed and taken -/
  M : Addr → Prop
  Z : Addr → Prop
/-- what F may know: lists, tuples, locked lists -/
def PlO : HO → Prop
  | .lst _ => True
  | .frz o (.tup _) => Dl o
  | .frz _ (.lst _) => True
  | .dK _ => True
  | .ext _ => True
  | _ => False
def Pl (F : Hp) : Prop := ∀ b o, F b = some o → PlO o
theorem Pl.upd {F : Hp} {p : Addr} {o : HO} (h : Pl F) (ho : PlO o) : Pl (upd F p o) := fun b u e => by
  by_cases hb : b = p
  · subst hb; rw [upd_same] at e; cases e; exact ho
  · rw [upd_ne hb] at e; exact h b u e

theorem st_frz {K : PySem.W.Frag} {H : Hp} {a : Addr} {o : Obj} {xs : List V} (h : H a = some (.frz o (.tup xs))) : SqT K H a xs := .inl (.inr ⟨o, h⟩)
/-- a dict's entries -/
inductive KvAll (K : PySem.W.Frag) (F : Hp) : List (Key × V) → List (Key × PyData) → Prop
  | nil : KvAll K F [] []
  | cons {k : Key} {v : V} {d : PyData} {ws : List (Key × V)} {kvs : List (Key × PyData)} (h : Dp K F v d) (r : KvAll K F ws kvs) : KvAll K F ((k, v) :: ws) ((k, d) :: kvs)
theorem kva_mono {K : PySem.W.Frag} {F F' : Hp} (e : Ex F F') : ∀ {ws : List (Key × V)} {kvs : List (Key × PyData)}, KvAll K F ws kvs → KvAll K F' ws kvs
  | _, _, .nil => .nil
  | _, _, .cons h r => .cons (dp_mono e h) (kva_mono e r)
/-- a key as a datum: a tuple of ints and such tuples -/
def keyN : PyData → Option PySem.NestedKey
  | .int i => some (.num i)
  | .tuple xs => (keyNs xs).map .tup
  | _ => none
where keyNs : List PyData → Option (List PySem.NestedKey)
  | [] => some []
  | x :: xs => (keyN x).bind fun k => (keyNs xs).map (k :: ·)
def keyT : PyData → Option PySem.NestedKey
  | .tuple xs => (keyN (.tuple xs)).bind fun k => if k.depth ≤ 8 then some k else none
  | _ => none
/-- a dict with these keys (and where they stand) and values -/
def odHO (a : Addr) (ws : List (PySem.NestedKey × Addr × V)) : HO := .ext fun h => (a == sysModules) = false ∧ ws.length ≤ sizeLine ∧ (ws.map (·.1)).Nodup ∧ ∃ xs : List (PySem.NestedKey × Addr × Value), Paired (fun p q => p.1 = q.1 ∧ p.2.1 = q.2.1 ∧ RelV p.2.2 q.2.2) ws xs ∧
  ∃ o es ep, h.get? a = some o ∧ o.ExactDict ∧ o.data = .dict es ep ∧ ∀ w : World, es.toList = xs.map fun x => ⟨x.1.hash w, .ref x.2.1, x.2.2⟩
inductive OdAll (K : PySem.W.Frag) (F : Hp) : List (PySem.NestedKey × Addr × V) → List (PySem.NestedKey × PyData) → Prop
  | nil : OdAll K F [] []
  | cons {k : PySem.NestedKey} {b : Addr} {v : V} {kd d : PyData} {ws : List (PySem.NestedKey × Addr × V)} {kvs : List (PySem.NestedKey × PyData)} (hk : Dp K F (.ref b) kd) (ek : keyT kd = some k) (h : Dp K F v d) (r : OdAll K F ws kvs) : OdAll K F ((k, b, v) :: ws) ((k, d) :: kvs)
theorem od_mono {K : PySem.W.Frag} {F F' : Hp} (e : Ex F F') : ∀ {ws : List (PySem.NestedKey × Addr × V)} {kvs : List (PySem.NestedKey × PyData)}, OdAll K F ws kvs → OdAll K F' ws kvs
  | _, _, .nil => .nil
  | _, _, .cons hk ek h r => .cons (dp_mono e hk) ek (dp_mono e h) (od_mono e r)
def SlotOk (K : PySem.W.Frag) (B : Bs) (F H : Hp) : Slot → Option (Option V) → Prop
  | .no, _ => True
  | .val d, o => ∃ v, o = some (some v) ∧ Dp K F v d
  | .own ds, o => ∃ a vs, o = some (some (.ref a)) ∧ F a = none ∧ (B.H0 a = none ∨ B.Z a) ∧ H a = some (.lst vs) ∧ DpAll K F vs ds
  | .par ds, o => ∃ a vs, o = some (some (.ref a)) ∧ F a = none ∧ B.M a ∧ H a = some (.lst vs) ∧ DpAll K F vs ds
  | .dic kvs, o => ∃ a ws, o = some (some (.ref a)) ∧ F a = some (.dK ws) ∧ KvAll K F ws kvs
  | .fd kvs, o => ∃ a ws, o = some (some (.ref a)) ∧ F a = some (odHO a ws) ∧ OdAll K F ws kvs
  | .od kvs, o => ∃ a ws, o = some (some (.ref a)) ∧ F a = none ∧ (B.H0 a = none ∨ B.Z a) ∧ H a = some (odHO a ws) ∧ OdAll K F ws kvs

structure Rel (K : PySem.W.Frag) (B : Bs) (Γ : Env) (F : Hp) (σ : L2.St) (H : Hp) : Prop where
  len : σ.length = Γ.length
  slot : ∀ (i : Nat) (s : Slot), Γ[i]? = some s → SlotOk K B F H s σ[i]?
  dist : ∀ (i j : Nat) (s t : Slot) (a : Addr), i ≠ j → Γ[i]? = some s → s.isOwn = true → Γ[j]? = some t → t.isOwn = true → σ[i]? = some (some (.ref a)) → σ[j]? = some (some (.ref a)) → False
  ext0 : Ex B.F0 F
  ext : Ex F H
  frame : ∀ b o, B.H0 b = some o → ¬ B.M b → ¬ B.Z b → H b = some o
  newF : ∀ b o, F b = some o → B.F0 b = some o ∨ B.H0 b = none ∨ B.Z b
  pl : Pl F
  fresh : ∀ b, H b = none → B.H0 b = none

/-- the heap got new things, nothing else changed -/
structure Grow (F H F' H' : Hp) : Prop where
  keep : Ex H H'
  ext : Ex F F'
  ok : Ex F' H'
  new : ∀ b o, F' b = some o → F b = some o ∨ H b = none
  pl : Pl F → Pl F'
theorem Grow.refl {F H : Hp} (e : Ex F H) : Grow F H F H := ⟨Ex.refl H, Ex.refl F, e, fun _ _ h => .inl h, fun h => h⟩
theorem Grow.trans {F H F1 H1 F2 H2 : Hp} (a : Grow F H F1 H1) (b : Grow F1 H1 F2 H2) : Grow F H F2 H2 :=
  ⟨a.keep.trans b.keep, a.ext.trans b.ext, b.ok, fun x o h => by
    rcases b.new x o h with h | h
    · exact a.new x o h
    · exact .inr (fresh_back a.keep h), fun h => b.pl (a.pl h)⟩
theorem Grow.laid {F H : Hp} {p : Addr} {o : HO} (e : Ex F H) (hp : H p = none) (ho : PlO o := by trivial) : Grow F H (upd F p o) (upd H p o) := by
  refine ⟨Ex.new hp, Ex.new (fresh_back e hp), fun b u h => ?_, fun b u h => ?_, fun h => h.upd ho⟩
  · by_cases hb : b = p
    · subst hb; rw [upd_same] at h ⊢; exact h
    · rw [upd_ne hb] at h ⊢; exact e b u h
  · by_cases hb : b = p
    · subst hb; exact .inr hp
    · rw [upd_ne hb] at h; exact .inl h

section
variable {K : PySem.W.Frag} {B : Bs} {Γ Γ' : Env} {F F' H H' : Hp} {σ σ' : L2.St}
theorem Rel.grow (R : Rel K B Γ F σ H) (g : Grow F H F' H') : Rel K B Γ F' σ H' := by
  have noF : ∀ (a : Addr) {u : HO}, F a = none → H a = some u → F' a = none := fun a u h1 h2 => by
    cases q : F' a with
    | none => rfl
    | some o =>
      rcases g.new a o q with z | z
      · rw [h1] at z; cases z
      · rw [h2] at z; cases z
  refine ⟨R.len, fun i s h => ?_, R.dist, R.ext0.trans g.ext, g.ok, fun b o h hm hz => g.keep b o (R.frame b o h hm hz), fun b o h => ?_, g.pl R.pl, fun b h => R.fresh b (fresh_back g.keep h)⟩
  · have q := R.slot i s h
    cases s with
    | no => trivial
    | val d => obtain ⟨v, e, dd⟩ := q; exact ⟨v, e, dp_mono g.ext dd⟩
    | dic kvs => obtain ⟨a, ws, e, h1, h2⟩ := q; exact ⟨a, ws, e, g.ext _ _ h1, kva_mono g.ext h2⟩
    | fd kvs => obtain ⟨a, ws, e, h1, h2⟩ := q; exact ⟨a, ws, e, g.ext _ _ h1, od_mono g.ext h2⟩
    | own ds => obtain ⟨a, vs, e, h1, h2, h3, h4⟩ := q; exact ⟨a, vs, e, noF a h1 h3, h2, g.keep _ _ h3, dpa_mono g.ext h4⟩
    | od kvs => obtain ⟨a, vs, e, h1, h2, h3, h4⟩ := q; exact ⟨a, vs, e, noF a h1 h3, h2, g.keep _ _ h3, od_mono g.ext h4⟩
    | par ds => obtain ⟨a, vs, e, h1, h2, h3, h4⟩ := q; exact ⟨a, vs, e, noF a h1 h3, h2, g.keep _ _ h3, dpa_mono g.ext h4⟩
  · rcases g.new b o h with z | z
    · exact R.newF b o z
    · exact .inr (.inl (R.fresh b z))

/-- a slot gets a value -/
theorem Rel.setVal (R : Rel K B Γ F σ H) {i : Nat} {v : V} {d : PyData} (hd : Dp K F v d) : Rel K B (Γ.set i (.val d)) F (σ.set i (some v)) H := by
  refine ⟨by rw [List.length_set, List.length_set]; exact R.len, fun j s h => ?_, fun j k s t a hjk h1 h2 h3 h4 h5 h6 => ?_, R.ext0, R.ext, R.frame, R.newF, R.pl, R.fresh⟩
  · by_cases hj : i = j
    · subst hj
      have hl : i < Γ.length := by
        have := (List.getElem?_eq_some_iff.mp h).1
        rw [List.length_set] at this; exact this
      rw [List.getElem?_set_self hl] at h
      cases h
      rw [List.getElem?_set_self (by rw [R.len]; exact hl)]
      exact ⟨v, rfl, hd⟩
    · rw [List.getElem?_set_ne hj] at h
      rw [List.getElem?_set_ne hj]
      exact R.slot j s h
  · have nj : ∀ (j : Nat) (s : Slot), (Γ.set i (.val d))[j]? = some s → s.isOwn = true → i ≠ j := fun j s h q e => by
      subst e
      have hl : i < Γ.length := by
        have := (List.getElem?_eq_some_iff.mp h).1
        rw [List.length_set] at this; exact this
      rw [List.getElem?_set_self hl] at h
      cases h
      cases q
    have e1 := nj j s h1 h2
    have e2 := nj k t h3 h4
    rw [List.getElem?_set_ne e1] at h1 h5
    rw [List.getElem?_set_ne e2] at h3 h6
    exact R.dist j k s t a hjk h1 h2 h3 h4 h5 h6
/-- a slot is forgotten -/
theorem Rel.setNo (R : Rel K B Γ F σ H) {i : Nat} {o : Option V} : Rel K B (Γ.set i .no) F (σ.set i o) H := by
  refine ⟨by rw [List.length_set, List.length_set]; exact R.len, fun j s h => ?_, fun j k s t a hjk h1 h2 h3 h4 h5 h6 => ?_, R.ext0, R.ext, R.frame, R.newF, R.pl, R.fresh⟩
  · by_cases hj : i = j
    · subst hj
      have hl : i < Γ.length := by
        have := (List.getElem?_eq_some_iff.mp h).1
        rw [List.length_set] at this; exact this
      rw [List.getElem?_set_self hl] at h
      cases h
      trivial
    · rw [List.getElem?_set_ne hj] at h
      rw [List.getElem?_set_ne hj]
      exact R.slot j s h
  · have nj : ∀ (j : Nat) (s : Slot), (Γ.set i .no)[j]? = some s → s.isOwn = true → i ≠ j := fun j s h q e => by
      subst e
      have hl : i < Γ.length := by
        have := (List.getElem?_eq_some_iff.mp h).1
        rw [List.length_set] at this; exact this
      rw [List.getElem?_set_self hl] at h
      cases h
      cases q
    have e1 := nj j s h1 h2
    have e2 := nj k t h3 h4
    rw [List.getElem?_set_ne e1] at h1 h5
    rw [List.getElem?_set_ne e2] at h3 h6
    exact R.dist j k s t a hjk h1 h2 h3 h4 h5 h6
theorem Rel.setDic (R : Rel K B Γ F σ H) {i : Nat} {p : Addr} {ws : List (Key × V)} {kvs : List (Key × PyData)} (hp : F p = some (.dK ws)) (hd : KvAll K F ws kvs) : Rel K B (Γ.set i (.dic kvs)) F (σ.set i (some (.ref p))) H := by
  refine ⟨by rw [List.length_set, List.length_set]; exact R.len, fun j s h => ?_, fun j k s t a hjk h1 h2 h3 h4 h5 h6 => ?_, R.ext0, R.ext, R.frame, R.newF, R.pl, R.fresh⟩
  · by_cases hj : i = j
    · subst hj
      have hl : i < Γ.length := by
        have := (List.getElem?_eq_some_iff.mp h).1
        rw [List.length_set] at this; exact this
      rw [List.getElem?_set_self hl] at h
      cases h
      rw [List.getElem?_set_self (by rw [R.len]; exact hl)]
      exact ⟨p, ws, rfl, hp, hd⟩
    · rw [List.getElem?_set_ne hj] at h
      rw [List.getElem?_set_ne hj]
      exact R.slot j s h
  · have nj : ∀ (j : Nat) (s : Slot), (Γ.set i (.dic kvs))[j]? = some s → s.isOwn = true → i ≠ j := fun j s h q e => by
      subst e
      have hl : i < Γ.length := by
        have := (List.getElem?_eq_some_iff.mp h).1
        rw [List.length_set] at this; exact this
      rw [List.getElem?_set_self hl] at h
      cases h
      cases q
    have e1 := nj j s h1 h2
    have e2 := nj k t h3 h4
    rw [List.getElem?_set_ne e1] at h1 h5
    rw [List.getElem?_set_ne e2] at h3 h6
    exact R.dist j k s t a hjk h1 h2 h3 h4 h5 h6
theorem Rel.setFd (R : Rel K B Γ F σ H) {i : Nat} {p : Addr} {ws : List (PySem.NestedKey × Addr × V)} {kvs : List (PySem.NestedKey × PyData)} (hp : F p = some (odHO p ws)) (hd : OdAll K F ws kvs) : Rel K B (Γ.set i (.fd kvs)) F (σ.set i (some (.ref p))) H := by
  refine ⟨by rw [List.length_set, List.length_set]; exact R.len, fun j s h => ?_, fun j k s t a hjk h1 h2 h3 h4 h5 h6 => ?_, R.ext0, R.ext, R.frame, R.newF, R.pl, R.fresh⟩
  · by_cases hj : i = j
    · subst hj
      have hl : i < Γ.length := by
        have := (List.getElem?_eq_some_iff.mp h).1
        rw [List.length_set] at this; exact this
      rw [List.getElem?_set_self hl] at h
      cases h
      rw [List.getElem?_set_self (by rw [R.len]; exact hl)]
      exact ⟨p, ws, rfl, hp, hd⟩
    · rw [List.getElem?_set_ne hj] at h
      rw [List.getElem?_set_ne hj]
      exact R.slot j s h
  · have nj : ∀ (j : Nat) (s : Slot), (Γ.set i (.fd kvs))[j]? = some s → s.isOwn = true → i ≠ j := fun j s h q e => by
      subst e
      have hl : i < Γ.length := by
        have := (List.getElem?_eq_some_iff.mp h).1
        rw [List.length_set] at this; exact this
      rw [List.getElem?_set_self hl] at h
      cases h
      cases q
    have e1 := nj j s h1 h2
    have e2 := nj k t h3 h4
    rw [List.getElem?_set_ne e1] at h1 h5
    rw [List.getElem?_set_ne e2] at h3 h6
    exact R.dist j k s t a hjk h1 h2 h3 h4 h5 h6
/-- a list of the call's own gets a slot: a new list -/
theorem Rel.setOwn (R : Rel K B Γ F σ H) {i : Nat} {p : Addr} {vs : List V} {ds : List PyData} (hp : H p = none) (hd : DpAll K F vs ds) :
    Rel K B (Γ.set i (.own ds)) F (σ.set i (some (.ref p))) (upd H p (.lst vs)) := by
  have keep : Ex H (upd H p (.lst vs)) := Ex.new hp
  have hF : F p = none := fresh_back R.ext hp
  have slotp : ∀ (j : Nat) (s : Slot), Γ[j]? = some s → s.isOwn = true → σ[j]? = some (some (V.ref p)) → False := fun j s h q e => by
    have z := R.slot j s h
    cases s with
    | no => cases q
    | val d => cases q
    | dic kvs => cases q
    | fd kvs => cases q
    | own ds => obtain ⟨a, ws, e1, _, _, h3, _⟩ := z; rw [e] at e1; cases e1; rw [hp] at h3; cases h3
    | od kvs => obtain ⟨a, ws, e1, _, _, h3, _⟩ := z; rw [e] at e1; cases e1; rw [hp] at h3; cases h3
    | par ds => obtain ⟨a, ws, e1, _, _, h3, _⟩ := z; rw [e] at e1; cases e1; rw [hp] at h3; cases h3
  refine ⟨by rw [List.length_set, List.length_set]; exact R.len, fun j s h => ?_, fun j k s t a hjk h1 h2 h3 h4 h5 h6 => ?_, R.ext0, R.ext.trans keep, fun b o h hm hz => keep b o (R.frame b o h hm hz), R.newF, R.pl, fun b h => R.fresh b (fresh_back keep h)⟩
  · by_cases hj : i = j
    · subst hj
      have hl : i < Γ.length := by
        have := (List.getElem?_eq_some_iff.mp h).1
        rw [List.length_set] at this; exact this
      rw [List.getElem?_set_self hl] at h
      cases h
      rw [List.getElem?_set_self (by rw [R.len]; exact hl)]
      exact ⟨p, vs, rfl, hF, .inl (R.fresh p hp), upd_same, hd⟩
    · rw [List.getElem?_set_ne hj] at h
      rw [List.getElem?_set_ne hj]
      have q := R.slot j s h
      cases s with
      | no => trivial
      | val d => exact q
      | dic kvs => exact q
      | fd kvs => exact q
      | own ds => obtain ⟨a, ws, e, h1, h2, h3, h4⟩ := q; exact ⟨a, ws, e, h1, h2, keep _ _ h3, h4⟩
      | od kvs => obtain ⟨a, ws, e, h1, h2, h3, h4⟩ := q; exact ⟨a, ws, e, h1, h2, keep _ _ h3, h4⟩
      | par ds => obtain ⟨a, ws, e, h1, h2, h3, h4⟩ := q; exact ⟨a, ws, e, h1, h2, keep _ _ h3, h4⟩
  · have lt : ∀ (j : Nat) (s : Slot), (Γ.set i (.own ds))[j]? = some s → j < Γ.length := fun j s h => by
      have := (List.getElem?_eq_some_iff.mp h).1
      rw [List.length_set] at this; exact this
    by_cases ej : i = j
    · subst ej
      have hl := lt i s h1
      rw [List.getElem?_set_self (by rw [R.len]; exact hl)] at h5
      cases h5
      rw [List.getElem?_set_ne hjk] at h3 h6
      exact slotp k t h3 h4 h6
    · by_cases ek : i = k
      · subst ek
        have hl := lt i t h3
        rw [List.getElem?_set_self (by rw [R.len]; exact hl)] at h6
        cases h6
        rw [List.getElem?_set_ne ej] at h1 h5
        exact slotp j s h1 h2 h5
      · rw [List.getElem?_set_ne ej] at h1 h5
        rw [List.getElem?_set_ne ek] at h3 h6
        exact R.dist j k s t a hjk h1 h2 h3 h4 h5 h6
/-- the content of a list of one's own -/
def ownAt (Γ : Env) (i : Nat) : Option (List PyData) := match Γ[i]? with
  | some (.own ds) => some ds
  | some (.par ds) => some ds
  | _ => none
def ownSet (Γ : Env) (i : Nat) (es : List PyData) : Env := match Γ[i]? with
  | some (.own _) => Γ.set i (.own es)
  | some (.par _) => Γ.set i (.par es)
  | _ => Γ
theorem Rel.ownGet (R : Rel K B Γ F σ H) {i : Nat} {ds : List PyData} (h : ownAt Γ i = some ds) :
    ∃ (a : Addr) (vs : List V), σ[i]? = some (some (V.ref a)) ∧ F a = none ∧ H a = some (.lst vs) ∧ DpAll K F vs ds := by
  unfold ownAt at h
  cases q : Γ[i]? with
  | none => rw [q] at h; cases h
  | some s =>
    rw [q] at h
    have z := R.slot i s q
    cases s with
    | no => cases h
    | val d => cases h
    | dic kvs => cases h
    | fd kvs => cases h
    | own es => cases h; obtain ⟨a, ws, e, h1, h2, h3, h4⟩ := z; exact ⟨a, ws, e, h1, h3, h4⟩
    | od kvs => cases h
    | par es => cases h; obtain ⟨a, ws, e, h1, h2, h3, h4⟩ := z; exact ⟨a, ws, e, h1, h3, h4⟩
/-- a list of one's own is changed -/
theorem Rel.write (R : Rel K B Γ F σ H) {i : Nat} {ds es : List PyData} {a : Addr} {ws : List V} (h : ownAt Γ i = some ds) (ha : σ[i]? = some (some (.ref a))) (hd : DpAll K F ws es) :
    Rel K B (ownSet Γ i es) F σ (upd H a (.lst ws)) := by
  obtain ⟨a', vs, e', hF, hH, _⟩ := R.ownGet h
  rw [ha] at e'; cases e'
  have own_i : ∃ s : Slot, Γ[i]? = some s ∧ s.isOwn = true := by
    unfold ownAt at h
    cases q : Γ[i]? with
    | none => rw [q] at h; cases h
    | some s => rw [q] at h; cases s <;> first | cases h; done | exact ⟨_, rfl, rfl⟩
  obtain ⟨s0, hs0, hs0o⟩ := own_i
  have hl : i < Γ.length := (List.getElem?_eq_some_iff.mp hs0).1
  -- the shape of the new environment
  have shape : ∃ s1 : Slot, ownSet Γ i es = Γ.set i s1 ∧ s1.isOwn = true ∧ SlotOk K B F (upd H a (.lst ws)) s1 σ[i]? := by
    have z := R.slot i s0 hs0
    unfold ownSet
    rw [hs0]
    cases s0 with
    | no => cases hs0o
    | val d => cases hs0o
    | dic kvs => cases hs0o
    | fd kvs => cases hs0o
    | od kvs => unfold ownAt at h; rw [hs0] at h; cases h
    | own es' => obtain ⟨a1, ws1, e, h1, h2, h3, h4⟩ := z; rw [ha] at e; cases e; exact ⟨.own es, rfl, rfl, a, ws, ha, hF, h2, upd_same, hd⟩
    | par es' => obtain ⟨a1, ws1, e, h1, h2, h3, h4⟩ := z; rw [ha] at e; cases e; exact ⟨.par es, rfl, rfl, a, ws, ha, hF, h2, upd_same, hd⟩
  have hout : (B.H0 a = none ∨ B.Z a) ∨ B.M a := by
    have z := R.slot i s0 hs0
    cases s0 with
    | no => cases hs0o
    | val d => cases hs0o
    | dic kvs => cases hs0o
    | fd kvs => cases hs0o
    | od kvs => unfold ownAt at h; rw [hs0] at h; cases h
    | own es' => obtain ⟨a1, ws1, e, h1, h2, h3, h4⟩ := z; rw [ha] at e; cases e; exact .inl h2
    | par es' => obtain ⟨a1, ws1, e, h1, h2, h3, h4⟩ := z; rw [ha] at e; cases e; exact .inr h2
  obtain ⟨s1, es1, ho1, ok1⟩ := shape
  rw [es1]
  have nea : ∀ b o, F b = some o → b ≠ a := fun b o e z => by subst z; rw [hF] at e; cases e
  refine ⟨by rw [List.length_set]; exact R.len, fun j s h' => ?_, fun j k s t b hjk h1 h2 h3 h4 h5 h6 => ?_, R.ext0, fun b o e => ?_, fun b o e hm hz => ?_, R.newF, R.pl, fun b e => ?_⟩
  · by_cases hj : i = j
    · subst hj
      rw [List.getElem?_set_self hl] at h'
      cases h'
      exact ok1
    · rw [List.getElem?_set_ne hj] at h'
      have q := R.slot j s h'
      cases s with
      | no => trivial
      | val d => exact q
      | dic kvs => exact q
      | fd kvs => exact q
      | own ds' =>
        obtain ⟨b, ws', e, h1, h2, h3, h4⟩ := q
        have nb : b ≠ a := fun z => R.dist i j s0 _ a hj hs0 hs0o h' rfl ha (z ▸ e)
        exact ⟨b, ws', e, h1, h2, by rw [upd_ne nb]; exact h3, h4⟩
      | od kvs =>
        obtain ⟨b, ws', e, h1, h2, h3, h4⟩ := q
        have nb : b ≠ a := fun z => R.dist i j s0 _ a hj hs0 hs0o h' rfl ha (z ▸ e)
        exact ⟨b, ws', e, h1, h2, by rw [upd_ne nb]; exact h3, h4⟩
      | par ds' =>
        obtain ⟨b, ws', e, h1, h2, h3, h4⟩ := q
        have nb : b ≠ a := fun z => R.dist i j s0 _ a hj hs0 hs0o h' rfl ha (z ▸ e)
        exact ⟨b, ws', e, h1, h2, by rw [upd_ne nb]; exact h3, h4⟩
  · have back : ∀ (j : Nat) (s : Slot), (Γ.set i s1)[j]? = some s → s.isOwn = true → ∃ t : Slot, Γ[j]? = some t ∧ t.isOwn = true := fun j s q w => by
      by_cases hj : i = j
      · subst hj; exact ⟨s0, hs0, hs0o⟩
      · rw [List.getElem?_set_ne hj] at q; exact ⟨s, q, w⟩
    obtain ⟨s', g1, g2⟩ := back j s h1 h2
    obtain ⟨t', g3, g4⟩ := back k t h3 h4
    exact R.dist j k s' t' b hjk g1 g2 g3 g4 h5 h6
  · rw [upd_ne (nea b o e)]; exact R.ext b o e
  · by_cases hb : b = a
    · subst hb
      rcases hout with (z | z) | z
      · rw [z] at e; cases e
      · exact absurd z hz
      · exact absurd z hm
    · rw [upd_ne hb]; exact R.frame b o e hm hz
  · by_cases hb : b = a
    · subst hb; rw [upd_same] at e; cases e
    · rw [upd_ne hb] at e; exact R.fresh b e
/-- a list of one's own becomes a plain value -/
theorem Rel.freeze (R : Rel K B Γ F σ H) {i : Nat} {ds : List PyData} (h : Γ[i]? = some (.own ds)) :
    ∃ (a : Addr) (F' : Hp), σ[i]? = some (some (V.ref a)) ∧ Ex F F' ∧ Dp K F' (.ref a) (.list ds) ∧ Rel K B (Γ.set i (.val (.list ds))) F' σ H := by
  obtain ⟨a, vs, e, hF, hH0, hH, hd⟩ := R.slot i _ h
  have ex : Ex F (upd F a (.lst vs)) := Ex.new hF
  have dp : Dp K (upd F a (.lst vs)) (.ref a) (.list ds) := .lst (sq_of upd_same) (dpa_mono ex hd)
  have hl : i < Γ.length := (List.getElem?_eq_some_iff.mp h).1
  have noF : ∀ (j : Nat) (s : Slot) (b : Addr), j ≠ i → Γ[j]? = some s → s.isOwn = true → σ[j]? = some (some (V.ref b)) → F b = none → (upd F a (.lst vs)) b = none := fun j s b hj q w eb hb => by
    have nb : b ≠ a := fun z => R.dist j i s _ a hj q w h rfl (z ▸ eb) e
    rw [upd_ne nb]; exact hb
  refine ⟨a, upd F a (.lst vs), e, ex, dp, ?_⟩
  refine ⟨by rw [List.length_set]; exact R.len, fun j s h' => ?_, fun j k s t b hjk h1 h2 h3 h4 h5 h6 => ?_, R.ext0.trans ex, fun b o q => ?_, R.frame, fun b o q => ?_, R.pl.upd trivial, R.fresh⟩
  · by_cases hj : i = j
    · subst hj
      rw [List.getElem?_set_self hl] at h'
      cases h'
      exact ⟨_, e, dp⟩
    · rw [List.getElem?_set_ne hj] at h'
      have q := R.slot j s h'
      cases s with
      | no => trivial
      | val d => obtain ⟨v, e1, e2⟩ := q; exact ⟨v, e1, dp_mono ex e2⟩
      | dic kvs => obtain ⟨a, ws, e, h1, h2⟩ := q; exact ⟨a, ws, e, ex _ _ h1, kva_mono ex h2⟩
      | fd kvs => obtain ⟨a, ws, e, h1, h2⟩ := q; exact ⟨a, ws, e, ex _ _ h1, od_mono ex h2⟩
      | own ds' => obtain ⟨b, ws', e1, h1, h2, h3, h4⟩ := q; exact ⟨b, ws', e1, noF j _ b (Ne.symm hj) h' rfl e1 h1, h2, h3, dpa_mono ex h4⟩
      | od kvs => obtain ⟨b, ws', e1, h1, h2, h3, h4⟩ := q; exact ⟨b, ws', e1, noF j _ b (Ne.symm hj) h' rfl e1 h1, h2, h3, od_mono ex h4⟩
      | par ds' => obtain ⟨b, ws', e1, h1, h2, h3, h4⟩ := q; exact ⟨b, ws', e1, noF j _ b (Ne.symm hj) h' rfl e1 h1, h2, h3, dpa_mono ex h4⟩
  · have nj : ∀ (j : Nat) (s : Slot), (Γ.set i (.val (.list ds)))[j]? = some s → s.isOwn = true → i ≠ j := fun j s q w z => by
      subst z
      rw [List.getElem?_set_self hl] at q
      cases q
      cases w
    have e1 := nj j s h1 h2
    have e2 := nj k t h3 h4
    rw [List.getElem?_set_ne e1] at h1
    rw [List.getElem?_set_ne e2] at h3
    exact R.dist j k s t b hjk h1 h2 h3 h4 h5 h6
  · by_cases hb : b = a
    · subst hb; rw [upd_same] at q; cases q; exact hH
    · rw [upd_ne hb] at q; exact R.ext b o q
  · by_cases hb : b = a
    · subst hb; exact .inr hH0
    · rw [upd_ne hb] at q; exact R.newF b o q
end

/-! ### what a reading is worth -/
abbrev EX := Env → Option (PyData × Env)
abbrev TX := Env → Option (Bool × Env)
abbrev AX := Env → Option (List PyData × Env)
def EvE (K : PySem.W.Frag) (te : TE) (e : EX) : Prop := ∀ (B : Bs) (Γ : Env) (F : Hp) (σ : L2.St) (H : Hp) (r : PyData) (Γ' : Env), Rel K B Γ F σ H → e Γ = some (r, Γ') →
  ∀ Q : VK, (∀ v F' H', Ex F F' → Rel K B Γ' F' σ H' → Dp K F' v r → Q v H') → te σ H Q
def EvT (K : PySem.W.Frag) (tt : TT) (t : TX) : Prop := ∀ (B : Bs) (Γ : Env) (F : Hp) (σ : L2.St) (H : Hp) (r : Bool) (Γ' : Env), Rel K B Γ F σ H → t Γ = some (r, Γ') →
  ∀ Q : Bool → Hp → Prop, (∀ F' H', Ex F F' → Rel K B Γ' F' σ H' → Q r H') → tt σ H Q
def EvA (K : PySem.W.Frag) (ta : TA) (a : AX) : Prop := ∀ (B : Bs) (Γ : Env) (F : Hp) (σ : L2.St) (H : Hp) (rs : List PyData) (Γ' : Env), Rel K B Γ F σ H → a Γ = some (rs, Γ') →
  ∀ Q : List V → Hp → Prop, (∀ vs F' H', Ex F F' → Rel K B Γ' F' σ H' → DpAll K F' vs rs → Q vs H') → ta σ H Q

/-- by values: an operator, a call, a slice -/
def OpP (K : PySem.W.Frag) (r : R2) (p : PyData → PyData → Option PyData) : Prop := ∀ (F H : Hp) (x y : V) (d e z : PyData), Ex F H → Pl F → Dp K F x d → Dp K F y e → p d e = some z →
  ∀ Q : VK, (∀ v F' H', Grow F H F' H' → Dp K F' v z → Q v H') → r x y H Q
def UnP (K : PySem.W.Frag) (r : V → Hp → VK → Prop) (p : PyData → Option PyData) : Prop := ∀ (F H : Hp) (x : V) (d z : PyData), Ex F H → Pl F → Dp K F x d → p d = some z →
  ∀ Q : VK, (∀ v F' H', Grow F H F' H' → Dp K F' v z → Q v H') → r x H Q
def CallP (K : PySem.W.Frag) (r : List V → Hp → VK → Prop) (p : List PyData → Option PyData) : Prop := ∀ (F H : Hp) (xs : List V) (ds : List PyData) (z : PyData), Ex F H → Pl F → DpAll K F xs ds → p ds = some z →
  ∀ Q : VK, (∀ v F' H', Grow F H F' H' → Dp K F' v z → Q v H') → r xs H Q
def SlP (K : PySem.W.Frag) (r : V → Option Int → Option Int → Hp → VK → Prop) (p : PyData → Option Int → Option Int → Option PyData) : Prop := ∀ (F H : Hp) (x : V) (d z : PyData) (lo hi : Option Int), Ex F H → Pl F → Dp K F x d → p d lo hi = some z →
  ∀ Q : VK, (∀ v F' H', Grow F H F' H' → Dp K F' v z → Q v H') → r x lo hi H Q

/-! ### judgements -/
def EP (X : Cx) (e : Expr) (f : EX) : Prop := ∃ te, PE X e te ∧ EvE X.K te f
def TP (X : Cx) (e : Expr) (f : TX) : Prop := ∃ tt, PT X e tt ∧ EvT X.K tt f
def WP (X : Cx) (e : Expr) (f : TX) : Prop := ∃ tt, PW X e tt ∧ EvT X.K tt f
def AP (X : Cx) (es : List Expr) (f : AX) : Prop := ∃ ta, PA X es ta ∧ EvA X.K ta f
def OpE (X : Cx) (f : Value → Value → Sem Value) (p : PyData → PyData → Option PyData) : Prop := ∃ r, OpR X f r ∧ OpP X.K r p
def UnE (X : Cx) (f : Value → Sem Value) (p : PyData → Option PyData) : Prop := ∃ r, UnR X f r ∧ UnP X.K r p
def CallE (X : Cx) (f : Value) (p : List PyData → Option PyData) : Prop := ∃ r, CallR X f r ∧ CallP X.K r p
def IxE (X : Cx) (p : PyData → PyData → Option PyData) : Prop := ∃ r, IxR X r ∧ OpP X.K r p
def SlE (X : Cx) (p : PyData → Option Int → Option Int → Option PyData) : Prop := ∃ r, SlR X r ∧ SlP X.K r p

/-! ### expressions -/
def eVar (i : Nat) : EX := fun Γ => match Γ[i]? with
  | some (.val d) => some (d, Γ)
  | some (.own ds) => some (.list ds, Γ.set i (.val (.list ds)))
  | _ => none
def eC (d : PyData) : EX := fun Γ => some (d, Γ)
def eOp (p : PyData → PyData → Option PyData) (f g : EX) : EX := fun Γ => (f Γ).bind fun x => (g x.2).bind fun y => (p x.1 y.1).bind fun z => some (z, y.2)
def eUn (p : PyData → Option PyData) (f : EX) : EX := fun Γ => (f Γ).bind fun x => (p x.1).bind fun z => some (z, x.2)
def aNil : AX := fun Γ => some ([], Γ)
def aCons (f : EX) (g : AX) : AX := fun Γ => (f Γ).bind fun x => (g x.2).bind fun y => some (x.1 :: y.1, y.2)
def eTup (a : AX) : EX := fun Γ => (a Γ).bind fun x => if x.1.length ≤ 100000 then some (.tuple x.1, x.2) else none
def eLst (a : AX) : EX := fun Γ => (a Γ).bind fun x => if x.1.length ≤ 100000 then some (.list x.1, x.2) else none
def eCall (p : List PyData → Option PyData) (a : AX) : EX := fun Γ => (a Γ).bind fun x => (p x.1).bind fun z => some (z, x.2)

theorem bind_eq {α β : Type} {o : Option α} {f : α → Option β} {b : β} (h : o.bind f = some b) : ∃ a, o = some a ∧ f a = some b := by
  cases o with
  | none => cases h
  | some a => exact ⟨a, rfl, h⟩

section
variable {X : Cx} {a b : Expr} {f g : EX} {pos : Pos}
theorem ev_var {K : PySem.W.Frag} (i : Nat) : EvE K (tVar i) (eVar i) := by
  intro B Γ F σ H r Γ' R h Q q
  unfold eVar at h
  cases e : Γ[i]? with
  | none => rw [e] at h; cases h
  | some s =>
    rw [e] at h
    cases s with
    | no => cases h
    | dic kvs => cases h
    | fd kvs => cases h
    | par ds => cases h
    | val d =>
      cases h
      obtain ⟨v, ev, dv⟩ := R.slot i _ e
      exact ⟨v, ev, q v F H (Ex.refl F) R dv⟩
    | own ds =>
      cases h
      obtain ⟨p, F', e1, e2, e3, R'⟩ := R.freeze e
      exact ⟨_, e1, q _ F' H e2 R' e3⟩
    | od kvs => cases h
theorem ep_var {x : Str} (i : Nat) (hN : X.N[i]? = some x := by rfl) (hv : Vis X.env.scope x := by first | exact Or.inl rfl | exact Or.inr (Or.inl rfl) | exact Or.inr (Or.inr rfl)) (hd : (x == ("__debug__" : Str)) = false := by decide)
    (hcd : (x == ("__classdict__" : Str)) = false := by decide) : EP X (.Name x pos) (eVar i) := ⟨_, pe_var hN hv hd hcd, ev_var i⟩
theorem ev_c {K : PySem.W.Frag} {v : V} {d : PyData} (h : ∀ F, Dp K F v d) : EvE K (tC v) (eC d) := by
  intro B Γ F σ H r Γ' R e Q q
  cases e
  exact q v F H (Ex.refl F) R (h F)
theorem ep_int {i : Int} {j} : EP X (.Constant (.int i) j pos) (eC (.int i)) := ⟨_, pe_int, ev_c fun _ => .int i⟩
theorem ep_bl {c : Bool} {j} : EP X (.Constant (.bool c) j pos) (eC (.bool c)) := ⟨_, pe_bl, ev_c fun _ => .bl c⟩
theorem ep_non {j} : EP X (.Constant .none j pos) (eC .none) := ⟨_, pe_non, ev_c fun _ => .non⟩
theorem ep_str {x : Str} {j} : EP X (.Constant (.str x) j pos) (eC (.str x)) := ⟨_, pe_str, ev_c fun _ => .str x⟩

theorem ev_op {K : PySem.W.Frag} {r : R2} {p : PyData → PyData → Option PyData} {ta tb : TE} (hr : OpP K r p) (ha : EvE K ta f) (hb : EvE K tb g) : EvE K (tOp r ta tb) (eOp p f g) := by
  intro B Γ F σ H z Γ' R h Q q
  obtain ⟨⟨x, Γ1⟩, h1, h⟩ := bind_eq h
  obtain ⟨⟨y, Γ2⟩, h2, h⟩ := bind_eq h
  obtain ⟨z', h3, h⟩ := bind_eq h
  cases h
  refine ha B Γ F σ H x Γ1 R h1 _ fun v F1 H1 e1 R1 d1 => ?_
  refine hb B Γ1 F1 σ H1 y Γ2 R1 h2 _ fun u F2 H2 e2 R2 d2 => ?_
  exact hr F2 H2 v u x y z R2.ext R2.pl (dp_mono e2 d1) d2 h3 Q fun w F3 H3 gr d3 => q w F3 H3 ((e1.trans e2).trans gr.ext) (R2.grow gr) d3
theorem ep_op {op : Operator} {p : PyData → PyData → Option PyData} (ho : OpE X (binaryOp op) p) (ha : EP X a f) (hb : EP X b g) : EP X (.BinOp a op b pos) (eOp p f g) := by
  obtain ⟨r, h1, h2⟩ := ho
  obtain ⟨ta, a1, a2⟩ := ha
  obtain ⟨tb, b1, b2⟩ := hb
  exact ⟨_, pe_op h1 a1 b1, ev_op h2 a2 b2⟩
theorem ep_cmp {op : CmpOp} {p : PyData → PyData → Option PyData} (ho : OpE X (compareOp op) p) (ha : EP X a f) (hb : EP X b g) (hm : behindInMarks op b = false := by first | exact nomark _ | rfl) : EP X (.Compare a [op] [b] pos) (eOp p f g) := by
  obtain ⟨r, h1, h2⟩ := ho
  obtain ⟨ta, a1, a2⟩ := ha
  obtain ⟨tb, b1, b2⟩ := hb
  exact ⟨_, pe_cmpR h1 a1 b1 hm, ev_op h2 a2 b2⟩
/-- a value that is True or False -/
def tOf (f : EX) : TX := fun Γ => (f Γ).bind fun x => match x.1 with
  | .bool c => some (c, x.2)
  | _ => none
theorem ev_test {K : PySem.W.Frag} {te : TE} (h : EvE K te f) : EvT K (tTest te) (tOf f) := by
  intro B Γ F σ H r Γ' R e Q q
  obtain ⟨⟨x, Γ1⟩, h1, e⟩ := bind_eq e
  refine h B Γ F σ H x Γ1 R h1 _ fun v F1 H1 e1 R1 d1 => ?_
  cases d1 with
  | bl c => cases e; exact ⟨_, rfl, q F1 H1 e1 R1⟩
  | _ => cases e
theorem tp_cmp {op : CmpOp} {p : PyData → PyData → Option PyData} (ho : OpE X (compareOp op) p) (ha : EP X a f) (hb : EP X b g) (hm : behindInMarks op b = false := by first | exact nomark _ | rfl) : TP X (.Compare a [op] [b] pos) (tOf (eOp p f g)) := by
  obtain ⟨r, h1, h2⟩ := ho
  obtain ⟨ta, a1, a2⟩ := ha
  obtain ⟨tb, b1, b2⟩ := hb
  exact ⟨_, pt_cmpR h1 a1 b1 hm, ev_test (ev_op h2 a2 b2)⟩
theorem tp_val {e : Expr} (h : EP X e f) (he : ∀ whole, isTrue e X.env whole = (do let v ← whole; standAt e.pos; holding [v] (truthy v)) := by intro _; rfl) : TP X e (tOf f) := by
  obtain ⟨te, a1, a2⟩ := h
  exact ⟨_, pt_val a1 he, ev_test a2⟩
theorem ep_un {op : UnaryOp} {p : PyData → Option PyData} (ho : UnE X (unaryOp op) p) (ha : EP X a f) : EP X (.UnaryOp op a pos) (eUn p f) := by
  obtain ⟨r, h1, h2⟩ := ho
  obtain ⟨ta, a1, a2⟩ := ha
  refine ⟨_, pe_un h1 a1, ?_⟩
  intro B Γ F σ H z Γ' R h Q q
  obtain ⟨⟨x, Γ1⟩, e1, h⟩ := bind_eq h
  obtain ⟨z', e2, h⟩ := bind_eq h
  cases h
  refine a2 B Γ F σ H x Γ1 R e1 _ fun v F1 H1 x1 R1 d1 => ?_
  exact h2 F1 H1 v x z R1.ext R1.pl d1 e2 Q fun w F3 H3 gr d3 => q w F3 H3 (x1.trans gr.ext) (R1.grow gr) d3
/-! tests -/
def tNotX (t : TX) : TX := fun Γ => (t Γ).bind fun x => some (!x.1, x.2)
def tAndX (t u : TX) : TX := fun Γ => (t Γ).bind fun x => if x.1 = true then u x.2 else some (false, x.2)
def tOrX (t u : TX) : TX := fun Γ => (t Γ).bind fun x => if x.1 = true then some (true, x.2) else u x.2
theorem tp_not {t : TX} (h : TP X a t) : TP X (.UnaryOp .Not a pos) (tNotX t) := by
  obtain ⟨tt, h1, h2⟩ := h
  refine ⟨_, pt_not h1, ?_⟩
  intro B Γ F σ H r Γ' R e Q q
  obtain ⟨⟨x, Γ1⟩, e1, e⟩ := bind_eq e
  cases e
  exact h2 B Γ F σ H x Γ1 R e1 _ fun F1 H1 x1 R1 => q F1 H1 x1 R1
theorem evt_and {K : PySem.W.Frag} {tt uu : TT} {t u : TX} (h2 : EvT K tt t) (g2 : EvT K uu u) : EvT K (tAnd tt uu) (tAndX t u) := by
  intro B Γ F σ H r Γ' R e Q q
  obtain ⟨⟨x, Γ1⟩, e1, e⟩ := bind_eq e
  refine h2 B Γ F σ H x Γ1 R e1 _ fun F1 H1 x1 R1 => ?_
  cases x with
  | true =>
    have e' : u Γ1 = some (r, Γ') := e
    show uu σ H1 Q
    exact g2 B Γ1 F1 σ H1 r Γ' R1 e' Q fun F2 H2 x2 R2 => q F2 H2 (x1.trans x2) R2
  | false =>
    have e' : some (false, Γ1) = some (r, Γ') := e
    cases e'
    show Q false H1
    exact q F1 H1 x1 R1
theorem evt_or {K : PySem.W.Frag} {tt uu : TT} {t u : TX} (h2 : EvT K tt t) (g2 : EvT K uu u) : EvT K (tOr tt uu) (tOrX t u) := by
  intro B Γ F σ H r Γ' R e Q q
  obtain ⟨⟨x, Γ1⟩, e1, e⟩ := bind_eq e
  refine h2 B Γ F σ H x Γ1 R e1 _ fun F1 H1 x1 R1 => ?_
  cases x with
  | false =>
    have e' : u Γ1 = some (r, Γ') := e
    show uu σ H1 Q
    exact g2 B Γ1 F1 σ H1 r Γ' R1 e' Q fun F2 H2 x2 R2 => q F2 H2 (x1.trans x2) R2
  | true =>
    have e' : some (true, Γ1) = some (r, Γ') := e
    cases e'
    show Q true H1
    exact q F1 H1 x1 R1
theorem wp_and1 {t : TX} (h : TP X a t) : WP X (.BoolOp .And [a] pos) t := by
  obtain ⟨tt, h1, h2⟩ := h
  exact ⟨_, pw_and1 h1, h2⟩
theorem wp_or1 {t : TX} (h : TP X a t) : WP X (.BoolOp .Or [a] pos) t := by
  obtain ⟨tt, h1, h2⟩ := h
  exact ⟨_, pw_or1 h1, h2⟩
theorem wp_and {t u : TX} {rest : List Expr} (h : TP X a t) (k : WP X (.BoolOp .And (b :: rest) pos) u) : WP X (.BoolOp .And (a :: b :: rest) pos) (tAndX t u) := by
  obtain ⟨tt, h1, h2⟩ := h
  obtain ⟨uu, g1, g2⟩ := k
  exact ⟨_, pw_and h1 g1, evt_and h2 g2⟩
theorem wp_or {t u : TX} {rest : List Expr} (h : TP X a t) (k : WP X (.BoolOp .Or (b :: rest) pos) u) : WP X (.BoolOp .Or (a :: b :: rest) pos) (tOrX t u) := by
  obtain ⟨tt, h1, h2⟩ := h
  obtain ⟨uu, g1, g2⟩ := k
  exact ⟨_, pw_or h1 g1, evt_or h2 g2⟩
theorem WP.tp {e : Expr} {t : TX} (h : WP X e t) : TP X e t := by
  obtain ⟨tt, h1, h2⟩ := h
  exact ⟨_, h1.pt, h2⟩
/-! and, or, not as values -/
def eAnd (f g : EX) : EX := fun Γ => (f Γ).bind fun x => match x.1 with
  | .bool true => g x.2
  | .bool false => some (.bool false, x.2)
  | _ => none
def eOr (f g : EX) : EX := fun Γ => (f Γ).bind fun x => match x.1 with
  | .bool true => some (.bool true, x.2)
  | .bool false => g x.2
  | _ => none
def eNot (f : EX) : EX := fun Γ => (f Γ).bind fun x => match x.1 with
  | .bool c => some (.bool (!c), x.2)
  | _ => none
def eIf (t : TX) (f g : EX) : EX := fun Γ => (t Γ).bind fun x => if x.1 = true then f x.2 else g x.2
theorem ep_one {op} (h : EP X a f) : EP X (.BoolOp op [a] pos) f := by
  obtain ⟨te, h1, h2⟩ := h
  exact ⟨_, pe_one h1, h2⟩
theorem ep_and {rest : List Expr} (h : EP X a f) (k : EP X (.BoolOp .And (b :: rest) pos) g) : EP X (.BoolOp .And (a :: b :: rest) pos) (eAnd f g) := by
  obtain ⟨ta, h1, h2⟩ := h
  obtain ⟨tb, g1, g2⟩ := k
  refine ⟨_, pe_and h1 g1, ?_⟩
  intro B Γ F σ H r Γ' R e Q q
  obtain ⟨⟨x, Γ1⟩, e1, e⟩ := bind_eq e
  refine h2 B Γ F σ H x Γ1 R e1 _ fun v F1 H1 x1 R1 d1 => ?_
  cases d1 with
  | bl c =>
    refine ⟨c, rfl, ?_⟩
    cases c with
    | true =>
      have e' : g Γ1 = some (r, Γ') := e
      show tb σ H1 Q
      exact g2 B Γ1 F1 σ H1 r Γ' R1 e' Q fun w F2 H2 x2 R2 d2 => q w F2 H2 (x1.trans x2) R2 d2
    | false =>
      have e' : some (PyData.bool false, Γ1) = some (r, Γ') := e
      cases e'
      show Q (.bl false) H1
      exact q _ F1 H1 x1 R1 (.bl false)
  | _ => cases e
theorem ep_or {rest : List Expr} (h : EP X a f) (k : EP X (.BoolOp .Or (b :: rest) pos) g) : EP X (.BoolOp .Or (a :: b :: rest) pos) (eOr f g) := by
  obtain ⟨ta, h1, h2⟩ := h
  obtain ⟨tb, g1, g2⟩ := k
  refine ⟨_, pe_or h1 g1, ?_⟩
  intro B Γ F σ H r Γ' R e Q q
  obtain ⟨⟨x, Γ1⟩, e1, e⟩ := bind_eq e
  refine h2 B Γ F σ H x Γ1 R e1 _ fun v F1 H1 x1 R1 d1 => ?_
  cases d1 with
  | bl c =>
    refine ⟨c, rfl, ?_⟩
    cases c with
    | false =>
      have e' : g Γ1 = some (r, Γ') := e
      show tb σ H1 Q
      exact g2 B Γ1 F1 σ H1 r Γ' R1 e' Q fun w F2 H2 x2 R2 d2 => q w F2 H2 (x1.trans x2) R2 d2
    | true =>
      have e' : some (PyData.bool true, Γ1) = some (r, Γ') := e
      cases e'
      show Q (.bl true) H1
      exact q _ F1 H1 x1 R1 (.bl true)
  | _ => cases e
theorem ep_not (h : EP X a f) : EP X (.UnaryOp .Not a pos) (eNot f) := by
  obtain ⟨ta, h1, h2⟩ := h
  refine ⟨_, pe_not h1, ?_⟩
  intro B Γ F σ H r Γ' R e Q q
  obtain ⟨⟨x, Γ1⟩, e1, e⟩ := bind_eq e
  refine h2 B Γ F σ H x Γ1 R e1 _ fun v F1 H1 x1 R1 d1 => ?_
  cases d1 with
  | bl c0 => cases e; exact ⟨_, rfl, q _ F1 H1 x1 R1 (.bl _)⟩
  | _ => cases e
theorem ep_if {c : Expr} {t : TX} (hc : TP X c t) (h : EP X a f) (k : EP X b g) : EP X (.IfExp c a b pos) (eIf t f g) := by
  obtain ⟨tt, c1, c2⟩ := hc
  obtain ⟨ta, h1, h2⟩ := h
  obtain ⟨tb, g1, g2⟩ := k
  refine ⟨_, pe_ifExp c1 h1 g1, ?_⟩
  intro B Γ F σ H r Γ' R e Q q
  obtain ⟨⟨x, Γ1⟩, e1, e⟩ := bind_eq e
  refine c2 B Γ F σ H x Γ1 R e1 _ fun F1 H1 x1 R1 => ?_
  cases x with
  | true =>
    show ta σ H1 Q
    exact h2 B Γ1 F1 σ H1 r Γ' R1 e Q fun w F2 H2 x2 R2 d2 => q w F2 H2 (x1.trans x2) R2 d2
  | false =>
    show tb σ H1 Q
    exact g2 B Γ1 F1 σ H1 r Γ' R1 e Q fun w F2 H2 x2 R2 d2 => q w F2 H2 (x1.trans x2) R2 d2
/-! arguments, displays, calls -/
theorem ap_nil : AP X [] aNil := ⟨_, pa_nil, fun B Γ F σ H rs Γ' R e Q q => by cases e; exact q [] F H (Ex.refl F) R .nil⟩
theorem ap_cons {e : Expr} {es : List Expr} {k : AX} (h : EP X e f) (hr : AP X es k) (hs : starEach (e :: es) X.env = (false, eval e X.env) :: starEach es X.env := by rfl) : AP X (e :: es) (aCons f k) := by
  obtain ⟨te, h1, h2⟩ := h
  obtain ⟨ta, g1, g2⟩ := hr
  refine ⟨_, pa_cons h1 g1 hs, ?_⟩
  intro B Γ F σ H rs Γ' R e Q q
  obtain ⟨⟨x, Γ1⟩, e1, e⟩ := bind_eq e
  obtain ⟨⟨ys, Γ2⟩, e2, e⟩ := bind_eq e
  cases e
  refine h2 B Γ F σ H x Γ1 R e1 _ fun v F1 H1 x1 R1 d1 => ?_
  refine g2 B Γ1 F1 σ H1 ys Γ2 R1 e2 _ fun vs F2 H2 x2 R2 d2 => ?_
  exact q (v :: vs) F2 H2 (x1.trans x2) R2 (.cons (dp_mono x2 d1) d2)
theorem ep_tup {es : List Expr} {x1} {k : AX} (h : AP X es k) : EP X (.Tuple es x1 pos) (eTup k) := by
  obtain ⟨ta, g1, g2⟩ := h
  refine ⟨_, pe_tupF g1, ?_⟩
  intro B Γ F σ H r Γ' R e Q q
  obtain ⟨⟨xs, Γ1⟩, e1, e⟩ := bind_eq e
  split at e
  · rename_i hl
    cases e
    refine g2 B Γ F σ H xs Γ1 R e1 _ fun vs F1 H1 x1 R1 d1 => ?_
    refine ⟨sz_of (by rw [dpa_len d1]; exact hl), fun p o hp ho => ?_⟩
    have gr := Grow.laid (o := .frz o (.tup vs)) R1.ext hp ho
    exact q _ _ _ (x1.trans gr.ext) (R1.grow gr) (.tup (st_frz upd_same) (dpa_mono gr.ext d1))
  · cases e
theorem ep_lst {es : List Expr} {k : AX} (h : AP X es k) : EP X (.List es pos) (eLst k) := by
  obtain ⟨ta, g1, g2⟩ := h
  refine ⟨_, pe_lst g1, ?_⟩
  intro B Γ F σ H r Γ' R e Q q
  obtain ⟨⟨xs, Γ1⟩, e1, e⟩ := bind_eq e
  split at e
  · rename_i hl
    cases e
    refine g2 B Γ F σ H xs Γ1 R e1 _ fun vs F1 H1 x1 R1 d1 => ?_
    refine ⟨sz_of (by rw [dpa_len d1]; exact hl), fun p hp => ?_⟩
    have gr := Grow.laid (o := .lst vs) R1.ext hp
    exact q _ _ _ (x1.trans gr.ext) (R1.grow gr) (.lst (sq_of upd_same) (dpa_mono gr.ext d1))
  · cases e
theorem ev_call {K : PySem.W.Frag} {r : List V → Hp → VK → Prop} {p : List PyData → Option PyData} {ta : TA} {k : AX} (hr : CallP K r p) (ha : EvA K ta k) : EvE K (tCB r ta) (eCall p k) := by
  intro B Γ F σ H z Γ' R h Q q
  obtain ⟨⟨xs, Γ1⟩, h1, h⟩ := bind_eq h
  obtain ⟨z', h3, h⟩ := bind_eq h
  cases h
  refine ha B Γ F σ H xs Γ1 R h1 _ fun vs F1 H1 e1 R1 d1 => ?_
  exact hr F1 H1 vs xs z R1.ext R1.pl d1 h3 Q fun w F3 H3 gr d3 => q w F3 H3 (e1.trans gr.ext) (R1.grow gr) d3
theorem ep_callB {x : Str} {id : String} {e : Expr} {es : List Expr} {p : List PyData → Option PyData} {k : AX} {ps : Pos} (hc : CallE X (.builtin id) p) (hm : X.mg x = none) (hv : bootBuiltins x = some (.builtin id)) (ha : AP X (e :: es) k)
    (hg : Gl X x := by rfl) (hn : x ≠ "__name__" := by decide) (hdb : (x == ("__debug__" : Str)) = false := by decide)
    (he : starEach (e :: es) X.env = (false, eval e X.env) :: starEach es X.env := by rfl) (hpl : (backTo pos (starEach es X.env)).any (·.1) = false := by rfl) : EP X (.Call (.Name x ps) (e :: es) [] pos) (eCall p k) := by
  obtain ⟨r, h1, h2⟩ := hc
  obtain ⟨ta, a1, a2⟩ := ha
  exact ⟨_, pe_callB h1 hg hm hv a1 hn hdb he hpl, ev_call h2 a2⟩
theorem ep_callTy {x : Str} {T : String} {e : Expr} {es : List Expr} {p : List PyData → Option PyData} {k : AX} {ps : Pos} (hc : CallE X (.type T) p) (hm : X.mg x = none) (hv : bootBuiltins x = some (.type T)) (ha : AP X (e :: es) k)
    (hg : Gl X x := by rfl) (hn : x ≠ "__name__" := by decide) (hdb : (x == ("__debug__" : Str)) = false := by decide)
    (he : starEach (e :: es) X.env = (false, eval e X.env) :: starEach es X.env := by rfl) (hpl : (backTo pos (starEach es X.env)).any (·.1) = false := by rfl) : EP X (.Call (.Name x ps) (e :: es) [] pos) (eCall p k) := by
  obtain ⟨r, h1, h2⟩ := hc
  obtain ⟨ta, a1, a2⟩ := ha
  exact ⟨_, pe_callTy h1 hg hm hv a1 hn hdb he hpl, ev_call h2 a2⟩
end
end Z
set_option Elab.async false
set_option linter.all false
set_option maxRecDepth 100000
set_option maxHeartbeats 2000000
/-! Z: statements, loops, comprehensions, calls of own defs -/
namespace Z
open PySem L2 Evl PyProof.Rows

/-! ### the frame rule: what a call does not own stays -/
def OwnsAt (Γ : Env) (σ : L2.St) (a : Addr) : Prop := ∃ (i : Nat) (s : Slot), Γ[i]? = some s ∧ s.isOwn = true ∧ σ[i]? = some (some (V.ref a))
def ParAt (Γ : Env) (σ : L2.St) (a : Addr) : Prop := ∃ (i : Nat) (ds : List PyData), Γ[i]? = some (.par ds) ∧ σ[i]? = some (some (V.ref a))
def OwnAtO (Γ : Env) (σ : L2.St) (a : Addr) : Prop := (∃ (i : Nat) (ds : List PyData), Γ[i]? = some (.own ds) ∧ σ[i]? = some (some (V.ref a))) ∨ ∃ (i : Nat) (kvs : List (PySem.NestedKey × PyData)), Γ[i]? = some (.od kvs) ∧ σ[i]? = some (some (V.ref a))
def rebase (Γ : Env) (F : Hp) (σ : L2.St) (H : Hp) : Bs := ⟨F, H, ParAt Γ σ, OwnAtO Γ σ⟩
section
variable {K : PySem.W.Frag} {B : Bs} {Γ Γ' : Env} {F F' H H' : Hp} {σ : L2.St}
theorem Rel.rebased (R : Rel K B Γ F σ H) : Rel K (rebase Γ F σ H) Γ F σ H := by
  refine ⟨R.len, fun i s h => ?_, R.dist, Ex.refl F, R.ext, fun b o e _ _ => e, fun b o e => .inl e, R.pl, fun b e => e⟩
  have q := R.slot i s h
  cases s with
  | no => trivial
  | val d => exact q
  | dic kvs => exact q
  | fd kvs => exact q
  | own ds => obtain ⟨a, vs, e, h1, h2, h3, h4⟩ := q; exact ⟨a, vs, e, h1, .inr (.inl ⟨i, ds, h, e⟩), h3, h4⟩
  | od kvs => obtain ⟨a, vs, e, h1, h2, h3, h4⟩ := q; exact ⟨a, vs, e, h1, .inr (.inr ⟨i, kvs, h, e⟩), h3, h4⟩
  | par ds => obtain ⟨a, vs, e, h1, h2, h3, h4⟩ := q; exact ⟨a, vs, e, h1, ⟨i, ds, h, e⟩, h3, h4⟩
theorem Rel.back (R : Rel K B Γ F σ H) (R' : Rel K (rebase Γ F σ H) Γ' F' σ H') : Rel K B Γ' F' σ H' := by
  have own1 : ∀ b, OwnAtO Γ σ b → B.H0 b = none ∨ B.Z b := fun b w => by
    rcases w with ⟨i, ds, h, e⟩ | ⟨i, ds, h, e⟩ <;>
    · obtain ⟨a, vs, e', h1, h2, h3, h4⟩ := R.slot i _ h
      rw [e] at e'; cases e'; exact h2
  have par1 : ∀ b, ParAt Γ σ b → B.M b := fun b ⟨i, ds, h, e⟩ => by
    obtain ⟨a, vs, e', h1, h2, h3, h4⟩ := R.slot i _ h
    rw [e] at e'; cases e'; exact h2
  refine ⟨R'.len, fun i s h => ?_, R'.dist, R.ext0.trans R'.ext0, R'.ext, fun b o e hm hz => ?_, fun b o e => ?_, R'.pl, fun b e => R.fresh b (R'.fresh b e)⟩
  · have q := R'.slot i s h
    cases s with
    | no => trivial
    | val d => exact q
    | dic kvs => exact q
    | fd kvs => exact q
    | own ds =>
      obtain ⟨a, vs, e, h1, h2, h3, h4⟩ := q
      refine ⟨a, vs, e, h1, ?_, h3, h4⟩
      rcases h2 with z | z
      · exact .inl (R.fresh a z)
      · exact own1 a z
    | od kvs =>
      obtain ⟨a, vs, e, h1, h2, h3, h4⟩ := q
      refine ⟨a, vs, e, h1, ?_, h3, h4⟩
      rcases h2 with z | z
      · exact .inl (R.fresh a z)
      · exact own1 a z
    | par ds => obtain ⟨a, vs, e, h1, h2, h3, h4⟩ := q; exact ⟨a, vs, e, h1, par1 a h2, h3, h4⟩
  · refine R'.frame b o (R.frame b o e hm hz) (fun z => hm (par1 b z)) fun z => ?_
    rcases own1 b z with y | y
    · rw [y] at e; cases e
    · exact hz y
  · rcases R'.newF b o e with z | z | z
    · exact R.newF b o z
    · exact .inr (.inl (R.fresh b z))
    · exact .inr (own1 b z)
/-- a hidden address: tracked, not known, not owned -/
structure Hid (Γ : Env) (F : Hp) (σ : L2.St) (H : Hp) (p : Addr) (o : HO) : Prop where
  here : H p = some o
  noF : F p = none
  noO : ¬ OwnsAt Γ σ p
theorem Hid.stays {p : Addr} {o : HO} (h : Hid Γ F σ H p o) (R' : Rel K (rebase Γ F σ H) Γ' F' σ H') : Hid Γ' F' σ H' p o := by
  have nP : ¬ ParAt Γ σ p := fun ⟨i, ds, q, e⟩ => h.noO ⟨i, _, q, rfl, e⟩
  have nO : ¬ OwnAtO Γ σ p := fun w => by
    rcases w with ⟨i, ds, q, e⟩ | ⟨i, ds, q, e⟩ <;> exact h.noO ⟨i, _, q, rfl, e⟩
  refine ⟨R'.frame p o h.here nP nO, ?_, fun ⟨i, s, q, w, e⟩ => ?_⟩
  · cases q : F' p with
    | none => rfl
    | some u =>
      rcases R'.newF p u q with z | z | z
      · have z' : F p = some u := z
        rw [h.noF] at z'; cases z'
      · have z' : H p = none := z
        rw [h.here] at z'; cases z'
      · exact absurd z nO
  · have z := R'.slot i s q
    cases s with
    | no => cases w
    | val d => cases w
    | dic kvs => cases w
    | fd kvs => cases w
    | own ds =>
      obtain ⟨a, vs, e', _, h2, _, _⟩ := z
      rw [e] at e'; cases e'
      rcases h2 with y | y
      · have y' : H p = none := y
        rw [h.here] at y'; cases y'
      · exact nO y
    | od kvs =>
      obtain ⟨a, vs, e', _, h2, _, _⟩ := z
      rw [e] at e'; cases e'
      rcases h2 with y | y
      · have y' : H p = none := y
        rw [h.here] at y'; cases y'
      · exact nO y
    | par ds =>
      obtain ⟨a, vs, e', _, h2, _, _⟩ := z
      rw [e] at e'; cases e'
      exact nP h2
theorem Hid.laid {p : Addr} {o : HO} (R : Rel K B Γ F σ H) (hp : H p = none) : Hid Γ F σ (upd H p o) p o := by
  refine ⟨upd_same, fresh_back R.ext hp, fun ⟨i, s, q, w, e⟩ => ?_⟩
  have z := R.slot i s q
  cases s with
  | no => cases w
  | val d => cases w
  | dic kvs => cases w
  | fd kvs => cases w
  | own ds => obtain ⟨a, vs, e', _, _, h3, _⟩ := z; rw [e] at e'; cases e'; rw [hp] at h3; cases h3
  | od kvs => obtain ⟨a, vs, e', _, _, h3, _⟩ := z; rw [e] at e'; cases e'; rw [hp] at h3; cases h3
  | par ds => obtain ⟨a, vs, e', _, _, h3, _⟩ := z; rw [e] at e'; cases e'; rw [hp] at h3; cases h3
/-- a new hidden object -/
theorem Rel.hide {p : Addr} {o : HO} (R : Rel K B Γ F σ H) (hp : H p = none) : Rel K B Γ F σ (upd H p o) :=
  R.grow ⟨Ex.new hp, Ex.refl F, R.ext.trans (Ex.new hp), fun _ _ h => .inl h, fun h => h⟩
/-- a hidden object changes -/
theorem Rel.rewrite {p : Addr} {o u : HO} (R : Rel K B Γ F σ H) (h : Hid Γ F σ H p o) (hb : B.H0 p = none) : Rel K B Γ F σ (upd H p u) := by
  refine ⟨R.len, fun i s q => ?_, R.dist, R.ext0, fun b w e => ?_, fun b w e hm hz => ?_, R.newF, R.pl, fun b e => ?_⟩
  · have z := R.slot i s q
    cases s with
    | no => trivial
    | val d => exact z
    | dic kvs => exact z
    | fd kvs => exact z
    | own ds =>
      obtain ⟨a, vs, e, h1, h2, h3, h4⟩ := z
      have n : a ≠ p := fun y => h.noO ⟨i, _, q, rfl, y ▸ e⟩
      exact ⟨a, vs, e, h1, h2, by rw [upd_ne n]; exact h3, h4⟩
    | od kvs =>
      obtain ⟨a, vs, e, h1, h2, h3, h4⟩ := z
      have n : a ≠ p := fun y => h.noO ⟨i, _, q, rfl, y ▸ e⟩
      exact ⟨a, vs, e, h1, h2, by rw [upd_ne n]; exact h3, h4⟩
    | par ds =>
      obtain ⟨a, vs, e, h1, h2, h3, h4⟩ := z
      have n : a ≠ p := fun y => h.noO ⟨i, _, q, rfl, y ▸ e⟩
      exact ⟨a, vs, e, h1, h2, by rw [upd_ne n]; exact h3, h4⟩
  · rw [upd_ne (fun y => by subst y; rw [h.noF] at e; cases e)]; exact R.ext b w e
  · rw [upd_ne (fun y => by subst y; rw [hb] at e; cases e)]; exact R.frame b w e hm hz
  · by_cases y : b = p
    · subst y; rw [upd_same] at e; cases e
    · rw [upd_ne y] at e; exact R.fresh b e
/-- a hidden list becomes known -/
theorem Rel.show {p : Addr} {vs : List V} {ds : List PyData} (R : Rel K B Γ F σ H) (h : Hid Γ F σ H p (.lst vs)) (hb : B.H0 p = none ∨ B.Z p) (hd : DpAll K F vs ds) :
    Rel K B Γ (upd F p (.lst vs)) σ H ∧ Ex F (upd F p (.lst vs)) ∧ Dp K (upd F p (.lst vs)) (.ref p) (.list ds) := by
  have ex : Ex F (upd F p (.lst vs)) := Ex.new h.noF
  refine ⟨⟨R.len, fun i s q => ?_, R.dist, R.ext0.trans ex, fun b w e => ?_, R.frame, fun b w e => ?_, R.pl.upd trivial, R.fresh⟩, ex, .lst (sq_of upd_same) (dpa_mono ex hd)⟩
  · have z := R.slot i s q
    cases s with
    | no => trivial
    | val d => obtain ⟨v, e1, e2⟩ := z; exact ⟨v, e1, dp_mono ex e2⟩
    | dic kvs => obtain ⟨a, ws, e, h1, h2⟩ := z; exact ⟨a, ws, e, ex _ _ h1, kva_mono ex h2⟩
    | fd kvs => obtain ⟨a, ws, e, h1, h2⟩ := z; exact ⟨a, ws, e, ex _ _ h1, od_mono ex h2⟩
    | own ds =>
      obtain ⟨a, vs, e, h1, h2, h3, h4⟩ := z
      have n : a ≠ p := fun y => h.noO ⟨i, _, q, rfl, y ▸ e⟩
      exact ⟨a, vs, e, by rw [upd_ne n]; exact h1, h2, h3, dpa_mono ex h4⟩
    | od kvs =>
      obtain ⟨a, vs, e, h1, h2, h3, h4⟩ := z
      have n : a ≠ p := fun y => h.noO ⟨i, _, q, rfl, y ▸ e⟩
      exact ⟨a, vs, e, by rw [upd_ne n]; exact h1, h2, h3, od_mono ex h4⟩
    | par ds =>
      obtain ⟨a, vs, e, h1, h2, h3, h4⟩ := z
      have n : a ≠ p := fun y => h.noO ⟨i, _, q, rfl, y ▸ e⟩
      exact ⟨a, vs, e, by rw [upd_ne n]; exact h1, h2, h3, dpa_mono ex h4⟩
  · by_cases y : b = p
    · subst y; rw [upd_same] at e; cases e; exact h.here
    · rw [upd_ne y] at e; exact R.ext b w e
  · by_cases y : b = p
    · subst y; exact .inr hb
    · rw [upd_ne y] at e; exact R.newF b w e
/-- a hidden list gets a slot -/
theorem Rel.setHid {p : Addr} {vs : List V} {ds : List PyData} (R : Rel K B Γ F σ H) (h : Hid Γ F σ H p (.lst vs)) (hb : B.H0 p = none ∨ B.Z p) (hd : DpAll K F vs ds) {i : Nat} :
    Rel K B (Γ.set i (.own ds)) F (σ.set i (some (.ref p))) H := by
  have lt : ∀ (j : Nat) (s : Slot), (Γ.set i (.own ds))[j]? = some s → j < Γ.length := fun j s h => by
    have := (List.getElem?_eq_some_iff.mp h).1
    rw [List.length_set] at this; exact this
  refine ⟨by rw [List.length_set, List.length_set]; exact R.len, fun j s q => ?_, fun j k s t a hjk h1 h2 h3 h4 h5 h6 => ?_, R.ext0, R.ext, R.frame, R.newF, R.pl, R.fresh⟩
  · by_cases hj : i = j
    · subst hj
      have hl := lt i s q
      rw [List.getElem?_set_self hl] at q
      cases q
      rw [List.getElem?_set_self (by rw [R.len]; exact hl)]
      exact ⟨p, vs, rfl, h.noF, hb, h.here, hd⟩
    · rw [List.getElem?_set_ne hj] at q
      rw [List.getElem?_set_ne hj]
      exact R.slot j s q
  · by_cases ej : i = j
    · subst ej
      have hl := lt i s h1
      rw [List.getElem?_set_self (by rw [R.len]; exact hl)] at h5
      cases h5
      rw [List.getElem?_set_ne hjk] at h3 h6
      exact h.noO ⟨k, t, h3, h4, h6⟩
    · by_cases ek : i = k
      · subst ek
        have hl := lt i t h3
        rw [List.getElem?_set_self (by rw [R.len]; exact hl)] at h6
        cases h6
        rw [List.getElem?_set_ne ej] at h1 h5
        exact h.noO ⟨j, s, h1, h2, h5⟩
      · rw [List.getElem?_set_ne ej] at h1 h5
        rw [List.getElem?_set_ne ek] at h3 h6
        exact R.dist j k s t a hjk h1 h2 h3 h4 h5 h6
theorem Rel.setHidO {p : Addr} {ws : List (PySem.NestedKey × Addr × V)} {kvs : List (PySem.NestedKey × PyData)} (R : Rel K B Γ F σ H) (h : Hid Γ F σ H p (odHO p ws)) (hb : B.H0 p = none ∨ B.Z p) (hd : OdAll K F ws kvs) {i : Nat} :
    Rel K B (Γ.set i (.od kvs)) F (σ.set i (some (.ref p))) H := by
  have lt : ∀ (j : Nat) (s : Slot), (Γ.set i (.od kvs))[j]? = some s → j < Γ.length := fun j s h => by
    have := (List.getElem?_eq_some_iff.mp h).1
    rw [List.length_set] at this; exact this
  refine ⟨by rw [List.length_set, List.length_set]; exact R.len, fun j s q => ?_, fun j k s t a hjk h1 h2 h3 h4 h5 h6 => ?_, R.ext0, R.ext, R.frame, R.newF, R.pl, R.fresh⟩
  · by_cases hj : i = j
    · subst hj
      have hl := lt i s q
      rw [List.getElem?_set_self hl] at q
      cases q
      rw [List.getElem?_set_self (by rw [R.len]; exact hl)]
      exact ⟨p, ws, rfl, h.noF, hb, h.here, hd⟩
    · rw [List.getElem?_set_ne hj] at q
      rw [List.getElem?_set_ne hj]
      exact R.slot j s q
  · by_cases ej : i = j
    · subst ej
      have hl := lt i s h1
      rw [List.getElem?_set_self (by rw [R.len]; exact hl)] at h5
      cases h5
      rw [List.getElem?_set_ne hjk] at h3 h6
      exact h.noO ⟨k, t, h3, h4, h6⟩
    · by_cases ek : i = k
      · subst ek
        have hl := lt i t h3
        rw [List.getElem?_set_self (by rw [R.len]; exact hl)] at h6
        cases h6
        rw [List.getElem?_set_ne ej] at h1 h5
        exact h.noO ⟨j, s, h1, h2, h5⟩
      · rw [List.getElem?_set_ne ej] at h1 h5
        rw [List.getElem?_set_ne ek] at h3 h6
        exact R.dist j k s t a hjk h1 h2 h3 h4 h5 h6
end

/-! ### an expression's worth for a slot: a value, or a list of one's own -/
abbrev NX := Env → Option (Slot × Env)
def Held (K : PySem.W.Frag) (B : Bs) (Γ : Env) (F : Hp) (σ : L2.St) (H : Hp) (v : V) : Slot → Prop
  | .val d => Dp K F v d
  | .own ds => ∃ p vs, v = .ref p ∧ Hid Γ F σ H p (.lst vs) ∧ (B.H0 p = none ∨ B.Z p) ∧ DpAll K F vs ds
  | .dic kvs => ∃ p ws, v = .ref p ∧ F p = some (.dK ws) ∧ KvAll K F ws kvs
  | .fd kvs => ∃ p ws, v = .ref p ∧ F p = some (odHO p ws) ∧ OdAll K F ws kvs
  | .od kvs => ∃ p ws, v = .ref p ∧ Hid Γ F σ H p (odHO p ws) ∧ (B.H0 p = none ∨ B.Z p) ∧ OdAll K F ws kvs
  | _ => False
def EvN (K : PySem.W.Frag) (te : TE) (e : NX) : Prop := ∀ (B : Bs) (Γ : Env) (F : Hp) (σ : L2.St) (H : Hp) (r : Slot) (Γ' : Env), Rel K B Γ F σ H → e Γ = some (r, Γ') →
  ∀ Q : VK, (∀ v F' H', Ex F F' → Rel K B Γ' F' σ H' → Held K B Γ' F' σ H' v r → Q v H') → te σ H Q
def NP (X : Cx) (e : Expr) (f : NX) : Prop := ∃ te, PE X e te ∧ EvN X.K te f
def nVal (f : EX) : NX := fun Γ => (f Γ).bind fun x => some (.val x.1, x.2)
/-- a new list, kept as one's own -/
def nOwn (f : NX) : EX := fun Γ => (f Γ).bind fun x => match x.1 with
  | .own ds => some (.list ds, x.2)
  | .val d => some (d, x.2)
  | _ => none
def nLst (a : AX) : NX := fun Γ => (a Γ).bind fun x => if x.1.length ≤ 100000 then some (.own x.1, x.2) else none
/-- a list of one's own that stands in a slot is given away -/
def nTake (i : Nat) : NX := fun Γ => match (Γ[i]? : Option Slot) with
  | some (.own ds) => some (.own ds, Γ.set i .no)
  | _ => none
section
variable {X : Cx} {pos : Pos} {f : EX}
theorem set_same {α : Type} : ∀ {l : List α} {i : Nat} {x : α}, l[i]? = some x → l.set i x = l
  | [], _, _, h => by simp at h
  | a :: l, 0, x, h => by simp at h; subst h; rfl
  | a :: l, i + 1, x, h => by rw [List.set_cons_succ, set_same (l := l) (i := i) (x := x) (by simpa using h)]
theorem np_take {x : Str} (i : Nat) (hN : X.N[i]? = some x := by rfl) (hv : Vis X.env.scope x := by first | exact Or.inl rfl | exact Or.inr (Or.inl rfl) | exact Or.inr (Or.inr rfl)) (hd : (x == ("__debug__" : Str)) = false := by decide)
    (hcd : (x == ("__classdict__" : Str)) = false := by decide) : NP X (.Name x pos) (nTake i) := by
  refine ⟨_, pe_var hN hv hd hcd, ?_⟩
  intro B Γ F σ H r Γ' R e Q q
  unfold nTake at e
  cases h : Γ[i]? with
  | none => simp only [h] at e; cases e
  | some s =>
    cases s with
    | own ds =>
      simp only [h] at e
      cases e
      obtain ⟨a, vs, ea, h1, h2, h3, h4⟩ := R.slot i _ h
      have R' : Rel X.K B (Γ.set i .no) F σ H := by
        have := R.setNo (i := i) (o := some (.ref a))
        rw [set_same ea] at this
        exact this
      have hl : i < Γ.length := (List.getElem?_eq_some_iff.mp h).1
      have hh : Hid (Γ.set i .no) F σ H a (.lst vs) := ⟨h3, h1, fun ⟨j, s, q1, q2, q3⟩ => by
        by_cases hj : i = j
        · subst hj
          rw [List.getElem?_set_self hl] at q1
          cases q1; cases q2
        · rw [List.getElem?_set_ne hj] at q1
          exact R.dist i j _ s a hj h rfl q1 q2 ea q3⟩
      refine ⟨.ref a, ea, ?_⟩
      exact q _ F H (Ex.refl F) R' ⟨a, vs, rfl, hh, h2, h4⟩
    | od kvs => simp only [h] at e; cases e
    | _ => simp only [h] at e; cases e
theorem np_val {e : Expr} (h : EP X e f) : NP X e (nVal f) := by
  obtain ⟨te, h1, h2⟩ := h
  refine ⟨_, h1, ?_⟩
  intro B Γ F σ H r Γ' R e Q q
  obtain ⟨⟨x, Γ1⟩, e1, e⟩ := bind_eq e
  cases e
  exact h2 B Γ F σ H x Γ1 R e1 Q fun v F' H' ex R' d => q v F' H' ex R' d
theorem ep_own {e : Expr} {n : NX} (h : NP X e n) : EP X e (nOwn n) := by
  obtain ⟨te, h1, h2⟩ := h
  refine ⟨_, h1, ?_⟩
  intro B Γ F σ H r Γ' R e Q q
  obtain ⟨⟨x, Γ1⟩, e1, e⟩ := bind_eq e
  refine h2 B Γ F σ H x Γ1 R e1 Q fun v F' H' ex R' hd => ?_
  cases x with
  | no => cases e
  | par ds => cases e
  | val d => cases e; exact q v F' H' ex R' hd
  | dic kvs => cases e
  | fd kvs => cases e
  | own ds =>
    cases e
    obtain ⟨p, vs, rfl, hh, hb, hda⟩ := hd
    obtain ⟨R2, ex2, d2⟩ := R'.show hh hb hda
    exact q _ _ H' (ex.trans ex2) R2 d2
  | od kvs => cases e
theorem np_lst {es : List Expr} {k : AX} (h : AP X es k) : NP X (.List es pos) (nLst k) := by
  obtain ⟨ta, g1, g2⟩ := h
  refine ⟨_, pe_lst g1, ?_⟩
  intro B Γ F σ H r Γ' R e Q q
  obtain ⟨⟨xs, Γ1⟩, e1, e⟩ := bind_eq e
  split at e
  · rename_i hl
    cases e
    refine g2 B Γ F σ H xs Γ1 R e1 _ fun vs F1 H1 x1 R1 d1 => ?_
    refine ⟨sz_of (by rw [dpa_len d1]; exact hl), fun p hp => ?_⟩
    exact q _ F1 _ x1 (R1.hide hp) ⟨p, vs, rfl, .laid R1 hp, .inl (R1.fresh p hp), d1⟩
  · cases e
end

/-! ### statements -/
inductive Out where
  | nx (Γ : Env)
  | rt (r : PyData) (Γ : Env)
  | bk (Γ : Env)
  | ct (Γ : Env)
  /-- a new list of one's own is handed back -/
  | rl (ds : List PyData) (Γ : Env)
abbrev SX := Env → Option Out
def EndsOk (K : PySem.W.Frag) (B : Bs) (F : Hp) (D : Ends) : Out → Prop
  | .nx Γ' => ∀ F' σ' H', Ex F F' → Rel K B Γ' F' σ' H' → D.nx σ' H'
  | .rt r Γ' => ∀ v F' σ' H', Ex F F' → Rel K B Γ' F' σ' H' → Dp K F' v r → D.rt v H'
  | .bk Γ' => ∀ F' σ' H', Ex F F' → Rel K B Γ' F' σ' H' → D.bk σ' H'
  | .ct Γ' => ∀ F' σ' H', Ex F F' → Rel K B Γ' F' σ' H' → D.ct σ' H'
  | .rl ds Γ' => ∀ v F' σ' H', Ex F F' → Rel K B Γ' F' σ' H' → Held K B Γ' F' σ' H' v (.own ds) → D.rt v H'
theorem EndsOk.mono {K : PySem.W.Frag} {B : Bs} {F F1 : Hp} {D : Ends} {o : Out} (e : Ex F F1) (h : EndsOk K B F D o) : EndsOk K B F1 D o := by
  cases o with
  | nx Γ' => exact fun F' σ' H' x => h F' σ' H' (e.trans x)
  | rt r Γ' => exact fun v F' σ' H' x => h v F' σ' H' (e.trans x)
  | bk Γ' => exact fun F' σ' H' x => h F' σ' H' (e.trans x)
  | ct Γ' => exact fun F' σ' H' x => h F' σ' H' (e.trans x)
  | rl ds Γ' => exact fun v F' σ' H' x => h v F' σ' H' (e.trans x)
def EvS (K : PySem.W.Frag) (ts : TS) (s : SX) : Prop := ∀ (B : Bs) (Γ : Env) (F : Hp) (σ : L2.St) (H : Hp) (o : Out), Rel K B Γ F σ H → s Γ = some o →
  ∀ D : Ends, EndsOk K B F D o → ts D σ H
def SP (X : Cx) (st : Stmt) (s : SX) : Prop := ∃ ts, PS X st ts ∧ EvS X.K ts s
def BP (X : Cx) (sts : List Stmt) (s : SX) : Prop := ∃ ts, PSs X sts ts ∧ EvS X.K ts s

def sNext : SX := fun Γ => some (.nx Γ)
def sSeq (s t : SX) : SX := fun Γ => (s Γ).bind fun o => match o with
  | .nx Γ1 => t Γ1
  | .rt r Γ1 => some (.rt r Γ1)
  | .bk Γ1 => some (.bk Γ1)
  | .ct Γ1 => some (.ct Γ1)
  | .rl ds Γ1 => some (.rl ds Γ1)
def sIf (t : TX) (a b : SX) : SX := fun Γ => (t Γ).bind fun x => if x.1 = true then a x.2 else b x.2
def sRet (e : EX) : SX := fun Γ => (e Γ).bind fun x => some (.rt x.1 x.2)
def sRetN : SX := fun Γ => some (.rt .none Γ)
def sBreak : SX := fun Γ => some (.bk Γ)
def sCont : SX := fun Γ => some (.ct Γ)
def sDrop (e : EX) : SX := fun Γ => (e Γ).bind fun x => some (.nx x.2)
def sNever : SX := fun _ => none
def sSet (i : Nat) (n : NX) : SX := fun Γ => (n Γ).bind fun x => some (.nx (x.2.set i x.1))
section
variable {X : Cx} {st : Stmt} {rest : List Stmt} {s t u : SX} {pos : Pos} {e : Expr} {f : EX}
theorem bp_nil : BP X [] sNext := ⟨_, pss_nil, fun B Γ F σ H o R e D h => by cases e; exact h F σ H (Ex.refl F) R⟩
theorem bp_one (h : SP X st s) : BP X [st] s := by
  obtain ⟨ts, h1, h2⟩ := h
  exact ⟨_, pss_one h1, h2⟩
theorem bp_cons (h : SP X st s) (k : BP X rest t) : BP X (st :: rest) (sSeq s t) := by
  obtain ⟨ts, h1, h2⟩ := h
  obtain ⟨tr, k1, k2⟩ := k
  refine ⟨_, pss_cons h1 k1, ?_⟩
  intro B Γ F σ H o R e D hD
  obtain ⟨o1, e1, e⟩ := bind_eq e
  refine h2 B Γ F σ H o1 R e1 _ ?_
  cases o1 with
  | nx Γ1 => exact fun F' σ' H' x R' => k2 B Γ1 F' σ' H' o R' e D (hD.mono x)
  | rt r Γ1 => cases e; exact hD
  | bk Γ1 => cases e; exact hD
  | ct Γ1 => cases e; exact hD
  | rl ds Γ1 => cases e; exact hD
theorem bp_never {sts : List Stmt} : BP X sts sNever := ⟨_, pss_never, fun _ _ _ _ _ _ _ e => by cases e⟩
theorem sp_never : SP X st sNever := ⟨_, ps_never, fun _ _ _ _ _ _ _ e => by cases e⟩
theorem sp_pass : SP X (.Pass pos) sNext := ⟨_, ps_pass, fun B Γ F σ H o R e D h => by cases e; exact h F σ H (Ex.refl F) R⟩
theorem sp_doc {x j pos'} : SP X (.Expr (.Constant (.str x) j pos) pos') sNext := ⟨_, ps_doc, fun B Γ F σ H o R e D h => by cases e; exact h F σ H (Ex.refl F) R⟩
theorem sp_break : SP X (.Break pos) sBreak := ⟨_, ps_break, fun B Γ F σ H o R e D h => by cases e; exact h F σ H (Ex.refl F) R⟩
theorem sp_cont : SP X (.Continue pos) sCont := ⟨_, ps_continue, fun B Γ F σ H o R e D h => by cases e; exact h F σ H (Ex.refl F) R⟩
theorem sp_ret (h : EP X e f) : SP X (.Return (some e) pos) (sRet f) := by
  obtain ⟨te, h1, h2⟩ := h
  refine ⟨_, ps_ret h1, ?_⟩
  intro B Γ F σ H o R e D hD
  obtain ⟨⟨x, Γ1⟩, e1, e⟩ := bind_eq e
  cases e
  exact h2 B Γ F σ H x Γ1 R e1 _ fun v F' H' ex R' d => hD v F' σ H' ex R' d
/-- return a new list of one's own -/
def sRetL (n : NX) : SX := fun Γ => (n Γ).bind fun x => match x.1 with
  | .own ds => some (.rl ds x.2)
  | _ => none
theorem sp_retL {n : NX} (h : NP X e n) : SP X (.Return (some e) pos) (sRetL n) := by
  obtain ⟨te, h1, h2⟩ := h
  refine ⟨_, ps_ret h1, ?_⟩
  intro B Γ F σ H o R e D hD
  obtain ⟨⟨x, Γ1⟩, e1, e⟩ := bind_eq e
  cases x with
  | own ds =>
    cases e
    exact h2 B Γ F σ H _ Γ1 R e1 _ fun v F' H' ex R' d => hD v F' σ H' ex R' d
  | _ => cases e
theorem sp_retN : SP X (.Return none pos) sRetN := ⟨_, ps_retN, fun B Γ F σ H o R e D h => by cases e; exact h .non F σ H (Ex.refl F) R .non⟩
theorem sp_expr (h : EP X e f) (hs : swapsWith e none pos.line X.env = pure false := by rfl) : SP X (.Expr e pos) (sDrop f) := by
  obtain ⟨te, h1, h2⟩ := h
  refine ⟨_, ps_expr h1 hs, ?_⟩
  intro B Γ F σ H o R e D hD
  obtain ⟨⟨x, Γ1⟩, e1, e⟩ := bind_eq e
  cases e
  exact h2 B Γ F σ H x Γ1 R e1 _ fun v F' H' ex R' d => hD F' σ H' ex R'
theorem sp_if {c : Expr} {a b : List Stmt} {tc : TX} (hc : TP X c tc) (ha : BP X a s) (hb : BP X b t) : SP X (.If c a b pos) (sIf tc s t) := by
  obtain ⟨tt, c1, c2⟩ := hc
  obtain ⟨ta, a1, a2⟩ := ha
  obtain ⟨tb, b1, b2⟩ := hb
  refine ⟨_, ps_if c1 a1 b1, ?_⟩
  intro B Γ F σ H o R e D hD
  obtain ⟨⟨x, Γ1⟩, e1, e⟩ := bind_eq e
  refine c2 B Γ F σ H x Γ1 R e1 _ fun F1 H1 x1 R1 => ?_
  cases x with
  | true => show ta D σ H1; exact a2 B Γ1 F1 σ H1 o R1 e D (hD.mono x1)
  | false => show tb D σ H1; exact b2 B Γ1 F1 σ H1 o R1 e D (hD.mono x1)
theorem Rel.setHeld {K : PySem.W.Frag} {B : Bs} {Γ : Env} {F H : Hp} {σ : L2.St} (R : Rel K B Γ F σ H) {v : V} {r : Slot} (h : Held K B Γ F σ H v r) (i : Nat) : Rel K B (Γ.set i r) F (σ.set i (some v)) H := by
  cases r with
  | no => cases h
  | par ds => cases h
  | val d => exact R.setVal h
  | dic kvs => obtain ⟨p, ws, rfl, h1, h2⟩ := h; exact R.setDic h1 h2
  | fd kvs => obtain ⟨p, ws, rfl, h1, h2⟩ := h; exact R.setFd h1 h2
  | own ds => obtain ⟨p, vs, rfl, h1, h2, h3⟩ := h; exact R.setHid h1 h2 h3
  | od kvs => obtain ⟨p, ws, rfl, h1, h2, h3⟩ := h; exact R.setHidO h1 h2 h3
theorem sp_set {i : Nat} {x : Str} {n : NX} {pos' : Pos} (he : NP X e n) (hN : X.N.Nodup) (hi : X.N[i]? = some x := by rfl) (hx : Loc X.env.scope x := by first | exact Or.inl rfl | exact Or.inr rfl)
    (hs : swapsWith e (some (.Name x pos')) pos.line X.env = pure false := by rfl) (hf : X.fn x = true ∨ X.env.scope.names.lookup x = some .local := by first | exact .inl rfl | exact .inr rfl | assumption) : SP X (.Assign [.Name x pos'] e pos) (sSet i n) := by
  obtain ⟨te, h1, h2⟩ := he
  refine ⟨_, ps_set hN hi hx h1 hs hf, ?_⟩
  intro B Γ F σ H o R e D hD
  obtain ⟨⟨r, Γ1⟩, e1, e⟩ := bind_eq e
  cases e
  exact h2 B Γ F σ H r Γ1 R e1 _ fun v F' H' ex R' hh => hD F' _ H' ex (R'.setHeld hh i)
end
end Z
set_option Elab.async false
set_option linter.all false
set_option maxRecDepth 100000
set_option maxHeartbeats 2000000
/-! Z: targets, stores, loops, comprehensions -/
namespace Z
open PySem L2 Evl PyProof.Rows

section
variable {K : PySem.W.Frag} {B : Bs} {Γ Γ' Γ1 : Env} {F F' F1 H H' H1 : Hp} {σ : L2.St} {v : V} {r : Slot}
/-- what is held stays while something else is reckoned -/
theorem Held.stays (R1 : Rel K B Γ F σ H) (h : Held K B Γ F σ H v r) (R' : Rel K (rebase Γ F σ H) Γ' F' σ H') : Held K B Γ' F' σ H' v r := by
  cases r with
  | no => cases h
  | par ds => cases h
  | val d => exact dp_mono R'.ext0 h
  | dic kvs => obtain ⟨p, ws, e, h1, h2⟩ := h; exact ⟨p, ws, e, R'.ext0 _ _ h1, kva_mono R'.ext0 h2⟩
  | fd kvs => obtain ⟨p, ws, e, h1, h2⟩ := h; exact ⟨p, ws, e, R'.ext0 _ _ h1, od_mono R'.ext0 h2⟩
  | own ds =>
    obtain ⟨p, vs, rfl, h1, h2, h3⟩ := h
    exact ⟨p, vs, rfl, h1.stays R', h2, dpa_mono R'.ext0 h3⟩
  | od kvs =>
    obtain ⟨p, vs, rfl, h1, h2, h3⟩ := h
    exact ⟨p, vs, rfl, h1.stays R', h2, od_mono R'.ext0 h3⟩
theorem Held.back (R1 : Rel K B Γ F σ H) (h : Held K (rebase Γ F σ H) Γ' F' σ H' v r) : Held K B Γ' F' σ H' v r := by
  cases r with
  | no => cases h
  | par ds => cases h
  | val d => exact h
  | dic kvs => exact h
  | fd kvs => exact h
  | own ds =>
    obtain ⟨p, vs, e, h1, h2, h3⟩ := h
    refine ⟨p, vs, e, h1, ?_, h3⟩
    rcases h2 with h2 | ⟨i, ds', h, e'⟩ | ⟨i, ds', h, e'⟩
    · exact .inl (R1.fresh p h2)
    · obtain ⟨a, vs', e2, _, h4, _⟩ := R1.slot i _ h
      rw [e'] at e2; cases e2; exact h4
    · obtain ⟨a, vs', e2, _, h4, _⟩ := R1.slot i _ h
      rw [e'] at e2; cases e2; exact h4
  | od kvs =>
    obtain ⟨p, vs, e, h1, h2, h3⟩ := h
    refine ⟨p, vs, e, h1, ?_, h3⟩
    rcases h2 with h2 | ⟨i, ds', h, e'⟩ | ⟨i, ds', h, e'⟩
    · exact .inl (R1.fresh p h2)
    · obtain ⟨a, vs', e2, _, h4, _⟩ := R1.slot i _ h
      rw [e'] at e2; cases e2; exact h4
    · obtain ⟨a, vs', e2, _, h4, _⟩ := R1.slot i _ h
      rw [e'] at e2; cases e2; exact h4
end
def aPair (n m : NX) : Env → Option ((Slot × Slot) × Env) := fun Γ => (n Γ).bind fun x => (m x.2).bind fun y => some ((x.1, y.1), y.2)
def sPar (i j : Nat) (n m : NX) : SX := fun Γ => (n Γ).bind fun x => (m x.2).bind fun y => some (.nx ((y.2.set i x.1).set j y.1))
section
variable {X : Cx} {pos : Pos} {e e2 : Expr} {f g : EX} {n m : NX}
theorem sp_par {i j : Nat} {x y : Str} {px py pt : Pos} {kt k2 pt2} (ha : NP X e n) (hb : NP X e2 m) (hc : X.calm = true) (hN : X.N.Nodup) (hi : X.N[i]? = some x := by rfl) (hj : X.N[j]? = some y := by rfl) (hij : i ≠ j := by decide)
    (hx : X.env.scope.names.lookup x = some .local := by rfl) (hy : X.env.scope.names.lookup y = some .local := by rfl)
    (hw : swappedStores [.Tuple [.Name x px, .Name y py] kt pt] (.Tuple [e, e2] k2 pt2) X.env = pure (some [x, y]) := by rfl)
    (hs : swapsWithSole [.Tuple [.Name x px, .Name y py] kt pt] (.Tuple [e, e2] k2 pt2) pos.line X.env = pure false := by rfl)
    (hz : starEach [e, e2] X.env = (false, eval e X.env) :: starEach [e2] X.env := by rfl) (hz2 : starEach [e2] X.env = (false, eval e2 X.env) :: starEach [] X.env := by rfl) :
    SP X (.Assign [.Tuple [.Name x px, .Name y py] kt pt] (.Tuple [e, e2] k2 pt2) pos) (sPar i j n m) := by
  obtain ⟨ta, a1, a2⟩ := ha
  obtain ⟨tb, b1, b2⟩ := hb
  refine ⟨_, ps_par hc hN hi hj hij hx hy (pa_cons a1 (pa_cons b1 pa_nil hz2) hz) hw hs, ?_⟩
  intro B Γ F σ H o R h D hD
  obtain ⟨⟨r1, Γ1⟩, h1, h⟩ := bind_eq h
  obtain ⟨⟨r2, Γ2⟩, h2, h⟩ := bind_eq h
  cases h
  refine a2 B Γ F σ H r1 Γ1 R h1 _ fun v F1 H1 x1 R1 d1 => ?_
  refine b2 (rebase Γ1 F1 σ H1) Γ1 F1 σ H1 r2 Γ2 R1.rebased h2 _ fun w F2 H2 x2 R2 d2 => ?_
  have S2 := R1.back R2
  have g1 := d1.stays R1 R2
  have g2 := Held.back R1 d2
  have S3 := S2.setHeld g1 i
  refine ⟨v, w, rfl, hD F2 _ H2 (x1.trans x2) (S3.setHeld ?_ j)⟩
  cases r2 with
  | no => cases g2
  | par ds => cases g2
  | val d => exact g2
  | dic kvs => exact g2
  | fd kvs => exact g2
  | own ds =>
    obtain ⟨p, vs, rfl, hh, h0, hd⟩ := g2
    refine ⟨p, vs, rfl, ⟨hh.here, hh.noF, fun ⟨k, s, q, ho, e⟩ => ?_⟩, h0, hd⟩
    by_cases hk : i = k
    · subst hk
      have hl : i < Γ2.length := by
        have := (List.getElem?_eq_some_iff.mp q).1
        rw [List.length_set] at this; exact this
      rw [List.getElem?_set_self hl] at q
      cases q
      rw [List.getElem?_set_self (by rw [S2.len]; exact hl)] at e
      cases e
      cases r1 with
      | no => cases ho
      | val d => cases ho
      | dic kvs => cases ho
      | fd kvs => cases ho
      | par ds => cases d1
      | own ds1 =>
        obtain ⟨p1, vs1, e1, hh1, _, _⟩ := d1
        cases e1
        obtain ⟨p2, vs2, e2', _, h02, _⟩ := d2
        cases e2'
        rcases h02 with h02 | ⟨j, ds', h, e'⟩ | ⟨j, ds', h, e'⟩
        · have z : H1 p = none := h02
          rw [hh1.here] at z; cases z
        · exact hh1.noO ⟨j, _, h, rfl, e'⟩
        · exact hh1.noO ⟨j, _, h, rfl, e'⟩
      | od ds1 =>
        obtain ⟨p1, vs1, e1, hh1, _, _⟩ := d1
        cases e1
        obtain ⟨p2, vs2, e2', _, h02, _⟩ := d2
        cases e2'
        rcases h02 with h02 | ⟨j, ds', h, e'⟩ | ⟨j, ds', h, e'⟩
        · have z : H1 p = none := h02
          rw [hh1.here] at z; cases z
        · exact hh1.noO ⟨j, _, h, rfl, e'⟩
        · exact hh1.noO ⟨j, _, h, rfl, e'⟩
    · rw [List.getElem?_set_ne hk] at q e
      exact hh.noO ⟨k, s, q, ho, e⟩
  | od kvs =>
    obtain ⟨p, vs, rfl, hh, h0, hd⟩ := g2
    refine ⟨p, vs, rfl, ⟨hh.here, hh.noF, fun ⟨k, s, q, ho, e⟩ => ?_⟩, h0, hd⟩
    by_cases hk : i = k
    · subst hk
      have hl : i < Γ2.length := by
        have := (List.getElem?_eq_some_iff.mp q).1
        rw [List.length_set] at this; exact this
      rw [List.getElem?_set_self hl] at q
      cases q
      rw [List.getElem?_set_self (by rw [S2.len]; exact hl)] at e
      cases e
      cases r1 with
      | no => cases ho
      | val d => cases ho
      | dic kvs => cases ho
      | fd kvs => cases ho
      | par ds => cases d1
      | own ds1 =>
        obtain ⟨p1, vs1, e1, hh1, _, _⟩ := d1
        cases e1
        obtain ⟨p2, vs2, e2', _, h02, _⟩ := d2
        cases e2'
        rcases h02 with h02 | ⟨j, ds', h, e'⟩ | ⟨j, ds', h, e'⟩
        · have z : H1 p = none := h02
          rw [hh1.here] at z; cases z
        · exact hh1.noO ⟨j, _, h, rfl, e'⟩
        · exact hh1.noO ⟨j, _, h, rfl, e'⟩
      | od ds1 =>
        obtain ⟨p1, vs1, e1, hh1, _, _⟩ := d1
        cases e1
        obtain ⟨p2, vs2, e2', _, h02, _⟩ := d2
        cases e2'
        rcases h02 with h02 | ⟨j, ds', h, e'⟩ | ⟨j, ds', h, e'⟩
        · have z : H1 p = none := h02
          rw [hh1.here] at z; cases z
        · exact hh1.noO ⟨j, _, h, rfl, e'⟩
        · exact hh1.noO ⟨j, _, h, rfl, e'⟩
    · rw [List.getElem?_set_ne hk] at q e
      exact hh.noO ⟨k, s, q, ho, e⟩
end

/-! ### targets -/
def EvG (K : PySem.W.Frag) (g : TG) (gx : PyData → Env → Option Env) (S : List Nat) : Prop := ∀ (B : Bs) (Γ : Env) (F : Hp) (σ : L2.St) (H : Hp) (v : V) (d : PyData) (Γ' : Env), Rel K B Γ F σ H → Dp K F v d → gx d Γ = some Γ' →
  ∀ Q : L2.St → Hp → Prop, (∀ σ', Rel K B Γ' F σ' H → σ'.length = σ.length → (∀ i, i ∉ S → σ'[i]? = σ[i]?) → Q σ' H) → g v σ H Q
def EvGs (K : PySem.W.Frag) (g : TGs) (gx : List PyData → Env → Option Env) (S : List Nat) : Prop := ∀ (B : Bs) (Γ : Env) (F : Hp) (σ : L2.St) (H : Hp) (vs : List V) (ds : List PyData) (Γ' : Env), Rel K B Γ F σ H → DpAll K F vs ds → gx ds Γ = some Γ' →
  ∀ Q : L2.St → Hp → Prop, (∀ σ', Rel K B Γ' F σ' H → σ'.length = σ.length → (∀ i, i ∉ S → σ'[i]? = σ[i]?) → Q σ' H) → g vs σ H Q
def GP (X : Cx) (tg : Expr) (gx : PyData → Env → Option Env) (S : List Nat) : Prop := ∃ g, PG X tg g ∧ EvG X.K g gx S
def GPs (X : Cx) (tgs : List Expr) (gx : List PyData → Env → Option Env) (S : List Nat) : Prop := ∃ g, PGs X tgs g ∧ EvGs X.K g gx S
def gxName (i : Nat) : PyData → Env → Option Env := fun d Γ => some (Γ.set i (.val d))
def gxNil : List PyData → Env → Option Env := fun ds Γ => match ds with | [] => some Γ | _ => none
def gxCons (g : PyData → Env → Option Env) (k : List PyData → Env → Option Env) : List PyData → Env → Option Env := fun ds Γ => match ds with
  | d :: r => (g d Γ).bind fun Γ1 => k r Γ1
  | [] => none
def gxTup (n : Nat) (k : List PyData → Env → Option Env) : PyData → Env → Option Env := fun d Γ => match d with
  | .tuple ds => if ds.length = n then k ds Γ else none
  | _ => none
section
variable {X : Cx} {pos : Pos}
theorem gp_name {i : Nat} {x : Str} (hN : X.N.Nodup) (hi : X.N[i]? = some x := by rfl) (hx : Loc X.env.scope x := by first | exact Or.inl rfl | exact Or.inr rfl) (hf : X.fn x = true ∨ X.env.scope.names.lookup x = some .local := by first | exact .inl rfl | exact .inr rfl | assumption) :
    GP X (.Name x pos) (gxName i) [i] := ⟨_, pg_name hN hi hx hf, fun B Γ F σ H v d Γ' R hd e Q q => by
  cases e
  exact q _ (R.setVal hd) (List.length_set ..) fun j hj => List.getElem?_set_ne (fun e => hj (by simp [e]))⟩
theorem gps_nil : GPs X [] gxNil [] := ⟨_, pgs_nil, fun B Γ F σ H vs ds Γ' R hd e Q q => by
  cases hd with
  | nil => cases e; exact ⟨rfl, q σ R rfl fun _ _ => rfl⟩
  | cons _ _ => cases e⟩
theorem gps_cons {e : Expr} {es : List Expr} {g : PyData → Env → Option Env} {k : List PyData → Env → Option Env} {S T : List Nat} (h1 : GP X e g S) (h2 : GPs X es k T)
    (hs : (assignEach (e :: es) X.env).map (·.2) = assign e X.env :: (assignEach es X.env).map (·.2) := by rfl) : GPs X (e :: es) (gxCons g k) (S ++ T) := by
  obtain ⟨tg, a1, a2⟩ := h1
  obtain ⟨tk, b1, b2⟩ := h2
  refine ⟨_, pgs_cons a1 b1 hs, fun B Γ F σ H vs ds Γ' R hd e Q q => ?_⟩
  cases hd with
  | nil => cases e
  | cons h r =>
    obtain ⟨Γ1, e1, e⟩ := bind_eq e
    refine ⟨_, _, rfl, a2 B Γ F σ H _ _ Γ1 R h e1 _ fun σ' R' l' o' => ?_⟩
    exact b2 B Γ1 F σ' H _ _ Γ' R' r e _ fun σ2 R2 l2 o2 => q σ2 R2 (l2.trans l') fun i hi => (o2 i fun z => hi (List.mem_append_right _ z)).trans (o' i fun z => hi (List.mem_append_left _ z))
theorem gp_tup {es : List Expr} {kk : Nat} {k : List PyData → Env → Option Env} {S : List Nat} (hc : X.calm = true) (h : GPs X es k S) {n : Nat} (hn : es.length = n := by rfl)
    (hp : ∀ {t : TGs} (h : PGs X es t), PG X (.Tuple es kk pos) (gTup X.K n t) := by intro t h; exact pg_tup (by rfl) h) : GP X (.Tuple es kk pos) (gxTup n k) S := by
  obtain ⟨tk, b1, b2⟩ := h
  refine ⟨_, hp b1, fun B Γ F σ H v d Γ' R hd e Q q => ?_⟩
  cases hd with
  | tup hs ha =>
    have e' : (if _ then _ else _) = some Γ' := e
    split at e'
    · rename_i hl
      exact ⟨_, _, rfl, ex_t R.ext hs, (dpa_len ha).trans hl, b2 B Γ F σ H _ _ Γ' R ha e' Q q⟩
    · cases e'
  | _ => cases e

/-! ### assignments to targets; stores to a list of one's own -/
def sAsg (e : EX) (gx : PyData → Env → Option Env) : SX := fun Γ => (e Γ).bind fun x => (gx x.1 x.2).bind fun Γ1 => some (.nx Γ1)
theorem sp_asg {tg e : Expr} {f : EX} {gx : PyData → Env → Option Env} {S : List Nat} (he : EP X e f) (hg : GP X tg gx S) (hs : swapsWithSole [tg] e pos.line X.env = pure false := by rfl) (hw : swappedStores [tg] e X.env = pure none := by rfl)
    (ha : (assignEach [tg] X.env).map (·.2) = [assign tg X.env] := by rfl) : SP X (.Assign [tg] e pos) (sAsg f gx) := by
  obtain ⟨te, h1, h2⟩ := he
  obtain ⟨g, g1, g2⟩ := hg
  refine ⟨_, ps_asg h1 g1 hs hw ha, ?_⟩
  intro B Γ F σ H o R h D hD
  obtain ⟨⟨r1, Γ1⟩, e1, h⟩ := bind_eq h
  obtain ⟨Γ2, e2, h⟩ := bind_eq h
  cases h
  refine h2 B Γ F σ H r1 Γ1 R e1 _ fun v F1 H1 x1 R1 d1 => ?_
  exact g2 B Γ1 F1 σ H1 v r1 Γ2 R1 d1 e2 _ fun σ' R' _ _ => hD F1 σ' H1 x1 R'
/-- x[k] = e, x a list of one's own in slot i -/
def sStore (i : Nat) (k e : EX) : SX := fun Γ => (e Γ).bind fun x => (ownAt x.2 i).bind fun _ => (k x.2).bind fun y => match y.1 with
  | .int z => (ownAt y.2 i).bind fun ds => (ixN ds.length z).bind fun j => some (.nx (ownSet y.2 i (ds.set j x.1)))
  | _ => none
theorem sp_store {i : Nat} {x : Str} {px : Pos} {e k : Expr} {f h : EX} {ps : Pos} (he : EP X e f) (hk : EP X k h)
    (hp : ∀ {te ti : TE}, PE X e te → PE X k ti → PS X (.Assign [.Subscript (.Name x px) k ps] e pos) (tAsg te (gSub (tVar i) ti rSetL)) := by intro te ti h1 h3; exact ps_asg h1 (pg_sub (pv _) h3 set_list)) :
    SP X (.Assign [.Subscript (.Name x px) k ps] e pos) (sStore i h f) := by
  obtain ⟨te, h1, h2⟩ := he
  obtain ⟨ti, k1, k2⟩ := hk
  refine ⟨_, hp h1 k1, ?_⟩
  intro B Γ F σ H o R hh D hD
  obtain ⟨⟨r1, Γ1⟩, e1, hh⟩ := bind_eq hh
  obtain ⟨ds0, e0, hh⟩ := bind_eq hh
  obtain ⟨⟨r2, Γ2⟩, e2, hh⟩ := bind_eq hh
  refine h2 B Γ F σ H r1 Γ1 R e1 _ fun v F1 H1 x1 R1 d1 => ?_
  obtain ⟨a, vs0, ea, _⟩ := R1.ownGet e0
  refine ⟨.ref a, ea, ?_⟩
  refine k2 B Γ1 F1 σ H1 r2 Γ2 R1 e2 _ fun u F2 H2 x2 R2 d2 => ?_
  cases d2 with
  | int z =>
    obtain ⟨ds, hn, hh⟩ := bind_eq hh
    obtain ⟨j, e3, hh⟩ := bind_eq hh
    cases hh
    obtain ⟨a', vs, ea', hF, hH, hda⟩ := R2.ownGet hn
    rw [ea] at ea'; cases ea'
    refine ⟨a, vs, z, j, rfl, rfl, hH, by rw [dpa_len hda]; exact e3, ?_⟩
    exact hD F2 σ _ (x1.trans x2) (R2.write hn ea (dpa_set (dp_mono x2 d1) j hda))
  | _ => cases hh
/-- x.append(e) as a statement -/
def sApp (i : Nat) (e : EX) : SX := fun Γ => (ownAt Γ i).bind fun _ => (e Γ).bind fun x => (ownAt x.2 i).bind fun ds => if ds.length < 100000 then some (.nx (ownSet x.2 i (ds ++ [x.1]))) else none
theorem sp_app {i : Nat} {x : Str} {px apos cpos : Pos} {e : Expr} {f : EX} (he : EP X e f)
    (hp : ∀ {te : TE}, PE X e te → PS X (.Expr (.Call (.Attribute (.Name x px) "append" apos) [e] [] cpos) pos) (tDrop (tBM X.K "list" rAppend (tVar i) (tCons te tNil))) := by
      intro te h1; exact ps_expr (pe_bm PySem.F.plainAttrs_list PySem.F.slot_list_append PySem.F.type_list_append mt_append (pv _) (pa_cons h1 pa_nil))) :
    SP X (.Expr (.Call (.Attribute (.Name x px) "append" apos) [e] [] cpos) pos) (sApp i f) := by
  obtain ⟨te, h1, h2⟩ := he
  refine ⟨_, hp h1, ?_⟩
  intro B Γ F σ H o R hh D hD
  obtain ⟨ds0, e0, hh⟩ := bind_eq hh
  obtain ⟨⟨r1, Γ1⟩, e1, hh⟩ := bind_eq hh
  obtain ⟨ds, e2, hh⟩ := bind_eq hh
  obtain ⟨a, vs0, ea, hF0, hH0, hd0⟩ := R.ownGet e0
  refine ⟨.ref a, ea, .inl ⟨rfl, vs0, sq_of hH0⟩, ?_⟩
  refine h2 B Γ F σ H r1 Γ1 R e1 _ fun v F1 H1 x1 R1 d1 => ?_
  split at hh
  · rename_i hl
    cases hh
    obtain ⟨a', vs, ea', hF, hH, hda⟩ := R1.ownGet e2
    rw [ea] at ea'; cases ea'
    exact ⟨a, vs, v, rfl, rfl, hH, sz_lt (by rw [dpa_len hda]; exact hl), hD F1 σ _ x1 (R1.write e2 ea (dpa_app hda (.cons d1 .nil)))⟩
  · cases hh
/-- x.insert(k, e) as a statement -/
def rIns : V → List V → Hp → VK → Prop := fun x vs H Q => ∃ (l : Addr) (xs : List V) (i : Int) (y : V), x = .ref l ∧ vs = [.int i, y] ∧ H l = some (.lst xs) ∧ xs.length < sizeLine ∧ 0 ≤ i ∧ i < 2 ^ 63 ∧
    Q .non (upd H l (.lst (xs.take i.toNat ++ [y] ++ xs.drop i.toNat)))
theorem mt_ins : MtR X "list.insert" rIns := mt_insert
def sIns (i : Nat) (k e : EX) : SX := fun Γ => (ownAt Γ i).bind fun _ => (k Γ).bind fun y => (e y.2).bind fun x => match y.1 with
  | .int z => (ownAt x.2 i).bind fun ds => if ds.length < 100000 ∧ 0 ≤ z ∧ z < 100000 then some (.nx (ownSet x.2 i (ds.take z.toNat ++ [x.1] ++ ds.drop z.toNat))) else none
  | _ => none
theorem sp_ins {i : Nat} {x : Str} {px apos cpos : Pos} {k e : Expr} {h f : EX} (hk : EP X k h) (he : EP X e f)
    (hp : ∀ {tk te : TE}, PE X k tk → PE X e te → PS X (.Expr (.Call (.Attribute (.Name x px) "insert" apos) [k, e] [] cpos) pos) (tDrop (tBM X.K "list" rIns (tVar i) (tCons tk (tCons te tNil)))) := by
      intro tk te h0 h1; exact ps_expr (pe_bm PySem.F.plainAttrs_list PySem.F.slot_list_insert PySem.F.type_list_insert mt_ins (pv _) (pa_cons h0 (pa_cons h1 pa_nil)))) :
    SP X (.Expr (.Call (.Attribute (.Name x px) "insert" apos) [k, e] [] cpos) pos) (sIns i h f) := by
  obtain ⟨tk, k1, k2⟩ := hk
  obtain ⟨te, h1, h2⟩ := he
  refine ⟨_, hp k1 h1, ?_⟩
  intro B Γ F σ H o R hh D hD
  obtain ⟨ds0, e0, hh⟩ := bind_eq hh
  obtain ⟨⟨r0, Γ0⟩, q0, hh⟩ := bind_eq hh
  obtain ⟨⟨r1, Γ1⟩, e1, hh⟩ := bind_eq hh
  obtain ⟨a, vs0, ea, hF0, hH0, hd0⟩ := R.ownGet e0
  refine ⟨.ref a, ea, .inl ⟨rfl, vs0, sq_of hH0⟩, ?_⟩
  refine k2 B Γ F σ H r0 Γ0 R q0 _ fun v0 F0 H0 x0 R0 d0 => ?_
  refine h2 B Γ0 F0 σ H0 r1 Γ1 R0 e1 _ fun v F1 H1 x1 R1 d1 => ?_
  cases d0 with
  | int z =>
    obtain ⟨ds, e2, hh⟩ := bind_eq hh
    split at hh
    · rename_i hl
      cases hh
      obtain ⟨a', vs, ea', hF, hH, hda⟩ := R1.ownGet e2
      rw [ea] at ea'; cases ea'
      exact ⟨a, vs, z, v, rfl, rfl, hH, sz_lt (by rw [dpa_len hda]; exact hl.1), hl.2.1, by omega, hD F1 σ _ (x0.trans x1) (R1.write e2 ea (dpa_app (dpa_app (dpa_take _ hda) (.cons d1 .nil)) (dpa_drop _ hda)))⟩
    · cases hh
  | _ => cases hh
/-- x op= e, x a name -/
def PIE' (X : Cx) (op : Operator) (p : PyData → PyData → Option PyData) : Prop := ∃ r, PIp X op r ∧ OpP X.K r p
def sAug (i : Nat) (p : PyData → PyData → Option PyData) (f : EX) : SX := fun Γ => match Γ[i]? with
  | some (.val d) => (f Γ).bind fun y => (p d y.1).bind fun z => some (.nx (y.2.set i (.val z)))
  | _ => none
theorem sp_aug {i : Nat} {x : Str} {e : Expr} {f : EX} {op : Operator} {p : PyData → PyData → Option PyData} {pos' : Pos} (he : EP X e f) (ho : PIE' X op p)
    (hp : ∀ {te : TE} {r : TIp}, PE X e te → PIp X op r → PS X (.AugAssign (.Name x pos') op e pos) (tAug i te r) := by intro te r h1 h2; exact ps_aug (by first | assumption | decide) rfl (by first | exact Or.inl rfl | exact Or.inr rfl) h1 h2) :
    SP X (.AugAssign (.Name x pos') op e pos) (sAug i p f) := by
  obtain ⟨te, h1, h2⟩ := he
  obtain ⟨r, o1, o2⟩ := ho
  refine ⟨_, hp h1 o1, ?_⟩
  intro B Γ F σ H o R hh D hD
  unfold sAug at hh
  cases e0 : Γ[i]? with
  | none => rw [e0] at hh; cases hh
  | some s =>
    rw [e0] at hh
    cases s with
    | val d =>
      obtain ⟨⟨y, Γ1⟩, e1, hh⟩ := bind_eq hh
      obtain ⟨z, e2, hh⟩ := bind_eq hh
      cases hh
      obtain ⟨v, ev, dv⟩ := R.slot i _ e0
      refine ⟨v, ev, ?_⟩
      refine h2 B Γ F σ H y Γ1 R e1 _ fun u F1 H1 x1 R1 d1 => ?_
      exact o2 F1 H1 v u d y z R1.ext R1.pl (dp_mono x1 dv) d1 e2 _ fun w F2 H2 gr d2 => hD F2 _ H2 (x1.trans gr.ext) ((R1.grow gr).setVal d2)
    | _ => cases hh
end

/-! ### what a loop walks -/
structure Yields (K : PySem.W.Frag) (F : Hp) (J : It) (xs : List PyData) : Prop where
  go : ∀ (i : Nat) (F1 H1 : Hp), Ex F F1 → Ex F1 H1 → Pl F1 → i < xs.length → J.go i H1
  yld : ∀ (i : Nat) (F1 H1 : Hp) (x : V) (H2 : Hp), Ex F F1 → Ex F1 H1 → Pl F1 → i < xs.length → J.yld i H1 x H2 → ∃ F2 d, Grow F1 H1 F2 H2 ∧ xs[i]? = some d ∧ Dp K F2 x d
  stop : ∀ (F1 H1 : Hp), Ex F F1 → Ex F1 H1 → Pl F1 → J.stop xs.length H1
def EvI (K : PySem.W.Frag) (wi : TI) (it : AX) : Prop := ∀ (B : Bs) (Γ : Env) (F : Hp) (σ : L2.St) (H : Hp) (xs : List PyData) (Γ' : Env), Rel K B Γ F σ H → it Γ = some (xs, Γ') →
  ∀ R : It → Hp → Prop, (∀ J F' H', Ex F F' → Rel K B Γ' F' σ H' → Yields K F' J xs → R J H') → wi σ H R
def IP (X : Cx) (tg iter : Expr) (it : AX) : Prop := ∃ wi, PI X tg iter wi ∧ EvI X.K wi it
theorem Yields.mono {K : PySem.W.Frag} {F F' : Hp} {J : It} {xs : List PyData} (y : Yields K F J xs) (e : Ex F F') : Yields K F' J xs :=
  ⟨fun i F1 H1 a b c d => y.go i F1 H1 (e.trans a) b c d, fun i F1 H1 x H2 a b c d f => y.yld i F1 H1 x H2 (e.trans a) b c d f, fun F1 H1 a b c => y.stop F1 H1 (e.trans a) b c⟩

def forLoop (g : PyData → Env → Option Env) (b : SX) : List PyData → SX
  | [], Γ => some (.nx Γ)
  | x :: xs, Γ => (g x Γ).bind fun Γ1 => (b Γ1).bind fun o => match o with
    | .nx Γ2 => forLoop g b xs Γ2
    | .ct Γ2 => forLoop g b xs Γ2
    | .bk Γ2 => some (.nx Γ2)
    | .rt r Γ2 => some (.rt r Γ2)
    | .rl ds Γ2 => some (.rl ds Γ2)
def sFor (it : AX) (g : PyData → Env → Option Env) (b : SX) : SX := fun Γ => (it Γ).bind fun x => forLoop g b x.1 x.2
section
variable {X : Cx} {pos : Pos}
theorem ev_for {K : PySem.W.Frag} {wi : TI} {it : AX} {g : TG} {gx : PyData → Env → Option Env} {S : List Nat} {tb : TS} {b : SX} (hi : EvI K wi it) (hg : EvG K g gx S) (hb : EvS K tb b) : EvS K (tFor wi g tb) (sFor it gx b) := by
  intro B Γ F σ H o R hh D hD
  obtain ⟨⟨xs, Γ0⟩, e1, hh⟩ := bind_eq hh
  refine hi B Γ F σ H xs Γ0 R e1 _ fun J F0 H0 x0 R0 Y => ?_
  refine ⟨fun i m σ' H' => ∃ Γ' F', m = xs.length - i ∧ i ≤ xs.length ∧ Ex F0 F' ∧ Rel K B Γ' F' σ' H' ∧ forLoop gx b (xs.drop i) Γ' = some o,
    ⟨xs.length, Γ0, F0, by simp, Nat.zero_le _, Ex.refl F0, R0, by simpa using hh⟩, ?_⟩
  rintro i m σ1 H1 ⟨Γ1, F1, rfl, hi1, x1, R1, h1⟩
  by_cases hlt : i < xs.length
  · right
    refine ⟨Y.go i F1 H1 x1 R1.ext R1.pl hlt, fun σ' H' => ∃ Γ' F', Ex F0 F' ∧ Rel K B Γ' F' σ' H' ∧ forLoop gx b (xs.drop (i + 1)) Γ' = some o, ?_, fun x H2 hy => ?_⟩
    · rintro σ' H' ⟨Γ', F', a1, a2, a3⟩
      exact ⟨xs.length - (i + 1), by omega, Γ', F', rfl, hlt, a1, a2, a3⟩
    · obtain ⟨F2, d, gr, ed, dd⟩ := Y.yld i F1 H1 x H2 x1 R1.ext R1.pl hlt hy
      have dr : xs.drop i = d :: xs.drop (i + 1) := by
        rw [List.drop_eq_getElem_cons hlt]
        rw [List.getElem?_eq_getElem hlt] at ed
        cases ed; rfl
      rw [dr] at h1
      obtain ⟨Γ2, e2, h1⟩ := bind_eq h1
      obtain ⟨o1, e3, h1⟩ := bind_eq h1
      refine hg B Γ1 F2 σ1 H2 x d Γ2 (R1.grow gr) dd e2 _ fun σ2 R2 _ _ => ?_
      refine hb B Γ2 F2 σ2 H2 o1 R2 e3 _ ?_
      cases o1 with
      | nx Γ3 => exact fun F3 σ3 H3 a3 R3 => ⟨Γ3, F3, (x1.trans gr.ext).trans a3, R3, h1⟩
      | ct Γ3 => exact fun F3 σ3 H3 a3 R3 => ⟨Γ3, F3, (x1.trans gr.ext).trans a3, R3, h1⟩
      | bk Γ3 => cases h1; exact fun F3 σ3 H3 a3 R3 => hD F3 σ3 H3 (((x0.trans x1).trans gr.ext).trans a3) R3
      | rt r Γ3 => cases h1; exact fun v F3 σ3 H3 a3 R3 d3 => hD v F3 σ3 H3 (((x0.trans x1).trans gr.ext).trans a3) R3 d3
      | rl ds Γ3 => cases h1; exact fun v F3 σ3 H3 a3 R3 d3 => hD v F3 σ3 H3 (((x0.trans x1).trans gr.ext).trans a3) R3 d3
  · left
    have ei : i = xs.length := by omega
    subst ei
    rw [List.drop_length] at h1
    cases h1
    exact ⟨Y.stop F1 H1 x1 R1.ext R1.pl, hD F1 σ1 H1 (x0.trans x1) R1⟩
theorem sp_for {tg iter : Expr} {body : List Stmt} {it : AX} {gx : PyData → Env → Option Env} {S : List Nat} {b : SX} (hi : IP X tg iter it) (hg : GP X tg gx S) (hb : BP X body b)
    (hp : ∀ {wi : TI} {g : TG} {tb : TS}, PI X tg iter wi → PG X tg g → PSs X body tb → PS X (.For tg iter body [] pos) (tFor wi g tb) := by intro wi g tb h1 h2 h3; exact ps_for PassesOwn.never rfl h1 h2 h3) :
    SP X (.For tg iter body [] pos) (sFor it gx b) := by
  obtain ⟨wi, i1, i2⟩ := hi
  obtain ⟨g, g1, g2⟩ := hg
  obtain ⟨tb, b1, b2⟩ := hb
  exact ⟨_, hp i1 g1 b1, ev_for i2 g2 b2⟩
end
end Z
set_option Elab.async false
set_option linter.all false
set_option maxRecDepth 100000
set_option maxHeartbeats 2000000
/-! Z: while, comprehensions, defs and their calls -/
namespace Z
open PySem L2 Evl PyProof.Rows

/-! ### while -/
def whileLoop (t : TX) (b : SX) : Nat → SX
  | 0, _ => none
  | n + 1, Γ => (t Γ).bind fun x => if x.1 = true then (b x.2).bind fun o => match o with
    | .nx Γ2 => whileLoop t b n Γ2
    | .ct Γ2 => whileLoop t b n Γ2
    | .bk Γ2 => some (.nx Γ2)
    | .rt r Γ2 => some (.rt r Γ2)
    | .rl ds Γ2 => some (.rl ds Γ2)
    else some (.nx x.2)
def sWhile (t : TX) (b : SX) : SX := whileLoop t b (2 ^ 64)
section
variable {X : Cx} {pos : Pos}
theorem ev_while {K : PySem.W.Frag} {tt : TT} {t : TX} {tb : TS} {b : SX} (n : Nat) (ht : EvT K tt t) (hb : EvS K tb b) : EvS K (tWhile tt tb) (whileLoop t b n) := by
  intro B Γ F σ H o R hh D hD
  refine ⟨fun m σ' H' => ∃ Γ' F', Ex F F' ∧ Rel K B Γ' F' σ' H' ∧ whileLoop t b m Γ' = some o, ⟨n, Γ, F, Ex.refl F, R, hh⟩, ?_⟩
  rintro m σ1 H1 ⟨Γ1, F1, x1, R1, h1⟩
  cases m with
  | zero => cases h1
  | succ m =>
    obtain ⟨⟨c, Γ2⟩, e1, h1⟩ := bind_eq h1
    refine ht B Γ1 F1 σ1 H1 c Γ2 R1 e1 _ fun F2 H2 x2 R2 => ?_
    cases c with
    | false =>
      have h2 : some (Out.nx Γ2) = some o := h1
      cases h2
      show D.nx σ1 H2
      exact hD F2 σ1 H2 (x1.trans x2) R2
    | true =>
      obtain ⟨o1, e2, h1⟩ := bind_eq (show (b Γ2).bind _ = some o from h1)
      show ∃ N : L2.St → Hp → Prop, _
      refine ⟨fun σ' H' => ∃ Γ' F', Ex F F' ∧ Rel K B Γ' F' σ' H' ∧ whileLoop t b m Γ' = some o, fun σ' H' h => ⟨m, Nat.lt_succ_self m, h⟩, ?_⟩
      refine hb B Γ2 F2 σ1 H2 o1 R2 e2 _ ?_
      cases o1 with
      | nx Γ3 => exact fun F3 σ3 H3 a3 R3 => ⟨Γ3, F3, (x1.trans x2).trans a3, R3, h1⟩
      | ct Γ3 => exact fun F3 σ3 H3 a3 R3 => ⟨Γ3, F3, (x1.trans x2).trans a3, R3, h1⟩
      | bk Γ3 => cases h1; exact fun F3 σ3 H3 a3 R3 => hD F3 σ3 H3 ((x1.trans x2).trans a3) R3
      | rt r Γ3 => cases h1; exact fun v F3 σ3 H3 a3 R3 d3 => hD v F3 σ3 H3 ((x1.trans x2).trans a3) R3 d3
      | rl ds Γ3 => cases h1; exact fun v F3 σ3 H3 a3 R3 d3 => hD v F3 σ3 H3 ((x1.trans x2).trans a3) R3 d3
theorem sp_while {c : Expr} {body : List Stmt} {t : TX} {b : SX} (hc : TP X c t) (hb : BP X body b)
    (hp : ∀ {tc : TT} {tb : TS}, PT X c tc → PSs X body tb → PS X (.While c body [] pos) (tWhile tc tb) := by intro tc tb h1 h2; exact ps_while PassesOwn.never h1 h2) : SP X (.While c body [] pos) (sWhile t b) := by
  obtain ⟨tc, c1, c2⟩ := hc
  obtain ⟨tb, b1, b2⟩ := hb
  exact ⟨_, hp c1 b1, ev_while _ c2 b2⟩
end

/-! ### comprehensions -/
def wipeE (Γ : Env) : List Nat → Env
  | [] => Γ
  | v :: vs => (wipeE Γ vs).set v .no
def restE (Γ0 Γ : Env) : List Nat → Env
  | [] => Γ
  | v :: vs => (restE Γ0 Γ vs).set v (Γ0[v]?.getD .no)
theorem wipeE_len (Γ : Env) : ∀ vs, (wipeE Γ vs).length = Γ.length
  | [] => rfl
  | v :: vs => by unfold wipeE; rw [List.length_set, wipeE_len Γ vs]
theorem restE_len (Γ0 Γ : Env) : ∀ vs, (restE Γ0 Γ vs).length = Γ.length
  | [] => rfl
  | v :: vs => by unfold restE; rw [List.length_set, restE_len Γ0 Γ vs]
theorem wipeE_out {Γ : Env} {i : Nat} : ∀ {vs : List Nat}, i ∉ vs → (wipeE Γ vs)[i]? = Γ[i]?
  | [], _ => rfl
  | v :: vs, h => by
    unfold wipeE
    rw [List.getElem?_set_ne (fun e => h (by simp [e])), wipeE_out fun z => h (List.mem_cons_of_mem _ z)]
theorem wipeE_in {Γ : Env} {i : Nat} (hl : i < Γ.length) : ∀ {vs : List Nat}, i ∈ vs → (wipeE Γ vs)[i]? = some .no
  | v :: vs, h => by
    unfold wipeE
    by_cases e : v = i
    · subst e; rw [List.getElem?_set_self (by rw [wipeE_len]; exact hl)]
    · rw [List.getElem?_set_ne e]
      exact wipeE_in hl ((List.mem_cons.mp h).resolve_left (Ne.symm e))
theorem restE_out {Γ0 Γ : Env} {i : Nat} : ∀ {vs : List Nat}, i ∉ vs → (restE Γ0 Γ vs)[i]? = Γ[i]?
  | [], _ => rfl
  | v :: vs, h => by
    unfold restE
    rw [List.getElem?_set_ne (fun e => h (by simp [e])), restE_out fun z => h (List.mem_cons_of_mem _ z)]
theorem restE_in {Γ0 Γ : Env} {i : Nat} (hl : i < Γ.length) : ∀ {vs : List Nat}, i ∈ vs → (restE Γ0 Γ vs)[i]? = some (Γ0[i]?.getD .no)
  | v :: vs, h => by
    unfold restE
    by_cases e : v = i
    · subst e; rw [List.getElem?_set_self (by rw [restE_len]; exact hl)]
    · rw [List.getElem?_set_ne e]
      exact restE_in hl ((List.mem_cons.mp h).resolve_left (Ne.symm e))
theorem wipe_in {σ : L2.St} {i : Nat} (hl : i < σ.length) : ∀ {vs : List Nat}, i ∈ vs → (wipe σ vs)[i]? = some none
  | v :: vs, h => by
    unfold wipe
    by_cases e : v = i
    · subst e; rw [List.getElem?_set_self (by rw [wipe_length]; exact hl)]
    · rw [List.getElem?_set_ne e]
      exact wipe_in hl ((List.mem_cons.mp h).resolve_left (Ne.symm e))
theorem wipe_eq {σ σ' : L2.St} {vs : List Nat} (hl : σ'.length = σ.length) (h : ∀ i, i ∉ vs → σ'[i]? = σ[i]?) : wipe σ' vs = wipe σ vs := by
  apply List.ext_getElem?
  intro i
  by_cases hi : i ∈ vs
  · by_cases hb : i < σ.length
    · rw [wipe_in hb hi, wipe_in (by omega) hi]
    · rw [List.getElem?_eq_none_iff.mpr (by rw [wipe_length]; omega), List.getElem?_eq_none_iff.mpr (by rw [wipe_length]; omega)]
  · rw [wipe_out hi, wipe_out hi, h i hi]
/-- the slots of a comprehension's names hold no list of one's own -/
def freeE (Γ : Env) (vs : List Nat) : Bool := vs.all fun v => match Γ[v]? with
  | some s => !s.isOwn
  | none => true
section
variable {K : PySem.W.Frag} {B : Bs} {Γ Γ' Γ0 : Env} {F F' F0 H H' : Hp} {σ : L2.St} {vs : List Nat}
theorem Rel.wiped (R : Rel K B Γ F σ H) (vs : List Nat) : Rel K B (wipeE Γ vs) F (wipe σ vs) H := by
  induction vs with
  | nil => exact R
  | cons v vs ih => exact ih.setNo
theorem Rel.unwipe (R0 : Rel K B Γ0 F0 σ H) (hf : freeE Γ0 vs = true) (e : Ex F0 F') (R : Rel K B Γ F' (wipe σ vs) H') : Rel K B (restE Γ0 Γ vs) F' σ H' := by
  have hlen : σ.length = Γ.length := by have := R.len; rw [wipe_length] at this; exact this
  have free : ∀ i s, i ∈ vs → Γ0[i]? = some s → s.isOwn = true → False := fun i s hi h ho => by
    have q := List.all_eq_true.mp hf i hi
    rw [h] at q
    simp [ho] at q
  refine ⟨by rw [restE_len]; exact hlen, fun i s h => ?_, fun i j s t a hij h1 h2 h3 h4 h5 h6 => ?_, R.ext0, R.ext, R.frame, R.newF, R.pl, R.fresh⟩
  · by_cases hi : i ∈ vs
    · have hl : i < Γ.length := by
        have := (List.getElem?_eq_some_iff.mp h).1
        rw [restE_len] at this; exact this
      rw [restE_in hl hi] at h
      cases h
      cases q : Γ0[i]? with
      | none => trivial
      | some s =>
        show SlotOk K B F' H' s σ[i]?
        have z := R0.slot i s q
        cases s with
        | no => trivial
        | val d => obtain ⟨v, e1, e2⟩ := z; exact ⟨v, e1, dp_mono e e2⟩
        | dic kvs => obtain ⟨a, ws, ee, h1, h2⟩ := z; exact ⟨a, ws, ee, e _ _ h1, kva_mono e h2⟩
        | fd kvs => obtain ⟨a, ws, ee, h1, h2⟩ := z; exact ⟨a, ws, ee, e _ _ h1, od_mono e h2⟩
        | own ds => exact (free i _ hi q rfl).elim
        | od kvs => exact (free i _ hi q rfl).elim
        | par ds => exact (free i _ hi q rfl).elim
    · rw [restE_out hi] at h
      have z := R.slot i s h
      rw [wipe_out hi] at z
      exact z
  · have notin : ∀ i s, (restE Γ0 Γ vs)[i]? = some s → s.isOwn = true → i ∉ vs := fun i s h ho hi => by
      have hl : i < Γ.length := by
        have := (List.getElem?_eq_some_iff.mp h).1
        rw [restE_len] at this; exact this
      rw [restE_in hl hi] at h
      cases h
      cases q : Γ0[i]? with
      | none => rw [q] at ho; cases ho
      | some s => rw [q] at ho; exact free i s hi q ho
    have n1 := notin i s h1 h2
    have n2 := notin j t h3 h4
    rw [restE_out n1] at h1
    rw [restE_out n2] at h3
    exact R.dist i j s t a hij h1 h2 h3 h4 (by rw [wipe_out n1]; exact h5) (by rw [wipe_out n2]; exact h6)
end
def tYesX : TX := fun Γ => some (true, Γ)
/-- the turns: what is made so far -/
def lcLoop (g : PyData → Env → Option Env) (t : TX) (f : EX) (vs : List Nat) : List PyData → List PyData → Env → Option (List PyData × Env)
  | [], acc, Γ => some (acc, Γ)
  | x :: xs, acc, Γ => (g x (wipeE Γ vs)).bind fun Γ1 => (t Γ1).bind fun c => if c.1 = true then (f c.2).bind fun y => if acc.length < 100000 then lcLoop g t f vs xs (acc ++ [y.1]) y.2 else none
    else lcLoop g t f vs xs acc c.2
def nLc (it : AX) (g : PyData → Env → Option Env) (t : TX) (f : EX) (vs : List Nat) : NX := fun Γ => (it Γ).bind fun x => if freeE x.2 vs = true then (lcLoop g t f vs x.1 [] x.2).bind fun y => some (.own y.1, restE x.2 y.2 vs) else none
section
variable {K : PySem.W.Frag}
/-- the comprehension wipes its names at each turn: the slots' map is the outer one, wiped -/
theorem ev_lc {wi : TI} {it : AX} {g : TG} {gx : PyData → Env → Option Env} {S : List Nat} {tt : TT} {t : TX} {te : TE} {f : EX} {vs : List Nat} (hi : EvI K wi it) (hg : EvG K g gx S) (hS : ∀ i, i ∈ S → i ∈ vs) (ht : EvT K tt t) (he : EvE K te f) :
    EvN K (tLc wi g tt te vs) (nLc it gx t f vs) := by
  intro B Γ F σ H r Γ' R hh Q q
  obtain ⟨⟨xs, Γ0⟩, e1, hh⟩ := bind_eq hh
  split at hh
  · rename_i hfree
    obtain ⟨⟨out, Γe⟩, e2, hh⟩ := bind_eq hh
    cases hh
    refine hi B Γ F σ H xs Γ0 R e1 _ fun J F0 H0 x0 R0 Y => fun D hD => ?_
    have W0 := R0.wiped vs
    -- the invariant: the environment of the turn, wiped; the list made so far is hidden
    refine ⟨fun i m H' => ∃ Γ1 F1 acc ws, m = xs.length - i ∧ i ≤ xs.length ∧ Ex F0 F1 ∧ Rel K B (wipeE Γ1 vs) F1 (wipe σ vs) H' ∧ Hid (wipeE Γ1 vs) F1 (wipe σ vs) H' D (.lst ws) ∧ DpAll K F1 ws acc ∧ Γ1.length = Γ0.length ∧ lcLoop gx t f vs (xs.drop i) acc Γ1 = some (out, Γe),
      ⟨xs.length, Γ0, F0, [], [], by simp, Nat.zero_le _, Ex.refl F0, W0.hide hD, .laid W0 hD, .nil, rfl, by simpa using e2⟩, ?_⟩
    rintro i m H1 ⟨Γ1, F1, acc, ws, rfl, hi1, x1, R1, hid1, da1, hl1, h1⟩
    have hB : B.H0 D = none := R0.fresh D hD
    by_cases hlt : i < xs.length
    · right
      refine ⟨Y.go i F1 H1 x1 R1.ext R1.pl hlt, fun H' => ∃ Γ1 F1 acc ws, Ex F0 F1 ∧ Rel K B (wipeE Γ1 vs) F1 (wipe σ vs) H' ∧ Hid (wipeE Γ1 vs) F1 (wipe σ vs) H' D (.lst ws) ∧ DpAll K F1 ws acc ∧ Γ1.length = Γ0.length ∧ lcLoop gx t f vs (xs.drop (i + 1)) acc Γ1 = some (out, Γe), ?_, fun x H2 hy => ?_⟩
      · rintro H' ⟨Γ2, F2, acc2, ws2, a1, a2, a3, a4, a5, a6⟩
        exact ⟨xs.length - (i + 1), by omega, Γ2, F2, acc2, ws2, rfl, hlt, a1, a2, a3, a4, a5, a6⟩
      · obtain ⟨F2, d, gr, ed, dd⟩ := Y.yld i F1 H1 x H2 x1 R1.ext R1.pl hlt hy
        have dr : xs.drop i = d :: xs.drop (i + 1) := by
          rw [List.drop_eq_getElem_cons hlt]
          rw [List.getElem?_eq_getElem hlt] at ed
          cases ed; rfl
        rw [dr] at h1
        obtain ⟨Γ2, e3, h1⟩ := bind_eq h1
        obtain ⟨⟨c, Γ3⟩, e4, h1⟩ := bind_eq h1
        have R2 := R1.grow gr
        have nD : F2 D = none := by
          cases z : F2 D with
          | none => rfl
          | some u =>
            rcases gr.new D u z with y | y
            · rw [hid1.noF] at y; cases y
            · rw [hid1.here] at y; cases y
        have hid2 : Hid (wipeE Γ1 vs) F2 (wipe σ vs) H2 D (.lst ws) := ⟨gr.keep _ _ hid1.here, nD, hid1.noO⟩
        have A2 := R2.rebased
        refine hg (rebase (wipeE Γ1 vs) F2 (wipe σ vs) H2) (wipeE Γ1 vs) F2 (wipe σ vs) H2 x d Γ2 A2 dd e3 _ fun σ2 A3 l2 o2 => ?_
        have ew : wipe σ2 vs = wipe σ vs := by
          have e0 : wipe (wipe σ vs) vs = wipe σ vs := wipe_eq (wipe_length σ vs) fun i hi => wipe_out hi
          rw [← e0]
          exact wipe_eq l2 fun i hi => o2 i fun z => hi (hS i z)
        refine ⟨ew, ?_⟩
        refine ht _ Γ2 F2 σ2 H2 c Γ3 A3 e4 _ fun F3 H3 x3 A4 => ?_
        have back : ∀ {Γz : Env} {Fz Hz : Hp}, Rel K (rebase (wipeE Γ1 vs) F2 (wipe σ vs) H2) Γz Fz σ2 Hz → Rel K B (wipeE Γz vs) Fz (wipe σ vs) Hz ∧ Hid (wipeE Γz vs) Fz (wipe σ vs) Hz D (.lst ws) ∧ Γz.length = Γ0.length := fun {Γz Fz Hz} A => by
          have A' := A.wiped vs
          rw [ew] at A'
          refine ⟨R2.back A', hid2.stays A', ?_⟩
          have z1 := A.len
          have z2 := A2.len
          rw [wipeE_len] at z2
          rw [← z1, l2, z2, hl1]
        cases c with
        | false =>
          show ∃ Γ1 F1 acc ws, _
          obtain ⟨b1, b2, b3⟩ := back A4
          exact ⟨Γ3, F3, acc, ws, (x1.trans gr.ext).trans x3, b1, b2, dpa_mono (gr.ext.trans x3) da1, b3, h1⟩
        | true =>
          obtain ⟨⟨y, Γ4⟩, e5, h1⟩ := bind_eq (show (f Γ3).bind _ = _ from h1)
          show te σ2 H3 _
          refine he _ Γ3 F3 σ2 H3 y Γ4 A4 e5 _ fun v F4 H4 x4 A5 d5 => ?_
          split at h1
          · rename_i hsz
            obtain ⟨b1, b2, b3⟩ := back A5
            have exs : Ex F1 F4 := (gr.ext.trans x3).trans x4
            refine ⟨ws, b2.here, sz_lt (by rw [dpa_len da1]; exact hsz), Γ4, F4, acc ++ [y], ws ++ [v], (x1.trans exs), b1.rewrite b2 hB, ?_, dpa_app (dpa_mono exs da1) (.cons d5 .nil), b3, h1⟩
            exact ⟨upd_same, b2.noF, b2.noO⟩
          · cases h1
    · left
      have ei : i = xs.length := by omega
      subst ei
      rw [List.drop_length] at h1
      cases h1
      have hw : Rel K B (restE Γ0 Γe vs) F1 σ H1 := by
        have hz : restE Γ0 (wipeE Γe vs) vs = restE Γ0 Γe vs := by
          apply List.ext_getElem?
          intro i
          by_cases hi : i ∈ vs
          · by_cases hb : i < Γe.length
            · rw [restE_in (by rw [wipeE_len]; exact hb) hi, restE_in hb hi]
            · rw [List.getElem?_eq_none_iff.mpr (by rw [restE_len, wipeE_len]; omega), List.getElem?_eq_none_iff.mpr (by rw [restE_len]; omega)]
          · rw [restE_out hi, restE_out hi, wipeE_out hi]
        rw [← hz]
        exact R0.unwipe hfree x1 R1
      refine ⟨Y.stop F1 H1 x1 R1.ext R1.pl, q _ F1 H1 (x0.trans x1) hw ⟨D, ws, rfl, ⟨hid1.here, hid1.noF, fun ⟨i, s, h1, h2, h3⟩ => ?_⟩, .inl hB, da1⟩⟩
      -- not owned in the outer environment
      by_cases hi : i ∈ vs
      · have hl : i < Γe.length := by
          have := (List.getElem?_eq_some_iff.mp h1).1
          rw [restE_len] at this; exact this
        rw [restE_in hl hi] at h1
        cases h1
        have z := List.all_eq_true.mp hfree i hi
        cases w : Γ0[i]? with
        | none => rw [w] at h2; cases h2
        | some s => rw [w] at h2 z; have h2' : s.isOwn = true := h2; simp [h2'] at z
      · rw [restE_out hi] at h1
        exact hid1.noO ⟨i, s, by rw [wipeE_out hi]; exact h1, h2, by rw [wipe_out hi]; exact h3⟩
  · cases hh
end
end Z
set_option Elab.async false
set_option linter.all false
set_option maxRecDepth 100000
set_option maxHeartbeats 2000000
/-! Z: comprehensions as judgements, defs and their calls -/
namespace Z
open PySem L2 Evl PyProof.Rows

/-! ### the parts of a comprehension stand in a block of their own: one reading for all of them -/
theorem uniE {P : Type} {K : PySem.W.Frag} {Xf : P → Cx} {e : Expr} {f : EX} (hK : ∀ p, (Xf p).K = K) (h : ∀ p, EP (Xf p) e f) : ∃ te, (∀ p, PE (Xf p) e te) ∧ EvE K te f := by
  have h' : ∀ p, ∃ te, PE (Xf p) e te ∧ EvE K te f := fun p => by
    obtain ⟨te, h1, h2⟩ := h p
    exact ⟨te, h1, (hK p) ▸ h2⟩
  refine ⟨fun σ H Q => ∀ p, (Classical.choose (h' p)) σ H Q, fun p => ?_, ?_⟩
  · have hp := Classical.choose_spec (h' p)
    exact ⟨fun pins s σ H Q I hw => hp.1.run pins s σ H Q I (hw p)⟩
  · intro B Γ F σ H r Γ' R e Q q p
    have hp := Classical.choose_spec (h' p)
    exact hp.2 B Γ F σ H r Γ' R e Q q
theorem uniG {P : Type} {K : PySem.W.Frag} {Xf : P → Cx} {tg : Expr} {gx : PyData → Env → Option Env} {S : List Nat} (hK : ∀ p, (Xf p).K = K) (h : ∀ p, GP (Xf p) tg gx S) : ∃ g, (∀ p, PG (Xf p) tg g) ∧ EvG K g gx S := by
  have h' : ∀ p, ∃ g, PG (Xf p) tg g ∧ EvG K g gx S := fun p => by
    obtain ⟨te, h1, h2⟩ := h p
    exact ⟨te, h1, (hK p) ▸ h2⟩
  refine ⟨fun v σ H Q => ∀ p, (Classical.choose (h' p)) v σ H Q, fun p => ?_, ?_⟩
  · have hp := Classical.choose_spec (h' p)
    exact ⟨fun pins s σ H v u Q I r hw => hp.1.run pins s σ H v u Q I r (hw p)⟩
  · intro B Γ F σ H v d Γ' R hd e Q q p
    have hp := Classical.choose_spec (h' p)
    exact hp.2 B Γ F σ H v d Γ' R hd e Q q
/-- the tests of a comprehension -/
def TsP (X : Cx) (ifs : List Expr) (t : TX) : Prop := ∃ tt, PTs X ifs tt ∧ EvT X.K tt t
theorem tsp_nil {X : Cx} : TsP X [] tYesX := ⟨_, pts_nil, fun B Γ F σ H r Γ' R e Q q => by cases e; exact q F H (Ex.refl F) R⟩
theorem tsp_one {X : Cx} {c : Expr} {t : TX} (h : TP X c t) : TsP X [c] t := by
  obtain ⟨tt, h1, h2⟩ := h
  exact ⟨_, pts_one h1, h2⟩
theorem uniT {P : Type} {K : PySem.W.Frag} {Xf : P → Cx} {ifs : List Expr} {t : TX} (hK : ∀ p, (Xf p).K = K) (h : ∀ p, TsP (Xf p) ifs t) : ∃ tt, (∀ p, PTs (Xf p) ifs tt) ∧ EvT K tt t := by
  have h' : ∀ p, ∃ tt, PTs (Xf p) ifs tt ∧ EvT K tt t := fun p => by
    obtain ⟨te, h1, h2⟩ := h p
    exact ⟨te, h1, (hK p) ▸ h2⟩
  refine ⟨fun σ H Q => ∀ p, (Classical.choose (h' p)) σ H Q, fun p => ?_, ?_⟩
  · have hp := Classical.choose_spec (h' p)
    exact ⟨fun pins s σ H Q I hw => hp.1.run pins s σ H Q I (hw p)⟩
  · intro B Γ F σ H r Γ' R e Q q p
    have hp := Classical.choose_spec (h' p)
    exact hp.2 B Γ F σ H r Γ' R e Q q
abbrev Blk := Shared × Hp × Addr × List (Str × Addr) × List Addr
abbrev blkOf (X : Cx) (scope : Scope) (p : Blk) : Cx := X.blk p.1 p.2.1 scope (compEnvC scope p.2.2.2.1 p.2.2.1 X.env) p.2.2.2.2
section
variable {X : Cx} {pos : Pos}
theorem np_lc {elt tg iter : Expr} {ifs : List Expr} {scope : Scope} {it : AX} {gx : PyData → Env → Option Env} {S : List Nat} {t : TX} {f : EX} (own : List (Str × Nat)) (hi : IP X tg iter it) (ok : BlkOk X.N X.env.scope scope own)
    (hg : ∀ p : Blk, GP (blkOf X scope p) tg gx S) (ht : ∀ p : Blk, TsP (blkOf X scope p) ifs t) (he : ∀ p : Blk, EP (blkOf X scope p) elt f)
    (hc : X.calm = true) (hN : X.N.Nodup) (hS : ∀ i, i ∈ S → i ∈ own.map (·.2) := by decide) (hs : ∀ x, foldedSetIterable iter X.env x = pure x := by intro _; rfl) :
    NP X (.ListComp elt [⟨tg, iter, ifs, 0⟩] scope pos) (nLc it gx t f (own.map (·.2))) := by
  obtain ⟨wi, i1, i2⟩ := hi
  obtain ⟨g, g1, g2⟩ := uniG (Xf := blkOf X scope) (K := X.K) (fun _ => rfl) hg
  obtain ⟨tt, t1, t2⟩ := uniT (Xf := blkOf X scope) (K := X.K) (fun _ => rfl) ht
  obtain ⟨te, e1, e2⟩ := uniE (Xf := blkOf X scope) (K := X.K) (fun _ => rfl) he
  exact ⟨_, pe_lc hc hN i1 ok (fun s H C cl fp => g1 (s, H, C, cl, fp)) (fun s H C cl fp => t1 (s, H, C, cl, fp)) (fun s H C cl fp => e1 (s, H, C, cl, fp)) hs, ev_lc i2 g2 hS t2 e2⟩
/-- y = [..] on one line -/
theorem sp_setLc {i : Nat} {y : Str} {py spos : Pos} {elt tg iter : Expr} {ifs : List Expr} {scope : Scope} {it : AX} {gx : PyData → Env → Option Env} {S : List Nat} {t : TX} {f : EX} (own : List (Str × Nat)) (hi : IP X tg iter it) (ok : BlkOk X.N X.env.scope scope own)
    (hg : ∀ p : Blk, GP (blkOf X scope p) tg gx S) (ht : ∀ p : Blk, TsP (blkOf X scope p) ifs t) (he : ∀ p : Blk, EP (blkOf X scope p) elt f)
    (hc : X.calm = true) (hN : X.N.Nodup) (hsw : swapsWith (.ListComp elt [⟨tg, iter, ifs, 0⟩] scope pos) (some (.Name y py)) spos.line X.env = pure true) (hy : X.N[i]? = some y := by rfl) (hyl : X.env.scope.names.lookup y = some .local := by rfl)
    (hS : ∀ i, i ∈ S → i ∈ own.map (·.2) := by decide) (hs : ∀ x, foldedSetIterable iter X.env x = pure x := by intro _; rfl) :
    SP X (.Assign [.Name y py] (.ListComp elt [⟨tg, iter, ifs, 0⟩] scope pos) spos) (sSet i (nLc it gx t f (own.map (·.2)))) := by
  obtain ⟨wi, i1, i2⟩ := hi
  obtain ⟨g, g1, g2⟩ := uniG (Xf := blkOf X scope) (K := X.K) (fun _ => rfl) hg
  obtain ⟨tt, t1, t2⟩ := uniT (Xf := blkOf X scope) (K := X.K) (fun _ => rfl) ht
  obtain ⟨te, e1, e2⟩ := uniE (Xf := blkOf X scope) (K := X.K) (fun _ => rfl) he
  refine ⟨_, ps_setLc hc hN hy hyl hsw i1 ok (fun s H C cl fp => g1 (s, H, C, cl, fp)) (fun s H C cl fp => t1 (s, H, C, cl, fp)) (fun s H C cl fp => e1 (s, H, C, cl, fp)) hs, ?_⟩
  intro B Γ F σ H o R e D hD
  obtain ⟨⟨r, Γ1⟩, h1, e⟩ := bind_eq e
  cases e
  exact ev_lc i2 g2 hS t2 e2 B Γ F σ H r Γ1 R h1 _ fun v F' H' ex R' hh => hD F' _ H' ex (R'.setHeld hh i)
end

/-! ### the promise of a def: its plain function -/
def spP (K : PySem.W.Frag) (n : Nat) (p : List PyData → Option PyData) : Sp := fun vs H Q _ => vs.length = n ∧ ∃ (F : Hp) (ds : List PyData) (r : PyData), Ex F H ∧ Pl F ∧ DpAll K F vs ds ∧ p ds = some r ∧
  ∀ v F' H', Grow F H F' H' → Dp K F' v r → Q v H'
/-- .. whose first argument is a list that it may change -/
def spM (K : PySem.W.Frag) (n : Nat) (p : List PyData → List PyData → Option (PyData × List PyData)) : Sp := fun vs H Q _ => vs.length = n ∧ ∃ (F : Hp) (a : Addr) (ws : List V) (cs : List PyData) (vs' : List V) (ds : List PyData) (r : PyData) (cs' : List PyData),
  vs = .ref a :: vs' ∧ Ex F H ∧ Pl F ∧ F a = none ∧ H a = some (.lst ws) ∧ DpAll K F ws cs ∧ DpAll K F vs' ds ∧ p cs ds = some (r, cs') ∧
  ∀ v F' H' ws', (∀ b o, b ≠ a → H b = some o → H' b = some o) → Ex F F' → Ex F' H' → Pl F' → F' a = none → (∀ b o, F' b = some o → F b = some o ∨ H b = none) → (∀ b, H' b = none → H b = none) → H' a = some (.lst ws') → DpAll K F' ws' cs' → Dp K F' v r → Q v H'
def envOf (n : Nat) (ds : List PyData) : Env := ds.map .val ++ List.replicate (n - ds.length) .no
def envM (n : Nat) (cs ds : List PyData) : Env := .par cs :: (ds.map .val ++ List.replicate (n - (ds.length + 1)) .no)
/-- the worth of a body -/
def runP (n : Nat) (b : SX) : List PyData → Option PyData := fun ds => (b (envOf n ds)).bind fun o => match o with
  | .rt r _ => some r
  | .nx _ => some .none
  | _ => none
def parOf (Γ : Env) : Option (List PyData) := match (Γ[0]? : Option Slot) with
  | some (.par cs) => some cs
  | _ => none
def runM (n : Nat) (b : SX) : List PyData → List PyData → Option (PyData × List PyData) := fun cs ds => (b (envM n cs ds)).bind fun o => match o with
  | .rt r Γ => (parOf Γ).bind fun c => some (r, c)
  | .nx Γ => (parOf Γ).bind fun c => some (.none, c)
  | _ => none
theorem start_val {K : PySem.W.Frag} {F H : Hp} : ∀ {vs : List V} {ds : List PyData} (n : Nat) {B : Bs} (h : DpAll K F vs ds) (i : Nat) (s : Slot), (ds.map Slot.val ++ List.replicate n Slot.no)[i]? = some s →
    SlotOk K B F H s (vs.map some ++ List.replicate n none)[i]? ∧ s.isOwn = false
  | [], [], n, B, .nil, i, s, h => by
    have : s = .no := by
      have := List.mem_of_getElem? h
      exact (by simpa using this : ¬n = 0 ∧ s = Slot.no).2
    subst this
    exact ⟨trivial, rfl⟩
  | v :: vs, d :: ds, n, B, .cons hd hr, 0, s, h => by
    simp at h; subst h
    exact ⟨⟨v, by simp, hd⟩, rfl⟩
  | v :: vs, d :: ds, n, B, .cons hd hr, i + 1, s, h => by
    have h' : (ds.map Slot.val ++ List.replicate n Slot.no)[i]? = some s := by simpa using h
    have := start_val (H := H) (B := B) n hr i s h'
    simpa using this
section
variable {P : Program} {w : World} {K : PySem.W.Frag} {mg : Str → Option Value} {base : Heap}
theorem fn_pure {x qual : Str} {st : Stmt} {f : Addr} {fd : FuncData} {N ps : List Str} {k : Nat} {b : SX} (F : Fun K x qual st f fd) (S : FnScope N ps (defScope st))
    (hb : ∀ (cdv : Value) (A : Around) (outer : List PySem.Env) (s : Shared) (H : Hp) (E : XK), Room k (A.deeper (envOfC qual (defScope st) s.heap.objs.size f cdv)) →
      BP (cxOf CX0 P w K mg base N qual (defScope st) f cdv A outer s H E).nox (defBody st) b) : FnOk P w K mg base CX0 (k + 1) f fd ps (spP K ps.length (runP N.length b)) := by
  refine F.ok S (fun vs H Q E h => h.1) fun cdv A outer s H vs Q E hr h => ?_
  obtain ⟨hl, F0, ds, r, ex, pl, hd, hp, q⟩ := h
  obtain ⟨ts, h1, h2⟩ := hb cdv A outer s H E hr
  refine ⟨ts, h1, ?_⟩
  obtain ⟨o, e1, e2⟩ := bind_eq hp
  have eqs : L2.start N vs = vs.map some ++ List.replicate (N.length - ds.length) none := by unfold L2.start; rw [dpa_len hd]
  have R : Rel K ⟨F0, H, fun _ => False, fun _ => False⟩ (envOf N.length ds) F0 (L2.start N vs) H := by
    rw [eqs]
    refine ⟨?_, fun i s h => (start_val _ hd i s h).1, fun i j s t a hij h1 h2 h3 h4 h5 h6 => ?_, Ex.refl F0, ex, fun b o e _ _ => e, fun b o e => .inl e, pl, fun b e => e⟩
    · simp [envOf, dpa_len hd]
    · have z := (start_val (H := H) (B := ⟨F0, H, fun _ => False, fun _ => False⟩) _ hd i s h1).2
      rw [z] at h2; cases h2
  have gr : ∀ {Γ' F' σ' H'}, Rel K ⟨F0, H, fun _ => False, fun _ => False⟩ Γ' F' σ' H' → Grow F0 H F' H' := fun {Γ' F' σ' H'} R' =>
    ⟨fun b o e => R'.frame b o e (fun z => z) (fun z => z), R'.ext0, R'.ext, fun b o e => by
      rcases R'.newF b o e with z | z | z
      · exact .inl z
      · exact .inr z
      · exact z.elim, fun _ => R'.pl⟩
  refine h2 _ _ F0 _ H o R e1 _ ?_
  cases o with
  | rt r' Γ' => cases e2; exact fun v F' σ' H' x R' d => q v F' H' (gr R') d
  | nx Γ' => cases e2; exact fun F' σ' H' x R' => q .non F' H' (gr R') .non
  | bk Γ' => cases e2
  | ct Γ' => cases e2
  | rl ds Γ' => cases e2
theorem fn_mut {x qual : Str} {st : Stmt} {f : Addr} {fd : FuncData} {N ps : List Str} {k : Nat} {b : SX} (F : Fun K x qual st f fd) (S : FnScope N ps (defScope st))
    (hb : ∀ (cdv : Value) (A : Around) (outer : List PySem.Env) (s : Shared) (H : Hp) (E : XK), Room k (A.deeper (envOfC qual (defScope st) s.heap.objs.size f cdv)) →
      BP (cxOf CX0 P w K mg base N qual (defScope st) f cdv A outer s H E).nox (defBody st) b) : FnOk P w K mg base CX0 (k + 1) f fd ps (spM K ps.length (runM N.length b)) := by
  refine F.ok S (fun vs H Q E h => h.1) fun cdv A outer s H vs Q E hr h => ?_
  obtain ⟨hl, F0, a, ws, cs, vs', ds, r, cs', rfl, ex, pl, ha0, ha, hc, hd, hp, q⟩ := h
  obtain ⟨ts, h1, h2⟩ := hb cdv A outer s H E hr
  refine ⟨ts, h1, ?_⟩
  obtain ⟨o, e1, e2⟩ := bind_eq hp
  have eqs : L2.start N (.ref a :: vs') = some (.ref a) :: (vs'.map some ++ List.replicate (N.length - (ds.length + 1)) none) := by unfold L2.start; rw [List.map_cons, List.cons_append, List.length_cons, dpa_len hd]
  have R : Rel K ⟨F0, H, fun b => b = a, fun _ => False⟩ (envM N.length cs ds) F0 (L2.start N (.ref a :: vs')) H := by
    rw [eqs]
    have own0 : ∀ (i : Nat) (s : Slot), (envM N.length cs ds)[i]? = some s → s.isOwn = true → i = 0 := fun i s h ho => by
      cases i with
      | zero => rfl
      | succ i =>
        have z := (start_val (H := H) (B := ⟨F0, H, fun b => b = a, fun _ => False⟩) _ hd i s (by simpa [envM] using h)).2
        rw [z] at ho; cases ho
    refine ⟨?_, fun i s h => ?_, fun i j s t a' hij h1 h2 h3 h4 h5 h6 => hij ((own0 i s h1 h2).trans (own0 j t h3 h4).symm), Ex.refl F0, ex, fun b o e _ _ => e, fun b o e => .inl e, pl, fun b e => e⟩
    · simp [envM, dpa_len hd]
    · cases i with
      | zero => simp [envM] at h; subst h; exact ⟨a, ws, by simp, ha0, rfl, ha, hc⟩
      | succ i =>
        have z := (start_val (H := H) (B := ⟨F0, H, fun b => b = a, fun _ => False⟩) _ hd i s (by simpa [envM] using h)).1
        simpa using z
  have fin : ∀ {Γ' F' σ' H'} {c : List PyData} {v : V} {r : PyData}, Rel K ⟨F0, H, fun b => b = a, fun _ => False⟩ Γ' F' σ' H' → parOf Γ' = some c → Dp K F' v r → (∀ v F' H' ws', (∀ b o, b ≠ a → H b = some o → H' b = some o) → Ex F0 F' → Ex F' H' → Pl F' → F' a = none → (∀ b o, F' b = some o → F0 b = some o ∨ H b = none) → (∀ b, H' b = none → H b = none) → H' a = some (.lst ws') → DpAll K F' ws' c → Dp K F' v r → Q v H') → Q v H' :=
    fun {Γ' F' σ' H' c v r} R' hc' d k => by
    have e0 : Γ'[0]? = some (.par c) := by
      unfold parOf at hc'
      cases z : Γ'[0]? with
      | none => rw [z] at hc'; cases hc'
      | some s => rw [z] at hc'; cases s <;> cases hc'; rfl
    obtain ⟨a', vs2, e', h1, h2, h3, h4⟩ := R'.slot 0 _ e0
    have ea : a' = a := h2
    subst ea
    exact k v F' H' vs2 (fun b o hb e => R'.frame b o e hb (fun z => z)) R'.ext0 R'.ext R'.pl h1 (fun b o e => by
      rcases R'.newF b o e with z | z | z
      · exact .inl z
      · exact .inr z
      · exact z.elim) R'.fresh h3 h4 d
  refine h2 _ _ F0 _ H o R e1 _ ?_
  cases o with
  | rt r' Γ' =>
    obtain ⟨c, hc', e2⟩ := bind_eq e2
    cases e2
    exact fun v F' σ' H' x R' d => fin R' hc' d q
  | nx Γ' =>
    obtain ⟨c, hc', e2⟩ := bind_eq e2
    cases e2
    exact fun F' σ' H' x R' => fin R' hc' .non q
  | bk Γ' => cases e2
  | ct Γ' => cases e2
  | rl ds Γ' => cases e2
end

/-! ### defs that hand back a new list -/
def spL (K : PySem.W.Frag) (n : Nat) (p : List PyData → Option (List PyData)) : Sp := fun vs H Q _ => vs.length = n ∧ ∃ (F : Hp) (ds : List PyData) (rs : List PyData), Ex F H ∧ Pl F ∧ DpAll K F vs ds ∧ p ds = some rs ∧
  ∀ a ws F' H', Grow F H F' H' → H a = none → H' a = some (.lst ws) → F' a = none → DpAll K F' ws rs → Q (.ref a) H'
def runL (n : Nat) (b : SX) : List PyData → Option (List PyData) := fun ds => (b (envOf n ds)).bind fun o => match o with
  | .rl rs _ => some rs
  | _ => none
section
variable {P : Program} {w : World} {K : PySem.W.Frag} {mg : Str → Option Value} {base : Heap}
theorem fn_list {x qual : Str} {st : Stmt} {f : Addr} {fd : FuncData} {N ps : List Str} {k : Nat} {b : SX} (F : Fun K x qual st f fd) (S : FnScope N ps (defScope st))
    (hb : ∀ (cdv : Value) (A : Around) (outer : List PySem.Env) (s : Shared) (H : Hp) (E : XK), Room k (A.deeper (envOfC qual (defScope st) s.heap.objs.size f cdv)) →
      BP (cxOf CX0 P w K mg base N qual (defScope st) f cdv A outer s H E).nox (defBody st) b) : FnOk P w K mg base CX0 (k + 1) f fd ps (spL K ps.length (runL N.length b)) := by
  refine F.ok S (fun vs H Q E h => h.1) fun cdv A outer s H vs Q E hr h => ?_
  obtain ⟨hl, F0, ds, r, ex, pl, hd, hp, q⟩ := h
  obtain ⟨ts, h1, h2⟩ := hb cdv A outer s H E hr
  refine ⟨ts, h1, ?_⟩
  obtain ⟨o, e1, e2⟩ := bind_eq hp
  have eqs : L2.start N vs = vs.map some ++ List.replicate (N.length - ds.length) none := by unfold L2.start; rw [dpa_len hd]
  have R : Rel K ⟨F0, H, fun _ => False, fun _ => False⟩ (envOf N.length ds) F0 (L2.start N vs) H := by
    rw [eqs]
    refine ⟨?_, fun i s h => (start_val _ hd i s h).1, fun i j s t a hij h1 h2 h3 h4 h5 h6 => ?_, Ex.refl F0, ex, fun b o e _ _ => e, fun b o e => .inl e, pl, fun b e => e⟩
    · simp [envOf, dpa_len hd]
    · have z := (start_val (H := H) (B := ⟨F0, H, fun _ => False, fun _ => False⟩) _ hd i s h1).2
      rw [z] at h2; cases h2
  have gr : ∀ {Γ' F' σ' H'}, Rel K ⟨F0, H, fun _ => False, fun _ => False⟩ Γ' F' σ' H' → Grow F0 H F' H' := fun {Γ' F' σ' H'} R' =>
    ⟨fun b o e => R'.frame b o e (fun z => z) (fun z => z), R'.ext0, R'.ext, fun b o e => by
      rcases R'.newF b o e with z | z | z
      · exact .inl z
      · exact .inr z
      · exact z.elim, fun _ => R'.pl⟩
  refine h2 _ _ F0 _ H o R e1 _ ?_
  cases o with
  | rl rs Γ' =>
    cases e2
    rintro v F' σ' H' x R' ⟨p, ws, rfl, hh, h0, hda⟩
    rcases h0 with h0 | h0
    · exact q p ws F' H' (gr R') h0 hh.here hh.noF hda
    · exact h0.elim
  | _ => cases e2
end
/-- f(..) that hands back a new list -/
def nCallL (p : List PyData → Option (List PyData)) (a : AX) : NX := fun Γ => (a Γ).bind fun x => (p x.1).bind fun z => some (.own z, x.2)
theorem notOwned {K : PySem.W.Frag} {B : Bs} {Γ : Env} {F H : Hp} {σ : L2.St} (R : Rel K B Γ F σ H) {p : Addr} (hp : H p = none) : ¬ OwnsAt Γ σ p := (Hid.laid (o := .lst []) R hp).noO
theorem np_fnL {X : Cx} {pos : Pos} {x : Str} {pp : Pos} {e : Expr} {es : List Expr} {p : List PyData → Option (List PyData)} {n : Nat} {k : AX} {f : Addr} {fd : FuncData} {ps : List Str} {lv : Nat} (G : FnOk X.prog X.w X.K X.mg X.base CX0 lv f fd ps (spL X.K n p)) (hr : Room lv X.A) (hm : X.mg x = some (.ref f)) (hk : PySem.W.keepIn X.K (.ref f) = true)
    (hb : Binds X.K fd ps []) (ha : AP X (e :: es) k) (hn : ∀ Γ x, k Γ = some x → x.1.length = n) (hg : Gl X x := by rfl) (hdb : (x == ("__debug__" : Str)) = false := by decide)
    (he : starEach (e :: es) X.env = (false, eval e X.env) :: starEach es X.env := by rfl) (hpl : (backTo pos (starEach es X.env)).any (·.1) = false := by rfl) : NP X (.Call (.Name x pp) (e :: es) [] pos) (nCallL p k) := by
  obtain ⟨ta, a1, a2⟩ := ha
  refine ⟨_, pe_call (E := E0) G hr hg hm hk hb .nil pass0 a1 hdb he hpl, ?_⟩
  intro B Γ F σ H z Γ' R h Q q
  obtain ⟨⟨xs, Γ1⟩, h1, h⟩ := bind_eq h
  obtain ⟨z', h3, h⟩ := bind_eq h
  cases h
  refine a2 B Γ F σ H xs Γ1 R h1 _ fun vs F1 H1 e1 R1 d1 => ?_
  show spL X.K n p (vs ++ []) H1 Q E0
  rw [List.append_nil]
  exact ⟨by rw [dpa_len d1]; exact hn _ _ h1, F1, xs, z', R1.ext, R1.pl, d1, h3, fun a ws F2 H2 gr g1 g2 g3 g4 => q _ F2 H2 (e1.trans gr.ext) (R1.grow gr) ⟨a, ws, rfl, ⟨g2, g3, notOwned R1 g1⟩, .inl (R1.fresh a g1), g4⟩⟩

/-! ### calls of defs -/
/-- f(x, ..), x a list in slot i that f may change -/
def eCallM (i : Nat) (p : List PyData → List PyData → Option (PyData × List PyData)) (a : AX) : EX := fun Γ => (ownAt Γ i).bind fun _ => (a Γ).bind fun x => (ownAt x.2 i).bind fun cs => (p cs x.1).bind fun z => some (z.1, ownSet x.2 i z.2)
section
variable {X : Cx} {pos : Pos}
theorem ap_len {X : Cx} {es : List Expr} {k : AX} (h : AP X es k) : True := trivial
theorem ev_fn {K : PySem.W.Frag} {p : List PyData → Option PyData} {n : Nat} {ta : TA} {k : AX} {E : XK} (hn : ∀ Γ x, k Γ = some x → x.1.length = n) (ha : EvA K ta k) : EvE K (tCall (spP K n p) [] E ta) (eCall p k) := by
  intro B Γ F σ H z Γ' R h Q q
  obtain ⟨⟨xs, Γ1⟩, h1, h⟩ := bind_eq h
  obtain ⟨z', h3, h⟩ := bind_eq h
  cases h
  refine ha B Γ F σ H xs Γ1 R h1 _ fun vs F1 H1 e1 R1 d1 => ?_
  show spP K n p (vs ++ []) H1 Q E
  rw [List.append_nil]
  exact ⟨by rw [dpa_len d1]; exact hn _ _ h1, F1, xs, z, R1.ext, R1.pl, d1, h3, fun w F3 H3 gr d3 => q w F3 H3 (e1.trans gr.ext) (R1.grow gr) d3⟩
theorem ep_fn {x : Str} {pp : Pos} {e : Expr} {es : List Expr} {p : List PyData → Option PyData} {n : Nat} {k : AX} {f : Addr} {fd : FuncData} {ps : List Str} {lv : Nat} (G : FnOk X.prog X.w X.K X.mg X.base CX0 lv f fd ps (spP X.K n p)) (hr : Room lv X.A) (hm : X.mg x = some (.ref f)) (hk : PySem.W.keepIn X.K (.ref f) = true)
    (hb : Binds X.K fd ps []) (ha : AP X (e :: es) k) (hn : ∀ Γ x, k Γ = some x → x.1.length = n) (hg : Gl X x := by rfl) (hdb : (x == ("__debug__" : Str)) = false := by decide)
    (he : starEach (e :: es) X.env = (false, eval e X.env) :: starEach es X.env := by rfl) (hpl : (backTo pos (starEach es X.env)).any (·.1) = false := by rfl) : EP X (.Call (.Name x pp) (e :: es) [] pos) (eCall p k) := by
  obtain ⟨ta, a1, a2⟩ := ha
  exact ⟨_, pe_call G hr hg hm hk hb .nil pass0 a1 hdb he hpl, ev_fn hn a2⟩
theorem ep_fnM {x y : Str} {pp py : Pos} {es : List Expr} {p : List PyData → List PyData → Option (PyData × List PyData)} {n i : Nat} {k : AX} {f : Addr} {fd : FuncData} {ps : List Str} {lv : Nat} (G : FnOk X.prog X.w X.K X.mg X.base CX0 lv f fd ps (spM X.K n p)) (hr : Room lv X.A) (hm : X.mg x = some (.ref f)) (hk : PySem.W.keepIn X.K (.ref f) = true)
    (hb : Binds X.K fd ps []) (ha : AP X es k) (hn : ∀ Γ x, k Γ = some x → x.1.length + 1 = n)
    (hp : ∀ {ta : TA} {E : XK} {sp : Sp}, (FnOk X.prog X.w X.K X.mg X.base CX0 lv f fd ps sp) → PA X es ta → PE X (.Call (.Name x pp) (.Name y py :: es) [] pos) (tCall sp [] E0 (tCons (tVar i) ta)) := by
      intro ta E sp G' h; exact pe_call G' (by assumption) (by rfl) (by assumption) (by assumption) (by assumption) .nil pass0 (pa_cons (pv _) h)) :
    EP X (.Call (.Name x pp) (.Name y py :: es) [] pos) (eCallM i p k) := by
  obtain ⟨ta, a1, a2⟩ := ha
  refine ⟨_, hp (E := E0) G a1, ?_⟩
  intro B Γ F σ H zz Γ' R h Q q
  obtain ⟨ds0, e0, h⟩ := bind_eq h
  obtain ⟨⟨xs, Γ1⟩, h1, h⟩ := bind_eq h
  obtain ⟨cs, h2, h⟩ := bind_eq h
  obtain ⟨⟨z, cs'⟩, h3, h⟩ := bind_eq h
  cases h
  obtain ⟨a, vs0, ea, _⟩ := R.ownGet e0
  refine ⟨.ref a, ea, ?_⟩
  refine a2 B Γ F σ H xs Γ1 R h1 _ fun vs F1 H1 e1 R1 d1 => ?_
  show spM X.K n p (V.ref a :: vs ++ []) H1 Q E0
  rw [List.append_nil]
  obtain ⟨a', ws, ea', hF, hH, hd⟩ := R1.ownGet h2
  rw [ea] at ea'; cases ea'
  refine ⟨by rw [List.length_cons, dpa_len d1]; exact hn _ _ h1, F1, a, ws, cs, vs, xs, z, cs', rfl, R1.ext, R1.pl, hF, hH, hd, d1, h3, fun v F2 H2 ws2 k1 k2 k3 k4 k5 k6 k7 k8 k9 k10 => ?_⟩
  -- first everything but a grows, then a is written
  have R2 : Rel X.K B (ownSet Γ1 i cs') F2 σ H2 := by
    have own_i : ∃ s : Slot, Γ1[i]? = some s ∧ s.isOwn = true := by
      unfold ownAt at h2
      cases q : Γ1[i]? with
      | none => rw [q] at h2; cases h2
      | some s => rw [q] at h2; cases s <;> first | cases h2; done | exact ⟨_, rfl, rfl⟩
    obtain ⟨s0, hs0, hs0o⟩ := own_i
    have hl : i < Γ1.length := (List.getElem?_eq_some_iff.mp hs0).1
    have noF : ∀ (b : Addr) {u : HO}, F1 b = none → H1 b = some u → F2 b = none := fun b u g1 g2 => by
      cases q : F2 b with
      | none => rfl
      | some o =>
        rcases k6 b o q with z | z
        · rw [g1] at z; cases z
        · rw [g2] at z; cases z
    have shape : ∃ s1 : Slot, ownSet Γ1 i cs' = Γ1.set i s1 ∧ s1.isOwn = true ∧ SlotOk X.K B F2 H2 s1 σ[i]? := by
      have z := R1.slot i s0 hs0
      unfold ownSet
      rw [hs0]
      cases s0 with
      | no => cases hs0o
      | val d => cases hs0o
      | dic kvs => cases hs0o
      | fd kvs => cases hs0o
      | od kvs => unfold ownAt at h2; rw [hs0] at h2; cases h2
      | own es' => obtain ⟨a1, ws1, e, g1, g2, g3, g4⟩ := z; rw [ea] at e; cases e; exact ⟨.own cs', rfl, rfl, a, ws2, ea, k5, g2, k8, k9⟩
      | par es' => obtain ⟨a1, ws1, e, g1, g2, g3, g4⟩ := z; rw [ea] at e; cases e; exact ⟨.par cs', rfl, rfl, a, ws2, ea, k5, g2, k8, k9⟩
    have hout : (B.H0 a = none ∨ B.Z a) ∨ B.M a := by
      have z := R1.slot i s0 hs0
      cases s0 with
      | no => cases hs0o
      | val d => cases hs0o
      | dic kvs => cases hs0o
      | fd kvs => cases hs0o
      | od kvs => unfold ownAt at h2; rw [hs0] at h2; cases h2
      | own es' => obtain ⟨a1, ws1, e, g1, g2, g3, g4⟩ := z; rw [ea] at e; cases e; exact .inl g2
      | par es' => obtain ⟨a1, ws1, e, g1, g2, g3, g4⟩ := z; rw [ea] at e; cases e; exact .inr g2
    obtain ⟨s1, es1, ho1, ok1⟩ := shape
    rw [es1]
    refine ⟨by rw [List.length_set]; exact R1.len, fun j s h' => ?_, fun j l s t b hjl g1 g2 g3 g4 g5 g6 => ?_, R1.ext0.trans k2, k3, fun b o e hm hz => ?_, fun b o e => ?_, k4, fun b e => R1.fresh b (k7 b e)⟩
    · by_cases hj : i = j
      · subst hj
        rw [List.getElem?_set_self hl] at h'
        cases h'
        exact ok1
      · rw [List.getElem?_set_ne hj] at h'
        have q := R1.slot j s h'
        cases s with
        | no => trivial
        | val d => obtain ⟨v, e, dd⟩ := q; exact ⟨v, e, dp_mono k2 dd⟩
        | dic kvs => obtain ⟨a, ws, e, h1, h2⟩ := q; exact ⟨a, ws, e, k2 _ _ h1, kva_mono k2 h2⟩
        | fd kvs => obtain ⟨a, ws, e, h1, h2⟩ := q; exact ⟨a, ws, e, k2 _ _ h1, od_mono k2 h2⟩
        | own ds' =>
          obtain ⟨b, ws', e, g1, g2, g3, g4⟩ := q
          have nb : b ≠ a := fun z => R1.dist i j s0 _ a hj hs0 hs0o h' rfl ea (z ▸ e)
          exact ⟨b, ws', e, noF b g1 g3, g2, k1 b _ nb g3, dpa_mono k2 g4⟩
        | od kvs =>
          obtain ⟨b, ws', e, g1, g2, g3, g4⟩ := q
          have nb : b ≠ a := fun z => R1.dist i j s0 _ a hj hs0 hs0o h' rfl ea (z ▸ e)
          exact ⟨b, ws', e, noF b g1 g3, g2, k1 b _ nb g3, od_mono k2 g4⟩
        | par ds' =>
          obtain ⟨b, ws', e, g1, g2, g3, g4⟩ := q
          have nb : b ≠ a := fun z => R1.dist i j s0 _ a hj hs0 hs0o h' rfl ea (z ▸ e)
          exact ⟨b, ws', e, noF b g1 g3, g2, k1 b _ nb g3, dpa_mono k2 g4⟩
    · have back : ∀ (j : Nat) (s : Slot), (Γ1.set i s1)[j]? = some s → s.isOwn = true → ∃ t : Slot, Γ1[j]? = some t ∧ t.isOwn = true := fun j s q w => by
        by_cases hj : i = j
        · subst hj; exact ⟨s0, hs0, hs0o⟩
        · rw [List.getElem?_set_ne hj] at q; exact ⟨s, q, w⟩
      obtain ⟨s', y1, y2⟩ := back j s g1 g2
      obtain ⟨t', y3, y4⟩ := back l t g3 g4
      exact R1.dist j l s' t' b hjl y1 y2 y3 y4 g5 g6
    · by_cases hb : b = a
      · subst hb
        rcases hout with (z | z) | z
        · rw [z] at e; cases e
        · exact absurd z hz
        · exact absurd z hm
      · exact k1 b o hb (R1.frame b o e hm hz)
    · rcases k6 b o e with z | z
      · exact R1.newF b o z
      · exact .inr (.inl (R1.fresh b z))
  exact q v F2 H2 (e1.trans k2) R2 k10
end
end Z
set_option Elab.async false
set_option linter.all false
set_option maxRecDepth 100000
set_option maxHeartbeats 2000000
/-! Z: what the library lacks: tuple[::-1], sorted(tuple), enumerate(tuple), list + list whatever lists, tuple(range(a, b, c)) -/
namespace HT
open PySem PyProof.Rows
section
variable {prog : Program} {w : World} {A : Around} {E : Value → Shared → Prop} {s : Shared}
theorem sliceApplied_rev {sl : Addr} {vl vu vs : Value} {n : Nat} {Q : Int × Int × Nat → Shared → Prop} (hs : s.heap.IsSliceOf sl vl vu vs) (pl : IsPart vl none) (pu : IsPart vu none) (ps : IsPart vs (some (-1)))
    (h : Q ((n : Int) - 1, -1, n) s) : wpAny (model prog w) A (Builtin.Slice.sliceApplied (.ref sl) (pure (n : Int))) Q E s := by
  obtain ⟨os, hos, hcs, hds⟩ := id hs
  unfold Builtin.Slice.sliceApplied Builtin.Slice.sliceFields
  refine wpAny_bind (wpAny_bind (wpAny_field hos hds (x := vl) rfl (wpAny_bind (wpAny_field hos hds (x := vu) rfl (wpAny_bind (wpAny_field hos hds (x := vs) rfl (wpAny_pure ?_)))))))
  refine wpAny_bind (slicePart_ ps ?_)
  show wpAny _ _ (if ((-1 : Int) == 0) = true then _ else _) _ _ s
  rw [if_neg (by decide)]
  refine wpAny_bind (slicePart_ pl (wpAny_bind (slicePart_ pu (wpAny_bind (wpAny_pure ?_)))))
  show wpAny _ _ (match Builtin.Slice.sliceAdjust none none (-1) (n : Int) with | (lo, hi) => pure (lo, (-1 : Int), Builtin.Slice.slicePlaces lo hi (-1))) _ _ s
  have e1 : Builtin.Slice.sliceAdjust none none (-1) (n : Int) = ((n : Int) - 1, -1) := by
    unfold Builtin.Slice.sliceAdjust
    rfl
  rw [e1]
  show wpAny _ _ (pure ((n : Int) - 1, (-1 : Int), Builtin.Slice.slicePlaces ((n : Int) - 1) (-1) (-1))) _ _ s
  have e2 : Builtin.Slice.slicePlaces ((n : Int) - 1) (-1) (-1) = n := by
    unfold Builtin.Slice.slicePlaces
    have h1 : ¬ (-1 : Int) > 0 := by decide
    simp only [h1, if_false]
    split
    · show (((n : Int) - 1 - -1 - 1) / - -1 + 1).toNat = n
      have : ((n : Int) - 1 - -1 - 1) / - -1 = (n : Int) - 1 := by
        show ((n : Int) - 1 - -1 - 1) / 1 = _
        rw [Int.ediv_one]; omega
      rw [this]; omega
    · omega
  rw [e2]
  exact wpAny_pure h
theorem pick_rev (xs : Array Value) : ((List.range xs.size).filterMap fun (m : Nat) => xs[(((xs.size : Int) - 1) + (m : Int) * (-1)).toNat]?).toArray = xs.toList.reverse.toArray := by
  congr 1
  have e : ((List.range xs.size).filterMap fun (m : Nat) => xs[(((xs.size : Int) - 1) + (m : Int) * (-1)).toNat]?) = ((List.range xs.size).map fun m => xs[xs.size - 1 - m]?).filterMap id := by
    have all : ∀ l : List Nat, (∀ m ∈ l, m < xs.size) → (l.filterMap fun (m : Nat) => xs[(((xs.size : Int) - 1) + (m : Int) * (-1)).toNat]?) = (l.map fun m => xs[xs.size - 1 - m]?).filterMap id := by
      intro l
      induction l with
      | nil => intro _; rfl
      | cons m l ih =>
        intro hl
        have hm := hl m List.mem_cons_self
        have e0 : (((xs.size : Int) - 1) + (m : Int) * (-1)).toNat = xs.size - 1 - m := by omega
        rw [List.filterMap_cons, List.map_cons, List.filterMap_cons, ih fun k hk => hl k (List.mem_cons_of_mem _ hk), e0]
        rfl
    exact all _ fun m hm => List.mem_range.mp hm
  rw [e]
  have e2 : ((List.range xs.size).map fun m => xs[xs.size - 1 - m]?) = xs.toList.reverse.map some := by
    apply List.ext_getElem?
    intro i
    simp only [List.getElem?_map]
    by_cases hi : i < xs.size
    · rw [List.getElem?_range hi, List.getElem?_reverse (by simpa using hi)]
      have hh : xs.size - 1 - i < xs.size := by omega
      simp [hh]
    · rw [List.getElem?_eq_none_iff.mpr (by simpa using hi), List.getElem?_eq_none_iff.mpr (by simp; omega)]
      rfl
  rw [e2, List.filterMap_map]
  simp
theorem getItem_tuple_rev {t sl : Addr} {items : Array Value} {vl vu vs : Value} {Q : Value → Shared → Prop} (ht : IsTup s.heap t items) (hs : s.heap.IsSliceOf sl vl vu vs) (pl : IsPart vl none) (pu : IsPart vu none) (ps : IsPart vs (some (-1)))
    (h : Q (.ref s.heap.objs.size) { s with heap := s.heap.push { cls := .type "tuple", data := .seq items.toList.reverse.toArray } })
    (hsz : items.size ≤ sizeLine) : wpAny (model prog w) A (getItem (.ref t) (.ref sl)) Q E s := by
  have htake : sizeOk (.seq items.toList.reverse.toArray) := by
    show items.toList.reverse.toArray.size ≤ sizeLine
    simpa using hsz
  obtain ⟨os, hos, hcs, hds⟩ := id hs
  have hTs : s.TypeIs (.ref sl) "slice" := ⟨os, hos, hcs⟩
  unfold getItem
  try with_reducible refine wpAny_holding ?_
  first | refine wpAny_bind (wpAny_pure ?_) | skip
  refine wpAny_bind (wpAny_sequenceKey ht.typeIs (by decide) ?_)
  refine wpAny_bind (wpAny_callSpecial?_slot (name := Str.ofString "__getitem__") ht.typeIs PyProof.Rows.slot_tuple_getitem
    (wpAny_call_entry PyProof.Rows.slot_tuple_getitem ht.typeIs entry_tuple_getitem ?_ (args_tuple_getitem _ _)))
  show wpAny _ _ (Builtin.Tuple.tupleItemsOf (.ref t) >>= _) _ _ s
  refine wpAny_bind (tupleItemsOf_ ht ?_)
  refine wpAny_bind (wpAny_typeOf hTs ?_)
  rw [if_pos (by decide)]
  refine wpAny_bind (sliceApplied_rev hs pl pu ps ?_)
  have hno : ¬ ((((items.size : Int) - 1) == 0 && (-1 : Int) == 1 && items.size == items.size) = true) := by
    intro q
    rw [Bool.and_eq_true, Bool.and_eq_true] at q
    exact absurd q.1.2 (by decide)
  show wpAny _ _ (if (((items.size : Int) - 1) == 0 && (-1 : Int) == 1 && items.size == items.size) = true then _ else _) _ _ s
  rw [if_neg hno, pick_rev]
  first
    | exact wpAny_bind (m := Builtin.Tuple.tupleExact _) (wpAny_newObj_type (wpAny_pure ⟨_, rfl, wpAny_pure h⟩) htake)
    | exact wpAny_bind (m := Builtin.Tuple.tupleExact _) (wpAny_newObj_type (wpAny_bind (wpAny_pure (wpAny_pure ⟨_, rfl, wpAny_pure h⟩))) htake)
    | exact wpAny_bind (wpAny_bind (m := Builtin.Tuple.tupleExact _) (wpAny_newObj_type (wpAny_pure (wpAny_pure ⟨_, rfl, wpAny_pure h⟩)) htake))
    | exact wpAny_bind (wpAny_bind (m := Builtin.Tuple.tupleExact _) (wpAny_newObj_type (wpAny_pure ⟨_, rfl, wpAny_pure h⟩) htake))
end
end HT
namespace Z
open PySem L2 Evl PyProof.Rows
section
variable {X : Cx}
/-- x[::-1], a list or a tuple: a new one -/
def tRevX (K : PySem.W.Frag) (te : TE) : TE := fun σ H Q => te σ H fun x H1 => ∃ a xs, x = .ref a ∧ ((SqL K H1 a xs ∧ ∀ p, H1 p = none → Q (.ref p) (upd H1 p (.lst xs.reverse))) ∨ (SqT K H1 a xs ∧ NewT H1 xs.reverse Q))
theorem pe_revX {e : Expr} {te : TE} {k : Nat} {p1 p2 p3 pos : Pos} (he : PE X e te) : PE X (.Subscript e (.Slice none none (some (.UnaryOp .USub (.Constant (.int 1) k p1) p2)) p3) pos) (tRevX X.K te) := by
  refine ⟨fun pins s σ H Q I h => ?_⟩
  refine Subscript_ (thn (he.run pins s σ H _ I h) fun v s1 ⟨x, H1, I1, r1, q1⟩ => ?_)
  obtain ⟨a, xs, ex, hx⟩ := q1
  subst ex
  cases r1
  have hst : PO X (some (.UnaryOp .USub (.Constant (.int 1) k p1) p2)) (tPart (tUn (rU fun i => .int (-i)) (tC (.int 1)))) := po_some (pe_un un_neg pe_int)
  refine wpAny_Slice (thn (po_none.run pins s1 σ H1 (fun o H2 => o = none ∧ H2 = H1) I1 ⟨rfl, rfl⟩) fun vl s2 ⟨l, H2, I2, pl, el, e2⟩ => ?_)
  subst el e2
  refine thn (po_none.run pins s2 σ H2 (fun o H3 => o = none ∧ H3 = H2) I2 ⟨rfl, rfl⟩) fun vu s3 ⟨u, H3, I3, pu, eu, e3⟩ => ?_
  subst eu e3
  refine thn (hst.run pins s3 σ H3 (fun o H4 => o = some (-1) ∧ H4 = H3) I3 ⟨1, rfl, -1, rfl, rfl, rfl⟩) fun vs s4 ⟨o, H4, I4, ps, eo, e4⟩ => ?_
  subst eo e4
  have I5 : Inv X pins σ H4 { s4 with heap := s4.heap.push { cls := .type "slice", data := .fields #[vl, vu, vs] } } := I4.kept (t' := s4.toks) fun b ob q => Heap.get?_push_of_some _ q
  show wpAny (model X.prog X.w) X.A (subscriptTail e (.Slice none none (some (.UnaryOp .USub (.Constant (.int 1) k p1) p2)) p3) (.ref a) (.ref s4.heap.objs.size)) (L2.EP X pins σ Q) X.xe { s4 with heap := s4.heap.push { cls := .type "slice", data := .fields #[vl, vu, vs] } }
  rcases hx with ⟨hx, q⟩ | ⟨hx, q⟩
  · obtain ⟨its, r, ht, hz⟩ := I5.list hx
    have hlen := r.length
    refine tail_any (ops := [.ref a, .ref s4.heap.objs.size]) ht.isList.typeIs (PySem.slot_list_getitem.lookup) ?_ (by with_unfolding_all rfl)
    refine wpAny_getItem_list_slice ht.isList (Heap.IsSliceOf.new _ vl vu vs) pl pu ps (by decide) ?_ (by rw [List.size_toArray]; omega)
    rw [PySem.W.krv_pick]
    refine ⟨.ref _, _, I5.laid (t' := s4.toks) (o := .lst xs.reverse) (fun b ob q => Heap.get?_push_of_some _ q) (Nat.le_refl _) ?_, rfl, q _ (I5.hok.fresh (Nat.le_refl _))⟩
    exact ⟨by rw [List.length_reverse]; exact hz, _, 0, r.reverse, Heap.get?_push_size _ rfl⟩
  · obtain ⟨its, r, ht, hz⟩ := I5.tuple hx
    have hlen := r.length
    refine tail_any (ops := [.ref a, .ref s4.heap.objs.size]) ht.typeIs (PyProof.Rows.slot_tuple_getitem.lookup) ?_ (by with_unfolding_all rfl)
    refine HT.getItem_tuple_rev ht (Heap.IsSliceOf.new _ vl vu vs) pl pu ps ?_ (by rw [List.size_toArray]; omega)
    exact newT_of (h := s4.heap.push { cls := .type "slice", data := .fields #[vl, vu, vs] }) (tk := s4.toks) I5 (by rw [List.length_reverse]; exact hz) r.reverse q
/-- list + list, whatever lists -/
def rCatL (K : PySem.W.Frag) : R2 := fun x y H Q => ∃ l b xs zs, x = .ref l ∧ y = .ref b ∧ SqL K H l xs ∧ SqL K H b zs ∧ xs.length + zs.length ≤ sizeLine ∧ ∀ p, H p = none → Q (.ref p) (upd H p (.lst (xs ++ zs)))
theorem op_catL : OpR X (binaryOp .Add) (rCatL X.K) := by
  intro pins s σ H x y v u Q I rx ry h
  obtain ⟨l, b, xs, zs, rfl, rfl, hH, hB, hz, q⟩ := h
  cases rx
  cases ry
  obtain ⟨vs, r, hl, z1⟩ := I.list hH
  obtain ⟨ws, r2, hb, z2⟩ := I.list hB
  have l1 := r.length
  have l2 := r2.length
  obtain ⟨⟨cls, dd, data, sl⟩, ho, hc, n, hd⟩ := hl.isList
  obtain ⟨⟨cls2, dd2, data2, sl2⟩, ho2, hc2, n2, hd2⟩ := hb.isList
  simp only at hc hd hc2 hd2
  subst hc hd hc2 hd2
  have e : vs.toArray ++ ws.toArray = (vs ++ ws).toArray := by simp
  refine concat_meets ⟨_, ho, rfl⟩ ⟨_, ho2, rfl⟩ noFill_list_add seq_list_add PySem.F.slot_list_add PySem.F.entry_list_add (PySem.F.args_list_add_2 _ _) (list_addW l b vs.toArray ws.toArray n n2 dd dd2 sl sl2 (by simp; omega)) ⟨ho, ho2, ?_⟩
  rw [e]
  refine ⟨.ref s.heap.objs.size, _, I.laid (t' := s.toks) (o := .lst (xs ++ zs)) (fun b ob q => Heap.get?_push_of_some _ q) (Nat.le_refl _) ?_, rfl, q _ (I.hok.fresh (Nat.le_refl _))⟩
  exact ⟨by rw [List.length_append]; exact hz, _, 0, r.append r2, Heap.get?_push_size _ rfl⟩
end
end Z
namespace SrtO
open PySem PyProof.Rows
section
variable {prog : Program} {w : World} {A : Around} {E : Value → Shared → Prop} {s : Shared}
/-- sorted(t), t a tuple (or a list) -/
theorem sorted_ordS {l : Addr} {T : String} {o : Obj} {n0 : Nat} {vs : List Value} {ltv : Value → Value → Bool} {Q : Value → Shared → Prop} (O : Swo ltv) (hT : T = "list" ∨ T = "tuple") (ho : s.heap.get? l = some o) (hc : o.cls = .type T) (hd : o.data = .seq vs.toArray n0) (hz : vs.length ≤ sizeLine)
    (hS : 2 ≤ vs.length → ∀ (h₁ : Heap) (a : Addr), h₁.get? a = some (seqObj "list" vs.toArray 0) → (∀ b o, s.heap.get? b = some o → h₁.get? b = some o) → SortableO prog w A.in1.in1 { s with heap := h₁ } a vs ltv)
    (h : ∀ (out : List Value) (h₂ h' : Heap) (p : Addr), Srtd ltv out → Stb ltv out vs → (∀ b o, s.heap.get? b = some o → h₂.get? b = some o) → (∀ b o, h₂.get? b = some o → h'.get? b = some o) → h₂.objs.size ≤ p → (∃ ep, h'.get? p = some (seqObj "list" out.toArray ep)) → Q (.ref p) { s with heap := h' }) :
    wpAny (model prog w) A (call (.builtin "sorted") [.ref l]) Q E s := by
  refine Calls.call_function_entry kind_sorted plain_sorted entry_sorted (args_sorted1 _) ?_
  unfold Builtin.«sorted»
  refine wpAny_bind (m := checkCount "sorted" 1 1 _) (wpAny_pure ?_)
  refine wpAny_bind (PySem.wpAny_collect_seq l hT ho hc hd (fun h₂ k2 => ?_) (by simpa using hz))
  refine wpAny_bind (wpAny_newList ?_ hz)
  have hoL : (h₂.push (seqObj "list" vs.toArray 0)).get? h₂.objs.size = some (seqObj "list" vs.toArray 0) := Heap.get?_push_size _ rfl
  have k3 : ∀ b o, s.heap.get? b = some o → (h₂.push (seqObj "list" vs.toArray 0)).get? b = some o := fun b o q => Heap.get?_push_of_some _ (k2 b o q)
  show wpAny _ _ _ _ _ { s with heap := h₂.push (seqObj "list" vs.toArray 0) }
  refine wpAny_bind (wpAny_holding (wpAny_call_entry slot_list_sort ⟨_, hoL, rfl⟩ entry_list_sort (list_sort_ord O hoL hz (fun h2 => hS h2 _ _ hoL k3) fun out hs hb => ⟨_, rfl, ?_⟩) (args_list_sort _)))
  refine wpAny_pure ⟨_, rfl, h out h₂ _ h₂.objs.size hs hb k2 (fun b o q => ?_) (Nat.le_refl _) (sortedHeap_at hoL)⟩
  have hlt : b < h₂.objs.size := Heap.lt_size q
  rw [sortedHeap_old (Nat.ne_of_lt hlt) (by rw [size_push']; exact Nat.lt_succ_of_lt hlt)]
  exact Heap.get?_push_of_some _ q
end
end SrtO
namespace Z
open PySem L2 Evl PyProof.Rows
section
variable {X : Cx}
/-- sorted of ints, a list or a tuple -/
def rSrt (K : PySem.W.Frag) : List V → Hp → VK → Prop := fun vs H Q => ∃ (a : Addr) (ns : List Int), vs = [V.ref a] ∧ (SqL K H a (ns.map V.int) ∨ SqT K H a (ns.map V.int)) ∧
  ∀ (ns' : List Int) (p : Addr), ns'.Perm ns → ns'.Pairwise (· ≤ ·) → H p = none → Q (.ref p) (upd H p (.lst (ns'.map V.int)))
theorem cr_srt : CallR X (.builtin "sorted") (rSrt X.K) := by
  intro pins s σ H vs us Q I r h
  obtain ⟨a, ns, rfl, hs, q⟩ := h
  rw [Vals.ref1 r]
  have fin : ∀ (its : List Value) (T : String) (o : Obj) (n0 : Nat), Vals (ns.map V.int) its → (T = "list" ∨ T = "tuple") → s.heap.get? a = some o → o.cls = .type T → o.data = .seq its.toArray n0 → (ns.map V.int).length ≤ sizeLine →
      wpAny (model X.prog X.w) X.A (call (.builtin "sorted") [.ref a]) (L2.EP X pins σ Q) X.xe s := fun its T o n0 rv hT ho hc hd hz => by
    have hi := rv.ints
    refine SrtO.sorted_ordS SrtO.swo_int hT ho hc hd (by rw [← rv.length]; exact hz) (fun h2 h₁ a' _ _ => SrtO.ints_sortable hi h2) fun out h₂ h' p h1 h2 k2 k3 hp he => ?_
    obtain ⟨e1, e2, e3⟩ := SrtO.ints_out hi h1 h2
    obtain ⟨ep, he'⟩ := he
    have hlen : ((out.map SrtO.iv).map V.int).length ≤ sizeLine := by
      rw [List.length_map, e2.length_eq]
      rw [List.length_map] at hz
      exact hz
    have I2 : Inv X pins σ H { s with heap := h₂ } := I.kept (t' := s.toks) k2
    exact ⟨.ref p, upd H p (.lst ((out.map SrtO.iv).map V.int)), I2.laid (t' := s.toks) k3 hp ⟨hlen, out, ep, vals_of_ints e1, he'⟩, rfl, q _ _ e2 e3 (I2.hok.fresh hp)⟩
  rcases hs with hs | hs
  · obtain ⟨its, rv, hl, hz⟩ := I.list hs
    obtain ⟨o, ho, hc, n, hd⟩ := hl.isList
    exact fin its "list" o n rv (.inl rfl) ho hc hd hz
  · obtain ⟨its, rv, ht, hz⟩ := I.tuple hs
    obtain ⟨o, ho, hc, n, hd⟩ := ht
    exact fin its "tuple" o n rv (.inr rfl) ho hc hd hz
/-! tuple(range(a, b, c)) -/
def PRg3 (X : Cx) (e : Expr) (t : L2.St → Hp → (Int → Int → Int → Hp → Prop) → Prop) : Prop :=
  ∀ (pins : List (Addr × Obj)) (s : Shared) (σ : L2.St) (H : Hp) (Q : Int → Int → Int → Hp → Prop), Inv X pins σ H s → t σ H Q →
    wpAny (model X.prog X.w) X.A (eval e X.env) (fun x s' => ∃ r a b c t u v H', x = .ref r ∧ IsRange s'.heap r a b c t u v ∧ Inv X pins σ H' s' ∧ Q a b c H') X.xe s
end
end Z
set_option Elab.async false
set_option linter.all false
set_option maxRecDepth 100000
set_option maxHeartbeats 2000000
/-! Z: for i, x in enumerate(t), t a tuple -/
namespace PySem
set_option maxHeartbeats 1000000 in
theorem meets_enumerate_newB1 {v : Value} {o : Obj} {H : Heap → Prop} (B : Begins v o H) :
    Meets (Builtin.«enumerate.__new__» ⟨[.type "enumerate", v], []⟩) (fun _ R s => H s.heap ∧
      R (.ok (.ret (.ref (s.heap.push o).objs.size))) { s with heap := (s.heap.push o).push { cls := .type "enumerate", data := .fields #[.none, .bool false, .ref s.heap.objs.size, rawInt 0, .none, .none] } }) :=
  .of_wp fun prog w A R s h => by
    obtain ⟨hp, g, d, tk, os⟩ := s; obtain ⟨h1, h⟩ := h
    have hsub := sub_enumerate
    have q1 : ∀ {A' : Around} {E : Value → Shared → Prop} {Q : Value → Shared → Prop}, Q (.ref hp.objs.size) ⟨hp.push o, g, d, tk, os⟩ → wpAny (model prog w) A' (pyIter v) Q E ⟨hp, g, d, tk, os⟩ :=
      fun q => B.iter prog w _ _ ⟨hp, g, d, tk, os⟩ _ h1 q
    wp_walk using q1
    refine wpAny_stack_any fun st => wpAny_pure ?_
    split
    · rename_i c _ _ _ _ _
      cases (c == Value.type "enumerate")
      · wp_walk using q1
        exact ⟨_, rfl, h⟩
      · wp_walk using q1
        exact ⟨_, rfl, h⟩
    · wp_walk using q1
      exact ⟨_, rfl, h⟩
section
variable {prog : Program} {w : World} {A : Around} {E : Value → Shared → Prop} {s : Shared}
theorem enum_begins1 {v : Value} {o : Obj} {H : Heap → Prop} {Q : Value → Shared → Prop} (B : Begins v o H) (h1 : H s.heap)
    (h : ∀ h', IsEnum h' (s.heap.objs.size + 1) s.heap.objs.size 0 .none → h'.get? s.heap.objs.size = some o → h'.objs.size = s.heap.objs.size + 2 →
      (∀ b o, s.heap.get? b = some o → h'.get? b = some o) → Q (.ref (s.heap.objs.size + 1)) { s with heap := h' }) :
    wpAny (model prog w) A (call (.type "enumerate") [v]) Q E s := by
  refine callType_new F.called_enumerate (by decide) (F.typeCall_enumerate_1 _) (F.newCall_enumerate_1 _) (fun obj => F.args_object_init_2 obj _) F.entry_enumerate_new
    (meets_enumerate_newB1 B) ⟨h1, ?_⟩
  have hz : (s.heap.push o).objs.size = s.heap.objs.size + 1 := Heap.size_push ..
  show _ ∧ _
  rw [hz]
  have he : IsEnum ((s.heap.push o).push { cls := .type "enumerate", data := .fields #[.none, .bool false, .ref s.heap.objs.size, rawInt 0, .none, .none] }) (s.heap.objs.size + 1) s.heap.objs.size 0 .none := by
    have := Heap.get?_push_size (s.heap.push o) (o := { cls := .type "enumerate", data := .fields #[.none, .bool false, .ref s.heap.objs.size, rawInt 0, .none, .none] }) rfl
    rw [hz] at this; exact this
  refine ⟨⟨_, he, rfl⟩, h _ he (Heap.get?_push_of_some _ (Heap.get?_push_size _ B.free)) (by rw [Heap.size_push, hz]) fun b o x => Heap.get?_push_of_some _ (Heap.get?_push_of_some _ x)⟩
end
end PySem
namespace L2
open PySem PySem.Spec PyProof.Rows Z
/-- the tuple at a, its items in new pairs -/
def IteT (K : PySem.W.Frag) (a : Addr) : It :=
  ⟨fun i H => ∃ (xs : List V) (x : V), SqT K H a xs ∧ xs[i]? = some x, fun i H v H' => ∃ T x o, v = .ref T ∧ H T = none ∧ Dl o ∧ H' = upd H T (.frz o (.tup [.int (i : Nat), x])) ∧ ∀ xs, SqT K H a xs → xs[i]? = some x, fun i H => ∃ xs : List V, SqT K H a xs ∧ xs.length ≤ i⟩
theorem turn_enumT {P : Program} {w : World} {K : PySem.W.Frag} {elts : List Expr} {kk : Nat} {tpos : Pos} (a e it : Addr) :
    Turn P w K (.Tuple elts kk tpos) (IteT K a) [e, it] e (fun i h => (∃ old, IsEnum h e it ((i : Nat) : Int) old) ∧ h.IsTupleIter it a i ∧ e ≠ it ∧ a ≠ it ∧ a ≠ e) where
  mem := by simp
  obj := fun i h st b hb => by
    obtain ⟨⟨old, he⟩, ⟨o, ho, hc, hd⟩, _⟩ := st
    have e' : b = e ∨ b = it := by simpa using hb
    rcases e' with z | z
    · rw [z]; exact ⟨_, he, fun v q => nomatch q⟩
    · rw [z]; exact ⟨o, ho, fun v q => by rw [hd] at q; cases q⟩
  keep := fun i h h' st k => let ⟨⟨old, he⟩, hi, hne⟩ := st; ⟨⟨old, k e (by simp) _ he⟩, hi.at fun o q => k it (by simp) o q, hne⟩
  item := by
    intro X hP hw hK hc i pins s σ H E I hf st hg
    subst hP hw hK
    obtain ⟨⟨old, he⟩, hit, hne, ha1, ha2⟩ := st
    obtain ⟨xs, x, hq, hx⟩ := hg
    obtain ⟨its, rv, p, hz⟩ := I.tuple hq
    obtain ⟨u, hu, ru⟩ := rv.get hx
    have hel : e < s.heap.objs.size := Heap.lt_size he
    have hil : it < s.heap.objs.size := by obtain ⟨_, q, _⟩ := hit; exact Heap.lt_size q
    have hi : i < its.toArray.size := by
      have := (List.getElem?_eq_some_iff.mp hu).1
      simpa using this
    refine wpAny_pyNext_enum_itemD (Draws.tuple (prog := X.prog) (w := X.w) (A := X.A.in1) (I.ok.hd hc) it a ha1 its.toArray) he ⟨hit, p⟩ hi hne (by simp [hne, Ne.symm ha2]) fun x' h' tk hP ho hit' hT hsz hk => ?_
    have ex : x' = u := by
      have hP' : its.toArray[i]? = some x' := hP
      simp only [List.getElem?_toArray] at hP'
      rw [hu] at hP'; exact (Option.some.inj hP').symm
    subst ex
    refine ⟨_, rfl, wpAny_letOwnedTupleGo_enum (s := { s with heap := h', toks := tk + 1 }) ho fun h'' he' sb => ?_⟩
    have hT2 : h''.get? s.heap.objs.size = some { cls := .type "tuple", data := .seq #[.int i tk, x'] } := (sb.2 _ (Nat.ne_of_gt hel)).trans hT
    have new : ObjOk X.prog X.w (upd H s.heap.objs.size (.frz { cls := .type "tuple", data := .seq #[.int i tk, x'] } (.tup [.int (i : Nat), x]))) h'' s.heap.objs.size (.frz { cls := .type "tuple", data := .seq #[.int i tk, x'] } (.tup [.int (i : Nat), x])) :=
      ⟨hT2, by show 2 ≤ sizeLine; decide, [.int i tk, x'], .cons ⟨_, rfl⟩ (.cons ru .nil), ⟨_, hT2, rfl, _, rfl⟩⟩
    have I1 : Inv X pins σ (upd H s.heap.objs.size (.frz { cls := .type "tuple", data := .seq #[.int i tk, x'] } (.tup [.int (i : Nat), x]))) { s with heap := h'', toks := tk + 1 } :=
      I.turnedNew (ch := [e, it]) (fun b ob hb q => (sb.2 b (fun z => hb (by simp [z]))).trans (hk b ob (fun z => hb (by simp [z])) (fun z => hb (by simp [z])) q)) hf (Nat.le_refl _) new
    refine ⟨.ref s.heap.objs.size, _, I1, rfl, ⟨_, x, _, rfl, I.hok.fresh (Nat.le_refl _), ⟨rfl, rfl⟩, rfl, fun ys hy => by rw [I.tuple_inj hy hq]; exact hx⟩, ⟨⟨x', ?_⟩, hit'.1.at fun o q => (sb.2 it (Ne.symm hne)).trans q, hne, ha1, ha2⟩, fun b hb => ?_⟩
    · have e1 : ((i + 1 : Nat) : Int) = (i : Int) + 1 := by omega
      rw [e1]; exact he'
    · have hb' : b < s.heap.objs.size := by
        have e' : b = e ∨ b = it := by simpa using hb
        rcases e' with z | z
        · rw [z]; exact hel
        · rw [z]; exact hil
      rw [upd_ne (Nat.ne_of_lt hb')]
      exact (hf b hb).1
  done := by
    intro X hP hw hK hc i pins s σ H E I hf st hg
    subst hP hw hK
    obtain ⟨⟨old, he⟩, hit, hne, ha1, ha2⟩ := st
    obtain ⟨xs, hq, hx⟩ := hg
    obtain ⟨its, rv, p, hz⟩ := I.tuple hq
    obtain ⟨f0, f1, f2, f3, f4, f5⟩ := hf it (by simp)
    have hl := rv.length
    have hT : s.TypeIs (.ref e) "enumerate" := ⟨_, he, rfl⟩
    unfold pyNext
    refine wpAny_bind (wpAny_attempt (wpAny_callSpecial?_slot (name := Str.ofString "__next__") hT PySem.F.slot_enumerate_next
      (wpAny_call_entry PySem.F.slot_enumerate_next hT PySem.F.entry_enumerate_next ?_ (PySem.F.args_enumerate_next_1 _))))
    show wpAny _ _ (field (.ref e) 2 >>= _) _ _ _
    refine wpAny_bind (wpAny_field he rfl (x := .ref it) rfl ?_)
    refine wpAny_bind (wpAny_nextOf_tuple_end (I.ok.hd hc) hit p (by simp; omega) fun h' x he' hx' => ?_)
    obtain ⟨o, ho, hc'⟩ := hx'
    refine wpAny_bind (wpAny_isInstance (T := "StopIteration") (b := true) ⟨o, ho, hc'⟩ isSubtype_stop ?_)
    exact wpAny_pure ⟨rfl, I.turned (t' := s.toks) (fun b o hb q => he' b o hb q) f0 f1 f3 f4 f5⟩
  self := fun A i s Q E st h => let ⟨⟨_, he⟩, _⟩ := st; wpAny_pyIter_enum he h
def iEnumT (K : PySem.W.Frag) (ta : TA) : TI := fun σ H R => ta σ H fun vs H1 => ∃ a xs, vs = [.ref a] ∧ SqT K H1 a xs ∧ R (IteT K a) H1
theorem pi_enumT {X : Cx} {e : Expr} {ta : TA} {p pos tpos : Pos} {elts : List Expr} {kk : Nat} (hg : Gl X "enumerate") (hm : X.mg "enumerate" = none) (ha : PA X [e] ta) (hs : starEach [e] X.env = [(false, eval e X.env)] := by rfl) :
    PI X (.Tuple elts kk tpos) (.Call (.Name "enumerate" p) [e] [] pos) (iEnumT X.K ta) := by
  refine ⟨fun pins s σ H R I h => ?_⟩
  refine Call_ (ld_blt I hg hm boot_enumerate (PyProof.Rows.callWith_type1 (thn (ha.run pos pins s σ H _ I h) fun us s1 ⟨vs, H1, I1, r1, q1⟩ => ?_) hs rfl))
  obtain ⟨a, xs, ex, hq, q⟩ := q1
  subst ex
  cases r1 with
  | cons r rr =>
    cases rr
    cases r
    obtain ⟨its, rv, p', hz⟩ := I1.tuple hq
    have hal : a < s1.heap.objs.size := by obtain ⟨_, q, _⟩ := p'; exact Heap.lt_size q
    refine enum_begins1 (begins_tuple a its.toArray) p' fun h' he hit hsz hk => wpAny_pyIter_enum he ?_
    have I2 : Inv X pins σ H1 { s1 with heap := h' } := I1.kept (t' := s1.toks) hk
    refine ⟨s1.heap.objs.size + 1, [s1.heap.objs.size + 1, s1.heap.objs.size], _, _, H1, rfl, I2, turn_enumT a (s1.heap.objs.size + 1) s1.heap.objs.size, ⟨⟨.none, he⟩, ⟨_, hit, rfl, rfl⟩, Nat.succ_ne_self _, Nat.ne_of_lt hal, Nat.ne_of_lt (Nat.lt_succ_of_lt hal)⟩, fun b hb => ?_, q⟩
    have e' : b = s1.heap.objs.size + 1 ∨ b = s1.heap.objs.size := by simpa using hb
    have hle : s1.heap.objs.size ≤ b := by
      rcases e' with z | z
      · rw [z]; exact Nat.le_add_right _ _
      · rw [z]; exact Nat.le_refl _
    exact I1.fpOk hle (I1.hok.fresh hle)
/-- the list at a, its items in new pairs -/
def IteL (K : PySem.W.Frag) (a : Addr) : It :=
  ⟨fun i H => ∃ (xs : List V) (x : V), SqL K H a xs ∧ xs[i]? = some x, fun i H v H' => ∃ T x o, v = .ref T ∧ H T = none ∧ Dl o ∧ H' = upd H T (.frz o (.tup [.int (i : Nat), x])) ∧ ∀ xs, SqL K H a xs → xs[i]? = some x, fun i H => ∃ xs : List V, SqL K H a xs ∧ xs.length ≤ i⟩
theorem turn_enumL {P : Program} {w : World} {K : PySem.W.Frag} {elts : List Expr} {kk : Nat} {tpos : Pos} (a e it : Addr) :
    Turn P w K (.Tuple elts kk tpos) (IteL K a) [e, it] e (fun i h => (∃ old, IsEnum h e it ((i : Nat) : Int) old) ∧ h.IsListIter it a i ∧ e ≠ it ∧ a ≠ it ∧ a ≠ e) where
  mem := by simp
  obj := fun i h st b hb => by
    obtain ⟨⟨old, he⟩, ⟨o, ho, hc, hd⟩, _⟩ := st
    have e' : b = e ∨ b = it := by simpa using hb
    rcases e' with z | z
    · rw [z]; exact ⟨_, he, fun v q => nomatch q⟩
    · rw [z]; exact ⟨o, ho, fun v q => by rw [hd] at q; cases q⟩
  keep := fun i h h' st k => let ⟨⟨old, he⟩, hi, hne⟩ := st; ⟨⟨old, k e (by simp) _ he⟩, hi.at fun o q => k it (by simp) o q, hne⟩
  item := by
    intro X hP hw hK hc i pins s σ H E I hf st hg
    subst hP hw hK
    obtain ⟨⟨old, he⟩, hit, hne, ha1, ha2⟩ := st
    obtain ⟨xs, x, hq, hx⟩ := hg
    obtain ⟨its, rv, p, hz⟩ := I.list hq
    obtain ⟨u, hu, ru⟩ := rv.get hx
    have hel : e < s.heap.objs.size := Heap.lt_size he
    have hil : it < s.heap.objs.size := by obtain ⟨_, q, _⟩ := hit; exact Heap.lt_size q
    have hi : i < its.toArray.size := by
      have := (List.getElem?_eq_some_iff.mp hu).1
      simpa using this
    refine wpAny_pyNext_enum_itemD (Draws.list (prog := X.prog) (w := X.w) (A := X.A.in1) (I.ok.hd hc) it a ha1 its.toArray) he ⟨hit, p.isList⟩ hi hne (by simp [hne, Ne.symm ha2]) fun x' h' tk hP ho hit' hT hsz hk => ?_
    have ex : x' = u := by
      have hP' : its.toArray[i]? = some x' := hP
      simp only [List.getElem?_toArray] at hP'
      rw [hu] at hP'; exact (Option.some.inj hP').symm
    subst ex
    refine ⟨_, rfl, wpAny_letOwnedTupleGo_enum (s := { s with heap := h', toks := tk + 1 }) ho fun h'' he' sb => ?_⟩
    have hT2 : h''.get? s.heap.objs.size = some { cls := .type "tuple", data := .seq #[.int i tk, x'] } := (sb.2 _ (Nat.ne_of_gt hel)).trans hT
    have new : ObjOk X.prog X.w (upd H s.heap.objs.size (.frz { cls := .type "tuple", data := .seq #[.int i tk, x'] } (.tup [.int (i : Nat), x]))) h'' s.heap.objs.size (.frz { cls := .type "tuple", data := .seq #[.int i tk, x'] } (.tup [.int (i : Nat), x])) :=
      ⟨hT2, by show 2 ≤ sizeLine; decide, [.int i tk, x'], .cons ⟨_, rfl⟩ (.cons ru .nil), ⟨_, hT2, rfl, _, rfl⟩⟩
    have I1 : Inv X pins σ (upd H s.heap.objs.size (.frz { cls := .type "tuple", data := .seq #[.int i tk, x'] } (.tup [.int (i : Nat), x]))) { s with heap := h'', toks := tk + 1 } :=
      I.turnedNew (ch := [e, it]) (fun b ob hb q => (sb.2 b (fun z => hb (by simp [z]))).trans (hk b ob (fun z => hb (by simp [z])) (fun z => hb (by simp [z])) q)) hf (Nat.le_refl _) new
    refine ⟨.ref s.heap.objs.size, _, I1, rfl, ⟨_, x, _, rfl, I.hok.fresh (Nat.le_refl _), ⟨rfl, rfl⟩, rfl, fun ys hy => by rw [I.list_inj hy hq]; exact hx⟩, ⟨⟨x', ?_⟩, hit'.1.at fun o q => (sb.2 it (Ne.symm hne)).trans q, hne, ha1, ha2⟩, fun b hb => ?_⟩
    · have e1 : ((i + 1 : Nat) : Int) = (i : Int) + 1 := by omega
      rw [e1]; exact he'
    · have hb' : b < s.heap.objs.size := by
        have e' : b = e ∨ b = it := by simpa using hb
        rcases e' with z | z
        · rw [z]; exact hel
        · rw [z]; exact hil
      rw [upd_ne (Nat.ne_of_lt hb')]
      exact (hf b hb).1
  done := by
    intro X hP hw hK hc i pins s σ H E I hf st hg
    subst hP hw hK
    obtain ⟨⟨old, he⟩, hit, hne, ha1, ha2⟩ := st
    obtain ⟨xs, hq, hx⟩ := hg
    obtain ⟨its, rv, p, hz⟩ := I.list hq
    obtain ⟨f0, f1, f2, f3, f4, f5⟩ := hf it (by simp)
    have hl := rv.length
    exact wpAny_pyNext_enum_end (I.ok.hd hc) he hit p.isList (by simp; omega) fun h' eb => ⟨rfl, I.turned (t' := s.toks) (fun b o hb q => eb b o hb q) f0 f1 f3 f4 f5⟩
  self := fun A i s Q E st h => let ⟨⟨_, he⟩, _⟩ := st; wpAny_pyIter_enum he h
def iEnumL (K : PySem.W.Frag) (ta : TA) : TI := fun σ H R => ta σ H fun vs H1 => ∃ a xs, vs = [.ref a] ∧ SqL K H1 a xs ∧ R (IteL K a) H1
theorem pi_enumL {X : Cx} {e : Expr} {ta : TA} {p pos tpos : Pos} {elts : List Expr} {kk : Nat} (hg : Gl X "enumerate") (hm : X.mg "enumerate" = none) (ha : PA X [e] ta) (hs : starEach [e] X.env = [(false, eval e X.env)] := by rfl) :
    PI X (.Tuple elts kk tpos) (.Call (.Name "enumerate" p) [e] [] pos) (iEnumL X.K ta) := by
  refine ⟨fun pins s σ H R I h => ?_⟩
  refine Call_ (ld_blt I hg hm boot_enumerate (PyProof.Rows.callWith_type1 (thn (ha.run pos pins s σ H _ I h) fun us s1 ⟨vs, H1, I1, r1, q1⟩ => ?_) hs rfl))
  obtain ⟨a, xs, ex, hq, q⟩ := q1
  subst ex
  cases r1 with
  | cons r rr =>
    cases rr
    cases r
    obtain ⟨its, rv, p', hz⟩ := I1.list hq
    have hal : a < s1.heap.objs.size := by obtain ⟨_, _, q, _⟩ := p'; exact Heap.lt_size q
    refine call_enumerate_list p'.isList fun h' he hit hsz hk => wpAny_pyIter_enum he ?_
    have I2 : Inv X pins σ H1 { s1 with heap := h' } := I1.kept (t' := s1.toks) hk
    refine ⟨s1.heap.objs.size + 1, [s1.heap.objs.size + 1, s1.heap.objs.size], _, _, H1, rfl, I2, turn_enumL a (s1.heap.objs.size + 1) s1.heap.objs.size, ⟨⟨.none, he⟩, hit, Nat.succ_ne_self _, Nat.ne_of_lt hal, Nat.ne_of_lt (Nat.lt_succ_of_lt hal)⟩, fun b hb => ?_, q⟩
    have e' : b = s1.heap.objs.size + 1 ∨ b = s1.heap.objs.size := by simpa using hb
    have hle : s1.heap.objs.size ≤ b := by
      rcases e' with z | z
      · rw [z]; exact Nat.le_add_right _ _
      · rw [z]; exact Nat.le_refl _
    exact I1.fpOk hle (I1.hok.fresh hle)
end L2
set_option Elab.async false
set_option linter.all false
set_option maxRecDepth 100000
set_option maxHeartbeats 2000000
/-! Z: operators, comparisons, built-ins, what is walked -/
namespace Z
open PySem L2 Evl PyProof.Rows

def pAdd : PyData → PyData → Option PyData
  | .int i, .int j => some (.int (i + j))
  | .tuple xs, .tuple ys => if xs.length + ys.length ≤ 100000 then some (.tuple (xs ++ ys)) else none
  | .list xs, .list ys => if xs.length + ys.length ≤ 100000 then some (.list (xs ++ ys)) else none
  | _, _ => none
def pSub : PyData → PyData → Option PyData
  | .int i, .int j => some (.int (i - j))
  | _, _ => none
def pMul : PyData → PyData → Option PyData
  | .int i, .int j => if i.natAbs.log2 + j.natAbs.log2 < 1000000 then some (.int (i * j)) else none
  | _, _ => none
def pFdiv : PyData → PyData → Option PyData
  | .int i, .int j => if 0 < j ∧ j.natAbs.log2 < 9000 then some (.int (i / j)) else none
  | _, _ => none
def pMod : PyData → PyData → Option PyData
  | .int i, .int j => if 0 < j then some (.int (i % j)) else none
  | _, _ => none
def pPow : PyData → PyData → Option PyData
  | .int i, .int j => if 0 ≤ j ∧ j ≤ 1000000 ∧ i.natAbs < 2 ^ 64 then some (.int (i ^ j.toNat)) else none
  | _, _ => none
def pNeg : PyData → Option PyData
  | .int i => some (.int (-i))
  | _ => none
def pCmp (c : Int → Int → Bool) : PyData → PyData → Option PyData
  | .int i, .int j => some (.bool (c i j))
  | _, _ => none
def pLt := pCmp fun i j => decide (i < j)
def pLe := pCmp fun i j => decide (i ≤ j)
def pGt := pCmp fun i j => decide (j < i)
def pGe := pCmp fun i j => decide (j ≤ i)
def pEq (d e : PyData) : Option PyData := if SeqAt.shaped d = true ∧ SeqAt.shaped e = true then some (.bool (PyData.eqv d e)) else none
def pNe (d e : PyData) : Option PyData := if SeqAt.shaped d = true ∧ SeqAt.shaped e = true then some (.bool (!PyData.eqv d e)) else none
def isNone : PyData → Bool
  | .none => true
  | _ => false
def pIs : PyData → PyData → Option PyData
  | d, .none => some (.bool (isNone d))
  | _, _ => none
def pIsNot : PyData → PyData → Option PyData
  | d, .none => some (.bool (!isNone d))
  | _, _ => none
/-- flat things: what in, not in may look at -/
def flatD : PyData → Bool
  | .none => true
  | .bool _ => true
  | .int _ => true
  | _ => false
def seqOf : PyData → Option (List PyData)
  | .list xs => some xs
  | .tuple xs => some xs
  | _ => none
def pIn (neg : Bool) (d e : PyData) : Option PyData := (seqOf e).bind fun xs => if flatD d = true ∧ xs.all flatD = true then some (.bool (if neg then !(xs.any fun y => PyData.eqv y d) else xs.any fun y => PyData.eqv y d)) else none
def pIx (d k : PyData) : Option PyData := match k with
  | .int i => (seqOf d).bind fun xs => (ixN xs.length i).bind fun j => xs[j]?
  | _ => none
def cutD (xs : List PyData) (lo hi : Option Int) : List PyData := (xs.drop (HT.sIx xs.length 0 lo)).take (HT.sIx xs.length xs.length hi - HT.sIx xs.length 0 lo)
def pSl (d : PyData) (lo hi : Option Int) : Option PyData := match d with
  | .list xs => some (.list (cutD xs lo hi))
  | .tuple xs => some (.tuple (cutD xs lo hi))
  | _ => none

section
variable {K : PySem.W.Frag} {F H : Hp} {v : V}
theorem dp_int {i : Int} (h : Dp K F v (.int i)) : v = .int i := by cases h; rfl
theorem dp_list {ds : List PyData} (h : Dp K F v (.list ds)) : ∃ a vs, v = .ref a ∧ SqL K F a vs ∧ DpAll K F vs ds := by cases h with | lst h1 h2 => exact ⟨_, _, rfl, h1, h2⟩
theorem dp_tup {ds : List PyData} (h : Dp K F v (.tuple ds)) : ∃ a vs, v = .ref a ∧ SqT K F a vs ∧ DpAll K F vs ds := by cases h with | tup h1 h2 => exact ⟨_, _, rfl, h1, h2⟩
theorem dp_none : Dp K F v .none → v = .non := fun h => by cases h; rfl
theorem dp_isN {d : PyData} (h : Dp K F v d) : decide (v = .non) = isNone d := by
  cases h <;> first | rfl | exact decide_eq_false (fun z => by cases z)
theorem opp_int {C : Int → Int → Prop} [∀ i j, Decidable (C i j)] {g : Int → Int → V} {p : PyData → PyData → Option PyData} (hp : ∀ d e z, p d e = some z → ∃ i j, d = .int i ∧ e = .int j ∧ C i j ∧ ∀ F, Dp K F (g i j) z) : OpP K (rI C g) p := by
  intro F H x y d e z ex pl dx dy h Q q
  obtain ⟨i, j, rfl, rfl, hc, hz⟩ := hp d e z h
  exact ⟨i, j, dp_int dx, dp_int dy, hc, q _ F H (Grow.refl ex) (hz F)⟩
theorem opp_int0 {g : Int → Int → V} {p : PyData → PyData → Option PyData} (hp : ∀ d e z, p d e = some z → ∃ i j, d = .int i ∧ e = .int j ∧ ∀ F, Dp K F (g i j) z) : OpP K (rI0 g) p := by
  intro F H x y d e z ex pl dx dy h Q q
  obtain ⟨i, j, rfl, rfl, hz⟩ := hp d e z h
  exact ⟨i, j, dp_int dx, dp_int dy, q _ F H (Grow.refl ex) (hz F)⟩
end
section
variable {X : Cx}
theorem o_add : OpE X (binaryOp .Add) pAdd := by
  refine ⟨_, op_add.or (op_catF.or op_catL), ?_⟩
  intro F H x y d e z ex pl dx dy h Q q
  unfold pAdd at h
  split at h
  · cases h
    exact .inl ⟨_, _, dp_int dx, dp_int dy, q _ F H (Grow.refl ex) (.int _)⟩
  · rename_i xs ys
    split at h
    · rename_i hl
      cases h
      obtain ⟨a, vs, rfl, h1, h2⟩ := dp_tup dx
      obtain ⟨b, ws, rfl, h3, h4⟩ := dp_tup dy
      have l1 := dpa_len h2
      have l2 := dpa_len h4
      refine .inr (.inl ⟨a, b, vs, ws, rfl, rfl, ex_t ex h1, ex_t ex h3, sz_of (by omega), fun e => ?_, fun _ e => ?_, fun _ _ p o hp ho => ?_⟩)
      · subst e
        have : xs = [] := List.eq_nil_of_length_eq_zero (by simpa using l1.symm)
        subst this
        exact q _ F H (Grow.refl ex) (by simpa using Dp.tup h3 h4)
      · subst e
        have : ys = [] := List.eq_nil_of_length_eq_zero (by simpa using l2.symm)
        subst this
        exact q _ F H (Grow.refl ex) (by simpa using Dp.tup h1 h2)
      · have gr := Grow.laid (o := .frz o (.tup (vs ++ ws))) ex hp ho
        exact q _ _ _ gr (.tup (st_frz upd_same) (dpa_mono gr.ext (dpa_app h2 h4)))
    · cases h
  · rename_i xs ys
    split at h
    · rename_i hl
      cases h
      obtain ⟨a, vs, rfl, h1, h2⟩ := dp_list dx
      obtain ⟨b, ws, rfl, h3, h4⟩ := dp_list dy
      have l1 := dpa_len h2
      have l2 := dpa_len h4
      refine .inr (.inr ⟨a, b, vs, ws, rfl, rfl, ex_l ex h1, ex_l ex h3, sz_of (by omega), fun p hp => ?_⟩)
      have gr := Grow.laid (o := .lst (vs ++ ws)) ex hp
      exact q _ _ _ gr (.lst (sq_of upd_same) (dpa_mono gr.ext (dpa_app h2 h4)))
    · cases h
  · cases h
theorem o_sub : OpE X (binaryOp .Sub) pSub := ⟨_, op_sub, opp_int0 fun d e z h => by
  unfold pSub at h; split at h <;> cases h; exact ⟨_, _, rfl, rfl, fun F => .int _⟩⟩
instance (i j : Int) : Decidable (CMulW i j) := by unfold CMulW; infer_instance
instance (i j : Int) : Decidable (CDivW i j) := by unfold CDivW; infer_instance
instance (i j : Int) : Decidable (CPow i j) := by unfold CPow; infer_instance
theorem o_mul : OpE X (binaryOp .Mult) pMul := ⟨_, op_mulW, opp_int fun d e z h => by
  unfold pMul at h
  split at h
  · split at h
    · rename_i hc; cases h; exact ⟨_, _, rfl, rfl, hc, fun F => .int _⟩
    · cases h
  · cases h⟩
theorem o_fdiv : OpE X (binaryOp .FloorDiv) pFdiv := ⟨_, op_fdivW, opp_int fun d e z h => by
  unfold pFdiv at h
  split at h
  · split at h
    · rename_i hc; cases h; exact ⟨_, _, rfl, rfl, hc, fun F => .int _⟩
    · cases h
  · cases h⟩
theorem o_mod : OpE X (binaryOp .Mod) pMod := ⟨_, op_mod, opp_int fun d e z h => by
  unfold pMod at h
  split at h
  · split at h
    · rename_i hc; cases h; exact ⟨_, _, rfl, rfl, hc, fun F => .int _⟩
    · cases h
  · cases h⟩
theorem o_pow : OpE X (binaryOp .Pow) pPow := ⟨_, op_pow, opp_int fun d e z h => by
  unfold pPow at h
  split at h
  · split at h
    · rename_i hc; cases h; exact ⟨_, _, rfl, rfl, hc, fun F => .int _⟩
    · cases h
  · cases h⟩
theorem u_neg : UnE X (unaryOp .USub) pNeg := by
  refine ⟨_, un_neg, ?_⟩
  intro F H x d z ex pl dx h Q q
  unfold pNeg at h
  split at h
  · cases h; exact ⟨_, dp_int dx, q _ F H (Grow.refl ex) (.int _)⟩
  · cases h
theorem cmp_of {c : Int → Int → Bool} {f : Value → Value → Sem Value} (h : OpR X f (rI0 fun i j => .bl (c i j))) : OpE X f (pCmp c) := ⟨_, h, opp_int0 fun d e z h => by
  unfold pCmp at h; split at h <;> cases h; exact ⟨_, _, rfl, rfl, fun F => .bl _⟩⟩
theorem c_lt : OpE X (compareOp .Lt) pLt := cmp_of op_lt
theorem c_le : OpE X (compareOp .LtE) pLe := cmp_of op_le
theorem c_gt : OpE X (compareOp .Gt) pGt := cmp_of op_gt
theorem c_ge : OpE X (compareOp .GtE) pGe := cmp_of op_ge
theorem c_eq (hu : X.A.units + 64 < cLine) : OpE X (compareOp .Eq) pEq := by
  refine ⟨_, op_eqD hu, ?_⟩
  intro F H x y d e z ex pl dx dy h Q q
  unfold pEq at h
  split at h
  · rename_i hs; cases h
    exact ⟨d, e, dp_mono ex dx, dp_mono ex dy, hs.1, hs.2, q _ F H (Grow.refl ex) (.bl _)⟩
  · cases h
theorem c_ne (hu : X.A.units + 64 < cLine) : OpE X (compareOp .NotEq) pNe := by
  refine ⟨_, op_neD hu, ?_⟩
  intro F H x y d e z ex pl dx dy h Q q
  unfold pNe at h
  split at h
  · rename_i hs; cases h
    exact ⟨d, e, dp_mono ex dx, dp_mono ex dy, hs.1, hs.2, q _ F H (Grow.refl ex) (.bl _)⟩
  · cases h
theorem c_is : OpE X (compareOp .Is) pIs := by
  refine ⟨_, op_isN, ?_⟩
  intro F H x y d e z ex pl dx dy h Q q
  unfold pIs at h
  split at h
  · cases h
    refine ⟨dp_none dy, ?_⟩
    rw [dp_isN dx]
    exact q _ F H (Grow.refl ex) (.bl _)
  · cases h
theorem c_isNot : OpE X (compareOp .IsNot) pIsNot := by
  refine ⟨_, op_notN, ?_⟩
  intro F H x y d e z ex pl dx dy h Q q
  unfold pIsNot at h
  split at h
  · cases h
    refine ⟨dp_none dy, ?_⟩
    rw [dp_isN dx]
    exact q _ F H (Grow.refl ex) (.bl _)
  · cases h
theorem flat_v {K : PySem.W.Frag} {F : Hp} {v : V} {d : PyData} (h : Dp K F v d) (hf : flatD d = true) : flatV v = true := by
  cases h <;> first | rfl | cases hf
theorem eqv_v {K : PySem.W.Frag} {F : Hp} {v w : V} {d e : PyData} (h : Dp K F v d) (k : Dp K F w e) (hf : flatD d = true) (kf : flatD e = true) : eqV v w = PyData.eqv d e := by
  cases h <;> first | (cases hf; done) | (cases k <;> first | (cases kf; done) | (simp [eqV, PyData.eqv]; done) | rfl)
theorem any_v {K : PySem.W.Frag} {F : Hp} {v : V} {d : PyData} (h : Dp K F v d) (hf : flatD d = true) : ∀ {vs : List V} {ds : List PyData}, DpAll K F vs ds → ds.all flatD = true → vs.all flatV = true ∧ inV v vs = ds.any fun y => PyData.eqv y d
  | _, _, .nil, _ => ⟨rfl, rfl⟩
  | _, _, .cons h1 h2, ha => by
    simp only [List.all_cons, Bool.and_eq_true] at ha
    obtain ⟨i1, i2⟩ := any_v h hf h2 ha.2
    unfold inV at i2 ⊢
    refine ⟨by rw [List.all_cons, flat_v h1 ha.1, i1]; rfl, ?_⟩
    rw [List.any_cons, List.any_cons, i2, eqv_v h1 h ha.1 hf]
theorem opp_in {K : PySem.W.Frag} (neg : Bool) : OpP K (rIn K neg) (pIn neg) := by
  intro F H x y d e z ex pl dx dy h Q q
  unfold pIn at h
  obtain ⟨xs, hs, h⟩ := bind_eq h
  split at h
  · rename_i hf
    cases h
    cases e with
    | list ys =>
      cases hs
      obtain ⟨a, vs, rfl, h1, h2⟩ := dp_list dy
      obtain ⟨i1, i2⟩ := any_v dx hf.1 h2 hf.2
      refine ⟨a, vs, rfl, .inl (ex_l ex h1), flat_v dx hf.1, i1, ?_⟩
      rw [i2]
      exact q _ F H (Grow.refl ex) (.bl _)
    | tuple ys =>
      cases hs
      obtain ⟨a, vs, rfl, h1, h2⟩ := dp_tup dy
      obtain ⟨i1, i2⟩ := any_v dx hf.1 h2 hf.2
      refine ⟨a, vs, rfl, .inr (ex_t ex h1), flat_v dx hf.1, i1, ?_⟩
      rw [i2]
      exact q _ F H (Grow.refl ex) (.bl _)
    | _ => cases hs
  · cases h
theorem c_in : OpE X (compareOp .In) (pIn false) := ⟨_, op_in_seq, opp_in false⟩
theorem c_notIn : OpE X (compareOp .NotIn) (pIn true) := ⟨_, op_notIn_seq, opp_in true⟩

/-! ### items, slices -/
theorem atI_of {vs : List V} {ds : List PyData} {K : PySem.W.Frag} {F : Hp} {i : Int} {j : Nat} {z : PyData} (h : DpAll K F vs ds) (e : ixN ds.length i = some j) (hz : ds[j]? = some z) : ∃ v, atI vs i = some v ∧ Dp K F v z := by
  obtain ⟨v, h1, h2⟩ := dpa_get h hz
  refine ⟨v, ?_, h2⟩
  unfold atI
  rw [dpa_len h, e]
  exact h1
def rIx (K : PySem.W.Frag) : R2 := fun x y H Q => rIxL K x y H Q ∨ rIxT K x y H Q
theorem i_ix : IxE X pIx := by
  refine ⟨_, ix_list.or ix_tup, ?_⟩
  intro F H x y d e z ex pl dx dy h Q q
  unfold pIx at h
  cases e with
  | int i =>
    obtain ⟨xs, hs, h0⟩ := bind_eq h
    obtain ⟨j, hj, h3⟩ := bind_eq h0
    have := dp_int dy
    subst this
    cases d with
    | list ys =>
      cases hs
      obtain ⟨a, vs, rfl, h1, h2⟩ := dp_list dx
      obtain ⟨v, e1, e2⟩ := atI_of h2 hj h3
      exact .inl ⟨a, vs, i, v, rfl, rfl, ex_l ex h1, e1, q _ F H (Grow.refl ex) e2⟩
    | tuple ys =>
      cases hs
      obtain ⟨a, vs, rfl, h1, h2⟩ := dp_tup dx
      obtain ⟨v, e1, e2⟩ := atI_of h2 hj h3
      exact .inr ⟨a, vs, i, v, rfl, rfl, ex_t ex h1, e1, q _ F H (Grow.refl ex) e2⟩
    | _ => cases hs
  | _ => cases h
theorem ep_ix {a b : Expr} {f g : EX} {pos : Pos} {p : PyData → PyData → Option PyData} (hp : IxE X p) (ha : EP X a f) (hb : EP X b g) (hs : PlainIx b := by exact fun _ _ => rfl) : EP X (.Subscript a b pos) (eOp p f g) := by
  obtain ⟨r, h1, h2⟩ := hp
  obtain ⟨ta, a1, a2⟩ := ha
  obtain ⟨tb, b1, b2⟩ := hb
  exact ⟨_, pe_ix h1 a1 b1 hs, ev_op h2 a2 b2⟩
/-- x[k], x a name: a list of one's own stays one's own -/
def eIxV (i : Nat) (g : EX) : EX := fun Γ => match (Γ[i]? : Option Slot) with
  | some .no => none
  | none => none
  | some _ => (g Γ).bind fun y => match (y.2[i]? : Option Slot) with
    | some (.val d) => (pIx d y.1).bind fun z => some (z, y.2)
    | some (.own ds) => (pIx (.list ds) y.1).bind fun z => some (z, y.2)
    | some (.par ds) => (pIx (.list ds) y.1).bind fun z => some (z, y.2)
    | _ => none
theorem ep_ixV {b : Expr} {g : EX} {pos px : Pos} {x : Str} {i : Nat} (hb : EP X b g) (hN : X.N[i]? = some x := by rfl) (hv : Vis X.env.scope x := by first | exact Or.inl rfl | exact Or.inr (Or.inl rfl) | exact Or.inr (Or.inr rfl)) (hd : (x == ("__debug__" : Str)) = false := by decide)
    (hcd : (x == ("__classdict__" : Str)) = false := by decide) (hs : PlainIx b := by exact fun _ _ => rfl) : EP X (.Subscript (.Name x px) b pos) (eIxV i g) := by
  obtain ⟨tb, b1, b2⟩ := hb
  obtain ⟨r, h1, h2⟩ := (i_ix : IxE X pIx)
  refine ⟨_, pe_ix (ix_list.or ix_tup) (pe_var hN hv hd hcd) b1 hs, ?_⟩
  clear h1 h2 r
  intro B Γ F σ H z Γ' R h Q q
  unfold eIxV at h
  -- the slot holds something
  have hv : ∃ v, σ[i]? = some (some v) := by
    cases e : Γ[i]? with
    | none => simp only [e] at h; cases h
    | some s =>
      have w := R.slot i s e
      cases s with
      | no => simp only [e] at h; cases h
      | val d => obtain ⟨v, e1, _⟩ := w; exact ⟨v, e1⟩
      | dic kvs => obtain ⟨a, ws, e1, _⟩ := w; exact ⟨_, e1⟩
      | fd kvs => obtain ⟨a, ws, e1, _⟩ := w; exact ⟨_, e1⟩
      | own ds => obtain ⟨a, vs, e1, _⟩ := w; exact ⟨_, e1⟩
      | od kvs => obtain ⟨a, vs, e1, _⟩ := w; exact ⟨_, e1⟩
      | par ds => obtain ⟨a, vs, e1, _⟩ := w; exact ⟨_, e1⟩
  have h' : (g Γ).bind (fun y => match (y.2[i]? : Option Slot) with
    | some (.val d) => (pIx d y.1).bind fun z => some (z, y.2)
    | some (.own ds) => (pIx (.list ds) y.1).bind fun z => some (z, y.2)
    | some (.par ds) => (pIx (.list ds) y.1).bind fun z => some (z, y.2)
    | _ => none) = some (z, Γ') := by
    cases e : Γ[i]? with
    | none => simp only [e] at h; cases h
    | some s => cases s <;> simp only [e] at h <;> first | exact h | cases h
  obtain ⟨v, ev⟩ := hv
  refine ⟨v, ev, ?_⟩
  obtain ⟨⟨y, Γ1⟩, e1, h⟩ := bind_eq h'
  refine b2 B Γ F σ H y Γ1 R e1 _ fun u F1 H1 x1 R1 d1 => ?_
  cases e2 : Γ1[i]? with
  | none => simp only [e2] at h; cases h
  | some s =>
    have w := R1.slot i s e2
    cases s with
    | no => simp only [e2] at h; cases h
    | dic kvs => simp only [e2] at h; cases h
    | fd kvs => simp only [e2] at h; cases h
    | val d =>
      simp only [e2] at h
      obtain ⟨z', h3, h⟩ := bind_eq h
      cases h
      obtain ⟨v', ev', dv⟩ := w
      rw [ev] at ev'; cases ev'
      unfold pIx at h3
      cases y with
      | int k =>
        obtain ⟨xs, hs', h5⟩ := bind_eq h3
        obtain ⟨j, hj, h4⟩ := bind_eq h5
        have := dp_int d1
        subst this
        cases d with
        | list ys =>
          cases hs'
          obtain ⟨a, vs, rfl, g1, g2⟩ := dp_list dv
          obtain ⟨v, w1, w2⟩ := atI_of g2 hj h4
          exact .inl ⟨a, vs, k, v, rfl, rfl, ex_l R1.ext g1, w1, q _ F1 H1 x1 R1 w2⟩
        | tuple ys =>
          cases hs'
          obtain ⟨a, vs, rfl, g1, g2⟩ := dp_tup dv
          obtain ⟨v, w1, w2⟩ := atI_of g2 hj h4
          exact .inr ⟨a, vs, k, v, rfl, rfl, ex_t R1.ext g1, w1, q _ F1 H1 x1 R1 w2⟩
        | _ => cases hs'
      | _ => cases h3
    | own ds =>
      simp only [e2] at h
      obtain ⟨z', h3, h⟩ := bind_eq h
      cases h
      obtain ⟨a, vs, ev', g1, g2, g3, g4⟩ := w
      rw [ev] at ev'; cases ev'
      unfold pIx at h3
      cases y with
      | int k =>
        obtain ⟨xs, hs', h5⟩ := bind_eq h3
        obtain ⟨j, hj, h4⟩ := bind_eq h5
        have := dp_int d1
        subst this
        cases hs'
        obtain ⟨v, w1, w2⟩ := atI_of g4 hj h4
        exact .inl ⟨a, vs, k, v, rfl, rfl, sq_of g3, w1, q _ F1 H1 x1 R1 w2⟩
      | _ => cases h3
    | od kvs => simp only [e2] at h; cases h
    | par ds =>
      simp only [e2] at h
      obtain ⟨z', h3, h⟩ := bind_eq h
      cases h
      obtain ⟨a, vs, ev', g1, g2, g3, g4⟩ := w
      rw [ev] at ev'; cases ev'
      unfold pIx at h3
      cases y with
      | int k =>
        obtain ⟨xs, hs', h5⟩ := bind_eq h3
        obtain ⟨j, hj, h4⟩ := bind_eq h5
        have := dp_int d1
        subst this
        cases hs'
        obtain ⟨v, w1, w2⟩ := atI_of g4 hj h4
        exact .inl ⟨a, vs, k, v, rfl, rfl, sq_of g3, w1, q _ F1 H1 x1 R1 w2⟩
      | _ => cases h3

/-! slices -/
abbrev OX := Env → Option (Option Int × Env)
def oNone : OX := fun Γ => some (none, Γ)
def oSome (f : EX) : OX := fun Γ => (f Γ).bind fun x => match x.1 with
  | .int i => some (some i, x.2)
  | _ => none
def EvO (K : PySem.W.Frag) (to : TO) (o : OX) : Prop := ∀ (B : Bs) (Γ : Env) (F : Hp) (σ : L2.St) (H : Hp) (r : Option Int) (Γ' : Env), Rel K B Γ F σ H → o Γ = some (r, Γ') →
  ∀ Q : Option Int → Hp → Prop, (∀ F' H', Ex F F' → Rel K B Γ' F' σ H' → Q r H') → to σ H Q
def OP (X : Cx) (e : Option Expr) (o : OX) : Prop := ∃ to, PO X e to ∧ EvO X.K to o
theorem opt_none : OP X none oNone := ⟨_, po_none, fun B Γ F σ H r Γ' R e Q q => by cases e; exact q F H (Ex.refl F) R⟩
theorem opt_some {e : Expr} {f : EX} (h : EP X e f) : OP X (some e) (oSome f) := by
  obtain ⟨te, h1, h2⟩ := h
  refine ⟨_, po_some h1, ?_⟩
  intro B Γ F σ H r Γ' R e Q q
  obtain ⟨⟨x, Γ1⟩, e1, e⟩ := bind_eq e
  refine h2 B Γ F σ H x Γ1 R e1 _ fun v F' H' ex R' d => ?_
  cases d with
  | int i => cases e; exact ⟨i, rfl, q F' H' ex R'⟩
  | _ => cases e
def eSl (p : PyData → Option Int → Option Int → Option PyData) (f : EX) (l u : OX) : EX := fun Γ => (f Γ).bind fun x => (l x.2).bind fun a => (u a.2).bind fun b => (p x.1 a.1 b.1).bind fun z => some (z, b.2)
theorem ep_slice {e : Expr} {lo hi : Option Expr} {f : EX} {l u : OX} {p : PyData → Option Int → Option Int → Option PyData} {p2 pos : Pos} (hp : SlE X p) (he : EP X e f) (hl : OP X lo l) (hu : OP X hi u) : EP X (.Subscript e (.Slice lo hi none p2) pos) (eSl p f l u) := by
  obtain ⟨r, h1, h2⟩ := hp
  obtain ⟨te, a1, a2⟩ := he
  obtain ⟨tl, l1, l2⟩ := hl
  obtain ⟨tu, u1, u2⟩ := hu
  refine ⟨_, pe_slice h1 a1 l1 u1, ?_⟩
  intro B Γ F σ H z Γ' R h Q q
  obtain ⟨⟨x, Γ1⟩, e1, h⟩ := bind_eq h
  obtain ⟨⟨a, Γ2⟩, e2, h⟩ := bind_eq h
  obtain ⟨⟨b, Γ3⟩, e3, h⟩ := bind_eq h
  obtain ⟨z', e4, h⟩ := bind_eq h
  cases h
  refine a2 B Γ F σ H x Γ1 R e1 _ fun v F1 H1 x1 R1 d1 => ?_
  refine l2 B Γ1 F1 σ H1 a Γ2 R1 e2 _ fun F2 H2 x2 R2 => ?_
  refine u2 B Γ2 F2 σ H2 b Γ3 R2 e3 _ fun F3 H3 x3 R3 => ?_
  exact h2 F3 H3 v x z a b R3.ext R3.pl (dp_mono (x2.trans x3) d1) e4 Q fun w F4 H4 gr d4 => q w F4 H4 (((x1.trans x2).trans x3).trans gr.ext) (R3.grow gr) d4
theorem s_sl : SlE X pSl := by
  refine ⟨_, sl_list.or sl_tupF, ?_⟩
  intro F H x d z lo hi ex pl dx h Q q
  have cut : ∀ {vs : List V} {ds : List PyData}, DpAll X.K F vs ds → DpAll X.K F (cutV vs lo hi) (cutD ds lo hi) := fun {vs ds} h => by
    unfold cutV cutD
    rw [dpa_len h]
    exact dpa_take _ (dpa_drop _ h)
  cases d with
  | list ys =>
    cases h
    obtain ⟨a, vs, rfl, h1, h2⟩ := dp_list dx
    refine .inl ⟨a, vs, rfl, ex_l ex h1, fun p hp => ?_⟩
    have gr := Grow.laid (o := .lst (cutV vs lo hi)) ex hp
    exact q _ _ _ gr (.lst (sq_of upd_same) (dpa_mono gr.ext (cut h2)))
  | tuple ys =>
    cases h
    obtain ⟨a, vs, rfl, h1, h2⟩ := dp_tup dx
    refine .inr ⟨a, vs, rfl, ex_t ex h1, fun hw => ?_, fun _ p o hp ho => ?_⟩
    · have e : cutD ys lo hi = ys := by
        unfold cutD
        rw [dpa_len h2] at hw
        rw [hw.1, hw.2]
        simp
      rw [e] at q
      exact q _ F H (Grow.refl ex) (.tup h1 h2)
    · have gr := Grow.laid (o := .frz o (.tup (cutV vs lo hi))) ex hp ho
      exact q _ _ _ gr (.tup (st_frz upd_same) (dpa_mono gr.ext (cut h2)))
  | _ => cases h
def pRev : PyData → Option PyData
  | .list xs => some (.list xs.reverse)
  | .tuple xs => some (.tuple xs.reverse)
  | _ => none
theorem ep_rev {e : Expr} {f : EX} {k : Nat} {p1 p2 p3 pos : Pos} (he : EP X e f) : EP X (.Subscript e (.Slice none none (some (.UnaryOp .USub (.Constant (.int 1) k p1) p2)) p3) pos) (eUn pRev f) := by
  obtain ⟨te, h1, h2⟩ := he
  refine ⟨_, pe_revX h1, ?_⟩
  intro B Γ F σ H z Γ' R h Q q
  obtain ⟨⟨x, Γ1⟩, e1, h⟩ := bind_eq h
  obtain ⟨z', e2, h⟩ := bind_eq h
  cases h
  refine h2 B Γ F σ H x Γ1 R e1 _ fun v F1 H1 x1 R1 d1 => ?_
  cases x with
  | list ys =>
    cases e2
    obtain ⟨a, vs, rfl, g1, g2⟩ := dp_list d1
    refine ⟨a, vs, rfl, .inl ⟨ex_l R1.ext g1, fun p hp => ?_⟩⟩
    have gr := Grow.laid (o := .lst vs.reverse) R1.ext hp
    exact q _ _ _ (x1.trans gr.ext) (R1.grow gr) (.lst (sq_of upd_same) (dpa_mono gr.ext (dpa_rev g2)))
  | tuple ys =>
    cases e2
    obtain ⟨a, vs, rfl, g1, g2⟩ := dp_tup d1
    refine ⟨a, vs, rfl, .inr ⟨ex_t R1.ext g1, fun p o hp ho => ?_⟩⟩
    have gr := Grow.laid (o := .frz o (.tup vs.reverse)) R1.ext hp ho
    exact q _ _ _ (x1.trans gr.ext) (R1.grow gr) (.tup (st_frz upd_same) (dpa_mono gr.ext (dpa_rev g2)))
  | _ => cases e2
end
end Z
set_option Elab.async false
set_option linter.all false
set_option maxRecDepth 100000
set_option maxHeartbeats 2000000
/-! Z: built-in calls, isinstance, what a loop walks -/
namespace Z
open PySem L2 Evl PyProof.Rows

/-! ### sorting ints -/
def ins (x : Int) : List Int → List Int
  | [] => [x]
  | y :: r => if x ≤ y then x :: y :: r else y :: ins x r
def srt : List Int → List Int
  | [] => []
  | x :: r => ins x (srt r)
theorem ins_perm (x : Int) : ∀ l : List Int, (ins x l).Perm (x :: l)
  | [] => .refl _
  | y :: r => by
    unfold ins
    split
    · exact .refl _
    · exact .trans (.cons y (ins_perm x r)) (.swap x y r)
theorem srt_perm : ∀ l : List Int, (srt l).Perm l
  | [] => .refl _
  | x :: r => (ins_perm x (srt r)).trans (.cons x (srt_perm r))
theorem ins_sorted (x : Int) : ∀ {l : List Int}, l.Pairwise (· ≤ ·) → (ins x l).Pairwise (· ≤ ·)
  | [], _ => by unfold ins; exact List.pairwise_singleton _ _
  | y :: r, h => by
    unfold ins
    have h1 := List.pairwise_cons.mp h
    split
    · rename_i hxy
      exact List.pairwise_cons.mpr ⟨fun z hz => by
        rcases List.mem_cons.mp hz with e | hz
        · subst e; exact hxy
        · exact Int.le_trans hxy (h1.1 z hz), h⟩
    · rename_i hxy
      refine List.pairwise_cons.mpr ⟨fun z hz => ?_, ins_sorted x h1.2⟩
      rcases List.mem_cons.mp ((ins_perm x r).mem_iff.mp hz) with e | hz
      · subst e; omega
      · exact h1.1 z hz
theorem srt_sorted : ∀ l : List Int, (srt l).Pairwise (· ≤ ·)
  | [] => .nil
  | x :: r => ins_sorted x (srt_sorted r)
theorem sorted_unique : ∀ {l m : List Int}, l.Pairwise (· ≤ ·) → m.Pairwise (· ≤ ·) → l.Perm m → l = m
  | [], m, _, _, p => (List.Perm.nil_eq p)
  | x :: l, [], _, _, p => by have := p.length_eq; simp at this
  | x :: l, y :: m, h1, h2, p => by
    have a1 := List.pairwise_cons.mp h1
    have a2 := List.pairwise_cons.mp h2
    have e : x = y := by
      have m1 : x ∈ y :: m := p.mem_iff.mp List.mem_cons_self
      have m2 : y ∈ x :: l := p.mem_iff.mpr List.mem_cons_self
      rcases List.mem_cons.mp m1 with e | m1
      · exact e
      · rcases List.mem_cons.mp m2 with e | m2
        · exact e.symm
        · have := a1.1 y m2; have := a2.1 x m1; omega
    subst e
    rw [sorted_unique a1.2 a2.2 (List.Perm.cons_inv p)]
theorem srt_unique {l m : List Int} (p : m.Perm l) (s : m.Pairwise (· ≤ ·)) : m = srt l := sorted_unique s (srt_sorted l) (p.trans (srt_perm l).symm)

def intsOf : List PyData → Option (List Int)
  | [] => some []
  | .int i :: r => (intsOf r).bind fun ns => some (i :: ns)
  | _ :: _ => none
theorem intsOf_map (ns : List Int) : intsOf (ns.map PyData.int) = some ns := by
  induction ns with
  | nil => rfl
  | cons n r ih => simp [intsOf, ih]
theorem intsOf_eq : ∀ {ds : List PyData} {ns : List Int}, intsOf ds = some ns → ds = ns.map PyData.int
  | [], ns, h => by cases h; rfl
  | .int i :: r, ns, h => by
    obtain ⟨ms, h1, h⟩ := bind_eq h
    cases h
    rw [intsOf_eq h1]; rfl
  | .none :: _, _, h => by cases h
  | .bool _ :: _, _, h => by cases h
  | .str _ :: _, _, h => by cases h
  | .list _ :: _, _, h => by cases h
  | .tuple _ :: _, _, h => by cases h
  | .dict _ :: _, _, h => by cases h

def pLen : List PyData → Option PyData
  | [.list xs] => some (.int xs.length)
  | [.tuple xs] => some (.int xs.length)
  | _ => none
def pSorted : List PyData → Option PyData
  | [d] => (seqOf d).bind fun xs => (intsOf xs).bind fun ns => some (.list ((srt ns).map .int))
  | _ => none
def pSum : List PyData → Option PyData
  | [.list xs] => (intsOf xs).bind fun ns => some (.int ns.sum)
  | _ => none
def pMax2 : List PyData → Option PyData
  | [.int i, .int j] => some (.int (if j > i then j else i))
  | _ => none
def pMin2 : List PyData → Option PyData
  | [.int i, .int j] => some (.int (if j < i then j else i))
  | _ => none
def maxI : List Int → Int
  | [] => 0
  | [x] => x
  | x :: y :: r => max x (maxI (y :: r))
def minI : List Int → Int
  | [] => 0
  | [x] => x
  | x :: y :: r => min x (minI (y :: r))
theorem maxI_spec : ∀ {l : List Int}, l ≠ [] → maxI l ∈ l ∧ ∀ y ∈ l, y ≤ maxI l
  | [x], _ => ⟨by simp [maxI], fun y h => by simp at h; subst h; exact Int.le_refl _⟩
  | x :: y :: r, _ => by
    obtain ⟨h1, h2⟩ := maxI_spec (l := y :: r) (by simp)
    unfold maxI
    refine ⟨?_, fun z hz => ?_⟩
    · by_cases h : x ≤ maxI (y :: r)
      · rw [Int.max_eq_right h]; exact List.mem_cons_of_mem _ h1
      · rw [Int.max_eq_left (by omega)]; exact List.mem_cons_self
    · rcases List.mem_cons.mp hz with e | hz
      · subst e; omega
      · have := h2 z hz; omega
theorem minI_spec : ∀ {l : List Int}, l ≠ [] → minI l ∈ l ∧ ∀ y ∈ l, minI l ≤ y
  | [x], _ => ⟨by simp [minI], fun y h => by simp at h; subst h; exact Int.le_refl _⟩
  | x :: y :: r, _ => by
    obtain ⟨h1, h2⟩ := minI_spec (l := y :: r) (by simp)
    unfold minI
    refine ⟨?_, fun z hz => ?_⟩
    · by_cases h : minI (y :: r) ≤ x
      · rw [Int.min_eq_right h]; exact List.mem_cons_of_mem _ h1
      · rw [Int.min_eq_left (by omega)]; exact List.mem_cons_self
    · rcases List.mem_cons.mp hz with e | hz
      · subst e; omega
      · have := h2 z hz; omega
def pMax1 : List PyData → Option PyData
  | [.list xs] => (intsOf xs).bind fun ns => if ns.length = 0 then none else some (.int (maxI ns))
  | _ => none
def pMin1 : List PyData → Option PyData
  | [.list xs] => (intsOf xs).bind fun ns => if ns.length = 0 then none else some (.int (minI ns))
  | _ => none
def pInt : List PyData → Option PyData
  | [.int i] => some (.int i)
  | [.bool c] => some (.int (if c then 1 else 0))
  | _ => none
def pAbs : List PyData → Option PyData
  | [.int i] => some (.int (if i < 0 then -i else i))
  | _ => none
def pTuple : List PyData → Option PyData
  | [.list xs] => some (.tuple xs)
  | [.tuple xs] => some (.tuple xs)
  | _ => none
def pList : List PyData → Option PyData
  | [.list xs] => some (.list xs)
  | [.tuple xs] => some (.list xs)
  | _ => none
section
variable {X : Cx}
theorem dpa1 {K : PySem.W.Frag} {F : Hp} {vs : List V} {d : PyData} (h : DpAll K F vs [d]) : ∃ v, vs = [v] ∧ Dp K F v d := by
  cases h with | cons h1 h2 => cases h2; exact ⟨_, rfl, h1⟩
theorem dpa2 {K : PySem.W.Frag} {F : Hp} {vs : List V} {d e : PyData} (h : DpAll K F vs [d, e]) : ∃ v w, vs = [v, w] ∧ Dp K F v d ∧ Dp K F w e := by
  cases h with | cons h1 h2 => obtain ⟨w, rfl, h3⟩ := dpa1 h2; exact ⟨_, _, rfl, h1, h3⟩
theorem b_len : CallE X (.builtin "len") pLen := by
  refine ⟨_, call_len_seq, ?_⟩
  intro F H xs ds z ex pl hd h Q q
  unfold pLen at h
  split at h
  · cases h
    obtain ⟨v, rfl, d1⟩ := dpa1 hd
    obtain ⟨a, vs, rfl, h1, h2⟩ := dp_list d1
    refine ⟨a, vs, rfl, .inl (ex_l ex h1), ?_⟩
    rw [dpa_len h2]
    exact q _ F H (Grow.refl ex) (.int _)
  · cases h
    obtain ⟨v, rfl, d1⟩ := dpa1 hd
    obtain ⟨a, vs, rfl, h1, h2⟩ := dp_tup d1
    refine ⟨a, vs, rfl, .inr (ex_t ex h1), ?_⟩
    rw [dpa_len h2]
    exact q _ F H (Grow.refl ex) (.int _)
  · cases h
theorem b_sorted : CallE X (.builtin "sorted") pSorted := by
  refine ⟨_, cr_srt, ?_⟩
  intro F H xs ds z ex pl hd h Q q
  unfold pSorted at h
  split at h
  · rename_i d
    obtain ⟨v, rfl, d1⟩ := dpa1 hd
    obtain ⟨ys, hs, h1⟩ := bind_eq h
    obtain ⟨ns, hn, h2⟩ := bind_eq h1
    cases h2
    clear h h1
    have fin : ∀ a, v = .ref a → (SqL X.K H a (ns.map V.int) ∨ SqT X.K H a (ns.map V.int)) → rSrt X.K [v] H Q := fun a e hq => by
      subst e
      refine ⟨a, ns, rfl, hq, fun ns' p p1 p2 hp => ?_⟩
      have e := srt_unique p1 p2
      subst e
      have gr := Grow.laid (o := .lst ((srt ns).map V.int)) ex hp
      exact q _ _ _ gr (.lst (sq_of upd_same) (dpa_ints _))
    have ey := intsOf_eq hn
    subst ey
    cases d with
    | list _ =>
      cases hs
      obtain ⟨a, vs, rfl, h1, h2⟩ := dp_list d1
      rw [dpa_ints_of h2] at h1
      exact fin a rfl (.inl (ex_l ex h1))
    | tuple _ =>
      cases hs
      obtain ⟨a, vs, rfl, h1, h2⟩ := dp_tup d1
      rw [dpa_ints_of h2] at h1
      exact fin a rfl (.inr (ex_t ex h1))
    | _ => cases hs
  · cases h
theorem b_sum (hc : X.calm = true) : CallE X (.builtin "sum") pSum := by
  refine ⟨_, cr_sum hc, ?_⟩
  intro F H xs ds z ex pl hd h Q q
  unfold pSum at h
  split at h
  · obtain ⟨v, rfl, d1⟩ := dpa1 hd
    obtain ⟨ns, hn, h⟩ := bind_eq h
    cases h
    have ey := intsOf_eq hn
    subst ey
    obtain ⟨a, vs, rfl, h1, h2⟩ := dp_list d1
    rw [dpa_ints_of h2] at h1
    exact ⟨a, ns, rfl, ex_l ex h1, q _ F H (Grow.refl ex) (.int _)⟩
  · cases h
theorem b_max2 (hc : X.calm = true) : CallE X (.builtin "max") pMax2 := by
  refine ⟨_, call_max2 hc, ?_⟩
  intro F H xs ds z ex pl hd h Q q
  unfold pMax2 at h
  split at h
  · cases h
    obtain ⟨v, w, rfl, d1, d2⟩ := dpa2 hd
    exact ⟨_, _, by rw [dp_int d1, dp_int d2], q _ F H (Grow.refl ex) (.int _)⟩
  · cases h
theorem b_min2 (hc : X.calm = true) : CallE X (.builtin "min") pMin2 := by
  refine ⟨_, call_min2 hc, ?_⟩
  intro F H xs ds z ex pl hd h Q q
  unfold pMin2 at h
  split at h
  · cases h
    obtain ⟨v, w, rfl, d1, d2⟩ := dpa2 hd
    exact ⟨_, _, by rw [dp_int d1, dp_int d2], q _ F H (Grow.refl ex) (.int _)⟩
  · cases h
theorem b_max1 (hc : X.calm = true) : CallE X (.builtin "max") pMax1 := by
  refine ⟨_, cr_max hc, ?_⟩
  intro F H xs ds z ex pl hd h Q q
  unfold pMax1 at h
  split at h
  · obtain ⟨v, rfl, d1⟩ := dpa1 hd
    obtain ⟨ns, hn, h⟩ := bind_eq h
    split at h
    · cases h
    · rename_i hl
      cases h
      have ey := intsOf_eq hn
      subst ey
      obtain ⟨a, vs, rfl, h1, h2⟩ := dp_list d1
      rw [dpa_ints_of h2] at h1
      have hne : ns ≠ [] := fun e => hl (by rw [e]; rfl)
      obtain ⟨g1, g2⟩ := maxI_spec hne
      refine ⟨a, ns, rfl, ex_l ex h1, by omega, fun m hm hle => ?_⟩
      have : m = maxI ns := by have := hle _ g1; have := g2 _ hm; omega
      subst this
      exact q _ F H (Grow.refl ex) (.int _)
  · cases h
theorem b_min1 (hc : X.calm = true) : CallE X (.builtin "min") pMin1 := by
  refine ⟨_, cr_min hc, ?_⟩
  intro F H xs ds z ex pl hd h Q q
  unfold pMin1 at h
  split at h
  · obtain ⟨v, rfl, d1⟩ := dpa1 hd
    obtain ⟨ns, hn, h⟩ := bind_eq h
    split at h
    · cases h
    · rename_i hl
      cases h
      have ey := intsOf_eq hn
      subst ey
      obtain ⟨a, vs, rfl, h1, h2⟩ := dp_list d1
      rw [dpa_ints_of h2] at h1
      have hne : ns ≠ [] := fun e => hl (by rw [e]; rfl)
      obtain ⟨g1, g2⟩ := minI_spec hne
      refine ⟨a, ns, rfl, ex_l ex h1, by omega, fun m hm hle => ?_⟩
      have : m = minI ns := by have := hle _ g1; have := g2 _ hm; omega
      subst this
      exact q _ F H (Grow.refl ex) (.int _)
  · cases h
theorem b_int : CallE X (.type "int") pInt := by
  refine ⟨_, call_int1, ?_⟩
  intro F H xs ds z ex pl hd h Q q
  unfold pInt at h
  split at h
  · cases h
    obtain ⟨v, rfl, d1⟩ := dpa1 hd
    exact .inl ⟨_, by rw [dp_int d1], q _ F H (Grow.refl ex) (.int _)⟩
  · cases h
    obtain ⟨v, rfl, d1⟩ := dpa1 hd
    cases d1
    exact .inr ⟨_, rfl, q _ F H (Grow.refl ex) (.int _)⟩
  · cases h
theorem b_abs : CallE X (.builtin "abs") pAbs := by
  refine ⟨_, call_abs, ?_⟩
  intro F H xs ds z ex pl hd h Q q
  unfold pAbs at h
  split at h
  · cases h
    obtain ⟨v, rfl, d1⟩ := dpa1 hd
    exact ⟨_, by rw [dp_int d1], q _ F H (Grow.refl ex) (.int _)⟩
  · cases h
theorem b_tuple : CallE X (.type "tuple") pTuple := by
  refine ⟨_, call_tupleF, ?_⟩
  intro F H xs ds z ex pl hd h Q q
  unfold pTuple at h
  split at h
  · cases h
    obtain ⟨v, rfl, d1⟩ := dpa1 hd
    obtain ⟨a, vs, rfl, h1, h2⟩ := dp_list d1
    refine ⟨a, vs, rfl, .inl ⟨ex_l ex h1, fun p o hp ho => ?_⟩⟩
    have gr := Grow.laid (o := .frz o (.tup vs)) ex hp ho
    exact q _ _ _ gr (.tup (st_frz upd_same) (dpa_mono gr.ext h2))
  · cases h
    obtain ⟨v, rfl, d1⟩ := dpa1 hd
    obtain ⟨a, vs, rfl, h1, h2⟩ := dp_tup d1
    exact ⟨a, vs, rfl, .inr ⟨ex_t ex h1, q _ F H (Grow.refl ex) (.tup h1 h2)⟩⟩
  · cases h
theorem b_list : CallE X (.type "list") pList := by
  refine ⟨_, call_list_of, ?_⟩
  intro F H xs ds z ex pl hd h Q q
  unfold pList at h
  split at h
  · cases h
    obtain ⟨v, rfl, d1⟩ := dpa1 hd
    obtain ⟨a, vs, rfl, h1, h2⟩ := dp_list d1
    refine ⟨a, vs, rfl, .inl (ex_l ex h1), fun p hp => ?_⟩
    have gr := Grow.laid (o := .lst vs) ex hp
    exact q _ _ _ gr (.lst (sq_of upd_same) (dpa_mono gr.ext h2))
  · cases h
    obtain ⟨v, rfl, d1⟩ := dpa1 hd
    obtain ⟨a, vs, rfl, h1, h2⟩ := dp_tup d1
    refine ⟨a, vs, rfl, .inr (ex_t ex h1), fun p hp => ?_⟩
    have gr := Grow.laid (o := .lst vs) ex hp
    exact q _ _ _ gr (.lst (sq_of upd_same) (dpa_mono gr.ext h2))
  · cases h
/-- len(x), x a name: a list of one's own stays one's own -/
def eLenV (i : Nat) : EX := fun Γ => match (Γ[i]? : Option Slot) with
  | some (.val d) => (pLen [d]).bind fun z => some (z, Γ)
  | some (.own ds) => some (.int ds.length, Γ)
  | some (.par ds) => some (.int ds.length, Γ)
  | _ => none
theorem ep_lenV {x : Str} {px pp pos : Pos} {i : Nat} (hm : X.mg "len" = none) (hN : X.N[i]? = some x := by rfl) (hv : Vis X.env.scope x := by first | exact Or.inl rfl | exact Or.inr (Or.inl rfl) | exact Or.inr (Or.inr rfl)) (hd : (x == ("__debug__" : Str)) = false := by decide)
    (hcd : (x == ("__classdict__" : Str)) = false := by decide) (hg : Gl X "len" := by rfl)
    (he : starEach [.Name x px] X.env = (false, eval (.Name x px) X.env) :: starEach [] X.env := by rfl) (hpl : (backTo pos (starEach [] X.env)).any (·.1) = false := by rfl) : EP X (.Call (.Name "len" pp) [.Name x px] [] pos) (eLenV i) := by
  refine ⟨_, pe_callB call_len_seq hg hm PySem.boot_len (pa_cons (pe_var hN hv hd hcd) pa_nil he) (by decide) (by decide) he hpl, ?_⟩
  intro B Γ F σ H z Γ' R h Q q
  unfold eLenV at h
  cases e : Γ[i]? with
  | none => simp only [e] at h; cases h
  | some s =>
    have w := R.slot i s e
    cases s with
    | no => simp only [e] at h; cases h
    | dic kvs => simp only [e] at h; cases h
    | fd kvs => simp only [e] at h; cases h
    | val d =>
      simp only [e] at h
      obtain ⟨z', h1, h⟩ := bind_eq h
      cases h
      obtain ⟨v, ev, dv⟩ := w
      refine ⟨v, ev, ?_⟩
      cases d with
      | list xs =>
        cases h1
        obtain ⟨a, vs, rfl, g1, g2⟩ := dp_list dv
        refine ⟨a, vs, rfl, .inl (ex_l R.ext g1), ?_⟩
        rw [dpa_len g2]
        exact q _ F H (Ex.refl F) R (.int _)
      | tuple xs =>
        cases h1
        obtain ⟨a, vs, rfl, g1, g2⟩ := dp_tup dv
        refine ⟨a, vs, rfl, .inr (ex_t R.ext g1), ?_⟩
        rw [dpa_len g2]
        exact q _ F H (Ex.refl F) R (.int _)
      | _ => cases h1
    | own ds =>
      simp only [e] at h
      cases h
      obtain ⟨a, vs, ev, g1, g2, g3, g4⟩ := w
      refine ⟨.ref a, ev, a, vs, rfl, .inl (sq_of g3), ?_⟩
      rw [dpa_len g4]
      exact q _ F H (Ex.refl F) R (.int _)
    | od kvs => simp only [e] at h; cases h
    | par ds =>
      simp only [e] at h
      cases h
      obtain ⟨a, vs, ev, g1, g2, g3, g4⟩ := w
      refine ⟨.ref a, ev, a, vs, rfl, .inl (sq_of g3), ?_⟩
      rw [dpa_len g4]
      exact q _ F H (Ex.refl F) R (.int _)

/-! ### isinstance -/
def tyD : PyData → String
  | .none => "NoneType"
  | .bool _ => "bool"
  | .int _ => "int"
  | .str _ => "str"
  | .list _ => "list"
  | .tuple _ => "tuple"
  | .dict _ => "dict"
def isiD (T : String) (d : PyData) : Option Bool := kitB (tyD d) T
theorem ty_of {K : PySem.W.Frag} {F H : Hp} {v : V} {d : PyData} (ex : Ex F H) (pl : Pl F) (h : Dp K F v d) : TyX K H v (.type (tyD d)) := by
  cases h with
  | non => exact .base .non
  | bl b => exact .base (.bl b)
  | int i => exact .base (.int i)
  | str x => exact .base (.str x)
  | lst h1 h2 =>
    rename_i a _ _
    rcases h1 with (h1 | ⟨o, h1⟩) | ⟨o, its, n, h1, h3, _⟩
    · exact .base (.lst (ex _ _ h1))
    · exact .base (.frz (ex _ _ h1))
    · exact .kList h1 h3
  | tup h1 h2 =>
    rename_i a _ _
    rcases h1 with (h1 | ⟨o, h1⟩) | ⟨o, its, n, h1, h3, _⟩
    · exact (pl _ _ h1).elim
    · exact .fTuple (ex _ _ h1)
    · exact .kTuple h1 h3
def pIsi (T : String) : PyData → Option PyData := fun d => (isiD T d).bind fun b => some (.bool b)
theorem ep_isi {e : Expr} {f : EX} {pp pt pos : Pos} {x : Str} {T : String} (hm : X.mg "isinstance" = none) (hmT : X.mg x = none) (hbT : bootBuiltins x = some (.type T)) (he : EP X e f) (hg : Gl X "isinstance" := by rfl) (hgT : Gl X x := by rfl) (hn : x ≠ "__name__" := by decide) (hdb : (x == ("__debug__" : Str)) = false := by decide)
    (hs : starEach [e, .Name x pt] X.env = (false, eval e X.env) :: starEach [.Name x pt] X.env := by rfl) (hs2 : starEach [.Name x pt] X.env = (false, eval (.Name x pt) X.env) :: starEach [] X.env := by rfl) (hpl : (backTo pos (starEach [.Name x pt] X.env)).any (·.1) = false := by rfl) :
    EP X (.Call (.Name "isinstance" pp) [e, .Name x pt] [] pos) (eUn (pIsi T) f) := by
  obtain ⟨te, h1, h2⟩ := he
  refine ⟨_, pe_callB call_isi hg hm boot_isinstance (pa_cons h1 (pa_cons (pe_bltn (v := .ty T) hgT hmT hbT rfl hn hdb) pa_nil hs2) hs) (by decide) (by decide) hs hpl, ?_⟩
  intro B Γ F σ H z Γ' R h Q q
  obtain ⟨⟨d, Γ1⟩, e1, h⟩ := bind_eq h
  obtain ⟨z', e2, h⟩ := bind_eq h
  cases h
  obtain ⟨b, e3, e2⟩ := bind_eq e2
  cases e2
  refine h2 B Γ F σ H d Γ1 R e1 _ fun v F1 H1 x1 R1 d1 => ?_
  exact ⟨v, .ty T, _, _, b, rfl, .ty T, ty_of R1.ext R1.pl d1, kit_ty e3, q _ F1 H1 x1 R1 (.bl b)⟩
/-- isinstance(e, (T, U)) -/
def pIsi2 (T U : String) : PyData → Option PyData := fun d => (isiD T d).bind fun b => (isiD U d).bind fun c => some (.bool (b || c))
theorem ep_isi2 {e : Expr} {f : EX} {pp pt pu ptt pos : Pos} {x y : Str} {T U : String} {kk} (hm : X.mg "isinstance" = none) (hmT : X.mg x = none) (hbT : bootBuiltins x = some (.type T)) (hmU : X.mg y = none) (hbU : bootBuiltins y = some (.type U)) (he : EP X e f) (hg : Gl X "isinstance" := by rfl) (hgT : Gl X x := by rfl) (hn : x ≠ "__name__" := by decide) (hdb : (x == ("__debug__" : Str)) = false := by decide)
    (hgU : Gl X y := by rfl) (hnU : y ≠ "__name__" := by decide) (hdbU : (y == ("__debug__" : Str)) = false := by decide)
    (hs : starEach [e, .Tuple [.Name x pt, .Name y pu] kk ptt] X.env = (false, eval e X.env) :: starEach [.Tuple [.Name x pt, .Name y pu] kk ptt] X.env := by rfl) (hs2 : starEach [.Tuple [.Name x pt, .Name y pu] kk ptt] X.env = (false, eval (.Tuple [.Name x pt, .Name y pu] kk ptt) X.env) :: starEach [] X.env := by rfl) (hpl : (backTo pos (starEach [.Tuple [.Name x pt, .Name y pu] kk ptt] X.env)).any (·.1) = false := by rfl)
    (hz : starEach [.Name x pt, .Name y pu] X.env = (false, eval (.Name x pt) X.env) :: starEach [.Name y pu] X.env := by rfl) (hz2 : starEach [.Name y pu] X.env = (false, eval (.Name y pu) X.env) :: starEach [] X.env := by rfl) :
    EP X (.Call (.Name "isinstance" pp) [e, .Tuple [.Name x pt, .Name y pu] kk ptt] [] pos) (eUn (pIsi2 T U) f) := by
  obtain ⟨te, h1, h2⟩ := he
  refine ⟨_, pe_callB call_isiT hg hm boot_isinstance (pa_cons h1 (pa_cons (pe_tup (pa_cons (pe_bltn (v := .ty T) hgT hmT hbT rfl hn hdb) (pa_cons (pe_bltn (v := .ty U) hgU hmU hbU rfl hnU hdbU) pa_nil hz2) hz)) pa_nil hs2) hs) (by decide) (by decide) hs hpl, ?_⟩
  intro B Γ F σ H z Γ' R h Q q
  obtain ⟨⟨d, Γ1⟩, e1, h⟩ := bind_eq h
  obtain ⟨z', e2, h⟩ := bind_eq h
  cases h
  obtain ⟨b, e3, e2⟩ := bind_eq e2
  obtain ⟨c, e4, e2⟩ := bind_eq e2
  cases e2
  refine h2 B Γ F σ H d Γ1 R e1 _ fun v F1 H1 x1 R1 d1 => ?_
  refine ⟨by show 2 ≤ sizeLine; decide, fun p hp => ?_⟩
  refine ⟨v, p, [.ty T, .ty U], _, [.type T, .type U], b || c, rfl, upd_same, .cons (.ty T) (.cons (.ty U) .nil), ty_of (R1.ext.trans (Ex.new hp)) R1.pl d1, ?_, q _ F1 _ x1 (R1.hide hp) (.bl _)⟩
  have k2 : PySem.W.kitAny X.K (.type (tyD d)) [.type U] = some c := by
    refine kitAny_cons (kit_ty e4) (fun e => ?_) (fun e => e)
    rw [e]; exact kitAny_nil
  refine kitAny_cons (kit_ty e3) (fun e => ?_) (fun e => ?_)
  · rw [e]; exact k2
  · rw [e]; rfl
end
end Z
set_option Elab.async false
set_option linter.all false
set_option maxRecDepth 100000
set_option maxHeartbeats 2000000
/-! Z: what a loop walks; ranges; calls with keywords -/
namespace Z
open PySem L2 Evl PyProof.Rows

section
variable {X : Cx} {tg : Expr} {pos : Pos}
theorem pi_or {iter : Expr} {w1 w2 : TI} (h1 : PI X tg iter w1) (h2 : PI X tg iter w2) : PI X tg iter (fun σ H R => w1 σ H R ∨ w2 σ H R) :=
  ⟨fun pins s σ H R I h => h.elim (h1.run pins s σ H R I) (h2.run pins s σ H R I)⟩
/-- a list or a tuple -/
def itSeq (f : EX) : AX := fun Γ => (f Γ).bind fun x => (seqOf x.1).bind fun xs => some (xs, x.2)
theorem yields_list {K : PySem.W.Frag} {F : Hp} {a : Addr} {vs : List V} {ds : List PyData} (h1 : SqL K F a vs) (h2 : DpAll K F vs ds) : Yields K F (Itl K a) ds := by
  have hl := dpa_len h2
  refine ⟨fun i F1 H1 e1 e2 _ hi => ?_, fun i F1 H1 x H2 e1 e2 pl hi hy => ?_, fun F1 H1 e1 e2 _ => ⟨vs, ex_l (e1.trans e2) h1, by omega⟩⟩
  · exact ⟨vs, vs[i]'(by omega), ex_l (e1.trans e2) h1, by simp⟩
  · obtain ⟨rfl, hx⟩ := hy
    have := hx vs (ex_l (e1.trans e2) h1)
    obtain ⟨d, g1, g2⟩ := dpa_get' h2 this
    exact ⟨F1, d, Grow.refl e2, g1, dp_mono e1 g2⟩
theorem yields_tup {K : PySem.W.Frag} {F : Hp} {a : Addr} {vs : List V} {ds : List PyData} (h1 : SqT K F a vs) (h2 : DpAll K F vs ds) : Yields K F (Itt K a) ds := by
  have hl := dpa_len h2
  refine ⟨fun i F1 H1 e1 e2 _ hi => ?_, fun i F1 H1 x H2 e1 e2 pl hi hy => ?_, fun F1 H1 e1 e2 _ => ⟨vs, ex_t (e1.trans e2) h1, by omega⟩⟩
  · exact ⟨vs, vs[i]'(by omega), ex_t (e1.trans e2) h1, by simp⟩
  · obtain ⟨rfl, hx⟩ := hy
    have := hx vs (ex_t (e1.trans e2) h1)
    obtain ⟨d, g1, g2⟩ := dpa_get' h2 this
    exact ⟨F1, d, Grow.refl e2, g1, dp_mono e1 g2⟩
theorem ip_seq {l : Expr} {f : EX} (h : EP X l f) : IP X tg l (itSeq f) := by
  obtain ⟨te, h1, h2⟩ := h
  refine ⟨_, pi_or (pi_list h1) (pi_tup h1), ?_⟩
  intro B Γ F σ H xs Γ' R e Q q
  obtain ⟨⟨d, Γ1⟩, e1, e⟩ := bind_eq e
  obtain ⟨ys, e2, e3⟩ := bind_eq e
  cases e3
  cases d with
  | list _ =>
    cases e2
    refine .inl (h2 B Γ F σ H _ Γ1 R e1 _ fun v F1 H1 x1 R1 d1 => ?_)
    obtain ⟨a, vs, rfl, g1, g2⟩ := dp_list d1
    exact ⟨a, rfl, ⟨vs, ex_l R1.ext g1⟩, q _ F1 H1 x1 R1 (yields_list g1 g2)⟩
  | tuple _ =>
    cases e2
    refine .inr (h2 B Γ F σ H _ Γ1 R e1 _ fun v F1 H1 x1 R1 d1 => ?_)
    obtain ⟨a, vs, rfl, g1, g2⟩ := dp_tup d1
    exact ⟨a, rfl, ⟨vs, ex_t R1.ext g1⟩, q _ F1 H1 x1 R1 (yields_tup g1 g2)⟩
  | _ => cases e2
/-- ranges: small numbers; steps of 1 and -1 -/
def rgI (lo c : Int) (n : Nat) : List Int := (List.range n).map fun (i : Nat) => lo + (i : Int) * c
def smallI (i : Int) : Bool := decide (-100000 ≤ i ∧ i ≤ 100000)
def rangeOf : List PyData → Option (List Int)
  | [.int n] => if smallI n = true then some (rgI 0 1 n.toNat) else none
  | [.int a, .int b] => if smallI a = true ∧ smallI b = true then some (rgI a 1 (b - a).toNat) else none
  | [.int a, .int b, .int c] => if smallI a = true ∧ smallI b = true ∧ c = -1 then some (rgI a (-1) (a - b).toNat) else none
  | _ => none
def itRange (k : AX) : AX := fun Γ => (k Γ).bind fun x => (rangeOf x.1).bind fun ns => some (ns.map .int, x.2)
theorem rgI_get {lo c : Int} {n i : Nat} (h : i < n) : ((rgI lo c n).map PyData.int)[i]? = some (.int (lo + i * c)) := by
  simp [rgI, h]
theorem rgI_len {lo c : Int} {n : Nat} : ((rgI lo c n).map PyData.int).length = n := by simp [rgI]
theorem yields_range {K : PySem.W.Frag} {F : Hp} {lo : Int} {n : Nat} : Yields K F (Itr lo n) ((rgI lo 1 n).map .int) := by
  refine ⟨fun i F1 H1 e1 e2 _ hi => by rw [rgI_len] at hi; exact hi, fun i F1 H1 x H2 e1 e2 pl hi hy => ?_, fun F1 H1 e1 e2 _ => by rw [rgI_len]; exact Nat.le_refl _⟩
  rw [rgI_len] at hi
  obtain ⟨rfl, rfl⟩ := hy
  refine ⟨F1, _, Grow.refl e2, rgI_get hi, ?_⟩
  rw [Int.mul_one]
  exact .int _
theorem yields_rangeC {K : PySem.W.Frag} {F : Hp} {lo c : Int} {n : Nat} : Yields K F (Itc lo c n) ((rgI lo c n).map .int) := by
  refine ⟨fun i F1 H1 e1 e2 _ hi => by rw [rgI_len] at hi; exact hi, fun i F1 H1 x H2 e1 e2 pl hi hy => ?_, fun F1 H1 e1 e2 _ => by rw [rgI_len]; exact Nat.le_refl _⟩
  rw [rgI_len] at hi
  obtain ⟨rfl, rfl⟩ := hy
  exact ⟨F1, _, Grow.refl e2, rgI_get hi, .int _⟩
theorem small_b {i : Int} (h : smallI i = true) : -100000 ≤ i ∧ i ≤ 100000 := of_decide_eq_true h
theorem one_of {f : EX} {Γ Γ' : Env} {ds : List PyData} (h : aCons f aNil Γ = some (ds, Γ')) : ∃ x, ds = [x] := by
  obtain ⟨⟨x, Γ1⟩, e1, h⟩ := bind_eq h
  cases h
  exact ⟨x, rfl⟩
theorem two_of {f g : EX} {Γ Γ' : Env} {ds : List PyData} (h : aCons f (aCons g aNil) Γ = some (ds, Γ')) : ∃ x y, ds = [x, y] := by
  obtain ⟨⟨x, Γ1⟩, e1, h⟩ := bind_eq h
  obtain ⟨⟨ys, Γ2⟩, e2, h⟩ := bind_eq h
  obtain ⟨y, rfl⟩ := one_of e2
  cases h
  exact ⟨x, y, rfl⟩
theorem three_of {f g k : EX} {Γ Γ' : Env} {ds : List PyData} (h : aCons f (aCons g (aCons k aNil)) Γ = some (ds, Γ')) : ∃ x y z, ds = [x, y, z] := by
  obtain ⟨⟨x, Γ1⟩, e1, h⟩ := bind_eq h
  obtain ⟨⟨ys, Γ2⟩, e2, h⟩ := bind_eq h
  obtain ⟨y, z, rfl⟩ := two_of e2
  cases h
  exact ⟨x, y, z, rfl⟩
theorem ip_range1 {a : Expr} {f : EX} {p : Pos} (hm : X.mg "range" = none) (ha : EP X a f) (hg : Gl X "range" := by rfl) (hs : starEach [a] X.env = [(false, eval a X.env)] := by rfl) : IP X tg (.Call (.Name "range" p) [a] [] pos) (itRange (aCons f aNil)) := by
  obtain ⟨ta, a1, a2⟩ := ap_cons ha ap_nil hs
  refine ⟨_, pi_range1 hg hm a1 hs, ?_⟩
  intro B Γ F σ H xs Γ' R e Q q
  obtain ⟨⟨ds, Γ1⟩, e1, e⟩ := bind_eq e
  obtain ⟨ns, e2, e3⟩ := bind_eq e
  cases e3
  obtain ⟨x, rfl⟩ := one_of e1
  refine a2 B Γ F σ H _ Γ1 R e1 _ fun vs F1 H1 x1 R1 d1 => ?_
  obtain ⟨v, rfl, d1'⟩ := dpa1 d1
  clear d1
  cases d1' with
  | int n =>
    simp only [rangeOf] at e2
    split at e2
    · rename_i hn
      cases e2
      have := small_b hn
      exact ⟨n, rfl, by omega, by omega, q _ F1 H1 x1 R1 yields_range⟩
    · cases e2
  | _ => cases e2
theorem ip_range2 {a b : Expr} {f g : EX} {p : Pos} (hm : X.mg "range" = none) (ha : EP X a f) (hb : EP X b g) (hg : Gl X "range" := by rfl) (hs : starEach [a, b] X.env = [(false, eval a X.env), (false, eval b X.env)] := by rfl) (hs2 : starEach [b] X.env = [(false, eval b X.env)] := by rfl) : IP X tg (.Call (.Name "range" p) [a, b] [] pos) (itRange (aCons f (aCons g aNil))) := by
  obtain ⟨ta, a1, a2⟩ := ap_cons ha (ap_cons hb ap_nil hs2) (by rw [hs, hs2])
  refine ⟨_, pi_range2 hg hm a1 hs hs2, ?_⟩
  intro B Γ F σ H xs Γ' R e Q q
  obtain ⟨⟨ds, Γ1⟩, e1, e⟩ := bind_eq e
  obtain ⟨ns, e2, e3⟩ := bind_eq e
  cases e3
  obtain ⟨x, y, rfl⟩ := two_of e1
  refine a2 B Γ F σ H _ Γ1 R e1 _ fun vs F1 H1 x1 R1 d1 => ?_
  obtain ⟨v, w, rfl, d1', d2⟩ := dpa2 d1
  clear d1
  cases d1' with
  | int n =>
    cases d2 with
    | int m =>
      simp only [rangeOf] at e2
      split at e2
      · rename_i hn
        cases e2
        have h1 := small_b hn.1
        have h2 := small_b hn.2
        exact ⟨n, m, rfl, ⟨by omega, by omega, by omega, by omega⟩, q _ F1 H1 x1 R1 yields_range⟩
      · cases e2
    | _ => cases e2
  | _ => cases e2
theorem ip_range3 {a b c : Expr} {f g k : EX} {p : Pos} (hm : X.mg "range" = none) (ha : EP X a f) (hb : EP X b g) (hc : EP X c k) (hg : Gl X "range" := by rfl)
    (hs : starEach [a, b, c] X.env = (false, eval a X.env) :: starEach [b, c] X.env := by rfl) (hs2 : starEach [b, c] X.env = (false, eval b X.env) :: starEach [c] X.env := by rfl) (hs3 : starEach [c] X.env = (false, eval c X.env) :: starEach [] X.env := by rfl) (hpl : (backTo pos (starEach [b, c] X.env)).any (·.1) = false := by rfl) :
    IP X tg (.Call (.Name "range" p) [a, b, c] [] pos) (itRange (aCons f (aCons g (aCons k aNil)))) := by
  obtain ⟨ta, a1, a2⟩ := ap_cons ha (ap_cons hb (ap_cons hc ap_nil hs3) hs2) hs
  refine ⟨_, pi_range3 hg hm a1 hs hpl, ?_⟩
  intro B Γ F σ H xs Γ' R e Q q
  obtain ⟨⟨ds, Γ1⟩, e1, e⟩ := bind_eq e
  obtain ⟨ns, e2, e3⟩ := bind_eq e
  cases e3
  obtain ⟨x, y, z, rfl⟩ := three_of e1
  refine a2 B Γ F σ H _ Γ1 R e1 _ fun vs F1 H1 x1 R1 d1 => ?_
  cases d1 with
  | cons d1 d23 =>
    obtain ⟨w, u, rfl, d2, d3⟩ := dpa2 d23
    cases d1 with
    | int n =>
      cases d2 with
      | int m =>
        cases d3 with
        | int c =>
          simp only [rangeOf] at e2
          split at e2
          · rename_i hn
            cases e2
            have h1 := small_b hn.1
            have h2 := small_b hn.2.1
            have h3 := hn.2.2
            subst h3
            exact ⟨n, m, -1, _, rfl, RgC.neg (by omega) (by omega) (by omega) (by omega), q _ F1 H1 x1 R1 yields_rangeC⟩
          · cases e2
        | _ => cases e2
      | _ => cases e2
    | _ => cases e2
/-! enumerate, zip: new pairs -/
def enumFrom : Nat → List PyData → List PyData
  | _, [] => []
  | n, x :: xs => .tuple [.int n, x] :: enumFrom (n + 1) xs
theorem enum_len : ∀ (n : Nat) (xs : List PyData), (enumFrom n xs).length = xs.length
  | _, [] => rfl
  | n, x :: xs => by simp [enumFrom, enum_len (n + 1) xs]
theorem enum_get : ∀ (n : Nat) (xs : List PyData) (i : Nat) (d : PyData), xs[i]? = some d → (enumFrom n xs)[i]? = some (.tuple [.int ((n + i : Nat) : Int), d])
  | _, [], _, _, h => by simp at h
  | n, x :: xs, 0, d, h => by simp at h; subst h; simp [enumFrom]
  | n, x :: xs, i + 1, d, h => by
    have h' : xs[i]? = some d := by simpa using h
    have := enum_get (n + 1) xs i d h'
    simp only [enumFrom, List.getElem?_cons_succ, this]
    congr 4
    omega
def itEnum (f : EX) : AX := fun Γ => (f Γ).bind fun x => (seqOf x.1).bind fun xs => some (enumFrom 0 xs, x.2)
theorem yields_enum {K : PySem.W.Frag} {F : Hp} {a : Addr} {vs : List V} {ds : List PyData} (h1 : SqL K F a vs) (h2 : DpAll K F vs ds) : Yields K F (IteL K a) (enumFrom 0 ds) := by
  have hl := dpa_len h2
  refine ⟨fun i F1 H1 e1 e2 _ hi => ?_, fun i F1 H1 x H2 e1 e2 pl hi hy => ?_, fun F1 H1 e1 e2 _ => ⟨vs, ex_l (e1.trans e2) h1, by rw [enum_len]; omega⟩⟩
  · rw [enum_len] at hi
    exact ⟨vs, vs[i]'(by omega), ex_l (e1.trans e2) h1, by simp⟩
  · obtain ⟨T, y, o, rfl, hT, ho, rfl, hx⟩ := hy
    have := hx vs (ex_l (e1.trans e2) h1)
    obtain ⟨d, g1, g2⟩ := dpa_get' h2 this
    have gr := Grow.laid (o := .frz o (.tup [.int (i : Nat), y])) e2 hT ho
    exact ⟨_, _, gr, enum_get 0 ds i d g1, .tup (st_frz upd_same) (.cons (by simpa using Dp.int _) (.cons (dp_mono (e1.trans gr.ext) g2) .nil))⟩
theorem yields_enumT {K : PySem.W.Frag} {F : Hp} {a : Addr} {vs : List V} {ds : List PyData} (h1 : SqT K F a vs) (h2 : DpAll K F vs ds) : Yields K F (IteT K a) (enumFrom 0 ds) := by
  have hl := dpa_len h2
  refine ⟨fun i F1 H1 e1 e2 _ hi => ?_, fun i F1 H1 x H2 e1 e2 pl hi hy => ?_, fun F1 H1 e1 e2 _ => ⟨vs, ex_t (e1.trans e2) h1, by rw [enum_len]; omega⟩⟩
  · rw [enum_len] at hi
    exact ⟨vs, vs[i]'(by omega), ex_t (e1.trans e2) h1, by simp⟩
  · obtain ⟨T, y, o, rfl, hT, ho, rfl, hx⟩ := hy
    have := hx vs (ex_t (e1.trans e2) h1)
    obtain ⟨d, g1, g2⟩ := dpa_get' h2 this
    have gr := Grow.laid (o := .frz o (.tup [.int (i : Nat), y])) e2 hT ho
    exact ⟨_, _, gr, enum_get 0 ds i d g1, .tup (st_frz upd_same) (.cons (by simpa using Dp.int _) (.cons (dp_mono (e1.trans gr.ext) g2) .nil))⟩
theorem ip_enum {elts : List Expr} {kk : Nat} {tpos p : Pos} {l : Expr} {f : EX} (hm : X.mg "enumerate" = none) (h : EP X l f) (hg : Gl X "enumerate" := by rfl) (hs : starEach [l] X.env = [(false, eval l X.env)] := by rfl) : IP X (.Tuple elts kk tpos) (.Call (.Name "enumerate" p) [l] [] pos) (itEnum f) := by
  obtain ⟨te, h1, h2⟩ := h
  refine ⟨_, pi_or (pi_enumL hg hm (pa_cons h1 pa_nil hs) hs) (pi_enumT hg hm (pa_cons h1 pa_nil hs) hs), ?_⟩
  intro B Γ F σ H xs Γ' R e Q q
  obtain ⟨⟨d, Γ1⟩, e1, e⟩ := bind_eq e
  obtain ⟨ys, e2, e3⟩ := bind_eq e
  cases e3
  cases d with
  | list _ =>
    cases e2
    refine .inl (h2 B Γ F σ H _ Γ1 R e1 _ fun v F1 H1 x1 R1 d1 => ?_)
    obtain ⟨a, vs, rfl, g1, g2⟩ := dp_list d1
    exact ⟨a, vs, rfl, ex_l R1.ext g1, q _ F1 H1 x1 R1 (yields_enum g1 g2)⟩
  | tuple _ =>
    cases e2
    refine .inr (h2 B Γ F σ H _ Γ1 R e1 _ fun v F1 H1 x1 R1 d1 => ?_)
    obtain ⟨a, vs, rfl, g1, g2⟩ := dp_tup d1
    exact ⟨a, vs, rfl, ex_t R1.ext g1, q _ F1 H1 x1 R1 (yields_enumT g1 g2)⟩
  | _ => cases e2

/-! ### list(range(..)), tuple(range(..)) -/
def PRgN (X : Cx) (e : Expr) (t : L2.St → Hp → (Int → Int → Nat → Hp → Prop) → Prop) : Prop :=
  ∀ (pins : List (Addr × Obj)) (s : Shared) (σ : L2.St) (H : Hp) (Q : Int → Int → Nat → Hp → Prop), Inv X pins σ H s → t σ H Q →
    wpAny (model X.prog X.w) X.A (eval e X.env) (fun x s' => ∃ (r : Addr) (a b c : Int) (n : Nat) (t u v : Tok) (H' : Hp), x = .ref r ∧ IsRange s'.heap r a b c t u v ∧ Builtin.Range.small a b c = true ∧ Builtin.Range.rangeSize a b c = n ∧ Inv X pins σ H' s' ∧ Q a c n H') X.xe s
def tRgN (t : L2.St → Hp → (Int → Int → Hp → Prop) → Prop) : L2.St → Hp → (Int → Int → Nat → Hp → Prop) → Prop := fun σ H Q => t σ H fun a b H1 => (smallI a = true ∧ smallI b = true) ∧ Q a 1 (b - a).toNat H1
theorem prgN {e : Expr} {t : L2.St → Hp → (Int → Int → Hp → Prop) → Prop} (h : PRg X e t) : PRgN X e (tRgN t) := by
  intro pins s σ H Q I hw
  refine thn (h pins s σ H _ I hw) fun x s' ⟨r, a, b, t, u, v, H', e1, e2, e3, e4, e5⟩ => ?_
  have h1 := small_b e4.1
  have h2 := small_b e4.2
  exact ⟨r, a, b, 1, _, t, u, v, H', e1, e2, small_one (by omega) (by omega) (by omega) (by omega), rangeSize_nat a b, e3, e5⟩
def tRg3 (k : TA) : L2.St → Hp → (Int → Int → Nat → Hp → Prop) → Prop := fun σ H Q => k σ H fun vs H1 => ∃ i j, vs = [.int i, .int j, .int (-1)] ∧ (smallI i = true ∧ smallI j = true) ∧ Q i (-1) (i - j).toNat H1
theorem prg_3 {a b c : Expr} {k : TA} {p pos : Pos} (hg : Gl X "range") (hm : X.mg "range" = none) (ha : PA X [a, b, c] k)
    (hs : starEach [a, b, c] X.env = (false, eval a X.env) :: starEach [b, c] X.env) (hpl : (backTo pos (starEach [b, c] X.env)).any (·.1) = false) :
    PRgN X (.Call (.Name "range" p) [a, b, c] [] pos) (tRg3 k) := by
  intro pins s σ H Q I h
  refine Call_ (ld_blt I hg hm boot_range (PyProof.Rows.callWith_type1 (thn (ha.run pos pins s σ H _ I h) fun us s1 ⟨vs, H1, I1, r1, q1⟩ => ?_) hs hpl))
  obtain ⟨i, j, rfl, hsm, q⟩ := q1
  have h1 := small_b hsm.1
  have h2 := small_b hsm.2
  cases r1 with
  | cons r1 r2 =>
    cases r2 with
    | cons r2 r3 =>
      cases r3 with
      | cons r3 r4 =>
        cases r4
        obtain ⟨t1, rfl⟩ := r1
        obtain ⟨t2, rfl⟩ := r2
        obtain ⟨t3, rfl⟩ := r3
        refine call_range_3 (by decide) ?_ (.inl (PyProof.noPylong_small (by decide)))
        exact ⟨_, i, j, -1, _, _, _, _, H1, rfl, IsRange.new _ _ _ _ _ _ _, PySem.W.small_down (by omega) (by omega) (by omega) (by omega), PySem.W.rangeSize_downNat i j, I1.kept fun b u e => Heap.get?_push_of_some _ e, q⟩
def rgVC (a c : Int) (n : Nat) : List V := (rgI a c n).map V.int
theorem vals_rgC {a c : Int} {n : Nat} {acc : Array Value} (h : ItemsOf (fun i v => ∃ t, v = .int (a + i * c) t) acc n) : Vals (rgVC a c n) acc.toList := by
  have e : acc.toList.length = n := by rw [Array.length_toList]; exact h.1
  have e2 : rgVC a c n = (List.range n).map fun (i : Nat) => V.int (a + (i : Int) * c) := by unfold rgVC rgI; rw [List.map_map]; rfl
  rw [e2, ← e]
  refine vals_of_get acc.toList _ fun j u hj => ?_
  obtain ⟨t, rfl⟩ := h.2 j u (by rw [← hj, Array.getElem?_toList])
  exact ⟨t, rfl⟩
theorem rgVC_len {a c : Int} {n : Nat} : (rgVC a c n).length = n := by simp [rgVC, rgI]
def tLR (te : L2.St → Hp → (Int → Int → Nat → Hp → Prop) → Prop) : TE := fun σ H Q => te σ H fun a c n H1 => n ≤ 2 ^ 24 ∧ ∀ q, H1 q = none → Q (.ref q) (upd H1 q (.lst (rgVC a c n)))
def tTR (te : L2.St → Hp → (Int → Int → Nat → Hp → Prop) → Prop) : TE := fun σ H Q => te σ H fun a c n H1 => n ≤ 2 ^ 24 ∧ NewT H1 (rgVC a c n) Q
variable {e : Expr} {te : L2.St → Hp → (Int → Int → Nat → Hp → Prop) → Prop}
theorem pe_LR {p pos : Pos} (hc : X.calm = true) (hg : Gl X "list") (hm : X.mg "list" = none) (he : PRgN X e te) (na : starEach [e] X.env = (false, eval e X.env) :: starEach [] X.env) : PE X (.Call (.Name "list" p) [e] [] pos) (tLR te) := by
  refine ⟨fun pins s σ H Q I h => ?_⟩
  refine Call_ (ld_blt I hg hm boot_list (PyProof.Rows.callWith_type1 (args_cons (thn (he pins s σ H _ I h) fun x s1 ⟨r, a, b, c, n, t, u, v, H1, ex, hr, b1, b2, I1, ok, q⟩ => args_nil ?_) na) na))
  subst ex
  refine call_list_range (n := n) (I1.ok.hd hc) hr b1 b2 ok fun h' tk acc c' hk e' hi => ?_
  refine ⟨.ref s1.heap.objs.size, upd H1 s1.heap.objs.size (.lst (rgVC a c n)), I1.laid hk (Nat.le_refl _) (show ObjOk X.prog X.w _ _ _ (.lst (rgVC a c n)) from ⟨?_, acc.toList, c', vals_rgC hi, ?_⟩), rfl, q _ (I1.hok.fresh (Nat.le_refl _))⟩
  · rw [rgVC_len, sizeLine_eq]; omega
  · rw [Array.toArray_toList]; exact e'
theorem pe_TR {p pos : Pos} (hc : X.calm = true) (hg : Gl X "tuple") (hm : X.mg "tuple" = none) (he : PRgN X e te) (na : starEach [e] X.env = (false, eval e X.env) :: starEach [] X.env) : PE X (.Call (.Name "tuple" p) [e] [] pos) (tTR te) := by
  refine ⟨fun pins s σ H Q I h => ?_⟩
  refine Call_ (ld_blt I hg hm boot_tuple (PyProof.Rows.callWith_type1 (args_cons (thn (he pins s σ H _ I h) fun x s1 ⟨r, a, b, c, n, t, u, v, H1, ex, hr, b1, b2, I1, ok, q⟩ => args_nil ?_) na) na))
  subst ex
  refine call_tuple_range (n := n) (I1.ok.hd hc) hr b1 b2 ok fun h' tk acc hk hi => ?_
  have I2 : Inv X pins σ H1 { s1 with heap := h', toks := tk } := I1.kept hk
  exact newT_of (h := h') (tk := tk) I2 (by rw [rgVC_len, sizeLine_eq]; omega) (vals_rgC hi) q
/-- the worth of a range -/
abbrev RX := Env → Option (List Int × Env)
def rxOf (k : AX) : RX := fun Γ => (k Γ).bind fun x => (rangeOf x.1).bind fun ns => some (ns, x.2)
def EvR (K : PySem.W.Frag) (tr : L2.St → Hp → (Int → Int → Nat → Hp → Prop) → Prop) (f : RX) : Prop := ∀ (B : Bs) (Γ : Env) (F : Hp) (σ : L2.St) (H : Hp) (r : List Int) (Γ' : Env), Rel K B Γ F σ H → f Γ = some (r, Γ') →
  ∀ Q : Int → Int → Nat → Hp → Prop, (∀ a c n F' H', r = rgI a c n → n ≤ 200000 → Ex F F' → Rel K B Γ' F' σ H' → Q a c n H') → tr σ H Q
def RP (X : Cx) (e : Expr) (f : RX) : Prop := ∃ t, PRgN X e t ∧ EvR X.K t f
theorem rp_1 {a : Expr} {f : EX} {p pos : Pos} (hm : X.mg "range" = none) (ha : EP X a f) (hg : Gl X "range" := by rfl) (hs : starEach [a] X.env = (false, eval a X.env) :: starEach [] X.env := by rfl) : RP X (.Call (.Name "range" p) [a] [] pos) (rxOf (aCons f aNil)) := by
  obtain ⟨te, h1, h2⟩ := ha
  refine ⟨_, prgN (prg_1 hg hm h1 hs), ?_⟩
  intro B Γ F σ H r Γ' R e Q q
  obtain ⟨⟨ds, Γ1⟩, e1, e⟩ := bind_eq e
  obtain ⟨ns, e2, e3⟩ := bind_eq e
  cases e3
  obtain ⟨⟨x, Γ2⟩, g1, g2⟩ := bind_eq e1
  cases g2
  refine h2 B Γ F σ H _ _ R g1 _ fun v F1 H1 x1 R1 d1 => ?_
  cases d1 with
  | int n =>
    simp only [rangeOf] at e2
    split at e2
    · rename_i hn
      cases e2
      have := small_b hn
      refine ⟨n, rfl, ⟨by decide, hn⟩, q _ _ _ F1 H1 (by simp) (by omega) x1 R1⟩
    · cases e2
  | _ => cases e2
theorem rp_2 {a b : Expr} {f g : EX} {p pos : Pos} (hm : X.mg "range" = none) (ha : EP X a f) (hb : EP X b g) (hg : Gl X "range" := by rfl) (hs : starEach [a, b] X.env = (false, eval a X.env) :: starEach [b] X.env := by rfl) (hs2 : starEach [b] X.env = (false, eval b X.env) :: starEach [] X.env := by rfl) (hpl : (backTo pos (starEach [b] X.env)).any (·.1) = false := by rfl) :
    RP X (.Call (.Name "range" p) [a, b] [] pos) (rxOf (aCons f (aCons g aNil))) := by
  obtain ⟨te, h1, h2⟩ := ha
  obtain ⟨tf, k1, k2⟩ := hb
  refine ⟨_, prgN (prg_2 hg hm h1 k1 hs hs2 hpl), ?_⟩
  intro B Γ F σ H r Γ' R e Q q
  obtain ⟨⟨ds, Γ1⟩, e1, e⟩ := bind_eq e
  obtain ⟨ns, e2, e3⟩ := bind_eq e
  cases e3
  obtain ⟨⟨x, Γ2⟩, g1, g2⟩ := bind_eq e1
  obtain ⟨⟨ys, Γ3⟩, g3, g4⟩ := bind_eq g2
  obtain ⟨⟨y, Γ4⟩, g5, g6⟩ := bind_eq g3
  cases g6
  cases g4
  refine h2 B Γ F σ H _ _ R g1 _ fun v F1 H1 x1 R1 d1 => ?_
  refine k2 B _ F1 σ H1 _ _ R1 g5 _ fun u F2 H2 x2 R2 d2 => ?_
  cases d1 with
  | int n =>
    cases d2 with
    | int m =>
      simp only [rangeOf] at e2
      split at e2
      · rename_i hn
        cases e2
        have h1 := small_b hn.1
        have h2 := small_b hn.2
        exact ⟨n, m, rfl, rfl, hn, q _ _ _ F2 H2 rfl (by omega) (x1.trans x2) R2⟩
      · cases e2
    | _ => cases e2
  | _ => cases e2
theorem rp_3 {a b c : Expr} {f g k : EX} {p pos : Pos} (hm : X.mg "range" = none) (ha : EP X a f) (hb : EP X b g) (hc : EP X c k) (hg : Gl X "range" := by rfl)
    (hs : starEach [a, b, c] X.env = (false, eval a X.env) :: starEach [b, c] X.env := by rfl) (hs2 : starEach [b, c] X.env = (false, eval b X.env) :: starEach [c] X.env := by rfl) (hs3 : starEach [c] X.env = (false, eval c X.env) :: starEach [] X.env := by rfl) (hpl : (backTo pos (starEach [b, c] X.env)).any (·.1) = false := by rfl) :
    RP X (.Call (.Name "range" p) [a, b, c] [] pos) (rxOf (aCons f (aCons g (aCons k aNil)))) := by
  obtain ⟨ta, a1, a2⟩ := ap_cons ha (ap_cons hb (ap_cons hc ap_nil hs3) hs2) hs
  refine ⟨_, prg_3 hg hm a1 hs hpl, ?_⟩
  intro B Γ F σ H r Γ' R e Q q
  obtain ⟨⟨ds, Γ1⟩, e1, e⟩ := bind_eq e
  obtain ⟨ns, e2, e3⟩ := bind_eq e
  cases e3
  obtain ⟨x, y, z, rfl⟩ := three_of e1
  refine a2 B Γ F σ H _ Γ1 R e1 _ fun vs F1 H1 x1 R1 d1 => ?_
  cases d1 with
  | cons d1 d23 =>
    obtain ⟨w, u, rfl, d2, d3⟩ := dpa2 d23
    cases d1 with
    | int n =>
      cases d2 with
      | int m =>
        cases d3 with
        | int c =>
          simp only [rangeOf] at e2
          split at e2
          · rename_i hn
            cases e2
            have h1 := small_b hn.1
            have h2 := small_b hn.2.1
            have h3 := hn.2.2
            subst h3
            exact ⟨n, m, rfl, ⟨hn.1, hn.2.1⟩, q _ _ _ F1 H1 rfl (by omega) x1 R1⟩
          · cases e2
        | _ => cases e2
      | _ => cases e2
    | _ => cases e2
def eLR (f : RX) : EX := fun Γ => (f Γ).bind fun x => some (.list (x.1.map .int), x.2)
def eTR (f : RX) : EX := fun Γ => (f Γ).bind fun x => some (.tuple (x.1.map .int), x.2)
theorem ep_LR {f : RX} {p pos : Pos} (hc : X.calm = true) (hm : X.mg "list" = none) (he : RP X e f) (hg : Gl X "list" := by rfl) (na : starEach [e] X.env = (false, eval e X.env) :: starEach [] X.env := by rfl) : EP X (.Call (.Name "list" p) [e] [] pos) (eLR f) := by
  obtain ⟨t, h1, h2⟩ := he
  refine ⟨_, pe_LR hc hg hm h1 na, ?_⟩
  intro B Γ F σ H r Γ' R e Q q
  obtain ⟨⟨ns, Γ1⟩, e1, e⟩ := bind_eq e
  cases e
  refine h2 B Γ F σ H ns Γ1 R e1 _ fun a c n F1 H1 er hn x1 R1 => ⟨Nat.le_trans hn (by decide), fun p hp => ?_⟩
  subst er
  have gr := Grow.laid (o := .lst (rgVC a c n)) R1.ext hp
  exact q _ _ _ (x1.trans gr.ext) (R1.grow gr) (.lst (sq_of upd_same) (dpa_ints _))
theorem ep_TR {f : RX} {p pos : Pos} (hc : X.calm = true) (hm : X.mg "tuple" = none) (he : RP X e f) (hg : Gl X "tuple" := by rfl) (na : starEach [e] X.env = (false, eval e X.env) :: starEach [] X.env := by rfl) : EP X (.Call (.Name "tuple" p) [e] [] pos) (eTR f) := by
  obtain ⟨t, h1, h2⟩ := he
  refine ⟨_, pe_TR hc hg hm h1 na, ?_⟩
  intro B Γ F σ H r Γ' R e Q q
  obtain ⟨⟨ns, Γ1⟩, e1, e⟩ := bind_eq e
  cases e
  refine h2 B Γ F σ H ns Γ1 R e1 _ fun a c n F1 H1 er hn x1 R1 => ⟨Nat.le_trans hn (by decide), fun p o hp ho => ?_⟩
  subst er
  have gr := Grow.laid (o := .frz o (.tup (rgVC a c n))) R1.ext hp ho
  exact q _ _ _ (x1.trans gr.ext) (R1.grow gr) (.tup (st_frz upd_same) (dpa_ints _))
end

/-! ### calls with keywords: f(x, .., k = y, ..) -/
def KwP (X : Cx) (kws : List Keyword) (f : AX) : Prop := ∃ ta, PK X kws ta ∧ EvA X.K ta f
section
variable {X : Cx} {pos : Pos}
theorem kp_nil : KwP X [] aNil := ⟨_, pk_nil, fun B Γ F σ H rs Γ' R e Q q => by cases e; exact q [] F H (Ex.refl F) R .nil⟩
theorem kp_cons {e : Expr} {nm : Option Str} {kpos : Pos} {kws : List Keyword} {f : EX} {k : AX} (h : EP X e f) (hr : KwP X kws k) (hp : ∀ {te : TE} {t : TA}, PE X e te → PK X kws t → PK X (⟨nm, e, kpos⟩ :: kws) (tCons te t) := by intro te t h1 h2; exact pk_cons h1 h2) : KwP X (⟨nm, e, kpos⟩ :: kws) (aCons f k) := by
  obtain ⟨te, h1, h2⟩ := h
  obtain ⟨ta, g1, g2⟩ := hr
  refine ⟨_, hp h1 g1, ?_⟩
  intro B Γ F σ H rs Γ' R e Q q
  obtain ⟨⟨x, Γ1⟩, e1, e⟩ := bind_eq e
  obtain ⟨⟨ys, Γ2⟩, e2, e⟩ := bind_eq e
  cases e
  refine h2 B Γ F σ H x Γ1 R e1 _ fun v F1 H1 x1 R1 d1 => ?_
  refine g2 B Γ1 F1 σ H1 ys Γ2 R1 e2 _ fun vs F2 H2 x2 R2 d2 => ?_
  exact q (v :: vs) F2 H2 (x1.trans x2) R2 (.cons (dp_mono x2 d1) d2)
end
end Z
set_option Elab.async false
set_option linter.all false
set_option maxRecDepth 100000
set_option maxHeartbeats 2000000
/-! Z: calls of defs with keywords -/
namespace Z
open PySem L2 Evl PyProof.Rows

/-- positional values us (np of them), then the keywords' values ws, in the parameters' order -/
def gK (np : Nat) (perm : List Nat) {α : Type} (us ws : List α) : List α := if us.length = np ∧ ws.length + np = perm.length then perm.filterMap (fun i => (us ++ ws)[i]?) else []
theorem gK_len {np : Nat} {perm : List Nat} {α : Type} {us ws : List α} {n : Nat} (h : (gK np perm us ws).length = n + 1) : us.length = np ∧ ws.length + np = perm.length := by
  unfold gK at h
  split at h
  · rename_i hc; exact hc
  · cases h
theorem vals_fm {us : List V} {ws : List Value} (r : Vals us ws) : ∀ perm : List Nat, Vals (perm.filterMap fun i => us[i]?) (perm.filterMap fun i => ws[i]?)
  | [] => .nil
  | i :: p => by
    rw [List.filterMap_cons, List.filterMap_cons]
    cases h : us[i]? with
    | none => rw [Vals.none_of r h]; exact vals_fm r p
    | some x =>
      obtain ⟨u, h1, h2⟩ := Vals.get r h
      rw [h1]
      exact .cons h2 (vals_fm r p)
theorem gK_rel {np : Nat} {perm : List Nat} {vs : List V} {us : List Value} {zs : List V} {ws : List Value} (r : Vals vs us) (z : Vals zs ws) : Vals (gK np perm vs zs) (gK np perm us ws) := by
  have l1 := r.length
  have l2 := z.length
  unfold gK
  rw [l1, l2]
  split
  · exact vals_fm (r.append z) perm
  · exact .nil
theorem kbinds {K : PySem.W.Frag} {x qual : Str} {st : Stmt} {f : Addr} {fd : FuncData} {p0 : Str} {ps ks : List Str} (np : Nat) (perm : List Nat) (F : Fun K x qual st f fd)
    (h : ∀ (kV doc pm : Value) (an : Option Addr) (cdv ct : Value) (us ws : List Value), us.length = np → ws.length + np = perm.length → bindArgs (PySem.W.fnOf x qual (defArgs st) (defBody st) (defScope st) .none kV doc pm an cdv ct) ⟨us, ks.zip ws⟩ = pure ((p0 :: ps).zip (gK np perm us ws))) : KBinds K fd (p0 :: ps) ks (gK np perm) (gK np perm) := by
  obtain ⟨oc, od, kV, doc, pm, an, cdv, ct, osl, rfl, lk, hcd⟩ := F.ex
  refine ⟨fun s us ws _ hl => ?_, fun r z => gK_rel r z⟩
  obtain ⟨h1, h2⟩ := gK_len (by simpa using hl)
  exact .of_eq (h kV doc pm an cdv ct us ws h1 h2)
section
variable {X : Cx} {pos p : Pos} {x : Str} {k : Nat} {f : Addr} {fd : FuncData} {ps ks : List Str} {sp : Sp} {CX : CXT} {E : XK} {tk : TA} {kws : List Keyword}
variable {g : List Value → List Value → List Value} {gV : List V → List V → List V}
/-- f(k = v, ..) -/
theorem pe_callK0 (F : FnOk X.prog X.w X.K X.mg X.base CX k f fd ps sp) (hr : Room k X.A) (hg : Gl X x) (hm : X.mg x = some (.ref f)) (hk : PySem.W.keepIn X.K (.ref f) = true) (hb : KBinds X.K fd ps ks g gV) (hx : Passes CX X E)
    (hkw : PK X kws tk) (hall : (backToKw pos (keywordEach kws X.env)).all (·.1.isSome) = true := by rfl) (hks : (backToKw pos (keywordEach kws X.env)).filterMap (·.1) = ks := by rfl)
    (hdb : (x == ("__debug__" : Str)) = false := by decide)
    (hpl : ((backTo pos (starEach [] X.env)).any (·.1) || (backToKw pos (keywordEach kws X.env)).any (·.1.isNone)) = false := by rfl) :
    PE X (.Call (.Name x p) [] kws pos) (tCallK sp gV E tNil tk) := by
  refine ⟨fun pins s σ H Q I h => ?_⟩
  refine wpAny_Call_Name_kw (ld_glob I hg hm ?_ hdb)
  refine PySem.W.callWith_KW0 (h₀ := X.base) I.ok.mod.kin hk hall ?_ hpl
  refine thn (hkw.run pos pins s σ H _ I h) fun ws s2 ⟨zs, H2, I2, rz, q2⟩ => ⟨I2.kIn, ?_⟩
  rw [hks]
  exact run_fnk F hr hb hx I2 .nil rz q2
def eCallK (p : List PyData → Option PyData) (np : Nat) (perm : List Nat) (a b : AX) : EX := fun Γ => (a Γ).bind fun x => (b x.2).bind fun y => (p (gK np perm x.1 y.1)).bind fun z => some (z, y.2)
theorem dpa_gK {K : PySem.W.Frag} {F : Hp} {np : Nat} {perm : List Nat} {vs : List V} {ds : List PyData} {zs : List V} {es : List PyData} (h : DpAll K F vs ds) (k : DpAll K F zs es) : DpAll K F (gK np perm vs zs) (gK np perm ds es) := by
  unfold gK
  rw [dpa_len h, dpa_len k]
  split
  · have ha := dpa_app h k
    have all : ∀ l : List Nat, DpAll K F (l.filterMap fun i => (vs ++ zs)[i]?) (l.filterMap fun i => (ds ++ es)[i]?) := by
      intro l
      induction l with
      | nil => exact .nil
      | cons i l ih =>
        rw [List.filterMap_cons, List.filterMap_cons]
        cases q : (ds ++ es)[i]? with
        | none =>
          have : (vs ++ zs)[i]? = none := List.getElem?_eq_none_iff.mpr (by rw [dpa_len ha]; exact List.getElem?_eq_none_iff.mp q)
          rw [this]; exact ih
        | some d =>
          obtain ⟨v, h1, h2⟩ := dpa_get ha q
          rw [h1]; exact .cons h2 ih
    exact all perm
  · exact .nil
theorem ev_fnK {K : PySem.W.Frag} {p : List PyData → Option PyData} {n : Nat} {np : Nat} {perm : List Nat} {ta tb : TA} {a b : AX} {E : XK} (hn : ∀ Γ x Γ2 y, a Γ = some x → b Γ2 = some y → (gK np perm x.1 y.1).length = n) (ha : EvA K ta a) (hb : EvA K tb b) : EvE K (tCallK (spP K n p) (gK np perm) E ta tb) (eCallK p np perm a b) := by
  intro B Γ F σ H z Γ' R h Q q
  obtain ⟨⟨xs, Γ1⟩, h1, h⟩ := bind_eq h
  obtain ⟨⟨ys, Γ2⟩, h2, h⟩ := bind_eq h
  obtain ⟨z', h3, h⟩ := bind_eq h
  cases h
  refine ha B Γ F σ H xs Γ1 R h1 _ fun vs F1 H1 e1 R1 d1 => ?_
  refine hb B Γ1 F1 σ H1 ys Γ2 R1 h2 _ fun zs F2 H2 e2 R2 d2 => ?_
  have d := dpa_gK (np := np) (perm := perm) (dpa_mono e2 d1) d2
  exact ⟨by rw [dpa_len d]; exact hn _ _ _ _ h1 h2, F2, _, z, R2.ext, R2.pl, d, h3, fun w F3 H3 gr d3 => q w F3 H3 ((e1.trans e2).trans gr.ext) (R2.grow gr) d3⟩
theorem ep_fnK0 {P : List PyData → Option PyData} {n : Nat} {perm : List Nat} {b : AX} (G : FnOk X.prog X.w X.K X.mg X.base CX0 k f fd ps (spP X.K n P)) (hr : Room k X.A) (hm : X.mg x = some (.ref f)) (hk : PySem.W.keepIn X.K (.ref f) = true) (hb : KBinds X.K fd ps ks (gK 0 perm) (gK 0 perm))
    (hkw : KwP X kws b) (hn : ∀ Γ y, b Γ = some y → (gK 0 perm ([] : List PyData) y.1).length = n) (hg : Gl X x := by rfl) (hall : (backToKw pos (keywordEach kws X.env)).all (·.1.isSome) = true := by rfl) (hks : (backToKw pos (keywordEach kws X.env)).filterMap (·.1) = ks := by rfl)
    (hdb : (x == ("__debug__" : Str)) = false := by decide)
    (hpl : ((backTo pos (starEach [] X.env)).any (·.1) || (backToKw pos (keywordEach kws X.env)).any (·.1.isNone)) = false := by rfl) :
    EP X (.Call (.Name x p) [] kws pos) (eCallK P 0 perm aNil b) := by
  obtain ⟨tb, b1, b2⟩ := hkw
  refine ⟨_, pe_callK0 G hr hg hm hk hb pass0 b1 hall hks hdb hpl, ?_⟩
  exact ev_fnK (fun Γ x Γ2 y h1 h2 => by cases h1; exact hn _ _ h2) (fun B Γ F σ H rs Γ' R e Q q => by cases e; exact q [] F H (Ex.refl F) R .nil) b2
theorem ep_fnK {P : List PyData → Option PyData} {n np : Nat} {perm : List Nat} {a b : AX} {e : Expr} {es : List Expr} (G : FnOk X.prog X.w X.K X.mg X.base CX0 k f fd ps (spP X.K n P)) (hr : Room k X.A) (hm : X.mg x = some (.ref f)) (hk : PySem.W.keepIn X.K (.ref f) = true) (hb : KBinds X.K fd ps ks (gK np perm) (gK np perm))
    (ha : AP X (e :: es) a) (hkw : KwP X kws b) (hn : ∀ Γ x Γ2 y, a Γ = some x → b Γ2 = some y → (gK np perm x.1 y.1).length = n) (hg : Gl X x := by rfl) (hall : (backToKw pos (keywordEach kws X.env)).all (·.1.isSome) = true := by rfl) (hks : (backToKw pos (keywordEach kws X.env)).filterMap (·.1) = ks := by rfl)
    (hdb : (x == ("__debug__" : Str)) = false := by decide) (he : starEach (e :: es) X.env = (false, eval e X.env) :: starEach es X.env := by rfl)
    (hpl : ((backTo pos (starEach (e :: es) X.env)).any (·.1) || (backToKw pos (keywordEach kws X.env)).any (·.1.isNone)) = false := by rfl) :
    EP X (.Call (.Name x p) (e :: es) kws pos) (eCallK P np perm a b) := by
  obtain ⟨ta, a1, a2⟩ := ha
  obtain ⟨tb, b1, b2⟩ := hkw
  exact ⟨_, pe_callK G hr hg hm hk hb pass0 a1 b1 hall hks hdb he hpl, ev_fnK hn a2 b2⟩
end
end Z
set_option Elab.async false
set_option linter.all false
set_option maxRecDepth 100000
set_option maxHeartbeats 2000000
/-! Z: defs by name; truth of any value; the end of a law -/
namespace Z
open PySem L2 Evl PyProof.Rows

/-- a def of the text stands under its name -/
def Df (K : PySem.W.Frag) (mg : Str → Option Value) (x : Str) (st : Stmt) (ps : List Str) : Prop := ∃ (f : Addr) (fd : FuncData), Fun K x x st f fd ∧ mg x = some (.ref f) ∧ Binds K fd ps []
/-- .. and keeps its promise -/
def Ok (P : Program) (w : World) (K : PySem.W.Frag) (mg : Str → Option Value) (base : Heap) (k : Nat) (x : Str) (st : Stmt) (ps : List Str) (sp : Sp) : Prop :=
  ∃ (f : Addr) (fd : FuncData), Fun K x x st f fd ∧ mg x = some (.ref f) ∧ Binds K fd ps [] ∧ FnOk P w K mg base CX0 k f fd ps sp
theorem df_mk {K : PySem.W.Frag} {h : Heap} {mg : Str → Option Value} {x : Str} {st : Stmt} {ps : List Str} {f : Addr} {oc : Value} {od an : Option Addr} {osl : Array (Option Value)} {kV doc pm cdv ct : Value} (X : K.In h) (G : h.Ns mainGlobals mg)
    (hb : ∀ (kV doc pm : Value) (an : Option Addr) (cdv ct : Value) (us : List Value), us.length = ps.length → bindArgs (PySem.W.fnOf x x (defArgs st) (defBody st) (defScope st) .none kV doc pm an cdv ct) ⟨us, []⟩ = pure (ps.zip us))
    (a : PySem.W.nsIn K mainGlobals x = some (some (.ref f))) (l : K.lookup f = some ⟨oc, od, .func (PySem.W.fnOf x x (defArgs st) (defBody st) (defScope st) .none kV doc pm an cdv ct), osl⟩) (c : PySem.W.codeIn K cdv x = true) (k : PySem.W.keepIn K (.ref f) = true) : Df K mg x st ps := by
  have F := fun_mk (st := st) l c k
  exact ⟨f, _, F, PySem.W.mg_of X G a, F.binds hb⟩
section
variable {P : Program} {w : World} {K : PySem.W.Frag} {mg : Str → Option Value} {base : Heap}
theorem ok_pure {x : Str} {st : Stmt} {N ps : List Str} {k n m : Nat} {b : SX} (D : Df K mg x st ps) (S : FnScope N ps (defScope st)) (hn : ps.length = n := by rfl) (hm : N.length = m := by rfl)
    (hb : ∀ (f : Addr) (cdv : Value) (A : Around) (outer : List PySem.Env) (s : Shared) (H : Hp) (E : XK), Room k (A.deeper (envOfC x (defScope st) s.heap.objs.size f cdv)) →
      BP (cxOf CX0 P w K mg base N x (defScope st) f cdv A outer s H E).nox (defBody st) b) : Ok P w K mg base (k + 1) x st ps (spP K n (runP m b)) := by
  obtain ⟨f, fd, F, g, bi⟩ := D
  subst hn hm
  exact ⟨f, fd, F, g, bi, fn_pure F S (hb f)⟩
theorem ok_mut {x : Str} {st : Stmt} {N ps : List Str} {k n m : Nat} {b : SX} (D : Df K mg x st ps) (S : FnScope N ps (defScope st)) (hn : ps.length = n := by rfl) (hm : N.length = m := by rfl)
    (hb : ∀ (f : Addr) (cdv : Value) (A : Around) (outer : List PySem.Env) (s : Shared) (H : Hp) (E : XK), Room k (A.deeper (envOfC x (defScope st) s.heap.objs.size f cdv)) →
      BP (cxOf CX0 P w K mg base N x (defScope st) f cdv A outer s H E).nox (defBody st) b) : Ok P w K mg base (k + 1) x st ps (spM K n (runM m b)) := by
  obtain ⟨f, fd, F, g, bi⟩ := D
  subst hn hm
  exact ⟨f, fd, F, g, bi, fn_mut F S (hb f)⟩
theorem ok_list {x : Str} {st : Stmt} {N ps : List Str} {k n m : Nat} {b : SX} (D : Df K mg x st ps) (S : FnScope N ps (defScope st)) (hn : ps.length = n := by rfl) (hm : N.length = m := by rfl)
    (hb : ∀ (f : Addr) (cdv : Value) (A : Around) (outer : List PySem.Env) (s : Shared) (H : Hp) (E : XK), Room k (A.deeper (envOfC x (defScope st) s.heap.objs.size f cdv)) →
      BP (cxOf CX0 P w K mg base N x (defScope st) f cdv A outer s H E).nox (defBody st) b) : Ok P w K mg base (k + 1) x st ps (spL K n (runL m b)) := by
  obtain ⟨f, fd, F, g, bi⟩ := D
  subst hn hm
  exact ⟨f, fd, F, g, bi, fn_list F S (hb f)⟩
theorem ok_no {x : Str} {st : Stmt} {ps : List Str} {k n : Nat} (D : Df K mg x st ps) (hn : ps.length = n := by rfl) : Ok P w K mg base k x st ps (spP K n fun _ => none) := by
  obtain ⟨f, fd, F, g, bi⟩ := D
  subst hn
  exact ⟨f, fd, F, g, bi, ⟨fun vs H Q E h => h.1, fun A outer s H args us vs Q E _ _ _ _ h => by obtain ⟨_, _, _, _, _, _, _, h, _⟩ := h; cases h⟩⟩
theorem ok_noM {x : Str} {st : Stmt} {ps : List Str} {k n : Nat} (D : Df K mg x st ps) (hn : ps.length = n := by rfl) : Ok P w K mg base k x st ps (spM K n fun _ _ => none) := by
  obtain ⟨f, fd, F, g, bi⟩ := D
  subst hn
  exact ⟨f, fd, F, g, bi, ⟨fun vs H Q E h => h.1, fun A outer s H args us vs Q E _ _ _ _ h => by
    obtain ⟨_, _, _, _, _, _, _, _, _, _, _, _, _, _, _, _, h, _⟩ := h; cases h⟩⟩
theorem Ok.mono {x : Str} {st : Stmt} {ps : List Str} {j k : Nat} {sp : Sp} (o : Ok P w K mg base j x st ps sp) (h : j ≤ k) : Ok P w K mg base k x st ps sp := by
  obtain ⟨f, fd, F, g, bi, G⟩ := o
  exact ⟨f, fd, F, g, bi, G.mono h⟩
end
/-- how many values an argument list gives -/
def Len (k : AX) (n : Nat) : Prop := ∀ Γ x, k Γ = some x → x.1.length = n
theorem len_nil : Len aNil 0 := fun Γ x h => by cases h; rfl
theorem len_cons {f : EX} {k : AX} {n : Nat} (h : Len k n) : Len (aCons f k) (n + 1) := fun Γ x e => by
  obtain ⟨⟨y, Γ1⟩, e1, e⟩ := bind_eq e
  obtain ⟨⟨ys, Γ2⟩, e2, e⟩ := bind_eq e
  cases e
  simp [h _ _ e2]
section
variable {X : Cx} {pos pp : Pos} {x : Str} {st : Stmt} {ps : List Str} {lv n : Nat}
theorem ep_o {e : Expr} {es : List Expr} {p : List PyData → Option PyData} {k : AX} (G : Ok X.prog X.w X.K X.mg X.base lv x st ps (spP X.K n p)) (hr : Room lv X.A) (ha : AP X (e :: es) k) (hn : Len k n) (hg : Gl X x := by rfl) (hdb : (x == ("__debug__" : Str)) = false := by decide)
    (he : starEach (e :: es) X.env = (false, eval e X.env) :: starEach es X.env := by rfl) (hpl : (backTo pos (starEach es X.env)).any (·.1) = false := by rfl) : EP X (.Call (.Name x pp) (e :: es) [] pos) (eCall p k) := by
  obtain ⟨f, fd, F, g, bi, G⟩ := G
  exact ep_fn G hr g F.kp bi ha hn hg hdb he hpl
theorem np_oL {e : Expr} {es : List Expr} {p : List PyData → Option (List PyData)} {k : AX} (G : Ok X.prog X.w X.K X.mg X.base lv x st ps (spL X.K n p)) (hr : Room lv X.A) (ha : AP X (e :: es) k) (hn : Len k n) (hg : Gl X x := by rfl) (hdb : (x == ("__debug__" : Str)) = false := by decide)
    (he : starEach (e :: es) X.env = (false, eval e X.env) :: starEach es X.env := by rfl) (hpl : (backTo pos (starEach es X.env)).any (·.1) = false := by rfl) : NP X (.Call (.Name x pp) (e :: es) [] pos) (nCallL p k) := by
  obtain ⟨f, fd, F, g, bi, G⟩ := G
  exact np_fnL G hr g F.kp bi ha hn hg hdb he hpl
theorem ep_oM {y : Str} {py : Pos} {es : List Expr} {p : List PyData → List PyData → Option (PyData × List PyData)} {i : Nat} {k : AX} (G : Ok X.prog X.w X.K X.mg X.base lv x st ps (spM X.K n p)) (hr : Room lv X.A) (ha : AP X es k) (hn : Len k n') (hn' : n' + 1 = n)
    (hp : ∀ {f : Addr} {fd : FuncData} {ta : TA} {sp : Sp}, (FnOk X.prog X.w X.K X.mg X.base CX0 lv f fd ps sp) → X.mg x = some (.ref f) → PySem.W.keepIn X.K (.ref f) = true → Binds X.K fd ps [] → Room lv X.A → PA X es ta → PE X (.Call (.Name x pp) (.Name y py :: es) [] pos) (tCall sp [] E0 (tCons (tVar i) ta)) := by
      intro f fd ta sp h1 h2 h3 h4 h5 h6; exact pe_call h1 h5 (by rfl) h2 h3 h4 .nil pass0 (pa_cons (pv _) h6)) :
    EP X (.Call (.Name x pp) (.Name y py :: es) [] pos) (eCallM i p k) := by
  obtain ⟨f, fd, F, g, bi, G⟩ := G
  exact ep_fnM G hr g F.kp bi ha (fun Γ x h => by rw [hn Γ x h]; exact hn') (fun h1 h2 => hp h1 g F.kp bi hr h2)
theorem ep_oK0 {p0 : Str} {ps ks : List Str} {kws : List Keyword} {p : List PyData → Option PyData} {perm : List Nat} {b : AX} (G : Ok X.prog X.w X.K X.mg X.base lv x st (p0 :: ps) (spP X.K n p)) (hr : Room lv X.A)
    (hkb : ∀ (kV doc pm : Value) (an : Option Addr) (cdv ct : Value) (us ws : List Value), us.length = 0 → ws.length + 0 = perm.length → bindArgs (PySem.W.fnOf x x (defArgs st) (defBody st) (defScope st) .none kV doc pm an cdv ct) ⟨us, ks.zip ws⟩ = pure ((p0 :: ps).zip (gK 0 perm us ws)))
    (hkw : KwP X kws b) (hn : Len b m) (hl : ∀ ds : List PyData, ds.length = m → (gK 0 perm ([] : List PyData) ds).length = n) (hg : Gl X x := by rfl) (hall : (backToKw pos (keywordEach kws X.env)).all (·.1.isSome) = true := by rfl) (hks : (backToKw pos (keywordEach kws X.env)).filterMap (·.1) = ks := by rfl)
    (hdb : (x == ("__debug__" : Str)) = false := by decide)
    (hpl : ((backTo pos (starEach [] X.env)).any (·.1) || (backToKw pos (keywordEach kws X.env)).any (·.1.isNone)) = false := by rfl) :
    EP X (.Call (.Name x pp) [] kws pos) (eCallK p 0 perm aNil b) := by
  obtain ⟨f, fd, F, g, bi, G⟩ := G
  exact ep_fnK0 G hr g F.kp (kbinds 0 perm F hkb) hkw (fun Γ y h => hl _ (hn Γ y h)) hg hall hks hdb hpl
theorem ep_oK {p0 : Str} {ps ks : List Str} {kws : List Keyword} {e : Expr} {es : List Expr} {p : List PyData → Option PyData} {np : Nat} {perm : List Nat} {a b : AX} (G : Ok X.prog X.w X.K X.mg X.base lv x st (p0 :: ps) (spP X.K n p)) (hr : Room lv X.A)
    (hkb : ∀ (kV doc pm : Value) (an : Option Addr) (cdv ct : Value) (us ws : List Value), us.length = np → ws.length + np = perm.length → bindArgs (PySem.W.fnOf x x (defArgs st) (defBody st) (defScope st) .none kV doc pm an cdv ct) ⟨us, ks.zip ws⟩ = pure ((p0 :: ps).zip (gK np perm us ws)))
    (ha : AP X (e :: es) a) (hkw : KwP X kws b) (hna : Len a np) (hn : Len b m) (hl : ∀ cs ds : List PyData, cs.length = np → ds.length = m → (gK np perm cs ds).length = n) (hg : Gl X x := by rfl) (hall : (backToKw pos (keywordEach kws X.env)).all (·.1.isSome) = true := by rfl) (hks : (backToKw pos (keywordEach kws X.env)).filterMap (·.1) = ks := by rfl)
    (hdb : (x == ("__debug__" : Str)) = false := by decide) (he : starEach (e :: es) X.env = (false, eval e X.env) :: starEach es X.env := by rfl)
    (hpl : ((backTo pos (starEach (e :: es) X.env)).any (·.1) || (backToKw pos (keywordEach kws X.env)).any (·.1.isNone)) = false := by rfl) :
    EP X (.Call (.Name x pp) (e :: es) kws pos) (eCallK p np perm a b) := by
  obtain ⟨f, fd, F, g, bi, G⟩ := G
  exact ep_fnK G hr g F.kp (kbinds np perm F hkb) ha hkw (fun Γ x Γ2 y h1 h2 => hl _ _ (hna Γ x h1) (hn Γ2 y h2)) hg hall hks hdb he hpl
/-- truth of any value -/
def truD : PyData → Option Bool
  | .none => some false
  | .bool b => some b
  | .int i => some (i != 0)
  | .list xs => some (!xs.isEmpty)
  | .tuple xs => some (!xs.isEmpty)
  | _ => none
def tTruX (f : EX) : TX := fun Γ => (f Γ).bind fun x => (truD x.1).bind fun b => some (b, x.2)
theorem isEmpty_dpa {K : PySem.W.Frag} {F : Hp} {vs : List V} {ds : List PyData} (h : DpAll K F vs ds) : vs.isEmpty = ds.isEmpty := by cases h <;> rfl
theorem tp_tru {e : Expr} {f : EX} (h : EP X e f) (he : ∀ whole, isTrue e X.env whole = (do let v ← whole; standAt e.pos; holding [v] (truthy v)) := by intro _; rfl) : TP X e (tTruX f) := by
  obtain ⟨te, h1, h2⟩ := h
  refine ⟨_, pt_truth h1 he, ?_⟩
  intro B Γ F σ H r Γ' R e Q q
  obtain ⟨⟨d, Γ1⟩, e1, e⟩ := bind_eq e
  obtain ⟨b, e2, e3⟩ := bind_eq e
  cases e3
  refine h2 B Γ F σ H d Γ1 R e1 _ fun v F1 H1 x1 R1 d1 => ⟨r, ?_, q F1 H1 x1 R1⟩
  cases d1 with
  | non => cases e2; rfl
  | bl c => cases e2; rfl
  | int i => cases e2; rfl
  | str s => cases e2
  | lst g1 g2 => cases e2; exact .inl ⟨_, ex_l R1.ext g1, by rw [isEmpty_dpa g2]⟩
  | tup g1 g2 => cases e2; exact .inr (.inl ⟨_, ex_t R1.ext g1, by rw [isEmpty_dpa g2]⟩)
end
/-! ### the end -/
def spLaw (K : PySem.W.Frag) : Sp := fun vs H Q _ => ∃ (a : Addr) (ns : List Int), vs = [.ref a] ∧ SqL K H a (ns.map V.int) ∧ ns.length ≤ 63 ∧ ∀ H', Q (.bl true) H'
theorem sp_law {K : PySem.W.Frag} {p : List PyData → Option PyData} (h : ∀ ns : List Int, ns.length ≤ 63 → p [.list (ns.map .int)] = some (.bool true)) : ∀ (vs : List V) (H : Hp) (Q : VK) (E : XK), spLaw K vs H Q E → spP K 1 p vs H Q E := by
  rintro vs H Q E ⟨a, ns, rfl, hs, hl, q⟩
  have fin : ∀ F : Hp, Ex F H → Pl F → SqL K F a (ns.map V.int) → spP K 1 p [.ref a] H Q E := fun F ex pl hq =>
    ⟨rfl, F, [.list (ns.map .int)], .bool true, ex, pl, .cons (.lst hq (dpa_ints ns)) .nil, h ns hl, fun v F' H' gr d => by cases d; exact q H'⟩
  rcases hs with (hs | ⟨o, hs⟩) | hs
  · refine fin (fun b => if b = a then some (.lst (ns.map V.int)) else none) (fun b o e => ?_) (fun b o e => ?_) (.inl (.inl (if_pos rfl)))
    · have e' : (if b = a then some (HO.lst (ns.map V.int)) else none) = some o := e
      split at e'
      · rename_i hb; cases e'; rw [hb]; exact hs
      · cases e'
    · have e' : (if b = a then some (HO.lst (ns.map V.int)) else none) = some o := e
      split at e'
      · cases e'; trivial
      · cases e'
  · refine fin (fun b => if b = a then some (.frz o (.lst (ns.map V.int))) else none) (fun b o' e => ?_) (fun b o' e => ?_) (.inl (.inr ⟨o, if_pos rfl⟩))
    · have e' : (if b = a then some (HO.frz o (HO.lst (ns.map V.int))) else none) = some o' := e
      split at e'
      · rename_i hb; cases e'; rw [hb]; exact hs
      · cases e'
    · have e' : (if b = a then some (HO.frz o (HO.lst (ns.map V.int))) else none) = some o' := e
      split at e'
      · cases e'; trivial
      · cases e'
  · exact fin (fun _ => none) (fun _ _ e => by cases e) (fun _ _ e => by cases e) (.inr hs)
theorem ok_end {P : Program} {w : World} {K : PySem.W.Frag} {mg : Str → Option Value} {base : Heap} {k : Nat} {st : Stmt} {fa : Addr} {p : List PyData → Option PyData} (h : ∀ ns : List Int, ns.length ≤ 63 → p [.list (ns.map .int)] = some (.bool true)) (hfa : mg "law" = some (.ref fa))
    (o : Ok P w K mg base k "law" st ["script"] (spP K 1 p)) : ∃ fd, Fun K "law" "law" st fa fd ∧ FnOk P w K mg base CX0 k fa fd ["script"] (spLaw K) := by
  obtain ⟨f, fd, F, g, bi, G⟩ := o
  rw [hfa] at g
  cases g
  exact ⟨fd, F, ⟨fun vs H Q E hh => by obtain ⟨a, ns, rfl, _⟩ := hh; rfl, fun A outer s H args us vs Q E hr e0 hb hv hh => G.run A outer s H args us vs Q E hr e0 hb hv (sp_law h vs H Q E hh)⟩⟩
end Z
set_option Elab.async false
set_option linter.all false
set_option maxRecDepth 100000
set_option maxHeartbeats 2000000
/-! Z: chains of two comparisons; x += e -/
namespace Z
open PySem L2 Evl PyProof.Rows
def eChain (p p' : PyData → PyData → Option PyData) (f g k : EX) : EX := fun Γ => (f Γ).bind fun x => (g x.2).bind fun y => (p x.1 y.1).bind fun z => match z with
  | .bool true => (k y.2).bind fun w => (p' y.1 w.1).bind fun u => some (u, w.2)
  | .bool false => some (.bool false, y.2)
  | _ => none
section
variable {X : Cx} {a b c : Expr} {f g k : EX} {pos : Pos}
theorem ev_chain {K : PySem.W.Frag} {r r' : R2} {p p' : PyData → PyData → Option PyData} {ta tb tc : TE} (hr : OpP K r p) (hr' : OpP K r' p') (ha : EvE K ta f) (hb : EvE K tb g) (hc : EvE K tc k) : EvE K (tChain r r' ta tb tc) (eChain p p' f g k) := by
  intro B Γ F σ H z Γ' R h Q q
  obtain ⟨⟨x, Γ1⟩, h1, h⟩ := bind_eq h
  obtain ⟨⟨y, Γ2⟩, h2, h⟩ := bind_eq h
  obtain ⟨u, h3, h⟩ := bind_eq h
  refine ha B Γ F σ H x Γ1 R h1 _ fun v F1 H1 e1 R1 d1 => ?_
  refine hb B Γ1 F1 σ H1 y Γ2 R1 h2 _ fun w F2 H2 e2 R2 d2 => ?_
  refine hr F2 H2 v w x y u R2.ext R2.pl (dp_mono e2 d1) d2 h3 _ fun s F3 H3 gr d3 => ?_
  have R3 := R2.grow gr
  cases d3 with
  | bl c =>
    refine ⟨c, rfl, ?_⟩
    cases c with
    | true =>
      obtain ⟨⟨y', Γ3⟩, h4, h⟩ := bind_eq (show (k Γ2).bind _ = some (z, Γ') from h)
      obtain ⟨u', h5, h⟩ := bind_eq h
      cases h
      show tc σ H3 _
      refine hc B Γ2 F3 σ H3 y' Γ3 R3 h4 _ fun w' F4 H4 e4 R4 d4 => ?_
      exact hr' F4 H4 w w' y y' z R4.ext R4.pl (dp_mono (gr.ext.trans e4) d2) d4 h5 Q fun s F5 H5 gr5 d5 => q s F5 H5 ((((e1.trans e2).trans gr.ext).trans e4).trans gr5.ext) (R4.grow gr5) d5
    | false =>
      have h' : some (PyData.bool false, Γ2) = some (z, Γ') := h
      cases h'
      show Q (.bl false) H3
      exact q _ F3 H3 ((e1.trans e2).trans gr.ext) R3 (.bl false)
  | _ => cases h
theorem ep_chain {op op' : CmpOp} {p p' : PyData → PyData → Option PyData} (ho : OpE X (compareOp op) p) (ho' : OpE X (compareOp op') p') (ha : EP X a f) (hb : EP X b g) (hc : EP X c k)
    (hm : lastMarks [op, op'] [b, c] = false := by with_unfolding_all rfl) : EP X (.Compare a [op, op'] [b, c] pos) (eChain p p' f g k) := by
  obtain ⟨r, o1, o2⟩ := ho
  obtain ⟨r', o3, o4⟩ := ho'
  obtain ⟨ta, a1, a2⟩ := ha
  obtain ⟨tb, b1, b2⟩ := hb
  obtain ⟨tc, c1, c2⟩ := hc
  exact ⟨_, pe_chain o1 o3 a1 b1 c1 hm, ev_chain o2 o4 a2 b2 c2⟩
theorem tp_chain {op op' : CmpOp} {p p' : PyData → PyData → Option PyData} (ho : OpE X (compareOp op) p) (ho' : OpE X (compareOp op') p') (ha : EP X a f) (hb : EP X b g) (hc : EP X c k)
    (hm : lastMarks [op, op'] [b, c] = false := by with_unfolding_all rfl) : TP X (.Compare a [op, op'] [b, c] pos) (tOf (eChain p p' f g k)) := by
  obtain ⟨r, o1, o2⟩ := ho
  obtain ⟨r', o3, o4⟩ := ho'
  obtain ⟨ta, a1, a2⟩ := ha
  obtain ⟨tb, b1, b2⟩ := hb
  obtain ⟨tc, c1, c2⟩ := hc
  exact ⟨_, pt_chain o1 o3 a1 b1 c1 hm, ev_test (ev_chain o2 o4 a2 b2 c2)⟩
end
end Z
set_option Elab.async false
set_option linter.all false
set_option maxRecDepth 100000
set_option maxHeartbeats 2000000
/-! Z: reckoning with plain functions -/
namespace Z
open PySem

/-! ### comprehensions over plain turns -/
theorem set_set' {α : Type} (l : List α) (i : Nat) (a b : α) : (l.set i a).set i b = l.set i b := by
  rw [List.set_set]
theorem lcLoop_pure {t : TX} {f : EX} {i : Nat} {c : PyData → Bool} {h : PyData → PyData} {Γ : Env} : ∀ (xs acc : List PyData) (Γ' : Env), Γ'.set i .no = Γ.set i .no →
    (∀ x ∈ xs, t (Γ.set i (.val x)) = some (c x, Γ.set i (.val x)) ∧ (c x = true → f (Γ.set i (.val x)) = some (h x, Γ.set i (.val x)))) → acc.length + xs.length ≤ 100000 →
    ∃ Γe, lcLoop (gxName i) t f [i] xs acc Γ' = some (acc ++ (xs.filter c).map h, Γe) ∧ Γe.set i .no = Γ.set i .no
  | [], acc, Γ', e, _, _ => ⟨Γ', by simp [lcLoop], e⟩
  | x :: xs, acc, Γ', e, hx, hl => by
    obtain ⟨h1, h2⟩ := hx x List.mem_cons_self
    have eg : gxName i x (wipeE Γ' [i]) = some (Γ.set i (.val x)) := by
      show some (((wipeE Γ' []).set i .no).set i (.val x)) = _
      show some ((Γ'.set i .no).set i (.val x)) = _
      rw [e, set_set']
    have en : (Γ.set i (Slot.val x)).set i .no = Γ.set i .no := set_set' _ _ _ _
    have hl' : acc.length < 100000 := by simp at hl; omega
    cases hc : c x with
    | true =>
      rw [hc] at h1
      have h3 := h2 hc
      obtain ⟨Γe, g1, g2⟩ := lcLoop_pure (h := h) (c := c) xs (acc ++ [h x]) (Γ.set i (.val x)) en (fun y hy => hx y (List.mem_cons_of_mem _ hy)) (by simp at hl ⊢; omega)
      refine ⟨Γe, ?_, g2⟩
      unfold lcLoop
      rw [eg]
      simp only [Option.bind_some, h1, if_true, h3, if_pos hl', g1]
      simp [hc]
    | false =>
      rw [hc] at h1
      obtain ⟨Γe, g1, g2⟩ := lcLoop_pure (h := h) (c := c) xs acc (Γ.set i (.val x)) en (fun y hy => hx y (List.mem_cons_of_mem _ hy)) (by simp at hl ⊢; omega)
      refine ⟨Γe, ?_, g2⟩
      unfold lcLoop
      rw [eg]
      simp only [Option.bind_some, h1, g1]
      simp [hc]
theorem rest1 {Γ Γe : Env} {i : Nat} (e : Γe.set i .no = Γ.set i .no) : restE Γ Γe [i] = Γ := by
  show Γe.set i (Γ[i]?.getD .no) = Γ
  rw [← set_set' Γe i .no, e, set_set']
  cases h : Γ[i]? with
  | none =>
    have hl := List.getElem?_eq_none_iff.mp h
    exact List.set_eq_of_length_le hl
  | some s => exact set_same h
theorem nLc_pure {it : AX} {t : TX} {f : EX} {i : Nat} {Γ : Env} (xs : List PyData) (c : PyData → Bool) (h : PyData → PyData) (hit : it Γ = some (xs, Γ)) (hfr : freeE Γ [i] = true)
    (hx : ∀ x ∈ xs, t (Γ.set i (.val x)) = some (c x, Γ.set i (.val x)) ∧ (c x = true → f (Γ.set i (.val x)) = some (h x, Γ.set i (.val x)))) (hl : xs.length ≤ 100000) :
    nLc it (gxName i) t f [i] Γ = some (.own ((xs.filter c).map h), Γ) := by
  obtain ⟨Γe, g1, g2⟩ := lcLoop_pure (h := h) (c := c) xs [] Γ rfl hx (by simpa using hl)
  unfold nLc
  simp only [hit, Option.bind_some, hfr, if_true, g1, rest1 g2]
  simp
/-- without a test -/
theorem nLc_map {it : AX} {f : EX} {i : Nat} {Γ : Env} (xs : List PyData) (h : PyData → PyData) (hit : it Γ = some (xs, Γ)) (hfr : freeE Γ [i] = true)
    (hx : ∀ x ∈ xs, f (Γ.set i (.val x)) = some (h x, Γ.set i (.val x))) (hl : xs.length ≤ 100000) :
    nLc it (gxName i) tYesX f [i] Γ = some (.own (xs.map h), Γ) := by
  have := nLc_pure (t := tYesX) xs (fun _ => true) h hit hfr (fun x hx' => ⟨rfl, fun _ => hx x hx'⟩) hl
  rw [this, List.filter_eq_self.mpr (fun _ _ => rfl)]
/-- over ints -/
theorem nLc_ints {it : AX} {t : TX} {f : EX} {i : Nat} {Γ : Env} (ns : List Int) (c : Int → Bool) (h : Int → PyData) (hit : it Γ = some (ns.map .int, Γ)) (hfr : freeE Γ [i] = true)
    (hx : ∀ x ∈ ns, t (Γ.set i (.val (.int x))) = some (c x, Γ.set i (.val (.int x))) ∧ (c x = true → f (Γ.set i (.val (.int x))) = some (h x, Γ.set i (.val (.int x))))) (hl : ns.length ≤ 100000) :
    nLc it (gxName i) t f [i] Γ = some (.own ((ns.filter c).map h), Γ) := by
  have := nLc_pure (t := t) (f := f) (i := i) (ns.map .int) (fun d => match d with | .int x => c x | _ => false) (fun d => match d with | .int x => h x | _ => .none) hit hfr (fun x hx' => by
    obtain ⟨n, hn, rfl⟩ := List.mem_map.mp hx'
    exact hx n hn) (by simpa using hl)
  rw [this]
  rw [List.filter_map, List.map_map]
  rfl
theorem nLc_intsM {it : AX} {f : EX} {i : Nat} {Γ : Env} (ns : List Int) (h : Int → PyData) (hit : it Γ = some (ns.map .int, Γ)) (hfr : freeE Γ [i] = true)
    (hx : ∀ x ∈ ns, f (Γ.set i (.val (.int x))) = some (h x, Γ.set i (.val (.int x)))) (hl : ns.length ≤ 100000) :
    nLc it (gxName i) tYesX f [i] Γ = some (.own (ns.map h), Γ) := by
  have := nLc_ints (t := tYesX) ns (fun _ => true) h hit hfr (fun x hx' => ⟨rfl, fun _ => hx x hx'⟩) hl
  rw [this, List.filter_eq_self.mpr (fun _ _ => rfl)]
/-! ### loops -/
theorem forLoop_inv {g : PyData → Env → Option Env} {b : SX} (I : List PyData → Env → Prop) (xs : List PyData)
    (step : ∀ pre x post Γ, xs = pre ++ x :: post → I pre Γ → ∃ Γ1 Γ2, g x Γ = some Γ1 ∧ (b Γ1 = some (.nx Γ2) ∨ b Γ1 = some (.ct Γ2)) ∧ I (pre ++ [x]) Γ2) {Γ : Env} (h0 : I [] Γ) :
    ∃ Γ', forLoop g b xs Γ = some (.nx Γ') ∧ I xs Γ' := by
  have all : ∀ (post pre : List PyData) (Γ : Env), xs = pre ++ post → I pre Γ → ∃ Γ', forLoop g b post Γ = some (.nx Γ') ∧ I xs Γ' := by
    intro post
    induction post with
    | nil => intro pre Γ e h; rw [List.append_nil] at e; subst e; exact ⟨Γ, rfl, h⟩
    | cons x post ih =>
      intro pre Γ e h
      obtain ⟨Γ1, Γ2, h1, h2, h3⟩ := step pre x post Γ e h
      obtain ⟨Γ', g1, g2⟩ := ih (pre ++ [x]) Γ2 (by rw [e]; simp) h3
      refine ⟨Γ', ?_, g2⟩
      unfold forLoop
      rw [h1]
      rcases h2 with h2 | h2 <;> simp only [Option.bind_some, h2, g1]
  exact all xs [] Γ rfl h0
/-- over ints, the state told by a function of what is taken -/
theorem forLoop_ints {g : PyData → Env → Option Env} {b : SX} (I : List Int → Env → Prop) (ns : List Int)
    (step : ∀ pre x post Γ, ns = pre ++ x :: post → I pre Γ → ∃ Γ1 Γ2, g (.int x) Γ = some Γ1 ∧ (b Γ1 = some (.nx Γ2) ∨ b Γ1 = some (.ct Γ2)) ∧ I (pre ++ [x]) Γ2) {Γ : Env} (h0 : I [] Γ) :
    ∃ Γ', forLoop g b (ns.map .int) Γ = some (.nx Γ') ∧ I ns Γ' := by
  have all : ∀ (post pre : List Int) (Γ : Env), ns = pre ++ post → I pre Γ → ∃ Γ', forLoop g b (post.map .int) Γ = some (.nx Γ') ∧ I ns Γ' := by
    intro post
    induction post with
    | nil => intro pre Γ e h; rw [List.append_nil] at e; subst e; exact ⟨Γ, rfl, h⟩
    | cons x post ih =>
      intro pre Γ e h
      obtain ⟨Γ1, Γ2, h1, h2, h3⟩ := step pre x post Γ e h
      obtain ⟨Γ', g1, g2⟩ := ih (pre ++ [x]) Γ2 (by rw [e]; simp) h3
      refine ⟨Γ', ?_, g2⟩
      show forLoop g b (.int x :: post.map .int) Γ = _
      unfold forLoop
      rw [h1]
      rcases h2 with h2 | h2 <;> simp only [Option.bind_some, h2, g1]
  exact all ns [] Γ rfl h0

/-! ### the rules of reckoning -/
section
variable {Γ : Env} {d : PyData} {p p' : PyData → PyData → Option PyData} {f g k : EX} {a b : AX} {t u : TX} {s r : SX} {n m : NX} {i j : Nat}
@[simp] theorem z_c : eC d Γ = some (d, Γ) := rfl
@[simp] theorem z_op : eOp p f g Γ = (f Γ).bind fun x => (g x.2).bind fun y => (p x.1 y.1).bind fun z => some (z, y.2) := rfl
@[simp] theorem z_un {p : PyData → Option PyData} : eUn p f Γ = (f Γ).bind fun x => (p x.1).bind fun z => some (z, x.2) := rfl
@[simp] theorem z_anil : aNil Γ = some ([], Γ) := rfl
@[simp] theorem z_acons : aCons f a Γ = (f Γ).bind fun x => (a x.2).bind fun y => some (x.1 :: y.1, y.2) := rfl
@[simp] theorem z_tup : eTup a Γ = (a Γ).bind fun x => if x.1.length ≤ 100000 then some (.tuple x.1, x.2) else none := rfl
@[simp] theorem z_lst : eLst a Γ = (a Γ).bind fun x => if x.1.length ≤ 100000 then some (.list x.1, x.2) else none := rfl
@[simp] theorem z_call {p : List PyData → Option PyData} : eCall p a Γ = (a Γ).bind fun x => (p x.1).bind fun z => some (z, x.2) := rfl
@[simp] theorem z_tof : tOf f Γ = (f Γ).bind fun x => match x.1 with | .bool c => some (c, x.2) | _ => none := rfl
@[simp] theorem z_ttru : tTruX f Γ = (f Γ).bind fun x => (truD x.1).bind fun b => some (b, x.2) := rfl
@[simp] theorem z_tnot : tNotX t Γ = (t Γ).bind fun x => some (!x.1, x.2) := rfl
@[simp] theorem z_tand : tAndX t u Γ = (t Γ).bind fun x => if x.1 = true then u x.2 else some (false, x.2) := rfl
@[simp] theorem z_tor : tOrX t u Γ = (t Γ).bind fun x => if x.1 = true then some (true, x.2) else u x.2 := rfl
@[simp] theorem z_eand : eAnd f g Γ = (f Γ).bind fun x => match x.1 with | .bool true => g x.2 | .bool false => some (.bool false, x.2) | _ => none := rfl
@[simp] theorem z_eor : eOr f g Γ = (f Γ).bind fun x => match x.1 with | .bool true => some (.bool true, x.2) | .bool false => g x.2 | _ => none := rfl
@[simp] theorem z_enot : eNot f Γ = (f Γ).bind fun x => match x.1 with | .bool c => some (.bool (!c), x.2) | _ => none := rfl
@[simp] theorem z_eif : eIf t f g Γ = (t Γ).bind fun x => if x.1 = true then f x.2 else g x.2 := rfl
@[simp] theorem z_chain : eChain p p' f g k Γ = (f Γ).bind fun x => (g x.2).bind fun y => (p x.1 y.1).bind fun z => match z with | .bool true => (k y.2).bind fun w => (p' y.1 w.1).bind fun u => some (u, w.2) | .bool false => some (.bool false, y.2) | _ => none := rfl
@[simp] theorem z_nval : nVal f Γ = (f Γ).bind fun x => some (.val x.1, x.2) := rfl
@[simp] theorem z_nown : nOwn n Γ = (n Γ).bind fun x => match x.1 with | .own ds => some (.list ds, x.2) | .val d => some (d, x.2) | _ => none := rfl
@[simp] theorem z_nlst : nLst a Γ = (a Γ).bind fun x => if x.1.length ≤ 100000 then some (.own x.1, x.2) else none := rfl
@[simp] theorem z_ncall {p : List PyData → Option (List PyData)} : nCallL p a Γ = (a Γ).bind fun x => (p x.1).bind fun z => some (.own z, x.2) := rfl
@[simp] theorem z_next : sNext Γ = some (.nx Γ) := rfl
@[simp] theorem z_seq : sSeq s r Γ = (s Γ).bind fun o => match o with | .nx Γ1 => r Γ1 | .rt x Γ1 => some (.rt x Γ1) | .bk Γ1 => some (.bk Γ1) | .ct Γ1 => some (.ct Γ1) | .rl ds Γ1 => some (.rl ds Γ1) := rfl
@[simp] theorem z_if : sIf t s r Γ = (t Γ).bind fun x => if x.1 = true then s x.2 else r x.2 := rfl
@[simp] theorem z_ret : sRet f Γ = (f Γ).bind fun x => some (.rt x.1 x.2) := rfl
@[simp] theorem z_retn : sRetN Γ = some (.rt .none Γ) := rfl
@[simp] theorem z_retl : sRetL n Γ = (n Γ).bind fun x => match x.1 with | .own ds => some (.rl ds x.2) | _ => none := rfl
@[simp] theorem z_break : sBreak Γ = some (.bk Γ) := rfl
@[simp] theorem z_cont : sCont Γ = some (.ct Γ) := rfl
@[simp] theorem z_drop : sDrop f Γ = (f Γ).bind fun x => some (.nx x.2) := rfl
@[simp] theorem z_set : sSet i n Γ = (n Γ).bind fun x => some (.nx (x.2.set i x.1)) := rfl
@[simp] theorem z_par : sPar i j n m Γ = (n Γ).bind fun x => (m x.2).bind fun y => some (.nx ((y.2.set i x.1).set j y.1)) := rfl
@[simp] theorem z_asg {gx : PyData → Env → Option Env} : sAsg f gx Γ = (f Γ).bind fun x => (gx x.1 x.2).bind fun Γ1 => some (.nx Γ1) := rfl
@[simp] theorem z_store : sStore i k f Γ = (f Γ).bind fun x => (ownAt x.2 i).bind fun _ => (k x.2).bind fun y => match y.1 with | .int z => (ownAt y.2 i).bind fun ds => (L2.ixN ds.length z).bind fun j => some (.nx (ownSet y.2 i (ds.set j x.1))) | _ => none := rfl
@[simp] theorem z_app : sApp i f Γ = (ownAt Γ i).bind fun _ => (f Γ).bind fun x => (ownAt x.2 i).bind fun ds => if ds.length < 100000 then some (.nx (ownSet x.2 i (ds ++ [x.1]))) else none := rfl
@[simp] theorem z_ins : sIns i k f Γ = (ownAt Γ i).bind fun _ => (k Γ).bind fun y => (f y.2).bind fun x => match y.1 with | .int z => (ownAt x.2 i).bind fun ds => if ds.length < 100000 ∧ 0 ≤ z ∧ z < 100000 then some (.nx (ownSet x.2 i (ds.take z.toNat ++ [x.1] ++ ds.drop z.toNat))) else none | _ => none := rfl
@[simp] theorem z_for {it : AX} {gx : PyData → Env → Option Env} : sFor it gx s Γ = (it Γ).bind fun x => forLoop gx s x.1 x.2 := rfl
@[simp] theorem z_gname : gxName i d Γ = some (Γ.set i (.val d)) := rfl
@[simp] theorem z_gnil : gxNil [] Γ = some Γ := rfl
@[simp] theorem z_gcons {gx : PyData → Env → Option Env} {kx : List PyData → Env → Option Env} {ds : List PyData} : gxCons gx kx (d :: ds) Γ = (gx d Γ).bind fun Γ1 => kx ds Γ1 := rfl
@[simp] theorem z_gtup {kx : List PyData → Env → Option Env} {ds : List PyData} {n : Nat} : gxTup n kx (.tuple ds) Γ = if ds.length = n then kx ds Γ else none := rfl
@[simp] theorem z_callm {p : List PyData → List PyData → Option (PyData × List PyData)} : eCallM i p a Γ = (ownAt Γ i).bind fun _ => (a Γ).bind fun x => (ownAt x.2 i).bind fun cs => (p cs x.1).bind fun z => some (z.1, ownSet x.2 i z.2) := rfl
@[simp] theorem z_callk {p : List PyData → Option PyData} {np : Nat} {perm : List Nat} : eCallK p np perm a b Γ = (a Γ).bind fun x => (b x.2).bind fun y => (p (gK np perm x.1 y.1)).bind fun z => some (z, y.2) := rfl
@[simp] theorem z_lr {f : RX} : eLR f Γ = (f Γ).bind fun x => some (.list (x.1.map .int), x.2) := rfl
@[simp] theorem z_tr {f : RX} : eTR f Γ = (f Γ).bind fun x => some (.tuple (x.1.map .int), x.2) := rfl
@[simp] theorem z_rx : rxOf a Γ = (a Γ).bind fun x => (rangeOf x.1).bind fun ns => some (ns, x.2) := rfl
@[simp] theorem z_itrange : itRange a Γ = (a Γ).bind fun x => (rangeOf x.1).bind fun ns => some (ns.map .int, x.2) := rfl
@[simp] theorem z_itseq : itSeq f Γ = (f Γ).bind fun x => (seqOf x.1).bind fun xs => some (xs, x.2) := rfl
@[simp] theorem z_itenum : itEnum f Γ = (f Γ).bind fun x => (seqOf x.1).bind fun xs => some (enumFrom 0 xs, x.2) := rfl
@[simp] theorem z_osome : oSome f Γ = (f Γ).bind fun x => match x.1 with | .int i => some (some i, x.2) | _ => none := rfl
@[simp] theorem z_onone : oNone Γ = some (none, Γ) := rfl
@[simp] theorem z_sl {p : PyData → Option Int → Option Int → Option PyData} {l u : OX} : eSl p f l u Γ = (f Γ).bind fun x => (l x.2).bind fun a => (u a.2).bind fun b => (p x.1 a.1 b.1).bind fun z => some (z, b.2) := rfl
@[simp] theorem z_var : eVar i Γ = match (Γ[i]? : Option Slot) with | some (.val d) => some (d, Γ) | some (.own ds) => some (.list ds, Γ.set i (.val (.list ds))) | _ => none := rfl
@[simp] theorem z_lenv : eLenV i Γ = match (Γ[i]? : Option Slot) with | some (.val d) => (pLen [d]).bind fun z => some (z, Γ) | some (.own ds) => some (.int ds.length, Γ) | some (.par ds) => some (.int ds.length, Γ) | _ => none := rfl
@[simp] theorem z_ixv : eIxV i g Γ = match (Γ[i]? : Option Slot) with
  | some .no => none
  | none => none
  | some _ => (g Γ).bind fun y => match (y.2[i]? : Option Slot) with
    | some (.val d) => (pIx d y.1).bind fun z => some (z, y.2)
    | some (.own ds) => (pIx (.list ds) y.1).bind fun z => some (z, y.2)
    | some (.par ds) => (pIx (.list ds) y.1).bind fun z => some (z, y.2)
    | _ => none := by
  unfold eIxV
  rfl
@[simp] theorem z_ownat : ownAt Γ i = match (Γ[i]? : Option Slot) with | some (.own ds) => some ds | some (.par ds) => some ds | _ => none := rfl
@[simp] theorem z_ownset {es : List PyData} : ownSet Γ i es = match (Γ[i]? : Option Slot) with | some (.own _) => Γ.set i (.own es) | some (.par _) => Γ.set i (.par es) | _ => Γ := rfl
@[simp] theorem z_par0 : parOf Γ = match (Γ[0]? : Option Slot) with | some (.par cs) => some cs | _ => none := rfl
end
section
variable {i j : Int} {xs ys : List PyData}
@[simp] theorem z_add : pAdd (.int i) (.int j) = some (.int (i + j)) := rfl
@[simp] theorem z_addT : pAdd (.tuple xs) (.tuple ys) = if xs.length + ys.length ≤ 100000 then some (.tuple (xs ++ ys)) else none := rfl
@[simp] theorem z_addL : pAdd (.list xs) (.list ys) = if xs.length + ys.length ≤ 100000 then some (.list (xs ++ ys)) else none := rfl
@[simp] theorem z_sub : pSub (.int i) (.int j) = some (.int (i - j)) := rfl
@[simp] theorem z_mul : pMul (.int i) (.int j) = if i.natAbs.log2 + j.natAbs.log2 < 1000000 then some (.int (i * j)) else none := rfl
@[simp] theorem z_fdiv : pFdiv (.int i) (.int j) = if 0 < j ∧ j.natAbs.log2 < 9000 then some (.int (i / j)) else none := rfl
@[simp] theorem z_mod : pMod (.int i) (.int j) = if 0 < j then some (.int (i % j)) else none := rfl
@[simp] theorem z_pow : pPow (.int i) (.int j) = if 0 ≤ j ∧ j ≤ 1000000 ∧ i.natAbs < 2 ^ 64 then some (.int (i ^ j.toNat)) else none := rfl
@[simp] theorem z_neg : pNeg (.int i) = some (.int (-i)) := rfl
@[simp] theorem z_lt : pLt (.int i) (.int j) = some (.bool (decide (i < j))) := rfl
@[simp] theorem z_le : pLe (.int i) (.int j) = some (.bool (decide (i ≤ j))) := rfl
@[simp] theorem z_gt : pGt (.int i) (.int j) = some (.bool (decide (j < i))) := rfl
@[simp] theorem z_ge : pGe (.int i) (.int j) = some (.bool (decide (j ≤ i))) := rfl
theorem sh_int : SeqAt.shaped (.int i) = true := rfl
theorem eqv_int : PyData.eqv (.int i) (.int j) = decide (i = j) := by
  show (i == j) = _
  by_cases h : i = j <;> simp [h]
@[simp] theorem z_eq : pEq (.int i) (.int j) = some (.bool (decide (i = j))) := by
  unfold pEq; rw [if_pos ⟨sh_int, sh_int⟩, eqv_int]
@[simp] theorem z_ne : pNe (.int i) (.int j) = some (.bool (!decide (i = j))) := by
  unfold pNe; rw [if_pos ⟨sh_int, sh_int⟩, eqv_int]
@[simp] theorem z_eqB {a b : Bool} : pEq (.bool a) (.bool b) = some (.bool (a == b)) := rfl
@[simp] theorem z_neB {a b : Bool} : pNe (.bool a) (.bool b) = some (.bool (!(a == b))) := rfl
@[simp] theorem z_is {d : PyData} : pIs d .none = some (.bool (isNone d)) := by cases d <;> rfl
@[simp] theorem z_isnot {d : PyData} : pIsNot d .none = some (.bool (!isNone d)) := by cases d <;> rfl
@[simp] theorem z_pint : pInt [.int i] = some (.int i) := rfl
@[simp] theorem z_plenL : pLen [.list xs] = some (.int xs.length) := rfl
@[simp] theorem z_plenT : pLen [.tuple xs] = some (.int xs.length) := rfl
@[simp] theorem z_ptupL : pTuple [.list xs] = some (.tuple xs) := rfl
@[simp] theorem z_ptupT : pTuple [.tuple xs] = some (.tuple xs) := rfl
@[simp] theorem z_plistL : pList [.list xs] = some (.list xs) := rfl
@[simp] theorem z_plistT : pList [.tuple xs] = some (.list xs) := rfl
@[simp] theorem z_max2 : pMax2 [.int i, .int j] = some (.int (if j > i then j else i)) := rfl
@[simp] theorem z_min2 : pMin2 [.int i, .int j] = some (.int (if j < i then j else i)) := rfl
@[simp] theorem z_rev : pRev (.tuple xs) = some (.tuple xs.reverse) := rfl
@[simp] theorem z_revL : pRev (.list xs) = some (.list xs.reverse) := rfl
@[simp] theorem z_seqL : seqOf (.list xs) = some xs := rfl
@[simp] theorem z_seqT : seqOf (.tuple xs) = some xs := rfl
@[simp] theorem z_truB {b : Bool} : truD (.bool b) = some b := rfl
@[simp] theorem z_ix {d : PyData} : pIx d (.int i) = (seqOf d).bind fun xs => (L2.ixN xs.length i).bind fun j => xs[j]? := rfl
@[simp] theorem z_slT {lo hi : Option Int} : pSl (.tuple xs) lo hi = some (.tuple (cutD xs lo hi)) := rfl
@[simp] theorem z_slL {lo hi : Option Int} : pSl (.list xs) lo hi = some (.list (cutD xs lo hi)) := rfl
@[simp] theorem z_intsOf {ns : List Int} : intsOf (ns.map PyData.int) = some ns := intsOf_map ns
end
theorem z_sortT {ns : List Int} : pSorted [.tuple (ns.map .int)] = some (.list ((srt ns).map .int)) := by simp [pSorted]
theorem z_sortL {ns : List Int} : pSorted [.list (ns.map .int)] = some (.list ((srt ns).map .int)) := by simp [pSorted]
theorem z_sumL {ns : List Int} : pSum [.list (ns.map .int)] = some (.int ns.sum) := by simp [pSum]
/-! isinstance -/
theorem kit_none_int : L2.kitB "NoneType" "int" = some false := by decide +kernel
@[simp] theorem isi_none_int : pIsi "int" .none = some (.bool false) := by
  show (L2.kitB "NoneType" "int").bind _ = _
  rw [kit_none_int]; rfl
theorem kit_bool_int : L2.kitB "bool" "int" = some true := by decide +kernel
@[simp] theorem isi_bool_int {b : Bool} : pIsi "int" (.bool b) = some (.bool true) := by
  show (L2.kitB "bool" "int").bind _ = _
  rw [kit_bool_int]; rfl
theorem kit_int_int : L2.kitB "int" "int" = some true := by decide +kernel
@[simp] theorem isi_int_int {i : Int} : pIsi "int" (.int i) = some (.bool true) := by
  show (L2.kitB "int" "int").bind _ = _
  rw [kit_int_int]; rfl
theorem kit_str_int : L2.kitB "str" "int" = some false := by decide +kernel
@[simp] theorem isi_str_int {x : Str} : pIsi "int" (.str x) = some (.bool false) := by
  show (L2.kitB "str" "int").bind _ = _
  rw [kit_str_int]; rfl
theorem kit_list_int : L2.kitB "list" "int" = some false := by decide +kernel
@[simp] theorem isi_list_int {xs : List PyData} : pIsi "int" (.list xs) = some (.bool false) := by
  show (L2.kitB "list" "int").bind _ = _
  rw [kit_list_int]; rfl
theorem kit_tuple_int : L2.kitB "tuple" "int" = some false := by decide +kernel
@[simp] theorem isi_tuple_int {xs : List PyData} : pIsi "int" (.tuple xs) = some (.bool false) := by
  show (L2.kitB "tuple" "int").bind _ = _
  rw [kit_tuple_int]; rfl
theorem kit_none_bool : L2.kitB "NoneType" "bool" = some false := by decide +kernel
@[simp] theorem isi_none_bool : pIsi "bool" .none = some (.bool false) := by
  show (L2.kitB "NoneType" "bool").bind _ = _
  rw [kit_none_bool]; rfl
theorem kit_bool_bool : L2.kitB "bool" "bool" = some true := by decide +kernel
@[simp] theorem isi_bool_bool {b : Bool} : pIsi "bool" (.bool b) = some (.bool true) := by
  show (L2.kitB "bool" "bool").bind _ = _
  rw [kit_bool_bool]; rfl
theorem kit_int_bool : L2.kitB "int" "bool" = some false := by decide +kernel
@[simp] theorem isi_int_bool {i : Int} : pIsi "bool" (.int i) = some (.bool false) := by
  show (L2.kitB "int" "bool").bind _ = _
  rw [kit_int_bool]; rfl
theorem kit_str_bool : L2.kitB "str" "bool" = some false := by decide +kernel
@[simp] theorem isi_str_bool {x : Str} : pIsi "bool" (.str x) = some (.bool false) := by
  show (L2.kitB "str" "bool").bind _ = _
  rw [kit_str_bool]; rfl
theorem kit_list_bool : L2.kitB "list" "bool" = some false := by decide +kernel
@[simp] theorem isi_list_bool {xs : List PyData} : pIsi "bool" (.list xs) = some (.bool false) := by
  show (L2.kitB "list" "bool").bind _ = _
  rw [kit_list_bool]; rfl
theorem kit_tuple_bool : L2.kitB "tuple" "bool" = some false := by decide +kernel
@[simp] theorem isi_tuple_bool {xs : List PyData} : pIsi "bool" (.tuple xs) = some (.bool false) := by
  show (L2.kitB "tuple" "bool").bind _ = _
  rw [kit_tuple_bool]; rfl
theorem kit_none_str : L2.kitB "NoneType" "str" = some false := by decide +kernel
@[simp] theorem isi_none_str : pIsi "str" .none = some (.bool false) := by
  show (L2.kitB "NoneType" "str").bind _ = _
  rw [kit_none_str]; rfl
theorem kit_bool_str : L2.kitB "bool" "str" = some false := by decide +kernel
@[simp] theorem isi_bool_str {b : Bool} : pIsi "str" (.bool b) = some (.bool false) := by
  show (L2.kitB "bool" "str").bind _ = _
  rw [kit_bool_str]; rfl
theorem kit_int_str : L2.kitB "int" "str" = some false := by decide +kernel
@[simp] theorem isi_int_str {i : Int} : pIsi "str" (.int i) = some (.bool false) := by
  show (L2.kitB "int" "str").bind _ = _
  rw [kit_int_str]; rfl
theorem kit_str_str : L2.kitB "str" "str" = some true := by decide +kernel
@[simp] theorem isi_str_str {x : Str} : pIsi "str" (.str x) = some (.bool true) := by
  show (L2.kitB "str" "str").bind _ = _
  rw [kit_str_str]; rfl
theorem kit_list_str : L2.kitB "list" "str" = some false := by decide +kernel
@[simp] theorem isi_list_str {xs : List PyData} : pIsi "str" (.list xs) = some (.bool false) := by
  show (L2.kitB "list" "str").bind _ = _
  rw [kit_list_str]; rfl
theorem kit_tuple_str : L2.kitB "tuple" "str" = some false := by decide +kernel
@[simp] theorem isi_tuple_str {xs : List PyData} : pIsi "str" (.tuple xs) = some (.bool false) := by
  show (L2.kitB "tuple" "str").bind _ = _
  rw [kit_tuple_str]; rfl
theorem kit_none_list : L2.kitB "NoneType" "list" = some false := by decide +kernel
@[simp] theorem isi_none_list : pIsi "list" .none = some (.bool false) := by
  show (L2.kitB "NoneType" "list").bind _ = _
  rw [kit_none_list]; rfl
theorem kit_bool_list : L2.kitB "bool" "list" = some false := by decide +kernel
@[simp] theorem isi_bool_list {b : Bool} : pIsi "list" (.bool b) = some (.bool false) := by
  show (L2.kitB "bool" "list").bind _ = _
  rw [kit_bool_list]; rfl
theorem kit_int_list : L2.kitB "int" "list" = some false := by decide +kernel
@[simp] theorem isi_int_list {i : Int} : pIsi "list" (.int i) = some (.bool false) := by
  show (L2.kitB "int" "list").bind _ = _
  rw [kit_int_list]; rfl
theorem kit_str_list : L2.kitB "str" "list" = some false := by decide +kernel
@[simp] theorem isi_str_list {x : Str} : pIsi "list" (.str x) = some (.bool false) := by
  show (L2.kitB "str" "list").bind _ = _
  rw [kit_str_list]; rfl
theorem kit_list_list : L2.kitB "list" "list" = some true := by decide +kernel
@[simp] theorem isi_list_list {xs : List PyData} : pIsi "list" (.list xs) = some (.bool true) := by
  show (L2.kitB "list" "list").bind _ = _
  rw [kit_list_list]; rfl
theorem kit_tuple_list : L2.kitB "tuple" "list" = some false := by decide +kernel
@[simp] theorem isi_tuple_list {xs : List PyData} : pIsi "list" (.tuple xs) = some (.bool false) := by
  show (L2.kitB "tuple" "list").bind _ = _
  rw [kit_tuple_list]; rfl
theorem kit_none_tuple : L2.kitB "NoneType" "tuple" = some false := by decide +kernel
@[simp] theorem isi_none_tuple : pIsi "tuple" .none = some (.bool false) := by
  show (L2.kitB "NoneType" "tuple").bind _ = _
  rw [kit_none_tuple]; rfl
theorem kit_bool_tuple : L2.kitB "bool" "tuple" = some false := by decide +kernel
@[simp] theorem isi_bool_tuple {b : Bool} : pIsi "tuple" (.bool b) = some (.bool false) := by
  show (L2.kitB "bool" "tuple").bind _ = _
  rw [kit_bool_tuple]; rfl
theorem kit_int_tuple : L2.kitB "int" "tuple" = some false := by decide +kernel
@[simp] theorem isi_int_tuple {i : Int} : pIsi "tuple" (.int i) = some (.bool false) := by
  show (L2.kitB "int" "tuple").bind _ = _
  rw [kit_int_tuple]; rfl
theorem kit_str_tuple : L2.kitB "str" "tuple" = some false := by decide +kernel
@[simp] theorem isi_str_tuple {x : Str} : pIsi "tuple" (.str x) = some (.bool false) := by
  show (L2.kitB "str" "tuple").bind _ = _
  rw [kit_str_tuple]; rfl
theorem kit_list_tuple : L2.kitB "list" "tuple" = some false := by decide +kernel
@[simp] theorem isi_list_tuple {xs : List PyData} : pIsi "tuple" (.list xs) = some (.bool false) := by
  show (L2.kitB "list" "tuple").bind _ = _
  rw [kit_list_tuple]; rfl
theorem kit_tuple_tuple : L2.kitB "tuple" "tuple" = some true := by decide +kernel
@[simp] theorem isi_tuple_tuple {xs : List PyData} : pIsi "tuple" (.tuple xs) = some (.bool true) := by
  show (L2.kitB "tuple" "tuple").bind _ = _
  rw [kit_tuple_tuple]; rfl
@[simp] theorem isi2_none_tuple_list : pIsi2 "tuple" "list" .none = some (.bool false) := by
  show (L2.kitB "NoneType" "tuple").bind (fun b => (L2.kitB "NoneType" "list").bind fun c => some (PyData.bool (b || c))) = _
  rw [kit_none_tuple, kit_none_list]; rfl
@[simp] theorem isi2_bool_tuple_list {b : Bool} : pIsi2 "tuple" "list" (.bool b) = some (.bool false) := by
  show (L2.kitB "bool" "tuple").bind (fun b => (L2.kitB "bool" "list").bind fun c => some (PyData.bool (b || c))) = _
  rw [kit_bool_tuple, kit_bool_list]; rfl
@[simp] theorem isi2_int_tuple_list {i : Int} : pIsi2 "tuple" "list" (.int i) = some (.bool false) := by
  show (L2.kitB "int" "tuple").bind (fun b => (L2.kitB "int" "list").bind fun c => some (PyData.bool (b || c))) = _
  rw [kit_int_tuple, kit_int_list]; rfl
@[simp] theorem isi2_str_tuple_list {x : Str} : pIsi2 "tuple" "list" (.str x) = some (.bool false) := by
  show (L2.kitB "str" "tuple").bind (fun b => (L2.kitB "str" "list").bind fun c => some (PyData.bool (b || c))) = _
  rw [kit_str_tuple, kit_str_list]; rfl
@[simp] theorem isi2_list_tuple_list {xs : List PyData} : pIsi2 "tuple" "list" (.list xs) = some (.bool true) := by
  show (L2.kitB "list" "tuple").bind (fun b => (L2.kitB "list" "list").bind fun c => some (PyData.bool (b || c))) = _
  rw [kit_list_tuple, kit_list_list]; rfl
@[simp] theorem isi2_tuple_tuple_list {xs : List PyData} : pIsi2 "tuple" "list" (.tuple xs) = some (.bool true) := by
  show (L2.kitB "tuple" "tuple").bind (fun b => (L2.kitB "tuple" "list").bind fun c => some (PyData.bool (b || c))) = _
  rw [kit_tuple_tuple, kit_tuple_list]; rfl
@[simp] theorem isi2_none_list_tuple : pIsi2 "list" "tuple" .none = some (.bool false) := by
  show (L2.kitB "NoneType" "list").bind (fun b => (L2.kitB "NoneType" "tuple").bind fun c => some (PyData.bool (b || c))) = _
  rw [kit_none_list, kit_none_tuple]; rfl
@[simp] theorem isi2_bool_list_tuple {b : Bool} : pIsi2 "list" "tuple" (.bool b) = some (.bool false) := by
  show (L2.kitB "bool" "list").bind (fun b => (L2.kitB "bool" "tuple").bind fun c => some (PyData.bool (b || c))) = _
  rw [kit_bool_list, kit_bool_tuple]; rfl
@[simp] theorem isi2_int_list_tuple {i : Int} : pIsi2 "list" "tuple" (.int i) = some (.bool false) := by
  show (L2.kitB "int" "list").bind (fun b => (L2.kitB "int" "tuple").bind fun c => some (PyData.bool (b || c))) = _
  rw [kit_int_list, kit_int_tuple]; rfl
@[simp] theorem isi2_str_list_tuple {x : Str} : pIsi2 "list" "tuple" (.str x) = some (.bool false) := by
  show (L2.kitB "str" "list").bind (fun b => (L2.kitB "str" "tuple").bind fun c => some (PyData.bool (b || c))) = _
  rw [kit_str_list, kit_str_tuple]; rfl
@[simp] theorem isi2_list_list_tuple {xs : List PyData} : pIsi2 "list" "tuple" (.list xs) = some (.bool true) := by
  show (L2.kitB "list" "list").bind (fun b => (L2.kitB "list" "tuple").bind fun c => some (PyData.bool (b || c))) = _
  rw [kit_list_list, kit_list_tuple]; rfl
@[simp] theorem isi2_tuple_list_tuple {xs : List PyData} : pIsi2 "list" "tuple" (.tuple xs) = some (.bool true) := by
  show (L2.kitB "tuple" "list").bind (fun b => (L2.kitB "tuple" "tuple").bind fun c => some (PyData.bool (b || c))) = _
  rw [kit_tuple_list, kit_tuple_tuple]; rfl
end Z
set_option Elab.async false
set_option linter.all false
set_option maxRecDepth 100000
set_option maxHeartbeats 2000000
/-! Z: a reading that only looks at own lists; names of the module that hold constants -/
namespace Z
open PySem L2 Evl PyProof.Rows

/-! ### looking at own lists without giving them up -/
def flatP : PyData → Bool
  | .none => true
  | .bool _ => true
  | .int _ => true
  | .str _ => true
  | _ => false
def Slot.shown : Slot → Slot
  | .own ds => .val (.list ds)
  | .par ds => .val (.list ds)
  | .od _ => .no
  | s => s
def Slot.isLst : Slot → Bool
  | .own _ => true
  | .par _ => true
  | _ => false
def eBor (f : EX) : EX := fun Γ => (f (Γ.map Slot.shown)).bind fun x => if flatP x.1 = true then some (x.1, Γ) else none
theorem dp_flat {K : PySem.W.Frag} {F F' : Hp} {v : V} {d : PyData} (h : Dp K F v d) (hf : flatP d = true) : Dp K F' v d := by
  cases h with
  | non => exact .non
  | bl b => exact .bl b
  | int i => exact .int i
  | str x => exact .str x
  | lst _ _ => cases hf
  | tup _ _ => cases hf
section
variable {K : PySem.W.Frag} {B : Bs} {Γ : Env} {F H : Hp} {σ : L2.St}
open Classical in
/-- what is known, and the own lists -/
noncomputable def allF (Γ : Env) (F H : Hp) (σ : L2.St) : Hp := fun b => if ∃ (i : Nat) (s : Slot), Γ[i]? = some s ∧ s.isLst = true ∧ σ[i]? = some (some (V.ref b)) then H b else F b
theorem own_at (R : Rel K B Γ F σ H) {i : Nat} {s : Slot} (h : Γ[i]? = some s) (ho : s.isLst = true) : ∃ a vs ds, σ[i]? = some (some (V.ref a)) ∧ F a = none ∧ H a = some (.lst vs) ∧ DpAll K F vs ds ∧ s.shown = .val (.list ds) := by
  have q := R.slot i s h
  cases s with
  | no => cases ho
  | val d => cases ho
  | dic kvs => cases ho
  | fd kvs => cases ho
  | own ds => obtain ⟨a, vs, e, h1, h2, h3, h4⟩ := q; exact ⟨a, vs, ds, e, h1, h3, h4, rfl⟩
  | od kvs => cases ho
  | par ds => obtain ⟨a, vs, e, h1, h2, h3, h4⟩ := q; exact ⟨a, vs, ds, e, h1, h3, h4, rfl⟩
theorem Rel.shown (R : Rel K B Γ F σ H) : Rel K ⟨allF Γ F H σ, H, fun _ => False, fun _ => False⟩ (Γ.map Slot.shown) (allF Γ F H σ) σ H := by
  have exF : Ex F (allF Γ F H σ) := fun b o h => by
    unfold allF
    split
    · exact R.ext b o h
    · exact h
  have exH : Ex (allF Γ F H σ) H := fun b o h => by
    unfold allF at h
    split at h
    · exact h
    · exact R.ext b o h
  refine ⟨by rw [List.length_map]; exact R.len, fun i s h => ?_, fun i j s t a hij h1 h2 => ?_, Ex.refl _, exH, fun b o h _ _ => h, fun b o h => .inl h, fun b o h => ?_, fun b h => h⟩
  · rw [List.getElem?_map] at h
    obtain ⟨s0, h0, rfl⟩ := Option.map_eq_some_iff.mp h
    by_cases ho : s0.isLst = true
    · obtain ⟨a, vs, ds, e, h1, h2, h3, h4⟩ := own_at R h0 ho
      rw [h4]
      refine ⟨_, e, .lst (sq_of ?_) (dpa_mono exF h3)⟩
      unfold allF
      rw [if_pos ⟨i, s0, h0, ho, e⟩]
      exact h2
    · have q := R.slot i s0 h0
      cases s0 with
      | no => exact trivial
      | val d => obtain ⟨v, e, d1⟩ := q; exact ⟨v, e, dp_mono exF d1⟩
      | dic kvs => obtain ⟨a, ws, e, h1, h2⟩ := q; exact ⟨a, ws, e, exF _ _ h1, kva_mono exF h2⟩
      | fd kvs => obtain ⟨a, ws, e, h1, h2⟩ := q; exact ⟨a, ws, e, exF _ _ h1, od_mono exF h2⟩
      | own ds => exact absurd rfl ho
      | od kvs => exact trivial
      | par ds => exact absurd rfl ho
  · rw [List.getElem?_map] at h1
    obtain ⟨s0, h0, rfl⟩ := Option.map_eq_some_iff.mp h1
    cases s0 <;> cases h2
  · unfold allF at h
    split at h
    · rename_i hc
      obtain ⟨i, s, h0, ho, e⟩ := hc
      obtain ⟨a, vs, ds, e', h1, h2, h3, h4⟩ := own_at R h0 ho
      rw [e] at e'; cases e'
      rw [h2] at h; cases h; trivial
    · exact R.pl b o h
theorem Rel.after (R : Rel K B Γ F σ H) {H' : Hp} (keep : ∀ b o, H b = some o → H' b = some o) : Rel K B Γ F σ H' := by
  refine ⟨R.len, fun i s h => ?_, R.dist, R.ext0, fun b o h => keep b o (R.ext b o h), fun b o h h1 h2 => keep b o (R.frame b o h h1 h2), R.newF, R.pl, fun b h => R.fresh b ?_⟩
  · have q := R.slot i s h
    cases s with
    | no => exact trivial
    | val d => exact q
    | dic kvs => exact q
    | fd kvs => exact q
    | own ds => obtain ⟨a, vs, e, h1, h2, h3, h4⟩ := q; exact ⟨a, vs, e, h1, h2, keep _ _ h3, h4⟩
    | od kvs => obtain ⟨a, vs, e, h1, h2, h3, h4⟩ := q; exact ⟨a, vs, e, h1, h2, keep _ _ h3, h4⟩
    | par ds => obtain ⟨a, vs, e, h1, h2, h3, h4⟩ := q; exact ⟨a, vs, e, h1, h2, keep _ _ h3, h4⟩
  · cases q : H b with
    | none => rfl
    | some o => rw [keep b o q] at h; cases h
theorem ev_bor {te : TE} {f : EX} (he : EvE K te f) : EvE K te (eBor f) := by
  intro B Γ F σ H r Γ' R h Q q
  obtain ⟨⟨x, Γ1⟩, e1, h⟩ := bind_eq h
  split at h
  · rename_i hf
    cases h
    refine he _ _ _ σ H x Γ1 R.shown e1 Q fun v F' H' ex R' d => ?_
    exact q v F H' (Ex.refl F) (R.after fun b o h => R'.frame b o h (fun z => z) (fun z => z)) (dp_flat d hf)
  · cases h
end
section
variable {X : Cx} {e : Expr} {f : EX} {pos : Pos}
theorem ep_bor (he : EP X e f) : EP X e (eBor f) := by
  obtain ⟨te, h1, h2⟩ := he
  exact ⟨te, h1, ev_bor h2⟩
@[simp] theorem z_bor {Γ : Env} : eBor f Γ = (f (Γ.map Slot.shown)).bind fun x => if flatP x.1 = true then some (x.1, Γ) else none := rfl
@[simp] theorem sh_no : Slot.shown .no = .no := rfl
@[simp] theorem sh_val {d : PyData} : Slot.shown (.val d) = .val d := rfl
@[simp] theorem sh_own {ds : List PyData} : Slot.shown (.own ds) = .val (.list ds) := rfl
@[simp] theorem sh_par {ds : List PyData} : Slot.shown (.par ds) = .val (.list ds) := rfl
@[simp] theorem fl_int {i : Int} : flatP (.int i) = true := rfl
@[simp] theorem fl_bool {b : Bool} : flatP (.bool b) = true := rfl
@[simp] theorem fl_none : flatP .none = true := rfl
@[simp] theorem fl_str {x : Str} : flatP (.str x) = true := rfl
/-! ### constants of the module -/
/-- a name of the module that holds a datum -/
def Gv (K : PySem.W.Frag) (mg : Str → Option Value) (x : Str) (d : PyData) : Prop := ∃ (v : V) (u : Value), mg x = some u ∧ RelV v u ∧ ∀ F, Dp K F v d
theorem ep_g {x : Str} {d : PyData} (G : Gv X.K X.mg x d) (hg : Gl X x := by rfl) (hn : x ≠ "__name__" := by decide) (hdb : (x == ("__debug__" : Str)) = false := by decide) : EP X (.Name x pos) (eC d) := by
  obtain ⟨v, u, h1, h2, h3⟩ := G
  exact ⟨_, pe_glob hg h1 h2 (hd := hdb), ev_c h3⟩
end
end Z
set_option Elab.async false
set_option linter.all false
set_option maxRecDepth 100000
set_option maxHeartbeats 2000000
/-! Z: pop; new lists of one's own out of ranges, slices, sums; powers of greater numbers; texts compared -/
namespace Z
open PySem L2 Evl PyProof.Rows

theorem dpa_erase {K : PySem.W.Frag} {F : Hp} : ∀ {vs : List V} {ds : List PyData} (i : Nat), DpAll K F vs ds → DpAll K F (vs.eraseIdx i) (ds.eraseIdx i)
  | _, _, _, .nil => .nil
  | _, _, 0, .cons _ r => r
  | _, _, i + 1, .cons q r => .cons q (dpa_erase i r)
theorem dpa_dropLast {K : PySem.W.Frag} {F : Hp} : ∀ {vs : List V} {ds : List PyData}, DpAll K F vs ds → DpAll K F vs.dropLast ds.dropLast
  | _, _, .nil => .nil
  | _, _, .cons _ .nil => .nil
  | _, _, .cons q (.cons q2 r) => .cons q (dpa_dropLast (.cons q2 r))
theorem seq_ix {n j : Nat} {z : Int} (h : L2.ixN n z = some j) : seqIndex? z n = some j := by
  unfold L2.ixN at h
  unfold seqIndex?
  by_cases h0 : 0 ≤ z
  · rw [if_pos h0] at h
    split at h
    · rename_i h1
      cases h
      have : ¬ z < 0 := by omega
      simp [this, h0, h1]
    · cases h
  · rw [if_neg h0] at h
    split at h
    · rename_i h1
      cases h
      have e1 : z < 0 := by omega
      have e2 : 0 ≤ z + n := by omega
      simp [e1, e2]
      omega
    · cases h
/-! ### pop -/
def ePop0 (i : Nat) : EX := fun Γ => (ownAt Γ i).bind fun ds => (ds.getLast?).bind fun d => some (d, ownSet Γ i ds.dropLast)
def ePop (i : Nat) (k : EX) : EX := fun Γ => (ownAt Γ i).bind fun _ => (k Γ).bind fun y => match y.1 with
  | .int z => (ownAt y.2 i).bind fun ds => if -100000000 ≤ z ∧ z ≤ 100000000 then (L2.ixN ds.length z).bind fun j => (ds[j]?).bind fun d => some (d, ownSet y.2 i (ds.eraseIdx j)) else none
  | _ => none
section
variable {X : Cx} {pos : Pos}
theorem ep_pop0 {i : Nat} {x : Str} {px apos cpos : Pos}
    (hp : PE X (.Call (.Attribute (.Name x px) "pop" apos) [] [] cpos) (tBM0 X.K "list" rPop (tVar i)) := by
      exact pe_bm0 PySem.F.plainAttrs_list PySem.F.slot_list_pop PySem.F.type_list_pop mt_pop (pv _)) : EP X (.Call (.Attribute (.Name x px) "pop" apos) [] [] cpos) (ePop0 i) := by
  refine ⟨_, hp, ?_⟩
  intro B Γ F σ H r Γ' R hh Q q
  obtain ⟨ds, e0, hh⟩ := bind_eq hh
  obtain ⟨d, e1, hh⟩ := bind_eq hh
  cases hh
  obtain ⟨a, vs, ea, hF, hH, hd⟩ := R.ownGet e0
  refine ⟨.ref a, ea, .inl ⟨rfl, vs, sq_of hH⟩, ?_⟩
  rw [List.getLast?_eq_getElem?] at e1
  obtain ⟨v, hv, dv⟩ := dpa_get hd e1
  rw [← dpa_len hd] at hv
  exact ⟨a, vs, v, rfl, rfl, hH, hv, q v F _ (Ex.refl F) (R.write e0 ea (dpa_dropLast hd)) dv⟩
theorem ep_pop {i : Nat} {x : Str} {px apos cpos : Pos} {k : Expr} {f : EX} (he : EP X k f)
    (hp : ∀ {te : TE}, PE X k te → PE X (.Call (.Attribute (.Name x px) "pop" apos) [k] [] cpos) (tBM X.K "list" rPopAt (tVar i) (tCons te tNil)) := by
      intro te h1; exact pe_bm PySem.F.plainAttrs_list PySem.F.slot_list_pop PySem.F.type_list_pop mt_popAt (pv _) (pa_cons h1 pa_nil)) : EP X (.Call (.Attribute (.Name x px) "pop" apos) [k] [] cpos) (ePop i f) := by
  obtain ⟨te, h1, h2⟩ := he
  refine ⟨_, hp h1, ?_⟩
  intro B Γ F σ H r Γ' R hh Q q
  obtain ⟨ds0, e0, hh⟩ := bind_eq hh
  obtain ⟨⟨y, Γ1⟩, e1, hh⟩ := bind_eq hh
  obtain ⟨a, vs0, ea, hF0, hH0, hd0⟩ := R.ownGet e0
  refine ⟨.ref a, ea, .inl ⟨rfl, vs0, sq_of hH0⟩, ?_⟩
  refine h2 B Γ F σ H y Γ1 R e1 _ fun v F1 H1 x1 R1 d1 => ?_
  cases d1 with
  | int z =>
    obtain ⟨ds, e2, hh⟩ := bind_eq hh
    split at hh
    · rename_i hz
      obtain ⟨j, e3, hh⟩ := bind_eq hh
      obtain ⟨d, e4, hh⟩ := bind_eq hh
      cases hh
      obtain ⟨a', vs, ea', hF, hH, hda⟩ := R1.ownGet e2
      rw [ea] at ea'; cases ea'
      obtain ⟨w, hw, dw⟩ := dpa_get hda e4
      exact ⟨a, vs, z, j, w, rfl, rfl, hH, by omega, by omega, by rw [dpa_len hda]; exact seq_ix e3, hw, q w F1 _ x1 (R1.write e2 ea (dpa_erase j hda)) dw⟩
    · cases hh
  | _ => cases hh
/-! ### new lists of one's own -/
def nLR (f : RX) : NX := fun Γ => (f Γ).bind fun x => some (.own (x.1.map .int), x.2)
theorem np_LR {e : Expr} {f : RX} {p pos : Pos} (hc : X.calm = true) (hm : X.mg "list" = none) (he : RP X e f) (hg : Gl X "list" := by rfl) (na : starEach [e] X.env = (false, eval e X.env) :: starEach [] X.env := by rfl) : NP X (.Call (.Name "list" p) [e] [] pos) (nLR f) := by
  obtain ⟨t, h1, h2⟩ := he
  refine ⟨_, pe_LR hc hg hm h1 na, ?_⟩
  intro B Γ F σ H r Γ' R e Q q
  obtain ⟨⟨ns, Γ1⟩, e1, e⟩ := bind_eq e
  cases e
  refine h2 B Γ F σ H ns Γ1 R e1 _ fun a c n F1 H1 er hn x1 R1 => ⟨Nat.le_trans hn (by decide), fun p hp => ?_⟩
  subst er
  exact q _ F1 _ x1 (R1.hide hp) ⟨p, _, rfl, .laid R1 hp, .inl (R1.fresh p hp), dpa_ints _⟩
def nRev (f : EX) : NX := fun Γ => (f Γ).bind fun x => match x.1 with
  | .list xs => some (.own xs.reverse, x.2)
  | _ => none
theorem np_rev {e : Expr} {f : EX} {k : Nat} {p1 p2 p3 pos : Pos} (he : EP X e f) : NP X (.Subscript e (.Slice none none (some (.UnaryOp .USub (.Constant (.int 1) k p1) p2)) p3) pos) (nRev f) := by
  obtain ⟨te, h1, h2⟩ := he
  refine ⟨_, pe_revX h1, ?_⟩
  intro B Γ F σ H z Γ' R h Q q
  obtain ⟨⟨x, Γ1⟩, e1, h⟩ := bind_eq h
  refine h2 B Γ F σ H x Γ1 R e1 _ fun v F1 H1 x1 R1 d1 => ?_
  cases x with
  | list ys =>
    cases h
    obtain ⟨a, vs, rfl, g1, g2⟩ := dp_list d1
    refine ⟨a, vs, rfl, .inl ⟨ex_l R1.ext g1, fun p hp => ?_⟩⟩
    exact q _ F1 _ x1 (R1.hide hp) ⟨p, _, rfl, .laid R1 hp, .inl (R1.fresh p hp), dpa_rev g2⟩
  | _ => cases h
def nAdd (f g : EX) : NX := fun Γ => (f Γ).bind fun x => (g x.2).bind fun y => match x.1, y.1 with
  | .list xs, .list ys => if xs.length + ys.length ≤ 100000 then some (.own (xs ++ ys), y.2) else none
  | _, _ => none
theorem np_add {a b : Expr} {f g : EX} {pos : Pos} (ha : EP X a f) (hb : EP X b g) : NP X (.BinOp a .Add b pos) (nAdd f g) := by
  obtain ⟨ta, a1, a2⟩ := ha
  obtain ⟨tb, b1, b2⟩ := hb
  refine ⟨_, pe_op (op_add.or (op_catA.or op_catL)) a1 b1, ?_⟩
  intro B Γ F σ H z Γ' R h Q q
  obtain ⟨⟨x, Γ1⟩, e1, h⟩ := bind_eq h
  obtain ⟨⟨y, Γ2⟩, e2, h⟩ := bind_eq h
  refine a2 B Γ F σ H x Γ1 R e1 _ fun v F1 H1 x1 R1 d1 => ?_
  refine b2 B Γ1 F1 σ H1 y Γ2 R1 e2 _ fun u F2 H2 x2 R2 d2 => ?_
  cases x with
  | list xs =>
    cases y with
    | list ys =>
      have h' : (if xs.length + ys.length ≤ 100000 then some (Slot.own (xs ++ ys), Γ2) else none) = some (z, Γ') := h
      split at h'
      · rename_i hl
        cases h'
        obtain ⟨a, vs, rfl, h1, h2⟩ := dp_list (dp_mono x2 d1)
        obtain ⟨b, ws, rfl, h3, h4⟩ := dp_list d2
        have l1 := dpa_len h2
        have l2 := dpa_len h4
        refine .inr (.inr ⟨a, b, vs, ws, rfl, rfl, ex_l R2.ext h1, ex_l R2.ext h3, sz_of (by omega), fun p hp => ?_⟩)
        exact q _ F2 _ (x1.trans x2) (R2.hide hp) ⟨p, _, rfl, .laid R2 hp, .inl (R2.fresh p hp), dpa_app h2 h4⟩
      · cases h'
    | _ => cases h
  | _ => cases h
/-! ### powers -/
def CPow2 (i j : Int) : Prop := 0 ≤ j ∧ j ≤ 500000 ∧ i.natAbs < 2 ^ 256
instance : ∀ i j, Decidable (CPow2 i j) := fun i j => by unfold CPow2; infer_instance
theorem op_pow2 : OpR X (binaryOp .Pow) (rI CPow2 fun i j => .int (i ^ j.toNat)) := opI fun i j _ _ _ _ _ hc q => pow_int hc.1 (by
  have hb : Builtin.Int.intBits i ≤ 256 := intBits_le_iff.mpr hc.2.2
  have h1 : (Builtin.Int.intBits i : Int) * j ≤ 256 * j := Int.mul_le_mul_of_nonneg_right (by omega) hc.1
  have := hc.2.1
  omega) q
def pPow2 : PyData → PyData → Option PyData
  | .int i, .int j => if 0 ≤ j ∧ j ≤ 500000 ∧ i.natAbs < 2 ^ 256 then some (.int (i ^ j.toNat)) else none
  | _, _ => none
theorem o_pow2 : OpE X (binaryOp .Pow) pPow2 := ⟨_, op_pow2, opp_int fun d e z h => by
  unfold pPow2 at h
  split at h
  · split at h
    · rename_i hc; cases h; exact ⟨_, _, rfl, rfl, hc, fun F => .int _⟩
    · cases h
  · cases h⟩
end
section
variable {Γ : Env} {i j : Int} {k : Nat} {f g : EX} {r : RX} {xs ys : List PyData}
@[simp] theorem z_pow2 : pPow2 (.int i) (.int j) = if 0 ≤ j ∧ j ≤ 500000 ∧ i.natAbs < 2 ^ 256 then some (.int (i ^ j.toNat)) else none := rfl
@[simp] theorem z_pop0 : ePop0 k Γ = (ownAt Γ k).bind fun ds => (ds.getLast?).bind fun d => some (d, ownSet Γ k ds.dropLast) := rfl
@[simp] theorem z_pop : ePop k f Γ = (ownAt Γ k).bind fun _ => (f Γ).bind fun y => match y.1 with
  | .int z => (ownAt y.2 k).bind fun ds => if -100000000 ≤ z ∧ z ≤ 100000000 then (L2.ixN ds.length z).bind fun j => (ds[j]?).bind fun d => some (d, ownSet y.2 k (ds.eraseIdx j)) else none
  | _ => none := rfl
@[simp] theorem z_nlr : nLR r Γ = (r Γ).bind fun x => some (.own (x.1.map .int), x.2) := rfl
@[simp] theorem z_nrev : nRev f Γ = (f Γ).bind fun x => match x.1 with | .list xs => some (.own xs.reverse, x.2) | _ => none := rfl
@[simp] theorem z_nadd : nAdd f g Γ = (f Γ).bind fun x => (g x.2).bind fun y => match x.1, y.1 with
  | .list xs, .list ys => if xs.length + ys.length ≤ 100000 then some (.own (xs ++ ys), y.2) else none
  | _, _ => none := rfl
theorem sh_str {x : Str} (h : PyData.strOk x = true) : SeqAt.shaped (.str x) = true := by
  unfold SeqAt.shaped
  rw [show PyData.canLay0 (.str x) = PyData.strOk x from rfl, h, Bool.true_and]
  exact decide_eq_true (Nat.zero_le 64)
theorem z_eqS {x y : Str} (hx : PyData.strOk x = true) (hy : PyData.strOk y = true) : pEq (.str x) (.str y) = some (.bool (x == y)) := by
  unfold pEq; rw [if_pos ⟨sh_str hx, sh_str hy⟩]; rfl
theorem z_neS {x y : Str} (hx : PyData.strOk x = true) (hy : PyData.strOk y = true) : pNe (.str x) (.str y) = some (.bool (!(x == y))) := by
  unfold pNe; rw [if_pos ⟨sh_str hx, sh_str hy⟩]; rfl
@[simp] theorem z_abs : pAbs [.int i] = some (.int (if i < 0 then -i else i)) := rfl
@[simp] theorem z_intB {b : Bool} : pInt [.bool b] = some (.int (if b then 1 else 0)) := rfl
@[simp] theorem z_isNoneI : isNone (.int i) = false := rfl
@[simp] theorem z_isNoneN : isNone .none = true := rfl
@[simp] theorem z_isNoneB {b : Bool} : isNone (.bool b) = false := rfl
@[simp] theorem z_isNoneT : isNone (.tuple xs) = false := rfl
@[simp] theorem z_isNoneL : isNone (.list xs) = false := rfl
@[simp] theorem z_isNoneS {x : Str} : isNone (.str x) = false := rfl
end
end Z
set_option Elab.async false
set_option linter.all false
set_option maxRecDepth 100000
set_option maxHeartbeats 2000000
/-! Z: x += e, x -= e of ints; [..] * n; a, b, c = .. -/
namespace Z
open PySem L2 Evl PyProof.Rows
def sAugI (i : Nat) (op : Int → Int → Int) (f : EX) : SX := fun Γ => match Γ[i]? with
  | some (.val (.int a)) => (f Γ).bind fun y => match y.1 with
    | .int b => some (.nx (y.2.set i (.val (.int (op a b)))))
    | _ => none
  | _ => none
section
variable {X : Cx} {pos : Pos}
theorem sp_augI {i : Nat} {x : Str} {e : Expr} {f : EX} {op : Operator} {c : Int → Int → Int} {pos' : Pos} (he : EP X e f) (ho : PIp X op (ipI c)) (hN : X.N.Nodup) (hi : X.N[i]? = some x := by rfl) (hx : Loc X.env.scope x := by first | exact Or.inl rfl | exact Or.inr rfl)
    (hf : X.fn x = true ∨ X.env.scope.names.lookup x = some .local := by first | exact .inl rfl | exact .inr rfl | assumption) : SP X (.AugAssign (.Name x pos') op e pos) (sAugI i c f) := by
  obtain ⟨te, h1, h2⟩ := he
  refine ⟨_, ps_aug hN hi hx h1 ho hf, ?_⟩
  intro B Γ F σ H o R hh D hD
  unfold sAugI at hh
  split at hh
  · rename_i a ea
    obtain ⟨⟨y, Γ1⟩, e1, hh⟩ := bind_eq hh
    obtain ⟨v, ev, dv⟩ := R.slot i _ ea
    cases dv
    refine ⟨.int a, ev, ?_⟩
    refine h2 B Γ F σ H y Γ1 R e1 _ fun w F1 H1 x1 R1 d1 => ?_
    cases d1 with
    | int b =>
      cases hh
      exact ⟨a, b, rfl, rfl, hD F1 _ H1 x1 (R1.setVal (.int _))⟩
    | _ => cases hh
  · cases hh
/-! ### [..] * n -/
def nRep (n : NX) (g : EX) : NX := fun Γ => (n Γ).bind fun x => (g x.2).bind fun y => match x.1, y.1 with
  | .own xs, .int k => if -100000 ≤ k ∧ k ≤ 100000 ∧ xs.length * k.toNat ≤ 100000 then some (.own (List.replicate k.toNat xs).flatten, y.2) else none
  | _, _ => none
theorem dpa_rep {K : PySem.W.Frag} {F : Hp} {vs : List V} {ds : List PyData} (h : DpAll K F vs ds) : ∀ n : Nat, DpAll K F (List.replicate n vs).flatten (List.replicate n ds).flatten
  | 0 => .nil
  | n + 1 => by
    rw [List.replicate_succ, List.replicate_succ, List.flatten_cons, List.flatten_cons]
    exact dpa_app h (dpa_rep h n)
theorem np_rep {a b : Expr} {n : NX} {g : EX} {pos : Pos} (ha : NP X a n) (hb : EP X b g) : NP X (.BinOp a .Mult b pos) (nRep n g) := by
  obtain ⟨ta, a1, a2⟩ := ha
  obtain ⟨tb, b1, b2⟩ := hb
  refine ⟨_, pe_op op_rep a1 b1, ?_⟩
  intro B Γ F σ H z Γ' R h Q q
  obtain ⟨⟨r1, Γ1⟩, e1, h⟩ := bind_eq h
  obtain ⟨⟨y, Γ2⟩, e2, h⟩ := bind_eq h
  refine a2 B Γ F σ H r1 Γ1 R e1 _ fun v F1 H1 x1 R1 d1 => ?_
  refine b2 (rebase Γ1 F1 σ H1) Γ1 F1 σ H1 y Γ2 R1.rebased e2 _ fun u F2 H2 x2 R2 d2 => ?_
  have S2 := R1.back R2
  have g1 := d1.stays R1 R2
  cases r1 with
  | own xs =>
    cases d2 with
    | int k =>
      have h' : (if -100000 ≤ k ∧ k ≤ 100000 ∧ xs.length * k.toNat ≤ 100000 then some (Slot.own (List.replicate k.toNat xs).flatten, Γ2) else none) = some (z, Γ') := h
      split at h'
      · rename_i hk
        cases h'
        obtain ⟨p, vs, rfl, hh, h0, hd⟩ := g1
        have hz : vs.length * k.toNat ≤ 100000 := by rw [dpa_len hd]; exact hk.2.2
        exact ⟨p, k, vs, rfl, rfl, hh.here, by omega, by omega, sz_of hz, fun r hr => q _ F2 _ (x1.trans x2) (S2.hide hr) ⟨r, _, rfl, .laid S2 hr, .inl (S2.fresh r hr), dpa_rep hd _⟩⟩
      · cases h'
    | _ => cases h
  | no => cases h
  | val d => cases h
  | dic kvs => cases h
  | fd kvs => cases h
  | od kvs => cases h
  | par ds => cases h
end
section
variable {Γ : Env} {i : Nat} {f g : EX} {n : NX} {c : Int → Int → Int}
@[simp] theorem z_augI : sAugI i c f Γ = match (Γ[i]? : Option Slot) with
  | some (.val (.int a)) => (f Γ).bind fun y => match y.1 with
    | .int b => some (.nx (y.2.set i (.val (.int (c a b)))))
    | _ => none
  | _ => none := rfl
@[simp] theorem z_nrep : nRep n g Γ = (n Γ).bind fun x => (g x.2).bind fun y => match x.1, y.1 with
  | .own xs, .int k => if -100000 ≤ k ∧ k ≤ 100000 ∧ xs.length * k.toNat ≤ 100000 then some (.own (List.replicate k.toNat xs).flatten, y.2) else none
  | _, _ => none := rfl
end
end Z
set_option Elab.async false
set_option linter.all false
set_option maxRecDepth 100000
set_option maxHeartbeats 2000000
/-! Z: a = b = e -/
namespace Z
open PySem L2 Evl PyProof.Rows
def sAsg2 (e : EX) (gx hx : PyData → Env → Option Env) : SX := fun Γ => (e Γ).bind fun x => (gx x.1 x.2).bind fun Γ1 => (hx x.1 Γ1).bind fun Γ2 => some (.nx Γ2)
section
variable {X : Cx} {pos : Pos}
theorem sp_asg2 {t1 t2 e : Expr} {f : EX} {gx hx : PyData → Env → Option Env} {S S' : List Nat} (he : EP X e f) (hg : GP X t1 gx S) (hh : GP X t2 hx S') (ha : (assignEach [t1, t2] X.env).map (·.2) = [assign t1 X.env, assign t2 X.env] := by rfl) (hw : swappedStores [t1, t2] e X.env = pure none := by rfl) :
    SP X (.Assign [t1, t2] e pos) (sAsg2 f gx hx) := by
  obtain ⟨te, h1, h2⟩ := he
  obtain ⟨g, g1, g2⟩ := hg
  obtain ⟨g', g1', g2'⟩ := hh
  refine ⟨_, ps_asg2 h1 g1 g1' ha hw, ?_⟩
  intro B Γ F σ H o R h D hD
  obtain ⟨⟨r1, Γ1⟩, e1, h⟩ := bind_eq h
  obtain ⟨Γ2, e2, h⟩ := bind_eq h
  obtain ⟨Γ3, e3, h⟩ := bind_eq h
  cases h
  refine h2 B Γ F σ H r1 Γ1 R e1 _ fun v F1 H1 x1 R1 d1 => ?_
  refine g2 B Γ1 F1 σ H1 v r1 Γ2 R1 d1 e2 _ fun σ' R' _ _ => ?_
  exact g2' B Γ2 F1 σ' H1 v r1 Γ3 R' d1 e3 _ fun σ2 R2 _ _ => hD F1 σ2 H1 x1 R2
@[simp] theorem z_asg2 {Γ : Env} {e : EX} {gx hx : PyData → Env → Option Env} : sAsg2 e gx hx Γ = (e Γ).bind fun x => (gx x.1 x.2).bind fun Γ1 => (hx x.1 Γ1).bind fun Γ2 => some (.nx Γ2) := rfl
end
end Z
set_option Elab.async false
set_option linter.all false
set_option maxRecDepth 100000
set_option maxHeartbeats 2000000
/-! Z: dicts that change no more: {k: v for x in it}, d[k], k in d -/
namespace Z
open PySem L2 Evl PyProof.Rows
section
variable {K : PySem.W.Frag} {F : Hp} {ws : List (Key × V)} {kvs : List (Key × PyData)} {k : Key} {v : V} {d : PyData}
theorem kva_len : ∀ {ws : List (Key × V)} {kvs : List (Key × PyData)}, KvAll K F ws kvs → ws.length = kvs.length
  | _, _, .nil => rfl
  | _, _, .cons _ r => by simp [kva_len r]
theorem kva_any (k : Key) : ∀ {ws : List (Key × V)} {kvs : List (Key × PyData)}, KvAll K F ws kvs → (ws.any fun kv => decide (kv.1 = k)) = (kvs.any fun kv => decide (kv.1 = k))
  | _, _, .nil => rfl
  | _, _, .cons _ r => by simp [kva_any k r]
theorem kva_app : ∀ {ws ws' : List (Key × V)} {kvs kvs' : List (Key × PyData)}, KvAll K F ws kvs → KvAll K F ws' kvs' → KvAll K F (ws ++ ws') (kvs ++ kvs')
  | _, _, _, _, .nil, s => s
  | _, _, _, _, .cons h r, s => .cons h (kva_app r s)
theorem kva_rep (k : Key) (h : Dp K F v d) : ∀ {ws : List (Key × V)} {kvs : List (Key × PyData)}, KvAll K F ws kvs → KvAll K F (ws.map fun kv => if kv.1 = k then (kv.1, v) else kv) (kvs.map fun kv => if kv.1 = k then (kv.1, d) else kv)
  | _, _, .nil => .nil
  | _, _, .cons (k := k') h' r => by
    rw [List.map_cons, List.map_cons]
    by_cases e : k' = k
    · rw [if_pos e, if_pos e]; exact .cons h (kva_rep k h r)
    · rw [if_neg e, if_neg e]; exact .cons h' (kva_rep k h r)
def putP (kvs : List (Key × PyData)) (k : Key) (d : PyData) : List (Key × PyData) :=
  if (kvs.any fun kv => decide (kv.1 = k)) = true then kvs.map (fun kv => if kv.1 = k then (kv.1, d) else kv) else kvs ++ [(k, d)]
theorem kva_put (k : Key) (r : KvAll K F ws kvs) (h : Dp K F v d) : KvAll K F (putK ws k v) (putP kvs k d) := by
  unfold putK putP
  rw [kva_any k r]
  by_cases e : (kvs.any fun kv => decide (kv.1 = k)) = true
  · rw [if_pos e, if_pos e]; exact kva_rep k h r
  · rw [if_neg e, if_neg e]; exact kva_app r (.cons h .nil)
def getP (kvs : List (Key × PyData)) (k : Key) : Option PyData := (kvs.find? fun kv => decide (kv.1 = k)).map (·.2)
theorem kva_get (k : Key) : ∀ {ws : List (Key × V)} {kvs : List (Key × PyData)} {d : PyData}, KvAll K F ws kvs → getP kvs k = some d → ∃ v, valV ws k = some v ∧ Dp K F v d
  | _, _, _, .nil, e => by cases e
  | _, _, d, .cons (k := k') (v := v) (d := d') (ws := ws) (kvs := kvs) h r, e => by
    by_cases c : k' = k
    · have e' : getP ((k', d') :: kvs) k = some d' := by unfold getP; rw [List.find?_cons_of_pos (by simpa using c)]; rfl
      rw [e'] at e; cases e
      refine ⟨v, ?_, h⟩
      unfold valV; rw [List.find?_cons_of_pos (by simpa using c)]; rfl
    · have e' : getP ((k', d') :: kvs) k = getP kvs k := by unfold getP; rw [List.find?_cons_of_neg (by simpa using c)]
      rw [e'] at e
      obtain ⟨v2, h1, h2⟩ := kva_get k r e
      refine ⟨v2, ?_, h2⟩
      rw [← h1]
      unfold valV; rw [List.find?_cons_of_neg (by simpa using c)]
def keyD : PyData → Option Key
  | .int i => some (.inl i)
  | .str x => some (.inr x)
  | _ => none
theorem key_v (h : Dp K F v d) (e : keyD d = some k) : v = kV k := by
  cases h <;> cases e <;> rfl
end
/-! ### d[k] -/
def eDGet (i : Nat) (g : EX) : EX := fun Γ => (g Γ).bind fun y => match (y.2[i]? : Option Slot) with
  | some (.dic kvs) => match (Γ[i]? : Option Slot) with
    | some (.dic _) => (keyD y.1).bind fun k => (getP kvs k).bind fun z => some (z, y.2)
    | _ => none
  | _ => none
section
variable {X : Cx} {pos : Pos}
theorem ep_dget {b : Expr} {g : EX} {px : Pos} {x : Str} {i : Nat} (hu : X.A.units + 64 < cLine) (hb : EP X b g) (hN : X.N[i]? = some x := by rfl) (hv : Vis X.env.scope x := by first | exact Or.inl rfl | exact Or.inr (Or.inl rfl) | exact Or.inr (Or.inr rfl)) (hd : (x == ("__debug__" : Str)) = false := by decide)
    (hcd : (x == ("__classdict__" : Str)) = false := by decide) (hs : NoSl b := by exact fun _ _ => rfl) : EP X (.Subscript (.Name x px) b pos) (eDGet i g) := by
  obtain ⟨tb, b1, b2⟩ := hb
  refine ⟨_, pe_dget (by omega) (pe_var hN hv hd hcd) b1 hs, ?_⟩
  intro B Γ F σ H z Γ' R h Q q
  obtain ⟨⟨y, Γ1⟩, e1, h⟩ := bind_eq h
  split at h
  · rename_i kvs e2
    split at h
    · rename_i kvs0 e3
      obtain ⟨k, e4, h⟩ := bind_eq h
      obtain ⟨z', e5, h⟩ := bind_eq h
      cases h
      obtain ⟨a, ws0, ea, _, _⟩ := R.slot i _ e3
      refine ⟨.ref a, ea, ?_⟩
      refine b2 B Γ F σ H y Γ1 R e1 _ fun v F1 H1 x1 R1 d1 => ?_
      obtain ⟨a', ws, ea', h1, h2⟩ := R1.slot i _ e2
      rw [ea] at ea'; cases ea'
      obtain ⟨w, hw, dw⟩ := kva_get k h2 e5
      have hk := key_v d1 e4
      subst hk
      exact ⟨a, w, rfl, .inl ⟨ws, k, .inl (R1.ext _ _ h1), rfl, hw.symm⟩, q w F1 H1 x1 R1 dw⟩
    · cases h
  · cases h
end
/-! ### {k: v for x in it} -/
def dcLoop (g : PyData → Z.Env → Option Z.Env) (t : TX) (fk f : EX) (vs : List Nat) : List PyData → List (Key × PyData) → Z.Env → Option (List (Key × PyData) × Z.Env)
  | [], acc, Γ => some (acc, Γ)
  | x :: xs, acc, Γ => (g x (wipeE Γ vs)).bind fun Γ1 => (t Γ1).bind fun c => if c.1 = true then (fk c.2).bind fun y => (f y.2).bind fun y2 => (keyD y.1).bind fun k => if acc.length < 100000 then dcLoop g t fk f vs xs (putP acc k y2.1) y2.2 else none
    else dcLoop g t fk f vs xs acc c.2
def nDc (it : AX) (g : PyData → Z.Env → Option Z.Env) (t : TX) (fk f : EX) (vs : List Nat) : NX := fun Γ => (it Γ).bind fun x => if freeE x.2 vs = true then (dcLoop g t fk f vs x.1 [] x.2).bind fun y => some (.dic y.1, restE x.2 y.2 vs) else none
section
variable {K : PySem.W.Frag}
/-- a hidden thing of a kind that is known comes to be known -/
theorem Rel.known {B : Bs} {Γ : Z.Env} {F H : Hp} {σ : L2.St} {p : Addr} {o : HO} (R : Rel K B Γ F σ H) (h : Hid Γ F σ H p o) (hb : B.H0 p = none) (ho : PlO o) : Rel K B Γ (upd F p o) σ H ∧ Ex F (upd F p o) := by
  have ex : Ex F (upd F p o) := Ex.new h.noF
  refine ⟨⟨R.len, fun i s q => ?_, R.dist, R.ext0.trans ex, fun b u e => ?_, R.frame, fun b u e => ?_, R.pl.upd ho, R.fresh⟩, ex⟩
  · have z := R.slot i s q
    have ne : ∀ {a : Addr}, s.isOwn = true → σ[i]? = some (some (V.ref a)) → a ≠ p := fun {a} w e y => h.noO ⟨i, s, q, w, y ▸ e⟩
    cases s with
    | no => trivial
    | val d => obtain ⟨v, e1, e2⟩ := z; exact ⟨v, e1, dp_mono ex e2⟩
    | dic kvs => obtain ⟨a, ws, e1, h1, h2⟩ := z; exact ⟨a, ws, e1, ex _ _ h1, kva_mono ex h2⟩
    | fd kvs => obtain ⟨a, ws, e1, h1, h2⟩ := z; exact ⟨a, ws, e1, ex _ _ h1, od_mono ex h2⟩
    | own ds => obtain ⟨a, ws, e1, h1, h2, h3, h4⟩ := z; exact ⟨a, ws, e1, by rw [upd_ne (ne rfl e1)]; exact h1, h2, h3, dpa_mono ex h4⟩
    | od kvs => obtain ⟨a, ws, e1, h1, h2, h3, h4⟩ := z; exact ⟨a, ws, e1, by rw [upd_ne (ne rfl e1)]; exact h1, h2, h3, od_mono ex h4⟩
    | par ds => obtain ⟨a, ws, e1, h1, h2, h3, h4⟩ := z; exact ⟨a, ws, e1, by rw [upd_ne (ne rfl e1)]; exact h1, h2, h3, dpa_mono ex h4⟩
  · by_cases hp : b = p
    · subst hp; rw [upd_same] at e; cases e; exact h.here
    · rw [upd_ne hp] at e; exact R.ext b u e
  · by_cases hp : b = p
    · subst hp; exact .inr (.inl hb)
    · rw [upd_ne hp] at e; exact R.newF b u e
theorem ev_dc {wi : TI} {it : AX} {g : TG} {gx : PyData → Z.Env → Option Z.Env} {S : List Nat} {tt : TT} {t : TX} {tk te : TE} {fk f : EX} {vs : List Nat} (hi : EvI K wi it) (hg : EvG K g gx S) (hS : ∀ i, i ∈ S → i ∈ vs) (ht : EvT K tt t) (hk : EvE K tk fk) (he : EvE K te f) :
    EvN K (tDc wi g tt tk te vs) (nDc it gx t fk f vs) := by
  intro B Γ F σ H r Γ' R hh Q q
  obtain ⟨⟨xs, Γ0⟩, e1, hh⟩ := bind_eq hh
  split at hh
  · rename_i hfree
    obtain ⟨⟨out, Γe⟩, e2, hh⟩ := bind_eq hh
    cases hh
    refine hi B Γ F σ H xs Γ0 R e1 _ fun J F0 H0 x0 R0 Y => fun D hD => ?_
    have W0 := R0.wiped vs
    -- the invariant: the environment of the turn, wiped; the list made so far is hidden
    refine ⟨fun i m H' => ∃ Γ1 F1 acc ws, m = xs.length - i ∧ i ≤ xs.length ∧ Ex F0 F1 ∧ Rel K B (wipeE Γ1 vs) F1 (wipe σ vs) H' ∧ Hid (wipeE Γ1 vs) F1 (wipe σ vs) H' D (.dK ws) ∧ KvAll K F1 ws acc ∧ Γ1.length = Γ0.length ∧ dcLoop gx t fk f vs (xs.drop i) acc Γ1 = some (out, Γe),
      ⟨xs.length, Γ0, F0, [], [], by simp, Nat.zero_le _, Ex.refl F0, W0.hide hD, .laid W0 hD, .nil, rfl, by simpa using e2⟩, ?_⟩
    rintro i m H1 ⟨Γ1, F1, acc, ws, rfl, hi1, x1, R1, hid1, da1, hl1, h1⟩
    have hB : B.H0 D = none := R0.fresh D hD
    by_cases hlt : i < xs.length
    · right
      refine ⟨Y.go i F1 H1 x1 R1.ext R1.pl hlt, fun H' => ∃ Γ1 F1 acc ws, Ex F0 F1 ∧ Rel K B (wipeE Γ1 vs) F1 (wipe σ vs) H' ∧ Hid (wipeE Γ1 vs) F1 (wipe σ vs) H' D (.dK ws) ∧ KvAll K F1 ws acc ∧ Γ1.length = Γ0.length ∧ dcLoop gx t fk f vs (xs.drop (i + 1)) acc Γ1 = some (out, Γe), ?_, fun x H2 hy => ?_⟩
      · rintro H' ⟨Γ2, F2, acc2, ws2, a1, a2, a3, a4, a5, a6⟩
        exact ⟨xs.length - (i + 1), by omega, Γ2, F2, acc2, ws2, rfl, hlt, a1, a2, a3, a4, a5, a6⟩
      · obtain ⟨F2, d, gr, ed, dd⟩ := Y.yld i F1 H1 x H2 x1 R1.ext R1.pl hlt hy
        have dr : xs.drop i = d :: xs.drop (i + 1) := by
          rw [List.drop_eq_getElem_cons hlt]
          rw [List.getElem?_eq_getElem hlt] at ed
          cases ed; rfl
        rw [dr] at h1
        obtain ⟨Γ2, e3, h1⟩ := bind_eq h1
        obtain ⟨⟨c, Γ3⟩, e4, h1⟩ := bind_eq h1
        have R2 := R1.grow gr
        have nD : F2 D = none := by
          cases z : F2 D with
          | none => rfl
          | some u =>
            rcases gr.new D u z with y | y
            · rw [hid1.noF] at y; cases y
            · rw [hid1.here] at y; cases y
        have hid2 : Hid (wipeE Γ1 vs) F2 (wipe σ vs) H2 D (.dK ws) := ⟨gr.keep _ _ hid1.here, nD, hid1.noO⟩
        have A2 := R2.rebased
        refine hg (rebase (wipeE Γ1 vs) F2 (wipe σ vs) H2) (wipeE Γ1 vs) F2 (wipe σ vs) H2 x d Γ2 A2 dd e3 _ fun σ2 A3 l2 o2 => ?_
        have ew : wipe σ2 vs = wipe σ vs := by
          have e0 : wipe (wipe σ vs) vs = wipe σ vs := wipe_eq (wipe_length σ vs) fun i hi => wipe_out hi
          rw [← e0]
          exact wipe_eq l2 fun i hi => o2 i fun z => hi (hS i z)
        refine ⟨ew, ?_⟩
        refine ht _ Γ2 F2 σ2 H2 c Γ3 A3 e4 _ fun F3 H3 x3 A4 => ?_
        have back : ∀ {Γz : Env} {Fz Hz : Hp}, Rel K (rebase (wipeE Γ1 vs) F2 (wipe σ vs) H2) Γz Fz σ2 Hz → Rel K B (wipeE Γz vs) Fz (wipe σ vs) Hz ∧ Hid (wipeE Γz vs) Fz (wipe σ vs) Hz D (.dK ws) ∧ Γz.length = Γ0.length := fun {Γz Fz Hz} A => by
          have A' := A.wiped vs
          rw [ew] at A'
          refine ⟨R2.back A', hid2.stays A', ?_⟩
          have z1 := A.len
          have z2 := A2.len
          rw [wipeE_len] at z2
          rw [← z1, l2, z2, hl1]
        cases c with
        | false =>
          show ∃ Γ1 F1 acc ws, _
          obtain ⟨b1, b2, b3⟩ := back A4
          exact ⟨Γ3, F3, acc, ws, (x1.trans gr.ext).trans x3, b1, b2, kva_mono (gr.ext.trans x3) da1, b3, h1⟩
        | true =>
          obtain ⟨⟨y, Γ4⟩, e5, h1⟩ := bind_eq (show (fk Γ3).bind _ = _ from h1)
          obtain ⟨⟨y2, Γ5⟩, e6, h1⟩ := bind_eq h1
          obtain ⟨key, e7, h1⟩ := bind_eq h1
          show tk σ2 H3 _
          refine hk _ Γ3 F3 σ2 H3 y Γ4 A4 e5 _ fun v F4 H4 x4 A5 d5 => ?_
          refine he _ Γ4 F4 σ2 H4 y2 Γ5 A5 e6 _ fun v2 F5 H5 x5 A6 d6 => ?_
          split at h1
          · rename_i hsz
            obtain ⟨b1, b2, b3⟩ := back A6
            have exs : Ex F1 F5 := ((gr.ext.trans x3).trans x4).trans x5
            refine ⟨ws, key, key_v d5 e7, b2.here, sz_lt (by rw [kva_len da1]; exact hsz), Γ5, F5, putP acc key y2, putK ws key v2, (x1.trans exs), b1.rewrite b2 hB, ?_, kva_put key (kva_mono exs da1) d6, b3, h1⟩
            exact ⟨upd_same, b2.noF, b2.noO⟩
          · cases h1
    · left
      have ei : i = xs.length := by omega
      subst ei
      rw [List.drop_length] at h1
      cases h1
      have hw : Rel K B (restE Γ0 Γe vs) F1 σ H1 := by
        have hz : restE Γ0 (wipeE Γe vs) vs = restE Γ0 Γe vs := by
          apply List.ext_getElem?
          intro i
          by_cases hi : i ∈ vs
          · by_cases hb : i < Γe.length
            · rw [restE_in (by rw [wipeE_len]; exact hb) hi, restE_in hb hi]
            · rw [List.getElem?_eq_none_iff.mpr (by rw [restE_len, wipeE_len]; omega), List.getElem?_eq_none_iff.mpr (by rw [restE_len]; omega)]
          · rw [restE_out hi, restE_out hi, wipeE_out hi]
        rw [← hz]
        exact R0.unwipe hfree x1 R1
      have hnO : ¬ OwnsAt (restE Γ0 Γe vs) σ D := fun ⟨i, s, h1, h2, h3⟩ => by
        by_cases hi : i ∈ vs
        · have hl : i < Γe.length := by
            have := (List.getElem?_eq_some_iff.mp h1).1
            rw [restE_len] at this; exact this
          rw [restE_in hl hi] at h1
          cases h1
          have z := List.all_eq_true.mp hfree i hi
          cases w : Γ0[i]? with
          | none => rw [w] at h2; cases h2
          | some s => rw [w] at h2 z; have h2' : s.isOwn = true := h2; simp [h2'] at z
        · rw [restE_out hi] at h1
          exact hid1.noO ⟨i, s, by rw [wipeE_out hi]; exact h1, h2, by rw [wipe_out hi]; exact h3⟩
      obtain ⟨R2, ex2⟩ := hw.known ⟨hid1.here, hid1.noF, hnO⟩ hB trivial
      exact ⟨Y.stop F1 H1 x1 R1.ext R1.pl, q _ _ H1 ((x0.trans x1).trans ex2) R2 ⟨D, ws, rfl, upd_same, kva_mono ex2 da1⟩⟩
  · cases hh
end
section
variable {X : Cx} {pos : Pos}
theorem np_dc {kx vx tg iter : Expr} {ifs : List Expr} {scope : Scope} {it : AX} {gx : PyData → Z.Env → Option Z.Env} {S : List Nat} {t : TX} {fk f : EX} (own : List (Str × Nat)) (hi : IP X tg iter it) (ok : BlkOk X.N X.env.scope scope own)
    (hg : ∀ p : Blk, GP (blkOf X scope p) tg gx S) (ht : ∀ p : Blk, TsP (blkOf X scope p) ifs t) (hk : ∀ p : Blk, EP (blkOf X scope p) kx fk) (he : ∀ p : Blk, EP (blkOf X scope p) vx f)
    (hc : X.calm = true) (hN : X.N.Nodup) (hS : ∀ i, i ∈ S → i ∈ own.map (·.2) := by decide) (hs : ∀ x, foldedSetIterable iter X.env x = pure x := by intro _; rfl) :
    NP X (.DictComp kx vx [⟨tg, iter, ifs, 0⟩] scope pos) (nDc it gx t fk f (own.map (·.2))) := by
  obtain ⟨wi, i1, i2⟩ := hi
  obtain ⟨g, g1, g2⟩ := uniG (Xf := blkOf X scope) (K := X.K) (fun _ => rfl) hg
  obtain ⟨tt, t1, t2⟩ := uniT (Xf := blkOf X scope) (K := X.K) (fun _ => rfl) ht
  obtain ⟨tk, k1, k2⟩ := uniE (Xf := blkOf X scope) (K := X.K) (fun _ => rfl) hk
  obtain ⟨te, e1, e2⟩ := uniE (Xf := blkOf X scope) (K := X.K) (fun _ => rfl) he
  exact ⟨_, pe_dc hc hN i1 ok (fun s H C cl fp => g1 (s, H, C, cl, fp)) (fun s H C cl fp => t1 (s, H, C, cl, fp)) (fun s H C cl fp => k1 (s, H, C, cl, fp)) (fun s H C cl fp => e1 (s, H, C, cl, fp)) hs, ev_dc i2 g2 hS t2 k2 e2⟩
end
end Z
set_option Elab.async false
set_option linter.all false
set_option maxRecDepth 100000
set_option maxHeartbeats 2000000
/-! Z: x.extend(t), t a tuple or a list -/
namespace HT
open PySem PyProof.Rows MeetsSeq AutoSeq1 in
theorem extend_tuple (l : Addr) (items : Array Value) (n : Nat) (b : Addr) (items2 : Array Value) (n2 : Nat) (dd : Option Addr) (sl : Array (Option Value)) (hs0 : ¬(!items.isEmpty && Builtin.List.listTooLong (items.size + items2.size)) = true) (hs1 : items.size ≤ sizeLine) (hs2 : items.size + items2.size ≤ sizeLine + 1) :
    Meets (Builtin.«list.extend» ⟨[.ref l, .ref b], []⟩) (fun _ R s => s.heap.get? l = some { cls := .type "list", dict := none, data := .seq items n, slots := #[] } ∧ s.heap.get? b = some { cls := .type "tuple", dict := dd, data := .seq items2 n2, slots := sl } ∧ R (.ok (.ret Value.none)) { s with heap := s.heap.update l (Obj.mapSeq fun x => x ++ items2), toks := s.toks }) :=
  .of_wp fun prog w A R s h => by
    obtain ⟨hp, g, d, tk, os⟩ := s; obtain ⟨hl, hb, h⟩ := h; have f1 := PySem.AutoSeq1.idx_int; have f2 := PySem.AutoSeq1.sub_tuple_tuple; have f3 := PySem.AutoSeq1.sub_list_list; have f4 := PySem.AutoSeq1.sub_tuple_list; have f5 := PySem.AutoSeq1.sub_list_tuple;
    have hz' : (items ++ items2).size ≤ sizeLine + 1 := by rw [Array.size_append]; exact hs2
    wp_walk using (wpAny_updateSeq hl rfl (hz := hs1) (_hz' := hz')), wpAny_loadPart' hl, wpAny_loadPart' hb; exact ⟨_, rfl, h⟩
end HT
namespace Z
open PySem L2 Evl PyProof.Rows
def rExtT (K : PySem.W.Frag) : V → List V → Hp → VK → Prop := fun x vs H Q => ∃ l b xs zs, x = .ref l ∧ vs = [.ref b] ∧ H l = some (.lst xs) ∧ SqT K H b zs ∧ xs.length + zs.length ≤ sizeLine ∧ Q .non (upd H l (.lst (xs ++ zs)))
theorem mt_extT {X : Cx} : MtM X "list.extend" (rExtT X.K) := by
  intro pins s σ H x vs v us Q I rx rv h
  obtain ⟨l, b, xs, zs, rfl, rfl, hH, hB, hz, q⟩ := h
  cases rx
  obtain ⟨u, rfl, ru⟩ := rv.one
  cases ru
  obtain ⟨z, its, n, r, hl, e⟩ := I.lstM hH
  obtain ⟨its2, r2, ⟨⟨cls, dd, data, sl⟩, e2, hc, n2, hd⟩, hl2⟩ := I.tuple hB
  simp only at hc hd
  subst hc hd
  have z2 := r2.length
  have hsz : its.toArray.size + its2.toArray.size ≤ sizeLine := by rw [List.size_toArray, List.size_toArray]; omega
  have hlong : ¬ (!its.toArray.isEmpty && Builtin.List.listTooLong (its.toArray.size + its2.toArray.size)) = true := by
    rw [notLongL hsz, Bool.and_false]
    exact Bool.false_ne_true
  refine call_meets F.slot_list_extend ⟨_, e, rfl⟩ F.entry_list_extend (F.args_list_extend_2 _ _)
    (HT.extend_tuple l its.toArray n b its2.toArray n2 dd sl hlong (by rw [List.size_toArray]; omega) (by omega)) ⟨e, e2, ?_⟩
  refine ⟨.non, _, I.lset (its' := its ++ its2) hH e (by simp) (r.append r2) ?_, rfl, q⟩
  rw [List.length_append]
  omega
def sExt (i : Nat) (e : EX) : SX := fun Γ => (ownAt Γ i).bind fun _ => (e Γ).bind fun x => (ownAt x.2 i).bind fun ds => match x.1 with
  | .tuple zs => if ds.length + zs.length ≤ 100000 then some (.nx (ownSet x.2 i (ds ++ zs))) else none
  | _ => none
section
variable {X : Cx} {pos : Pos}
theorem sp_ext {i : Nat} {x : Str} {px apos cpos : Pos} {e : Expr} {f : EX} (he : EP X e f)
    (hp : ∀ {te : TE}, PE X e te → PS X (.Expr (.Call (.Attribute (.Name x px) "extend" apos) [e] [] cpos) pos) (tDrop (tBM X.K "list" (rExtT X.K) (tVar i) (tCons te tNil))) := by
      intro te h1; exact ps_expr (pe_bm PySem.F.plainAttrs_list PySem.F.slot_list_extend PySem.F.type_list_extend mt_extT (pv _) (pa_cons h1 pa_nil))) :
    SP X (.Expr (.Call (.Attribute (.Name x px) "extend" apos) [e] [] cpos) pos) (sExt i f) := by
  obtain ⟨te, h1, h2⟩ := he
  refine ⟨_, hp h1, ?_⟩
  intro B Γ F σ H o R hh D hD
  obtain ⟨ds0, e0, hh⟩ := bind_eq hh
  obtain ⟨⟨r1, Γ1⟩, e1, hh⟩ := bind_eq hh
  obtain ⟨ds, e2, hh⟩ := bind_eq hh
  obtain ⟨a, vs0, ea, hF0, hH0, hd0⟩ := R.ownGet e0
  refine ⟨.ref a, ea, .inl ⟨rfl, vs0, sq_of hH0⟩, ?_⟩
  refine h2 B Γ F σ H r1 Γ1 R e1 _ fun v F1 H1 x1 R1 d1 => ?_
  split at hh
  · rename_i zs hz
    have hz' : r1 = .tuple zs := hz
    subst hz'
    split at hh
    · rename_i hl
      cases hh
      obtain ⟨a', vs, ea', hF, hH, hda⟩ := R1.ownGet e2
      rw [ea] at ea'; cases ea'
      obtain ⟨b, us, rfl, g1, g2⟩ := dp_tup d1
      exact ⟨a, b, vs, us, rfl, rfl, hH, ex_t R1.ext g1, sz_of (by rw [dpa_len hda, dpa_len g2]; exact hl), hD F1 σ _ x1 (R1.write e2 ea (dpa_app hda g2))⟩
    · cases hh
  · cases hh
@[simp] theorem z_ext {Γ : Z.Env} {i : Nat} {e : EX} : sExt i e Γ = (ownAt Γ i).bind fun _ => (e Γ).bind fun x => (ownAt x.2 i).bind fun ds => match x.1 with
  | .tuple zs => if ds.length + zs.length ≤ 100000 then some (.nx (ownSet x.2 i (ds ++ zs))) else none
  | _ => none := rfl
@[simp] theorem z_dget {Γ : Z.Env} {i : Nat} {g : EX} : eDGet i g Γ = (g Γ).bind fun y => match (y.2[i]? : Option Slot) with
  | some (.dic kvs) => match (Γ[i]? : Option Slot) with
    | some (.dic _) => (keyD y.1).bind fun k => (getP kvs k).bind fun z => some (z, y.2)
    | _ => none
  | _ => none := rfl
end
end Z
set_option Elab.async false
set_option linter.all false
set_option maxRecDepth 100000
set_option maxHeartbeats 2000000
/-! Z: dicts of the module with text keys; defs that stand in such a dict; x.extend(s), s a tuple or a list -/
namespace HT
open PySem PyProof.Rows MeetsSeq AutoSeq1 in
theorem extend_list (l : Addr) (items : Array Value) (n : Nat) (b : Addr) (items2 : Array Value) (n2 : Nat) (sl : Array (Option Value)) (hs0 : ¬(!items.isEmpty && Builtin.List.listTooLong (items.size + items2.size)) = true) (hs1 : items.size ≤ sizeLine) (hs2 : items.size + items2.size ≤ sizeLine + 1) :
    Meets (Builtin.«list.extend» ⟨[.ref l, .ref b], []⟩) (fun _ R s => s.heap.get? l = some { cls := .type "list", dict := none, data := .seq items n, slots := #[] } ∧ s.heap.get? b = some { cls := .type "list", dict := none, data := .seq items2 n2, slots := sl } ∧ R (.ok (.ret Value.none)) { s with heap := s.heap.update l (Obj.mapSeq fun x => x ++ items2), toks := s.toks }) :=
  .of_wp fun prog w A R s h => by
    obtain ⟨hp, g, d, tk, os⟩ := s; obtain ⟨hl, hb, h⟩ := h; have f1 := PySem.AutoSeq1.idx_int; have f2 := PySem.AutoSeq1.sub_tuple_tuple; have f3 := PySem.AutoSeq1.sub_list_list; have f4 := PySem.AutoSeq1.sub_tuple_list; have f5 := PySem.AutoSeq1.sub_list_tuple;
    have hz' : (items ++ items2).size ≤ sizeLine + 1 := by rw [Array.size_append]; exact hs2
    wp_walk using (wpAny_updateSeq hl rfl (hz := hs1) (_hz' := hz')), wpAny_loadPart' hl, wpAny_loadPart' hb; exact ⟨_, rfl, h⟩
end HT
namespace Z
open PySem L2 Evl PyProof.Rows
def rExtL (K : PySem.W.Frag) : V → List V → Hp → VK → Prop := fun x vs H Q => ∃ l b xs zs, x = .ref l ∧ vs = [.ref b] ∧ H l = some (.lst xs) ∧ SqL K H b zs ∧ xs.length + zs.length ≤ sizeLine ∧ Q .non (upd H l (.lst (xs ++ zs)))
theorem mt_extL {X : Cx} : MtM X "list.extend" (rExtL X.K) := by
  intro pins s σ H x vs v us Q I rx rv h
  obtain ⟨l, b, xs, zs, rfl, rfl, hH, hB, hz, q⟩ := h
  cases rx
  obtain ⟨u, rfl, ru⟩ := rv.one
  cases ru
  obtain ⟨z, its, n, r, hl, e⟩ := I.lstM hH
  obtain ⟨its2, r2, ⟨⟨cls, dd, data, sl⟩, n2, e2, hc, hdd, hd⟩, hl2⟩ := I.list hB
  simp only at hc hd hdd
  subst hc hd hdd
  have z2 := r2.length
  have hsz : its.toArray.size + its2.toArray.size ≤ sizeLine := by rw [List.size_toArray, List.size_toArray]; omega
  have hlong : ¬ (!its.toArray.isEmpty && Builtin.List.listTooLong (its.toArray.size + its2.toArray.size)) = true := by
    rw [notLongL hsz, Bool.and_false]
    exact Bool.false_ne_true
  refine call_meets F.slot_list_extend ⟨_, e, rfl⟩ F.entry_list_extend (F.args_list_extend_2 _ _)
    (HT.extend_list l its.toArray n b its2.toArray n2 sl hlong (by rw [List.size_toArray]; omega) (by omega)) ⟨e, e2, ?_⟩
  refine ⟨.non, _, I.lset (its' := its ++ its2) hH e (by simp) (r.append r2) ?_, rfl, q⟩
  rw [List.length_append]
  omega
def rExtS (K : PySem.W.Frag) : V → List V → Hp → VK → Prop := fun x vs H Q => rExtL K x vs H Q ∨ rExtT K x vs H Q
theorem mt_extS {X : Cx} : MtM X "list.extend" (rExtS X.K) := by
  intro pins s σ H x vs v us Q I rx rv h
  rcases h with h | h
  · exact mt_extL pins s σ H x vs v us Q I rx rv h
  · exact mt_extT pins s σ H x vs v us Q I rx rv h
def sExtS (i : Nat) (e : EX) : SX := fun Γ => (ownAt Γ i).bind fun _ => (e Γ).bind fun x => (ownAt x.2 i).bind fun ds => (seqOf x.1).bind fun zs => if ds.length + zs.length ≤ 100000 then some (.nx (ownSet x.2 i (ds ++ zs))) else none
section
variable {X : Cx} {pos : Pos}
theorem sp_extS {i : Nat} {x : Str} {px apos cpos : Pos} {e : Expr} {f : EX} (he : EP X e f)
    (hp : ∀ {te : TE}, PE X e te → PS X (.Expr (.Call (.Attribute (.Name x px) "extend" apos) [e] [] cpos) pos) (tDrop (tBM X.K "list" (rExtS X.K) (tVar i) (tCons te tNil))) := by
      intro te h1; exact ps_expr (pe_bm PySem.F.plainAttrs_list PySem.F.slot_list_extend PySem.F.type_list_extend mt_extS (pv _) (pa_cons h1 pa_nil))) :
    SP X (.Expr (.Call (.Attribute (.Name x px) "extend" apos) [e] [] cpos) pos) (sExtS i f) := by
  obtain ⟨te, h1, h2⟩ := he
  refine ⟨_, hp h1, ?_⟩
  intro B Γ F σ H o R hh D hD
  obtain ⟨ds0, e0, hh⟩ := bind_eq hh
  obtain ⟨⟨r1, Γ1⟩, e1, hh⟩ := bind_eq hh
  obtain ⟨ds, e2, hh⟩ := bind_eq hh
  obtain ⟨zs, e3, hh⟩ := bind_eq hh
  obtain ⟨a, vs0, ea, hF0, hH0, hd0⟩ := R.ownGet e0
  refine ⟨.ref a, ea, .inl ⟨rfl, vs0, sq_of hH0⟩, ?_⟩
  refine h2 B Γ F σ H r1 Γ1 R e1 _ fun v F1 H1 x1 R1 d1 => ?_
  split at hh
  · rename_i hl
    cases hh
    obtain ⟨a', vs, ea', hF, hH, hda⟩ := R1.ownGet e2
    rw [ea] at ea'; cases ea'
    cases d1 with
    | lst g1 g2 =>
      cases e3
      exact .inl ⟨a, _, vs, _, rfl, rfl, hH, ex_l R1.ext g1, sz_of (by rw [dpa_len hda, dpa_len g2]; exact hl), hD F1 σ _ x1 (R1.write e2 ea (dpa_app hda g2))⟩
    | tup g1 g2 =>
      cases e3
      exact .inr ⟨a, _, vs, _, rfl, rfl, hH, ex_t R1.ext g1, sz_of (by rw [dpa_len hda, dpa_len g2]; exact hl), hD F1 σ _ x1 (R1.write e2 ea (dpa_app hda g2))⟩
    | _ => cases e3
  · cases hh
@[simp] theorem z_extS {Γ : Z.Env} {i : Nat} {e : EX} : sExtS i e Γ = (ownAt Γ i).bind fun _ => (e Γ).bind fun x => (ownAt x.2 i).bind fun ds => (seqOf x.1).bind fun zs => if ds.length + zs.length ≤ 100000 then some (.nx (ownSet x.2 i (ds ++ zs))) else none := rfl
end

/-! ### dicts of the module with text keys -/
def KKey (K : PySem.W.Frag) (w : World) (mg : Str → Option Value) (x : Str) (ks : List Str) : Prop := ∃ d es n, mg x = some (.ref d) ∧ KDict K w d es n ∧ ∀ k ∈ ks, ∃ u, PySem.W.nsIn K d k = some (some u)
def pKIn (ks : List Str) : PyData → Option PyData
  | .str k => if k ∈ ks then some (.bool true) else none
  | _ => none
def KTb (K : PySem.W.Frag) (w : World) (mg : Str → Option Value) (x : Str) (tbl : List (Str × PyData)) : Prop := ∃ d, mg x = some (.ref d) ∧ ∀ k z, tbl.lookup k = some z → ∃ v, KDct K w d k v ∧ ∀ F, Dp K F v z
def pKGet (tbl : List (Str × PyData)) : PyData → Option PyData
  | .str k => tbl.lookup k
  | _ => none
section
variable {X : Cx} {pos pp : Pos} {e : Expr} {f : EX} {x : Str}
theorem ep_kin {ks : List Str} (G : KKey X.K X.w X.mg x ks) (he : EP X e f) (hg : Gl X x := by rfl) (hdb : (x == ("__debug__" : Str)) = false := by decide) : EP X (.Compare e [.In] [.Name x pp] pos) (eUn (pKIn ks) f) := by
  obtain ⟨d, es, n, h1, D, h2⟩ := G
  obtain ⟨te, a1, a2⟩ := he
  refine ⟨_, pe_cmpR (op_in_kd D) a1 (pe_glob (v := .ref d) hg h1 rfl (hd := hdb)) rfl, ?_⟩
  intro B Γ F σ H r Γ' R e Q q
  obtain ⟨⟨y, Γ1⟩, e1, e⟩ := bind_eq e
  obtain ⟨z, e2, e⟩ := bind_eq e
  cases e
  refine a2 B Γ F σ H y Γ1 R e1 _ fun v F1 H1 x1 R1 d1 => ?_
  cases d1 with
  | str k =>
    have e2' : (if k ∈ ks then some (PyData.bool true) else none) = some r := e2
    split at e2'
    · rename_i hk
      cases e2'
      obtain ⟨u, hu⟩ := h2 k hk
      exact ⟨k, some u, rfl, rfl, hu, q _ F1 H1 x1 R1 (.bl true)⟩
    · cases e2'
  | _ => cases e2
theorem ep_kget {tbl : List (Str × PyData)} (G : KTb X.K X.w X.mg x tbl) (he : EP X e f) (hg : Gl X x := by rfl) (hdb : (x == ("__debug__" : Str)) = false := by decide) (hs : PlainIx e := by exact fun _ _ => rfl) : EP X (.Subscript (.Name x pp) e pos) (eUn (pKGet tbl) f) := by
  obtain ⟨d, h1, h2⟩ := G
  obtain ⟨te, a1, a2⟩ := he
  refine ⟨_, pe_ix ix_kdict (pe_glob (v := .ref d) hg h1 rfl (hd := hdb)) a1 hs, ?_⟩
  intro B Γ F σ H r Γ' R e Q q
  obtain ⟨⟨y, Γ1⟩, e1, e⟩ := bind_eq e
  obtain ⟨z, e2, e⟩ := bind_eq e
  cases e
  refine a2 B Γ F σ H y Γ1 R e1 _ fun v F1 H1 x1 R1 d1 => ?_
  cases d1 with
  | str k =>
    obtain ⟨v, g1, g2⟩ := h2 k r e2
    exact ⟨d, k, v, rfl, rfl, g1, q _ F1 H1 x1 R1 (g2 _)⟩
  | _ => cases e2
@[simp] theorem z_kin {ks : List Str} {k : Str} : pKIn ks (.str k) = if k ∈ ks then some (.bool true) else none := rfl
@[simp] theorem z_kget {tbl : List (Str × PyData)} {k : Str} : pKGet tbl (.str k) = tbl.lookup k := rfl
end

/-! ### a def out of such a dict: m = T[k]; return tuple(m(x)) -/
/-- the def that stands in the dict x at the key -/
structure FEnt (P : Program) (w : World) (K : PySem.W.Frag) (mg : Str → Option Value) (base : Heap) (lv : Nat) (d : Addr) (k : Str) (p : List PyData → Option PyData) (f : Addr) : Prop where
  at_ : KDct K w d k (.ref f)
  kp : PySem.W.keepIn K (.ref f) = true
  run : ∃ fd ps, FnOk P w K mg base CX0 lv f fd ps (spP K 1 p) ∧ Binds K fd ps []
def FTab (P : Program) (w : World) (K : PySem.W.Frag) (mg : Str → Option Value) (base : Heap) (lv : Nat) (x : Str) (tbl : List (Str × (List PyData → Option PyData))) : Prop :=
  ∃ d, mg x = some (.ref d) ∧ ∀ k p, tbl.lookup k = some p → ∃ f, FEnt P w K mg base lv d k p f
def disp (tbl : List (Str × (List PyData → Option PyData))) : SX := fun Γ => match Γ with
  | [.val (.str z), .val d, _] => (tbl.lookup z).bind fun p => (p [d]).bind fun r => (pTuple [r]).bind fun t => some (.rt t [.val (.str z), .val d, .no])
  | _ => none
theorem bp_disp {X : Cx} {lv : Nat} {x s0 s1 s2 : Str} {tbl : List (Str × (List PyData → Option PyData))} {q1 q2 q3 q4 q5 q6 q7 q8 q9 q10 : Pos} (G : FTab X.prog X.w X.K X.mg X.base lv x tbl) (hr : Room lv X.A) (hmt : X.mg "tuple" = none) (nd : X.N.Nodup)
    (hc : ∀ {te : TE}, PE X (.Name x q3) te → True)
    (hN0 : X.N[0]? = some s0 := by rfl) (hN1 : X.N[1]? = some s1 := by rfl) (hN2 : X.N[2]? = some s2 := by rfl)
    (hv0 : Vis X.env.scope s0 := by first | exact Or.inl rfl | exact Or.inr (Or.inl rfl) | exact Or.inr (Or.inr rfl)) (hv1 : Vis X.env.scope s1 := by first | exact Or.inl rfl | exact Or.inr (Or.inl rfl) | exact Or.inr (Or.inr rfl))
    (hv2 : Vis X.env.scope s2 := by first | exact Or.inl rfl | exact Or.inr (Or.inl rfl) | exact Or.inr (Or.inr rfl)) (hl2 : Loc X.env.scope s2 := by first | exact Or.inl rfl | exact Or.inr rfl)
    (hg : Gl X x := by rfl) (hgt : Gl X "tuple" := by rfl) (hdb : (x == ("__debug__" : Str)) = false := by decide)
    (d0 : (s0 == ("__debug__" : Str)) = false := by decide) (c0 : (s0 == ("__classdict__" : Str)) = false := by decide) (d1 : (s1 == ("__debug__" : Str)) = false := by decide) (c1 : (s1 == ("__classdict__" : Str)) = false := by decide)
    (d2 : (s2 == ("__debug__" : Str)) = false := by decide) (c2 : (s2 == ("__classdict__" : Str)) = false := by decide)
    (hs : swapsWith (.Subscript (.Name x q3) (.Name s0 q4) q5) (some (.Name s2 q1)) q2.line X.env = pure false := by rfl) (hf : X.fn s2 = true ∨ X.env.scope.names.lookup s2 = some .local := by first | exact .inl rfl | exact .inr rfl | assumption)
    (hst1 : starEach [.Name s1 q8] X.env = (false, eval (.Name s1 q8) X.env) :: starEach [] X.env := by rfl)
    (hst2 : starEach [.Call (.Name s2 q7) [.Name s1 q8] [] q9] X.env = (false, eval (.Call (.Name s2 q7) [.Name s1 q8] [] q9) X.env) :: starEach [] X.env := by rfl)
    (hp1 : (backTo q9 (starEach [] X.env)).any (·.1) = false := by rfl) (hp2 : (backTo q10 (starEach [] X.env)).any (·.1) = false := by rfl) {q11 : Pos} :
    BP X [.Assign [.Name s2 q1] (.Subscript (.Name x q3) (.Name s0 q4) q5) q2, .Return (some (.Call (.Name "tuple" q6) [.Call (.Name s2 q7) [.Name s1 q8] [] q9] [] q10)) q11] (disp tbl) := by
  obtain ⟨d, h1, h2⟩ := G
  obtain ⟨rt, t1, t2⟩ := (b_tuple : CallE X (.type "tuple") pTuple)
  have call : PE X (.Call (.Name s2 q7) [.Name s1 q8] [] q9) (fun σ H Q => ∃ f k p, FEnt X.prog X.w X.K X.mg X.base lv d k p f ∧ ItX.tCallV 2 f (fun vs H Q E => spP X.K 1 p (vs ++ []) H Q E) E0 (tCons (tVar 1) tNil) σ H Q) := by
    refine ⟨fun pins s σ H Q I h => ?_⟩
    obtain ⟨f, k, p, fe, h⟩ := h
    obtain ⟨fd, ps, F, hb⟩ := fe.run
    exact (ItX.pe_callV (F.raw hb .nil) hr fe.kp pass0 hN2 hv2 (pa_cons (pe_var hN1 hv1 d1 c1) pa_nil hst1) d2 c2 hst1 hp1).run pins s σ H Q I h
  refine ⟨_, pss_cons (ps_set nd hN2 hl2 (pe_ix ix_kdict (pe_glob (v := .ref d) hg h1 rfl (hd := hdb)) (pe_var hN0 hv0 d0 c0) (fun _ _ => rfl)) hs hf)
    (pss_one (ps_ret (pe_callTy t1 hgt hmt (by decide +kernel) (pa_cons call pa_nil hst2) (by decide) (by decide) hst2 hp2))), ?_⟩
  intro B Γ F σ H o R hh D hD
  unfold disp at hh
  split at hh
  · rename_i z dd s2'
    obtain ⟨p, e1, hh⟩ := bind_eq hh
    obtain ⟨r, e2, hh⟩ := bind_eq hh
    obtain ⟨t, e3, hh⟩ := bind_eq hh
    cases hh
    obtain ⟨v0, g0, k0⟩ := R.slot 0 _ rfl
    obtain ⟨v1, g1, k1⟩ := R.slot 1 _ rfl
    obtain rfl : v0 = .str z := by cases k0; rfl
    obtain ⟨f, fe⟩ := h2 z p e1
    refine ⟨.str z, g0, d, z, .ref f, rfl, rfl, fe.at_, ?_⟩
    have R1 := R.setNo (i := 2) (o := some (V.ref f))
    have g1' : (σ.set 2 (some (V.ref f)))[1]? = some (some v1) := by rw [List.getElem?_set_ne (by decide)]; exact g1
    have l2 : 2 < σ.length := by rw [R.len]; exact Nat.lt.base 2
    refine ⟨f, z, p, fe, by rw [List.getElem?_set_self l2], v1, g1', rfl, F, [dd], r, R1.ext, R1.pl, .cons k1 .nil, e2, fun v F' H' gr dv => ?_⟩
    refine t2 F' H' [v] [r] t gr.ok (gr.pl R1.pl) (.cons dv .nil) e3 _ fun u F2 H2 gr2 du => ?_
    exact hD u F2 _ H2 (gr.ext.trans gr2.ext) ((R1.grow gr).grow gr2) du
  · cases hh
@[simp] theorem z_disp {tbl : List (Str × (List PyData → Option PyData))} {z : Str} {d : PyData} {s : Slot} : disp tbl [.val (.str z), .val d, s] = (tbl.lookup z).bind fun p => (p [d]).bind fun r => (pTuple [r]).bind fun t => some (.rt t [.val (.str z), .val d, .no]) := rfl
end Z
namespace Z
open PySem L2 Evl PyProof.Rows
/-- which defs stand in the dict x -/
def FNames (K : PySem.W.Frag) (w : World) (mg : Str → Option Value) (x : Str) (ns : List (Str × Str)) : Prop := ∃ d, mg x = some (.ref d) ∧ ∀ k y, ns.lookup k = some y → ∃ f, mg y = some (.ref f) ∧ KDct K w d k (.ref f)
inductive FOk (P : Program) (w : World) (K : PySem.W.Frag) (mg : Str → Option Value) (base : Heap) (lv : Nat) : List (Str × Str) → List (Str × (List PyData → Option PyData)) → Prop
  | nil : FOk P w K mg base lv [] []
  | cons {k y : Str} {st : Stmt} {ps : List Str} {p : List PyData → Option PyData} {ns : List (Str × Str)} {ts : List (Str × (List PyData → Option PyData))} (h : Ok P w K mg base lv y st ps (spP K 1 p)) (r : FOk P w K mg base lv ns ts) : FOk P w K mg base lv ((k, y) :: ns) ((k, p) :: ts)
section
variable {P : Program} {w : World} {K : PySem.W.Frag} {mg : Str → Option Value} {base : Heap} {lv : Nat}
theorem fok_get : ∀ {ns : List (Str × Str)} {ts : List (Str × (List PyData → Option PyData))} (h : FOk P w K mg base lv ns ts) (k : Str) (p : List PyData → Option PyData), ts.lookup k = some p →
    ∃ y st ps, ns.lookup k = some y ∧ Ok P w K mg base lv y st ps (spP K 1 p)
  | _, _, .nil, k, p, e => by cases e
  | _, _, .cons (k := k0) (y := y) (st := st) (ps := ps) h r, k, p, e => by
    rw [List.lookup_cons] at e ⊢
    by_cases hk : (k == k0) = true
    · rw [hk] at e ⊢; cases e; exact ⟨y, st, ps, rfl, h⟩
    · rw [Bool.not_eq_true] at hk; rw [hk] at e ⊢; exact fok_get r k p e
theorem ftab_of {x : Str} {ns : List (Str × Str)} {ts : List (Str × (List PyData → Option PyData))} (N : FNames K w mg x ns) (h : FOk P w K mg base lv ns ts) : FTab P w K mg base lv x ts := by
  obtain ⟨d, h1, h2⟩ := N
  refine ⟨d, h1, fun k p e => ?_⟩
  obtain ⟨y, st, ps, e1, f, fd, F, g, bi, G⟩ := fok_get h k p e
  obtain ⟨f', g', kd⟩ := h2 k y e1
  rw [g] at g'
  cases g'
  exact ⟨f, kd, F.kp, fd, ps, G, bi⟩
end
/-- a written tuple -/
theorem dp_ktup {K : PySem.W.Frag} {t : Addr} {od : Option Addr} {its : Array Value} {n : Nat} {sl : Array (Option Value)} {vs : List V} {ds : List PyData} (h : K.lookup t = some ⟨.type "tuple", od, .seq its n, sl⟩) (hz : ds.length ≤ 100000) (hv : Vals vs its.toList) (hd : ∀ F, DpAll K F vs ds) : ∀ F, Dp K F (.ref t) (.tuple ds) :=
  fun F => .tup (.inr ⟨_, its, n, h, rfl, rfl, by
    have h1 : vs.length = its.toList.length := hv.length
    have h2 : its.toList.length = its.size := Array.length_toList
    rw [← h2, ← h1, dpa_len (hd F)]
    exact sz_of hz, hv⟩) (hd F)
theorem ktb_of {K : PySem.W.Frag} {w : World} {mg : Str → Option Value} {x : Str} {d : Addr} {tbl : List (Str × PyData)} (h : mg x = some (.ref d)) (g : ∀ k z, tbl.lookup k = some z → ∃ v, KDct K w d k v ∧ ∀ F, Dp K F v z) : KTb K w mg x tbl := ⟨d, h, g⟩
theorem fnames_cons {K : PySem.W.Frag} {w : World} {mg : Str → Option Value} {d : Addr} {k0 y0 : Str} {ns : List (Str × Str)} {f0 : Addr} (h1 : mg y0 = some (.ref f0)) (h2 : KDct K w d k0 (.ref f0)) (r : ∀ k y, ns.lookup k = some y → ∃ f, mg y = some (.ref f) ∧ KDct K w d k (.ref f)) :
    ∀ k y, ((k0, y0) :: ns).lookup k = some y → ∃ f, mg y = some (.ref f) ∧ KDct K w d k (.ref f) := fun k y e => by
  rw [List.lookup_cons] at e
  by_cases hk : (k == k0) = true
  · rw [hk] at e; cases e; rw [eq_of_beq hk]; exact ⟨f0, h1, h2⟩
  · rw [Bool.not_eq_true] at hk; rw [hk] at e; exact r k y e
theorem fnames_nil {K : PySem.W.Frag} {w : World} {mg : Str → Option Value} {d : Addr} : ∀ k y, ([] : List (Str × Str)).lookup k = some y → ∃ f, mg y = some (.ref f) ∧ KDct K w d k (.ref f) := fun _ _ e => by cases e
theorem kt_cons {K : PySem.W.Frag} {w : World} {d : Addr} {k0 : Str} {z0 : PyData} {v0 : V} {ns : List (Str × PyData)} (h1 : KDct K w d k0 v0) (h2 : ∀ F, Dp K F v0 z0) (r : ∀ k z, ns.lookup k = some z → ∃ v, KDct K w d k v ∧ ∀ F, Dp K F v z) :
    ∀ k z, ((k0, z0) :: ns).lookup k = some z → ∃ v, KDct K w d k v ∧ ∀ F, Dp K F v z := fun k z e => by
  rw [List.lookup_cons] at e
  by_cases hk : (k == k0) = true
  · rw [hk] at e; cases e; rw [eq_of_beq hk]; exact ⟨v0, h1, h2⟩
  · rw [Bool.not_eq_true] at hk; rw [hk] at e; exact r k z e
theorem kt_nil {K : PySem.W.Frag} {w : World} {d : Addr} : ∀ k z, ([] : List (Str × PyData)).lookup k = some z → ∃ v, KDct K w d k v ∧ ∀ F, Dp K F v z := fun _ _ e => by cases e
end Z
namespace Z
open PySem L2 Evl PyProof.Rows
/-! ### a test that only looks at own lists -/
def tBor (t : TX) : TX := fun Γ => (t (Γ.map Slot.shown)).bind fun x => some (x.1, Γ)
theorem ev_tbor {K : PySem.W.Frag} {tt : TT} {t : TX} (he : EvT K tt t) : EvT K tt (tBor t) := by
  intro B Γ F σ H r Γ' R h Q q
  obtain ⟨⟨x, Γ1⟩, e1, h⟩ := bind_eq h
  cases h
  refine he _ _ _ σ H x Γ1 R.shown e1 Q fun F' H' ex R' => ?_
  exact q F H' (Ex.refl F) (R.after fun b o h => R'.frame b o h (fun z => z) (fun z => z))
theorem tp_bor {X : Cx} {e : Expr} {t : TX} (h : TP X e t) : TP X e (tBor t) := by
  obtain ⟨tt, h1, h2⟩ := h
  exact ⟨tt, h1, ev_tbor h2⟩
@[simp] theorem z_tbor {t : TX} {Γ : Z.Env} : tBor t Γ = (t (Γ.map Slot.shown)).bind fun x => some (x.1, Γ) := rfl
end Z
namespace Z
open PySem L2 Evl PyProof.Rows
/-! ### products with a short factor, of any size -/
def CMul3 (i j : Int) : Prop := i.natAbs < 2 ^ 64 ∨ j.natAbs < 2 ^ 64 ∨ i.natAbs.log2 + j.natAbs.log2 < 1000000
instance (i j : Int) : Decidable (CMul3 i j) := inferInstanceAs (Decidable (_ ∨ _ ∨ _))
theorem bits_short {i : Int} (h : i.natAbs < 2 ^ 64) : Builtin.Int.intBits i ≤ 64 := by
  by_cases h0 : i.natAbs = 0
  · have : i = 0 := by omega
    subst this; decide
  · have := (Nat.log2_lt h0).mpr h
    have b : Builtin.Int.intBits i ≤ i.natAbs.log2 + 1 := by unfold Builtin.Int.intBits; split <;> omega
    omega
theorem op_mul3 {X : Cx} : OpR X (binaryOp .Mult) (rI CMul3 fun i j => .int (i * j)) := opI fun i j _ _ _ _ _ hc q => by
  rcases hc with h | h | h
  · exact mul_int q (.of_left (bits_short h))
  · exact mul_int q (.of_right (bits_short h))
  · exact mul_int q (CMulW.ok h)
def pMul3 : PyData → PyData → Option PyData
  | .int i, .int j => if i.natAbs < 2 ^ 64 ∨ j.natAbs < 2 ^ 64 ∨ i.natAbs.log2 + j.natAbs.log2 < 1000000 then some (.int (i * j)) else none
  | _, _ => none
theorem o_mul3 {X : Cx} : OpE X (binaryOp .Mult) pMul3 := ⟨_, op_mul3, opp_int fun d e z h => by
  unfold pMul3 at h
  split at h
  · rename_i i j
    split at h
    · rename_i hc
      cases h
      exact ⟨i, j, rfl, rfl, hc, fun _ => .int _⟩
    · cases h
  · cases h⟩
@[simp] theorem z_mul3 {i j : Int} : pMul3 (.int i) (.int j) = if i.natAbs < 2 ^ 64 ∨ j.natAbs < 2 ^ 64 ∨ i.natAbs.log2 + j.natAbs.log2 < 1000000 then some (.int (i * j)) else none := rfl
end Z
namespace Z
open PySem L2 Evl PyProof.Rows
/-! ### names from a tuple or a list -/
def gxSeq (n : Nat) (k : List PyData → Env → Option Env) : PyData → Env → Option Env := fun d Γ => (seqOf d).bind fun ds => if ds.length = n then k ds Γ else none
theorem gp_seq {X : Cx} {pos : Pos} {es : List Expr} {kk : Nat} {k : List PyData → Env → Option Env} {S : List Nat} (hc : X.calm = true) (h : GPs X es k S) {n : Nat} (hn : es.length = n := by rfl)
    (hp : ∀ {t : TGs} (h : PGs X es t), PG X (.Tuple es kk pos) (gTup X.K n t) := by intro t h; exact pg_tup (by rfl) h)
    (hp2 : ∀ {t : TGs} (h : PGs X es t), PG X (.Tuple es kk pos) (gUnl X.K n t) := by intro t h; exact pg_unl (by rfl) h) : GP X (.Tuple es kk pos) (gxSeq n k) S := by
  obtain ⟨tk, b1, b2⟩ := h
  have both : PG X (.Tuple es kk pos) (fun v σ H Q => gTup X.K n tk v σ H Q ∨ gUnl X.K n tk v σ H Q) := ⟨fun pins s σ H v u Q I r h => by
    rcases h with h | h
    · exact (hp b1).run pins s σ H v u Q I r h
    · exact (hp2 b1).run pins s σ H v u Q I r h⟩
  refine ⟨_, both, fun B Γ F σ H v d Γ' R hd e Q q => ?_⟩
  obtain ⟨ds, e1, e0⟩ := bind_eq e
  split at e0
  · rename_i hl
    clear e
    have e := e0
    cases hd with
    | tup hs ha => cases e1; exact .inl ⟨_, _, rfl, ex_t R.ext hs, (dpa_len ha).trans hl, b2 B Γ F σ H _ _ Γ' R ha e Q q⟩
    | lst hs ha => cases e1; exact .inr ⟨_, _, rfl, ex_l R.ext hs, (dpa_len ha).trans hl, b2 B Γ F σ H _ _ Γ' R ha e Q q⟩
    | _ => cases e1
  · cases e0
@[simp] theorem z_gseq {kx : List PyData → Z.Env → Option Z.Env} {d : PyData} {n : Nat} {Γ : Z.Env} : gxSeq n kx d Γ = (seqOf d).bind fun ds => if ds.length = n then kx ds Γ else none := rfl
end Z
namespace Z
open PySem L2
theorem rv_int (i : Int) (t : Tok) : RelV (.int i) (.int i t) := ⟨t, rfl⟩
theorem rv_str (x : Str) (t : Tok) : RelV (.str x) (.str x t) := ⟨t, rfl⟩
theorem rv_ref (a : Addr) : RelV (.ref a) (.ref a) := rfl
theorem rv_bl (b : Bool) : RelV (.bl b) (.bool b) := rfl
theorem rv_non : RelV .non .none := rfl
end Z
namespace Z
open PySem L2 Evl PyProof.Rows
/-- f() -/
theorem ep_o0 {X : Cx} {pos pp : Pos} {x : Str} {st : Stmt} {ps : List Str} {lv n : Nat} {p : List PyData → Option PyData} (G : Ok X.prog X.w X.K X.mg X.base lv x st ps (spP X.K n p)) (hr : Room lv X.A) (hn : n = 0) (hg : Gl X x := by rfl) (hdb : (x == ("__debug__" : Str)) = false := by decide) :
    EP X (.Call (.Name x pp) [] [] pos) (eCall p aNil) := by
  obtain ⟨f, fd, F, g, bi, G⟩ := G
  have ev : EvA X.K tNil aNil := fun B Γ F σ H rs Γ' R e Q q => by cases e; exact q [] F H (Ex.refl F) R .nil
  exact ⟨_, pe_call0 G hr hg g F.kp bi .nil pass0 hdb, ev_fn (fun Γ x h => by cases h; exact hn.symm) ev⟩
end Z
namespace Z
open PySem L2 Evl PyProof.Rows
/-- list(e): a new list of one's own -/
def nList (f : EX) : NX := fun Γ => (f Γ).bind fun x => (seqOf x.1).bind fun xs => some (.own xs, x.2)
theorem np_list {X : Cx} {e : Expr} {f : EX} {p pos : Pos} (hm : X.mg "list" = none) (he : EP X e f) (hg : Gl X "list" := by rfl) (na : starEach [e] X.env = (false, eval e X.env) :: starEach [] X.env := by rfl) (hpl : (backTo pos (starEach [] X.env)).any (·.1) = false := by rfl) : NP X (.Call (.Name "list" p) [e] [] pos) (nList f) := by
  obtain ⟨te, h1, h2⟩ := he
  refine ⟨_, pe_callTy call_list_of hg hm (by decide +kernel) (pa_cons h1 pa_nil na) (by decide) (by decide) na hpl, ?_⟩
  intro B Γ F σ H r Γ' R e Q q
  obtain ⟨⟨d, Γ1⟩, e1, e⟩ := bind_eq e
  obtain ⟨xs, e2, e⟩ := bind_eq e
  cases e
  refine h2 B Γ F σ H d Γ1 R e1 _ fun v F1 H1 x1 R1 d1 => ?_
  cases d1 with
  | lst g1 g2 =>
    cases e2
    exact ⟨_, _, rfl, .inl (ex_l R1.ext g1), fun p hp => q _ F1 _ x1 (R1.hide hp) ⟨p, _, rfl, .laid R1 hp, .inl (R1.fresh p hp), g2⟩⟩
  | tup g1 g2 =>
    cases e2
    exact ⟨_, _, rfl, .inr (ex_t R1.ext g1), fun p hp => q _ F1 _ x1 (R1.hide hp) ⟨p, _, rfl, .laid R1 hp, .inl (R1.fresh p hp), g2⟩⟩
  | _ => cases e2
@[simp] theorem z_nlist {f : EX} {Γ : Z.Env} : nList f Γ = (f Γ).bind fun x => (seqOf x.1).bind fun xs => some (.own xs, x.2) := rfl
end Z
set_option Elab.async false
set_option linter.all false
set_option maxRecDepth 100000
set_option maxHeartbeats 2000000
/-! Z: count and index of tuples and lists of ints; x[k] += n; two fors; all([..]) -/
namespace Z
open PySem PySem.Spec L2 Evl PyProof.Rows
theorem plT_of {K : PySem.W.Frag} (hK : KT K) {F H : Hp} {v : V} {ds : List PyData} (ex : Ex F H) (pl : Pl F) (h : Dp K F v (.tuple ds)) : ∃ a vs, v = .ref a ∧ PlT K H a vs ∧ SqT K F a vs ∧ DpAll K F vs ds := by
  cases h with
  | tup h1 h2 =>
    rename_i a vs
    refine ⟨a, vs, rfl, ?_, h1, h2⟩
    rcases h1 with (h1 | ⟨o, h1⟩) | ⟨o, its, n, h1, h3, h4, h5, h6⟩
    · exact (pl _ _ h1).elim
    · exact .inl ⟨o, ex _ _ h1, pl _ _ h1⟩
    · exact .inr ⟨o, its, n, h1, h3, hK a o h1 h3, h4, h5, h6⟩
def rCntT (K : PySem.W.Frag) : V → List V → Hp → VK → Prop := fun x xs H Q => ∃ (p : Addr) (ns : List Int) (k : Int), x = .ref p ∧ xs = [.int k] ∧ SqT K H p (ns.map V.int) ∧ Q (.int (ns.count k : Nat)) H
theorem mt_tcount {X : Cx} : MtR X "tuple.count" (rCntT X.K) := by
  intro pins s σ H x xs v us Q I rx rxs h
  obtain ⟨p, ns, k, rfl, rfl, hs, q⟩ := h
  cases rx
  obtain ⟨u, rfl, t, rfl⟩ := rxs.one
  obtain ⟨its, rv, ⟨⟨cls, dd, data, sl⟩, ho, hc, n, hd⟩, hlen⟩ := I.tuple hs
  simp only at hc hd
  subst hc hd
  have hi := ints_of_vals rv
  refine call_meets PySem.F.slot_tuple_count ⟨_, ho, rfl⟩ PySem.F.entry_tuple_count (PySem.F.args_tuple_count_2 _ _)
    (SeqAt.tuple_countAt p its.toArray n dd sl (.int k t) (eqk k)) ⟨ho, fun y hy => (eqk_gives hi y (by simpa using hy)).at _ _, ?_⟩
  have ec : its.toArray.toList.countP (eqk k) = ns.count k := eqk_count hi
  rw [ec]
  exact ⟨.int (ns.count k : Nat), H, I.tok _, ⟨s.toks, rfl⟩, q⟩
def rIdxT (K : PySem.W.Frag) : V → List V → Hp → VK → Prop := fun x xs H Q => ∃ (p : Addr) (ns : List Int) (k : Int), x = .ref p ∧ xs = [.int k] ∧ SqT K H p (ns.map V.int) ∧ k ∈ ns ∧ Q (.int (ns.idxOf k : Nat)) H
theorem mt_tindex {X : Cx} : MtR X "tuple.index" (rIdxT X.K) := by
  intro pins s σ H x xs v us Q I rx rxs h
  obtain ⟨p, ns, k, rfl, rfl, hs, hk, q⟩ := h
  cases rx
  obtain ⟨u, rfl, t, rfl⟩ := rxs.one
  obtain ⟨its, rv, pt, hlen⟩ := I.tuple hs
  obtain ⟨o, ho, hc, n, hd⟩ := pt
  exact PySem.SeqAt.tuple_index_ints (vs := its) ⟨o, ho, hc, n, hd⟩ (ints_of_vals rv) hk ⟨.int (ns.idxOf k : Nat), H, I.tok _, ⟨s.toks, rfl⟩, q⟩
def pCount (d e : PyData) : Option PyData := match e with
  | .int k => (seqOf d).bind fun xs => (intsOf xs).bind fun ns => some (.int (ns.count k : Nat))
  | _ => none
def pIndex (d e : PyData) : Option PyData := match d, e with
  | .tuple xs, .int k => (intsOf xs).bind fun ns => if k ∈ ns then some (.int (ns.idxOf k : Nat)) else none
  | _, _ => none
section
variable {X : Cx} {o e : Expr} {f g : EX} {apos cpos : Pos}
theorem ep_count (hK : KT X.K) (hf : EP X o f) (hg : EP X e g)
    (hp : ∀ {to te : TE}, PE X o to → PE X e te → PE X (.Call (.Attribute o "count" apos) [e] [] cpos) (tTM X.K (rCntT X.K) to (tCons te tNil)) := by
      intro to te h1 h2; exact pe_tm PySem.F.plainAttrs_tuple PySem.F.slot_tuple_count PySem.F.type_tuple_count mt_tcount h1 (pa_cons h2 pa_nil))
    (hp2 : ∀ {to te : TE}, PE X o to → PE X e te → PE X (.Call (.Attribute o "count" apos) [e] [] cpos) (tBM X.K "list" (rCntI X.K) to (tCons te tNil)) := by
      intro to te h1 h2; exact pe_bm PySem.F.plainAttrs_list PySem.F.slot_list_count PySem.F.type_list_count mt_lcount h1 (pa_cons h2 pa_nil)) :
    EP X (.Call (.Attribute o "count" apos) [e] [] cpos) (eOp pCount f g) := by
  obtain ⟨to, a1, a2⟩ := hf
  obtain ⟨te, b1, b2⟩ := hg
  have both : PE X (.Call (.Attribute o "count" apos) [e] [] cpos) (fun σ H Q => tTM X.K (rCntT X.K) to (tCons te tNil) σ H Q ∨ tBM X.K "list" (rCntI X.K) to (tCons te tNil) σ H Q) := ⟨fun pins s σ H Q I h => by
    rcases h with h | h
    · exact (hp a1 b1).run pins s σ H Q I h
    · exact (hp2 a1 b1).run pins s σ H Q I h⟩
  refine ⟨_, both, ?_⟩
  intro B Γ F σ H z Γ' R h Q q
  obtain ⟨⟨x, Γ1⟩, h1, h⟩ := bind_eq h
  obtain ⟨⟨y, Γ2⟩, h2, h⟩ := bind_eq h
  obtain ⟨z', h3, h⟩ := bind_eq h
  cases h
  cases y with
  | int k =>
    obtain ⟨xs, e1, h3⟩ := bind_eq h3
    obtain ⟨ns, e2, h3⟩ := bind_eq h3
    cases h3
    have en := intsOf_eq e2
    cases x with
    | tuple ys =>
      cases e1
      refine .inl (a2 B Γ F σ H _ Γ1 R h1 _ fun v F1 H1 x1 R1 d1 => ?_)
      obtain ⟨a, vs, rfl, pt, _, dd⟩ := plT_of hK R1.ext R1.pl d1
      obtain ⟨_, _, rfl', s1, d2⟩ := dp_tup d1
      cases rfl'
      refine ⟨⟨a, vs, rfl, pt⟩, b2 B Γ1 F1 σ H1 _ Γ2 R1 h2 _ fun u F2 H2 x2 R2 d3 => ?_⟩
      obtain rfl : u = .int k := by cases d3; rfl
      have dd' := dd
      rw [en] at dd'
      have ev := dpa_ints_of dd'
      have sq := (plT_of hK R2.ext R2.pl (dp_mono x2 d1))
      obtain ⟨a', vs', ea, pt2, sq2, dd2⟩ := sq
      cases ea
      rw [en] at dd2
      have ev2 := dpa_ints_of dd2
      refine ⟨a, ns, k, rfl, rfl, ?_, q _ F2 H2 (x1.trans x2) R2 (.int _)⟩
      rw [← ev2]
      exact ex_t R2.ext sq2
    | list ys =>
      cases e1
      refine .inr (a2 B Γ F σ H _ Γ1 R h1 _ fun v F1 H1 x1 R1 d1 => ?_)
      obtain ⟨a, vs, rfl, s1, d2⟩ := dp_list d1
      refine ⟨.inl ⟨rfl, vs, ex_l R1.ext s1⟩, b2 B Γ1 F1 σ H1 _ Γ2 R1 h2 _ fun u F2 H2 x2 R2 d3 => ?_⟩
      obtain rfl : u = .int k := by cases d3; rfl
      rw [en] at d2
      have ev := dpa_ints_of d2
      refine ⟨a, ns, k, rfl, rfl, ?_, q _ F2 H2 (x1.trans x2) R2 (.int _)⟩
      rw [← ev]
      exact ex_l R2.ext (ex_l x2 s1)
    | _ => cases e1
  | _ => cases h3
theorem ep_index (hK : KT X.K) (hf : EP X o f) (hg : EP X e g)
    (hp : ∀ {to te : TE}, PE X o to → PE X e te → PE X (.Call (.Attribute o "index" apos) [e] [] cpos) (tTM X.K (rIdxT X.K) to (tCons te tNil)) := by
      intro to te h1 h2; exact pe_tm PySem.F.plainAttrs_tuple PySem.F.slot_tuple_index PySem.F.type_tuple_index mt_tindex h1 (pa_cons h2 pa_nil)) :
    EP X (.Call (.Attribute o "index" apos) [e] [] cpos) (eOp pIndex f g) := by
  obtain ⟨to, a1, a2⟩ := hf
  obtain ⟨te, b1, b2⟩ := hg
  refine ⟨_, hp a1 b1, ?_⟩
  intro B Γ F σ H z Γ' R h Q q
  obtain ⟨⟨x, Γ1⟩, h1, h⟩ := bind_eq h
  obtain ⟨⟨y, Γ2⟩, h2, h⟩ := bind_eq h
  obtain ⟨z', h3, h⟩ := bind_eq h
  cases h
  have hx : ∃ ys k, x = .tuple ys ∧ y = .int k := by
    cases x with
    | tuple ys => cases y with
      | int k => exact ⟨ys, k, rfl, rfl⟩
      | _ => cases h3
    | _ => cases h3
  obtain ⟨ys, k, rfl, rfl⟩ := hx
  · obtain ⟨ns, e2, h3⟩ := bind_eq h3
    split at h3
    · rename_i hk
      cases h3
      have en := intsOf_eq e2
      refine a2 B Γ F σ H _ Γ1 R h1 _ fun v F1 H1 x1 R1 d1 => ?_
      obtain ⟨a, vs, rfl, pt, _, dd⟩ := plT_of hK R1.ext R1.pl d1
      refine ⟨⟨a, vs, rfl, pt⟩, b2 B Γ1 F1 σ H1 _ Γ2 R1 h2 _ fun u F2 H2 x2 R2 d3 => ?_⟩
      obtain rfl : u = .int k := by cases d3; rfl
      obtain ⟨a', vs', ea, pt2, sq2, dd2⟩ := plT_of hK R2.ext R2.pl (dp_mono x2 d1)
      cases ea
      rw [en] at dd2
      have ev2 := dpa_ints_of dd2
      refine ⟨a, ns, k, rfl, rfl, ?_, hk, q _ F2 H2 (x1.trans x2) R2 (.int _)⟩
      rw [← ev2]
      exact ex_t R2.ext sq2
    · cases h3
@[simp] theorem z_count {d : PyData} {k : Int} : pCount d (.int k) = (seqOf d).bind fun xs => (intsOf xs).bind fun ns => some (.int (ns.count k : Nat)) := rfl
@[simp] theorem z_index {xs : List PyData} {k : Int} : pIndex (.tuple xs) (.int k) = (intsOf xs).bind fun ns => if k ∈ ns then some (.int (ns.idxOf k : Nat)) else none := rfl
end
/-! ### the end: all written tuples are plain -/
def ktB (o : Obj) : Bool := match o.cls, o.dict with
  | .type n, some _ => n != "tuple"
  | _, _ => true
theorem kt_of {K : PySem.W.Frag} (h : K.all (fun p => ktB p.2) = true) : KT K := fun a o e hc => by
  have hm : (a, o) ∈ K := by
    clear h
    induction K with
    | nil => cases e
    | cons p r ih =>
      obtain ⟨b, u⟩ := p
      rw [List.lookup_cons] at e
      by_cases q : (a == b) = true
      · rw [q] at e; cases e
        rw [eq_of_beq q]; exact List.mem_cons_self
      · rw [Bool.not_eq_true] at q
        rw [q] at e
        exact List.mem_cons_of_mem _ (ih e)
  have h1 := List.all_eq_true.mp h _ hm
  unfold ktB at h1
  rw [hc] at h1
  cases hd : o.dict with
  | none => rfl
  | some d => rw [hd] at h1; simp at h1
end Z
set_option Elab.async false
set_option linter.all false
set_option maxRecDepth 100000
set_option maxHeartbeats 2000000
/-! Z: x[k] += e, isinstance of three types, max of a tuple, all([..]) -/
namespace Z
open PySem PySem.Spec L2 Evl PyProof.Rows
/-! ### x[k] += e -/
def rGetL (K : PySem.W.Frag) : V → V → Hp → VK → Prop := fun o i H Q => ∃ p xs z v, o = .ref p ∧ i = .int z ∧ SqL K H p xs ∧ atI xs z = some v ∧ Q v H
theorem get_list {X : Cx} : PGet X (rGetL X.K) := by
  intro pins s σ H x y v u Q I rx ry h
  obtain ⟨p, xs, i, z, rfl, rfl, hq, he, q⟩ := h
  cases rx
  obtain ⟨t, rfl⟩ := ry
  obtain ⟨its, r, pl, hz⟩ := I.list hq
  obtain ⟨j, h1, h2, h3, h4, h5⟩ := atI_get he
  obtain ⟨w, ew, rw'⟩ := r.get h2
  have hl := r.length
  have hn := line63
  have fin : L2.EP X pins σ Q w s := ⟨z, H, I, rw', q⟩
  by_cases h0 : 0 ≤ i
  · have hj : i.toNat = j := by
      rw [seqIndex_of h0 h5] at h1
      exact Option.some.inj h1
    exact wpAny_getItem_list pl.isList h0 (by omega) (by rw [hj]; simpa using ew) fin
  · have hj : (i + (its.toArray.size : Int)).toNat = j := by
      rw [seqIndex_neg (by omega) h4] at h1
      rw [List.size_toArray, ← hl]
      exact Option.some.inj h1
    exact wpAny_getItem_list_neg pl.isList (by omega) (by rw [List.size_toArray] <;> omega) (by omega) (by rw [hj]; simpa using ew) fin
def sAugK (i : Nat) (k : EX) (op : Int → Int → Int) (f : EX) : SX := fun Γ => (ownAt Γ i).bind fun _ => (k Γ).bind fun y => match y.1 with
  | .int z => (ownAt y.2 i).bind fun ds => (ixN ds.length z).bind fun j => match ds[j]? with
    | some (.int a) => (f y.2).bind fun x => match x.1 with
      | .int b => (ownAt x.2 i).bind fun es => if es.length = ds.length then some (.nx (ownSet x.2 i (es.set j (.int (op a b))))) else none
      | _ => none
    | _ => none
  | _ => none
theorem sp_augK {X : Cx} {pos ps : Pos} {i : Nat} {x : Str} {px : Pos} {e k : Expr} {f h : EX} {op : Operator} {c : Int → Int → Int} (he : EP X e f) (hk : EP X k h) (ho : PIp X op (ipI c))
    (hi : X.N[i]? = some x := by rfl) (hx : Loc X.env.scope x := by first | exact Or.inl rfl | exact Or.inr rfl)
    (hp : ∀ {te ti : TE}, PE X e te → PE X k ti → PIp X op (ipI c) → PS X (.AugAssign (.Subscript (.Name x px) k ps) op e pos) (tAugS (tVar i) ti te (rGetL X.K) (ipI c) rSetL) := by intro te ti h1 h3 h4; exact ps_augS (pv _) h3 get_list h1 h4 set_list) :
    SP X (.AugAssign (.Subscript (.Name x px) k ps) op e pos) (sAugK i h c f) := by
  obtain ⟨te, h1, h2⟩ := he
  obtain ⟨ti, k1, k2⟩ := hk
  refine ⟨_, hp h1 k1 ho, ?_⟩
  intro B Γ F σ H o R hh D hD
  obtain ⟨ds0, e0, hh⟩ := bind_eq hh
  obtain ⟨⟨r2, Γ2⟩, e2, hh⟩ := bind_eq hh
  obtain ⟨a, vs0, ea, _⟩ := R.ownGet e0
  refine ⟨.ref a, ea, ?_⟩
  refine k2 B Γ F σ H r2 Γ2 R e2 _ fun u F2 H2 x2 R2 d2 => ?_
  cases d2 with
  | int z =>
    obtain ⟨ds, hn, hh⟩ := bind_eq hh
    obtain ⟨j, e3, hh⟩ := bind_eq hh
    split at hh
    · rename_i a1 ha1
      obtain ⟨⟨r1, Γ1⟩, e1, hh⟩ := bind_eq hh
      obtain ⟨a', vs, ea', hF, hH, hda⟩ := R2.ownGet hn
      rw [ea] at ea'; cases ea'
      have hv : vs[j]? = some (.int a1) := by
        obtain ⟨v, e, d⟩ := dpa_get hda ha1
        cases d
        exact e
      refine ⟨a, vs, z, .int a1, rfl, rfl, sq_of hH, ?_, ?_⟩
      · rw [← dpa_len hda] at e3
        show (ixN vs.length z).bind (fun j => vs[j]?) = _
        rw [e3]; exact hv
      · refine h2 B Γ2 F2 σ H2 r1 Γ1 R2 e1 _ fun w F3 H3 x3 R3 d3 => ?_
        cases d3 with
        | int b =>
          obtain ⟨es, he', hh⟩ := bind_eq hh
          split at hh
          · rename_i hl
            cases hh
            obtain ⟨a', vs', ea', hF', hH', hda'⟩ := R3.ownGet he'
            rw [ea] at ea'; cases ea'
            refine ⟨a1, b, rfl, rfl, a, vs', z, j, rfl, rfl, hH', by rw [dpa_len hda', hl]; exact e3, ?_⟩
            exact hD F3 σ _ (x2.trans x3) (R3.write he' ea (dpa_set (.int _) j hda'))
          · cases hh
        | _ => cases hh
    · cases hh
  | _ => cases hh
@[simp] theorem z_augK {i : Nat} {k f : EX} {c : Int → Int → Int} {Γ : Z.Env} : sAugK i k c f Γ = (ownAt Γ i).bind fun _ => (k Γ).bind fun y => match y.1 with
  | .int z => (ownAt y.2 i).bind fun ds => (ixN ds.length z).bind fun j => match ds[j]? with
    | some (.int a) => (f y.2).bind fun x => match x.1 with
      | .int b => (ownAt x.2 i).bind fun es => if es.length = ds.length then some (.nx (ownSet x.2 i (es.set j (.int (c a b))))) else none
      | _ => none
    | _ => none
  | _ => none := rfl
/-! ### all([..]) -/
def boolsOf : List PyData → Option (List Bool)
  | [] => some []
  | .bool b :: r => (boolsOf r).map (b :: ·)
  | _ :: _ => none
theorem boolsOf_eq : ∀ {xs : List PyData} {bs : List Bool}, boolsOf xs = some bs → xs = bs.map .bool
  | [], _, h => by cases h; rfl
  | x :: r, bs, h => by
    cases x with
    | bool b =>
      have h' : (boolsOf r).map (b :: ·) = some bs := h
      cases e : boolsOf r with
      | none => rw [e] at h'; cases h'
      | some q => rw [e] at h'; cases h'; rw [boolsOf_eq e]; rfl
    | _ => cases h
@[simp] theorem boolsOf_map : ∀ bs : List Bool, boolsOf (bs.map .bool) = some bs
  | [] => rfl
  | b :: r => by show (boolsOf (r.map .bool)).map (b :: ·) = _; rw [boolsOf_map r]; rfl
theorem dpa_bools {K : PySem.W.Frag} {F : Hp} : ∀ {bs : List Bool} {vs : List V}, DpAll K F vs (bs.map .bool) → vs = bs.map .bl
  | [], _, h => by cases h; rfl
  | b :: r, _, h => by
    cases h with
    | cons h1 h2 => cases h1; rw [dpa_bools h2]; rfl
def pAll : List PyData → Option PyData
  | [.list xs] => (boolsOf xs).bind fun bs => some (.bool (bs.all id))
  | _ => none
theorem b_all {X : Cx} (hc : X.calm = true) : CallE X (.builtin "all") pAll := by
  refine ⟨_, cr_all hc, ?_⟩
  intro F H xs ds z ex pl hd h Q q
  unfold pAll at h
  split at h
  · obtain ⟨v, rfl, d1⟩ := dpa1 hd
    obtain ⟨bs, hn, h⟩ := bind_eq h
    cases h
    have ey := boolsOf_eq hn
    subst ey
    obtain ⟨a, vs, rfl, h1, h2⟩ := dp_list d1
    rw [dpa_bools h2] at h1
    exact ⟨a, bs, rfl, ex_l ex h1, q _ F H (Grow.refl ex) (.bl _)⟩
  · cases h
@[simp] theorem z_all {xs : List PyData} : pAll [.list xs] = (boolsOf xs).bind fun bs => some (.bool (bs.all id)) := rfl
/-! ### max of a tuple or a list -/
theorem max_intTup {prog : Program} {w : World} {A : Around} {E : Value → Shared → Prop} {s : Shared} {l : Addr} {xs : Array (Int × Tok)} {Q : Value → Shared → Prop} (hh : A.handled = none) (hl : s.heap.IsTuple l (intItems xs)) (hne : 0 < xs.size)
    (h : ∀ v h' tk, (intItems xs)[argBest (fun i j => decide (numAt xs i > numAt xs j)) (xs.size - 1)]? = some v → (∀ b o, s.heap.get? b = some o → h'.get? b = some o) → Q v { s with heap := h', toks := tk }) :
    wpAny (model prog w) A (call (.builtin "max") [.ref l]) Q E s := by
  have hlt : l < s.heap.objs.size := by obtain ⟨_, e, _⟩ := hl; exact Heap.lt_size e
  refine call_max_walk (wpAny_pyIter_tuple hl ?_)
  refine ⟨_, _, _, _, _, _, _, rfl, Walks.tuple (A := A.in1) hh _ l (Nat.ne_of_lt hlt) (intItems xs), ⟨⟨_, Heap.get?_push_size _ rfl, rfl, rfl⟩, hl.push _⟩, fun b hb => ?_, by simpa [intItems] using hne, CmpOf.ints_gt (numAt xs) (fun _ _ => intItems_at), fun v h' tk hP hk => ?_⟩
  · show b < (s.heap.push _).objs.size
    rw [Heap.size_push]
    rcases List.mem_cons.mp hb with rfl | hb
    · exact Nat.lt_succ_self _
    · rcases List.mem_cons.mp hb with rfl | hb
      · exact Nat.lt_succ_of_lt hlt
      · cases hb
  · exact h v h' tk (by simpa [intItems] using hP) fun b o e => hk b o (fun hb => absurd (Heap.lt_size e) ((List.mem_singleton.mp hb) ▸ Nat.lt_irrefl _)) (Heap.get?_push_of_some _ e)

def rMaxT (K : PySem.W.Frag) : List V → Hp → VK → Prop := fun vs H Q => ∃ (a : Addr) (ns : List Int), vs = [V.ref a] ∧ SqT K H a (ns.map V.int) ∧ 0 < ns.length ∧ ∀ m, m ∈ ns → (∀ y, y ∈ ns → y ≤ m) → Q (.int m) H
theorem max_rawT {prog : Program} {w : World} {A : Around} {E : Value → Shared → Prop} {s : Shared} {l : Addr} {its : List Value} {ns : List Int} {Q : Value → Shared → Prop} (hh : A.handled = none) (hl : s.heap.IsTuple l its.toArray) (hi : IntsAre its ns) (hne : 0 < ns.length)
    (h : ∀ h' tk M t', (∀ b o, s.heap.get? b = some o → h'.get? b = some o) → M ∈ ns → (∀ a, a ∈ ns → a ≤ M) → Q (.int M t') { s with heap := h', toks := tk }) : wpAny (model prog w) A (call (.builtin "max") [.ref l]) Q E s := by
  obtain ⟨xs, e⟩ := hi.allInts.items
  have hn : numsOf (intItems xs).toList = ns := by rw [← e]; exact hi.numsOf
  rw [nums_intItems] at hn
  subst hn
  rw [e] at hl
  have hsz : 0 < xs.size := by simpa using hne
  refine max_intTup hh hl hsz fun v h' tk hv hk => ?_
  obtain ⟨t, rfl⟩ := intItems_at hv
  obtain ⟨h1, h2⟩ := argBest_gt (numAt xs) (xs.size - 1)
  refine h h' tk _ t hk ?_ fun a ha => ?_
  · rw [numAt_eq]; exact PySem.getD_mem (by rw [List.length_map, Array.length_toList]; omega)
  · obtain ⟨j, hj, rfl⟩ := mem_getD ha
    rw [List.length_map, Array.length_toList] at hj
    rw [← numAt_eq]; exact h2 j (by omega)
theorem cr_maxT {X : Cx} (hc : X.calm = true) : CallR X (.builtin "max") (rMaxT X.K) := by
  intro pins s σ H vs us Q I r h
  obtain ⟨a, ns, rfl, hs, hne, q⟩ := h
  obtain ⟨its, rv, pt, hlen⟩ := I.tuple hs
  rw [Vals.ref1 r]
  exact max_rawT (I.ok.hd hc) pt rv.ints hne fun h' tk m t' hk h1 h2 => ⟨.int _, H, I.kept hk, ⟨_, rfl⟩, q m h1 h2⟩
def pMax1S : List PyData → Option PyData
  | [d] => (seqOf d).bind fun xs => (intsOf xs).bind fun ns => if ns.length = 0 then none else some (.int (maxI ns))
  | _ => none
theorem b_max1S {X : Cx} (hc : X.calm = true) : CallE X (.builtin "max") pMax1S := by
  obtain ⟨r1, c1, q1⟩ := b_max1 hc
  refine ⟨_, CallR.or (cr_maxT hc) c1, ?_⟩
  intro F H xs ds z ex pl hd h Q q
  match ds, h with
  | [d], h =>
    cases d with
    | tuple ys =>
      left
      obtain ⟨v, rfl, d1⟩ := dpa1 hd
      obtain ⟨ns, hn, h⟩ := bind_eq h
      split at h
      · cases h
      · rename_i hl
        cases h
        have ey := intsOf_eq hn
        subst ey
        obtain ⟨a, vs, rfl, h1, h2⟩ := dp_tup d1
        rw [dpa_ints_of h2] at h1
        have hne : ns ≠ [] := fun e => hl (by rw [e]; rfl)
        obtain ⟨g1, g2⟩ := maxI_spec hne
        refine ⟨a, ns, rfl, ex_t ex h1, by omega, fun m hm hle => ?_⟩
        have : m = maxI ns := by have := hle _ g1; have := g2 _ hm; omega
        subst this
        exact q _ F H (Grow.refl ex) (.int _)
    | list ys =>
      right
      exact q1 F H xs _ z ex pl hd h Q q
    | _ => cases h
@[simp] theorem z_max1S {d : PyData} : pMax1S [d] = (seqOf d).bind fun xs => (intsOf xs).bind fun ns => if ns.length = 0 then none else some (.int (maxI ns)) := rfl
/-! ### isinstance(e, (T, U, V)) -/
section
variable {X : Cx}
def pIsi3 (T U W : String) : PyData → Option PyData := fun d => (isiD T d).bind fun b => (isiD U d).bind fun c => (isiD W d).bind fun a => some (.bool (b || c || a))
theorem ep_isi3 {e : Expr} {f : EX} {pp pt pu pw ptt pos : Pos} {x y w : Str} {T U W : String} {kk} (hm : X.mg "isinstance" = none) (hmT : X.mg x = none) (hbT : bootBuiltins x = some (.type T)) (hmU : X.mg y = none) (hbU : bootBuiltins y = some (.type U)) (hmW : X.mg w = none) (hbW : bootBuiltins w = some (.type W)) (he : EP X e f) (hg : Gl X "isinstance" := by rfl) (hgT : Gl X x := by rfl) (hn : x ≠ "__name__" := by decide) (hdb : (x == ("__debug__" : Str)) = false := by decide)
    (hgU : Gl X y := by rfl) (hnU : y ≠ "__name__" := by decide) (hdbU : (y == ("__debug__" : Str)) = false := by decide)
    (hgW : Gl X w := by rfl) (hnW : w ≠ "__name__" := by decide) (hdbW : (w == ("__debug__" : Str)) = false := by decide)
    (hs : starEach [e, .Tuple [.Name x pt, .Name y pu, .Name w pw] kk ptt] X.env = (false, eval e X.env) :: starEach [.Tuple [.Name x pt, .Name y pu, .Name w pw] kk ptt] X.env := by rfl) (hs2 : starEach [.Tuple [.Name x pt, .Name y pu, .Name w pw] kk ptt] X.env = (false, eval (.Tuple [.Name x pt, .Name y pu, .Name w pw] kk ptt) X.env) :: starEach [] X.env := by rfl) (hpl : (backTo pos (starEach [.Tuple [.Name x pt, .Name y pu, .Name w pw] kk ptt] X.env)).any (·.1) = false := by rfl)
    (hz : starEach [.Name x pt, .Name y pu, .Name w pw] X.env = (false, eval (.Name x pt) X.env) :: starEach [.Name y pu, .Name w pw] X.env := by rfl) (hz2 : starEach [.Name y pu, .Name w pw] X.env = (false, eval (.Name y pu) X.env) :: starEach [.Name w pw] X.env := by rfl) (hz3 : starEach [.Name w pw] X.env = (false, eval (.Name w pw) X.env) :: starEach [] X.env := by rfl) :
    EP X (.Call (.Name "isinstance" pp) [e, .Tuple [.Name x pt, .Name y pu, .Name w pw] kk ptt] [] pos) (eUn (pIsi3 T U W) f) := by
  obtain ⟨te, h1, h2⟩ := he
  refine ⟨_, pe_callB call_isiT hg hm boot_isinstance (pa_cons h1 (pa_cons (pe_tup (pa_cons (pe_bltn (v := .ty T) hgT hmT hbT rfl hn hdb) (pa_cons (pe_bltn (v := .ty U) hgU hmU hbU rfl hnU hdbU) (pa_cons (pe_bltn (v := .ty W) hgW hmW hbW rfl hnW hdbW) pa_nil hz3) hz2) hz)) pa_nil hs2) hs) (by decide) (by decide) hs hpl, ?_⟩
  intro B Γ F σ H z Γ' R h Q q
  obtain ⟨⟨d, Γ1⟩, e1, h⟩ := bind_eq h
  obtain ⟨z', e2, h⟩ := bind_eq h
  cases h
  obtain ⟨b, e3, e2⟩ := bind_eq e2
  obtain ⟨c, e4, e2⟩ := bind_eq e2
  obtain ⟨a, e5, e2⟩ := bind_eq e2
  cases e2
  refine h2 B Γ F σ H d Γ1 R e1 _ fun v F1 H1 x1 R1 d1 => ?_
  refine ⟨by show 3 ≤ sizeLine; decide, fun p hp => ?_⟩
  refine ⟨v, p, [.ty T, .ty U, .ty W], _, [.type T, .type U, .type W], b || c || a, rfl, upd_same, .cons (.ty T) (.cons (.ty U) (.cons (.ty W) .nil)), ty_of (R1.ext.trans (Ex.new hp)) R1.pl d1, ?_, q _ F1 _ x1 (R1.hide hp) (.bl _)⟩
  have k3 : PySem.W.kitAny X.K (.type (tyD d)) [.type W] = some a := by
    refine kitAny_cons (kit_ty e5) (fun e => ?_) (fun e => e)
    rw [e]; exact kitAny_nil
  have k2 : PySem.W.kitAny X.K (.type (tyD d)) [.type U, .type W] = some (c || a) := by
    refine kitAny_cons (kit_ty e4) (fun e => ?_) (fun e => ?_)
    · rw [e]; exact k3
    · rw [e]; rfl
  refine kitAny_cons (kit_ty e3) (fun e => ?_) (fun e => ?_)
  · rw [e]; exact k2
  · rw [e]; rfl
@[simp] theorem isi3_d {T U W : String} {d : PyData} : pIsi3 T U W d = (isiD T d).bind fun b => (isiD U d).bind fun c => (isiD W d).bind fun a => some (.bool (b || c || a)) := rfl
end
end Z
set_option Elab.async false
set_option linter.all false
set_option maxRecDepth 100000
set_option maxHeartbeats 2000000
/-! Z: comprehensions with two fors; a def that hands back a new list, called for its value -/
namespace Z
open PySem PySem.Spec L2 Evl PyProof.Rows
section
variable {K : PySem.W.Frag} {B : Bs} {Γ Γ' : Env} {F F' H H' : Hp} {σ : L2.St}
theorem Rel.backS {σ' : L2.St} (R : Rel K B Γ F σ H) (R' : Rel K (rebase Γ F σ H) Γ' F' σ' H') : Rel K B Γ' F' σ' H' := by
  have own1 : ∀ b, OwnAtO Γ σ b → B.H0 b = none ∨ B.Z b := fun b w => by
    rcases w with ⟨i, ds, h, e⟩ | ⟨i, ds, h, e⟩ <;>
    · obtain ⟨a, vs, e', h1, h2, h3, h4⟩ := R.slot i _ h
      rw [e] at e'; cases e'; exact h2
  have par1 : ∀ b, ParAt Γ σ b → B.M b := fun b ⟨i, ds, h, e⟩ => by
    obtain ⟨a, vs, e', h1, h2, h3, h4⟩ := R.slot i _ h
    rw [e] at e'; cases e'; exact h2
  refine ⟨R'.len, fun i s h => ?_, R'.dist, R.ext0.trans R'.ext0, R'.ext, fun b o e hm hz => ?_, fun b o e => ?_, R'.pl, fun b e => R.fresh b (R'.fresh b e)⟩
  · have q := R'.slot i s h
    cases s with
    | no => trivial
    | val d => exact q
    | dic kvs => exact q
    | fd kvs => exact q
    | own ds =>
      obtain ⟨a, vs, e, h1, h2, h3, h4⟩ := q
      refine ⟨a, vs, e, h1, ?_, h3, h4⟩
      rcases h2 with z | z
      · exact .inl (R.fresh a z)
      · exact own1 a z
    | od kvs =>
      obtain ⟨a, vs, e, h1, h2, h3, h4⟩ := q
      refine ⟨a, vs, e, h1, ?_, h3, h4⟩
      rcases h2 with z | z
      · exact .inl (R.fresh a z)
      · exact own1 a z
    | par ds => obtain ⟨a, vs, e, h1, h2, h3, h4⟩ := q; exact ⟨a, vs, e, h1, par1 a h2, h3, h4⟩
  · refine R'.frame b o (R.frame b o e hm hz) (fun z => hm (par1 b z)) fun z => ?_
    rcases own1 b z with y | y
    · rw [y] at e; cases e
    · exact hz y
  · rcases R'.newF b o e with z | z | z
    · exact R.newF b o z
    · exact .inr (.inl (R.fresh b z))
    · exact .inr (own1 b z)
theorem Hid.staysS {σ' : L2.St} {p : Addr} {o : HO} (h : Hid Γ F σ H p o) (R' : Rel K (rebase Γ F σ H) Γ' F' σ' H') : Hid Γ' F' σ' H' p o := by
  have nP : ¬ ParAt Γ σ p := fun ⟨i, ds, q, e⟩ => h.noO ⟨i, _, q, rfl, e⟩
  have nO : ¬ OwnAtO Γ σ p := fun w => by
    rcases w with ⟨i, ds, q, e⟩ | ⟨i, ds, q, e⟩ <;> exact h.noO ⟨i, _, q, rfl, e⟩
  refine ⟨R'.frame p o h.here nP nO, ?_, fun ⟨i, s, q, w, e⟩ => ?_⟩
  · cases q : F' p with
    | none => rfl
    | some u =>
      rcases R'.newF p u q with z | z | z
      · have z' : F p = some u := z
        rw [h.noF] at z'; cases z'
      · have z' : H p = none := z
        rw [h.here] at z'; cases z'
      · exact absurd z nO
  · have z := R'.slot i s q
    cases s with
    | no => cases w
    | val d => cases w
    | dic kvs => cases w
    | fd kvs => cases w
    | own ds =>
      obtain ⟨a, vs, e', _, h2, _, _⟩ := z
      rw [e] at e'; cases e'
      rcases h2 with y | y
      · have y' : H p = none := y
        rw [h.here] at y'; cases y'
      · exact nO y
    | od kvs =>
      obtain ⟨a, vs, e', _, h2, _, _⟩ := z
      rw [e] at e'; cases e'
      rcases h2 with y | y
      · have y' : H p = none := y
        rw [h.here] at y'; cases y'
      · exact nO y
    | par ds =>
      obtain ⟨a, vs, e', _, h2, _, _⟩ := z
      rw [e] at e'; cases e'
      exact nP h2

theorem Hid.wiped {p : Addr} {o : HO} (h : Hid Γ F σ H p o) (vs : List Nat) : Hid (wipeE Γ vs) F (wipe σ vs) H p o := by
  refine ⟨h.here, h.noF, fun ⟨i, s, h1, h2, h3⟩ => ?_⟩
  by_cases hi : i ∈ vs
  · have hl : i < Γ.length := by
      have := (List.getElem?_eq_some_iff.mp h1).1
      rw [wipeE_len] at this; exact this
    rw [wipeE_in hl hi] at h1
    cases h1
    cases h2
  · rw [wipeE_out hi] at h1
    rw [wipe_out hi] at h3
    exact h.noO ⟨i, s, h1, h2, h3⟩
theorem wipeE_sub {Γ : Env} {vs vs1 : List Nat} (h : ∀ i, i ∈ vs1 → i ∈ vs) : wipeE (wipeE Γ vs1) vs = wipeE Γ vs := by
  apply List.ext_getElem?
  intro i
  by_cases hi : i ∈ vs
  · by_cases hb : i < Γ.length
    · rw [wipeE_in hb hi, wipeE_in (by rw [wipeE_len]; exact hb) hi]
    · rw [List.getElem?_eq_none_iff.mpr (by rw [wipeE_len, wipeE_len]; omega), List.getElem?_eq_none_iff.mpr (by rw [wipeE_len]; omega)]
  · rw [wipeE_out hi, wipeE_out hi, wipeE_out fun z => hi (h i z)]
theorem wipe_sub {σ : L2.St} {vs vs1 : List Nat} (h : ∀ i, i ∈ vs1 → i ∈ vs) : wipe (wipe σ vs1) vs = wipe σ vs :=
  wipe_eq (wipe_length σ vs1) fun i hi => wipe_out fun z => hi (h i z)
end
/-- two fors -/
def lcLoop2 (g : PyData → Env → Option Env) (t : TX) (it1 : AX) (g1 : PyData → Env → Option Env) (t1 : TX) (f : EX) (vs vs1 : List Nat) : List PyData → List PyData → Env → Option (List PyData × Env)
  | [], acc, Γ => some (acc, Γ)
  | x :: xs, acc, Γ => (g x (wipeE Γ vs)).bind fun Γ1 => (t Γ1).bind fun c => if c.1 = true then (it1 c.2).bind fun y => (lcLoop g1 t1 f vs1 y.1 acc y.2).bind fun z => lcLoop2 g t it1 g1 t1 f vs vs1 xs z.1 z.2
    else lcLoop2 g t it1 g1 t1 f vs vs1 xs acc c.2
def nLc2 (it : AX) (g : PyData → Env → Option Env) (t : TX) (it1 : AX) (g1 : PyData → Env → Option Env) (t1 : TX) (f : EX) (vs vs1 : List Nat) : NX := fun Γ => (it Γ).bind fun x => if freeE x.2 vs = true then (lcLoop2 g t it1 g1 t1 f vs vs1 x.1 [] x.2).bind fun y => some (.own y.1, restE x.2 y.2 vs) else none
section
variable {K : PySem.W.Frag}
theorem ev_lc2 {wi wi1 : TI} {it it1 : AX} {g g1 : TG} {gx gx1 : PyData → Env → Option Env} {S S1 : List Nat} {tt tt1 : TT} {t t1 : TX} {te : TE} {f : EX} {vs vs1 : List Nat} (hi : EvI K wi it) (hg : EvG K g gx S) (hS : ∀ i, i ∈ S → i ∈ vs) (ht : EvT K tt t) (hj : EvI K wi1 it1) (hg1 : EvG K g1 gx1 S1) (hS1 : ∀ i, i ∈ S1 → i ∈ vs1) (hv : ∀ i, i ∈ vs1 → i ∈ vs) (ht1 : EvT K tt1 t1) (he : EvE K te f) :
    EvN K (tLc2 wi g tt wi1 g1 tt1 te vs vs1) (nLc2 it gx t it1 gx1 t1 f vs vs1) := by
  intro B Γ F σ H r Γ' R hh Q q
  obtain ⟨⟨xs, Γ0⟩, e1, hh⟩ := bind_eq hh
  split at hh
  · rename_i hfree
    obtain ⟨⟨out, Γe⟩, e2, hh⟩ := bind_eq hh
    cases hh
    refine hi B Γ F σ H xs Γ0 R e1 _ fun J F0 H0 x0 R0 Y => fun D hD => ?_
    have W0 := R0.wiped vs
    -- the invariant: the environment of the turn, wiped; the list made so far is hidden
    refine ⟨fun i m H' => ∃ Γ1 F1 acc ws, m = xs.length - i ∧ i ≤ xs.length ∧ Ex F0 F1 ∧ Rel K B (wipeE Γ1 vs) F1 (wipe σ vs) H' ∧ Hid (wipeE Γ1 vs) F1 (wipe σ vs) H' D (.lst ws) ∧ DpAll K F1 ws acc ∧ Γ1.length = Γ0.length ∧ lcLoop2 gx t it1 gx1 t1 f vs vs1 (xs.drop i) acc Γ1 = some (out, Γe),
      ⟨xs.length, Γ0, F0, [], [], by simp, Nat.zero_le _, Ex.refl F0, W0.hide hD, .laid W0 hD, .nil, rfl, by simpa using e2⟩, ?_⟩
    rintro i m H1 ⟨Γ1, F1, acc, ws, rfl, hi1, x1, R1, hid1, da1, hl1, h1⟩
    have hB : B.H0 D = none := R0.fresh D hD
    by_cases hlt : i < xs.length
    · right
      refine ⟨Y.go i F1 H1 x1 R1.ext R1.pl hlt, fun H' => ∃ Γ1 F1 acc ws, Ex F0 F1 ∧ Rel K B (wipeE Γ1 vs) F1 (wipe σ vs) H' ∧ Hid (wipeE Γ1 vs) F1 (wipe σ vs) H' D (.lst ws) ∧ DpAll K F1 ws acc ∧ Γ1.length = Γ0.length ∧ lcLoop2 gx t it1 gx1 t1 f vs vs1 (xs.drop (i + 1)) acc Γ1 = some (out, Γe), ?_, fun x H2 hy => ?_⟩
      · rintro H' ⟨Γ2, F2, acc2, ws2, a1, a2, a3, a4, a5, a6⟩
        exact ⟨xs.length - (i + 1), by omega, Γ2, F2, acc2, ws2, rfl, hlt, a1, a2, a3, a4, a5, a6⟩
      · obtain ⟨F2, d, gr, ed, dd⟩ := Y.yld i F1 H1 x H2 x1 R1.ext R1.pl hlt hy
        have dr : xs.drop i = d :: xs.drop (i + 1) := by
          rw [List.drop_eq_getElem_cons hlt]
          rw [List.getElem?_eq_getElem hlt] at ed
          cases ed; rfl
        rw [dr] at h1
        obtain ⟨Γ2, e3, h1⟩ := bind_eq h1
        obtain ⟨⟨c, Γ3⟩, e4, h1⟩ := bind_eq h1
        have R2 := R1.grow gr
        have nD : F2 D = none := by
          cases z : F2 D with
          | none => rfl
          | some u =>
            rcases gr.new D u z with y | y
            · rw [hid1.noF] at y; cases y
            · rw [hid1.here] at y; cases y
        have hid2 : Hid (wipeE Γ1 vs) F2 (wipe σ vs) H2 D (.lst ws) := ⟨gr.keep _ _ hid1.here, nD, hid1.noO⟩
        have A2 := R2.rebased
        refine hg (rebase (wipeE Γ1 vs) F2 (wipe σ vs) H2) (wipeE Γ1 vs) F2 (wipe σ vs) H2 x d Γ2 A2 dd e3 _ fun σ2 A3 l2 o2 => ?_
        have ew : wipe σ2 vs = wipe σ vs := by
          have e0 : wipe (wipe σ vs) vs = wipe σ vs := wipe_eq (wipe_length σ vs) fun i hi => wipe_out hi
          rw [← e0]
          exact wipe_eq l2 fun i hi => o2 i fun z => hi (hS i z)
        refine ⟨ew, ?_⟩
        refine ht _ Γ2 F2 σ2 H2 c Γ3 A3 e4 _ fun F3 H3 x3 A4 => ?_
        have back : ∀ {Γz : Env} {Fz Hz : Hp}, Rel K (rebase (wipeE Γ1 vs) F2 (wipe σ vs) H2) Γz Fz σ2 Hz → Rel K B (wipeE Γz vs) Fz (wipe σ vs) Hz ∧ Hid (wipeE Γz vs) Fz (wipe σ vs) Hz D (.lst ws) ∧ Γz.length = Γ0.length := fun {Γz Fz Hz} A => by
          have A' := A.wiped vs
          rw [ew] at A'
          refine ⟨R2.back A', hid2.stays A', ?_⟩
          have z1 := A.len
          have z2 := A2.len
          rw [wipeE_len] at z2
          rw [← z1, l2, z2, hl1]
        cases c with
        | false =>
          show ∃ Γ1 F1 acc ws, _
          obtain ⟨b1, b2, b3⟩ := back A4
          exact ⟨Γ3, F3, acc, ws, (x1.trans gr.ext).trans x3, b1, b2, dpa_mono (gr.ext.trans x3) da1, b3, h1⟩
        | true =>
          obtain ⟨⟨ys, Γ4⟩, e5, h1⟩ := bind_eq (show (it1 Γ3).bind _ = _ from h1)
          obtain ⟨⟨out1, Γi⟩, e6, h1⟩ := bind_eq h1
          show wi1 σ2 H3 _
          have R3 := R2.backS A4
          have hid3 := hid2.staysS A4
          refine hj _ Γ3 F3 σ2 H3 ys Γ4 R3.rebased e5 _ fun J1 F4 H4 x4 A5 Y1 => ?_
          have R4 := R3.back A5
          have hid4 := hid3.stays A5
          have l4 : Γ4.length = Γ0.length := by
            have z1 := R4.len
            have z2 := A2.len
            rw [wipeE_len] at z2
            rw [← z1, l2, z2, hl1]
          have W4 := R4.wiped vs1
          have x04 : Ex F0 F4 := ((x1.trans gr.ext).trans x3).trans x4
          refine ⟨fun j k H' => ∃ Γ1 F1 acc ws, k = ys.length - j ∧ j ≤ ys.length ∧ Ex F4 F1 ∧ Rel K B (wipeE Γ1 vs1) F1 (wipe σ2 vs1) H' ∧ Hid (wipeE Γ1 vs1) F1 (wipe σ2 vs1) H' D (.lst ws) ∧ DpAll K F1 ws acc ∧ Γ1.length = Γ0.length ∧ lcLoop gx1 t1 f vs1 (ys.drop j) acc Γ1 = some (out1, Γi),
            ⟨ys.length, Γ4, F4, acc, ws, by simp, Nat.zero_le _, Ex.refl F4, W4, hid4.wiped vs1, dpa_mono ((gr.ext.trans x3).trans x4) da1, l4, by simpa using e6⟩, ?_⟩
          rintro j k H5 ⟨Γ5, F5, acc5, ws5, rfl, hj1, x5, R5, hid5, da5, hl5, h5⟩
          by_cases hlt5 : j < ys.length
          · right
            refine ⟨Y1.go j F5 H5 x5 R5.ext R5.pl hlt5, fun H' => ∃ Γ1 F1 acc ws, Ex F4 F1 ∧ Rel K B (wipeE Γ1 vs1) F1 (wipe σ2 vs1) H' ∧ Hid (wipeE Γ1 vs1) F1 (wipe σ2 vs1) H' D (.lst ws) ∧ DpAll K F1 ws acc ∧ Γ1.length = Γ0.length ∧ lcLoop gx1 t1 f vs1 (ys.drop (j + 1)) acc Γ1 = some (out1, Γi), ?_, fun x H6 hy6 => ?_⟩
            · rintro H' ⟨Γ2, F2, acc2, ws2, a1, a2, a3, a4, a5, a6⟩
              exact ⟨ys.length - (j + 1), by omega, Γ2, F2, acc2, ws2, rfl, hlt5, a1, a2, a3, a4, a5, a6⟩
            · obtain ⟨F6, d6, gr6, ed6, dd6⟩ := Y1.yld j F5 H5 x H6 x5 R5.ext R5.pl hlt5 hy6
              have dr6 : ys.drop j = d6 :: ys.drop (j + 1) := by
                rw [List.drop_eq_getElem_cons hlt5]
                rw [List.getElem?_eq_getElem hlt5] at ed6
                cases ed6; rfl
              rw [dr6] at h5
              obtain ⟨Γ6, e7, h5⟩ := bind_eq h5
              obtain ⟨⟨c6, Γ7⟩, e8, h5⟩ := bind_eq h5
              have R6 := R5.grow gr6
              have nD6 : F6 D = none := by
                cases z : F6 D with
                | none => rfl
                | some u =>
                  rcases gr6.new D u z with y | y
                  · rw [hid5.noF] at y; cases y
                  · rw [hid5.here] at y; cases y
              have hid6 : Hid (wipeE Γ5 vs1) F6 (wipe σ2 vs1) H6 D (.lst ws5) := ⟨gr6.keep _ _ hid5.here, nD6, hid5.noO⟩
              have A6 := R6.rebased
              refine hg1 (rebase (wipeE Γ5 vs1) F6 (wipe σ2 vs1) H6) (wipeE Γ5 vs1) F6 (wipe σ2 vs1) H6 x d6 Γ6 A6 dd6 e7 _ fun σ3 A7 l7 o7 => ?_
              have ew7 : wipe σ3 vs1 = wipe σ2 vs1 := by
                have e0 : wipe (wipe σ2 vs1) vs1 = wipe σ2 vs1 := wipe_eq (wipe_length σ2 vs1) fun i hi => wipe_out hi
                rw [← e0]
                exact wipe_eq l7 fun i hi => o7 i fun z => hi (hS1 i z)
              refine ⟨ew7, ?_⟩
              refine ht1 _ Γ6 F6 σ3 H6 c6 Γ7 A7 e8 _ fun F7 H7 x7 A8 => ?_
              have back7 : ∀ {Γz : Env} {Fz Hz : Hp}, Rel K (rebase (wipeE Γ5 vs1) F6 (wipe σ2 vs1) H6) Γz Fz σ3 Hz → Rel K B (wipeE Γz vs1) Fz (wipe σ2 vs1) Hz ∧ Hid (wipeE Γz vs1) Fz (wipe σ2 vs1) Hz D (.lst ws5) ∧ Γz.length = Γ0.length := fun {Γz Fz Hz} A => by
                have A' := A.wiped vs1
                rw [ew7] at A'
                refine ⟨R6.back A', hid6.stays A', ?_⟩
                have z1 := A.len
                have z2 := A6.len
                rw [wipeE_len] at z2
                rw [← z1, l7, z2, hl5]
              cases c6 with
              | false =>
                show ∃ Γ1 F1 acc ws, _
                obtain ⟨b1, b2, b3⟩ := back7 A8
                exact ⟨Γ7, F7, acc5, ws5, (x5.trans gr6.ext).trans x7, b1, b2, dpa_mono (gr6.ext.trans x7) da5, b3, h5⟩
              | true =>
                obtain ⟨⟨y, Γ8⟩, e9, h5⟩ := bind_eq (show (f Γ7).bind _ = _ from h5)
                show te σ3 H7 _
                refine he _ Γ7 F7 σ3 H7 y Γ8 A8 e9 _ fun v F8 H8 x8 A9 d9 => ?_
                split at h5
                · rename_i hsz
                  obtain ⟨b1, b2, b3⟩ := back7 A9
                  have exs : Ex F5 F8 := (gr6.ext.trans x7).trans x8
                  refine ⟨ws5, b2.here, sz_lt (by rw [dpa_len da5]; exact hsz), Γ8, F8, acc5 ++ [y], ws5 ++ [v], (x5.trans exs), b1.rewrite b2 hB, ?_, dpa_app (dpa_mono exs da5) (.cons d9 .nil), b3, h5⟩
                  exact ⟨upd_same, b2.noF, b2.noO⟩
                · cases h5
          · left
            have ej : j = ys.length := by omega
            subst ej
            rw [List.drop_length] at h5
            cases h5
            have q1 := R5.wiped vs
            have q2 := hid5.wiped vs
            rw [wipeE_sub hv, wipe_sub hv, ew] at q1 q2
            exact ⟨Y1.stop F5 H5 x5 R5.ext R5.pl, Γi, F5, out1, ws5, x04.trans x5, q1, q2, da5, hl5, h1⟩
    · left
      have ei : i = xs.length := by omega
      subst ei
      rw [List.drop_length] at h1
      cases h1
      have hw : Rel K B (restE Γ0 Γe vs) F1 σ H1 := by
        have hz : restE Γ0 (wipeE Γe vs) vs = restE Γ0 Γe vs := by
          apply List.ext_getElem?
          intro i
          by_cases hi : i ∈ vs
          · by_cases hb : i < Γe.length
            · rw [restE_in (by rw [wipeE_len]; exact hb) hi, restE_in hb hi]
            · rw [List.getElem?_eq_none_iff.mpr (by rw [restE_len, wipeE_len]; omega), List.getElem?_eq_none_iff.mpr (by rw [restE_len]; omega)]
          · rw [restE_out hi, restE_out hi, wipeE_out hi]
        rw [← hz]
        exact R0.unwipe hfree x1 R1
      refine ⟨Y.stop F1 H1 x1 R1.ext R1.pl, q _ F1 H1 (x0.trans x1) hw ⟨D, ws, rfl, ⟨hid1.here, hid1.noF, fun ⟨i, s, h1, h2, h3⟩ => ?_⟩, .inl hB, da1⟩⟩
      -- not owned in the outer environment
      by_cases hi : i ∈ vs
      · have hl : i < Γe.length := by
          have := (List.getElem?_eq_some_iff.mp h1).1
          rw [restE_len] at this; exact this
        rw [restE_in hl hi] at h1
        cases h1
        have z := List.all_eq_true.mp hfree i hi
        cases w : Γ0[i]? with
        | none => rw [w] at h2; cases h2
        | some s => rw [w] at h2 z; have h2' : s.isOwn = true := h2; simp [h2'] at z
      · rw [restE_out hi] at h1
        exact hid1.noO ⟨i, s, by rw [wipeE_out hi]; exact h1, h2, by rw [wipe_out hi]; exact h3⟩
  · cases hh
end
section
variable {X : Cx} {pos : Pos}
theorem uniI {P : Type} {K : PySem.W.Frag} {Xf : P → Cx} {tg iter : Expr} {it : AX} (hK : ∀ p, (Xf p).K = K) (h : ∀ p, IP (Xf p) tg iter it) : ∃ wi, (∀ p, PI (Xf p) tg iter wi) ∧ EvI K wi it := by
  have h' : ∀ p, ∃ wi, PI (Xf p) tg iter wi ∧ EvI K wi it := fun p => by
    obtain ⟨te, h1, h2⟩ := h p
    exact ⟨te, h1, (hK p) ▸ h2⟩
  refine ⟨fun σ H Q => ∀ p, (Classical.choose (h' p)) σ H Q, fun p => ?_, ?_⟩
  · have hp := Classical.choose_spec (h' p)
    exact ⟨fun pins s σ H R I hw => hp.1.run pins s σ H R I (hw p)⟩
  · intro B Γ F σ H r Γ' R e Q q p
    have hp := Classical.choose_spec (h' p)
    exact hp.2 B Γ F σ H r Γ' R e Q q
theorem np_lc2 {elt tg iter tg1 iter1 : Expr} {ifs ifs1 : List Expr} {scope : Scope} {it it1 : AX} {gx gx1 : PyData → Env → Option Env} {S S1 : List Nat} {t t1 : TX} {f : EX} (own : List (Str × Nat)) (vs1 : List Nat) (hi : IP X tg iter it) (ok : BlkOk X.N X.env.scope scope own)
    (hg : ∀ p : Blk, GP (blkOf X scope p) tg gx S) (ht : ∀ p : Blk, TsP (blkOf X scope p) ifs t) (hj : ∀ p : Blk, IP (blkOf X scope p) tg1 iter1 it1) (hg1 : ∀ p : Blk, GP (blkOf X scope p) tg1 gx1 S1) (ht1 : ∀ p : Blk, TsP (blkOf X scope p) ifs1 t1) (he : ∀ p : Blk, EP (blkOf X scope p) elt f)
    (hc : X.calm = true) (hN : X.N.Nodup) (hS : ∀ i, i ∈ S → i ∈ own.map (·.2) := by decide) (hS1 : ∀ i, i ∈ S1 → i ∈ vs1 := by decide) (hv : ∀ i, i ∈ vs1 → i ∈ own.map (·.2) := by decide) (hs : ∀ x, foldedSetIterable iter X.env x = pure x := by intro _; rfl) (hs1 : ∀ env x, foldedSetIterable iter1 env x = pure x := by intro _ _; rfl) :
    NP X (.ListComp elt [⟨tg, iter, ifs, 0⟩, ⟨tg1, iter1, ifs1, 0⟩] scope pos) (nLc2 it gx t it1 gx1 t1 f (own.map (·.2)) vs1) := by
  obtain ⟨wi, i1, i2⟩ := hi
  obtain ⟨g, g1, g2⟩ := uniG (Xf := blkOf X scope) (K := X.K) (fun _ => rfl) hg
  obtain ⟨tt, t1', t2⟩ := uniT (Xf := blkOf X scope) (K := X.K) (fun _ => rfl) ht
  obtain ⟨wj, j1, j2⟩ := uniI (Xf := blkOf X scope) (K := X.K) (fun _ => rfl) hj
  obtain ⟨g', g1', g2'⟩ := uniG (Xf := blkOf X scope) (K := X.K) (fun _ => rfl) hg1
  obtain ⟨tt', t1'', t2'⟩ := uniT (Xf := blkOf X scope) (K := X.K) (fun _ => rfl) ht1
  obtain ⟨te, e1, e2⟩ := uniE (Xf := blkOf X scope) (K := X.K) (fun _ => rfl) he
  exact ⟨_, pe_lc2 hc hN i1 ok hv (fun s H C cl fp => g1 (s, H, C, cl, fp)) (fun s H C cl fp => t1' (s, H, C, cl, fp)) (fun s H C cl fp => j1 (s, H, C, cl, fp)) (fun s H C cl fp => g1' (s, H, C, cl, fp)) (fun s H C cl fp => t1'' (s, H, C, cl, fp)) (fun s H C cl fp => e1 (s, H, C, cl, fp)) hs hs1, ev_lc2 i2 g2 hS t2 j2 g2' hS1 hv t2' e2⟩
end
/-! ### a list that is handed back, as a value -/
def valL (p : List PyData → Option (List PyData)) : List PyData → Option PyData := fun ds => (p ds).bind fun xs => some (.list xs)
theorem Ok.value {P : Program} {K : PySem.W.Frag} {w : World} {mg : Str → Option Value} {base : Heap} {lv : Nat} {x : Str} {st : Stmt} {ps : List Str} {n : Nat} {p : List PyData → Option (List PyData)} (G : Ok P w K mg base lv x st ps (spL K n p)) : Ok P w K mg base lv x st ps (spP K n (valL p)) := by
  obtain ⟨f, fd, F, g, bi, G⟩ := G
  refine ⟨f, fd, F, g, bi, G.imp fun vs H Q E h => ?_⟩
  obtain ⟨hl, F0, ds, r, ex, pl, da, e, q⟩ := h
  obtain ⟨rs, e1, e⟩ := bind_eq e
  cases e
  refine ⟨hl, F0, ds, rs, ex, pl, da, e1, fun a ws F' H' gr ha hh hF hd => ?_⟩
  have ex2 : Ex F' (upd F' a (.lst ws)) := Ex.new hF
  refine q _ (upd F' a (.lst ws)) H' ⟨gr.keep, gr.ext.trans ex2, fun b w e => ?_, fun b w e => ?_, fun p => (gr.pl p).upd trivial⟩ (.lst (sq_of upd_same) (dpa_mono ex2 hd))
  · by_cases y : b = a
    · subst y; rw [upd_same] at e; cases e; exact hh
    · rw [upd_ne y] at e; exact gr.ok b w e
  · by_cases y : b = a
    · subst y; exact .inr ha
    · rw [upd_ne y] at e; exact gr.new b w e
@[simp] theorem z_valL {p : List PyData → Option (List PyData)} {ds : List PyData} : valL p ds = (p ds).bind fun xs => some (.list xs) := rfl
end Z
set_option Elab.async false
set_option linter.all false
set_option maxRecDepth 100000
set_option maxHeartbeats 2000000
/-! Z: dicts of one's own whose keys are tuples of ints and such tuples -/
namespace Z
open PySem PySem.Spec L2 Evl PyProof.Rows
/-! ### keys -/
mutual
/-- no text in it -/
def noTx : NestedKey → Bool
  | .text _ => false
  | .tup ks => noTxs ks
  | _ => true
def noTxs : List NestedKey → Bool
  | [] => true
  | k :: ks => noTx k && noTxs ks
end
mutual
theorem hash_any (w w' : World) : ∀ k : NestedKey, noTx k = true → k.hash w = k.hash w'
  | .none, _ => rfl
  | .num _, _ => rfl
  | .text _, h => by cases h
  | .tup ks, h => by
    show reduceHash (Builtin.Tuple.tupleHashOf (NestedKey.hashes w ks)) = reduceHash (Builtin.Tuple.tupleHashOf (NestedKey.hashes w' ks))
    rw [hashes_any w w' ks h]
theorem hashes_any (w w' : World) : ∀ ks : List NestedKey, noTxs ks = true → NestedKey.hashes w ks = NestedKey.hashes w' ks
  | [], _ => rfl
  | k :: ks, h => by
    have h' : (noTx k && noTxs ks) = true := h
    rw [Bool.and_eq_true] at h'
    show NestedKey.hash w k :: NestedKey.hashes w ks = NestedKey.hash w' k :: NestedKey.hashes w' ks
    rw [hash_any w w' k h'.1, hashes_any w w' ks h'.2]
end
mutual
theorem keyN_no : ∀ {d : PyData} {k : NestedKey}, keyN d = some k → noTx k = true
  | .int i, _, h => by cases h; rfl
  | .tuple xs, _, h => by
    obtain ⟨ks, h1, h2⟩ := Option.map_eq_some_iff.mp (show (keyN.keyNs xs).map NestedKey.tup = _ from h)
    subst h2
    exact keyNs_no h1
theorem keyNs_no : ∀ {xs : List PyData} {ks : List NestedKey}, keyN.keyNs xs = some ks → noTxs ks = true
  | [], _, h => by cases h; rfl
  | x :: xs, _, h => by
    obtain ⟨k, h1, h⟩ := bind_eq (show (keyN x).bind (fun k => (keyN.keyNs xs).map (k :: ·)) = _ from h)
    obtain ⟨ks, h2, h3⟩ := Option.map_eq_some_iff.mp h
    subst h3
    show (noTx k && noTxs ks) = true
    rw [keyN_no h1, keyNs_no h2]; rfl
end

theorem keyT_no {d : PyData} {k : NestedKey} (h : keyT d = some k) : noTx k = true ∧ k.depth ≤ 8 ∧ keyN d = some k ∧ ∃ xs, d = .tuple xs := by
  cases d with
  | tuple xs =>
    obtain ⟨k', h1, h2⟩ := bind_eq (show (keyN (.tuple xs)).bind _ = _ from h)
    split at h2
    · rename_i hd
      cases h2
      exact ⟨keyN_no h1, hd, h1, xs, rfl⟩
    · cases h2
  | _ => cases h
section
variable {X : Cx} {pins : List (Addr × Obj)} {σ : L2.St} {H F : Hp} {s : Shared}
mutual
theorem key_is (I : Inv X pins σ H s) (ex : Ex F H) : ∀ {d : PyData} {k : NestedKey} {v : V} {u : Value}, keyN d = some k → Dp X.K F v d → RelV v u → NestedIs s.heap k u
  | .int i, _, _, _, h, hd, r => by
    cases h
    cases hd
    obtain ⟨t, rfl⟩ := r
    exact .int i t
  | .tuple xs, _, _, _, h, hd, r => by
    obtain ⟨ks, h1, h2⟩ := Option.map_eq_some_iff.mp (show (keyN.keyNs xs).map NestedKey.tup = _ from h)
    subst h2
    obtain ⟨a, vs, rfl, g1, g2⟩ := dp_tup hd
    cases r
    obtain ⟨its, rv, ⟨o, ho, hc, n, hdd⟩, _⟩ := I.tuple (ex_t ex g1)
    exact .tup ho hc hdd (keys_are I ex h1 g2 rv)
theorem keys_are (I : Inv X pins σ H s) (ex : Ex F H) : ∀ {ds : List PyData} {ks : List NestedKey} {vs : List V} {us : List Value}, keyN.keyNs ds = some ks → DpAll X.K F vs ds → Vals vs us → NestedAll s.heap ks us
  | [], _, _, _, h, hd, r => by
    cases h
    cases hd
    cases r
    exact .nil
  | d :: ds, _, _, _, h, hd, r => by
    obtain ⟨k, h1, h⟩ := bind_eq (show (keyN d).bind (fun k => (keyN.keyNs ds).map (k :: ·)) = _ from h)
    obtain ⟨ks, h2, h3⟩ := Option.map_eq_some_iff.mp h
    subst h3
    cases hd with
    | cons e1 e2 =>
      cases r with
      | cons r1 r2 => exact .cons (key_is I ex h1 e1 r1) (keys_are I ex h2 e2 r2)
end
abbrev PW (ws : List (NestedKey × Addr × V)) (xs : List (NestedKey × Addr × Value)) : Prop := Paired (fun p q => p.1 = q.1 ∧ p.2.1 = q.2.1 ∧ RelV p.2.2 q.2.2) ws xs
theorem pw_keys : ∀ {ws : List (NestedKey × Addr × V)} {xs : List (NestedKey × Addr × Value)}, PW ws xs → ws.map (·.1) = xs.map (·.1)
  | _, _, .nil => rfl
  | _, _, .cons h r => by rw [List.map_cons, List.map_cons, h.1, pw_keys r]
theorem od_keys {K : PySem.W.Frag} : ∀ {ws : List (NestedKey × Addr × V)} {kvs : List (NestedKey × PyData)}, OdAll K F ws kvs → ws.map (·.1) = kvs.map (·.1)
  | _, _, .nil => rfl
  | _, _, .cons _ _ _ r => by rw [List.map_cons, List.map_cons, od_keys r]
theorem od_len {K : PySem.W.Frag} {ws : List (NestedKey × Addr × V)} {kvs : List (NestedKey × PyData)} (h : OdAll K F ws kvs) : ws.length = kvs.length := by
  have := congrArg List.length (od_keys h)
  simpa using this
theorem od_are (I : Inv X pins σ H s) (ex : Ex F H) : ∀ {ws : List (NestedKey × Addr × V)} {kvs : List (NestedKey × PyData)} {xs : List (NestedKey × Addr × Value)}, OdAll X.K F ws kvs → PW ws xs → ∀ x ∈ xs, (nestedKind X.prog X.w).is s.heap x.1 x.2.1
  | _, _, _, .nil, .nil, _, hx => by cases hx
  | _, _, _, .cons hk ek h r, .cons p q, x, hx => by
    rcases List.mem_cons.mp hx with rfl | hx
    · obtain ⟨g1, g2, g3, xs, rfl⟩ := keyT_no ek
      obtain ⟨p1, p2, _⟩ := p
      simp only at p1 p2
      rw [← p1, ← p2]
      exact ⟨key_is I ex g3 hk rfl, g2⟩
    · exact od_are I ex r q x hx
/-- the dict at a, in the library's words -/
theorem od_dict (I : Inv X pins σ H s) (ex : Ex F H) {a : Addr} {ws : List (NestedKey × Addr × V)} {kvs : List (NestedKey × PyData)} (h : H a = some (odHO a ws)) (ho : OdAll X.K F ws kvs) :
    (a == sysModules) = false ∧ ∃ xs, PW ws xs ∧ s.heap.DictOfH (nestedKind X.prog X.w) a xs ∧ xs.length ≤ sizeLine := by
  obtain ⟨⟨h1, h2, h3, xs, h4, o, es, ep, h5, h6, h7, h8⟩, _, _⟩ := (show ObjOk X.prog X.w H s.heap a (odHO a ws) from I.hok a _ h)
  refine ⟨h1, xs, h4, ⟨o, es, ep, h5, h6, h7, h8 X.w, od_are I ex ho h4, by rw [← pw_keys h4]; exact h3⟩, ?_⟩
  have := congrArg List.length (pw_keys h4)
  simp only [List.length_map] at this
  omega
end

/-! ### d[k] = v -/
def putW (ws : List (NestedKey × Addr × V)) (k : NestedKey) (b : Addr) (v : V) : List (NestedKey × Addr × V) := if (ws.any fun p => decide (p.1 = k)) = true then ws.map (fun p => if p.1 = k then (p.1, p.2.1, v) else p) else ws ++ [(k, b, v)]
def putN (kvs : List (NestedKey × PyData)) (k : NestedKey) (d : PyData) : List (NestedKey × PyData) := if (kvs.any fun p => decide (p.1 = k)) = true then kvs.map (fun p => if p.1 = k then (p.1, d) else p) else kvs ++ [(k, d)]
theorem any_keys {α β : Type} (k : NestedKey) : ∀ {l : List (NestedKey × α)} {m : List (NestedKey × β)}, l.map (·.1) = m.map (·.1) → (l.any fun p => decide (p.1 = k)) = (m.any fun p => decide (p.1 = k))
  | [], [], _ => rfl
  | [], _ :: _, h => by cases h
  | _ :: _, [], h => by cases h
  | p :: l, q :: m, h => by
    rw [List.map_cons, List.map_cons] at h
    injection h with h1 h2
    rw [List.any_cons, List.any_cons, h1, any_keys k h2]
theorem any_at (k : NestedKey) : ∀ xs : List (NestedKey × Addr × Value), (atKey xs k).isSome = (xs.any fun p => decide (p.1 = k))
  | [] => rfl
  | x :: xs => by
    by_cases h : x.1 = k
    · unfold atKey; rw [List.find?_cons_of_pos (by simpa using h)]; simp [h]
    · have := any_at k xs
      unfold atKey at this ⊢
      rw [List.find?_cons_of_neg (by simpa using h), this]; simp [h]
theorem pw_app : ∀ {ws ws' : List (NestedKey × Addr × V)} {xs xs' : List (NestedKey × Addr × Value)}, PW ws xs → PW ws' xs' → PW (ws ++ ws') (xs ++ xs')
  | _, _, _, _, .nil, s => s
  | _, _, _, _, .cons h r, s => .cons h (pw_app r s)
theorem pw_rep (k : NestedKey) {v : V} {u : Value} (hv : RelV v u) : ∀ {ws : List (NestedKey × Addr × V)} {xs : List (NestedKey × Addr × Value)}, PW ws xs → PW (ws.map fun p => if p.1 = k then (p.1, p.2.1, v) else p) (xs.map (putAt k u))
  | _, _, .nil => .nil
  | p :: _, q :: _, .cons h r => by
    rw [List.map_cons, List.map_cons]
    obtain ⟨h1, h2, h3⟩ := h
    by_cases e : p.1 = k
    · rw [if_pos e]
      refine .cons ?_ (pw_rep k hv r)
      unfold putAt
      rw [if_pos (h1 ▸ e)]
      exact ⟨h1, h2, hv⟩
    · rw [if_neg e]
      refine .cons ?_ (pw_rep k hv r)
      unfold putAt
      rw [if_neg (h1 ▸ e)]
      exact ⟨h1, h2, h3⟩
theorem pw_put {ws : List (NestedKey × Addr × V)} {xs : List (NestedKey × Addr × Value)} (h : PW ws xs) (k : NestedKey) (b : Addr) {v : V} {u : Value} (hv : RelV v u) : PW (putW ws k b v) (storedH xs k b u) := by
  unfold putW storedH
  rw [any_at, any_keys k (pw_keys h)]
  by_cases e : (xs.any fun p => decide (p.1 = k)) = true
  · rw [if_pos e, if_pos e]; exact pw_rep k hv h
  · rw [if_neg e, if_neg e]; exact pw_app h (.cons ⟨rfl, rfl, hv⟩ .nil)
section
variable {K : PySem.W.Frag} {F : Hp}
theorem od_app : ∀ {ws ws' : List (NestedKey × Addr × V)} {kvs kvs' : List (NestedKey × PyData)}, OdAll K F ws kvs → OdAll K F ws' kvs' → OdAll K F (ws ++ ws') (kvs ++ kvs')
  | _, _, _, _, .nil, s => s
  | _, _, _, _, .cons a b c r, s => .cons a b c (od_app r s)
theorem od_rep (k : NestedKey) {v : V} {d : PyData} (hv : Dp K F v d) : ∀ {ws : List (NestedKey × Addr × V)} {kvs : List (NestedKey × PyData)}, OdAll K F ws kvs → OdAll K F (ws.map fun p => if p.1 = k then (p.1, p.2.1, v) else p) (kvs.map fun p => if p.1 = k then (p.1, d) else p)
  | _, _, .nil => .nil
  | _, _, .cons (k := k') a b c r => by
    rw [List.map_cons, List.map_cons]
    by_cases e : k' = k
    · rw [if_pos e, if_pos e]; exact .cons a b hv (od_rep k hv r)
    · rw [if_neg e, if_neg e]; exact .cons a b c (od_rep k hv r)
theorem od_put {ws : List (NestedKey × Addr × V)} {kvs : List (NestedKey × PyData)} (h : OdAll K F ws kvs) {b : Addr} {kd : PyData} {k : NestedKey} (hk : Dp K F (.ref b) kd) (ek : keyT kd = some k) {v : V} {d : PyData} (hv : Dp K F v d) : OdAll K F (putW ws k b v) (putN kvs k d) := by
  unfold putW putN
  rw [any_keys k (od_keys h)]
  by_cases e : (kvs.any fun p => decide (p.1 = k)) = true
  · rw [if_pos e, if_pos e]; exact od_rep k hv h
  · rw [if_neg e, if_neg e]; exact od_app h (.cons hk ek hv .nil)
theorem od_noTx : ∀ {ws : List (NestedKey × Addr × V)} {kvs : List (NestedKey × PyData)}, OdAll K F ws kvs → ∀ p ∈ ws, noTx p.1 = true
  | _, _, .nil, _, hp => by cases hp
  | _, _, .cons a b c r, p, hp => by
    rcases List.mem_cons.mp hp with rfl | hp
    · exact (keyT_no b).1
    · exact od_noTx r p hp
end
theorem putN_len (kvs : List (NestedKey × PyData)) (k : NestedKey) (d : PyData) : (putN kvs k d).length ≤ kvs.length + 1 := by
  unfold putN
  split
  · rw [List.length_map]; omega
  · simp
section
variable {X : Cx} {pins : List (Addr × Obj)} {σ : L2.St} {H F : Hp} {s : Shared}
theorem od_set {A : Around} {E : Value → Shared → Prop} {Q : Unit → Shared → Prop} (hu : A.units + 64 < cLine) (I : Inv X pins σ H s) (ex : Ex F H) {a b : Addr} {ws : List (NestedKey × Addr × V)} {kvs : List (NestedKey × PyData)} {kd d : PyData} {k : NestedKey} {v : V} {u : Value}
    (h : H a = some (odHO a ws)) (ho : OdAll X.K F ws kvs) (hk : Dp X.K F (.ref b) kd) (ek : keyT kd = some k) (hv : Dp X.K F v d) (rv : RelV v u) (hl : kvs.length < 100000)
    (q : ∀ s', Inv X pins σ (upd H a (odHO a (putW ws k b v))) s' → Q () s') : wpAny (model X.prog X.w) A (setItem (.ref a) (.ref b) u) Q E s := by
  obtain ⟨hd, xs, pw, dd, hx⟩ := od_dict I ex h ho
  obtain ⟨g1, g2, g3, ys, rfl⟩ := keyT_no ek
  have hkey : (nestedKind X.prog X.w).is s.heap k b := ⟨key_is I ex g3 hk rfl, g2⟩
  have hroom : (nestedKind X.prog X.w).room A.in1 := by
    show A.in1.units + 8 < cLine
    have : A.in1.units = A.units + 1 := rfl
    omega
  refine wpAny_setItem_heap (hsz := hx) hroom hkey dd fun h' dd' hs => q _ ?_
  have pw' := pw_put pw k b rv
  have od' := od_put ho hk ek hv
  obtain ⟨o, es, ep, e1, e2, e3, e4, e5, e6⟩ := dd'
  refine d_write I (by rw [h]; exact True.intro) hs ⟨o, e1⟩ ?_
  have hlen : (putW ws k b v).length ≤ sizeLine := by
    rw [od_len od']
    have := putN_len kvs k d
    rw [sizeLine_eq]; omega
  refine ⟨⟨hd, hlen, by rw [pw_keys pw']; exact e6, _, pw', o, es, ep, e1, e2, e3, fun w => ?_⟩, ⟨o, e1⟩, fun h1 h2 φ hh => ?_⟩
  · rw [e4]
    refine List.map_congr_left fun x hx => ?_
    have : noTx x.1 = true := by
      have hm : x.1 ∈ (storedH xs k b u).map (·.1) := List.mem_map.mpr ⟨x, hx, rfl⟩
      rw [← pw_keys pw'] at hm
      obtain ⟨p, hp, e⟩ := List.mem_map.mp hm
      rw [← e]; exact od_noTx od' p hp
    show (⟨x.1.hash X.w, _, _⟩ : DictEntry) = _
    rw [hash_any X.w w x.1 this]
  · obtain ⟨z1, z2, z3, xs', z4, o', es', ep', z5, z6⟩ := φ
    exact ⟨z1, z2, z3, xs', z4, o', es', ep', hh _ z5, z6⟩
end

/-! ### the layer's rules -/
def odAt (Γ : Env) (i : Nat) : Option (List (NestedKey × PyData)) := match (Γ[i]? : Option Slot) with
  | some (.od kvs) => some kvs
  | _ => none
theorem odAt_eq {Γ : Env} {i : Nat} {kvs : List (NestedKey × PyData)} (h : odAt Γ i = some kvs) : Γ[i]? = some (.od kvs) := by
  unfold odAt at h
  split at h
  · cases h; assumption
  · cases h
theorem Rel.writeO {K : PySem.W.Frag} {B : Bs} {Γ : Env} {F H : Hp} {σ : L2.St} (R : Rel K B Γ F σ H) {i : Nat} {kvs kvs' : List (NestedKey × PyData)} {a : Addr} {ws : List (NestedKey × Addr × V)} (hs0 : Γ[i]? = some (.od kvs)) (ha : σ[i]? = some (some (.ref a))) (hd : OdAll K F ws kvs') :
    Rel K B (Γ.set i (.od kvs')) F σ (upd H a (odHO a ws)) := by
  obtain ⟨a1, ws1, e1, hF, hout, hH, _⟩ := R.slot i _ hs0
  rw [ha] at e1; cases e1
  have hl : i < Γ.length := (List.getElem?_eq_some_iff.mp hs0).1
  have nea : ∀ b o, F b = some o → b ≠ a := fun b o e z => by subst z; rw [hF] at e; cases e
  refine ⟨by rw [List.length_set]; exact R.len, fun j s h' => ?_, fun j k s t b hjk h1 h2 h3 h4 h5 h6 => ?_, R.ext0, fun b o e => ?_, fun b o e hm hz => ?_, R.newF, R.pl, fun b e => ?_⟩
  · by_cases hj : i = j
    · subst hj
      rw [List.getElem?_set_self hl] at h'
      cases h'
      exact ⟨a, ws, ha, hF, hout, upd_same, hd⟩
    · rw [List.getElem?_set_ne hj] at h'
      have q := R.slot j s h'
      cases s with
      | no => trivial
      | val d => exact q
      | dic kvs => exact q
      | fd kvs => exact q
      | own ds' =>
        obtain ⟨b, ws', e, h1, h2, h3, h4⟩ := q
        have nb : b ≠ a := fun z => R.dist i j _ _ a hj hs0 rfl h' rfl ha (z ▸ e)
        exact ⟨b, ws', e, h1, h2, by rw [upd_ne nb]; exact h3, h4⟩
      | od ds' =>
        obtain ⟨b, ws', e, h1, h2, h3, h4⟩ := q
        have nb : b ≠ a := fun z => R.dist i j _ _ a hj hs0 rfl h' rfl ha (z ▸ e)
        exact ⟨b, ws', e, h1, h2, by rw [upd_ne nb]; exact h3, h4⟩
      | par ds' =>
        obtain ⟨b, ws', e, h1, h2, h3, h4⟩ := q
        have nb : b ≠ a := fun z => R.dist i j _ _ a hj hs0 rfl h' rfl ha (z ▸ e)
        exact ⟨b, ws', e, h1, h2, by rw [upd_ne nb]; exact h3, h4⟩
  · have back : ∀ (j : Nat) (s : Slot), (Γ.set i (.od kvs'))[j]? = some s → s.isOwn = true → ∃ t : Slot, Γ[j]? = some t ∧ t.isOwn = true := fun j s q w => by
      by_cases hj : i = j
      · subst hj; exact ⟨_, hs0, rfl⟩
      · rw [List.getElem?_set_ne hj] at q; exact ⟨s, q, w⟩
    obtain ⟨s', g1, g2⟩ := back j s h1 h2
    obtain ⟨t', g3, g4⟩ := back k t h3 h4
    exact R.dist j k s' t' b hjk g1 g2 g3 g4 h5 h6
  · rw [upd_ne (nea b o e)]; exact R.ext b o e
  · by_cases hb : b = a
    · subst hb
      rcases hout with z | z
      · rw [z] at e; cases e
      · exact absurd z hz
    · rw [upd_ne hb]; exact R.frame b o e hm hz
  · by_cases hb : b = a
    · subst hb; rw [upd_same] at e; cases e
    · rw [upd_ne hb] at e; exact R.fresh b e
/-- {} -/
def nDict0 : NX := fun Γ => some (.od [], Γ)
def tOd0 : TE := fun _ H Q => ∀ p, H p = none → Q (.ref p) (upd H p (odHO p []))
section
variable {X : Cx} {pos : Pos}
theorem pe_od0 : PE X (.Dict [] [] pos) tOd0 := ⟨fun pins s σ H Q I h =>
  wpAny_Dict_empty ⟨.ref s.heap.objs.size, _, I.laid (a := s.heap.objs.size) (o := odHO s.heap.objs.size []) (t' := s.toks) (fun _ _ q => Heap.get?_push_of_some _ q) (Nat.le_refl _)
    ⟨⟨beq_eq_false_iff_ne.mpr (Ne.symm (Nat.ne_of_lt I.big)), Nat.zero_le _, List.nodup_nil, [], .nil, _, #[], 0, Heap.get?_push_size _ rfl, ⟨rfl, rfl, rfl⟩, rfl, fun _ => rfl⟩, ⟨_, Heap.get?_push_size _ rfl⟩, fun h1 h2 φ hh => by
      obtain ⟨z1, z2, z3, xs', z4, o', es', ep', z5, z6⟩ := φ
      exact ⟨z1, z2, z3, xs', z4, o', es', ep', hh _ z5, z6⟩⟩, rfl, h _ (I.hok.fresh (Nat.le_refl _))⟩⟩
theorem np_dict0 : NP X (.Dict [] [] pos) nDict0 := by
  refine ⟨_, pe_od0, ?_⟩
  intro B Γ F σ H r Γ' R e Q q
  cases e
  intro p hp
  exact q _ F _ (Ex.refl F) (R.hide hp) ⟨p, [], rfl, .laid R hp, .inl (R.fresh p hp), .nil⟩
/-- d[k] = e -/
def sDPutO (i : Nat) (k e : EX) : SX := fun Γ => (e Γ).bind fun x => (odAt x.2 i).bind fun _ => (k x.2).bind fun y => (keyT y.1).bind fun kk => (odAt y.2 i).bind fun kvs => if kvs.length < 100000 then some (.nx (y.2.set i (.od (putN kvs kk x.1)))) else none
def tOdPut (K : PySem.W.Frag) (td ty tv : TE) : TS := fun D σ H => tv σ H fun v H1 => td σ H1 fun x H2 => ty σ H2 fun y H3 => ∃ (a b : Addr) (F : Hp) (ws : List (NestedKey × Addr × V)) (kvs : List (NestedKey × PyData)) (kd d : PyData) (k : NestedKey),
  x = .ref a ∧ y = .ref b ∧ Ex F H3 ∧ H3 a = some (odHO a ws) ∧ OdAll K F ws kvs ∧ Dp K F (.ref b) kd ∧ keyT kd = some k ∧ Dp K F v d ∧ kvs.length < 100000 ∧ D.nx σ (upd H3 a (odHO a (putW ws k b v)))
theorem ps_odput {o i value : Expr} {pos' : Pos} {td ty tv : TE} (hu : X.A.units + 64 < cLine) (ho : PE X o td) (hi : PE X i ty) (hv : PE X value tv) (hs : swapsWith value (some (.Subscript o i pos')) pos.line X.env = pure false) :
    PS X (.Assign [.Subscript o i pos'] value pos) (tOdPut X.K td ty tv) := by
  refine ⟨fun pins s σ H D I h => ?_⟩
  refine wpAny_Assign_Subscript (thn (hv.run pins s σ H _ I h) fun r s1 ⟨v, H1, I1, rv, q1⟩ => thn (ho.run pins s1 σ H1 _ I1 q1) fun u s2 ⟨x, H2, I2, rx, q2⟩ => thn (hi.run pins s2 σ H2 _ I2 q2) fun iv s3 ⟨y, H3, I3, ry, q3⟩ => ?_) hs
  obtain ⟨a, b, F, ws, kvs, kd, d, k, rfl, rfl, ex, h1, h2, h3, h4, h5, h6, q⟩ := q3
  obtain rfl : u = Value.ref a := rx
  obtain rfl : iv = Value.ref b := ry
  exact od_set hu I3 ex h1 h2 h3 h4 h5 rv h6 fun s4 I4 => ⟨σ, _, I4, q⟩
theorem sp_dputO {i : Nat} {x : Str} {px : Pos} {e k : Expr} {f h : EX} {ps : Pos} (hu : X.A.units + 64 < cLine) (he : EP X e f) (hk : EP X k h)
    (hp : ∀ {te ti : TE}, PE X e te → PE X k ti → X.A.units + 64 < cLine → PS X (.Assign [.Subscript (.Name x px) k ps] e pos) (tOdPut X.K (tVar i) ti te) := by intro te ti h1 h3 h4; exact ps_odput h4 (pv _) h3 h1 (by rfl)) :
    SP X (.Assign [.Subscript (.Name x px) k ps] e pos) (sDPutO i h f) := by
  obtain ⟨te, h1, h2⟩ := he
  obtain ⟨ti, k1, k2⟩ := hk
  refine ⟨_, hp h1 k1 hu, ?_⟩
  intro B Γ F σ H o R hh D hD
  obtain ⟨⟨r1, Γ1⟩, e1, hh⟩ := bind_eq hh
  obtain ⟨kvs0, e0, hh⟩ := bind_eq hh
  obtain ⟨⟨r2, Γ2⟩, e2, hh⟩ := bind_eq hh
  obtain ⟨kk, e3, hh⟩ := bind_eq hh
  obtain ⟨kvs, e4, hh⟩ := bind_eq hh
  split at hh
  · rename_i hlen
    cases hh
    refine h2 B Γ F σ H r1 Γ1 R e1 _ fun v F1 H1 x1 R1 d1 => ?_
    obtain ⟨a, ws0, ea, _⟩ := R1.slot i _ (odAt_eq e0)
    refine ⟨.ref a, ea, ?_⟩
    refine k2 B Γ1 F1 σ H1 r2 Γ2 R1 e2 _ fun u F2 H2 x2 R2 d2 => ?_
    obtain ⟨a', ws, ea', hF, hB, hH, hd⟩ := R2.slot i _ (odAt_eq e4)
    rw [ea] at ea'; cases ea'
    obtain ⟨_, _, _, xs, rfl⟩ := keyT_no e3
    obtain ⟨b, vs, rfl, _, _⟩ := dp_tup d2
    have d1' := dp_mono x2 d1
    exact ⟨a, b, F2, ws, kvs, _, r1, kk, rfl, rfl, R2.ext, hH, hd, d2, e3, d1', hlen, hD F2 σ _ (x1.trans x2) (R2.writeO (odAt_eq e4) ea (od_put hd d2 e3 d1'))⟩
  · cases hh
/-- len(d) -/
def eDLen (i : Nat) : EX := fun Γ => (odAt Γ i).bind fun kvs => some (.int kvs.length, Γ)
def rLenO (K : PySem.W.Frag) : List V → Hp → VK → Prop := fun xs H Q => ∃ (a : Addr) (F : Hp) (ws : List (NestedKey × Addr × V)) (kvs : List (NestedKey × PyData)), xs = [V.ref a] ∧ Ex F H ∧ H a = some (odHO a ws) ∧ OdAll K F ws kvs ∧ Q (.int kvs.length) H
theorem call_lenO : CallR X (.builtin "len") (rLenO X.K) := by
  intro pins s σ H xs us Q I r h
  obtain ⟨a, F, ws, kvs, rfl, ex, ha, ho, q⟩ := h
  obtain ⟨u, rfl, ru⟩ := vals1 r
  cases ru
  obtain ⟨hd, xs, pw, dd, hx⟩ := od_dict I ex ha ho
  have hl : xs.length = kvs.length := by
    have e1 := congrArg List.length (pw_keys pw)
    have e2 := od_len ho
    simp only [List.length_map] at e1
    omega
  refine call_len_dictH hd dd (by rw [sizeLine_eq] at hx; omega) ?_
  rw [hl]
  exact ⟨.int kvs.length, H, I.tok _, ⟨_, rfl⟩, q⟩
theorem ep_dlen {x : Str} {px pp : Pos} {i : Nat} (hm : X.mg "len" = none) (hN : X.N[i]? = some x := by rfl) (hv : Vis X.env.scope x := by first | exact Or.inl rfl | exact Or.inr (Or.inl rfl) | exact Or.inr (Or.inr rfl)) (hd : (x == ("__debug__" : Str)) = false := by decide)
    (hcd : (x == ("__classdict__" : Str)) = false := by decide) (hg : Gl X "len" := by rfl)
    (he : starEach [.Name x px] X.env = (false, eval (.Name x px) X.env) :: starEach [] X.env := by rfl) (hpl : (backTo pos (starEach [] X.env)).any (·.1) = false := by rfl) : EP X (.Call (.Name "len" pp) [.Name x px] [] pos) (eDLen i) := by
  refine ⟨_, pe_callB call_lenO hg hm PySem.boot_len (pa_cons (pe_var hN hv hd hcd) pa_nil he) (by decide) (by decide) he hpl, ?_⟩
  intro B Γ F σ H z Γ' R h Q q
  obtain ⟨kvs, e, h⟩ := bind_eq h
  cases h
  obtain ⟨a, ws, ea, hF, hB, hH, ho⟩ := R.slot i _ (odAt_eq e)
  exact ⟨.ref a, ea, a, F, ws, kvs, rfl, R.ext, hH, ho, q _ F H (Ex.refl F) R (.int _)⟩
end
section
variable {Γ : Env} {i : Nat} {f g : EX}
@[simp] theorem z_dict0 : nDict0 Γ = some (.od [], Γ) := rfl
@[simp] theorem z_odat : odAt Γ i = match (Γ[i]? : Option Slot) with | some (.od kvs) => some kvs | _ => none := rfl
@[simp] theorem z_dputO : sDPutO i f g Γ = (g Γ).bind fun x => (odAt x.2 i).bind fun _ => (f x.2).bind fun y => (keyT y.1).bind fun kk => (odAt y.2 i).bind fun kvs => if kvs.length < 100000 then some (.nx (y.2.set i (.od (putN kvs kk x.1)))) else none := rfl
@[simp] theorem z_dlen : eDLen i Γ = (odAt Γ i).bind fun kvs => some (.int kvs.length, Γ) := rfl
end
end Z
set_option Elab.async false
set_option linter.all false
set_option maxRecDepth 100000
set_option maxHeartbeats 2000000
/-! Z: a, b = e, [..] where a tuple is really made: the list stays one's own -/
namespace Z
open PySem PySem.Spec L2 Evl PyProof.Rows
section
variable {X : Cx} {pos : Pos} {e e2 : Expr} {n m : NX}
theorem sp_parT {i j : Nat} {x y : Str} {px py pt : Pos} {kt k2 pt2} (ha : NP X e n) (hb : NP X e2 m) (hc : X.calm = true) (hN : X.N.Nodup) (hi : X.N[i]? = some x := by rfl) (hj : X.N[j]? = some y := by rfl) (hij : i ≠ j := by decide)
    (hx : Loc X.env.scope x := by first | exact Or.inl rfl | exact Or.inr rfl) (hy : Loc X.env.scope y := by first | exact Or.inl rfl | exact Or.inr rfl)
    (hf : X.fn x = true ∨ X.env.scope.names.lookup x = some .local := by first | exact .inl rfl | exact .inr rfl | assumption) (hf2 : X.fn y = true ∨ X.env.scope.names.lookup y = some .local := by first | exact .inl rfl | exact .inr rfl | assumption)
    (hw : swappedStores [.Tuple [.Name x px, .Name y py] kt pt] (.Tuple [e, e2] k2 pt2) X.env = pure none := by rfl)
    (hs : swapsWithSole [.Tuple [.Name x px, .Name y py] kt pt] (.Tuple [e, e2] k2 pt2) pos.line X.env = pure false := by rfl)
    (hp : ∀ {ta tb : TE}, PE X e ta → PE X e2 tb → X.calm = true → X.N.Nodup → X.N[i]? = some x → X.N[j]? = some y → Loc X.env.scope x → Loc X.env.scope y → (X.fn x = true ∨ X.env.scope.names.lookup x = some .local) → (X.fn y = true ∨ X.env.scope.names.lookup y = some .local) → PS X (.Assign [.Tuple [.Name x px, .Name y py] kt pt] (.Tuple [e, e2] k2 pt2) pos) (tAsg (tTup (tCons ta (tCons tb tNil))) (gTup X.K 2 (gCons (gName i) (gCons (gName j) gNil)))) := by
      intro ta tb h1 h2 hc hN c1 c2 c3 c4 c5 c6
      exact ps_asg (pe_tup (pa_cons h1 (pa_cons h2 pa_nil))) (pg_tup hc (pgs_cons (pg_name hN c1 c3 c5) (pgs_cons (pg_name hN c2 c4 c6) pgs_nil)))) :
    SP X (.Assign [.Tuple [.Name x px, .Name y py] kt pt] (.Tuple [e, e2] k2 pt2) pos) (sPar i j n m) := by
  obtain ⟨ta, a1, a2⟩ := ha
  obtain ⟨tb, b1, b2⟩ := hb
  refine ⟨_, hp a1 b1 hc hN hi hj hx hy hf hf2, ?_⟩
  intro B Γ F σ H o R h D hD
  obtain ⟨⟨r1, Γ1⟩, h1, h⟩ := bind_eq h
  obtain ⟨⟨r2, Γ2⟩, h2, h⟩ := bind_eq h
  cases h
  refine a2 B Γ F σ H r1 Γ1 R h1 _ fun v F1 H1 x1 R1 d1 => ?_
  refine b2 (rebase Γ1 F1 σ H1) Γ1 F1 σ H1 r2 Γ2 R1.rebased h2 _ fun w F2 H2 x2 R2 d2 => ?_
  refine ⟨by show 2 ≤ sizeLine; decide, fun p hp => ⟨p, [v, w], rfl, .inl (.inl upd_same), rfl, v, [w], rfl, w, [], rfl, rfl, ?_⟩⟩
  have S2 := R1.back R2
  have g1 := d1.stays R1 R2
  have g2 := Held.back R1 d2
  have S3 := S2.setHeld g1 i
  have S4 : Rel X.K B ((Γ2.set i r1).set j r2) F2 ((σ.set i (some v)).set j (some w)) H2 := by
    refine S3.setHeld ?_ j
    cases r2 with
    | no => cases g2
    | par ds => cases g2
    | val d => exact g2
    | dic kvs => exact g2
    | fd kvs => exact g2
    | own ds =>
      obtain ⟨p, vs, rfl, hh, h0, hd⟩ := g2
      refine ⟨p, vs, rfl, ⟨hh.here, hh.noF, fun ⟨k, s, q, ho, e⟩ => ?_⟩, h0, hd⟩
      by_cases hk : i = k
      · subst hk
        have hl : i < Γ2.length := by
          have := (List.getElem?_eq_some_iff.mp q).1
          rw [List.length_set] at this; exact this
        rw [List.getElem?_set_self hl] at q
        cases q
        rw [List.getElem?_set_self (by rw [S2.len]; exact hl)] at e
        cases e
        cases r1 with
        | no => cases ho
        | val d => cases ho
        | dic kvs => cases ho
        | fd kvs => cases ho
        | par ds => cases d1
        | own ds1 =>
          obtain ⟨p1, vs1, e1, hh1, _, _⟩ := d1
          cases e1
          obtain ⟨p2, vs2, e2', _, h02, _⟩ := d2
          cases e2'
          rcases h02 with h02 | ⟨j, ds', h, e'⟩ | ⟨j, ds', h, e'⟩
          · have z : H1 p = none := h02
            rw [hh1.here] at z; cases z
          · exact hh1.noO ⟨j, _, h, rfl, e'⟩
          · exact hh1.noO ⟨j, _, h, rfl, e'⟩
        | od ds1 =>
          obtain ⟨p1, vs1, e1, hh1, _, _⟩ := d1
          cases e1
          obtain ⟨p2, vs2, e2', _, h02, _⟩ := d2
          cases e2'
          rcases h02 with h02 | ⟨j, ds', h, e'⟩ | ⟨j, ds', h, e'⟩
          · have z : H1 p = none := h02
            rw [hh1.here] at z; cases z
          · exact hh1.noO ⟨j, _, h, rfl, e'⟩
          · exact hh1.noO ⟨j, _, h, rfl, e'⟩
      · rw [List.getElem?_set_ne hk] at q e
        exact hh.noO ⟨k, s, q, ho, e⟩
    | od kvs =>
      obtain ⟨p, vs, rfl, hh, h0, hd⟩ := g2
      refine ⟨p, vs, rfl, ⟨hh.here, hh.noF, fun ⟨k, s, q, ho, e⟩ => ?_⟩, h0, hd⟩
      by_cases hk : i = k
      · subst hk
        have hl : i < Γ2.length := by
          have := (List.getElem?_eq_some_iff.mp q).1
          rw [List.length_set] at this; exact this
        rw [List.getElem?_set_self hl] at q
        cases q
        rw [List.getElem?_set_self (by rw [S2.len]; exact hl)] at e
        cases e
        cases r1 with
        | no => cases ho
        | val d => cases ho
        | dic kvs => cases ho
        | fd kvs => cases ho
        | par ds => cases d1
        | own ds1 =>
          obtain ⟨p1, vs1, e1, hh1, _, _⟩ := d1
          cases e1
          obtain ⟨p2, vs2, e2', _, h02, _⟩ := d2
          cases e2'
          rcases h02 with h02 | ⟨j, ds', h, e'⟩ | ⟨j, ds', h, e'⟩
          · have z : H1 p = none := h02
            rw [hh1.here] at z; cases z
          · exact hh1.noO ⟨j, _, h, rfl, e'⟩
          · exact hh1.noO ⟨j, _, h, rfl, e'⟩
        | od ds1 =>
          obtain ⟨p1, vs1, e1, hh1, _, _⟩ := d1
          cases e1
          obtain ⟨p2, vs2, e2', _, h02, _⟩ := d2
          cases e2'
          rcases h02 with h02 | ⟨j, ds', h, e'⟩ | ⟨j, ds', h, e'⟩
          · have z : H1 p = none := h02
            rw [hh1.here] at z; cases z
          · exact hh1.noO ⟨j, _, h, rfl, e'⟩
          · exact hh1.noO ⟨j, _, h, rfl, e'⟩
      · rw [List.getElem?_set_ne hk] at q e
        exact hh.noO ⟨k, s, q, ho, e⟩
  exact hD F2 _ _ (x1.trans x2) (S4.hide hp)
end
end Z
set_option Elab.async false
set_option linter.all false
set_option maxRecDepth 100000
set_option maxHeartbeats 2000000
/-! orders as lists of ints: rearrangements of a, a + 1, ..; parts and skew parts -/
namespace Om
open Z

theorem rg_nil (a c : Int) : rgI a c 0 = [] := rfl
theorem rg_len (a c : Int) (n : Nat) : (rgI a c n).length = n := by simp [rgI]
theorem rg_succ (a : Int) (n : Nat) : rgI a 1 (n + 1) = a :: rgI (a + 1) 1 n := by
  unfold rgI
  rw [List.range_succ_eq_map, List.map_cons, List.map_map]
  congr 1
  · simp
  · apply List.map_congr_left
    intro i _
    simp; omega
theorem rg_snoc (a : Int) (n : Nat) : rgI a 1 (n + 1) = rgI a 1 n ++ [a + n] := by
  unfold rgI
  rw [List.range_succ, List.map_append]
  simp
theorem rg_add (a : Int) : ∀ (n m : Nat), rgI a 1 (n + m) = rgI a 1 n ++ rgI (a + n) 1 m
  | n, 0 => by simp [rg_nil]
  | n, m + 1 => by
    rw [← Nat.add_assoc, rg_snoc, rg_add a n m, rg_snoc, List.append_assoc]
    congr 2
    simp
    try omega
theorem mem_rg {a x : Int} : ∀ {n : Nat}, x ∈ rgI a 1 n ↔ a ≤ x ∧ x < a + n
  | 0 => by simp [rg_nil]; try omega
  | n + 1 => by rw [rg_snoc, List.mem_append, mem_rg (n := n)]; simp; try omega
theorem rg_map_add (a d : Int) (n : Nat) : (rgI a 1 n).map (· + d) = rgI (a + d) 1 n := by
  unfold rgI
  rw [List.map_map]
  apply List.map_congr_left
  intro i _
  simp; omega
theorem rg_sorted (a : Int) : ∀ n : Nat, (rgI a 1 n).Pairwise (· < ·)
  | 0 => .nil
  | n + 1 => by
    rw [rg_snoc, List.pairwise_append]
    refine ⟨rg_sorted a n, List.pairwise_singleton _ _, fun x hx y hy => ?_⟩
    have := mem_rg.mp hx
    simp at hy; omega
theorem srt_rg (a : Int) (n : Nat) : srt (rgI a 1 n) = rgI a 1 n := (srt_unique (.refl _) ((rg_sorted a n).imp fun h => Int.le_of_lt h)).symm
theorem srt_iff {l : List Int} {a : Int} {n : Nat} : srt l = rgI a 1 n ↔ l.Perm (rgI a 1 n) := by
  constructor
  · intro h
    have := srt_perm l
    rw [h] at this
    exact this.symm
  · intro h
    rw [← srt_rg a n]
    exact srt_unique ((srt_perm l).trans h) (srt_sorted l)
/-- a rearrangement of a, a + 1, .. -/
def IsR (a : Int) (l : List Int) : Prop := l.Perm (rgI a 1 l.length)
theorem isR_nil (a : Int) : IsR a [] := .refl _
theorem IsR.mem {a x : Int} {l : List Int} (h : IsR a l) : x ∈ l ↔ a ≤ x ∧ x < a + l.length := h.mem_iff.trans mem_rg
theorem IsR.nodup {a : Int} {l : List Int} (h : IsR a l) : l.Nodup := h.nodup_iff.mpr ((rg_sorted a l.length).imp fun h => Int.ne_of_lt h)
theorem IsR.perm {a : Int} {l m : List Int} (h : IsR a l) (p : m.Perm l) : IsR a m := by
  unfold IsR; rw [p.length_eq]; exact p.trans h
theorem IsR.shift {a : Int} {l : List Int} (h : IsR a l) (d : Int) : IsR (a + d) (l.map (· + d)) := by
  unfold IsR
  rw [List.length_map, ← rg_map_add]
  exact h.map _
theorem IsR.shift' {a : Int} {l : List Int} (h : IsR a l) (d : Int) : IsR (a - d) (l.map (· - d)) := by
  have := h.shift (-d)
  simpa [Int.sub_eq_add_neg] using this
theorem IsR.append {a : Int} {l m : List Int} (h : IsR a l) (k : IsR (a + l.length) m) : IsR a (l ++ m) := by
  unfold IsR
  rw [List.length_append, rg_add]
  exact List.Perm.append h k
theorem IsR.append' {a : Int} {l m : List Int} (h : IsR (a + m.length) l) (k : IsR a m) : IsR a (l ++ m) :=
  (k.append h).perm List.perm_append_comm
theorem IsR.rest {a : Int} {l m : List Int} (h : IsR a (l ++ m)) (k : IsR a l) : IsR (a + l.length) m := by
  unfold IsR at *
  rw [List.length_append, rg_add] at h
  exact (List.perm_append_left_iff _).mp (h.trans (List.Perm.append k.symm (.refl _)) )
theorem IsR.rest' {a : Int} {l m : List Int} (h : IsR a (l ++ m)) (k : IsR (a + m.length) l) : IsR a m := by
  unfold IsR at *
  rw [List.length_append, Nat.add_comm, rg_add] at h
  have h1 : (l ++ m).Perm (l ++ rgI a 1 m.length) := h.trans ((List.Perm.append (.refl _) k.symm).trans List.perm_append_comm)
  exact (List.perm_append_left_iff _).mp h1
/-- strictly rising ints that fill their room -/
theorem strict_rg : ∀ {l : List Int} {c : Int}, l.Pairwise (· < ·) → (∀ x ∈ l, c < x ∧ x ≤ c + l.length) → l = rgI (c + 1) 1 l.length
  | [], c, _, _ => rfl
  | x :: r, c, h, hx => by
    have hp := List.pairwise_cons.mp h
    have h0 := hx x List.mem_cons_self
    have ih := strict_rg (l := r) (c := c + 1) hp.2 fun y hy => by
      have h1 := hp.1 y hy
      have h2 := hx y (List.mem_cons_of_mem _ hy)
      simp at h2 ⊢; omega
    rw [List.length_cons, rg_succ, ← ih]
    congr 1
    cases r with
    | nil => simp at h0; omega
    | cons y r' =>
      rw [List.length_cons, rg_succ] at ih
      have hy : y = c + 1 + 1 := (List.cons.inj ih).1
      have := hp.1 y List.mem_cons_self
      omega
theorem isR_of {l : List Int} {c : Int} (hn : l.Nodup) (hx : ∀ x ∈ l, c < x ∧ x ≤ c + l.length) : IsR (c + 1) l := by
  have hs : (srt l).Pairwise (· < ·) := by
    have h1 := srt_sorted l
    have h2 : (srt l).Nodup := (srt_perm l).nodup_iff.mpr hn
    exact (h1.and h2).imp fun h => by omega
  have hl : (srt l).length = l.length := (srt_perm l).length_eq
  have := strict_rg (c := c) hs fun x hx' => by
    rw [hl]; exact hx x ((srt_perm l).mem_iff.mp hx')
  unfold IsR
  rw [hl] at this
  exact srt_iff.mp this
/-! ### the greatest of the first ones -/
def mx (l : List Int) : Int := l.foldl (fun m x => if x > m then x else m) 0
theorem mx_snoc (l : List Int) (x : Int) : mx (l ++ [x]) = if x > mx l then x else mx l := by
  unfold mx; rw [List.foldl_append]; rfl
theorem snoc_ind {P : List Int → Prop} (h0 : P []) (hs : ∀ l x, P l → P (l ++ [x])) (l : List Int) : P l := by
  have all : ∀ m : List Int, P m.reverse := by
    intro m
    induction m with
    | nil => exact h0
    | cons x m ih => rw [List.reverse_cons]; exact hs _ _ ih
  have := all l.reverse
  rwa [List.reverse_reverse] at this
theorem mx_spec (l : List Int) : 0 ≤ mx l ∧ (∀ x ∈ l, x ≤ mx l) ∧ (mx l = 0 ∨ mx l ∈ l) := by
  refine snoc_ind (P := fun l => 0 ≤ mx l ∧ (∀ x ∈ l, x ≤ mx l) ∧ (mx l = 0 ∨ mx l ∈ l)) ⟨by decide, by simp, .inl rfl⟩ (fun l x ⟨h1, h2, h3⟩ => ?_) l
  rw [mx_snoc]
  by_cases h : x > mx l
  · rw [if_pos h]
    refine ⟨by omega, fun y hy => ?_, .inr (by simp)⟩
    rcases List.mem_append.mp hy with hy | hy
    · have := h2 y hy; omega
    · simp at hy; omega
  · rw [if_neg h]
    refine ⟨h1, fun y hy => ?_, ?_⟩
    · rcases List.mem_append.mp hy with hy | hy
      · exact h2 y hy
      · simp at hy; omega
    · rcases h3 with h3 | h3
      · exact .inl h3
      · exact .inr (List.mem_append_left _ h3)
/-- the first ones of an order are an order exactly if the greatest is as many as they are -/
theorem cut_iff {p q : List Int} (h : IsR 1 (p ++ q)) : mx p = p.length ↔ IsR 1 p := by
  have hn := h.nodup
  obtain ⟨h1, h2, h3⟩ := mx_spec p
  constructor
  · intro e
    have := isR_of (l := p) (c := 0) (List.nodup_append.mp hn).1 fun x hx => by
      have a1 := h2 x hx
      have a2 := (h.mem (x := x)).mp (List.mem_append_left _ hx)
      omega
    simpa using this
  · intro k
    cases hp : p with
    | nil => rfl
    | cons x r =>
      have hl : (p.length : Int) ∈ p := k.mem.mpr (by rw [hp]; simp; omega)
      have a1 := h2 _ hl
      rw [← hp]
      rcases h3 with h3 | h3
      · have : 0 < p.length := by rw [hp]; simp
        omega
      · have := k.mem.mp h3
        omega
/-! ### the parts, as the program goes along -/
def go (c m k : Int) (cur : List Int) : List Int → List (List Int)
  | [] => []
  | x :: r => if (if x > m then x else m) = k + 1 then (cur ++ [x]).map (· - c) :: go (k + 1) (if x > m then x else m) (k + 1) [] r
    else go c (if x > m then x else m) (k + 1) (cur ++ [x]) r
theorem go_cons (c m k : Int) (cur : List Int) (x : Int) (r : List Int) : go c m k cur (x :: r) = if (if x > m then x else m) = k + 1 then (cur ++ [x]).map (· - c) :: go (k + 1) (if x > m then x else m) (k + 1) [] r
    else go c (if x > m then x else m) (k + 1) (cur ++ [x]) r := rfl
def parts (o : List Int) : List (List Int) := go 0 0 0 [] o
theorem go_shift (d : Int) : ∀ (r : List Int) (c m k : Int) (cur : List Int), go (c + d) (m + d) (k + d) (cur.map (· + d)) (r.map (· + d)) = go c m k cur r
  | [], _, _, _, _ => rfl
  | x :: r, c, m, k, cur => by
    have e1 : (if x + d > m + d then x + d else m + d) = (if x > m then x else m) + d := by
      by_cases h : x > m
      · rw [if_pos h, if_pos (by omega)]
      · rw [if_neg h, if_neg (by omega)]
    have e2 : cur.map (· + d) ++ [x + d] = (cur ++ [x]).map (· + d) := by simp
    have e3 : ((cur ++ [x]).map (· + d)).map (· - (c + d)) = (cur ++ [x]).map (· - c) := by
      rw [List.map_map]; apply List.map_congr_left; intro y _; simp; omega
    rw [List.map_cons]
    unfold go
    rw [e1, e2]
    by_cases h : (if x > m then x else m) = k + 1
    · rw [if_pos h, if_pos (by omega), e3]
      have := go_shift d r (k + 1) (if x > m then x else m) (k + 1) []
      rw [List.map_nil] at this
      rw [show k + d + 1 = k + 1 + d by omega, this]
    · rw [if_neg h, if_neg (by omega)]
      rw [show k + d + 1 = k + 1 + d by omega, go_shift d r c _ (k + 1) (cur ++ [x])]
theorem go_at (s : Int) (r : List Int) : go s s s [] r = parts (r.map (· - s)) := by
  have := go_shift s (r.map (· - s)) 0 0 0 []
  rw [List.map_nil, List.map_map] at this
  have e : r.map ((· + s) ∘ (· - s)) = r := by
    rw [show ((· + s) ∘ (· - s) : Int → Int) = id by funext x; simp]
    exact List.map_id r
  rw [e] at this
  simpa [parts] using this
/-- the least place behind which an order begins anew -/
def First (r : List Int) (s : Nat) : Prop := 1 ≤ s ∧ s ≤ r.length ∧ IsR 1 (r.take s) ∧ ∀ j, 1 ≤ j → j < s → ¬ IsR 1 (r.take j)
theorem first_ex {r : List Int} (h : IsR 1 r) (hr : r ≠ []) : ∃ s, First r s := by
  have all : ∀ n, (∃ s, 1 ≤ s ∧ s ≤ n ∧ IsR 1 (r.take s)) → ∃ s, 1 ≤ s ∧ s ≤ n ∧ IsR 1 (r.take s) ∧ ∀ j, 1 ≤ j → j < s → ¬ IsR 1 (r.take j) := by
    intro n
    induction n with
    | zero => rintro ⟨s, h1, h2, _⟩; omega
    | succ n ih =>
      rintro ⟨s, h1, h2, h3⟩
      by_cases hx : ∃ s, 1 ≤ s ∧ s ≤ n ∧ IsR 1 (r.take s)
      · obtain ⟨t, t1, t2, t3, t4⟩ := ih hx
        exact ⟨t, t1, by omega, t3, t4⟩
      · exact ⟨s, h1, h2, h3, fun j j1 j2 j3 => hx ⟨j, j1, by omega, j3⟩⟩
  have hl : 1 ≤ r.length := by cases r with | nil => exact absurd rfl hr | cons _ _ => simp
  obtain ⟨s, h1, h2, h3, h4⟩ := all r.length ⟨r.length, hl, Nat.le_refl _, by rw [List.take_length]; exact h⟩
  exact ⟨s, h1, h2, h3, h4⟩
theorem parts_first {r : List Int} {s : Nat} (h : IsR 1 r) (hs : First r s) : parts r = r.take s :: parts ((r.drop s).map (· - (s : Int))) := by
  obtain ⟨h1, h2, h3, h4⟩ := hs
  -- going along from j things
  have all : ∀ (k j : Nat), j + k + 1 = s → go 0 (mx (r.take j)) j (r.take j) (r.drop j) = r.take s :: go s s s [] (r.drop s) := by
    intro k
    induction k with
    | zero =>
      intro j hj
      have hjl : j < r.length := by omega
      rw [List.drop_eq_getElem_cons hjl, go_cons]
      have et : r.take j ++ [r[j]] = r.take (j + 1) := by rw [List.take_succ_eq_append_getElem hjl]
      rw [← mx_snoc, et]
      have hsj : j + 1 = s := by omega
      rw [hsj]
      have hlen : (r.take s).length = s := by rw [List.length_take]; omega
      have hm : mx (r.take s) = s := by
        have := (cut_iff (p := r.take s) (q := r.drop s) (by rw [List.take_append_drop]; exact h)).mpr h3
        rw [this, hlen]
      have hc : (j : Int) + 1 = s := by omega
      rw [hm, hc, if_pos rfl]
      congr 1
      rw [List.map_congr_left (g := id) (fun x _ => by simp), List.map_id]
    | succ k ih =>
      intro j hj
      have hjl : j < r.length := by omega
      rw [List.drop_eq_getElem_cons hjl, go_cons]
      have et : r.take j ++ [r[j]] = r.take (j + 1) := by rw [List.take_succ_eq_append_getElem hjl]
      rw [← mx_snoc, et]
      have hlen : (r.take (j + 1)).length = j + 1 := by rw [List.length_take]; omega
      have hm : ¬ mx (r.take (j + 1)) = (j : Int) + 1 := fun e => by
        have := (cut_iff (p := r.take (j + 1)) (q := r.drop (j + 1)) (by rw [List.take_append_drop]; exact h)).mp (by rw [hlen, e]; simp)
        exact h4 (j + 1) (by omega) (by omega) this
      rw [if_neg hm]
      have := ih (j + 1) (by omega)
      simpa using this
  have := all (s - 1) 0 (by omega)
  rw [go_at] at this
  simpa [parts, mx] using this
theorem rest_ord {r : List Int} {s : Nat} (h : IsR 1 r) (hs : First r s) : IsR 1 ((r.drop s).map (· - (s : Int))) := by
  have h0 : IsR 1 (r.take s ++ r.drop s) := by rw [List.take_append_drop]; exact h
  have h1 := h0.rest hs.2.2.1
  have hl : (r.take s).length = s := by rw [List.length_take]; have := hs.2.1; omega
  rw [hl] at h1
  have := h1.shift' (s : Int)
  simpa [Int.add_sub_cancel] using this
theorem parts_nil : parts [] = [] := rfl
/-- going down from an order to its rest -/
theorem ord_ind {P : List Int → Prop} (h0 : P []) (hs : ∀ r s, IsR 1 r → First r s → P ((r.drop s).map (· - (s : Int))) → P r) : ∀ r, IsR 1 r → P r := by
  have all : ∀ n r, r.length ≤ n → IsR 1 r → P r := by
    intro n
    induction n with
    | zero => intro r hr _; have e : r = [] := List.eq_nil_of_length_eq_zero (by omega); subst e; exact h0
    | succ n ih =>
      intro r hr h
      by_cases e : r = []
      · subst e; exact h0
      · obtain ⟨s, hs'⟩ := first_ex h e
        refine hs r s h hs' (ih _ ?_ (rest_ord h hs'))
        rw [List.length_map, List.length_drop]
        have := hs'.1; have := hs'.2.1; omega
  exact fun r h => all r.length r (Nat.le_refl _) h
theorem parts_ord : ∀ r, IsR 1 r → ∀ p ∈ parts r, IsR 1 p := ord_ind (by simp [parts, go]) fun r s h hs ih p hp => by
  rw [parts_first h hs] at hp
  rcases List.mem_cons.mp hp with e | hp
  · subst e; exact hs.2.2.1
  · exact ih p hp
theorem take_take_le {α : Type} (l : List α) {s p : Nat} (h : s ≤ p) : (l.take p).take s = l.take s := by
  rw [List.take_take, Nat.min_eq_left h]
/-- an order that begins anew behind p things -/
theorem parts_cut : ∀ q, IsR 1 q → ∀ p : Nat, p ≤ q.length → IsR 1 (q.take p) → parts q = parts (q.take p) ++ parts ((q.drop p).map (· - (p : Int))) := by
  refine ord_ind (fun p hp _ => ?_) fun q s h hs ih p hp hc => ?_
  · have : p = 0 := by simpa using hp
    subst this; rfl
  · obtain ⟨h1, h2, h3, h4⟩ := id hs
    by_cases hp0 : p = 0
    · subst hp0
      simp [parts_nil]
    · have hsp : s ≤ p := by
        apply Decidable.byContradiction
        intro hlt
        exact h4 p (by omega) (by omega) hc
      have hl : ((q.drop s).map (· - (s : Int))).length = q.length - s := by simp
      have e1 : ((q.drop s).map (· - (s : Int))).take (p - s) = ((q.take p).drop s).map (· - (s : Int)) := by
        rw [← List.map_take]
        congr 1
        rw [List.drop_take]
      have hsf : First (q.take p) s := ⟨h1, by rw [List.length_take]; omega, by rw [take_take_le q hsp]; exact h3, fun j j1 j2 => by rw [take_take_le q (by omega)]; exact h4 j j1 j2⟩
      have hc2 : IsR 1 (((q.drop s).map (· - (s : Int))).take (p - s)) := by
        rw [e1]; exact rest_ord hc hsf
      have := ih (p - s) (by rw [hl]; omega) hc2
      rw [parts_first h hs, this, parts_first hc hsf, take_take_le q hsp, e1, List.cons_append]
      congr 3
      rw [← List.map_drop, List.map_map, List.drop_drop]
      have : s + (p - s) = p := by omega
      rw [this]
      apply List.map_congr_left
      intro x _
      simp; omega
theorem parts_one {q : List Int} (h : IsR 1 q) (hq : q ≠ []) (hn : ∀ j, 1 ≤ j → j < q.length → ¬ IsR 1 (q.take j)) : parts q = [q] := by
  obtain ⟨s, hs⟩ := first_ex h hq
  have e : s = q.length := by
    have h1 := hs.1; have h2 := hs.2.1
    apply Decidable.byContradiction
    intro hne
    exact hn s h1 (by omega) hs.2.2.1
  rw [parts_first h hs, e]
  simp [parts_nil]
theorem go_len : ∀ (r : List Int) (c m k : Int) (cur : List Int), (go c m k cur r).length ≤ r.length
  | [], _, _, _, _ => Nat.le_refl _
  | x :: r, c, m, k, cur => by
    rw [go_cons]
    by_cases h : (if x > m then x else m) = k + 1
    · rw [if_pos h, List.length_cons, List.length_cons]
      exact Nat.succ_le_succ (go_len r _ _ _ _)
    · rw [if_neg h, List.length_cons]
      exact Nat.le_succ_of_le (go_len r _ _ _ _)
theorem parts_len (o : List Int) : (parts o).length ≤ o.length := go_len o _ _ _ _
/-! ### skew parts -/
def skewParts (o : List Int) : List (List Int) := ((parts o.reverse).reverse).map List.reverse
def FirstS (r : List Int) (s : Nat) : Prop := 1 ≤ s ∧ s ≤ r.length ∧ IsR ((r.length - s : Nat) + 1) (r.take s) ∧ ∀ j, 1 ≤ j → j < s → ¬ IsR ((r.length - j : Nat) + 1) (r.take j)
theorem firstS_ex {r : List Int} (h : IsR 1 r) (hr : r ≠ []) : ∃ s, FirstS r s := by
  have all : ∀ n, (∃ s, 1 ≤ s ∧ s ≤ n ∧ IsR ((r.length - s : Nat) + 1) (r.take s)) → ∃ s, 1 ≤ s ∧ s ≤ n ∧ IsR ((r.length - s : Nat) + 1) (r.take s) ∧ ∀ j, 1 ≤ j → j < s → ¬ IsR ((r.length - j : Nat) + 1) (r.take j) := by
    intro n
    induction n with
    | zero => rintro ⟨s, h1, h2, _⟩; omega
    | succ n ih =>
      rintro ⟨s, h1, h2, h3⟩
      by_cases hx : ∃ s, 1 ≤ s ∧ s ≤ n ∧ IsR ((r.length - s : Nat) + 1) (r.take s)
      · obtain ⟨t, t1, t2, t3, t4⟩ := ih hx
        exact ⟨t, t1, by omega, t3, t4⟩
      · exact ⟨s, h1, h2, h3, fun j j1 j2 j3 => hx ⟨j, j1, by omega, j3⟩⟩
  have hl : 1 ≤ r.length := by cases r with | nil => exact absurd rfl hr | cons _ _ => simp
  obtain ⟨s, h1, h2, h3, h4⟩ := all r.length ⟨r.length, hl, Nat.le_refl _, by rw [List.take_length, Nat.sub_self]; exact h⟩
  exact ⟨s, h1, h2, h3, h4⟩
/-- the first ones are the greatest exactly if the others are the least -/
theorem skew_iff {r : List Int} (h : IsR 1 r) {s : Nat} (hs : s ≤ r.length) : IsR ((r.length - s : Nat) + 1) (r.take s) ↔ IsR 1 (r.drop s) := by
  have h0 : IsR 1 (r.take s ++ r.drop s) := by rw [List.take_append_drop]; exact h
  have hd : (r.drop s).length = r.length - s := List.length_drop
  constructor
  · intro k
    refine h0.rest' ?_
    rw [hd, Int.add_comm]; exact k
  · intro k
    have h1 : IsR 1 (r.drop s ++ r.take s) := h0.perm List.perm_append_comm
    have := h1.rest k
    rw [hd, Int.add_comm] at this; exact this
theorem isR_rev {a : Int} {l : List Int} (h : IsR a l) : IsR a l.reverse := h.perm (List.reverse_perm l)
theorem isR_rev_iff {a : Int} {l : List Int} : IsR a l.reverse ↔ IsR a l := ⟨fun h => by simpa using isR_rev h, isR_rev⟩
theorem skew_first {r : List Int} {s : Nat} (h : IsR 1 r) (hs : FirstS r s) : skewParts r = (r.take s).map (· - ((r.length - s : Nat) : Int)) :: skewParts (r.drop s) := by
  obtain ⟨h1, h2, h3, h4⟩ := hs
  have hq : IsR 1 r.reverse := isR_rev h
  have et : r.reverse.take (r.length - s) = (r.drop s).reverse := by
    rw [List.take_reverse]
    congr 2
    omega
  have ed : r.reverse.drop (r.length - s) = (r.take s).reverse := by
    rw [List.drop_reverse]
    congr 2
    omega
  have hc : IsR 1 (r.reverse.take (r.length - s)) := by
    rw [et]; exact isR_rev ((skew_iff h h2).mp h3)
  have hcut := parts_cut r.reverse hq (r.length - s) (by simp) hc
  have ht : IsR 1 (((r.take s).reverse).map (· - ((r.length - s : Nat) : Int))) := by
    have := (isR_rev h3).shift' ((r.length - s : Nat) : Int)
    rw [show ((r.length - s : Nat) : Int) + 1 - ((r.length - s : Nat) : Int) = 1 by omega] at this
    exact this
  have hlen : (((r.take s).reverse).map (· - ((r.length - s : Nat) : Int))).length = s := by simp; omega
  have one : parts (((r.take s).reverse).map (· - ((r.length - s : Nat) : Int))) = [((r.take s).reverse).map (· - ((r.length - s : Nat) : Int))] := by
    refine parts_one ht (fun e => by rw [e] at hlen; simp at hlen; omega) fun j j1 j2 hj => ?_
    have j2 : j < s := Nat.lt_of_lt_of_eq j2 hlen
    -- then r would begin with s - j greatest ones
    refine h4 (s - j) (by omega) (by omega) ((skew_iff h (by omega)).mpr ?_)
    have e1 : (((r.take s).reverse).map (· - ((r.length - s : Nat) : Int))).take j = (((r.drop (s - j)).take j).reverse).map (· - ((r.length - s : Nat) : Int)) := by
      rw [← List.map_take, List.take_reverse, List.length_take, List.drop_take, show min s r.length = s by omega, show s - (s - j) = j by omega]
    rw [e1] at hj
    have hlj : ((r.drop (s - j)).take j).length = j := by rw [List.length_take, List.length_drop]; omega
    have k1 : IsR ((r.length - s : Nat) + 1) ((r.drop (s - j)).take j) := by
      have := hj.shift ((r.length - s : Nat) : Int)
      rw [List.map_map] at this
      have e2 : (((r.drop (s - j)).take j).reverse).map ((fun x => x + ((r.length - s : Nat) : Int)) ∘ (fun x => x - ((r.length - s : Nat) : Int))) = ((r.drop (s - j)).take j).reverse := by
        rw [show ((fun x => x + ((r.length - s : Nat) : Int)) ∘ (fun x => x - ((r.length - s : Nat) : Int)) : Int → Int) = id by funext x; simp]
        exact List.map_id _
      rw [e2, isR_rev_iff, Int.add_comm] at this
      exact this
    have e3 : r.drop (s - j) = (r.drop (s - j)).take j ++ r.drop s := by
      have := (List.take_append_drop j (r.drop (s - j))).symm
      rw [List.drop_drop] at this
      rw [show s - j + j = s by omega] at this
      exact this
    rw [e3]
    have k2 : IsR 1 (r.drop s) := (skew_iff h h2).mp h3
    refine IsR.append' ?_ k2
    rw [List.length_drop, Int.add_comm]; exact k1
  unfold skewParts
  rw [hcut, et, ed, one]
  simp
theorem drop_ord {r : List Int} {s : Nat} (h : IsR 1 r) (hs : FirstS r s) : IsR 1 (r.drop s) := (skew_iff h hs.2.1).mp hs.2.2.1
theorem take_ord {r : List Int} {s : Nat} (h : IsR 1 r) (hs : FirstS r s) : IsR 1 ((r.take s).map (· - ((r.length - s : Nat) : Int))) := by
  have := hs.2.2.1.shift' ((r.length - s : Nat) : Int)
  rw [show ((r.length - s : Nat) : Int) + 1 - ((r.length - s : Nat) : Int) = 1 by omega] at this
  exact this
theorem skew_ind {P : List Int → Prop} (h0 : P []) (hs : ∀ r s, IsR 1 r → FirstS r s → P (r.drop s) → P r) : ∀ r, IsR 1 r → P r := by
  have all : ∀ n r, r.length ≤ n → IsR 1 r → P r := by
    intro n
    induction n with
    | zero => intro r hr _; have e : r = [] := List.eq_nil_of_length_eq_zero (by omega); subst e; exact h0
    | succ n ih =>
      intro r hr h
      by_cases e : r = []
      · subst e; exact h0
      · obtain ⟨s, hs'⟩ := firstS_ex h e
        refine hs r s h hs' (ih _ ?_ (drop_ord h hs'))
        rw [List.length_drop]
        have := hs'.1; have := hs'.2.1; omega
  exact fun r h => all r.length r (Nat.le_refl _) h
theorem skew_nil : skewParts [] = [] := rfl
theorem skew_ord : ∀ r, IsR 1 r → ∀ p ∈ skewParts r, IsR 1 p := skew_ind (by simp [skewParts, parts, go]) fun r s h hs ih p hp => by
  rw [skew_first h hs] at hp
  rcases List.mem_cons.mp hp with e | hp
  · subst e; exact take_ord h hs
  · exact ih p hp
/-! ### the mirror -/
def mir (o : List Int) : List Int := o.map fun x => (o.length : Int) + 1 - x
theorem rg_mir (a K : Int) : ∀ n : Nat, ((rgI a 1 n).map fun x => K - x).Perm (rgI (K - a - n + 1) 1 n)
  | 0 => .refl _
  | n + 1 => by
    rw [rg_succ a n, rg_snoc, List.map_cons]
    have := rg_mir (a + 1) K n
    have e : K - (a + 1) - (n : Int) + 1 = K - a - ((n + 1 : Nat) : Int) + 1 := by omega
    rw [e] at this
    have e2 : K - a - ((n + 1 : Nat) : Int) + 1 + (n : Int) = K - a := by omega
    rw [e2]
    exact (List.Perm.cons _ this).trans (List.perm_append_comm (l₁ := [K - a]) (l₂ := rgI (K - a - ((n + 1 : Nat) : Int) + 1) 1 n))
theorem IsR.mirrored {a : Int} {l : List Int} (h : IsR a l) (K : Int) : IsR (K - a - l.length + 1) (l.map fun x => K - x) := by
  unfold IsR
  rw [List.length_map]
  exact (h.map _).trans (rg_mir a K l.length)
theorem mir_ord {o : List Int} (h : IsR 1 o) : IsR 1 (mir o) := by
  have := h.mirrored ((o.length : Int) + 1)
  rw [show (o.length : Int) + 1 - 1 - o.length + 1 = 1 by omega] at this
  exact this
theorem unmir {l : List Int} (K : Int) : (l.map fun x => K - x).map (fun x => K - x) = l := by
  rw [List.map_map]
  rw [show ((fun x => K - x) ∘ (fun x => K - x) : Int → Int) = id by funext x; show K - (K - x) = x; omega]
  exact List.map_id l
theorem mir_first {o : List Int} {s : Nat} (h : IsR 1 o) (hs : First o s) : FirstS (mir o) s := by
  have hl : (mir o).length = o.length := by simp [mir]
  have key : ∀ j, j ≤ o.length → (IsR (((mir o).length - j : Nat) + 1) ((mir o).take j) ↔ IsR 1 (o.take j)) := fun j hj => by
    have hlj : (o.take j).length = j := by rw [List.length_take]; omega
    have e : (mir o).take j = (o.take j).map fun x => (o.length : Int) + 1 - x := by unfold mir; rw [← List.map_take]
    rw [hl, e]
    constructor
    · intro k
      have := k.mirrored ((o.length : Int) + 1)
      rw [unmir, List.length_map, hlj, show (o.length : Int) + 1 - (((o.length - j : Nat) : Int) + 1) - (j : Int) + 1 = 1 by omega] at this
      exact this
    · intro k
      have := k.mirrored ((o.length : Int) + 1)
      rw [hlj, show (o.length : Int) + 1 - 1 - (j : Int) + 1 = ((o.length - j : Nat) : Int) + 1 by omega] at this
      exact this
  obtain ⟨h1, h2, h3, h4⟩ := hs
  exact ⟨h1, by rw [hl]; exact h2, (key s h2).mpr h3, fun j j1 j2 k => h4 j j1 j2 ((key j (by omega)).mp k)⟩
theorem skew_mir : ∀ o, IsR 1 o → skewParts (mir o) = (parts o).map mir := ord_ind rfl fun o s h hs ih => by
  have hs2 := mir_first h hs
  have hl : (mir o).length = o.length := by simp [mir]
  have h2 := hs.2.1
  rw [skew_first (mir_ord h) hs2, parts_first h hs, List.map_cons]
  have e1 : ((mir o).take s).map (· - (((mir o).length - s : Nat) : Int)) = mir (o.take s) := by
    have hlj : (o.take s).length = s := by rw [List.length_take]; omega
    rw [hl]
    unfold mir
    rw [← List.map_take, List.map_map, hlj]
    apply List.map_congr_left
    intro x _
    simp; omega
  have e2 : (mir o).drop s = mir ((o.drop s).map (· - (s : Int))) := by
    unfold mir
    rw [← List.map_drop, List.map_map, List.length_map, List.length_drop]
    apply List.map_congr_left
    intro x _
    simp; omega
  rw [e1, e2, ih]
/-! ### sums -/
def summed (a b : List Int) : List Int := a ++ b.map (· + (a.length : Int))
def skewSummed (a b : List Int) : List Int := a.map (· + (b.length : Int)) ++ b
theorem summed_ord {a b : List Int} (h : IsR 1 a) (k : IsR 1 b) : IsR 1 (summed a b) := h.append (k.shift _)
theorem skewSummed_ord {a b : List Int} (h : IsR 1 a) (k : IsR 1 b) : IsR 1 (skewSummed a b) := IsR.append' (h.shift _) k
theorem parts_sum : ∀ o, IsR 1 o → ∀ a, (parts o).foldl summed a = summed a o := ord_ind (fun a => by simp [parts, go, summed]) fun o s h hs ih a => by
  rw [parts_first h hs, List.foldl_cons, ih]
  have h2 := hs.2.1
  have hlj : (o.take s).length = s := by rw [List.length_take]; omega
  unfold summed
  rw [List.append_assoc]
  congr 1
  have e : o = o.take s ++ o.drop s := (List.take_append_drop s o).symm
  conv => rhs; rw [e, List.map_append]
  congr 1
  rw [List.map_map, List.length_append, List.length_map, hlj]
  apply List.map_congr_left
  intro x _
  simp; omega
theorem skew_sum : ∀ o, IsR 1 o → ∀ a, (skewParts o).foldl skewSummed a = skewSummed a o := skew_ind (fun a => by simp [skewParts, parts, go, skewSummed]) fun o s h hs ih a => by
  rw [skew_first h hs, List.foldl_cons, ih]
  have h2 := hs.2.1
  have hlj : (o.take s).length = s := by rw [List.length_take]; omega
  unfold skewSummed
  have e : o = o.take s ++ o.drop s := (List.take_append_drop s o).symm
  conv => rhs; rw [e, ← List.append_assoc]
  congr 1
  rw [List.map_append, List.map_map, List.map_map, List.length_map, List.length_drop, hlj]
  congr 1
  · apply List.map_congr_left
    intro x _
    simp; omega
  · rw [List.map_congr_left (g := id) (fun x _ => by simp), List.map_id]
/-! ### put together -/
def W : List (Int × List Int) → Int → Int
  | [], _ => 0
  | q :: r, v => (if q.1 < v then (q.2.length : Int) else 0) + W r v
theorem W_mono : ∀ (ps : List (Int × List Int)) {v w : Int}, v ≤ w → W ps v ≤ W ps w
  | [], _, _, _ => Int.le_refl _
  | q :: r, v, w, h => by
    have := W_mono r h
    unfold W
    by_cases h1 : q.1 < v
    · rw [if_pos h1, if_pos (by omega)]; omega
    · rw [if_neg h1]
      by_cases h2 : q.1 < w
      · rw [if_pos h2]; omega
      · rw [if_neg h2]; omega
theorem W_nonneg : ∀ (ps : List (Int × List Int)) (v : Int), 0 ≤ W ps v
  | [], _ => Int.le_refl _
  | q :: r, v => by
    have := W_nonneg r v
    unfold W
    by_cases h1 : q.1 < v
    · rw [if_pos h1]; omega
    · rw [if_neg h1]; omega
theorem W_next : ∀ (ps : List (Int × List Int)) {q}, q ∈ ps → W ps q.1 + q.2.length ≤ W ps (q.1 + 1)
  | p :: r, q, h => by
    unfold W
    rcases List.mem_cons.mp h with e | h
    · subst e
      rw [if_neg (by omega), if_pos (by omega)]
      have := W_mono r (v := q.1) (w := q.1 + 1) (by omega)
      omega
    · have := W_next r h
      by_cases h1 : p.1 < q.1
      · rw [if_pos h1, if_pos (by omega)]; omega
      · rw [if_neg h1]
        by_cases h2 : p.1 < q.1 + 1
        · rw [if_pos h2]; omega
        · rw [if_neg h2]; omega
def fill (ps qs : List (Int × List Int)) : List Int := qs.flatMap fun q => q.2.map (W ps q.1 + ·)
theorem W_total : ∀ (ps : List (Int × List Int)) (v : Int), W ps v ≤ ((ps.map fun q => q.2.length).sum : Nat)
  | [], _ => Int.le_refl _
  | q :: r, v => by
    have := W_total r v
    unfold W
    rw [List.map_cons, List.sum_cons]
    by_cases h1 : q.1 < v
    · rw [if_pos h1]; omega
    · rw [if_neg h1]; omega
theorem fill_len (ps : List (Int × List Int)) : ∀ qs : List (Int × List Int), (fill ps qs).length = (qs.map fun q => q.2.length).sum
  | [] => rfl
  | q :: r => by
    have := fill_len ps r
    unfold fill at *
    rw [List.flatMap_cons, List.length_append, this, List.length_map, List.map_cons, List.sum_cons]
theorem fill_nodup (ps : List (Int × List Int)) : ∀ qs : List (Int × List Int), (∀ q ∈ qs, q ∈ ps ∧ IsR 1 q.2) → (qs.map (·.1)).Nodup → (fill ps qs).Nodup
  | [], _, _ => List.nodup_nil
  | q :: r, h, hn => by
    unfold fill
    rw [List.flatMap_cons]
    rw [List.map_cons, List.nodup_cons] at hn
    have ih := fill_nodup ps r (fun p hp => h p (List.mem_cons_of_mem _ hp)) hn.2
    refine List.nodup_append.mpr ⟨?_, ih, ?_⟩
    · have := (h q List.mem_cons_self).2.nodup
      exact List.pairwise_map.mpr (this.imp fun h e => h (by omega))
    · intro a ha b hb e
      subst e
      obtain ⟨x, hx, rfl⟩ := List.mem_map.mp ha
      obtain ⟨p, hp, hb⟩ := List.mem_flatMap.mp hb
      obtain ⟨y, hy, e⟩ := List.mem_map.mp hb
      have hq := h q List.mem_cons_self
      have hp' := h p (List.mem_cons_of_mem _ hp)
      have a1 := hq.2.mem.mp hx
      have a2 := hp'.2.mem.mp hy
      have n1 := W_next ps hq.1
      have n2 := W_next ps hp'.1
      have hne : q.1 ≠ p.1 := fun e => hn.1 (e ▸ List.mem_map_of_mem hp)
      rcases Int.lt_or_gt_of_ne hne with hlt | hlt
      · have := W_mono ps (v := q.1 + 1) (w := p.1) (by omega)
        omega
      · have := W_mono ps (v := p.1 + 1) (w := q.1) (by omega)
        omega
theorem fill_ord {ps : List (Int × List Int)} (h : ∀ q ∈ ps, IsR 1 q.2) (hn : (ps.map (·.1)).Nodup) : IsR 1 (fill ps ps) := by
  refine isR_of (c := 0) (fill_nodup ps ps (fun q hq => ⟨hq, h q hq⟩) hn) fun x hx => ?_
  rw [fill_len]
  obtain ⟨q, hq, hx⟩ := List.mem_flatMap.mp hx
  obtain ⟨y, hy, rfl⟩ := List.mem_map.mp hx
  have a1 := (h q hq).mem.mp hy
  have a2 := W_next ps hq
  have a3 := W_total ps (q.1 + 1)
  have a4 := W_nonneg ps q.1
  omega
/-- how many are less -/
theorem rg_less (a : Int) : ∀ (n k : Nat), k ≤ n → ((rgI a 1 n).filter fun x => decide (x < a + k)).length = k := by
  intro n k h
  obtain ⟨m, rfl⟩ : ∃ m, n = k + m := ⟨n - k, by omega⟩
  rw [rg_add, List.filter_append, List.length_append]
  have h1 : (rgI a 1 k).filter (fun x => decide (x < a + k)) = rgI a 1 k := List.filter_eq_self.mpr fun x hx => decide_eq_true (mem_rg.mp hx).2
  have h2 : (rgI (a + k) 1 m).filter (fun x => decide (x < a + k)) = [] := List.filter_eq_nil_iff.mpr fun x hx => by
    have := (mem_rg.mp hx).1
    simp; omega
  rw [h1, h2, rg_len]; rfl
theorem like_eq {a : Int} {l : List Int} (h : IsR a l) : (l.map fun y => 1 + ((l.filter fun x => decide (x < y)).length : Int)) = l.map fun y => y - a + 1 := by
  apply List.map_congr_left
  intro y hy
  have hy' := h.mem.mp hy
  have := (h.filter fun x => decide (x < y)).length_eq
  rw [this]
  have := rg_less a l.length (y - a).toNat (by omega)
  rw [show a + ((y - a).toNat : Int) = y by omega] at this
  rw [this]; omega
/-- not in parts and in skew parts -/
theorem not_both {o : List Int} (h : IsR 1 o) (h1 : 1 < (parts o).length) (h2 : 1 < (skewParts o).length) : False := by
  have hne : o ≠ [] := fun e => by subst e; simp [parts, go] at h1
  obtain ⟨s, hs⟩ := first_ex h hne
  obtain ⟨t, ht⟩ := firstS_ex h hne
  have hs1 := hs.1; have hs2 := hs.2.1; have ht1 := ht.1; have ht2 := ht.2.1
  have hsl : s < o.length := by
    apply Decidable.byContradiction
    intro hc
    have : s = o.length := by omega
    rw [parts_first h hs, this] at h1
    simp [parts_nil] at h1
  have htl : t < o.length := by
    apply Decidable.byContradiction
    intro hc
    have : t = o.length := by omega
    rw [skew_first h ht, this] at h2
    simp [skew_nil] at h2
  have hlt : (o.take s).length = s := by rw [List.length_take]; omega
  have hlt' : (o.take t).length = t := by rw [List.length_take]; omega
  -- the first and the last thing
  have f1 : o[0] ∈ o.take s := List.mem_take_iff_getElem.mpr ⟨0, by omega, rfl⟩
  have f2 : o[0] ∈ o.take t := List.mem_take_iff_getElem.mpr ⟨0, by omega, rfl⟩
  have l1 : o[o.length - 1] ∈ o.drop s := List.mem_drop_iff_getElem.mpr ⟨o.length - 1 - s, by omega, by congr 1; omega⟩
  have l2 : o[o.length - 1] ∈ o.drop t := List.mem_drop_iff_getElem.mpr ⟨o.length - 1 - t, by omega, by congr 1; omega⟩
  have a1 := (hs.2.2.1.mem).mp f1
  have a2 := (ht.2.2.1.mem).mp f2
  have hd : IsR (1 + (s : Int)) (o.drop s) := by
    have h0 : IsR 1 (o.take s ++ o.drop s) := by rw [List.take_append_drop]; exact h
    have := h0.rest hs.2.2.1
    rw [hlt] at this; exact this
  have a3 := (hd.mem).mp l1
  have a4 := ((drop_ord h ht).mem).mp l2
  rw [hlt] at a1
  rw [List.length_drop] at a4
  omega
end Om
set_option Elab.async false
set_option linter.all false
set_option maxRecDepth 100000
set_option maxHeartbeats 4000000
/-! Z: reckoning with tuples and lists of ints: equality, ranges, indexes, slices, while loops, the least a law's same is asked -/
namespace Z
open PySem
abbrev T (o : List Int) : PyData := .tuple (o.map .int)
abbrev TT (l : List (List Int)) : List PyData := l.map T
theorem eqvAll_ints : ∀ (a b : List Int), PyData.eqvAll (a.map .int) (b.map .int) = decide (a = b)
  | [], [] => rfl
  | [], _ :: _ => rfl
  | _ :: _, [] => rfl
  | x :: a, y :: b => by
    show (PyData.eqv (.int x) (.int y) && PyData.eqvAll (a.map .int) (b.map .int)) = _
    rw [eqv_int, eqvAll_ints a b]
    by_cases h : x = y <;> by_cases k : a = b <;> simp [h, k]
theorem lay_ints : ∀ a : List Int, PyData.canLayAll0 (a.map .int) = true
  | [] => rfl
  | x :: a => by
    show (PyData.canLay0 (.int x) && PyData.canLayAll0 (a.map .int)) = true
    rw [lay_ints a]; rfl
theorem deep_ints : ∀ a : List Int, PyData.depthAll (a.map .int) ≤ 1
  | [] => by decide
  | x :: a => by
    show max (PyData.depth (.int x)) (PyData.depthAll (a.map .int)) ≤ 1
    exact Nat.max_le.mpr ⟨Nat.zero_le _, deep_ints a⟩
theorem sh_ints (a : List Int) : SeqAt.shaped (.list (a.map .int)) = true := by
  unfold SeqAt.shaped
  rw [show PyData.canLay0 (.list (a.map .int)) = PyData.canLayAll0 (a.map .int) from rfl, lay_ints]
  have : PyData.depth (.list (a.map .int)) = PyData.depthAll (a.map .int) + 1 := rfl
  rw [this]
  have := deep_ints a
  simp; omega
theorem sh_intsT (a : List Int) : SeqAt.shaped (.tuple (a.map .int)) = true := by
  unfold SeqAt.shaped
  rw [show PyData.canLay0 (.tuple (a.map .int)) = PyData.canLayAll0 (a.map .int) from rfl, lay_ints]
  have : PyData.depth (.tuple (a.map .int)) = PyData.depthAll (a.map .int) + 1 := rfl
  rw [this]
  have := deep_ints a
  simp; omega
theorem z_eqL (a b : List Int) : pEq (.list (a.map .int)) (.list (b.map .int)) = some (.bool (decide (a = b))) := by
  unfold pEq
  rw [if_pos ⟨sh_ints a, sh_ints b⟩]
  exact congrArg (fun x => some (PyData.bool x)) (eqvAll_ints a b)
theorem z_neL (a b : List Int) : pNe (.list (a.map .int)) (.list (b.map .int)) = some (.bool (!decide (a = b))) := by
  unfold pNe
  rw [if_pos ⟨sh_ints a, sh_ints b⟩]
  exact congrArg (fun x => some (PyData.bool (!x))) (eqvAll_ints a b)
theorem z_eqT (a b : List Int) : pEq (.tuple (a.map .int)) (.tuple (b.map .int)) = some (.bool (decide (a = b))) := by
  unfold pEq
  rw [if_pos ⟨sh_intsT a, sh_intsT b⟩]
  exact congrArg (fun x => some (PyData.bool x)) (eqvAll_ints a b)
theorem z_neT (a b : List Int) : pNe (.tuple (a.map .int)) (.tuple (b.map .int)) = some (.bool (!decide (a = b))) := by
  unfold pNe
  rw [if_pos ⟨sh_intsT a, sh_intsT b⟩]
  exact congrArg (fun x => some (PyData.bool (!x))) (eqvAll_ints a b)
@[simp] theorem z_eqT0 (a : List Int) : pEq (.tuple (a.map .int)) (.tuple []) = some (.bool (decide (a = []))) := z_eqT a []
@[simp] theorem z_neT0 (a : List Int) : pNe (.tuple (a.map .int)) (.tuple []) = some (.bool (!decide (a = []))) := z_neT a []
@[simp] theorem z_eqL0 (a : List Int) : pEq (.list (a.map .int)) (.list []) = some (.bool (decide (a = []))) := z_eqL a []
@[simp] theorem z_neL0 (a : List Int) : pNe (.list (a.map .int)) (.list []) = some (.bool (!decide (a = []))) := z_neL a []
theorem range2 (a b : Int) (ha : -100000 ≤ a ∧ a ≤ 100000) (hb : -100000 ≤ b ∧ b ≤ 100000) : rangeOf [.int a, .int b] = some (rgI a 1 (b - a).toNat) := by
  simp [rangeOf, smallI, ha, hb]
theorem range1 (b : Int) (hb : -100000 ≤ b ∧ b ≤ 100000) : rangeOf [.int b] = some (rgI 0 1 b.toNat) := by
  simp [rangeOf, smallI, hb]
theorem rangeN (n : Nat) (h : n ≤ 100000) : rangeOf [.int (n : Int)] = some (rgI 0 1 n) := by
  have := range1 (n : Int) (by omega)
  simpa using this
theorem rangeS (n : Nat) (h : n < 100000) : rangeOf [.int 1, .int ((n : Int) + 1)] = some (rgI 1 1 n) := by
  have := range2 1 ((n : Int) + 1) (by omega) (by omega)
  rwa [show ((n : Int) + 1 - 1).toNat = n by omega] at this
theorem cut_ab (xs : List PyData) (a b : Nat) (h : b ≤ xs.length) (hab : a ≤ b) : cutD xs (some (a : Int)) (some (b : Int)) = (xs.take b).drop a := by
  unfold cutD
  have e1 : HT.sIx xs.length 0 (some (a : Int)) = a := by
    show (if (a : Int) < 0 then ((a : Int) + xs.length).toNat else min ((a : Int).toNat) xs.length) = a
    rw [if_neg (by omega)]; omega
  have e2 : HT.sIx xs.length xs.length (some (b : Int)) = b := by
    show (if (b : Int) < 0 then ((b : Int) + xs.length).toNat else min ((b : Int).toNat) xs.length) = b
    rw [if_neg (by omega)]; omega
  rw [e1, e2, List.drop_take]
theorem cut_to (xs : List PyData) (b : Nat) : cutD xs none (some (b : Int)) = xs.take b := by
  unfold cutD
  have e1 : HT.sIx xs.length 0 none = 0 := rfl
  have e2 : HT.sIx xs.length xs.length (some (b : Int)) = min b xs.length := by
    show (if (b : Int) < 0 then ((b : Int) + xs.length).toNat else min ((b : Int).toNat) xs.length) = _
    rw [if_neg (by omega)]; omega
  rw [e1, e2]; simp [List.take_eq_take_iff]
theorem cut_from (xs : List PyData) (a : Nat) : cutD xs (some (a : Int)) none = xs.drop a := by
  unfold cutD
  have e1 : HT.sIx xs.length 0 (some (a : Int)) = min a xs.length := by
    show (if (a : Int) < 0 then ((a : Int) + xs.length).toNat else min ((a : Int).toNat) xs.length) = _
    rw [if_neg (by omega)]; omega
  have e2 : HT.sIx xs.length xs.length none = xs.length := rfl
  rw [e1, e2]
  by_cases h : a ≤ xs.length
  · rw [Nat.min_eq_left h, ← List.length_drop, List.take_length]
  · rw [Nat.min_eq_right (by omega), Nat.sub_self, List.take_zero, List.drop_eq_nil_of_le (by omega)]
theorem ixN_nat {n i : Nat} (h : i < n) : L2.ixN n (i : Int) = some i := by
  unfold L2.ixN
  rw [if_pos (by omega), if_pos (by omega)]
  simp
theorem ixN_0 {n : Nat} (h : 0 < n) : L2.ixN n 0 = some 0 := ixN_nat (i := 0) h
theorem ixN_last {n : Nat} (h : 0 < n) : L2.ixN n (-1) = some (n - 1) := by
  unfold L2.ixN
  rw [if_neg (by omega), if_pos (by omega)]
  congr 1; omega
theorem rg_split {a : Int} {n : Nat} {pre post : List Int} {x : Int} (h : rgI a 1 n = pre ++ x :: post) : x = a + pre.length ∧ pre = rgI a 1 pre.length ∧ pre.length < n := by
  have hl := congrArg List.length h
  rw [Om.rg_len] at hl
  simp at hl
  have hn : n = pre.length + (post.length + 1) := by omega
  rw [hn, Om.rg_add, Om.rg_succ] at h
  obtain ⟨h1, h2⟩ := List.append_inj h (by rw [Om.rg_len])
  exact ⟨(List.cons.inj h2).1.symm, h1.symm, by omega⟩
theorem isR_rg (n : Nat) : Om.IsR 1 (rgI 1 1 n) := by unfold Om.IsR; rw [Om.rg_len]
theorem isR_rgr (n : Nat) : Om.IsR 1 (rgI 1 1 n).reverse := Om.isR_rev (isR_rg n)
theorem log2_small {n : Nat} (h : n < 2 ^ 64) : n.log2 < 64 := by
  by_cases h0 : n = 0
  · subst h0; decide
  · exact (Nat.log2_lt h0).mpr h
/-- a for over any data, the state told by what is taken -/
theorem forLoop_any {g : PyData → Env → Option Env} {b : SX} (I : List PyData → Env → Prop) (xs : List PyData)
    (step : ∀ pre x post Γ, xs = pre ++ x :: post → I pre Γ → ∃ Γ1 Γ2, g x Γ = some Γ1 ∧ (b Γ1 = some (.nx Γ2) ∨ b Γ1 = some (.ct Γ2)) ∧ I (pre ++ [x]) Γ2) {Γ : Env} (h0 : I [] Γ) :
    ∃ Γ', forLoop g b xs Γ = some (.nx Γ') ∧ I xs Γ' := forLoop_inv I xs step h0
/-- a while by a measure -/
theorem while_inv {t : TX} {b : SX} (I : Env → Prop) (m : Env → Nat)
    (step : ∀ Γ, I Γ → ∃ c Γ1, t Γ = some (c, Γ1) ∧ (c = true → ∃ Γ2, (b Γ1 = some (.nx Γ2) ∨ b Γ1 = some (.ct Γ2)) ∧ I Γ2 ∧ m Γ2 < m Γ)) :
    ∀ (n : Nat) (Γ : Env), m Γ < n → I Γ → ∃ Γ0 Γ', I Γ0 ∧ t Γ0 = some (false, Γ') ∧ whileLoop t b n Γ = some (.nx Γ')
  | 0, Γ, h, _ => absurd h (Nat.not_lt_zero _)
  | n + 1, Γ, h, hi => by
    obtain ⟨c, Γ1, e1, h2⟩ := step Γ hi
    cases c with
    | false =>
      refine ⟨Γ, Γ1, hi, e1, ?_⟩
      unfold whileLoop
      rw [e1]; rfl
    | true =>
      obtain ⟨Γ2, e2, hi2, hm⟩ := h2 rfl
      obtain ⟨Γ0, Γ', g1, g2, g3⟩ := while_inv I m step n Γ2 (by omega) hi2
      refine ⟨Γ0, Γ', g1, g2, ?_⟩
      unfold whileLoop
      rw [e1]
      rcases e2 with e2 | e2 <;> simp only [Option.bind_some, if_true, e2, g3]
@[simp] theorem z_while {t : TX} {b : SX} {Γ : Env} : sWhile t b Γ = whileLoop t b (2 ^ 64) Γ := rfl
theorem while_stop {t : TX} {b : SX} {Γ Γ' : Env} {n : Nat} (h : t Γ = some (false, Γ')) : whileLoop t b (n + 1) Γ = some (.nx Γ') := by
  unfold whileLoop
  rw [h]; rfl
theorem while_go {t : TX} {b : SX} {Γ Γ1 Γ2 : Env} {n : Nat} (h : t Γ = some (true, Γ1)) (hb : b Γ1 = some (.nx Γ2)) : whileLoop t b (n + 1) Γ = whileLoop t b n Γ2 := by
  conv => lhs; unfold whileLoop
  rw [h]
  simp only [Option.bind_some, if_true, hb]
end Z
namespace Z
theorem map_erase {α β : Type} (f : α → β) : ∀ (l : List α) (j : Nat), (l.map f).eraseIdx j = (l.eraseIdx j).map f
  | [], _ => rfl
  | _ :: _, 0 => rfl
  | x :: l, j + 1 => by simp [map_erase f l j]
theorem erase_perm {α : Type} : ∀ {l : List α} {j : Nat} (h : j < l.length), (l[j] :: l.eraseIdx j).Perm l
  | x :: l, 0, _ => by simp
  | x :: l, j + 1, h => by
    have := erase_perm (l := l) (j := j) (by simpa using h)
    simp only [List.getElem_cons_succ, List.eraseIdx_cons_succ]
    exact (List.Perm.swap _ _ _).trans (this.cons x)
/-- two things change places -/
theorem swap_perm {l : List Int} {i j : Nat} (hi : i < l.length) (hj : j < l.length) : ((l.set i l[j]).set j l[i]).Perm l := by
  apply List.perm_iff_count.mpr
  intro a
  by_cases e : i = j
  · subst e; simp
  · rw [List.count_set (by simpa using hj), List.count_set hi]
    have h1 : (l.set i l[j])[j]'(by simpa using hj) = l[j] := by rw [List.getElem_set_ne e]
    rw [h1]
    have c1 : (if l[i] == a then 1 else 0) ≤ l.count a := by
      split
      · rename_i h; have e2 := eq_of_beq h; have m : a ∈ l := e2 ▸ List.getElem_mem hi; have := List.count_pos_iff.mpr m; omega
      · omega
    split <;> split <;> rename_i p q <;> simp_all
    all_goals omega
end Z
namespace Z
open PySem in
theorem seq_nx {s t : SX} {Γ Γ1 : Z.Env} (h : s Γ = some (.nx Γ1)) : sSeq s t Γ = t Γ1 := by
  show (s Γ).bind _ = _
  rw [h]; rfl
open PySem in
theorem for_nx {it : AX} {gx : PyData → Z.Env → Option Z.Env} {s : SX} {xs : List PyData} {Γ Γ1 : Z.Env} (h : it Γ = some (xs, Γ1)) : sFor it gx s Γ = forLoop gx s xs Γ1 := by
  show (it Γ).bind _ = _
  rw [h]; rfl
end Z
set_option linter.all false
/-! The search of matching.py as a plain function, and what it finds: all ways, one behind the other (or so many as are asked for) -/
namespace Mt
abbrev Pl3 := Int × Int × List Int
abbrev Fnd := List (List Int)
def rg (a : Int) : Nat → List Int
  | 0 => []
  | n + 1 => a :: rg (a + 1) n
def ixI (l : List Int) (i : Int) : Option Int := if 0 ≤ i then l[i.toNat]? else if -(l.length : Int) ≤ i then l[((l.length : Int) + i).toNat]? else none
def restOf : List Int → List Int → Option (List Int)
  | [], _ => some []
  | i :: is, g => (ixI g i).bind fun x => (restOf is g).bind fun r => some (x :: r)
def lastOr (chosen : List Int) : Int := match chosen.getLast? with | some c => c | none => 0
def startOf (chosen : List Int) : Int := if chosen = [] then 0 else lastOr chosen + 1
section
variable {κ : Type} [DecidableEq κ] (gk : Nat → List Int → κ)
def putI (kt : List (κ × Int)) (k : κ) (v : Int) : List (κ × Int) := if (kt.any fun p => decide (p.1 = k)) = true then kt.map (fun p => if p.1 = k then (p.1, v) else p) else kt ++ [(k, v)]
def getI (kt : List (κ × Int)) (k : κ) : Option Int := (kt.find? fun p => decide (p.1 = k)).map (·.2)
variable (o : List Int) (p : List Pl3) (m : Int)
def behind (rec : List (κ × Int) → Fnd → List Int → List Int → Option (Bool × List (κ × Int) × Fnd)) (kt : List (κ × Int)) (xs : Fnd) (chosen grown : List Int) : Option (List (κ × Int) × Fnd) :=
  if chosen.length = 0 ∨ 50000 < chosen.length then none else
  (p[chosen.length - 1]?).bind fun st => (restOf st.2.2 grown).bind fun rest => if 50000 < st.2.2.length then none else
    if lastOr chosen < (getI kt (gk chosen.length rest)).getD (lastOr chosen + 1) then
      (rec kt xs chosen rest).bind fun r => if r.1 = true then some (r.2.1, r.2.2) else if r.2.1.length < 100000 then some (putI r.2.1 (gk chosen.length rest) (lastOr chosen), r.2.2) else none
    else some (kt, xs)
def gLoop (rec : List (κ × Int) → Fnd → List Int → List Int → Option (Bool × List (κ × Int) × Fnd)) (chosen held : List Int) (bottom top : Int) : List Int → List (κ × Int) → Fnd → Option (Bool × List (κ × Int) × Fnd)
  | [], kt, xs => some (false, kt, xs)
  | pl :: ps, kt, xs => (ixI o pl).bind fun number =>
    if bottom < number ∧ number < top then
      (if chosen.length + 1 = p.length then (if xs.length < 100000 then some (kt, xs ++ [chosen ++ [pl]]) else none) else behind gk p rec kt xs (chosen ++ [pl]) (held ++ [number])).bind fun r =>
        if (r.2.length : Int) = m then some (true, r.1, r.2) else gLoop rec chosen held bottom top ps r.1 r.2
    else gLoop rec chosen held bottom top ps kt xs
def gBody (rec : List (κ × Int) → Fnd → List Int → List Int → Option (Bool × List (κ × Int) × Fnd)) (kt : List (κ × Int)) (xs : Fnd) (chosen held : List Int) : Option (Bool × List (κ × Int) × Fnd) :=
  if 50000 < o.length + p.length + chosen.length + held.length ∨ startOf chosen < 0 ∨ 50000 < startOf chosen then none else
  (p[chosen.length]?).bind fun st => (ixI held st.1).bind fun bottom => (ixI held st.2.1).bind fun top =>
  (gLoop gk o p m rec chosen held bottom top (rg (startOf chosen) (((o.length : Int) - p.length + chosen.length + 1) - startOf chosen).toNat) kt xs).bind fun r =>
    some (r.1 || decide (xs.length < r.2.2.length), r.2)
def gat : Nat → List (κ × Int) → Fnd → List Int → List Int → Option (Bool × List (κ × Int) × Fnd)
  | 0 => fun _ _ _ _ => none
  | n + 1 => gBody gk o p m (gat n)

/-! ### all ways, without a memory -/
/-- the ways to go on: lists of places behind, the next entry being that of the plan's rest ps -/
def ways (o : List Int) : List Pl3 → List Int → Int → List (List Int)
  | [], _, _ => [[]]
  | st :: ps, held, start => match ixI held st.1, ixI held st.2.1 with
    | some bottom, some top => (rg start ((o.length : Int) - start - ps.length).toNat).flatMap fun pl => match ixI o pl with
      | some number => if bottom < number ∧ number < top then match restOf st.2.2 (held ++ [number]) with
          | some rest => (ways o ps rest (pl + 1)).map (pl :: ·)
          | none => []
        else []
      | none => []
    | _, _ => []
end
end Mt
set_option linter.all false
namespace Mt
theorem mem_rg {x : Int} : ∀ {n : Nat} {a : Int}, x ∈ rg a n ↔ a ≤ x ∧ x < a + n
  | 0, a => by simp [rg]
  | n + 1, a => by
    rw [rg, List.mem_cons, mem_rg]
    omega
theorem rg_len : ∀ (n : Nat) (a : Int), (rg a n).length = n
  | 0, _ => rfl
  | n + 1, a => by rw [rg, List.length_cons, rg_len]
theorem ixI_ok {l : List Int} {i : Int} (h0 : 0 ≤ i) (h : i < l.length) : ∃ x, ixI l i = some x := by
  unfold ixI
  rw [if_pos h0]
  have : i.toNat < l.length := by omega
  exact ⟨_, List.getElem?_eq_getElem this⟩
theorem restOf_ok {g : List Int} : ∀ {ks : List Int}, (∀ k ∈ ks, 0 ≤ k ∧ k < g.length) → ∃ r, restOf ks g = some r ∧ r.length = ks.length
  | [], _ => ⟨[], rfl, rfl⟩
  | k :: ks, h => by
    obtain ⟨x, hx⟩ := ixI_ok (h k List.mem_cons_self).1 (h k List.mem_cons_self).2
    obtain ⟨r, hr, hl⟩ := restOf_ok (ks := ks) fun q hq => h q (List.mem_cons_of_mem _ hq)
    exact ⟨x :: r, by simp [restOf, hx, hr], by simp [hl]⟩
def Valid : List Pl3 → Nat → Prop
  | [], _ => True
  | st :: ps, h => (0 ≤ st.1 ∧ st.1 < h) ∧ (0 ≤ st.2.1 ∧ st.2.1 < h) ∧ (∀ k ∈ st.2.2, 0 ≤ k ∧ k ≤ h) ∧ st.2.2.length ≤ 10000 ∧ Valid ps st.2.2.length
/-- the ways that begin at one place -/
def wf (o : List Int) (st : Pl3) (ps : List Pl3) (held : List Int) (bottom top pl : Int) : List (List Int) := match ixI o pl with
  | some number => if bottom < number ∧ number < top then match restOf st.2.2 (held ++ [number]) with
      | some rest => (ways o ps rest (pl + 1)).map (pl :: ·)
      | none => []
    else []
  | none => []
theorem ways_cons {o : List Int} {st : Pl3} {ps : List Pl3} {held : List Int} {start bottom top : Int} (h1 : ixI held st.1 = some bottom) (h2 : ixI held st.2.1 = some top) :
    ways o (st :: ps) held start = (rg start ((o.length : Int) - start - ps.length).toNat).flatMap (wf o st ps held bottom top) := by
  rw [ways, h1, h2]
  rfl
theorem ways_mono {o : List Int} {ps : List Pl3} {held : List Int} {s s' : Int} (h : ways o ps held s = []) (hs : s ≤ s') : ways o ps held s' = [] := by
  cases ps with
  | nil => simp [ways] at h
  | cons st ps =>
    cases h1 : ixI held st.1 with
    | none => rw [ways, h1]
    | some bottom =>
      cases h2 : ixI held st.2.1 with
      | none => rw [ways, h1, h2]
      | some top =>
        rw [ways_cons h1 h2] at h ⊢
        rw [List.flatMap_eq_nil_iff] at h ⊢
        intro x hx
        exact h x (by rw [mem_rg] at hx ⊢; omega)
def cut (m : Int) (k : Nat) (V : Fnd) : Fnd := if m < 0 then V else V.take (m.toNat - k)
theorem cut_nil {m : Int} {k : Nat} : cut m k [] = [] := by unfold cut; split <;> simp
section
variable {κ : Type} [DecidableEq κ] (gk : Nat → List Int → κ) (inj : ∀ i r i' r', gk i r = gk i' r' → i = i' ∧ r = r')
variable (o : List Int) (p : List Pl3) (m : Int)
def Memo (kt : List (κ × Int)) : Prop := ∀ q ∈ kt, ∀ i r, q.1 = gk i r → ways o (p.drop i) r (q.2 + 1) = []
include inj in
theorem memo_put {kt : List (κ × Int)} (h : Memo gk o p kt) {i : Nat} {r : List Int} {v : Int} (hw : ways o (p.drop i) r (v + 1) = []) : Memo gk o p (putI kt (gk i r) v) := by
  intro q hq i' r' e
  unfold putI at hq
  split at hq
  · obtain ⟨q0, h0, rfl⟩ := List.mem_map.mp hq
    by_cases hk : q0.1 = gk i r
    · rw [if_pos hk] at e ⊢
      obtain ⟨rfl, rfl⟩ := inj _ _ _ _ (hk.symm.trans e)
      exact hw
    · rw [if_neg hk] at e ⊢
      exact h q0 h0 i' r' e
  · rcases List.mem_append.mp hq with hq | hq
    · exact h q hq i' r' e
    · rw [List.mem_singleton] at hq
      subst hq
      obtain ⟨rfl, rfl⟩ := inj _ _ _ _ e
      exact hw
theorem put_len (kt : List (κ × Int)) (k : κ) (v : Int) : (putI kt k v).length ≤ kt.length + 1 := by
  unfold putI
  split
  · rw [List.length_map]; omega
  · simp
theorem getI_mem {kt : List (κ × Int)} {k : κ} {v : Int} (h : getI kt k = some v) : (k, v) ∈ kt := by
  unfold getI at h
  obtain ⟨q, h1, h2⟩ := Option.map_eq_some_iff.mp h
  have := List.find?_some h1
  have hm := List.mem_of_find?_eq_some h1
  simp at this
  subst this; subst h2
  exact hm
/-- what is promised of the search from the chosen places on -/
def Good (rec : List (κ × Int) → Fnd → List Int → List Int → Option (Bool × List (κ × Int) × Fnd)) (i : Nat) : Prop :=
  ∀ (kt : List (κ × Int)) (xs : Fnd) (chosen held : List Int) (d : Nat), chosen.length = i → i < p.length → Memo gk o p kt → 0 ≤ startOf chosen → startOf chosen + d = o.length → Valid (p.drop i) held.length → held.length ≤ 10000 →
    kt.length + 2 ^ d ≤ 100000 → xs.length + 2 ^ d ≤ 100000 → (m < 0 ∨ (xs.length : Int) < m) →
    ∃ b kt' xs', rec kt xs chosen held = some (b, kt', xs') ∧ Memo gk o p kt' ∧ xs' = xs ++ cut m xs.length ((ways o (p.drop i) held (startOf chosen)).map (chosen ++ ·)) ∧ kt'.length + 1 ≤ kt.length + 2 ^ d ∧ xs'.length ≤ xs.length + 2 ^ d ∧
      (b = true ↔ ways o (p.drop i) held (startOf chosen) ≠ [])

theorem startOf_app (c : List Int) (a : Int) : startOf (c ++ [a]) = a + 1 := by
  unfold startOf lastOr
  rw [if_neg (by simp)]
  simp
theorem lastOr_app (c : List Int) (a : Int) : lastOr (c ++ [a]) = a := by
  unfold lastOr; simp
theorem drop_cons {i : Nat} {st : Pl3} (h : p[i]? = some st) : p.drop i = st :: p.drop (i + 1) := by
  obtain ⟨hl, e⟩ := List.getElem?_eq_some_iff.mp h
  rw [List.drop_eq_getElem_cons hl, e]
theorem cut_app {m : Int} {k : Nat} {A B : Fnd} (hm : m < 0 ∨ (k : Int) < m) (h : ¬ ((k + (cut m k A).length : Nat) : Int) = m) : cut m k A = A ∧ (m < 0 ∨ ((k + A.length : Nat) : Int) < m) ∧ cut m k (A ++ B) = A ++ cut m (k + A.length) B := by
  unfold cut at *
  by_cases h0 : m < 0
  · simp [h0]
  · have hk : (k : Int) < m := by omega
    simp only [h0, if_false] at h ⊢
    rw [List.length_take] at h
    have : A.length < m.toNat - k := by omega
    refine ⟨List.take_of_length_le (by omega), .inr (by omega), ?_⟩
    rw [List.take_append, List.take_of_length_le (by omega), Nat.sub_sub]
theorem cut_full {m : Int} {k : Nat} {A B : Fnd} (hm : m < 0 ∨ (k : Int) < m) (h : ((k + (cut m k A).length : Nat) : Int) = m) : cut m k (A ++ B) = cut m k A := by
  unfold cut at *
  by_cases h0 : m < 0
  · exfalso; omega
  · simp only [h0, if_false] at h ⊢
    rw [List.length_take] at h
    rw [List.take_append_of_le_length (by omega)]
theorem cut_ne {m : Int} {k : Nat} {V : Fnd} (hm : m < 0 ∨ (k : Int) < m) : cut m k V = [] ↔ V = [] := by
  unfold cut
  by_cases h0 : m < 0
  · simp [h0]
  · simp only [h0, if_false]
    rw [List.take_eq_nil_iff]
    constructor
    · rintro (h | h)
      · omega
      · exact h
    · exact .inr
theorem pow_pos2 (d : Nat) : 1 ≤ 2 ^ d := Nat.one_le_two_pow
include inj in
theorem loop_ok {i : Nat} (hrec : i + 1 < p.length → Good gk o p m (gat gk o p m n) (i + 1)) (ho : o.length ≤ 10000) (hp : p.length ≤ 10000) (chosen held : List Int) (hc : chosen.length = i) (hi : i < p.length) {st : Pl3} (hst : p[i]? = some st) {bottom top : Int} (hV : Valid (p.drop i) held.length) (hheld : held.length ≤ 10000) :
    ∀ (k : Nat) (a : Int) (d : Nat) (kt : List (κ × Int)) (xs : Fnd), 0 ≤ a → a + d = o.length → k ≤ d → Memo gk o p kt → kt.length + 2 ^ d ≤ 100000 → xs.length + 2 ^ d ≤ 100000 → (m < 0 ∨ (xs.length : Int) < m) →
    ∃ b kt' xs', gLoop gk o p m (gat gk o p m n) chosen held bottom top (rg a k) kt xs = some (b, kt', xs') ∧ Memo gk o p kt' ∧ xs' = xs ++ cut m xs.length (((rg a k).flatMap (wf o st (p.drop (i + 1)) held bottom top)).map (chosen ++ ·)) ∧ kt'.length + 1 ≤ kt.length + 2 ^ d ∧ xs'.length + 1 ≤ xs.length + 2 ^ d ∧ (b = true → xs.length < xs'.length)
  | 0, a, d, kt, xs, ha, hd, hk, hM, hkt, hxs, hm => by
    refine ⟨false, kt, xs, rfl, hM, ?_, ?_, ?_, by simp⟩
    · simp [rg, cut_nil]
    · have := pow_pos2 d; omega
    · have := pow_pos2 d; omega
  | k + 1, a, d, kt, xs, ha, hd, hk, hM, hkt, hxs, hm => by
    obtain ⟨number, hnum⟩ := ixI_ok (l := o) (i := a) ha (by omega)
    obtain ⟨d', rfl⟩ : ∃ d', d = d' + 1 := ⟨d - 1, by omega⟩
    have hpow : 2 ^ (d' + 1) = 2 ^ d' + 2 ^ d' := by rw [Nat.pow_succ]; omega
    have hone := pow_pos2 d'
    rw [drop_cons (p := p) hst] at hV
    obtain ⟨hv1, hv2, hv3, hv4, hv5⟩ := hV
    rw [rg, gLoop, hnum]
    simp only [Option.bind_some]
    rw [List.flatMap_cons, List.map_append]
    by_cases hin : bottom < number ∧ number < top
    · rw [if_pos hin]
      obtain ⟨rest, hrest, hrl⟩ := restOf_ok (g := held ++ [number]) (ks := st.2.2) fun q hq => ⟨(hv3 q hq).1, by have := (hv3 q hq).2; simp; omega⟩
      have ewf : wf o st (p.drop (i + 1)) held bottom top a = (ways o (p.drop (i + 1)) rest (a + 1)).map (a :: ·) := by
        unfold wf
        rw [hnum]; simp only; rw [if_pos hin, hrest]
      -- what one turn brings
      have turn : ∃ kt1 xs1, (if chosen.length + 1 = p.length then (if xs.length < 100000 then some (kt, xs ++ [chosen ++ [a]]) else none) else behind gk p (gat gk o p m n) kt xs (chosen ++ [a]) (held ++ [number])) = some (kt1, xs1) ∧ Memo gk o p kt1 ∧
          xs1 = xs ++ cut m xs.length ((wf o st (p.drop (i + 1)) held bottom top a).map (chosen ++ ·)) ∧ kt1.length ≤ kt.length + 2 ^ d' ∧ xs1.length ≤ xs.length + 2 ^ d' := by
        by_cases hl : chosen.length + 1 = p.length
        · rw [if_pos hl, if_pos (by omega)]
          refine ⟨kt, xs ++ [chosen ++ [a]], rfl, hM, ?_, by omega, by simp; omega⟩
          have e0 : p.drop (i + 1) = [] := List.drop_eq_nil_of_le (by omega)
          rw [ewf, e0]
          simp only [ways, List.map_cons, List.map_nil]
          congr 1
          unfold cut
          split
          · rfl
          · rw [List.take_of_length_le (by simp; omega)]
        · rw [if_neg hl]
          have hi1 : i + 1 < p.length := by omega
          have hlen1 : (chosen ++ [a]).length = i + 1 := by simp [hc]
          unfold behind
          rw [if_neg (by rw [hlen1]; omega), hlen1, Nat.add_sub_cancel, hst]
          simp only [Option.bind_some]
          rw [hrest]
          simp only [Option.bind_some]
          rw [if_neg (by omega), lastOr_app]
          have emap : (wf o st (p.drop (i + 1)) held bottom top a).map (chosen ++ ·) = (ways o (p.drop (i + 1)) rest (a + 1)).map ((chosen ++ [a]) ++ ·) := by
            rw [ewf, List.map_map]
            refine List.map_congr_left fun x _ => ?_
            simp
          by_cases hg : a < (getI kt (gk (i + 1) rest)).getD (a + 1)
          · rw [if_pos hg]
            obtain ⟨b, kt1, xs1, e1, e2, e3, e4, e5, e6⟩ := hrec hi1 kt xs (chosen ++ [a]) rest d' hlen1 hi1 hM (by rw [startOf_app]; omega) (by rw [startOf_app]; omega) (by rw [hrl]; exact hv5) (by omega) (by omega) (by omega) hm
            rw [startOf_app] at e3 e6
            rw [e1]
            simp only [Option.bind_some]
            cases b with
            | true =>
              refine ⟨kt1, xs1, rfl, e2, by rw [emap]; exact e3, by omega, e5⟩
            | false =>
              have hw : ways o (p.drop (i + 1)) rest (a + 1) = [] := by
                by_cases hw : ways o (p.drop (i + 1)) rest (a + 1) = []
                · exact hw
                · exact absurd (e6.mpr hw) (by decide)
              rw [if_neg (by decide), if_pos (by show kt1.length < 100000; omega)]
              refine ⟨_, xs1, rfl, memo_put gk inj o p e2 hw, by rw [emap]; exact e3, ?_, e5⟩
              have := put_len kt1 (gk (i + 1) rest) a
              omega
          · rw [if_neg hg]
            have hw : ways o (p.drop (i + 1)) rest (a + 1) = [] := by
              cases hq : getI kt (gk (i + 1) rest) with
              | none => rw [hq] at hg; simp at hg; exact absurd hg (by omega)
              | some v =>
                rw [hq] at hg
                have := hM _ (getI_mem hq) (i + 1) rest rfl
                exact ways_mono this (by simp at hg ⊢; omega)
            refine ⟨kt, xs, rfl, hM, ?_, by omega, by omega⟩
            rw [emap, hw]; simp [cut_nil]
      obtain ⟨kt1, xs1, t1, t2, t3, t4, t5⟩ := turn
      rw [t1]
      simp only [Option.bind_some]
      have hlen : xs1.length = xs.length + (cut m xs.length ((wf o st (p.drop (i + 1)) held bottom top a).map (chosen ++ ·))).length := by rw [t3, List.length_append]
      by_cases hm1 : (xs1.length : Int) = m
      · rw [if_pos hm1]
        refine ⟨true, kt1, xs1, rfl, t2, ?_, by omega, by omega, fun _ => ?_⟩
        · rw [cut_full hm (by rw [← hlen]; exact hm1)]; exact t3
        · omega
      · rw [if_neg hm1]
        obtain ⟨c1, c2, c3⟩ := cut_app (B := ((rg (a + 1) k).flatMap (wf o st (p.drop (i + 1)) held bottom top)).map (chosen ++ ·)) hm (by rw [← hlen]; exact hm1)
        rw [c1] at t3 hlen
        obtain ⟨b, kt2, xs2, l1, l2, l3, l4, l5, l6⟩ := loop_ok hrec ho hp chosen held hc hi hst (by rw [drop_cons (p := p) hst]; exact ⟨hv1, hv2, hv3, hv4, hv5⟩) hheld k (a + 1) d' kt1 xs1 (by omega) (by omega) (by omega) t2 (by omega) (by omega) (by rw [hlen]; exact c2)
        refine ⟨b, kt2, xs2, l1, l2, ?_, by omega, by omega, fun h => by have := l6 h; omega⟩
        rw [l3, c3, t3, List.append_assoc, List.length_append]
    · rw [if_neg hin]
      have ewf : wf o st (p.drop (i + 1)) held bottom top a = [] := by
        unfold wf
        rw [hnum]; simp only; rw [if_neg hin]
      rw [ewf, List.map_nil, List.nil_append]
      obtain ⟨b, kt2, xs2, l1, l2, l3, l4, l5, l6⟩ := loop_ok hrec ho hp chosen held hc hi hst (by rw [drop_cons (p := p) hst]; exact ⟨hv1, hv2, hv3, hv4, hv5⟩) hheld k (a + 1) d' kt xs (by omega) (by omega) (by omega) hM (by omega) (by omega) hm
      exact ⟨b, kt2, xs2, l1, l2, l3, by omega, by omega, l6⟩
include inj in
theorem gat_ok (ho : o.length ≤ 10000) (hp : p.length ≤ 10000) : ∀ (n i : Nat), p.length ≤ i + n → Good gk o p m (gat gk o p m n) i
  | 0, i, hn => fun kt xs chosen held d hc hi => by omega
  | n + 1, i, hn => by
    intro kt xs chosen held d hc hi hM hs hd hV hh hkt hxs hm
    have hst : p[i]? = some p[i] := List.getElem?_eq_getElem hi
    have hV' := hV
    rw [drop_cons (p := p) hst] at hV'
    obtain ⟨hv1, hv2, _⟩ := hV'
    obtain ⟨bottom, hb⟩ := ixI_ok hv1.1 hv1.2
    obtain ⟨top, ht⟩ := ixI_ok hv2.1 hv2.2
    obtain ⟨b, kt', xs', l1, l2, l3, l4, l5, l6⟩ := loop_ok gk inj o p m (n := n) (fun h => gat_ok ho hp n (i + 1) (by omega)) ho hp chosen held hc hi hst hV hh (bottom := bottom) (top := top) (((o.length : Int) - p.length + i + 1) - startOf chosen).toNat (startOf chosen) d kt xs hs hd (by omega) hM hkt hxs hm
    show ∃ b kt' xs', gBody gk o p m (gat gk o p m n) kt xs chosen held = some (b, kt', xs') ∧ _
    unfold gBody
    rw [if_neg (by omega), hc, hst]
    simp only [Option.bind_some]
    rw [hb, ht]
    simp only [Option.bind_some]
    rw [l1]
    have ew : ways o (p.drop i) held (startOf chosen) = (rg (startOf chosen) (((o.length : Int) - p.length + i + 1) - startOf chosen).toNat).flatMap (wf o p[i] (p.drop (i + 1)) held bottom top) := by
      rw [drop_cons (p := p) hst, ways_cons hb ht]
      congr 2
      rw [List.length_drop]; omega
    rw [← ew] at l3
    refine ⟨_, kt', xs', rfl, l2, l3, l4, by omega, ?_⟩
    simp only [Bool.or_eq_true, decide_eq_true_eq]
    have hlen : xs'.length = xs.length + (cut m xs.length ((ways o (p.drop i) held (startOf chosen)).map (chosen ++ ·))).length := by rw [l3, List.length_append]
    have hne := cut_ne (m := m) (k := xs.length) (V := (ways o (p.drop i) held (startOf chosen)).map (chosen ++ ·)) hm
    constructor
    · intro h hw
      rw [hw] at hne hlen
      have : (cut m xs.length (List.map (fun x => chosen ++ x) ([] : Fnd))) = [] := hne.mpr rfl
      rw [this] at hlen
      rcases h with h | h
      · have := l6 h; simp at hlen; omega
      · simp at hlen; omega
    · intro hw
      right
      have : (cut m xs.length ((ways o (p.drop i) held (startOf chosen)).map (chosen ++ ·))) ≠ [] := fun z => hw (by simpa using hne.mp z)
      have := List.length_pos_iff.mpr this
      omega
end
end Mt
set_option linter.all false
/-! A plan that is right finds each place list at which the numbers compare so, and no other one -/
namespace Mt
theorem ixI_map (v : Int → Int) (l : List Int) (i : Int) : ixI (l.map v) i = (ixI l i).map v := by
  unfold ixI
  rw [List.length_map]
  split
  · rw [List.getElem?_map]
  · split
    · rw [List.getElem?_map]
    · rfl
theorem restOf_map (v : Int → Int) (g : List Int) : ∀ ks : List Int, restOf ks (g.map v) = (restOf ks g).map (List.map v)
  | [] => rfl
  | k :: ks => by
    rw [restOf, restOf, ixI_map, restOf_map v g ks]
    cases ixI g k with
    | none => rfl
    | some x =>
      cases restOf ks g with
      | none => rfl
      | some r => rfl
/-- the plan of entries es, the numbers hn being held -/
def PlanOk : List Int → List Int → List Pl3 → Prop
  | _, [], [] => True
  | hn, e :: es, st :: ps => ∃ below above hn', ixI hn st.1 = some below ∧ ixI hn st.2.1 = some above ∧ below < e ∧ e < above ∧ restOf st.2.2 (hn ++ [e]) = some hn' ∧ (∀ x ∈ hn, ¬ (below < x ∧ x < e)) ∧ (∀ x ∈ hn, ¬ (e < x ∧ x < above)) ∧
      (∀ c ∈ es, ∀ x ∈ hn ++ [e], (x < c → ∃ y ∈ hn', x ≤ y ∧ y < c) ∧ (c < x → ∃ y ∈ hn', c < y ∧ y ≤ x)) ∧ PlanOk hn' es ps
  | _, _, _ => False
/-- places, one for each entry, ascending from a start on, with the numbers that v tells -/
def At (o : List Int) (v : Int → Int) : List Int → List Int → Int → Prop
  | [], [], _ => True
  | e :: es, x :: xs, s => s ≤ x ∧ ixI o x = some (v e) ∧ x + xs.length < o.length ∧ At o v es xs (x + 1)
  | _, _, _ => False
theorem at_len {o : List Int} {v : Int → Int} : ∀ {es xs : List Int} {s : Int}, At o v es xs s → xs.length = es.length
  | [], [], _, _ => rfl
  | _ :: es, _ :: xs, _, h => by simp [at_len h.2.2.2]
  | [], _ :: _, _, h => h.elim
  | _ :: _, [], _, h => h.elim
theorem plan_len : ∀ {hn es : List Int} {ps : List Pl3}, PlanOk hn es ps → ps.length = es.length
  | _, [], [], _ => rfl
  | _, _ :: es, _ :: ps, h => by
    obtain ⟨_, _, hn', _, _, _, _, _, _, _, _, h⟩ := h
    simp [plan_len h]
  | _, [], _ :: _, h => h.elim
  | _, _ :: _, [], h => h.elim
/-- each way that there is is found -/
theorem ways_all {o : List Int} {v : Int → Int} : ∀ {ps : List Pl3} {es hn xs : List Int} {s : Int}, PlanOk hn es ps → (∀ x y, x ∈ hn ∨ x ∈ es → y ∈ hn ∨ y ∈ es → x < y → v x < v y) → At o v es xs s → xs ∈ ways o ps (hn.map v) s
  | [], [], _, [], _, _, _, _ => by simp [ways]
  | [], _ :: _, _, _, _, h, _, _ => h.elim
  | _ :: _, [], _, _, _, h, _, _ => h.elim
  | _, _ :: _, _, [], _, _, _, h => h.elim
  | [], [], _, _ :: _, _, _, _, h => h.elim
  | st :: ps, e :: es, hn, x :: xs, s, hp, hm, ha => by
    have hl := plan_len hp
    obtain ⟨below, above, hn', h1, h2, h3, h4, h5, _, _, _, h6⟩ := hp
    obtain ⟨a1, a2, a3, a4⟩ := ha
    have mem_ix : ∀ {i y : Int}, ixI hn i = some y → y ∈ hn := fun {i y} h => by
      unfold ixI at h
      split at h
      · exact List.mem_of_getElem? h
      · split at h
        · exact List.mem_of_getElem? h
        · cases h
    have b1 := hm below e (.inl (mem_ix h1)) (.inr List.mem_cons_self) h3
    have b2 := hm e above (.inr List.mem_cons_self) (.inl (mem_ix h2)) h4
    rw [ways_cons (bottom := v below) (top := v above) (by rw [ixI_map, h1]; rfl) (by rw [ixI_map, h2]; rfl)]
    rw [List.mem_flatMap]
    have hxl := at_len a4
    have hl' : ps.length = es.length := by simpa using hl
    refine ⟨x, mem_rg.mpr ⟨a1, ?_⟩, ?_⟩
    · omega
    · unfold wf
      rw [a2]
      simp only
      rw [if_pos ⟨b1, b2⟩]
      have e5 : restOf st.2.2 (hn.map v ++ [v e]) = some (hn'.map v) := by
        rw [show hn.map v ++ [v e] = (hn ++ [e]).map v by simp, restOf_map, h5]; rfl
      rw [e5]
      simp only
      refine List.mem_map.mpr ⟨xs, ways_all h6 ?_ a4, rfl⟩
      have sub : ∀ y ∈ hn', y ∈ hn ++ [e] := by
        have : ∀ (ks r : List Int), restOf ks (hn ++ [e]) = some r → ∀ y ∈ r, y ∈ hn ++ [e] := by
          intro ks
          induction ks with
          | nil => intro r h y hy; cases h; cases hy
          | cons k ks ih =>
            intro r h y hy
            rw [restOf] at h
            cases q : ixI (hn ++ [e]) k with
            | none => rw [q] at h; cases h
            | some z =>
              rw [q] at h
              cases q2 : restOf ks (hn ++ [e]) with
              | none => rw [q2] at h; cases h
              | some r2 =>
                rw [q2] at h
                cases h
                rcases List.mem_cons.mp hy with rfl | hy
                · unfold ixI at q
                  split at q
                  · exact List.mem_of_getElem? q
                  · split at q
                    · exact List.mem_of_getElem? q
                    · cases q
                · exact ih r2 q2 y hy
        exact this _ _ h5
      have conv : ∀ y, y ∈ hn' ∨ y ∈ es → y ∈ hn ∨ y ∈ e :: es := fun y h => by
        rcases h with h | h
        · rcases List.mem_append.mp (sub y h) with h | h
          · exact .inl h
          · rw [List.mem_singleton] at h; subst h; exact .inr List.mem_cons_self
        · exact .inr (List.mem_cons_of_mem _ h)
      exact fun a b ha hb hab => hm a b (conv a ha) (conv b hb) hab
theorem mem_ixI {l : List Int} {i y : Int} (h : ixI l i = some y) : y ∈ l := by
  unfold ixI at h
  split at h
  · exact List.mem_of_getElem? h
  · split at h
    · exact List.mem_of_getElem? h
    · cases h
theorem mem_restOf {g : List Int} : ∀ {ks r : List Int}, restOf ks g = some r → ∀ y ∈ r, y ∈ g
  | [], r, h, y, hy => by cases h; cases hy
  | k :: ks, r, h, y, hy => by
    rw [restOf] at h
    cases q : ixI g k with
    | none => rw [q] at h; cases h
    | some z =>
      rw [q] at h
      cases q2 : restOf ks g with
      | none => rw [q2] at h; cases h
      | some r2 =>
        rw [q2] at h
        cases h
        rcases List.mem_cons.mp hy with rfl | hy
        · exact mem_ixI q
        · exact mem_restOf q2 y hy
def Near (P hn es : List Int) : Prop := ∀ c ∈ es, ∀ x ∈ P, (x < c → ∃ y ∈ hn, x ≤ y ∧ y < c) ∧ (c < x → ∃ y ∈ hn, c < y ∧ y ≤ x)
/-- no other way is found -/
theorem ways_only {o : List Int} : ∀ {ps : List Pl3} {es hn P xs : List Int} {s : Int} {v : Int → Int}, PlanOk hn es ps → (∀ x ∈ hn, x ∈ P) → (∀ x ∈ P, ∀ y ∈ P, x < y → v x < v y) → Near P hn es → (P ++ es).Nodup → xs ∈ ways o ps (hn.map v) s →
    ∃ v' : Int → Int, (∀ x ∈ P, v' x = v x) ∧ (∀ x ∈ P ++ es, ∀ y ∈ P ++ es, x < y → v' x < v' y) ∧ At o v' es xs s
  | [], [], _, P, xs, _, v, _, _, hm, _, _, h => by
    simp [ways] at h
    subst h
    exact ⟨v, fun _ _ => rfl, by simpa using hm, trivial⟩
  | [], _ :: _, _, _, _, _, _, h, _, _, _, _, _ => h.elim
  | _ :: _, [], _, _, _, _, _, h, _, _, _, _, _ => h.elim
  | st :: ps, e :: es, hn, P, xs, s, v, hp, hs, hm, hN, nd, h => by
    have hl := plan_len hp
    obtain ⟨below, above, hn', h1, h2, h3, h4, h5, hb, ha, hc, h6⟩ := hp
    rw [ways_cons (bottom := v below) (top := v above) (by rw [ixI_map, h1]; rfl) (by rw [ixI_map, h2]; rfl)] at h
    obtain ⟨pl, m1, m2⟩ := List.mem_flatMap.mp h
    rw [mem_rg] at m1
    have hl' : ps.length = es.length := by simpa using hl
    unfold wf at m2
    cases hnum : ixI o pl with
    | none => rw [hnum] at m2; cases m2
    | some number =>
      rw [hnum] at m2
      simp only at m2
      split at m2
      · rename_i hin
        have heP : e ∉ P := fun z => by
          rw [List.nodup_append] at nd
          exact nd.2.2 e z e List.mem_cons_self rfl
        have hehn : e ∉ hn := fun z => heP (hs e z)
        let v1 : Int → Int := fun y => if y = e then number else v y
        have v1e : v1 e = number := if_pos rfl
        have v1o : ∀ x, x ≠ e → v1 x = v x := fun x hx => if_neg hx
        have v1P : ∀ x ∈ P, v1 x = v x := fun x hx => v1o x (fun z => heP (z ▸ hx))
        have e5 : restOf st.2.2 (hn.map v ++ [number]) = some (hn'.map v1) := by
          rw [show hn.map v ++ [number] = (hn ++ [e]).map v1 by
            rw [List.map_append, List.map_cons, List.map_nil, v1e]
            congr 1
            exact List.map_congr_left fun x hx => (v1P x (hs x hx)).symm, restOf_map, h5]; rfl
        rw [e5] at m2
        simp only at m2
        obtain ⟨xs', m3, rfl⟩ := List.mem_map.mp m2
        have mono1 : ∀ x ∈ P ++ [e], ∀ y ∈ P ++ [e], x < y → v1 x < v1 y := by
          intro x hx0 y hy0 hxy
          rcases List.mem_append.mp hx0 with hx | hx <;> rcases List.mem_append.mp hy0 with hy | hy
          · rw [v1P x hx, v1P y hy]; exact hm x hx y hy hxy
          · rw [List.mem_singleton] at hy; clear hx0 hy0; subst hy
            rw [v1P x hx, v1e]
            obtain ⟨z, z1, z2, z3⟩ := (hN y List.mem_cons_self x hx).1 hxy
            have : z ≤ below := by
              by_cases q : z ≤ below
              · exact q
              · exact absurd ⟨by omega, z3⟩ (hb z z1)
            have : v x ≤ v below := by
              by_cases q : x = below
              · subst q; exact Int.le_refl _
              · exact Int.le_of_lt (hm x hx below (hs _ (mem_ixI h1)) (by omega))
            omega
          · rw [List.mem_singleton] at hx; clear hx0 hy0; subst hx
            rw [v1P y hy, v1e]
            obtain ⟨z, z1, z2, z3⟩ := (hN x List.mem_cons_self y hy).2 hxy
            have : above ≤ z := by
              by_cases q : above ≤ z
              · exact q
              · exact absurd ⟨z2, by omega⟩ (ha z z1)
            have : v above ≤ v y := by
              by_cases q : above = y
              · subst q; exact Int.le_refl _
              · exact Int.le_of_lt (hm above (hs _ (mem_ixI h2)) y hy (by omega))
            omega
          · rw [List.mem_singleton] at hx hy; omega
        obtain ⟨v', q1, q2, q3⟩ := ways_only (P := P ++ [e]) (v := v1) h6 (fun x hx => by
            rcases List.mem_append.mp (mem_restOf h5 x hx) with hx | hx
            · exact List.mem_append_left _ (hs x hx)
            · exact List.mem_append_right _ hx) mono1 (fun c hcm x hx => by
            have step := hc c hcm
            rcases List.mem_append.mp hx with hx | hx
            · refine ⟨fun hxc => ?_, fun hxc => ?_⟩
              · obtain ⟨y, y1, y2, y3⟩ := (hN c (List.mem_cons_of_mem _ hcm) x hx).1 hxc
                obtain ⟨z, z1, z2, z3⟩ := (step y (List.mem_append_left _ y1)).1 y3
                exact ⟨z, z1, by omega, z3⟩
              · obtain ⟨y, y1, y2, y3⟩ := (hN c (List.mem_cons_of_mem _ hcm) x hx).2 hxc
                obtain ⟨z, z1, z2, z3⟩ := (step y (List.mem_append_left _ y1)).2 y2
                exact ⟨z, z1, z2, by omega⟩
            · exact step x (List.mem_append_right _ hx)) (by rw [List.append_assoc]; exact nd) m3
        refine ⟨v', fun x hx => by rw [q1 x (List.mem_append_left _ hx), v1P x hx], ?_, m1.1, ?_, ?_, q3⟩
        · rw [List.append_assoc] at q2; exact q2
        · rw [hnum, q1 e (List.mem_append_right _ List.mem_cons_self), v1e]
        · rw [at_len q3]; omega
      · cases m2
end Mt
set_option Elab.async false
set_option linter.all false
set_option maxRecDepth 100000
set_option maxHeartbeats 2000000
/-! Z: the search for the places of a pattern (matching.py): a list and a dict that stand within a tuple which is handed about -/
namespace Z
open PySem PySem.Spec L2 Evl PyProof.Rows

/-! ### the search as a plain function, its keys -/
open Mt (Pl3 Fnd lastOr startOf)
abbrev KI := List (NestedKey × Int)
abbrev Rec := KI → Fnd → List Int → List Int → Option (Bool × KI × Fnd)
def gKey (n : Nat) (rest : List Int) : NestedKey := .tup [.num n, .tup (rest.map .num)]
def kvOf (kt : KI) : List (NestedKey × PyData) := kt.map fun p => (p.1, .int p.2)
theorem kv_put (kt : KI) (k : NestedKey) (v : Int) : putN (kvOf kt) k (.int v) = kvOf (Mt.putI kt k v) := by
  unfold putN Mt.putI kvOf
  have e : ((kt.map fun p => (p.1, PyData.int p.2)).any fun p => decide (p.1 = k)) = (kt.any fun p => decide (p.1 = k)) := by
    rw [List.any_map]; rfl
  rw [e]
  split
  · rw [List.map_map, List.map_map]
    refine List.map_congr_left fun p _ => ?_
    by_cases h : p.1 = k <;> simp [h]
  · simp
theorem num_inj : ∀ {a b : List Int}, a.map NestedKey.num = b.map NestedKey.num → a = b
  | [], [], _ => rfl
  | [], _ :: _, h => by cases h
  | _ :: _, [], h => by cases h
  | x :: a, y :: b, h => by
    rw [List.map_cons, List.map_cons] at h
    injection h with h1 h2
    injection h1 with h1
    rw [h1, num_inj h2]
theorem gKey_inj (i : Nat) (r : List Int) (i' : Nat) (r' : List Int) (h : gKey i r = gKey i' r') : i = i' ∧ r = r' := by
  unfold gKey at h
  injection h with h
  injection h with h1 h2
  injection h1 with h1
  injection h2 with h2
  injection h2 with h2
  refine ⟨by omega, ?_⟩
  exact num_inj h2
theorem ixI_eq (l : List Int) (i : Int) : ((ixN l.length i).bind fun j => l[j]?) = Mt.ixI l i := by
  unfold ixN Mt.ixI
  by_cases h0 : 0 ≤ i
  · rw [if_pos h0, if_pos h0]
    by_cases h1 : i < l.length
    · rw [if_pos h1]; rfl
    · rw [if_neg h1, List.getElem?_eq_none (by omega)]; rfl
  · rw [if_neg h0, if_neg h0]
    by_cases h1 : -(l.length : Int) ≤ i
    · rw [if_pos h1, if_pos h1]
      show l[_]? = l[_]?
      congr 1
      omega
    · rw [if_neg h1, if_neg h1]; rfl
theorem rg_eq : ∀ (n : Nat) (a : Int), rgI a 1 n = Mt.rg a n
  | 0, _ => rfl
  | n + 1, a => by rw [Om.rg_succ, Mt.rg, rg_eq n]
def plD (st : Pl3) : PyData := .tuple [.int st.1, .int st.2.1, .list (st.2.2.map .int)]
/-! ### over the heap -/
structure Task (K : PySem.W.Frag) (F H : Hp) (t bd bf : Addr) (o : List Int) (p : List Pl3) (m : Int) (kt : KI) (xs : Fnd) : Prop where
  tup : ∃ ot vo vp vm, F t = some (.frz ot (.tup [vo, vp, vm, .ref bd, .ref bf])) ∧ Dp K F vo (T o) ∧ Dp K F vp (.list (p.map plD)) ∧ Dp K F vm (.int m)
  d0 : F bd = none
  f0 : F bf = none
  ne : bd ≠ bf
  d : ∃ ws, H bd = some (odHO bd ws) ∧ OdAll K F ws (kvOf kt)
  f : ∃ us, H bf = some (.lst us) ∧ DpAll K F us (TT xs)
structure Chg (F H F' H' : Hp) (bd bf : Addr) : Prop where
  keep : ∀ b o, b ≠ bd → b ≠ bf → H b = some o → H' b = some o
  ext : Ex F F'
  ok : Ex F' H'
  pl : Pl F'
  new : ∀ b o, F' b = some o → F b = some o ∨ H b = none
  fresh : ∀ b, H' b = none → H b = none
structure Tk where
  K : PySem.W.Frag
  F0 : Hp
  H0 : Hp
  t : Addr
  bd : Addr
  bf : Addr
  o : List Int
  p : List Pl3
  m : Int
  P : List (Nat × Addr)
def Tk.B (c : Tk) : Bs := ⟨c.F0, c.H0, fun b => b = c.bd ∨ b = c.bf, fun _ => False⟩
def NoOwn (Γ : Env) : Prop := ∀ (i : Nat) (s : Slot), Γ[i]? = some s → s.isOwn = false
theorem NoOwn.set {Γ : Env} {i : Nat} {d : PyData} (h : NoOwn Γ) : NoOwn (Γ.set i (.val d)) := fun j s e => by
  by_cases hj : i = j
  · subst hj
    have hl : i < Γ.length := by
      have := (List.getElem?_eq_some_iff.mp e).1
      rw [List.length_set] at this; exact this
    rw [List.getElem?_set_self hl] at e
    cases e; rfl
  · rw [List.getElem?_set_ne hj] at e; exact h j s e
theorem NoOwn.owns {Γ : Env} {σ : L2.St} {b : Addr} (h : NoOwn Γ) : ¬ OwnsAt Γ σ b := fun ⟨i, s, q, w, _⟩ => by rw [h i s q] at w; cases w
structure St (c : Tk) (Γ : Env) (F : Hp) (σ : L2.St) (H : Hp) (kt : KI) (xs : Fnd) : Prop where
  R : Rel c.K c.B Γ F σ H
  T : Task c.K F H c.t c.bd c.bf c.o c.p c.m kt xs
  na : NoOwn Γ
  sp : ∀ q ∈ c.P, σ[q.1]? = some (some (.ref q.2))
section
variable {c : Tk} {Γ Γ' : Env} {F F' H H' : Hp} {σ : L2.St} {kt kt' : KI} {xs xs' : Fnd}
theorem St.chg (S : St c Γ F σ H kt xs) (g : Chg F H F' H' c.bd c.bf) (T' : Task c.K F' H' c.t c.bd c.bf c.o c.p c.m kt' xs') : St c Γ F' σ H' kt' xs' := by
  refine ⟨⟨S.R.len, fun i s h => ?_, S.R.dist, S.R.ext0.trans g.ext, g.ok, fun b o h hm hz => ?_, fun b o h => ?_, g.pl, fun b h => S.R.fresh b (g.fresh b h)⟩, T', S.na, S.sp⟩
  · have z := S.R.slot i s h
    have w := S.na i s h
    cases s with
    | no => trivial
    | val d => obtain ⟨v, e, dd⟩ := z; exact ⟨v, e, dp_mono g.ext dd⟩
    | dic kvs => obtain ⟨a, ws, e, h1, h2⟩ := z; exact ⟨a, ws, e, g.ext _ _ h1, kva_mono g.ext h2⟩
    | fd kvs => obtain ⟨a, ws, e, h1, h2⟩ := z; exact ⟨a, ws, e, g.ext _ _ h1, od_mono g.ext h2⟩
    | own ds => cases w
    | od kvs => cases w
    | par ds => cases w
  · exact g.keep b o (fun e => hm (.inl e)) (fun e => hm (.inr e)) (S.R.frame b o h hm hz)
  · rcases g.new b o h with z | z
    · exact S.R.newF b o z
    · exact .inr (.inl (S.R.fresh b z))
theorem St.out (S : St c Γ F σ H kt xs) : Chg c.F0 c.H0 F H c.bd c.bf :=
  ⟨fun b o h1 h2 h => S.R.frame b o h (fun z => z.elim h1 h2) (fun z => z), S.R.ext0, S.R.ext, S.R.pl, fun b o h => by
    rcases S.R.newF b o h with z | z | z
    · exact .inl z
    · exact .inr z
    · exact z.elim, S.R.fresh⟩
/-- the task stays while something is reckoned -/
theorem Task.stays {R0 : Rel c.K c.B Γ F σ H} (T : Task c.K F H c.t c.bd c.bf c.o c.p c.m kt xs) (na : NoOwn Γ) (R' : Rel c.K (rebase Γ F σ H) Γ' F' σ H') : Task c.K F' H' c.t c.bd c.bf c.o c.p c.m kt xs := by
  obtain ⟨⟨ot, vo, vp, vm, h1, h2, h3, h4⟩, d0, f0, ne, ⟨ws, hd, ho⟩, us, hf, hl⟩ := T
  have ex : Ex F F' := R'.ext0
  have g1 := Hid.stays (⟨hd, d0, na.owns⟩ : Hid Γ F σ H c.bd _) R'
  have g2 := Hid.stays (⟨hf, f0, na.owns⟩ : Hid Γ F σ H c.bf _) R'
  exact ⟨⟨ot, vo, vp, vm, ex _ _ h1, dp_mono ex h2, dp_mono ex h3, dp_mono ex h4⟩, g1.noF, g2.noF, ne, ⟨ws, g1.here, od_mono ex ho⟩, us, g2.here, dpa_mono ex hl⟩
theorem St.step (S : St c Γ F σ H kt xs) (na : NoOwn Γ') (R' : Rel c.K (rebase Γ F σ H) Γ' F' σ H') : St c Γ' F' σ H' kt xs :=
  ⟨S.R.back R', S.T.stays (R0 := S.R) S.na R', na, S.sp⟩
theorem St.eval {te : TE} {f : EX} {d : PyData} (S : St c Γ F σ H kt xs) (h : EvE c.K te f) (e : f Γ = some (d, Γ')) (na : NoOwn Γ') {Q : VK} (q : ∀ v F' H', Ex F F' → St c Γ' F' σ H' kt xs → Dp c.K F' v d → Q v H') : te σ H Q :=
  h _ Γ F σ H d Γ' S.R.rebased e Q fun v F' H' ex R' dv => q v F' H' ex (S.step na R') dv
theorem St.test {tt : L2.TT} {f : TX} {b : Bool} (S : St c Γ F σ H kt xs) (h : EvT c.K tt f) (e : f Γ = some (b, Γ')) (na : NoOwn Γ') {Q : Bool → Hp → Prop} (q : ∀ F' H', Ex F F' → St c Γ' F' σ H' kt xs → Q b H') : tt σ H Q :=
  h _ Γ F σ H b Γ' S.R.rebased e Q fun F' H' ex R' => q F' H' ex (S.step na R')
theorem St.put (S : St c Γ F σ H kt xs) {i : Nat} {v : V} {d : PyData} (hd : Dp c.K F v d) (hi : ∀ q ∈ c.P, q.1 ≠ i) : St c (Γ.set i (.val d)) F (σ.set i (some v)) H kt xs :=
  ⟨S.R.setVal hd, S.T, S.na.set, fun q hq => by rw [List.getElem?_set_ne (Ne.symm (hi q hq))]; exact S.sp q hq⟩
/-- x = e -/
theorem St.set {te : TE} {f : EX} {d : PyData} {D : Ends} {i : Nat} (S : St c Γ F σ H kt xs) (h : EvE c.K te f) (e : f Γ = some (d, Γ)) (hi : ∀ q ∈ c.P, q.1 ≠ i) (q : ∀ F' σ' H', Ex F F' → St c (Γ.set i (.val d)) F' σ' H' kt xs → D.nx σ' H') : tAsg te (gName i) D σ H :=
  S.eval h e S.na fun v F' H' ex S' dv => q F' _ H' ex (S'.put dv hi)
/-- the found list's length -/
theorem St.len (S : St c Γ F σ H kt xs) {j : Nat} (hj : (j, c.bf) ∈ c.P) {r : List V → Hp → VK → Prop} (hr : ∀ xs H Q, (∃ p ys, xs = [V.ref p] ∧ (SqL c.K H p ys ∨ SqT c.K H p ys) ∧ Q (V.int (ys.length : Nat)) H) → r xs H Q) {Q : VK} (q : Q (.int (xs.length : Nat)) H) : tCB r (tCons (tVar j) tNil) σ H Q := by
  obtain ⟨us, hf, hl⟩ := S.T.f
  refine ⟨_, S.sp _ hj, hr _ _ _ ⟨c.bf, us, rfl, .inl (sq_of hf), ?_⟩⟩
  rw [show us.length = xs.length by rw [dpa_len hl, List.length_map]]
  exact q
theorem St.for {wi : TI} {it : AX} {g : TG} {gx : PyData → Env → Option Env} {Sl : List Nat} {tb : TS} {D : Ends} {items : List PyData} (S : St c Γ F σ H kt xs) (hi : EvI c.K wi it) (hg : EvG c.K g gx Sl) (hS : ∀ q ∈ c.P, q.1 ∉ Sl) (e1 : it Γ = some (items, Γ))
    (J : Nat → Env → KI → Fnd → Prop) (j0 : J 0 Γ kt xs)
    (step : ∀ i d Γ1 kt1 xs1, items[i]? = some d → J i Γ1 kt1 xs1 → NoOwn Γ1 → ∃ Γ2, gx d Γ1 = some Γ2 ∧ NoOwn Γ2 ∧ ∀ F1 σ1 H1 (D' : Ends), St c Γ2 F1 σ1 H1 kt1 xs1 → D'.rt = D.rt → (∀ Γ3 kt3 xs3 F3 σ3 H3, Ex F1 F3 → J (i + 1) Γ3 kt3 xs3 → St c Γ3 F3 σ3 H3 kt3 xs3 → D'.nx σ3 H3) → tb D' σ1 H1)
    (fin : ∀ Γ3 kt3 xs3 F3 σ3 H3, Ex F F3 → J items.length Γ3 kt3 xs3 → St c Γ3 F3 σ3 H3 kt3 xs3 → D.nx σ3 H3) : tFor wi g tb D σ H := by
  refine hi _ Γ F σ H items Γ S.R.rebased e1 _ fun It F0 H0 x0 R0 Y => ?_
  have S0 := S.step S.na R0
  refine ⟨fun i m σ' H' => ∃ Γ' F' kt' xs', m = items.length - i ∧ i ≤ items.length ∧ Ex F0 F' ∧ St c Γ' F' σ' H' kt' xs' ∧ J i Γ' kt' xs', ⟨items.length, Γ, F0, kt, xs, by simp, Nat.zero_le _, Ex.refl F0, S0, j0⟩, ?_⟩
  rintro i m σ1 H1 ⟨Γ1, F1, kt1, xs1, rfl, hi1, x1, S1, j1⟩
  by_cases hlt : i < items.length
  · right
    refine ⟨Y.go i F1 H1 x1 S1.R.ext S1.R.pl hlt, fun σ' H' => ∃ Γ' F' kt' xs', Ex F0 F' ∧ St c Γ' F' σ' H' kt' xs' ∧ J (i + 1) Γ' kt' xs', ?_, fun x H2 hy => ?_⟩
    · rintro σ' H' ⟨Γ', F', kt', xs', a1, a2, a3⟩
      exact ⟨items.length - (i + 1), by omega, Γ', F', kt', xs', rfl, hlt, a1, a2, a3⟩
    · obtain ⟨F2, d, gr, ed, dd⟩ := Y.yld i F1 H1 x H2 x1 S1.R.ext S1.R.pl hlt hy
      obtain ⟨Γ2, e2, na2, body⟩ := step i d Γ1 kt1 xs1 ed j1 S1.na
      have S2 : St c Γ1 F2 σ1 H2 kt1 xs1 := S1.step S1.na (S1.R.rebased.grow gr)
      refine hg _ Γ1 F2 σ1 H2 x d Γ2 S2.R dd e2 _ fun σ2 R2 l2 o2 => ?_
      have S3 : St c Γ2 F2 σ2 H2 kt1 xs1 := ⟨R2, S2.T, na2, fun q hq => by rw [o2 q.1 (hS q hq)]; exact S2.sp q hq⟩
      exact body F2 σ2 H2 _ S3 rfl fun Γ3 kt3 xs3 F3 σ3 H3 e3 j3 S3' => ⟨Γ3, F3, kt3, xs3, (x1.trans gr.ext).trans e3, S3', j3⟩
  · left
    have ei : i = items.length := by omega
    subst ei
    exact ⟨Y.stop F1 H1 x1 S1.R.ext S1.R.pl, fin Γ1 kt1 xs1 F1 σ1 H1 (x0.trans x1) j1 S1⟩
end
end Z
set_option Elab.async false
set_option linter.all false
set_option maxRecDepth 100000
set_option maxHeartbeats 2000000
/-! Z: d.get(k, x) of a dict of one's own; what the two defs of the search promise -/
namespace Z
open PySem PySem.Spec L2 Evl PyProof.Rows
open Mt (Pl3 Fnd lastOr startOf)
def getW (ws : List (NestedKey × Addr × V)) (k : NestedKey) : Option V := (ws.find? fun p => decide (p.1 = k)).map (·.2.2)
theorem getW_kv {K : PySem.W.Frag} {F : Hp} {k : NestedKey} : ∀ {ws : List (NestedKey × Addr × V)} {kt : KI}, OdAll K F ws (kvOf kt) → getW ws k = (Mt.getI kt k).map V.int
  | [], [], _ => rfl
  | [], _ :: _, h => by cases h
  | _ :: _, [], h => by cases h
  | w :: ws, q :: kt, h => by
    have h' : OdAll K F (w :: ws) ((q.1, .int q.2) :: kvOf kt) := h
    cases h' with
    | cons hk ek hd r =>
      unfold getW Mt.getI
      cases hd
      by_cases e : q.1 = k
      · rw [List.find?_cons_of_pos (by simpa using e), List.find?_cons_of_pos (by simpa using e)]; rfl
      · rw [List.find?_cons_of_neg (by simpa using e), List.find?_cons_of_neg (by simpa using e)]
        exact getW_kv r
/-- o.get(k, x) -/
def tOdGet (K : PySem.W.Frag) (td ty tv : TE) : TE := fun σ H Q => td σ H fun x H1 => ∃ a, x = .ref a ∧ (∃ ws, H1 a = some (odHO a ws)) ∧ ty σ H1 fun y H2 => tv σ H2 fun z H3 => ∃ (b : Addr) (F : Hp) (ws : List (NestedKey × Addr × V)) (kvs : List (NestedKey × PyData)) (kd : PyData) (k : NestedKey),
  y = .ref b ∧ Ex F H3 ∧ H3 a = some (odHO a ws) ∧ OdAll K F ws kvs ∧ Dp K F (.ref b) kd ∧ keyT kd = some k ∧ Q ((getW ws k).getD z) H3
section
variable {X : Cx} {o e f : Expr} {apos cpos : Pos} {td ty tv : TE}
theorem pw_get (k : NestedKey) : ∀ {ws : List (NestedKey × Addr × V)} {xs : List (NestedKey × Addr × Value)}, PW ws xs → ∀ {z : V} {u : Value}, RelV z u → RelV ((getW ws k).getD z) ((valueAt (pairsH xs) k).getD u)
  | _, _, .nil, z, u, h => h
  | w :: ws, x :: xs, .cons h r, z, u, hz => by
    obtain ⟨h1, h2, h3⟩ := h
    unfold getW valueAt pairsH
    rw [List.map_cons]
    by_cases q : w.1 = k
    · rw [List.find?_cons_of_pos (by simpa using q), List.find?_cons_of_pos (by simp [← h1, q])]; exact h3
    · rw [List.find?_cons_of_neg (by simpa using q), List.find?_cons_of_neg (by simp [← h1, q])]; exact pw_get k r hz
theorem pe_odget (hu : X.A.units + 64 < cLine) (ho : PE X o td) (hi : PE X e ty) (hv : PE X f tv) (hab : attributeBase o "get" X.env (eval o X.env) = eval o X.env := by rfl)
    (hall : ((((backTo cpos (starEach [e, f] X.env)).all fun x => !x.1) && (backToKw cpos (keywordEach [] X.env)).all fun x => x.1.isSome) && decide (([e, f].length + ([] : List Keyword).length + if ([] : List Keyword).isEmpty = true then 0 else 1) < 30)) = true := by rfl)
    (hline : (apos.endLine == cpos.line) = true := by rfl) (h1 : starEach [e, f] X.env = (false, eval e X.env) :: starEach [f] X.env := by rfl) (h2 : starEach [f] X.env = (false, eval f X.env) :: starEach [] X.env := by rfl) (h3 : ((backTo cpos (starEach [f] X.env)).any fun x => x.1) = false := by rfl) :
    PE X (.Call (.Attribute o "get" apos) [e, f] [] cpos) (tOdGet X.K td ty tv) := by
  have pa := pa_cons hi (pa_cons hv pa_nil h2) h1
  refine ⟨fun pins s σ H Q I h => wpAny_Call_method hab hall hline PySem.F.plainAttrs_dict PySem.F.slot_dict_get PySem.F.type_dict_get (thn (ho.run pins s σ H _ I h) fun ov s1 ⟨x, H1, I1, rx, q1⟩ => ?_)⟩
  obtain ⟨a, rfl, ⟨ws0, ha⟩, q2⟩ := q1
  obtain rfl : ov = Value.ref a := rx
  obtain ⟨⟨_, _, _, _, _, ob, es, ep, g1, g2, g3, _⟩, _, _⟩ := (show ObjOk X.prog X.w H1 s1.heap a (odHO a ws0) from I1.hok a _ ha)
  obtain ⟨c1, c2, c3⟩ := g2
  refine ⟨⟨ob, g1, c1⟩, fun b eb => ?_, PyProof.Rows.callWith_method1 (thn (pa.run cpos pins s1 σ H1 (fun vs H3 => match vs with
    | [y, z] => ∃ (b : Addr) (F : Hp) (ws : List (NestedKey × Addr × V)) (kvs : List (NestedKey × PyData)) (kd : PyData) (k : NestedKey),
      y = .ref b ∧ Ex F H3 ∧ H3 a = some (odHO a ws) ∧ OdAll X.K F ws kvs ∧ Dp X.K F (.ref b) kd ∧ keyT kd = some k ∧ Q ((getW ws k).getD z) H3
    | _ => False) I1 ?_) fun us s3 ⟨vs, H3, I3, rv, q3⟩ => ?_) h1 h3⟩
  · cases eb
    exact ⟨ob, g1, c2⟩
  · exact q2
  · match vs, q3, rv with
    | [], q3, _ => exact q3.elim
    | [_], q3, _ => exact q3.elim
    | _ :: _ :: _ :: _, q3, _ => exact q3.elim
    | [y, z], q3, rv =>
    obtain ⟨b, F, ws, kvs, kd, k, rfl, ex, h5, h6, h7, h8, q⟩ := q3
    cases rv with
    | cons r1 r2 =>
      cases r2 with
      | cons r3 r4 =>
        cases r4
        obtain rfl := (r1 : _ = Value.ref b)
        obtain ⟨hd, xs, pw, dd, hx⟩ := od_dict I3 ex h5 h6
        obtain ⟨k1, k2, k3, ys, rfl⟩ := keyT_no h8
        have hkey : (nestedKind X.prog X.w).is s3.heap k b := ⟨key_is I3 ex k3 h7 rfl, k2⟩
        have hroom : (nestedKind X.prog X.w).room X.A.in1 := by
          show X.A.in1.units + 8 < cLine
          have : X.A.in1.units = X.A.units + 1 := rfl
          omega
        exact getOr_keyed hroom hkey hd ⟨xs, dd, rfl⟩ ⟨_, H3, I3.tok _, pw_get k pw r3, q⟩
end
/-- what _gather promises -/
def spG (K : PySem.W.Frag) (rec : List Int → List Pl3 → Int → Rec) : Sp := fun vs H Q _ => vs.length = 3 ∧ ∃ (F : Hp) (t bd bf : Addr) (v1 v2 : V) (o : List Int) (p : List Pl3) (m : Int) (kt : KI) (xs : Fnd) (chosen held : List Int) (r : Bool) (kt' : KI) (xs' : Fnd),
  vs = [.ref t, v1, v2] ∧ Ex F H ∧ Pl F ∧ Task K F H t bd bf o p m kt xs ∧ Dp K F v1 (T chosen) ∧ Dp K F v2 (T held) ∧ rec o p m kt xs chosen held = some (r, kt', xs') ∧
  ∀ F' H', Chg F H F' H' bd bf → Task K F' H' t bd bf o p m kt' xs' → Q (.bl r) H'
/-- what _gather_behind promises -/
def spB (K : PySem.W.Frag) (rec : List Int → List Pl3 → Int → KI → Fnd → List Int → List Int → Option (KI × Fnd)) : Sp := fun vs H Q _ => vs.length = 3 ∧ ∃ (F : Hp) (t bd bf : Addr) (v1 v2 : V) (o : List Int) (p : List Pl3) (m : Int) (kt : KI) (xs : Fnd) (chosen held : List Int) (kt' : KI) (xs' : Fnd),
  vs = [.ref t, v1, v2] ∧ Ex F H ∧ Pl F ∧ Task K F H t bd bf o p m kt xs ∧ Dp K F v1 (T chosen) ∧ Dp K F v2 (T held) ∧ rec o p m kt xs chosen held = some (kt', xs') ∧
  ∀ F' H', Chg F H F' H' bd bf → Task K F' H' t bd bf o p m kt' xs' → Q .non H'
section
variable {c : Tk} {Γ : Env} {F H : Hp} {σ : L2.St} {kt : KI} {xs : Fnd}
/-- a call of _gather -/
theorem St.callG (S : St c Γ F σ H kt xs) {v1 v2 : V} {chosen held : List Int} {rec : List Int → List Pl3 → Int → Rec} {r : Bool} {kt' : KI} {xs' : Fnd} (h1 : Dp c.K F v1 (Z.T chosen)) (h2 : Dp c.K F v2 (Z.T held)) (e : rec c.o c.p c.m kt xs chosen held = some (r, kt', xs')) {Q : VK} {E : XK}
    (q : ∀ F' H', Ex F F' → St c Γ F' σ H' kt' xs' → Q (.bl r) H') : spG c.K rec ([.ref c.t, v1, v2] ++ []) H Q E :=
  ⟨rfl, F, c.t, c.bd, c.bf, v1, v2, c.o, c.p, c.m, kt, xs, chosen, held, r, kt', xs', rfl, S.R.ext, S.R.pl, S.T, h1, h2, e, fun F' H' g T' => q F' H' g.ext (S.chg g T')⟩
theorem St.callB (S : St c Γ F σ H kt xs) {v1 v2 : V} {chosen held : List Int} {rec : List Int → List Pl3 → Int → KI → Fnd → List Int → List Int → Option (KI × Fnd)} {kt' : KI} {xs' : Fnd} (h1 : Dp c.K F v1 (Z.T chosen)) (h2 : Dp c.K F v2 (Z.T held)) (e : rec c.o c.p c.m kt xs chosen held = some (kt', xs')) {Q : VK} {E : XK}
    (q : ∀ F' H', Ex F F' → St c Γ F' σ H' kt' xs' → Q .non H') : spB c.K rec ([.ref c.t, v1, v2] ++ []) H Q E :=
  ⟨rfl, F, c.t, c.bd, c.bf, v1, v2, c.o, c.p, c.m, kt, xs, chosen, held, kt', xs', rfl, S.R.ext, S.R.pl, S.T, h1, h2, e, fun F' H' g T' => q F' H' g.ext (S.chg g T')⟩
/-- a write to the found list -/
theorem St.app (S : St c Γ F σ H kt xs) {us : List V} {x : List Int} {v : V} (hf : H c.bf = some (.lst us)) (hl : DpAll c.K F us (Z.TT xs)) (hv : Dp c.K F v (Z.T x)) : St c Γ F σ (upd H c.bf (.lst (us ++ [v]))) kt (xs ++ [x]) := by
  have nF : ∀ b o, F b = some o → b ≠ c.bf := fun b o e z => by subst z; rw [S.T.f0] at e; cases e
  refine S.chg ⟨fun b o _ h2 h => by rw [upd_ne h2]; exact h, Ex.refl F, fun b o e => by rw [upd_ne (nF b o e)]; exact S.R.ext b o e, S.R.pl, fun b o h => .inl h, fun b h => ?_⟩ ?_
  · by_cases hb : b = c.bf
    · subst hb; rw [upd_same] at h; cases h
    · rw [upd_ne hb] at h; exact h
  · obtain ⟨t, d0, f0, ne, ⟨ws, hd, ho⟩, _⟩ := S.T
    refine ⟨t, d0, f0, ne, ⟨ws, by rw [upd_ne ne]; exact hd, ho⟩, _, upd_same, ?_⟩
    rw [show Z.TT (xs ++ [x]) = Z.TT xs ++ [Z.T x] from List.map_append]
    exact dpa_app hl (.cons hv .nil)
/-- a write to the dict -/
theorem St.store (S : St c Γ F σ H kt xs) {ws : List (NestedKey × Addr × V)} {b : Addr} {kd : PyData} {k : NestedKey} {i : Int} (ho : OdAll c.K F ws (kvOf kt)) (hk : Dp c.K F (.ref b) kd) (ek : keyT kd = some k) : St c Γ F σ (upd H c.bd (odHO c.bd (putW ws k b (.int i)))) (Mt.putI kt k i) xs := by
  have nF : ∀ b o, F b = some o → b ≠ c.bd := fun b o e z => by subst z; rw [S.T.d0] at e; cases e
  refine S.chg ⟨fun b o h2 _ h => by rw [upd_ne h2]; exact h, Ex.refl F, fun b o e => by rw [upd_ne (nF b o e)]; exact S.R.ext b o e, S.R.pl, fun b o h => .inl h, fun b h => ?_⟩ ?_
  · by_cases hb : b = c.bd
    · subst hb; rw [upd_same] at h; cases h
    · rw [upd_ne hb] at h; exact h
  · obtain ⟨t, d0, f0, ne, _, us, hf, hl⟩ := S.T
    refine ⟨t, d0, f0, ne, ⟨_, upd_same, ?_⟩, us, by rw [upd_ne (Ne.symm ne)]; exact hf, hl⟩
    rw [← kv_put]
    exact od_put ho hk ek (.int i)
end
end Z
namespace Z
open PySem PySem.Spec L2 Evl PyProof.Rows
open Mt (Pl3 Fnd lastOr startOf)
def exprOf : Stmt → Expr
  | .Assign _ e _ => e
  | .Expr e _ => e
  | .Return (some e) _ => e
  | .If t _ _ _ => t
  | .For _ it _ _ _ => it
  | _ => .Constant .none 0 ⟨0, 0, 0, 0⟩
def tgOf : Stmt → Expr
  | .Assign (t :: _) _ _ => t
  | .For t _ _ _ _ => t
  | _ => .Constant .none 0 ⟨0, 0, 0, 0⟩
def bodyOf : Stmt → List Stmt
  | .If _ b _ _ => b
  | .For _ _ b _ _ => b
  | _ => []
def elseOf : Stmt → List Stmt
  | .If _ _ b _ => b
  | _ => []
def argOf (i : Nat) : Expr → Expr
  | .Call _ as _ _ => as.getD i (.Constant .none 0 ⟨0, 0, 0, 0⟩)
  | .Tuple as _ _ => as.getD i (.Constant .none 0 ⟨0, 0, 0, 0⟩)
  | .UnaryOp _ e _ => e
  | .Compare a _ bs _ => (a :: bs).getD i (.Constant .none 0 ⟨0, 0, 0, 0⟩)
  | _ => .Constant .none 0 ⟨0, 0, 0, 0⟩
def stAt (i : Nat) (b : List Stmt) : Stmt := b.getD i (.Pass ⟨0, 0, 0, 0⟩)
theorem St.start {K : PySem.W.Frag} {F H : Hp} {t bd bf : Addr} {v1 v2 : V} {o a b : List Int} {p : List Pl3} {m : Int} {kt : KI} {xs : Fnd} (n : Nat) (ex : Ex F H) (pl : Pl F) (Tt : Task K F H t bd bf o p m kt xs) (d1 : Dp K F v1 (Z.T a)) (d2 : Dp K F v2 (Z.T b)) :
    St ⟨K, F, H, t, bd, bf, o, p, m, [(0, t)]⟩ (.no :: .val (Z.T a) :: .val (Z.T b) :: List.replicate n .no) F (some (.ref t) :: some v1 :: some v2 :: List.replicate n none) H kt xs := by
  have rep : ∀ (i : Nat) (s : Slot), (List.replicate n Slot.no)[i]? = some s → s = .no := fun i s h => (List.eq_of_mem_replicate (List.mem_of_getElem? h))
  have na : NoOwn (.no :: .val (Z.T a) :: .val (Z.T b) :: List.replicate n .no) := fun i s h => by
    match i, h with
    | 0, h => cases h; rfl
    | 1, h => cases h; rfl
    | 2, h => cases h; rfl
    | i + 3, h => rw [rep i s (by simpa using h)]; rfl
  refine ⟨⟨by simp, fun i s h => ?_, fun i j s u a' hij h1 h2 h3 h4 h5 h6 => ?_, Ex.refl F, ex, fun b o e _ _ => e, fun b o e => .inl e, pl, fun b e => e⟩, Tt, na, fun q hq => ?_⟩
  · match i, h with
    | 0, h => cases h; trivial
    | 1, h => cases h; exact ⟨v1, rfl, d1⟩
    | 2, h => cases h; exact ⟨v2, rfl, d2⟩
    | i + 3, h => rw [rep i s (by simpa using h)]; trivial
  · rw [na i s h1] at h2; cases h2
  · rw [List.mem_singleton] at hq; subst hq; rfl
/-- the task told to the names in slots i, j -/
theorem St.more {c : Tk} {Γ : Env} {F H : Hp} {σ : L2.St} {kt : KI} {xs : Fnd} (S : St c Γ F σ H kt xs) (P : List (Nat × Addr)) (h : ∀ q ∈ P, σ[q.1]? = some (some (.ref q.2))) : St { c with P := P } Γ F σ H kt xs := ⟨S.R, S.T, S.na, h⟩
theorem St.setNo {c : Tk} {Γ : Env} {F H : Hp} {σ : L2.St} {kt : KI} {xs : Fnd} (S : St c Γ F σ H kt xs) {i : Nat} {v : V} (hi : ∀ q ∈ c.P, q.1 ≠ i) : St c (Γ.set i .no) F (σ.set i (some v)) H kt xs :=
  ⟨S.R.setNo, S.T, fun j s e => by
    by_cases hj : i = j
    · subst hj
      have hl : i < Γ.length := by
        have := (List.getElem?_eq_some_iff.mp e).1
        rw [List.length_set] at this; exact this
      rw [List.getElem?_set_self hl] at e
      cases e; rfl
    · rw [List.getElem?_set_ne hj] at e; exact S.na j s e, fun q hq => by rw [List.getElem?_set_ne (Ne.symm (hi q hq))]; exact S.sp q hq⟩
end Z
set_option Elab.async false
set_option linter.all false
set_option maxRecDepth 100000
set_option maxHeartbeats 2000000
/-! Z: reckoning of comprehensions with any names -/
namespace Z
open PySem L2
theorem rest_any {Γ Γe : Env} {vs : List Nat} (e : wipeE Γe vs = wipeE Γ vs) : restE Γ Γe vs = Γ := by
  have hl : Γe.length = Γ.length := by have := congrArg List.length e; rwa [wipeE_len, wipeE_len] at this
  apply List.ext_getElem?
  intro i
  by_cases hi : i ∈ vs
  · by_cases hb : i < Γe.length
    · rw [restE_in hb hi, List.getElem?_eq_getElem (by omega)]; rfl
    · rw [List.getElem?_eq_none_iff.mpr (by rw [restE_len]; omega), List.getElem?_eq_none_iff.mpr (by omega)]
  · rw [restE_out hi, ← wipeE_out (Γ := Γe) hi, e, wipeE_out hi]
theorem lcLoop_any {α : Type} {g : PyData → Env → Option Env} {t : TX} {f : EX} {vs : List Nat} {W : Env} (d : α → PyData) (e : α → Env) (c : α → Bool) (h : α → PyData) : ∀ (xs : List α) (acc : List PyData) (Γ : Env), wipeE Γ vs = W →
    (∀ x ∈ xs, g (d x) W = some (e x) ∧ t (e x) = some (c x, e x) ∧ (c x = true → f (e x) = some (h x, e x)) ∧ wipeE (e x) vs = W) → acc.length + xs.length ≤ 100000 →
    ∃ Γe, lcLoop g t f vs (xs.map d) acc Γ = some (acc ++ (xs.filter c).map h, Γe) ∧ wipeE Γe vs = W
  | [], acc, Γ, hw, _, _ => ⟨Γ, by simp [lcLoop], hw⟩
  | x :: xs, acc, Γ, hw, hx, hl => by
    obtain ⟨h1, h2, h3, h4⟩ := hx x List.mem_cons_self
    simp only [List.length_cons] at hl
    cases hc : c x with
    | false =>
      obtain ⟨Γe, g1, g2⟩ := lcLoop_any d e c h xs acc (e x) h4 (fun y hy => hx y (List.mem_cons_of_mem _ hy)) (by omega)
      refine ⟨Γe, ?_, g2⟩
      rw [List.map_cons]
      unfold lcLoop
      simp [hw, h1, h2, hc, g1]
    | true =>
      obtain ⟨Γe, g1, g2⟩ := lcLoop_any d e c h xs (acc ++ [h x]) (e x) h4 (fun y hy => hx y (List.mem_cons_of_mem _ hy)) (by simp; omega)
      refine ⟨Γe, ?_, g2⟩
      rw [List.map_cons]
      unfold lcLoop
      have : acc.length < 100000 := by omega
      simp [hw, h1, h2, hc, g1, h3 hc, this]
theorem nLc_any {α : Type} {it : AX} {g : PyData → Env → Option Env} {t : TX} {f : EX} {vs : List Nat} {Γ : Env} (xs : List α) (d : α → PyData) (e : α → Env) (c : α → Bool) (h : α → PyData) (hit : it Γ = some (xs.map d, Γ)) (hfr : freeE Γ vs = true)
    (hx : ∀ x ∈ xs, g (d x) (wipeE Γ vs) = some (e x) ∧ t (e x) = some (c x, e x) ∧ (c x = true → f (e x) = some (h x, e x)) ∧ wipeE (e x) vs = wipeE Γ vs) (hl : xs.length ≤ 100000) :
    nLc it g t f vs Γ = some (.own ((xs.filter c).map h), Γ) := by
  obtain ⟨Γe, g1, g2⟩ := lcLoop_any (W := wipeE Γ vs) d e c h xs [] Γ rfl hx (by simpa using hl)
  unfold nLc
  simp only [hit, Option.bind_some, hfr, if_true, g1, rest_any g2]
  simp
theorem lcLoop2_any {α β : Type} {g g1 : PyData → Env → Option Env} {t1 : TX} {it1 : AX} {f : EX} {vs vs1 : List Nat} {W : Env} (hv : ∀ i, i ∈ vs1 → i ∈ vs) (d : α → PyData) (e : α → Env) (ys : α → List β) (d1 : β → PyData) (e1 : α → β → Env) (c1 : α → β → Bool) (h : α → β → PyData) (N : Nat) : ∀ (xs : List α) (acc : List PyData) (Γ : Env), wipeE Γ vs = W →
    (∀ x ∈ xs, g (d x) W = some (e x) ∧ it1 (e x) = some ((ys x).map d1, e x) ∧ wipeE (e x) vs = W ∧ (ys x).length ≤ N ∧ ∀ y ∈ ys x, g1 (d1 y) (wipeE (e x) vs1) = some (e1 x y) ∧ t1 (e1 x y) = some (c1 x y, e1 x y) ∧ (c1 x y = true → f (e1 x y) = some (h x y, e1 x y)) ∧ wipeE (e1 x y) vs1 = wipeE (e x) vs1) → acc.length + N * xs.length ≤ 100000 →
    ∃ Γe, lcLoop2 g tYesX it1 g1 t1 f vs vs1 (xs.map d) acc Γ = some (acc ++ xs.flatMap (fun x => ((ys x).filter (c1 x)).map (h x)), Γe) ∧ wipeE Γe vs = W
  | [], acc, Γ, hw, _, _ => ⟨Γ, by simp [lcLoop2], hw⟩
  | x :: xs, acc, Γ, hw, hx, hl => by
    obtain ⟨h1, h2, h3, h4, h5⟩ := hx x List.mem_cons_self
    simp only [List.length_cons, Nat.mul_add, Nat.mul_one] at hl
    obtain ⟨Γ1, a1, a2⟩ := lcLoop_any (W := wipeE (e x) vs1) d1 (e1 x) (c1 x) (h x) (ys x) acc (e x) rfl h5 (by omega)
    have w1 : wipeE Γ1 vs = W := by rw [← wipeE_sub hv, a2, wipeE_sub hv, h3]
    have lf : (((ys x).filter (c1 x)).map (h x)).length ≤ N := by rw [List.length_map]; exact Nat.le_trans (List.length_filter_le _ _) h4
    obtain ⟨Γe, b1, b2⟩ := lcLoop2_any hv d e ys d1 e1 c1 h N xs (acc ++ ((ys x).filter (c1 x)).map (h x)) Γ1 w1 (fun y hy => hx y (List.mem_cons_of_mem _ hy)) (by rw [List.length_append]; omega)
    refine ⟨Γe, ?_, b2⟩
    rw [List.map_cons]
    unfold lcLoop2
    have ty : tYesX (e x) = some (true, e x) := rfl
    simp [hw, h1, ty, h2, a1, b1]
theorem nLc2_any {α β : Type} {it : AX} {g g1 : PyData → Env → Option Env} {t1 : TX} {it1 : AX} {f : EX} {vs vs1 : List Nat} {Γ : Env} (hv : ∀ i, i ∈ vs1 → i ∈ vs) (xs : List α) (d : α → PyData) (e : α → Env) (ys : α → List β) (d1 : β → PyData) (e1 : α → β → Env) (c1 : α → β → Bool) (h : α → β → PyData) (N : Nat) (hit : it Γ = some (xs.map d, Γ)) (hfr : freeE Γ vs = true)
    (hx : ∀ x ∈ xs, g (d x) (wipeE Γ vs) = some (e x) ∧ it1 (e x) = some ((ys x).map d1, e x) ∧ wipeE (e x) vs = wipeE Γ vs ∧ (ys x).length ≤ N ∧ ∀ y ∈ ys x, g1 (d1 y) (wipeE (e x) vs1) = some (e1 x y) ∧ t1 (e1 x y) = some (c1 x y, e1 x y) ∧ (c1 x y = true → f (e1 x y) = some (h x y, e1 x y)) ∧ wipeE (e1 x y) vs1 = wipeE (e x) vs1) (hl : N * xs.length ≤ 100000) :
    nLc2 it g tYesX it1 g1 t1 f vs vs1 Γ = some (.own (xs.flatMap (fun x => ((ys x).filter (c1 x)).map (h x))), Γ) := by
  obtain ⟨Γe, a1, a2⟩ := lcLoop2_any (W := wipeE Γ vs) hv d e ys d1 e1 c1 h N xs [] Γ rfl hx (by simpa using hl)
  unfold nLc2
  simp only [hit, Option.bind_some, hfr, if_true, a1, rest_any a2]
  simp
end Z
set_option Elab.async false
set_option linter.all false
set_option maxRecDepth 100000
set_option maxHeartbeats 2000000
/-! Z: what the expressions of the search are worth -/
namespace Z
open PySem PySem.Spec L2 Evl PyProof.Rows
open Mt (Pl3 Fnd lastOr startOf)
theorem restOf_get {g : List Int} : ∀ {ks r : List Int}, Mt.restOf ks g = some r → (∀ k ∈ ks, ∃ x, Mt.ixI g k = some x) ∧ r = ks.map fun k => (Mt.ixI g k).getD 0
  | [], r, h => by cases h; exact ⟨fun _ h => (by cases h), rfl⟩
  | k :: ks, r, h => by
    rw [Mt.restOf] at h
    obtain ⟨x, h1, h⟩ := bind_eq h
    obtain ⟨r2, h2, h⟩ := bind_eq h
    cases h
    obtain ⟨g1, g2⟩ := restOf_get h2
    refine ⟨fun q hq => ?_, ?_⟩
    · rcases List.mem_cons.mp hq with rfl | hq
      · exact ⟨x, h1⟩
      · exact g1 q hq
    · rw [List.map_cons, h1, ← g2]; rfl
theorem pIx_T {l : List Int} {i x : Int} (h : Mt.ixI l i = some x) : pIx (T l) (.int i) = some (.int x) := by
  rw [← ixI_eq] at h
  obtain ⟨j, h1, h2⟩ := bind_eq h
  simp [pIx, seqOf, h1, h2]
theorem pIx_L {l : List PyData} {i : Nat} {x : PyData} (h : l[i]? = some x) : pIx (.list l) (.int (i : Int)) = some x := by
  have hl := (List.getElem?_eq_some_iff.mp h).1
  simp [pIx, seqOf, ixN_nat hl, h]
theorem ixI_last {c : List Int} (h : c ≠ []) : Mt.ixI c (-1) = some (lastOr c) := by
  unfold Mt.ixI Mt.lastOr
  have hl := List.length_pos_iff.mpr h
  rw [if_neg (by omega), if_pos (by omega), List.getLast?_eq_getElem?]
  have : ((c.length : Int) + -1).toNat = c.length - 1 := by omega
  rw [this, List.getElem?_eq_getElem (by omega)]
theorem depth_nums : ∀ l : List Int, NestedKey.depthAll (l.map .num) = 0
  | [] => rfl
  | x :: l => by
    rw [List.map_cons]
    show max (NestedKey.depth (.num x)) (NestedKey.depthAll (l.map .num)) = 0
    rw [depth_nums l]; rfl
theorem keyNs_ints : ∀ l : List Int, keyN.keyNs (l.map .int) = some (l.map .num)
  | [] => rfl
  | x :: l => by
    show (keyN (.int x)).bind (fun k => (keyN.keyNs (l.map .int)).map (k :: ·)) = _
    rw [keyNs_ints l]; rfl
theorem keyT_gKey (n : Nat) (rest : List Int) : keyT (.tuple [.int (n : Int), T rest]) = some (gKey n rest) := by
  have e : keyN (.tuple [.int (n : Int), T rest]) = some (gKey n rest) := by
    show (keyN.keyNs [.int (n : Int), T rest]).map NestedKey.tup = _
    have : keyN (T rest) = some (.tup (rest.map .num)) := by
      show (keyN.keyNs (rest.map .int)).map NestedKey.tup = _
      rw [keyNs_ints]; rfl
    show ((keyN (.int (n : Int))).bind fun k => (keyN.keyNs [T rest]).map (k :: ·)).map NestedKey.tup = _
    show (((keyN (T rest)).bind fun k => (keyN.keyNs []).map (k :: ·)).map (NestedKey.num n :: ·)).map NestedKey.tup = _
    rw [this]; rfl
  show (keyN (.tuple [.int (n : Int), T rest])).bind (fun k => if k.depth ≤ 8 then some k else none) = _
  rw [e]
  have : (gKey n rest).depth ≤ 8 := by
    unfold gKey
    have := depth_nums rest
    simp [NestedKey.depth, NestedKey.depthAll, this]
  simp [this]
section
variable {chosen held grown : List Int} {p : List Pl3} {st : Pl3} {o : List Int}
def gamB (chosen grown : List Int) (p : List Pl3) : Env := [.no, .val (T chosen), .val (T grown), .val (.list (p.map plD)), .no, .no, .no, .no]
theorem e_rest {rest : List Int} (h0 : chosen ≠ []) (h1 : p[chosen.length - 1]? = some st) (h2 : Mt.restOf st.2.2 grown = some rest) (h3 : st.2.2.length ≤ 50000) :
    (eCall pTuple (aCons (nOwn (nLc (itSeq (eOp pIx (eIxV 3 (eOp pSub (eLenV 1) (eC (.int 1)))) (eC (.int 2)))) (gxName 7) tYesX (eIxV 2 (eVar 7)) [7])) aNil)) (gamB chosen grown p) = some (T rest, gamB chosen grown p) := by
  obtain ⟨g1, g2⟩ := restOf_get h2
  have hl := List.length_pos_iff.mpr h0
  have e1 : pIx (.list (p.map plD)) (.int ((chosen.length : Int) - 1)) = some (plD st) := by
    rw [show (chosen.length : Int) - 1 = ((chosen.length - 1 : Nat) : Int) by omega]
    exact pIx_L (by rw [List.getElem?_map, h1]; rfl)
  have e2 : pIx (plD st) (.int 2) = some (.list (st.2.2.map .int)) := rfl
  have e3 : nLc (itSeq (eOp pIx (eIxV 3 (eOp pSub (eLenV 1) (eC (.int 1)))) (eC (.int 2)))) (gxName 7) tYesX (eIxV 2 (eVar 7)) [7] (gamB chosen grown p) = some (.own ((st.2.2.filter fun _ => true).map fun k => .int ((Mt.ixI grown k).getD 0)), gamB chosen grown p) := by
    refine nLc_any st.2.2 .int (fun x => (gamB chosen grown p).set 7 (.val (.int x))) (fun _ => true) _ ?_ (by rfl) (fun x hx => ?_) (by omega)
    · have e0 : (eOp pIx (eIxV 3 (eOp pSub (eLenV 1) (eC (.int 1)))) (eC (.int 2))) (gamB chosen grown p) = some (.list (st.2.2.map .int), gamB chosen grown p) := by
        show (eIxV 3 (eOp pSub (eLenV 1) (eC (.int 1))) (gamB chosen grown p)).bind _ = _
        have : eIxV 3 (eOp pSub (eLenV 1) (eC (.int 1))) (gamB chosen grown p) = some (plD st, gamB chosen grown p) := by
          have q : (eOp pSub (eLenV 1) (eC (.int 1))) (gamB chosen grown p) = some (.int ((chosen.length : Int) - 1), gamB chosen grown p) := by simp [gamB, eOp, eLenV, pLen, eC, pSub]
          unfold eIxV
          simp only [show (gamB chosen grown p)[3]? = some (.val (.list (p.map plD))) from rfl, q, Option.bind_some, e1]
        rw [this]
        show ((pIx (plD st) (.int 2)).bind fun z => some (z, gamB chosen grown p)) = _
        rw [e2]; rfl
      show ((eOp pIx (eIxV 3 (eOp pSub (eLenV 1) (eC (.int 1)))) (eC (.int 2))) (gamB chosen grown p)).bind _ = _
      rw [e0]; rfl
    · obtain ⟨y, hy⟩ := g1 x hx
      refine ⟨rfl, rfl, fun _ => ?_, rfl⟩
      simp [gamB, eIxV, pIx_T hy, hy]
  have e4 : nOwn (nLc (itSeq (eOp pIx (eIxV 3 (eOp pSub (eLenV 1) (eC (.int 1)))) (eC (.int 2)))) (gxName 7) tYesX (eIxV 2 (eVar 7)) [7]) (gamB chosen grown p) = some (.list (rest.map .int), gamB chosen grown p) := by
    unfold nOwn
    rw [e3, show st.2.2.filter (fun _ => true) = st.2.2 from List.filter_eq_self.mpr (by simp)]
    simp [g2]
  have e5 : aCons (nOwn (nLc (itSeq (eOp pIx (eIxV 3 (eOp pSub (eLenV 1) (eC (.int 1)))) (eC (.int 2)))) (gxName 7) tYesX (eIxV 2 (eVar 7)) [7])) aNil (gamB chosen grown p) = some ([.list (rest.map .int)], gamB chosen grown p) := by
    unfold aCons
    rw [e4]; rfl
  unfold eCall
  rw [e5]; rfl
end
end Z
namespace Z
open PySem PySem.Spec L2 Evl PyProof.Rows
open Mt (Pl3 Fnd lastOr startOf)
section
variable {chosen grown rest : List Int} {p : List Pl3}
/-- the environments of _gather_behind -/
def gamB1 (chosen grown rest : List Int) (p : List Pl3) : Env := [.no, .val (T chosen), .val (T grown), .val (.list (p.map plD)), .no, .val (T rest), .no, .no]
def gamB2 (chosen grown rest : List Int) (p : List Pl3) : Env := [.no, .val (T chosen), .val (T grown), .val (.list (p.map plD)), .no, .val (T rest), .val (.tuple [.int (chosen.length : Nat), T rest]), .no]
theorem e_key : (eTup (aCons (eLenV 1) (aCons (eVar 5) aNil))) (gamB1 chosen grown rest p) = some (.tuple [.int (chosen.length : Nat), T rest], gamB1 chosen grown rest p) := by
  simp [gamB1, eTup, aCons, aNil, eLenV, pLen, eVar]
theorem e_last (h : chosen ≠ []) : (eIxV 1 (eUn pNeg (eC (.int 1)))) (gamB2 chosen grown rest p) = some (.int (lastOr chosen), gamB2 chosen grown rest p) := by
  have := pIx_T (ixI_last h)
  simp [gamB2, eIxV, eUn, eC, pNeg, this]
theorem e_dflt (h : chosen ≠ []) : (eOp pAdd (eIxV 1 (eUn pNeg (eC (.int 1)))) (eC (.int 1))) (gamB2 chosen grown rest p) = some (.int (lastOr chosen + 1), gamB2 chosen grown rest p) := by
  have := pIx_T (ixI_last h)
  simp [gamB2, eOp, eIxV, eUn, eC, pNeg, this, pAdd]
theorem na_B : NoOwn (gamB chosen grown p) := fun i s h => by
  unfold gamB at h
  match i, h with
  | 0, h | 1, h | 2, h | 3, h | 4, h | 5, h | 6, h | 7, h => cases h; rfl
theorem na_B2 : NoOwn (gamB2 chosen grown rest p) := fun i s h => by
  unfold gamB2 at h
  match i, h with
  | 0, h | 1, h | 2, h | 3, h | 4, h | 5, h | 6, h | 7, h => cases h; rfl
end
end Z
namespace Z
open PySem PySem.Spec L2 Evl PyProof.Rows
open Mt (Pl3 Fnd lastOr startOf)
section
variable {c : Tk} {Γ Γ2 : Env} {F F' H H' : Hp} {σ : L2.St} {kt kt' : KI} {xs xs' : Fnd}
theorem St.lenSet {D : Ends} {j i : Nat} (S : St c Γ F σ H kt xs) (hj : (j, c.bf) ∈ c.P) (hi : ∀ q ∈ c.P, q.1 ≠ i) (q : ∀ σ', St c (Γ.set i (.val (.int (xs.length : Nat)))) F σ' H kt xs → D.nx σ' H) :
    tAsg (tCB (fun xs H Q => ∃ p ys, xs = [V.ref p] ∧ (SqL c.K H p ys ∨ SqT c.K H p ys) ∧ Q (V.int (ys.length : Nat)) H) (tCons (tVar j) tNil)) (gName i) D σ H :=
  S.len hj (fun _ _ _ h => h) (q _ (S.put (.int _) hi))
theorem St.lenOp {j i : Nat} (S : St c Γ F σ H kt xs) (hj : (j, c.bf) ∈ c.P) {r : R2} {pf : PyData → PyData → Option PyData} {m' : Int} {d : PyData} (hm : Γ[i]? = some (.val (.int m'))) (hr : OpP c.K r pf) (hp : pf (.int (xs.length : Nat)) (.int m') = some d) {Q : VK}
    (q : ∀ v F' H', Ex F F' → St c Γ F' σ H' kt xs → Dp c.K F' v d → Q v H') :
    tOp r (tCB (fun xs H Q => ∃ p ys, xs = [V.ref p] ∧ (SqL c.K H p ys ∨ SqT c.K H p ys) ∧ Q (V.int (ys.length : Nat)) H) (tCons (tVar j) tNil)) (tVar i) σ H Q := by
  refine S.len hj (fun _ _ _ h => h) ?_
  obtain ⟨w5, q5, g5⟩ := S.R.slot i _ hm
  obtain rfl := dp_int g5
  refine ⟨_, q5, ?_⟩
  exact hr F H _ _ _ _ _ S.R.ext S.R.pl (.int _) (.int _) hp _ fun u F5 H5 gr du => q u F5 H5 gr.ext (S.step S.na (S.R.rebased.grow gr)) du
theorem St.lenTest {j i : Nat} {D : Ends} {ts tu : TS} (S : St c Γ F σ H kt xs) (hj : (j, c.bf) ∈ c.P) {r : R2} {pf : PyData → PyData → Option PyData} {m' : Int} {b : Bool} (hm : Γ[i]? = some (.val (.int m'))) (hr : OpP c.K r pf) (hp : pf (.int (xs.length : Nat)) (.int m') = some (.bool b))
    (q : ∀ F' H', Ex F F' → St c Γ F' σ H' kt xs → if b = true then ts D σ H' else tu D σ H') :
    tIfS (tTest (tOp r (tCB (fun xs H Q => ∃ p ys, xs = [V.ref p] ∧ (SqL c.K H p ys ∨ SqT c.K H p ys) ∧ Q (V.int (ys.length : Nat)) H) (tCons (tVar j) tNil)) (tVar i))) ts tu D σ H :=
  S.lenOp hj hm hr hp fun v F' H' ex S' dv => by cases dv; exact ⟨_, rfl, q F' H' ex S'⟩
theorem St.lenRet {j i : Nat} {D : Ends} (S : St c Γ F σ H kt xs) (hj : (j, c.bf) ∈ c.P) {r : R2} {pf : PyData → PyData → Option PyData} {m' : Int} {b : Bool} (hm : Γ[i]? = some (.val (.int m'))) (hr : OpP c.K r pf) (hp : pf (.int (xs.length : Nat)) (.int m') = some (.bool b))
    (q : ∀ F' H', Ex F F' → St c Γ F' σ H' kt xs → D.rt (.bl b) H') :
    tRet (tOp r (tCB (fun xs H Q => ∃ p ys, xs = [V.ref p] ∧ (SqL c.K H p ys ∨ SqT c.K H p ys) ∧ Q (V.int (ys.length : Nat)) H) (tCons (tVar j) tNil)) (tVar i)) D σ H :=
  S.lenOp hj hm hr hp fun v F' H' ex S' dv => by cases dv; exact q F' H' ex S'
theorem St.asg {te : TE} {f : EX} {d : PyData} {D : Ends} {g : TG} {gx : PyData → Env → Option Env} {Sl : List Nat} (S : St c Γ F σ H kt xs) (h : EvE c.K te f) (e : f Γ = some (d, Γ)) (hg : EvG c.K g gx Sl) (hS : ∀ q ∈ c.P, q.1 ∉ Sl) (e2 : gx d Γ = some Γ2) (na2 : NoOwn Γ2)
    (q : ∀ F' σ' H', Ex F F' → St c Γ2 F' σ' H' kt xs → D.nx σ' H') : tAsg te g D σ H :=
  S.eval h e S.na fun v F' H' ex S' dv => hg _ Γ F' σ H' v d Γ2 S'.R dv e2 _ fun σ2 R2 l2 o2 => q F' σ2 H' ex ⟨R2, S'.T, na2, fun q hq => by rw [o2 q.1 (hS q hq)]; exact S'.sp q hq⟩
end
section
variable (chosen held o : List Int) (p : List Pl3) (m : Int)
def gG0 : Env := [.no, .val (T chosen), .val (T held), .val (T o), .val (.list (p.map plD)), .val (.int m), .no, .no, .no, .no, .no, .no, .no, .no, .no, .no, .no, .no]
def gG1 : Env := [.no, .val (T chosen), .val (T held), .val (T o), .val (.list (p.map plD)), .val (.int m), .no, .no, .val (.int (chosen.length : Nat)), .no, .no, .no, .no, .no, .no, .no, .no, .no]
def gG2 (st : Pl3) : Env := [.no, .val (T chosen), .val (T held), .val (T o), .val (.list (p.map plD)), .val (.int m), .no, .no, .val (.int (chosen.length : Nat)), .val (.int st.1), .val (.int st.2.1), .val (.list (st.2.2.map .int)), .no, .no, .no, .no, .no, .no]
def gG3 (st : Pl3) (bottom : Int) : Env := [.no, .val (T chosen), .val (T held), .val (T o), .val (.list (p.map plD)), .val (.int m), .no, .no, .val (.int (chosen.length : Nat)), .val (.int st.1), .val (.int st.2.1), .val (.list (st.2.2.map .int)), .val (.int bottom), .no, .no, .no, .no, .no]
def gG4 (st : Pl3) (bottom top : Int) : Env := [.no, .val (T chosen), .val (T held), .val (T o), .val (.list (p.map plD)), .val (.int m), .no, .no, .val (.int (chosen.length : Nat)), .val (.int st.1), .val (.int st.2.1), .val (.list (st.2.2.map .int)), .val (.int bottom), .val (.int top), .no, .no, .no, .no]
def gG5 (st : Pl3) (bottom top : Int) (many : Nat) : Env := [.no, .val (T chosen), .val (T held), .val (T o), .val (.list (p.map plD)), .val (.int m), .no, .no, .val (.int (chosen.length : Nat)), .val (.int st.1), .val (.int st.2.1), .val (.list (st.2.2.map .int)), .val (.int bottom), .val (.int top), .val (.int (many : Nat)), .no, .no, .no]
def gGL (st : Pl3) (bottom top : Int) (many : Nat) (start : Int) (s16 s17 : Slot) : Env := [.no, .val (T chosen), .val (T held), .val (T o), .val (.list (p.map plD)), .val (.int m), .no, .no, .val (.int (chosen.length : Nat)), .val (.int st.1), .val (.int st.2.1), .val (.list (st.2.2.map .int)), .val (.int bottom), .val (.int top), .val (.int (many : Nat)), .val (.int start), s16, s17]
end
section
variable {chosen held o : List Int} {p : List Pl3} {m : Int} {st : Pl3} {bottom top start : Int} {many : Nat} {s16 s17 : Slot}
theorem na_G0 : NoOwn (gG0 chosen held o p m) := by (intro i s h; match i, h with | 0, h | 1, h | 2, h | 3, h | 4, h | 5, h | 6, h | 7, h | 8, h | 9, h | 10, h | 11, h | 12, h | 13, h | 14, h | 15, h | 16, h | 17, h => cases h; rfl)
theorem na_G1 : NoOwn (gG1 chosen held o p m) := by (intro i s h; match i, h with | 0, h | 1, h | 2, h | 3, h | 4, h | 5, h | 6, h | 7, h | 8, h | 9, h | 10, h | 11, h | 12, h | 13, h | 14, h | 15, h | 16, h | 17, h => cases h; rfl)
theorem na_G2 : NoOwn (gG2 chosen held o p m st) := by (intro i s h; match i, h with | 0, h | 1, h | 2, h | 3, h | 4, h | 5, h | 6, h | 7, h | 8, h | 9, h | 10, h | 11, h | 12, h | 13, h | 14, h | 15, h | 16, h | 17, h => cases h; rfl)
theorem na_G4 : NoOwn (gG4 chosen held o p m st bottom top) := by (intro i s h; match i, h with | 0, h | 1, h | 2, h | 3, h | 4, h | 5, h | 6, h | 7, h | 8, h | 9, h | 10, h | 11, h | 12, h | 13, h | 14, h | 15, h | 16, h | 17, h => cases h; rfl)
theorem na_GL (h6 : s16.isOwn = false) (h7 : s17.isOwn = false) : NoOwn (gGL chosen held o p m st bottom top many start s16 s17) := by
  intro i s h
  match i, h with
  | 0, h | 1, h | 2, h | 3, h | 4, h | 5, h | 6, h | 7, h | 8, h | 9, h | 10, h | 11, h | 12, h | 13, h | 14, h | 15, h => cases h; rfl
  | 16, h => cases h; exact h6
  | 17, h => cases h; exact h7
theorem eG1 : eLenV 1 (gG0 chosen held o p m) = some (.int (chosen.length : Nat), gG0 chosen held o p m) := by simp [gG0, eLenV, pLen]
theorem eG2 (h : p[chosen.length]? = some st) : eIxV 4 (eVar 8) (gG1 chosen held o p m) = some (plD st, gG1 chosen held o p m) := by
  have := pIx_L (l := p.map plD) (i := chosen.length) (x := plD st) (by rw [List.getElem?_map, h]; rfl)
  simp [gG1, eIxV, eVar, this]
theorem eG3 (h : Mt.ixI held st.1 = some bottom) : eIxV 2 (eVar 9) (gG2 chosen held o p m st) = some (.int bottom, gG2 chosen held o p m st) := by
  have := pIx_T h
  simp [gG2, eIxV, eVar, this]
theorem eG4 (h : Mt.ixI held st.2.1 = some top) : eIxV 2 (eVar 10) (gG3 chosen held o p m st bottom) = some (.int top, gG3 chosen held o p m st bottom) := by
  have := pIx_T h
  simp [gG3, eIxV, eVar, this]
theorem eG6 : (eIf (tTruX (eVar 1)) (eOp pAdd (eIxV 1 (eUn pNeg (eC (.int 1)))) (eC (.int 1))) (eC (.int 0))) (gG5 chosen held o p m st bottom top many) = some (.int (startOf chosen), gG5 chosen held o p m st bottom top many) := by
  unfold Mt.startOf
  by_cases h : chosen = []
  · subst h
    simp [gG5, eIf, tTruX, eVar, truD, eC]
  · have := pIx_T (ixI_last h)
    rw [if_neg h]
    have t2 : ((ixN chosen.length (-1)).bind fun j => Option.map PyData.int chosen[j]?) = some (.int (lastOr chosen)) := by
      have q := ixI_last h
      rw [← ixI_eq] at q
      obtain ⟨j, h1, h2⟩ := bind_eq q
      simp [h1, h2]
    simp [gG5, eIf, tTruX, eVar, truD, eOp, eIxV, eUn, eC, pNeg, t2, pAdd, h]
theorem eG7 (hz : ¬ (50000 < o.length + p.length + chosen.length + held.length ∨ startOf chosen < 0 ∨ 50000 < startOf chosen)) :
    (itRange (aCons (eVar 15) (aCons (eOp pAdd (eOp pAdd (eOp pSub (eLenV 3) (eLenV 4)) (eVar 8)) (eC (.int 1))) aNil))) (gGL chosen held o p m st bottom top many (startOf chosen) .no .no) =
      some ((Mt.rg (startOf chosen) (((o.length : Int) - p.length + chosen.length + 1) - startOf chosen).toNat).map .int, gGL chosen held o p m st bottom top many (startOf chosen) .no .no) := by
  have := range2 (startOf chosen) ((o.length : Int) - p.length + chosen.length + 1) (by omega) (by omega)
  simp [gGL, aCons, aNil, eVar, eOp, eLenV, pLen, pSub, pAdd, eC, this, rg_eq]
theorem eG8 {pl number : Int} (h : Mt.ixI o pl = some number) : eIxV 3 (eVar 16) (gGL chosen held o p m st bottom top many start (.val (.int pl)) s17) = some (.int number, gGL chosen held o p m st bottom top many start (.val (.int pl)) s17) := by
  have := pIx_T h
  simp [gGL, eIxV, eVar, this]
theorem eG9 {pl number : Int} : (tOf (eChain pLt pLt (eVar 12) (eVar 17) (eVar 13))) (gGL chosen held o p m st bottom top many start (.val (.int pl)) (.val (.int number))) = some (decide (bottom < number ∧ number < top), gGL chosen held o p m st bottom top many start (.val (.int pl)) (.val (.int number))) := by
  by_cases h1 : bottom < number <;> by_cases h2 : number < top <;> simp [gGL, eVar, pLt, pCmp, h1, h2]
theorem eG10 {pl number : Int} : (tOf (eOp pEq (eOp pAdd (eVar 8) (eC (.int 1))) (eLenV 4))) (gGL chosen held o p m st bottom top many start (.val (.int pl)) (.val (.int number))) = some (decide (chosen.length + 1 = p.length), gGL chosen held o p m st bottom top many start (.val (.int pl)) (.val (.int number))) := by
  by_cases h : chosen.length + 1 = p.length
  · have : ((chosen.length : Int) + 1 = p.length) := by omega
    simp [gGL, eVar, eOp, eC, pAdd, eLenV, pLen, h, this]
  · have : ¬ ((chosen.length : Int) + 1 = p.length) := by omega
    simp [gGL, eVar, eOp, eC, pAdd, eLenV, pLen, h, this]
theorem eG11 {pl number : Int} (h : chosen.length ≤ 50000) : (eOp pAdd (eVar 1) (eTup (aCons (eVar 16) aNil))) (gGL chosen held o p m st bottom top many start (.val (.int pl)) (.val (.int number))) = some (T (chosen ++ [pl]), gGL chosen held o p m st bottom top many start (.val (.int pl)) (.val (.int number))) := by
  have : chosen.length + 1 ≤ 100000 := by omega
  simp [gGL, eVar, eOp, eTup, aCons, aNil, pAdd, this]
theorem eG12 {pl number : Int} (h : held.length ≤ 50000) : (eOp pAdd (eVar 2) (eTup (aCons (eVar 17) aNil))) (gGL chosen held o p m st bottom top many start (.val (.int pl)) (.val (.int number))) = some (T (held ++ [number]), gGL chosen held o p m st bottom top many start (.val (.int pl)) (.val (.int number))) := by
  have : held.length + 1 ≤ 100000 := by omega
  simp [gGL, eVar, eOp, eTup, aCons, aNil, pAdd, this]
end
end Z
namespace Z
open PySem PySem.Spec L2 Evl PyProof.Rows
open Mt (Pl3 Fnd lastOr startOf)
def plOf : PyData → Option Pl3
  | .tuple [.int a, .int b, .list ks] => (intsOf ks).map fun k => (a, b, k)
  | _ => none
def plsOf : List PyData → Option (List Pl3)
  | [] => some []
  | d :: ds => (plOf d).bind fun x => (plsOf ds).map (x :: ·)
theorem plOf_eq {d : PyData} {x : Pl3} (h : plOf d = some x) : d = plD x := by
  unfold plOf at h
  split at h
  · obtain ⟨k, h1, h2⟩ := Option.map_eq_some_iff.mp h
    subst h2
    rw [intsOf_eq h1]; rfl
  · cases h
theorem plsOf_eq : ∀ {ds : List PyData} {p : List Pl3}, plsOf ds = some p → ds = p.map plD
  | [], p, h => by cases h; rfl
  | d :: ds, p, h => by
    obtain ⟨x, h1, h⟩ := bind_eq (show (plOf d).bind (fun x => (plsOf ds).map (x :: ·)) = _ from h)
    obtain ⟨r, h2, h3⟩ := Option.map_eq_some_iff.mp h
    subst h3
    rw [plOf_eq h1, plsOf_eq h2]; rfl
theorem plsOf_map : ∀ p : List Pl3, plsOf (p.map plD) = some p
  | [] => rfl
  | x :: p => by
    have : plOf (plD x) = some x := by
      show (intsOf (x.2.2.map .int)).map _ = _
      rw [intsOf_map]; rfl
    show (plOf (plD x)).bind (fun x => (plsOf (p.map plD)).map (x :: ·)) = _
    rw [this, plsOf_map p]; rfl
/-- placings_by -/
def s_placings_by : List PyData → Option PyData
  | [.tuple os, .list ps, .int m] => (intsOf os).bind fun o => (plsOf ps).bind fun p => (Mt.gat gKey o p m 20 [] [] [] [0, (o.length : Int) + 1]).bind fun r => some (.list (TT r.2.2))
  | _ => none
section
variable {K : PySem.W.Frag} {F H : Hp} {t bd bf : Addr} {ot : Obj} {o : List Int} {p : List Pl3} {m : Int} {v0 v1 v2 : V}
theorem St.first (ex : Ex F H) (pl : Pl F) (d0 : Dp K F v0 (Z.T o)) (d1 : Dp K F v1 (.list (p.map plD))) (d2 : Dp K F v2 (.int m)) (hf : H bf = none) (hd : upd H bf (.lst []) bd = none) (ht : upd (upd H bf (.lst [])) bd (odHO bd []) t = none) (hot : Dl ot) :
    St ⟨K, upd F t (.frz ot (.tup [v0, v1, v2, .ref bd, .ref bf])), upd (upd (upd H bf (.lst [])) bd (odHO bd [])) t (.frz ot (.tup [v0, v1, v2, .ref bd, .ref bf])), t, bd, bf, o, p, m, [(3, bf), (4, t)]⟩
      [.val (Z.T o), .val (.list (p.map plD)), .val (.int m), .no, .no] (upd F t (.frz ot (.tup [v0, v1, v2, .ref bd, .ref bf]))) [some v0, some v1, some v2, some (.ref bf), some (.ref t)]
      (upd (upd (upd H bf (.lst [])) bd (odHO bd [])) t (.frz ot (.tup [v0, v1, v2, .ref bd, .ref bf]))) [] [] := by
  have nbd : bd ≠ bf := fun z => by subst z; rw [upd_same] at hd; cases hd
  have nt1 : t ≠ bd := fun z => by subst z; rw [upd_same] at ht; cases ht
  have ht' : upd H bf (.lst []) t = none := by rwa [upd_ne nt1] at ht
  have nt2 : t ≠ bf := fun z => by subst z; rw [upd_same] at ht'; cases ht'
  have Ht : H t = none := by rwa [upd_ne nt2] at ht'
  have Hd : H bd = none := by rwa [upd_ne nbd] at hd
  have F_t : F t = none := fresh_back ex Ht
  have F_d : F bd = none := fresh_back ex Hd
  have F_f : F bf = none := fresh_back ex hf
  have e1 : Ex F (upd F t (.frz ot (.tup [v0, v1, v2, .ref bd, .ref bf]))) := Ex.new F_t
  have ex3 : Ex (upd F t (.frz ot (.tup [v0, v1, v2, .ref bd, .ref bf]))) (upd (upd (upd H bf (.lst [])) bd (odHO bd [])) t (.frz ot (.tup [v0, v1, v2, .ref bd, .ref bf]))) := fun b u e => by
    by_cases hb : b = t
    · subst hb; rw [upd_same] at e ⊢; exact e
    · rw [upd_ne hb] at e ⊢
      have := ex b u e
      have n1 : b ≠ bd := fun z => by subst z; rw [Hd] at this; cases this
      have n2 : b ≠ bf := fun z => by subst z; rw [hf] at this; cases this
      rw [upd_ne n1, upd_ne n2]; exact this
  have na : NoOwn [.val (Z.T o), .val (.list (p.map plD)), .val (.int m), .no, .no] := fun i s h => by
    match i, h with
    | 0, h | 1, h | 2, h | 3, h | 4, h => cases h; rfl
  refine ⟨⟨rfl, fun i s h => ?_, fun i j s u a hij h1 h2 _ _ _ _ => ?_, Ex.refl _, ex3, fun b o e _ _ => e, fun b o e => .inl e, pl.upd hot, fun b e => e⟩, ⟨⟨ot, v0, v1, v2, upd_same, dp_mono e1 d0, dp_mono e1 d1, dp_mono e1 d2⟩, by rw [upd_ne (Ne.symm nt1)]; exact F_d, by rw [upd_ne (Ne.symm nt2)]; exact F_f, nbd, ⟨[], by rw [upd_ne (Ne.symm nt1), upd_same], .nil⟩, ⟨[], by rw [upd_ne (Ne.symm nt2), upd_ne (Ne.symm nbd), upd_same], .nil⟩⟩, na, fun q hq => ?_⟩
  · match i, h with
    | 0, h => cases h; exact ⟨v0, rfl, dp_mono e1 d0⟩
    | 1, h => cases h; exact ⟨v1, rfl, dp_mono e1 d1⟩
    | 2, h => cases h; exact ⟨v2, rfl, dp_mono e1 d2⟩
    | 3, h => cases h; trivial
    | 4, h => cases h; trivial
  · rw [na i s h1] at h2; cases h2
  · simp at hq; rcases hq with rfl | rfl <;> rfl
/-- what was found is a plain list in the end -/
theorem St.last {c : Tk} {Γ : Env} {F6 H6 : Hp} {σ : L2.St} {kt : KI} {xs : Fnd} (ex : Ex F H) (hf : H c.bf = none) (hd : H c.bd = none) (Ht : H c.t = none) (e0 : c.F0 = upd F c.t (.frz ot (.tup [v0, v1, v2, .ref c.bd, .ref c.bf]))) (h0 : c.H0 = upd (upd (upd H c.bf (.lst [])) c.bd (odHO c.bd [])) c.t (.frz ot (.tup [v0, v1, v2, .ref c.bd, .ref c.bf])))
    (S : St c Γ F6 σ H6 kt xs) : ∃ F', Grow F H F' H6 ∧ Dp c.K F' (.ref c.bf) (.list (Z.TT xs)) := by
  obtain ⟨us, hu, hl⟩ := S.T.f
  have g := S.out
  have e1 : Ex F c.F0 := by rw [e0]; exact Ex.new (fresh_back ex Ht)
  have ex2 : Ex F6 (upd F6 c.bf (.lst us)) := Ex.new S.T.f0
  have hH : ∀ b u, H b = some u → c.H0 b = some u ∧ b ≠ c.bd ∧ b ≠ c.bf := fun b u h => by
    have n1 : b ≠ c.bd := fun z => by subst z; rw [hd] at h; cases h
    have n2 : b ≠ c.bf := fun z => by subst z; rw [hf] at h; cases h
    have n3 : b ≠ c.t := fun z => by subst z; rw [Ht] at h; cases h
    refine ⟨?_, n1, n2⟩
    rw [h0, upd_ne n3, upd_ne n1, upd_ne n2]; exact h
  refine ⟨upd F6 c.bf (.lst us), ⟨fun b u h => ?_, (e1.trans g.ext).trans ex2, fun b u h => ?_, fun b u h => ?_, fun _ => g.pl.upd trivial⟩, .lst (sq_of upd_same) (dpa_mono ex2 hl)⟩
  · obtain ⟨q1, q2, q3⟩ := hH b u h
    exact g.keep b u q2 q3 q1
  · by_cases hb : b = c.bf
    · subst hb; rw [upd_same] at h; cases h; exact hu
    · rw [upd_ne hb] at h; exact S.R.ext b u h
  · by_cases hb : b = c.bf
    · subst hb; exact .inr hf
    · rw [upd_ne hb] at h
      rcases g.new b u h with z | z
      · rw [e0] at z
        by_cases ht : b = c.t
        · subst ht; exact .inr Ht
        · rw [upd_ne ht] at z; exact .inl z
      · refine .inr ?_
        cases q : H b with
        | none => rfl
        | some u' => rw [(hH b u' q).1] at z; cases z
end
end Z
set_option Elab.async false
set_option linter.all false
set_option maxRecDepth 100000
set_option maxHeartbeats 2000000
/-! Z: list.index; k in d of a dict that changes no more; a def that hands back a dict whose keys are ints -/
namespace Z
open PySem PySem.Spec L2 Evl PyProof.Rows
def pIndexL (d e : PyData) : Option PyData := match d, e with
  | .list xs, .int k => (intsOf xs).bind fun ns => if k ∈ ns then some (.int (ns.idxOf k : Nat)) else none
  | _, _ => none
@[simp] theorem z_indexL {xs : List PyData} {k : Int} : pIndexL (.list xs) (.int k) = (intsOf xs).bind fun ns => if k ∈ ns then some (.int (ns.idxOf k : Nat)) else none := rfl
theorem idx_first : ∀ {ns : List Int} {m : Nat} {w : Int}, ns[m]? = some w → ns.idxOf w ≤ m
  | [], _, _, h => by simp at h
  | x :: ns, 0, w, h => by simp at h; subst h; simp
  | x :: ns, m + 1, w, h => by
    have := idx_first (ns := ns) (m := m) (w := w) (by simpa using h)
    rw [List.idxOf_cons]
    cases (x == w) <;> simp <;> omega
theorem flat_ints (ns : List Int) : (ns.map V.int).all flatV = true := by
  rw [List.all_eq_true]
  intro x hx
  obtain ⟨k, _, rfl⟩ := List.mem_map.mp hx
  rfl
section
variable {X : Cx} {o e : Expr} {f g : EX} {apos cpos : Pos}
theorem ep_indexL (hf : EP X o f) (hg : EP X e g)
    (hp2 : ∀ {to te : TE}, PE X o to → PE X e te → PE X (.Call (.Attribute o "index" apos) [e] [] cpos) (tBM X.K "list" (rIndex X.K) to (tCons te tNil)) := by
      intro to te h1 h2; exact pe_bm PySem.F.plainAttrs_list PySem.F.slot_list_index PySem.F.type_list_index mt_index h1 (pa_cons h2 pa_nil)) :
    EP X (.Call (.Attribute o "index" apos) [e] [] cpos) (eOp pIndexL f g) := by
  obtain ⟨to, a1, a2⟩ := hf
  obtain ⟨te, b1, b2⟩ := hg
  refine ⟨_, hp2 a1 b1, ?_⟩
  intro B Γ F σ H z Γ' R h Q q
  obtain ⟨⟨x, Γ1⟩, h1, h⟩ := bind_eq h
  obtain ⟨⟨y, Γ2⟩, h2, h⟩ := bind_eq h
  obtain ⟨z', h3, h⟩ := bind_eq h
  cases h
  have hx : ∃ ys k, x = .list ys ∧ y = .int k := by
    cases x with
    | list ys => cases y with
      | int k => exact ⟨ys, k, rfl, rfl⟩
      | _ => cases h3
    | _ => cases h3
  obtain ⟨ys, k, rfl, rfl⟩ := hx
  obtain ⟨ns, e2, h3⟩ := bind_eq h3
  split at h3
  · rename_i hk
    cases h3
    have en := intsOf_eq e2
    subst en
    refine a2 B Γ F σ H _ Γ1 R h1 _ fun v F1 H1 x1 R1 d1 => ?_
    obtain ⟨a, vs, rfl, s1, d2⟩ := dp_list d1
    have ev := dpa_ints_of d2
    subst ev
    refine ⟨.inl ⟨rfl, _, ex_l R1.ext s1⟩, b2 B Γ1 F1 σ H1 _ Γ2 R1 h2 _ fun u F2 H2 x2 R2 d3 => ?_⟩
    obtain rfl : u = .int k := by cases d3; rfl
    have hlt : ns.idxOf k < ns.length := List.idxOf_lt_length_of_mem hk
    have hget : ns[ns.idxOf k]? = some k := by
      rw [List.getElem?_eq_getElem hlt, List.getElem_idxOf hlt]
    refine ⟨a, _, .int k, ns.idxOf k, .int k, rfl, rfl, ex_l R2.ext (ex_l x2 s1), rfl, flat_ints ns, by rw [List.getElem?_map, hget]; rfl, by simp [eqV], fun m z' hm hz => ?_, q _ F2 H2 (x1.trans x2) R2 (.int _)⟩
    rw [List.getElem?_map] at hz
    obtain ⟨w, hw, rfl⟩ := Option.map_eq_some_iff.mp hz
    have hne : w ≠ k := fun e => by
      subst e
      have := idx_first hw
      omega
    simp [eqV, hne]
  · cases h3
end
/-! ### k in d -/
theorem kva_some {K : PySem.W.Frag} {F : Hp} (k : Key) : ∀ {ws : List (Key × V)} {kvs : List (Key × PyData)}, KvAll K F ws kvs → (valV ws k).isSome = (getP kvs k).isSome
  | _, _, .nil => rfl
  | _, _, .cons (k := k') (ws := ws) (kvs := kvs) h r => by
    unfold valV getP
    by_cases c : k' = k
    · rw [List.find?_cons_of_pos (by simpa using c), List.find?_cons_of_pos (by simpa using c)]; rfl
    · rw [List.find?_cons_of_neg (by simpa using c), List.find?_cons_of_neg (by simpa using c)]; exact kva_some k r
def tDin (i : Nat) (g : EX) : TX := fun Γ => (g Γ).bind fun y => match (y.2[i]? : Option Slot) with
  | some (.dic kvs) => (keyD y.1).bind fun k => some ((getP kvs k).isSome, y.2)
  | _ => none
section
variable {X : Cx} {pos : Pos}
theorem tp_din {b : Expr} {g : EX} {px : Pos} {x : Str} {i : Nat} (hu : X.A.units + 64 < cLine) (hb : EP X b g) (hN : X.N[i]? = some x := by rfl) (hv : Vis X.env.scope x := by first | exact Or.inl rfl | exact Or.inr (Or.inl rfl) | exact Or.inr (Or.inr rfl)) (hd : (x == ("__debug__" : Str)) = false := by decide)
    (hcd : (x == ("__classdict__" : Str)) = false := by decide) (hp : ∀ {t : TE}, PC X .In b (.Name x px) t → PT X (.Compare b [.In] [.Name x px] pos) (tTest t) := by intro t h; exact pt_cmp h (by rfl)) : TP X (.Compare b [.In] [.Name x px] pos) (tDin i g) := by
  obtain ⟨tb, b1, b2⟩ := hb
  refine ⟨_, hp (pc_din (by omega) b1 (pe_var hN hv hd hcd)), ?_⟩
  intro B Γ F σ H r Γ' R h Q q
  obtain ⟨⟨y, Γ1⟩, e1, h⟩ := bind_eq h
  split at h
  · rename_i kvs e2
    obtain ⟨k, e4, h⟩ := bind_eq h
    cases h
    refine b2 B Γ F σ H y Γ1 R e1 _ fun v F1 H1 x1 R1 d1 => ?_
    obtain ⟨a, ws, ea, h1, h2⟩ := R1.slot i _ e2
    have hk := key_v d1 e4
    subst hk
    refine ⟨.ref a, ea, a, valV ws k, rfl, .inl ⟨ws, k, .inl (R1.ext _ _ h1), rfl, rfl⟩, _, rfl, ?_⟩
    rw [kva_some k h2]
    exact q F1 H1 x1 R1
  · cases h
end
/-! ### defs that hand back a dict -/
def spD (K : PySem.W.Frag) (n : Nat) (p : List PyData → Option (List (Key × PyData))) : Sp := fun vs H Q _ => vs.length = n ∧ ∃ (F : Hp) (ds : List PyData) (rs : List (Key × PyData)), Ex F H ∧ Pl F ∧ DpAll K F vs ds ∧ p ds = some rs ∧
  ∀ a ws F' H', Grow F H F' H' → F' a = some (.dK ws) → KvAll K F' ws rs → Q (.ref a) H'
def nCallD (p : List PyData → Option (List (Key × PyData))) (a : AX) : NX := fun Γ => (a Γ).bind fun x => (p x.1).bind fun z => some (.dic z, x.2)
theorem np_oD {X : Cx} {pos pp : Pos} {x : Str} {st : Stmt} {ps : List Str} {lv n : Nat} {e : Expr} {es : List Expr} {p : List PyData → Option (List (Key × PyData))} {k : AX} (G : Ok X.prog X.w X.K X.mg X.base lv x st ps (spD X.K n p)) (hr : Room lv X.A) (ha : AP X (e :: es) k) (hn : Len k n) (hg : Gl X x := by rfl) (hdb : (x == ("__debug__" : Str)) = false := by decide)
    (he : starEach (e :: es) X.env = (false, eval e X.env) :: starEach es X.env := by rfl) (hpl : (backTo pos (starEach es X.env)).any (·.1) = false := by rfl) : NP X (.Call (.Name x pp) (e :: es) [] pos) (nCallD p k) := by
  obtain ⟨f, fd, F, g, bi, G⟩ := G
  obtain ⟨ta, a1, a2⟩ := ha
  refine ⟨_, pe_call (E := E0) G hr hg g F.kp bi .nil pass0 a1 hdb he hpl, ?_⟩
  intro B Γ F σ H z Γ' R h Q q
  obtain ⟨⟨xs, Γ1⟩, h1, h⟩ := bind_eq h
  obtain ⟨z', h3, h⟩ := bind_eq h
  cases h
  refine a2 B Γ F σ H xs Γ1 R h1 _ fun vs F1 H1 e1 R1 d1 => ?_
  show spD X.K n p (vs ++ []) H1 Q E0
  rw [List.append_nil]
  exact ⟨by rw [dpa_len d1]; exact hn _ _ h1, F1, xs, z', R1.ext, R1.pl, d1, h3, fun a ws F2 H2 gr g1 g2 => q _ F2 H2 (e1.trans gr.ext) (R1.grow gr) ⟨a, ws, rfl, g1, g2⟩⟩
end Z
namespace Z
open PySem PySem.Spec L2 Evl PyProof.Rows
/-! ### a dict that a def makes and hands back, hidden in a slot -/
structure Sn (K : PySem.W.Frag) (F0 H0 : Hp) (dd : Addr) (j : Nat) (Γ : Env) (F : Hp) (σ : L2.St) (H : Hp) (kvs : List (Key × PyData)) : Prop where
  R : Rel K ⟨F0, H0, fun _ => False, fun _ => False⟩ Γ F σ H
  z : H0 dd = none
  f : F dd = none
  d : ∃ ws, H dd = some (.dK ws) ∧ KvAll K F ws kvs
  na : NoOwn Γ
  sp : σ[j]? = some (some (.ref dd))
section
variable {K : PySem.W.Frag} {F0 H0 : Hp} {dd : Addr} {j : Nat} {Γ Γ' : Env} {F F' H H' : Hp} {σ : L2.St} {kvs : List (Key × PyData)}
theorem Sn.step (S : Sn K F0 H0 dd j Γ F σ H kvs) (na : NoOwn Γ') (R' : Rel K (rebase Γ F σ H) Γ' F' σ H') : Sn K F0 H0 dd j Γ' F' σ H' kvs := by
  obtain ⟨ws, hd, hk⟩ := S.d
  have g := Hid.stays (⟨hd, S.f, S.na.owns⟩ : Hid Γ F σ H dd _) R'
  exact ⟨S.R.back R', S.z, g.noF, ⟨ws, g.here, kva_mono R'.ext0 hk⟩, na, S.sp⟩
theorem Sn.eval {te : TE} {f : EX} {d : PyData} (S : Sn K F0 H0 dd j Γ F σ H kvs) (h : EvE K te f) (e : f Γ = some (d, Γ')) (na : NoOwn Γ') {Q : VK} (q : ∀ v F' H', Ex F F' → Sn K F0 H0 dd j Γ' F' σ H' kvs → Dp K F' v d → Q v H') : te σ H Q :=
  h _ Γ F σ H d Γ' S.R.rebased e Q fun v F' H' ex R' dv => q v F' H' ex (S.step na R') dv
/-- dict[k] = True -/
theorem Sn.put {ty : TE} {f : EX} {i : Int} {D : Ends} (S : Sn K F0 H0 dd j Γ F σ H kvs) (h : EvE K ty f) (e : f Γ = some (.int i, Γ)) (hl : kvs.length < 100000) (q : ∀ F' H', Ex F F' → Sn K F0 H0 dd j Γ F' σ H' (putP kvs (.inl i) (.bool true)) → D.nx σ H') : sDPut (tVar j) ty (tC (.bl true)) D σ H := by
  refine ⟨.ref dd, S.sp, ?_⟩
  refine S.eval h e S.na fun v F1 H1 x1 S1 dv => ?_
  obtain rfl := dp_int dv
  obtain ⟨ws, hd, hk⟩ := S1.d
  refine ⟨dd, _, rfl, .inl ⟨ws, .inl i, hd, rfl, sz_lt (by rw [kva_len hk]; exact hl), rfl⟩, q F1 _ x1 ?_⟩
  have hid : Hid Γ F1 σ H1 dd (.dK ws) := ⟨hd, S1.f, S1.na.owns⟩
  exact ⟨S1.R.rewrite hid S1.z, S1.z, S1.f, ⟨_, upd_same, kva_put _ hk (.bl true)⟩, S1.na, S1.sp⟩
theorem Sn.for {wi : TI} {it : AX} {g : TG} {gx : PyData → Env → Option Env} {Sl : List Nat} {tb : TS} {D : Ends} {items : List PyData} (S : Sn K F0 H0 dd j Γ F σ H kvs) (hi : EvI K wi it) (hg : EvG K g gx Sl) (hS : j ∉ Sl) (e1 : it Γ = some (items, Γ))
    (J : Nat → Env → List (Key × PyData) → Prop) (j0 : J 0 Γ kvs)
    (step : ∀ i d Γ1 kt1, items[i]? = some d → J i Γ1 kt1 → NoOwn Γ1 → ∃ Γ2, gx d Γ1 = some Γ2 ∧ NoOwn Γ2 ∧ ∀ F1 σ1 H1 (D' : Ends), Sn K F0 H0 dd j Γ2 F1 σ1 H1 kt1 → D'.rt = D.rt → (∀ Γ3 kt3 F3 σ3 H3, Ex F1 F3 → J (i + 1) Γ3 kt3 → Sn K F0 H0 dd j Γ3 F3 σ3 H3 kt3 → D'.nx σ3 H3) → tb D' σ1 H1)
    (fin : ∀ Γ3 kt3 F3 σ3 H3, Ex F F3 → J items.length Γ3 kt3 → Sn K F0 H0 dd j Γ3 F3 σ3 H3 kt3 → D.nx σ3 H3) : tFor wi g tb D σ H := by
  refine hi _ Γ F σ H items Γ S.R.rebased e1 _ fun It Fs Hs x0 R0 Y => ?_
  have S0 := S.step S.na R0
  refine ⟨fun i m σ' H' => ∃ Γ' F' kt', m = items.length - i ∧ i ≤ items.length ∧ Ex Fs F' ∧ Sn K F0 H0 dd j Γ' F' σ' H' kt' ∧ J i Γ' kt', ⟨items.length, Γ, Fs, kvs, by simp, Nat.zero_le _, Ex.refl Fs, S0, j0⟩, ?_⟩
  rintro i m σ1 H1 ⟨Γ1, F1, kt1, rfl, hi1, x1, S1, j1⟩
  by_cases hlt : i < items.length
  · right
    refine ⟨Y.go i F1 H1 x1 S1.R.ext S1.R.pl hlt, fun σ' H' => ∃ Γ' F' kt', Ex Fs F' ∧ Sn K F0 H0 dd j Γ' F' σ' H' kt' ∧ J (i + 1) Γ' kt', ?_, fun x H2 hy => ?_⟩
    · rintro σ' H' ⟨Γ', F', kt', a1, a2, a3⟩
      exact ⟨items.length - (i + 1), by omega, Γ', F', kt', rfl, hlt, a1, a2, a3⟩
    · obtain ⟨F2, d, gr, ed, dv⟩ := Y.yld i F1 H1 x H2 x1 S1.R.ext S1.R.pl hlt hy
      obtain ⟨Γ2, e2, na2, body⟩ := step i d Γ1 kt1 ed j1 S1.na
      have S2 : Sn K F0 H0 dd j Γ1 F2 σ1 H2 kt1 := S1.step S1.na (S1.R.rebased.grow gr)
      refine hg _ Γ1 F2 σ1 H2 x d Γ2 S2.R dv e2 _ fun σ2 R2 l2 o2 => ?_
      have S3 : Sn K F0 H0 dd j Γ2 F2 σ2 H2 kt1 := ⟨R2, S2.z, S2.f, S2.d, na2, by rw [o2 j hS]; exact S2.sp⟩
      exact body F2 σ2 H2 _ S3 rfl fun Γ3 kt3 F3 σ3 H3 e3 j3 S3' => ⟨Γ3, F3, kt3, (x1.trans gr.ext).trans e3, S3', j3⟩
  · left
    have ei : i = items.length := by omega
    subst ei
    exact ⟨Y.stop F1 H1 x1 S1.R.ext S1.R.pl, fin Γ1 kt1 F1 σ1 H1 (x0.trans x1) j1 S1⟩
/-- in the end the dict is known -/
theorem Sn.last (S : Sn K F0 H0 dd j Γ F σ H kvs) (z : H0 dd = none) : ∃ ws F', Grow F0 H0 F' H ∧ F' dd = some (.dK ws) ∧ KvAll K F' ws kvs := by
  obtain ⟨ws, hd, hk⟩ := S.d
  have ex2 : Ex F (upd F dd (.dK ws)) := Ex.new S.f
  refine ⟨ws, upd F dd (.dK ws), ⟨fun b o e => S.R.frame b o e (fun z => z) (fun z => z), S.R.ext0.trans ex2, fun b u h => ?_, fun b u h => ?_, fun _ => S.R.pl.upd trivial⟩, upd_same, kva_mono ex2 hk⟩
  · by_cases hb : b = dd
    · subst hb; rw [upd_same] at h; cases h; exact hd
    · rw [upd_ne hb] at h; exact S.R.ext b u h
  · by_cases hb : b = dd
    · subst hb; exact .inr z
    · rw [upd_ne hb] at h
      rcases S.R.newF b u h with q | q | q
      · exact .inl q
      · exact .inr q
      · exact q.elim
end
/-! ### _next_to -/
def nextStep (held : List Int) (kvs : List (Key × PyData)) (e : Int) : Option (List (Key × PyData)) :=
  if held.filter (fun x => decide (x < e)) = [] ∨ held.filter (fun x => decide (x > e)) = [] ∨ 50000 < kvs.length ∨ 50000 < held.length then none
  else some (putP (putP kvs (.inl (maxI (held.filter fun x => decide (x < e)))) (.bool true)) (.inl (minI (held.filter fun x => decide (x > e)))) (.bool true))
def nextTo (held : List Int) : List Int → List (Key × PyData) → Option (List (Key × PyData))
  | [], kvs => some kvs
  | e :: es, kvs => (nextStep held kvs e).bind fun k => nextTo held es k
def s_next_to : List PyData → Option (List (Key × PyData))
  | [.list hs, .tuple cs] => (intsOf hs).bind fun held => (intsOf cs).bind fun coming => nextTo held coming []
  | _ => none
def gN (held coming : List Int) (s3 s4 : Slot) : Env := [.val (.list (held.map .int)), .val (T coming), .no, s3, s4]
section
variable {held coming : List Int} {e : Int}
theorem putP_len (kvs : List (Key × PyData)) (k : Key) (d : PyData) : (putP kvs k d).length ≤ kvs.length + 1 := by
  unfold putP
  split
  · rw [List.length_map]; omega
  · simp
theorem eN1 (h0 : held.filter (fun x => decide (x < e)) ≠ []) (hl : held.length ≤ 50000) : (eCall pMax1S (aCons (nOwn (nLc (itSeq (eVar 0)) (gxName 4) (tOf (eOp pLt (eVar 4) (eVar 3))) (eVar 4) [4])) aNil)) (gN held coming (.val (.int e)) .no) = some (.int (maxI (held.filter fun x => decide (x < e))), gN held coming (.val (.int e)) .no) := by
  have e3 : nLc (itSeq (eVar 0)) (gxName 4) (tOf (eOp pLt (eVar 4) (eVar 3))) (eVar 4) [4] (gN held coming (.val (.int e)) .no) = some (.own ((held.filter fun x => decide (x < e)).map .int), gN held coming (.val (.int e)) .no) := by
    refine nLc_any held .int (fun x => gN held coming (.val (.int e)) (.val (.int x))) (fun x => decide (x < e)) .int ?_ (by rfl) (fun x hx => ⟨rfl, ?_, fun _ => ?_, rfl⟩) (by omega)
    · simp [gN, eVar, seqOf]
    · simp [gN, eVar, eOp, pLt, pCmp]
    · simp [gN, eVar]
  have e4 : nOwn (nLc (itSeq (eVar 0)) (gxName 4) (tOf (eOp pLt (eVar 4) (eVar 3))) (eVar 4) [4]) (gN held coming (.val (.int e)) .no) = some (.list ((held.filter fun x => decide (x < e)).map .int), gN held coming (.val (.int e)) .no) := by
    unfold nOwn; rw [e3]; rfl
  have e5 : aCons (nOwn (nLc (itSeq (eVar 0)) (gxName 4) (tOf (eOp pLt (eVar 4) (eVar 3))) (eVar 4) [4])) aNil (gN held coming (.val (.int e)) .no) = some ([.list ((held.filter fun x => decide (x < e)).map .int)], gN held coming (.val (.int e)) .no) := by
    unfold aCons; rw [e4]; rfl
  unfold eCall
  rw [e5]
  have : pMax1S [.list ((held.filter fun x => decide (x < e)).map .int)] = some (.int (maxI (held.filter fun x => decide (x < e)))) := by
    show (intsOf _).bind _ = _
    rw [intsOf_map]
    show (if _ = 0 then none else _) = _
    rw [if_neg (by simpa using h0)]
  show (pMax1S _).bind _ = _
  rw [this]; rfl
theorem eN2 (h0 : held.filter (fun x => decide (x > e)) ≠ []) (hl : held.length ≤ 50000) : (eCall pMin1 (aCons (nOwn (nLc (itSeq (eVar 0)) (gxName 4) (tOf (eOp pGt (eVar 4) (eVar 3))) (eVar 4) [4])) aNil)) (gN held coming (.val (.int e)) .no) = some (.int (minI (held.filter fun x => decide (x > e))), gN held coming (.val (.int e)) .no) := by
  have e3 : nLc (itSeq (eVar 0)) (gxName 4) (tOf (eOp pGt (eVar 4) (eVar 3))) (eVar 4) [4] (gN held coming (.val (.int e)) .no) = some (.own ((held.filter fun x => decide (x > e)).map .int), gN held coming (.val (.int e)) .no) := by
    refine nLc_any held .int (fun x => gN held coming (.val (.int e)) (.val (.int x))) (fun x => decide (x > e)) .int ?_ (by rfl) (fun x hx => ⟨rfl, ?_, fun _ => ?_, rfl⟩) (by omega)
    · simp [gN, eVar, seqOf]
    · simp [gN, eVar, eOp, pGt, pCmp]
    · simp [gN, eVar]
  have e4 : nOwn (nLc (itSeq (eVar 0)) (gxName 4) (tOf (eOp pGt (eVar 4) (eVar 3))) (eVar 4) [4]) (gN held coming (.val (.int e)) .no) = some (.list ((held.filter fun x => decide (x > e)).map .int), gN held coming (.val (.int e)) .no) := by
    unfold nOwn; rw [e3]; rfl
  have e5 : aCons (nOwn (nLc (itSeq (eVar 0)) (gxName 4) (tOf (eOp pGt (eVar 4) (eVar 3))) (eVar 4) [4])) aNil (gN held coming (.val (.int e)) .no) = some ([.list ((held.filter fun x => decide (x > e)).map .int)], gN held coming (.val (.int e)) .no) := by
    unfold aCons; rw [e4]; rfl
  unfold eCall
  rw [e5]
  have : pMin1 [.list ((held.filter fun x => decide (x > e)).map .int)] = some (.int (minI (held.filter fun x => decide (x > e)))) := by
    show (intsOf _).bind _ = _
    rw [intsOf_map]
    show (if _ = 0 then none else _) = _
    rw [if_neg (by simpa using h0)]
  show (pMin1 _).bind _ = _
  rw [this]; rfl
theorem na_N {s3 s4 : Slot} (h3 : s3.isOwn = false) (h4 : s4.isOwn = false) : NoOwn (gN held coming s3 s4) := fun i s h => by
  match i, h with
  | 0, h | 1, h | 2, h => cases h; rfl
  | 3, h => cases h; exact h3
  | 4, h => cases h; exact h4
theorem Sn.first {K : PySem.W.Frag} {F H : Hp} {dd : Addr} {v0 v1 : V} (ex : Ex F H) (pl : Pl F) (d0 : Dp K F v0 (.list (held.map .int))) (d1 : Dp K F v1 (T coming)) (hz : H dd = none) :
    Sn K F H dd 2 (gN held coming .no .no) F [some v0, some v1, some (.ref dd), none, none] (upd H dd (.dK [])) [] := by
  refine ⟨⟨rfl, fun i s h => ?_, fun i j s t a hij h1 h2 _ _ _ _ => ?_, Ex.refl F, ex.trans (Ex.new hz), fun b o e _ _ => Ex.new hz b o e, fun b o e => .inl e, pl, fun b e => fresh_back (Ex.new hz) e⟩, hz, fresh_back ex hz, ⟨[], upd_same, .nil⟩, na_N rfl rfl, rfl⟩
  · match i, h with
    | 0, h => cases h; exact ⟨v0, rfl, d0⟩
    | 1, h => cases h; exact ⟨v1, rfl, d1⟩
    | 2, h | 3, h | 4, h => cases h; trivial
  · rw [na_N rfl rfl i s h1] at h2; cases h2
end
end Z
namespace Z
open PySem
def slOf : Stmt → Expr
  | .Assign (.Subscript _ i _ :: _) _ _ => i
  | _ => .Constant .none 0 ⟨0, 0, 0, 0⟩
end Z
set_option Elab.async false
set_option linter.all false
set_option maxRecDepth 100000
set_option maxHeartbeats 2000000
/-! Z: what plan_of makes is a plan that is right -/
namespace Z
open PySem PySem.Spec L2
open Mt (Pl3 Fnd lastOr startOf)
theorem getP_put (kvs : List (Key × PyData)) (k k' : Key) (d : PyData) : (getP (putP kvs k d) k').isSome = true ↔ k' = k ∨ (getP kvs k').isSome = true := by
  have key : ∀ l : List (Key × PyData), (getP l k').isSome = true ↔ ∃ p ∈ l, p.1 = k' := fun l => by
    unfold getP
    rw [Option.isSome_map]
    rw [List.find?_isSome]
    simp
  rw [key, key]
  unfold putP
  split
  · rename_i h
    rw [List.any_eq_true] at h
    obtain ⟨p, hp, hk⟩ := h
    have hk' : p.1 = k := by simpa using hk
    constructor
    · rintro ⟨q, hq, rfl⟩
      obtain ⟨r, hr, rfl⟩ := List.mem_map.mp hq
      by_cases e : r.1 = k
      · left; rw [if_pos e]; exact e
      · right; exact ⟨r, hr, by rw [if_neg e]⟩
    · rintro (rfl | ⟨q, hq, rfl⟩)
      · exact ⟨_, List.mem_map.mpr ⟨p, hp, rfl⟩, by rw [if_pos hk']; exact hk'⟩
      · refine ⟨_, List.mem_map.mpr ⟨q, hq, rfl⟩, ?_⟩
        by_cases e : q.1 = k
        · rw [if_pos e]
        · rw [if_neg e]
  · constructor
    · rintro ⟨q, hq, rfl⟩
      rcases List.mem_append.mp hq with hq | hq
      · exact .inr ⟨q, hq, rfl⟩
      · rw [List.mem_singleton] at hq; subst hq; exact .inl rfl
    · rintro (rfl | ⟨q, hq, rfl⟩)
      · exact ⟨(k', d), List.mem_append_right _ (List.mem_singleton.mpr rfl), rfl⟩
      · exact ⟨q, List.mem_append_left _ hq, rfl⟩
abbrev lo (hn : List Int) (e : Int) : List Int := hn.filter fun x => decide (x < e)
abbrev hi (hn : List Int) (e : Int) : List Int := hn.filter fun x => decide (x > e)
/-- all that is to come stands between two that are held -/
def Bet (hn es : List Int) : Prop := ∀ c ∈ es, lo hn c ≠ [] ∧ hi hn c ≠ []
theorem next_ok {grown : List Int} (hg : grown.length ≤ 50000) : ∀ {es : List Int} {kvs : List (Key × PyData)}, Bet grown es → kvs.length + 2 * es.length ≤ 50000 →
    ∃ k, nextTo grown es kvs = some k ∧ ∀ x : Int, (getP k (.inl x)).isSome = true ↔ (getP kvs (.inl x)).isSome = true ∨ ∃ c ∈ es, x = maxI (lo grown c) ∨ x = minI (hi grown c)
  | [], kvs, _, _ => ⟨kvs, rfl, by simp⟩
  | e :: es, kvs, hb, hl => by
    obtain ⟨h1, h2⟩ := hb e List.mem_cons_self
    have l1 := putP_len kvs (.inl (maxI (lo grown e))) (.bool true)
    have l2 := putP_len (putP kvs (.inl (maxI (lo grown e))) (.bool true)) (.inl (minI (hi grown e))) (.bool true)
    simp only [List.length_cons] at hl
    obtain ⟨k, g1, g2⟩ := next_ok hg (es := es) (kvs := putP (putP kvs (.inl (maxI (lo grown e))) (.bool true)) (.inl (minI (hi grown e))) (.bool true)) (fun c hc => hb c (List.mem_cons_of_mem _ hc)) (by omega)
    refine ⟨k, ?_, fun x => ?_⟩
    · show (nextStep grown kvs e).bind _ = _
      unfold nextStep
      rw [if_neg (by rintro (z | z | z | z); exact h1 z; exact h2 z; omega; omega)]
      exact g1
    · rw [g2, getP_put, getP_put]
      constructor
      · rintro ((z | z | z) | ⟨c, hc, z⟩)
        · exact .inr ⟨e, List.mem_cons_self, .inr (by injection z)⟩
        · exact .inr ⟨e, List.mem_cons_self, .inl (by injection z)⟩
        · exact .inl z
        · exact .inr ⟨c, List.mem_cons_of_mem _ hc, z⟩
      · rintro (z | ⟨c, hc, z⟩)
        · exact .inl (.inr (.inr z))
        · rcases List.mem_cons.mp hc with rfl | hc
          · rcases z with rfl | rfl
            · exact .inl (.inr (.inl rfl))
            · exact .inl (.inl rfl)
          · exact .inr ⟨c, hc, z⟩
/-- the places, within what is held, of those that are next to one to come -/
def keptOf (grown : List Int) (kvs : List (Key × PyData)) : List Int := ((List.range grown.length).filter fun i => (getP kvs (.inl (grown.getD i 0))).isSome).map fun (i : Nat) => (i : Int)
def nextHeld (grown : List Int) (kvs : List (Key × PyData)) : List Int := grown.filter fun x => (getP kvs (.inl x)).isSome
theorem range_map (l : List Int) : (List.range l.length).map (fun i => l.getD i 0) = l := by
  apply List.ext_getElem
  · simp
  · intro i h1 h2
    simp at h1
    simp [List.getD_eq_getElem?_getD, h1]
theorem kept_held (grown : List Int) (kvs : List (Key × PyData)) : (keptOf grown kvs).map (fun k => (Mt.ixI grown k).getD 0) = nextHeld grown kvs := by
  unfold keptOf nextHeld
  rw [List.map_map]
  conv => rhs; rw [← range_map grown, List.filter_map]
  refine List.map_congr_left fun i hi => ?_
  have := List.mem_range.mp ((List.mem_filter.mp hi).1)
  simp [Mt.ixI, List.getD_eq_getElem?_getD]
theorem kept_rest (grown : List Int) (kvs : List (Key × PyData)) : Mt.restOf (keptOf grown kvs) grown = some (nextHeld grown kvs) := by
  have gen : ∀ ks : List Int, (∀ k ∈ ks, ∃ x, Mt.ixI grown k = some x) → Mt.restOf ks grown = some (ks.map fun k => (Mt.ixI grown k).getD 0) := by
    intro ks
    induction ks with
    | nil => intro _; rfl
    | cons k ks ih =>
      intro h
      obtain ⟨x, hx⟩ := h k List.mem_cons_self
      rw [Mt.restOf, hx, ih fun q hq => h q (List.mem_cons_of_mem _ hq)]
      simp [hx]
  rw [gen _ fun k hk => ?_, kept_held]
  unfold keptOf at hk
  obtain ⟨i, hi, rfl⟩ := List.mem_map.mp hk
  have := List.mem_range.mp ((List.mem_filter.mp hi).1)
  exact Mt.ixI_ok (by omega) (by omega)
def planFrom (hn : List Int) : List Int → List Pl3
  | [] => []
  | e :: es => match nextTo (hn ++ [e]) es [] with
    | some kvs => ((hn.idxOf (maxI (lo hn e)) : Nat), (hn.idxOf (minI (hi hn e)) : Nat), keptOf (hn ++ [e]) kvs) :: planFrom (nextHeld (hn ++ [e]) kvs) es
    | none => []
theorem lo_spec {hn : List Int} {c : Int} (h : lo hn c ≠ []) : maxI (lo hn c) ∈ hn ∧ maxI (lo hn c) < c ∧ ∀ x ∈ hn, x < c → x ≤ maxI (lo hn c) := by
  obtain ⟨h1, h2⟩ := maxI_spec h
  have := List.mem_filter.mp h1
  exact ⟨this.1, by simpa using this.2, fun x hx hc => h2 x (List.mem_filter.mpr ⟨hx, by simpa using hc⟩)⟩
theorem hi_spec {hn : List Int} {c : Int} (h : hi hn c ≠ []) : minI (hi hn c) ∈ hn ∧ c < minI (hi hn c) ∧ ∀ x ∈ hn, c < x → minI (hi hn c) ≤ x := by
  obtain ⟨h1, h2⟩ := minI_spec h
  have := List.mem_filter.mp h1
  exact ⟨this.1, by simpa using this.2, fun x hx hc => h2 x (List.mem_filter.mpr ⟨hx, by simpa using hc⟩)⟩
theorem ix_idx {hn : List Int} {x : Int} (h : x ∈ hn) : Mt.ixI hn ((hn.idxOf x : Nat) : Int) = some x := by
  have hl := List.idxOf_lt_length_of_mem h
  unfold Mt.ixI
  rw [if_pos (by omega)]
  simp [hl, List.getElem_idxOf hl]
theorem bet_app {hn es : List Int} {e : Int} (h : Bet hn es) : Bet (hn ++ [e]) es := fun c hc => by
  obtain ⟨h1, h2⟩ := h c hc
  refine ⟨fun z => h1 ?_, fun z => h2 ?_⟩
  · unfold lo at z ⊢; rw [List.filter_append, List.append_eq_nil_iff] at z; exact z.1
  · unfold hi at z ⊢; rw [List.filter_append, List.append_eq_nil_iff] at z; exact z.1
theorem bet_next {grown es : List Int} {kvs : List (Key × PyData)} (h : Bet grown es) (hk : ∀ x : Int, (getP kvs (.inl x)).isSome = true ↔ (getP [] (.inl x)).isSome = true ∨ ∃ c ∈ es, x = maxI (lo grown c) ∨ x = minI (hi grown c)) : Bet (nextHeld grown kvs) es := fun c hc => by
  obtain ⟨h1, h2⟩ := h c hc
  obtain ⟨a1, a2, a3⟩ := lo_spec h1
  obtain ⟨b1, b2, b3⟩ := hi_spec h2
  have m1 : maxI (lo grown c) ∈ nextHeld grown kvs := List.mem_filter.mpr ⟨a1, (hk _).mpr (.inr ⟨c, hc, .inl rfl⟩)⟩
  have m2 : minI (hi grown c) ∈ nextHeld grown kvs := List.mem_filter.mpr ⟨b1, (hk _).mpr (.inr ⟨c, hc, .inr rfl⟩)⟩
  refine ⟨fun z => ?_, fun z => ?_⟩
  · have : maxI (lo grown c) ∈ lo (nextHeld grown kvs) c := List.mem_filter.mpr ⟨m1, by simpa using a2⟩
    rw [z] at this; cases this
  · have : minI (hi grown c) ∈ hi (nextHeld grown kvs) c := List.mem_filter.mpr ⟨m2, by simpa using b2⟩
    rw [z] at this; cases this
theorem plan_ok : ∀ {es hn : List Int}, Bet hn es → hn.length + es.length ≤ 1000 → Mt.PlanOk hn es (planFrom hn es) ∧ Mt.Valid (planFrom hn es) hn.length
  | [], hn, _, _ => ⟨trivial, trivial⟩
  | e :: es, hn, hb, hl => by
    simp only [List.length_cons] at hl
    have hb' : Bet hn es := fun c hc => hb c (List.mem_cons_of_mem _ hc)
    have hg := bet_app (e := e) hb'
    have hgl : (hn ++ [e]).length ≤ 50000 := by simp; omega
    obtain ⟨kvs, k1, k2⟩ := next_ok hgl (kvs := []) hg (by simp; omega)
    obtain ⟨h1, h2⟩ := hb e List.mem_cons_self
    obtain ⟨a1, a2, a3⟩ := lo_spec h1
    obtain ⟨b1, b2, b3⟩ := hi_spec h2
    have hnl : (nextHeld (hn ++ [e]) kvs).length ≤ hn.length + 1 := by
      have := List.length_filter_le (fun x => (getP kvs (.inl x)).isSome) (hn ++ [e])
      unfold nextHeld
      simp at this ⊢; omega
    obtain ⟨ih1, ih2⟩ := plan_ok (bet_next hg k2) (by omega)
    have ekl : (keptOf (hn ++ [e]) kvs).length = (nextHeld (hn ++ [e]) kvs).length := by rw [← kept_held, List.length_map]
    rw [planFrom, k1]
    refine ⟨⟨maxI (lo hn e), minI (hi hn e), nextHeld (hn ++ [e]) kvs, ix_idx a1, ix_idx b1, a2, b2, kept_rest _ _, fun x hx z => by have := a3 x hx z.2; omega, fun x hx z => by have := b3 x hx z.1; omega, fun c hc x hx => ?_, ih1⟩, ⟨Int.natCast_nonneg _, ?_⟩, ⟨Int.natCast_nonneg _, ?_⟩, fun k hk => ?_, ?_, ?_⟩
    · obtain ⟨g1, g2⟩ := hg c hc
      obtain ⟨c1, c2, c3⟩ := lo_spec g1
      obtain ⟨d1, d2, d3⟩ := hi_spec g2
      exact ⟨fun hxc => ⟨_, List.mem_filter.mpr ⟨c1, (k2 _).mpr (.inr ⟨c, hc, .inl rfl⟩)⟩, c3 x hx hxc, c2⟩, fun hxc => ⟨_, List.mem_filter.mpr ⟨d1, (k2 _).mpr (.inr ⟨c, hc, .inr rfl⟩)⟩, d2, d3 x hx hxc⟩⟩
    · have := List.idxOf_lt_length_of_mem a1
      show ((hn.idxOf (maxI (lo hn e)) : Nat) : Int) < hn.length
      omega
    · have := List.idxOf_lt_length_of_mem b1
      show ((hn.idxOf (minI (hi hn e)) : Nat) : Int) < hn.length
      omega
    · unfold keptOf at hk
      obtain ⟨i, hi', rfl⟩ := List.mem_map.mp hk
      have := List.mem_range.mp ((List.mem_filter.mp hi').1)
      simp at this
      omega
    · show (keptOf (hn ++ [e]) kvs).length ≤ 10000
      omega
    · show Mt.Valid (planFrom (nextHeld (hn ++ [e]) kvs) es) (keptOf (hn ++ [e]) kvs).length
      rw [ekl]; exact ih2
end Z
set_option Elab.async false
set_option linter.all false
set_option maxRecDepth 100000
set_option maxHeartbeats 2000000
/-! Z: x[k] += e, isinstance of three types, max of a tuple, all([..]) -/
namespace Z
open PySem PySem.Spec L2 Evl PyProof.Rows
theorem min_intTup {prog : Program} {w : World} {A : Around} {E : Value → Shared → Prop} {s : Shared} {l : Addr} {xs : Array (Int × Tok)} {Q : Value → Shared → Prop} (hh : A.handled = none) (hl : s.heap.IsTuple l (intItems xs)) (hne : 0 < xs.size)
    (h : ∀ v h' tk, (intItems xs)[argBest (fun i j => decide (numAt xs i < numAt xs j)) (xs.size - 1)]? = some v → (∀ b o, s.heap.get? b = some o → h'.get? b = some o) → Q v { s with heap := h', toks := tk }) :
    wpAny (model prog w) A (call (.builtin "min") [.ref l]) Q E s := by
  have hlt : l < s.heap.objs.size := by obtain ⟨_, e, _⟩ := hl; exact Heap.lt_size e
  refine call_min_walk (wpAny_pyIter_tuple hl ?_)
  refine ⟨_, _, _, _, _, _, _, rfl, Walks.tuple (A := A.in1) hh _ l (Nat.ne_of_lt hlt) (intItems xs), ⟨⟨_, Heap.get?_push_size _ rfl, rfl, rfl⟩, hl.push _⟩, fun b hb => ?_, by simpa [intItems] using hne, CmpOf.ints_lt (numAt xs) (fun _ _ => intItems_at), fun v h' tk hP hk => ?_⟩
  · show b < (s.heap.push _).objs.size
    rw [Heap.size_push]
    rcases List.mem_cons.mp hb with rfl | hb
    · exact Nat.lt_succ_self _
    · rcases List.mem_cons.mp hb with rfl | hb
      · exact Nat.lt_succ_of_lt hlt
      · cases hb
  · exact h v h' tk (by simpa [intItems] using hP) fun b o e => hk b o (fun hb => absurd (Heap.lt_size e) ((List.mem_singleton.mp hb) ▸ Nat.lt_irrefl _)) (Heap.get?_push_of_some _ e)

def rMinT (K : PySem.W.Frag) : List V → Hp → VK → Prop := fun vs H Q => ∃ (a : Addr) (ns : List Int), vs = [V.ref a] ∧ SqT K H a (ns.map V.int) ∧ 0 < ns.length ∧ ∀ m, m ∈ ns → (∀ y, y ∈ ns → m ≤ y) → Q (.int m) H
theorem min_rawT {prog : Program} {w : World} {A : Around} {E : Value → Shared → Prop} {s : Shared} {l : Addr} {its : List Value} {ns : List Int} {Q : Value → Shared → Prop} (hh : A.handled = none) (hl : s.heap.IsTuple l its.toArray) (hi : IntsAre its ns) (hne : 0 < ns.length)
    (h : ∀ h' tk M t', (∀ b o, s.heap.get? b = some o → h'.get? b = some o) → M ∈ ns → (∀ a, a ∈ ns → M ≤ a) → Q (.int M t') { s with heap := h', toks := tk }) : wpAny (model prog w) A (call (.builtin "min") [.ref l]) Q E s := by
  obtain ⟨xs, e⟩ := hi.allInts.items
  have hn : numsOf (intItems xs).toList = ns := by rw [← e]; exact hi.numsOf
  rw [nums_intItems] at hn
  subst hn
  rw [e] at hl
  have hsz : 0 < xs.size := by simpa using hne
  refine min_intTup hh hl hsz fun v h' tk hv hk => ?_
  obtain ⟨t, rfl⟩ := intItems_at hv
  obtain ⟨h1, h2⟩ := argBest_lt (numAt xs) (xs.size - 1)
  refine h h' tk _ t hk ?_ fun a ha => ?_
  · rw [numAt_eq]; exact PySem.getD_mem (by rw [List.length_map, Array.length_toList]; omega)
  · obtain ⟨j, hj, rfl⟩ := mem_getD ha
    rw [List.length_map, Array.length_toList] at hj
    rw [← numAt_eq]; exact h2 j (by omega)
theorem cr_minT {X : Cx} (hc : X.calm = true) : CallR X (.builtin "min") (rMinT X.K) := by
  intro pins s σ H vs us Q I r h
  obtain ⟨a, ns, rfl, hs, hne, q⟩ := h
  obtain ⟨its, rv, pt, hlen⟩ := I.tuple hs
  rw [Vals.ref1 r]
  exact min_rawT (I.ok.hd hc) pt rv.ints hne fun h' tk m t' hk h1 h2 => ⟨.int _, H, I.kept hk, ⟨_, rfl⟩, q m h1 h2⟩
def pMin1S : List PyData → Option PyData
  | [d] => (seqOf d).bind fun xs => (intsOf xs).bind fun ns => if ns.length = 0 then none else some (.int (minI ns))
  | _ => none
theorem b_min1S {X : Cx} (hc : X.calm = true) : CallE X (.builtin "min") pMin1S := by
  obtain ⟨r1, c1, q1⟩ := b_min1 hc
  refine ⟨_, CallR.or (cr_minT hc) c1, ?_⟩
  intro F H xs ds z ex pl hd h Q q
  match ds, h with
  | [d], h =>
    cases d with
    | tuple ys =>
      left
      obtain ⟨v, rfl, d1⟩ := dpa1 hd
      obtain ⟨ns, hn, h⟩ := bind_eq h
      split at h
      · cases h
      · rename_i hl
        cases h
        have ey := intsOf_eq hn
        subst ey
        obtain ⟨a, vs, rfl, h1, h2⟩ := dp_tup d1
        rw [dpa_ints_of h2] at h1
        have hne : ns ≠ [] := fun e => hl (by rw [e]; rfl)
        obtain ⟨g1, g2⟩ := minI_spec hne
        refine ⟨a, ns, rfl, ex_t ex h1, by omega, fun m hm hle => ?_⟩
        have : m = minI ns := by have := hle _ g1; have := g2 _ hm; omega
        subst this
        exact q _ F H (Grow.refl ex) (.int _)
    | list ys =>
      right
      exact q1 F H xs _ z ex pl hd h Q q
    | _ => cases h
@[simp] theorem z_min1S {d : PyData} : pMin1S [d] = (seqOf d).bind fun xs => (intsOf xs).bind fun ns => if ns.length = 0 then none else some (.int (minI ns)) := rfl
end Z
set_option Elab.async false
set_option linter.all false
set_option maxRecDepth 100000
set_option maxHeartbeats 2000000
namespace Z
open PySem PySem.Spec L2 Evl PyProof.Rows
/-- f(g(..), ..), the new list that g hands back is f's to change -/
def eCallF (n0 : NX) (p : List PyData → List PyData → Option (PyData × List PyData)) (a : AX) : EX := fun Γ => (n0 Γ).bind fun x => (a x.2).bind fun y => match x.1 with
  | .own cs => (p cs y.1).bind fun z => some (z.1, y.2)
  | _ => none
@[simp] theorem z_callf {n0 : NX} {p : List PyData → List PyData → Option (PyData × List PyData)} {a : AX} {Γ : Env} : eCallF n0 p a Γ = (n0 Γ).bind fun x => (a x.2).bind fun y => match x.1 with
  | .own cs => (p cs y.1).bind fun z => some (z.1, y.2)
  | _ => none := rfl
theorem Rel.other {K : PySem.W.Frag} {B : Bs} {Γ : Env} {F F' H H' : Hp} {σ : L2.St} (R1 : Rel K B Γ F σ H) {a : Addr} {ws : List V} (hid : Hid Γ F σ H a (.lst ws)) (hb : B.H0 a = none ∨ B.Z a)
    (k1 : ∀ b o, b ≠ a → H b = some o → H' b = some o) (k2 : Ex F F') (k3 : Ex F' H') (k4 : Pl F') (k6 : ∀ b o, F' b = some o → F b = some o ∨ H b = none) (k7 : ∀ b, H' b = none → H b = none) : Rel K B Γ F' σ H' := by
  have noF : ∀ (b : Addr) {u : HO}, F b = none → H b = some u → F' b = none := fun b u g1 g2 => by
    cases q : F' b with
    | none => rfl
    | some o =>
      rcases k6 b o q with z | z
      · rw [g1] at z; cases z
      · rw [g2] at z; cases z
  refine ⟨R1.len, fun j s h' => ?_, R1.dist, R1.ext0.trans k2, k3, fun b o e hm hz => ?_, fun b o e => ?_, k4, fun b e => R1.fresh b (k7 b e)⟩
  · have q := R1.slot j s h'
    cases s with
    | no => trivial
    | val d => obtain ⟨v, e, dd⟩ := q; exact ⟨v, e, dp_mono k2 dd⟩
    | dic kvs => obtain ⟨a, ws, e, h1, h2⟩ := q; exact ⟨a, ws, e, k2 _ _ h1, kva_mono k2 h2⟩
    | fd kvs => obtain ⟨a, ws, e, h1, h2⟩ := q; exact ⟨a, ws, e, k2 _ _ h1, od_mono k2 h2⟩
    | own ds' =>
      obtain ⟨b, ws', e, g1, g2, g3, g4⟩ := q
      have nb : b ≠ a := fun z => hid.noO ⟨j, _, h', rfl, z ▸ e⟩
      exact ⟨b, ws', e, noF b g1 g3, g2, k1 b _ nb g3, dpa_mono k2 g4⟩
    | od kvs =>
      obtain ⟨b, ws', e, g1, g2, g3, g4⟩ := q
      have nb : b ≠ a := fun z => hid.noO ⟨j, _, h', rfl, z ▸ e⟩
      exact ⟨b, ws', e, noF b g1 g3, g2, k1 b _ nb g3, od_mono k2 g4⟩
    | par ds' =>
      obtain ⟨b, ws', e, g1, g2, g3, g4⟩ := q
      have nb : b ≠ a := fun z => hid.noO ⟨j, _, h', rfl, z ▸ e⟩
      exact ⟨b, ws', e, noF b g1 g3, g2, k1 b _ nb g3, dpa_mono k2 g4⟩
  · by_cases hb' : b = a
    · subst hb'
      rcases hb with z | z
      · rw [z] at e; cases e
      · exact absurd z hz
    · exact k1 b o hb' (R1.frame b o e hm hz)
  · rcases k6 b o e with z | z
    · exact R1.newF b o z
    · exact .inr (.inl (R1.fresh b z))
theorem ep_oF {X : Cx} {pos pp : Pos} {x : Str} {st : Stmt} {ps : List Str} {lv n n' : Nat} {e0 : Expr} {es : List Expr} {n0 : NX} {p : List PyData → List PyData → Option (PyData × List PyData)} {k : AX} (G : Ok X.prog X.w X.K X.mg X.base lv x st ps (spM X.K n p)) (hr : Room lv X.A) (h0 : NP X e0 n0) (ha : AP X es k) (hn : Len k n') (hn' : n' + 1 = n) (hg : Gl X x := by rfl) (hdb : (x == ("__debug__" : Str)) = false := by decide)
    (he : starEach (e0 :: es) X.env = (false, eval e0 X.env) :: starEach es X.env := by rfl) (hpl : (backTo pos (starEach es X.env)).any (·.1) = false := by rfl) : EP X (.Call (.Name x pp) (e0 :: es) [] pos) (eCallF n0 p k) := by
  obtain ⟨f, fd, F, g, bi, G⟩ := G
  obtain ⟨ta, a1, a2⟩ := ha
  obtain ⟨te, b1, b2⟩ := h0
  refine ⟨_, pe_call (E := E0) G hr hg g F.kp bi .nil pass0 (pa_cons b1 a1 he) hdb he hpl, ?_⟩
  intro B Γ F σ H zz Γ' R h Q q
  obtain ⟨⟨s, Γ1⟩, h1, h⟩ := bind_eq h
  obtain ⟨⟨xs, Γ2⟩, h2, h⟩ := bind_eq h
  cases s with
  | own cs =>
    obtain ⟨⟨z, cs'⟩, h3, h⟩ := bind_eq h
    cases h
    refine b2 B Γ F σ H (.own cs) Γ1 R h1 _ fun v F1 H1 x1 R1 hd => ?_
    obtain ⟨a, ws, rfl, hid, hb, dp⟩ := hd
    refine a2 (rebase Γ1 F1 σ H1) Γ1 F1 σ H1 xs Γ2 R1.rebased h2 _ fun vs F2 H2 x2 R2 d2 => ?_
    have hd2 := Held.stays (r := .own cs) R1 ⟨a, ws, rfl, hid, hb, dp⟩ R2
    have R3 := R1.back R2
    obtain ⟨a', ws', e, hid2, hb2, dp2⟩ := hd2
    cases e
    show spM X.K n p (V.ref a :: vs ++ []) H2 Q E0
    rw [List.append_nil]
    exact ⟨by rw [List.length_cons, dpa_len d2, hn _ _ h2]; exact hn', F2, a, ws', cs, vs, xs, z, cs', rfl, R3.ext, R3.pl, hid2.noF, hid2.here, dp2, d2, h3, fun v F4 H4 ws2 k1 k2 k3 k4 k5 k6 k7 k8 k9 k10 =>
      q v F4 H4 ((x1.trans x2).trans k2) (R3.other hid2 hb2 k1 k2 k3 k4 k6 k7) k10⟩
  | no => cases h
  | val d => cases h
  | dic d => cases h
  | fd d => cases h
  | par d => cases h
  | od d => cases h
end Z
set_option Elab.async false
set_option linter.all false
set_option maxRecDepth 100000
set_option maxHeartbeats 2000000
/-! Z: sorted of a list of data, any length -/
namespace Z
open PySem PySem.Spec L2 Evl PyProof.Rows
open PySem.W (EachIs AllAlike Sortable dataLe sorted_data alike alikeAll)
/-- sorted(xs), xs a list of data that are alike -/
def rSortedD (X : Cx) : List V → Hp → VK → Prop := fun vs H Q => ∃ (a : Addr) (xs : List V) (ds : List PyData), vs = [V.ref a] ∧ SqL X.K H a xs ∧ DpAll X.K H xs ds ∧ AllAlike ds ∧ Sortable ds ∧ (∀ d ∈ ds, X.A.units + 2 + d.depth < cLine) ∧
  ∀ (zs : List (V × PyData)) (p : Addr), zs.map (·.2) = ds.mergeSort (dataLe false id) → (∀ z ∈ zs, z ∈ xs.zip ds) → H p = none → Q (.ref p) (upd H p (.lst (zs.map (·.1))))
theorem each_zip : ∀ {xs : List V} {us : List Value} {ds : List PyData}, Vals xs us → xs.length = ds.length → EachIs (fun u (b : V × PyData) => RelV b.1 u) us (xs.zip ds)
  | _, _, [], .nil, _ => .nil
  | _, _, d :: ds, .cons r t, h => .cons r (each_zip t (by simpa using h))
theorem vals_each : ∀ {us : List Value} {zs : List (V × PyData)}, EachIs (fun u (b : V × PyData) => RelV b.1 u) us zs → Vals (zs.map (·.1)) us
  | _, _, .nil => .nil
  | _, _, .cons r t => .cons r (vals_each t)
theorem dpa_zip {K : PySem.W.Frag} {F : Hp} : ∀ {xs : List V} {ds : List PyData}, DpAll K F xs ds → ∀ z ∈ xs.zip ds, Dp K F z.1 z.2
  | _, _, .nil, z, h => by simp at h
  | _, _, .cons h1 h2, z, h => by
    rcases List.mem_cons.mp (by simpa using h : z ∈ _ :: _) with e | e
    · rw [e]; exact h1
    · exact dpa_zip h2 z e
theorem dpa_pairs {K : PySem.W.Frag} {F : Hp} : ∀ {zs : List (V × PyData)}, (∀ z ∈ zs, Dp K F z.1 z.2) → DpAll K F (zs.map (·.1)) (zs.map (·.2))
  | [], _ => .nil
  | z :: zs, h => .cons (h z List.mem_cons_self) (dpa_pairs fun y hy => h y (List.mem_cons_of_mem _ hy))
section
variable {X : Cx}
theorem cr_sortedD : CallR X (.builtin "sorted") (rSortedD X) := by
  intro pins s σ H vs us Q I r h
  obtain ⟨a, xs, ds, rfl, hs, hd, hal, hk, hu, q⟩ := h
  obtain ⟨its, rv, hl, hz⟩ := I.list hs
  rw [Vals.ref1 r]
  have hlen := dpa_len hd
  have es : (xs.zip ds).map (·.2) = ds := by
    rw [List.map_snd_zip]; omega
  have ef : (xs.zip ds).map (·.1) = xs := by
    rw [List.map_fst_zip]; omega
  refine sorted_data (β := V × PyData) (R := fun u b => RelV b.1 u) (enc := Prod.snd) (bs := xs.zip ds) hl.isList (each_zip rv hlen) ?_ (by rw [es]; exact hal) (by rw [es]; exact hk) (by rw [List.length_zip, ← hlen, Nat.min_self]; exact hz) (fun b hb => hu _ (by rw [← es]; exact List.mem_map.mpr ⟨b, hb, rfl⟩)) fun out ho eo => ?_
  · obtain ⟨as, ra⟩ := Dp.readsAll I ds xs its hd rv
    exact PySem.W.readsAll_each (enc := Prod.snd) (by rw [es]; exact ra)
  · obtain ⟨ep, he'⟩ := PyProof.Rows.sortedAll_at s.heap its out.toArray
    have k1 := vals_each eo
    have pm := List.mergeSort_perm (xs.zip ds) (dataLe false Prod.snd)
    have hlen' : (((xs.zip ds).mergeSort (dataLe false Prod.snd)).map (·.1)).length ≤ sizeLine := by
      rw [List.length_map, pm.length_eq, List.length_zip, ← hlen, Nat.min_self]
      exact hz
    refine ⟨.ref _, upd H (s.heap.objs.size + 1) (.lst (((xs.zip ds).mergeSort (dataLe false Prod.snd)).map (·.1))), I.laid (t' := s.toks) (fun _ _ => PyProof.Rows.sortedAll_old) (Nat.le_succ _) ⟨hlen', out, ep, k1, he'⟩, rfl, q _ _ ?_ (fun z hz => pm.mem_iff.mp hz) (I.hok.fresh (Nat.le_succ _))⟩
    have hm := PySem.W.sort_maps (r := dataLe false Prod.snd) (s := dataLe false id) (Prod.snd : V × PyData → PyData) (l := xs.zip ds) (fun a _ b _ => rfl)
    rw [es] at hm
    exact hm
def isTup1 : PyData → Bool
  | .tuple (_ :: _) => true
  | _ => false
def isNoTup : PyData → Bool
  | .tuple _ => false
  | .none => false
  | _ => true
def okSort (ds : List PyData) : Bool := (ds.all fun d => ds.all fun e => alike d e) && (ds.all isTup1 || ds.all isNoTup) && ds.all fun d => decide (d.depth ≤ 8)
def pSortD : List PyData → Option PyData
  | [.list ds] => if okSort ds then some (.list (ds.mergeSort (dataLe false id))) else none
  | _ => none
theorem okSort_iff {ds : List PyData} (h : okSort ds = true) : AllAlike ds ∧ Sortable ds ∧ ∀ d ∈ ds, d.depth ≤ 8 := by
  unfold okSort at h
  rw [Bool.and_eq_true, Bool.and_eq_true] at h
  obtain ⟨⟨h1, h2⟩, h3⟩ := h
  refine ⟨fun d hd e he => List.all_eq_true.mp (List.all_eq_true.mp h1 d hd) e he, ?_, fun d hd => of_decide_eq_true (List.all_eq_true.mp h3 d hd)⟩
  rcases Bool.or_eq_true_iff.mp h2 with h | h
  · left
    intro d hd
    have := List.all_eq_true.mp h d hd
    unfold isTup1 at this
    split at this
    · exact ⟨_, _, rfl⟩
    · cases this
  · right
    intro d hd
    have := List.all_eq_true.mp h d hd
    refine ⟨fun e => ?_, fun xs e => ?_⟩
    · subst e; cases this
    · subst e; cases this
theorem b_sortD (hu : X.A.units + 64 < cLine) : CallE X (.builtin "sorted") pSortD := by
  refine ⟨_, cr_sortedD, ?_⟩
  intro F H xs ds z ex pl hd h Q q
  unfold pSortD at h
  split at h
  · rename_i es
    split at h
    · rename_i hok
      cases h
      obtain ⟨hal, hk, hdep⟩ := okSort_iff hok
      obtain ⟨v, rfl, d1⟩ := dpa1 hd
      obtain ⟨a, vs, rfl, h1, h2⟩ := dp_list d1
      refine ⟨a, vs, es, rfl, ex_l ex h1, dpa_mono ex h2, hal, hk, fun d hd => by have := hdep d hd; omega, fun zs p e1 e2 hp => ?_⟩
      have gr := Grow.laid (o := .lst (zs.map (·.1))) ex hp
      have hz := dpa_pairs fun z hz => dpa_zip h2 z (e2 z hz)
      rw [e1] at hz
      exact q _ _ _ gr (.lst (sq_of upd_same) (dpa_mono gr.ext hz))
    · cases h
  · cases h
theorem CallE.or {f : Value} {p p' : List PyData → Option PyData} (h : CallE X f p) (h' : CallE X f p') : CallE X f (fun ds => (p ds).orElse fun _ => p' ds) := by
  obtain ⟨r, h1, h2⟩ := h
  obtain ⟨r', h1', h2'⟩ := h'
  refine ⟨fun vs H Q => r vs H Q ∨ r' vs H Q, fun pins s σ H vs us Q I rv h => ?_, fun F H xs ds z ex pl hd e Q q => ?_⟩
  · rcases h with h | h
    · exact h1 _ _ _ _ _ _ _ I rv h
    · exact h1' _ _ _ _ _ _ _ I rv h
  · cases e1 : p ds with
    | some y =>
      simp only [e1] at e
      cases e
      exact .inl (h2 F H xs ds _ ex pl hd e1 Q q)
    | none =>
      simp only [e1] at e
      exact .inr (h2' F H xs ds _ ex pl hd e Q q)
def pSort2 : List PyData → Option PyData := fun ds => (pSorted ds).orElse fun _ => pSortD ds
theorem b_sort2 (hu : X.A.units + 64 < cLine) : CallE X (.builtin "sorted") pSort2 := CallE.or b_sorted (b_sortD hu)
theorem z_sort2T {ns : List Int} : pSort2 [.tuple (ns.map .int)] = some (.list ((srt ns).map .int)) := by simp [pSort2, z_sortT]
theorem z_sort2L {ns : List Int} : pSort2 [.list (ns.map .int)] = some (.list ((srt ns).map .int)) := by simp [pSort2, z_sortL]
end
end Z
set_option Elab.async false
set_option linter.all false
set_option maxRecDepth 100000
set_option maxHeartbeats 2000000
/-! Z: {k: v for x in it}, keys that are tuples of ints -/
namespace Z
open PySem PySem.Spec L2 Evl PyProof.Rows
section
variable {X : Cx} {pins : List (Addr × Obj)} {σ : L2.St} {H F : Hp} {s : Shared}
theorem od_dictSet {A : Around} {E : Value → Shared → Prop} {Q : Unit → Shared → Prop} (hu : A.units + 64 < cLine) (I : Inv X pins σ H s) (ex : Ex F H) {a b : Addr} {ws : List (NestedKey × Addr × V)} {kvs : List (NestedKey × PyData)} {kd d : PyData} {k : NestedKey} {v : V} {u : Value}
    (h : H a = some (odHO a ws)) (ho : OdAll X.K F ws kvs) (hk : Dp X.K F (.ref b) kd) (ek : keyT kd = some k) (hv : Dp X.K F v d) (rv : RelV v u) (hl : kvs.length < 100000)
    (q : ∀ s', Inv X pins σ (upd H a (odHO a (putW ws k b v))) s' → Q () s') : wpAny (model X.prog X.w) A (dictSet a (.ref b) u) Q E s := by
  obtain ⟨hd, xs, pw, dd, hx⟩ := od_dict I ex h ho
  obtain ⟨g1, g2, g3, ys, rfl⟩ := keyT_no ek
  have hkey : (nestedKind X.prog X.w).is s.heap k b := ⟨key_is I ex g3 hk rfl, g2⟩
  have hroom : (nestedKind X.prog X.w).room A := by
    show A.units + 8 < cLine
    omega
  refine wpAny_dictSet_heap (hsz := hx) hroom hkey dd fun h' dd' hs => q _ ?_
  have pw' := pw_put pw k b rv
  have od' := od_put ho hk ek hv
  obtain ⟨o, es, ep, e1, e2, e3, e4, e5, e6⟩ := dd'
  refine d_write I (by rw [h]; exact True.intro) hs ⟨o, e1⟩ ?_
  have hlen : (putW ws k b v).length ≤ sizeLine := by
    rw [od_len od']
    have := putN_len kvs k d
    rw [sizeLine_eq]; omega
  refine ⟨⟨hd, hlen, by rw [pw_keys pw']; exact e6, _, pw', o, es, ep, e1, e2, e3, fun w => ?_⟩, ⟨o, e1⟩, fun h1 h2 φ hh => ?_⟩
  · rw [e4]
    refine List.map_congr_left fun x hx => ?_
    have : noTx x.1 = true := by
      have hm : x.1 ∈ (storedH xs k b u).map (·.1) := List.mem_map.mpr ⟨x, hx, rfl⟩
      rw [← pw_keys pw'] at hm
      obtain ⟨p, hp, e⟩ := List.mem_map.mp hm
      rw [← e]; exact od_noTx od' p hp
    show (⟨x.1.hash X.w, _, _⟩ : DictEntry) = _
    rw [hash_any X.w w x.1 this]
  · obtain ⟨z1, z2, z3, xs', z4, o', es', ep', z5, z6⟩ := φ
    exact ⟨z1, z2, z3, xs', z4, o', es', ep', hh _ z5, z6⟩
theorem od_new (h : Heap) (hb : sysModules < h.objs.size) {P : Program} {w : World} {H : Hp} : ObjOk P w H (h.push { cls := .type "dict", data := .dict #[] }) h.objs.size (odHO h.objs.size []) :=
  ⟨⟨beq_eq_false_iff_ne.mpr (Ne.symm (Nat.ne_of_lt hb)), Nat.zero_le _, List.nodup_nil, [], .nil, _, #[], 0, Heap.get?_push_size _ rfl, ⟨rfl, rfl, rfl⟩, rfl, fun _ => rfl⟩, ⟨_, Heap.get?_push_size _ rfl⟩, fun h1 h2 φ hh => by
      obtain ⟨z1, z2, z3, xs', z4, o', es', ep', z5, z6⟩ := φ
      exact ⟨z1, z2, z3, xs', z4, o', es', ep', hh _ z5, z6⟩⟩
end
/-- what a turn's end asks -/
def OdPut (K : PySem.W.Frag) (D : Addr) (y z : V) (H : Hp) (Nx : Hp → Prop) : Prop := ∃ (F : Hp) (b : Addr) (ws : List (NestedKey × Addr × V)) (kvs : List (NestedKey × PyData)) (kd d : PyData) (k : NestedKey),
  y = .ref b ∧ Ex F H ∧ H D = some (odHO D ws) ∧ OdAll K F ws kvs ∧ Dp K F (.ref b) kd ∧ keyT kd = some k ∧ Dp K F z d ∧ kvs.length < 100000 ∧ Nx (upd H D (odHO D (putW ws k b z)))
def tDcO (K : PySem.W.Frag) (wi : TI) (g : TG) (tk tv : TE) (vs : List Nat) : TE := fun σ H Q => wi σ H fun J H1 => ∀ D, H1 D = none → ∃ W : Nat → Nat → Hp → Prop, (∃ m, W 0 m (upd H1 D (odHO D []))) ∧ ∀ i m H, W i m H →
  (J.stop i H ∧ Q (.ref D) H) ∨ (J.go i H ∧ ∃ Nx : Hp → Prop, (∀ H', Nx H' → ∃ m', m' < m ∧ W (i + 1) m' H') ∧ ∀ x H', J.yld i H x H' → g x (wipe σ vs) H' fun σ2 H2 => wipe σ2 vs = wipe σ vs ∧ tk σ2 H2 fun y H4 => tv σ2 H4 fun z H5 => OdPut K D y z H5 Nx)
theorem pe_dcO {X : Cx} {kx vx tg iter : Expr} {scope : Scope} {own : List (Str × Nat)} {pos : Pos} {wi : TI} {g : TG} {tk tv : TE} (hu : X.A.units + 64 < cLine) (hc : X.calm = true) (hN : X.N.Nodup) (hi : PI X tg iter wi) (ok : BlkOk X.N X.env.scope scope own)
    (hg : ∀ (s : Shared) (H : Hp) (C : Addr) (cl : List (Str × Addr)) (fp : List Addr), PG (X.blk s H scope (compEnvC scope cl C X.env) fp) tg g)
    (hk : ∀ (s : Shared) (H : Hp) (C : Addr) (cl : List (Str × Addr)) (fp : List Addr), PE (X.blk s H scope (compEnvC scope cl C X.env) fp) kx tk)
    (hv : ∀ (s : Shared) (H : Hp) (C : Addr) (cl : List (Str × Addr)) (fp : List Addr), PE (X.blk s H scope (compEnvC scope cl C X.env) fp) vx tv)
    (hs : ∀ x, foldedSetIterable iter X.env x = pure x := by intro _; rfl) : PE X (.DictComp kx vx [⟨tg, iter, [], 0⟩] scope pos) (tDcO X.K wi g tk tv (own.map (·.2))) := by
  refine ⟨fun pins s σ H Q I h => ?_⟩
  rw [arm_eval_DictComp]
  have free : ∀ y ∈ scope.names, y.2 = .free → ∃ c, X.env.cells.lookup y.1 = some c := fun y hy e => I.ok.has _ (ok.free y hy e)
  refine wpAny_comprehension_free rfl hs (closure_ok free) ok.kind (fun y hy e => by rw [ok.uniq y hy, e]) (thn (hi.run pins s σ H _ I h) fun xv s1 p1 => thn p1 fun itv s2 p2 => ?_)
  obtain ⟨it, fp, tn, J, H2, rfl, I2, T, st2, f2, q⟩ := p2
  refine wpAny_newObj_type (newEnv_comp ?_)
  obtain ⟨D, hD⟩ : ∃ D, D = s2.heap.objs.size := ⟨_, rfl⟩
  rw [← hD]
  have hDn : H2 D = none := I2.hok.fresh (Nat.le_of_eq hD.symm)
  obtain ⟨W, ⟨m0, w0⟩, turn⟩ := q D hDn
  obtain ⟨s3, hs3⟩ : ∃ s3 : Shared, s3 = { s2 with heap := s2.heap.push { cls := .type "dict", data := .dict #[] } } := ⟨_, rfl⟩
  obtain ⟨H3, hH3⟩ : ∃ H3 : Hp, H3 = upd H2 D (odHO D []) := ⟨_, rfl⟩
  have I3 : Inv X pins σ H3 s3 := by
    rw [hs3, hH3, hD]
    exact I2.laid (t' := s2.toks) (fun _ _ e => Heap.get?_push_of_some _ e) (Nat.le_refl _) (od_new s2.heap I2.big)
  have hp3 : s3.heap = s2.heap.push { cls := .type "dict", data := .dict #[] } := by rw [hs3]
  have f3 : ∀ b ∈ fp, FpOk X pins H3 b ∧ b < s3.heap.objs.size := fun b hb => by
    have lt : b < s2.heap.objs.size := (T.obj _ _ st2 b hb).elim fun _ e => Heap.lt_size e.1
    refine ⟨⟨?_, (f2 b hb).2⟩, by rw [hp3, Heap.size_push]; exact Nat.lt_succ_of_lt lt⟩
    rw [hH3, upd_ne (by rw [hD]; exact Nat.ne_of_lt lt)]; exact (f2 b hb).1
  have st3 : tn 0 s3.heap := T.keep _ _ _ st2 fun _ _ _ e => by rw [hp3]; exact Heap.get?_push_of_some _ e
  have I4 := block_start I3 ok hN f3
  obtain ⟨ce, hce⟩ : ∃ ce, ce = compEnvC scope (cellsFrom (s3.heap.objs.size + 1) scope.names (cloFrom X.env.cells scope.names [])) s3.heap.objs.size X.env := ⟨_, rfl⟩
  have bg := hg s3 H3 s3.heap.objs.size (cellsFrom (s3.heap.objs.size + 1) scope.names (cloFrom X.env.cells scope.names [])) fp
  have bk := hk s3 H3 s3.heap.objs.size (cellsFrom (s3.heap.objs.size + 1) scope.names (cloFrom X.env.cells scope.names [])) fp
  have bv := hv s3 H3 s3.heap.objs.size (cellsFrom (s3.heap.objs.size + 1) scope.names (cloFrom X.env.cells scope.names [])) fp
  rw [← hce] at I4 bg bk bv
  have cL : ce.locals = s3.heap.objs.size := by rw [hce]; rfl
  obtain ⟨s4, hs4⟩ : ∃ s4 : Shared, s4 = { s3 with heap := pushCells (s3.heap.push { cls := .type "dict", data := .dict #[] }) scope.names } := ⟨_, rfl⟩
  rw [← hs4] at I4
  have st4 : tn 0 s4.heap := T.keep _ _ _ st3 fun _ _ _ e => by rw [hs4]; exact pushCells_keeps _ _ _ _ (Heap.get?_push_of_some _ e)
  suffices loop : codeAny (model X.prog X.w) X.A (.compLoop (.DictComp kx vx [⟨tg, iter, [], 0⟩] scope pos) 0 (.ref it) (.ref D) ce) (compPost (model X.prog X.w) X.A X.xe none (L2.EP X pins σ Q) (.ref D) s3.heap.objs.size) s4 by
    have := codeAny_compStart_dict loop (T.self X.A 0 _ _ _ st4 loop)
    rw [hs4, hce, hs3] at this
    exact this
  have stat : ∀ {σ' : L2.St} {H' : Hp} {s' : Shared}, Inv (X.blk s3 H3 scope ce fp) [] σ' H' s' → (∀ b ∈ fp, H' b = none) → ∀ b ∈ fp, FpOk (X.blk s3 H3 scope ce fp) [] H' b := fun {_ _ _} J' no b hb =>
    ⟨no b hb, (J'.ok.exf b hb).1, J'.ok.exfs b hb, .inl hb, fun x c e => (J'.ok.exf b hb).2 x c e, fun p hp => by cases hp⟩
  refine compLoop_anyD (fun n s' => ∃ i H', Inv (X.blk s3 H3 scope ce fp) [] (wipe σ (own.map (·.2))) H' s' ∧ tn i s'.heap ∧ (∀ b ∈ fp, H' b = none) ∧ W i n H') ?_ m0 ⟨0, H3, I4, st4, fun b hb => (f3 b hb).1.1, by rw [hH3]; exact w0⟩
  rintro n s5 ⟨i, H5, I5, st5, n5, w5⟩
  rcases turn i n H5 w5 with ⟨stop, fin⟩ | ⟨go, Nx, hNx, step⟩
  · refine thnF (T.done (X.blk s3 H3 scope ce fp) rfl rfl rfl hc i [] s5 _ H5 (fun _ _ => False) I5 (stat I5 n5) st5 stop) fun r s6 ⟨hr, I6⟩ => ?_
    subst hr
    have I7 : Inv X pins σ H5 s6 := I3.call' (ch := fp) I6.os I6.base I6.hok I6.bare fun b hb => ⟨(f3 b hb).1.2.2.2.1, (f3 b hb).1.2.1, (f3 b hb).1.2.2.2.2.1, (f3 b hb).1.2.2.2.2.2⟩
    have nC : H5 s3.heap.objs.size = none := by rw [← cL]; exact I6.free
    obtain ⟨m, hm, _⟩ := I6.loc
    obtain ⟨f0, f1, f2', f4, f5, f6⟩ := I3.fpOk (Nat.le_refl _) nC
    refine ⟨m, by rw [← cL]; exact hm, fun h'' sb => ⟨.ref D, H5, I7.turned (t' := s6.toks) (fun b o hb e => (sb.2 b hb).trans e) f0 f1 f4 f5 f6, rfl, fin⟩⟩
  · refine thnF (T.item (X.blk s3 H3 scope ce fp) rfl rfl rfl hc i [] s5 _ H5 (fun _ _ => False) I5 (stat I5 n5) st5 go) fun r s6 ⟨u, hr, h6⟩ => ?_
    subst hr
    refine thnF h6 fun _ s7 ⟨x, H7, I7, r7, y7, st7, n7⟩ => ?_
    have I7p := I7.pinned (stat I7 n7) (T.obj _ _ st7)
    refine thnF (bg.run _ s7 _ H7 x u _ I7p r7 (step x H7 y7)) fun _ s8 ⟨σ8, H8, I8, hw8, q8⟩ => ?_
    rw [List.forIn_nil]
    refine wpAny_pure ?_
    rw [if_pos rfl]
    refine thnF (bk.run _ s8 σ8 H8 _ I8 q8) fun z s10 ⟨yk, H10, I10, r10, q10⟩ => ?_
    refine thnF (bv.run _ s10 σ8 H10 _ I10 q10) fun z2 s11 ⟨yv, H11, I11, r11, F, b, ws, kvs, kd, d, k, hy, ex, hD11, hod, hkd, hkt, hdd, hlen, nx⟩ => ?_
    subst hy
    cases r10
    refine od_dictSet (X := X.blk s3 H3 scope ce fp) hu I11 ex hD11 hod hkd hkt hdd r11 hlen fun s12 I12 => ?_
    obtain ⟨m', lt, w'⟩ := hNx _ nx
    have pin : ∀ b ∈ fp, ∀ o, s7.heap.get? b = some o → s12.heap.get? b = some o ∧ _ := fun b hb o e =>
      let z := I12.pin (b, o) (List.mem_append_right _ (List.mem_append_right _ (mem_pinsAt hb e)))
      ⟨z.1, z.2.1⟩
    refine ⟨m', lt, i + 1, _, (I12.unpinned (pins := [])).weak (by rw [← hw8, wipe_length]) (fun j v e => ?_), T.keep _ _ _ st7 fun b hb o e => (pin b hb o e).1, fun b hb => ?_, w'⟩
    · rw [← hw8] at e
      exact (wipe_some e).1
    · obtain ⟨o, e, _⟩ := T.obj _ _ st7 b hb
      exact (pin b hb o e).2
/-- the turns: what is kept so far -/
def dcoLoop (g : PyData → Env → Option Env) (f h : EX) (vs : List Nat) : List PyData → List (NestedKey × PyData) → Env → Option (List (NestedKey × PyData) × Env)
  | [], acc, Γ => some (acc, Γ)
  | x :: xs, acc, Γ => (g x (wipeE Γ vs)).bind fun Γ1 => (f Γ1).bind fun y => (h y.2).bind fun z => (keyT y.1).bind fun k => if acc.length < 100000 then dcoLoop g f h vs xs (putN acc k z.1) z.2 else none
def nDcO (it : AX) (g : PyData → Env → Option Env) (f h : EX) (vs : List Nat) : NX := fun Γ => (it Γ).bind fun x => if freeE x.2 vs = true then (dcoLoop g f h vs x.1 [] x.2).bind fun y => some (.od y.1, restE x.2 y.2 vs) else none
section
variable {K : PySem.W.Frag}
theorem ev_dcO {wi : TI} {it : AX} {g : TG} {gx : PyData → Env → Option Env} {S : List Nat} {tk tv : TE} {f h : EX} {vs : List Nat} (hi : EvI K wi it) (hg : EvG K g gx S) (hS : ∀ i, i ∈ S → i ∈ vs) (hf : EvE K tk f) (hh : EvE K tv h) :
    EvN K (tDcO K wi g tk tv vs) (nDcO it gx f h vs) := by
  intro B Γ F σ H r Γ' R e Q q
  obtain ⟨⟨xs, Γ0⟩, e1, e⟩ := bind_eq e
  split at e
  · rename_i hfree
    obtain ⟨⟨out, Γe⟩, e2, e⟩ := bind_eq e
    cases e
    refine hi B Γ F σ H xs Γ0 R e1 _ fun J F0 H0 x0 R0 Y => fun D hD => ?_
    have W0 := R0.wiped vs
    have hB : B.H0 D = none := R0.fresh D hD
    let In : Nat → Hp → Prop := fun i H' => ∃ Γ1 F1 acc ws, Ex F0 F1 ∧ Rel K B (wipeE Γ1 vs) F1 (wipe σ vs) H' ∧ Hid (wipeE Γ1 vs) F1 (wipe σ vs) H' D (odHO D ws) ∧ OdAll K F1 ws acc ∧ Γ1.length = Γ0.length ∧ dcoLoop gx f h vs (xs.drop i) acc Γ1 = some (out, Γe)
    refine ⟨fun i m H' => m = xs.length - i ∧ i ≤ xs.length ∧ In i H', ⟨xs.length, by simp, Nat.zero_le _, Γ0, F0, [], [], Ex.refl F0, W0.hide hD, .laid W0 hD, .nil, rfl, by simpa using e2⟩, ?_⟩
    rintro i m H1 ⟨rfl, hi1, Γ1, F1, acc, ws, x1, R1, hid1, da1, hl1, h1⟩
    by_cases hlt : i < xs.length
    · refine .inr ⟨Y.go i F1 H1 x1 R1.ext R1.pl hlt, In (i + 1), fun H' w => ⟨xs.length - (i + 1), by omega, rfl, hlt, w⟩, fun x H2 hy => ?_⟩
      obtain ⟨F2, d, gr, ed, dd⟩ := Y.yld i F1 H1 x H2 x1 R1.ext R1.pl hlt hy
      have dr : xs.drop i = d :: xs.drop (i + 1) := by
        rw [List.getElem?_eq_getElem hlt] at ed
        rw [List.drop_eq_getElem_cons hlt, Option.some.inj ed]
      rw [dr] at h1
      obtain ⟨Γ2, e3, h1⟩ := bind_eq h1
      obtain ⟨⟨y, Γ3⟩, e4, h1⟩ := bind_eq h1
      obtain ⟨⟨z, Γ4⟩, e5, h1⟩ := bind_eq h1
      obtain ⟨k, e6, h5⟩ := bind_eq h1
      by_cases hsz : acc.length < 100000
      · have h6 : dcoLoop gx f h vs (xs.drop (i + 1)) (putN acc k z) Γ4 = some (out, Γe) := by
          simp only [hsz, if_true] at h5
          exact h5
        have R2 := R1.grow gr
        have hid2 : Hid (wipeE Γ1 vs) F2 (wipe σ vs) H2 D (odHO D ws) := by
          refine ⟨gr.keep _ _ hid1.here, ?_, hid1.noO⟩
          cases w : F2 D with
          | none => rfl
          | some u =>
            rcases gr.new D u w with t | t
            · rw [hid1.noF] at t; cases t
            · rw [hid1.here] at t; cases t
        have A2 := R2.rebased
        refine hg (rebase (wipeE Γ1 vs) F2 (wipe σ vs) H2) (wipeE Γ1 vs) F2 (wipe σ vs) H2 x d Γ2 A2 dd e3 _ fun σ2 A3 l2 o2 => ?_
        have ew : wipe σ2 vs = wipe σ vs := by
          have e0 : wipe (wipe σ vs) vs = wipe σ vs := wipe_eq (wipe_length σ vs) fun i hi => wipe_out hi
          exact (wipe_eq l2 fun i hi => o2 i fun w => hi (hS i w)).trans e0
        refine ⟨ew, hf _ Γ2 F2 σ2 H2 y Γ3 A3 e4 _ fun v F3 H3 x3 A4 d4 => ?_⟩
        refine hh _ Γ3 F3 σ2 H3 z Γ4 A4 e5 _ fun v5 F4 H4 x4 A5 d5 => ?_
        have A' := A5.wiped vs
        rw [ew] at A'
        have b1 := R2.back A'
        have b2 := hid2.stays A'
        have b3 : Γ4.length = Γ0.length := by
          have z1 := A5.len
          have z2 := A2.len
          rw [wipeE_len] at z2
          rw [← z1, l2, z2, hl1]
        obtain ⟨_, _, _, ys, rfl⟩ := keyT_no e6
        obtain ⟨b, us, rfl, _, _⟩ := dp_tup d4
        have exs : Ex F1 F4 := (gr.ext.trans x3).trans x4
        have oa := od_mono exs da1
        refine ⟨F4, b, ws, acc, _, _, k, rfl, b1.ext, b2.here, oa, dp_mono x4 d4, e6, d5, hsz, Γ4, F4, putN acc k z, putW ws k b v5, x1.trans exs, b1.rewrite b2 hB, ⟨upd_same, b2.noF, b2.noO⟩, od_put oa (dp_mono x4 d4) e6 d5, b3, h6⟩
      · simp only [hsz, if_false] at h5
        cases h5
    · have ei : i = xs.length := by omega
      subst ei
      rw [List.drop_length] at h1
      cases h1
      have hz : restE Γ0 (wipeE Γe vs) vs = restE Γ0 Γe vs := by
        apply List.ext_getElem?
        intro i
        by_cases hi : i ∈ vs
        · by_cases hb : i < Γe.length
          · rw [restE_in (by rw [wipeE_len]; exact hb) hi, restE_in hb hi]
          · rw [List.getElem?_eq_none_iff.mpr (by rw [restE_len, wipeE_len]; omega), List.getElem?_eq_none_iff.mpr (by rw [restE_len]; omega)]
        · rw [restE_out hi, restE_out hi, wipeE_out hi]
      have hw := R0.unwipe hfree x1 R1
      rw [hz] at hw
      refine .inl ⟨Y.stop F1 H1 x1 R1.ext R1.pl, q _ F1 H1 (x0.trans x1) hw ⟨D, ws, rfl, ⟨hid1.here, hid1.noF, fun ⟨i, s, h1, h2, h3⟩ => ?_⟩, .inl hB, da1⟩⟩
      by_cases hi : i ∈ vs
      · have hl : i < Γe.length := by
          have := (List.getElem?_eq_some_iff.mp h1).1
          rwa [restE_len] at this
        rw [restE_in hl hi] at h1
        cases h1
        have z := List.all_eq_true.mp hfree i hi
        cases w : Γ0[i]? with
        | none => rw [w] at h2; cases h2
        | some s => rw [w] at h2 z; have h2' : s.isOwn = true := h2; simp [h2'] at z
      · rw [restE_out hi] at h1
        exact hid1.noO ⟨i, s, by rw [wipeE_out hi]; exact h1, h2, by rw [wipe_out hi]; exact h3⟩
  · cases e
end
section
variable {X : Cx} {pos : Pos}
theorem np_dcO {kx vx tg iter : Expr} {scope : Scope} {it : AX} {gx : PyData → Env → Option Env} {S : List Nat} {fk f : EX} (hu : X.A.units + 64 < cLine) (own : List (Str × Nat)) (hi : IP X tg iter it) (ok : BlkOk X.N X.env.scope scope own)
    (hg : ∀ p : Blk, GP (blkOf X scope p) tg gx S) (hk : ∀ p : Blk, EP (blkOf X scope p) kx fk) (he : ∀ p : Blk, EP (blkOf X scope p) vx f)
    (hc : X.calm = true) (hN : X.N.Nodup) (hS : ∀ i, i ∈ S → i ∈ own.map (·.2) := by decide) (hs : ∀ x, foldedSetIterable iter X.env x = pure x := by intro _; rfl) :
    NP X (.DictComp kx vx [⟨tg, iter, [], 0⟩] scope pos) (nDcO it gx fk f (own.map (·.2))) := by
  obtain ⟨wi, i1, i2⟩ := hi
  obtain ⟨g, g1, g2⟩ := uniG (Xf := blkOf X scope) (K := X.K) (fun _ => rfl) hg
  obtain ⟨tk, k1, k2⟩ := uniE (Xf := blkOf X scope) (K := X.K) (fun _ => rfl) hk
  obtain ⟨te, e1, e2⟩ := uniE (Xf := blkOf X scope) (K := X.K) (fun _ => rfl) he
  exact ⟨_, pe_dcO hu hc hN i1 ok (fun s H C cl fp => g1 (s, H, C, cl, fp)) (fun s H C cl fp => k1 (s, H, C, cl, fp)) (fun s H C cl fp => e1 (s, H, C, cl, fp)) hs, ev_dcO i2 g2 hS k2 e2⟩
end
end Z
set_option Elab.async false
set_option linter.all false
set_option maxRecDepth 100000
set_option maxHeartbeats 2000000
/-! Z: sorted(d), sorted(d, key=f), d a dict whose keys are tuples of ints -/
namespace Z
open PySem PySem.Spec L2 Evl PyProof.Rows
theorem kdl_raw {prog : Program} {w : World} {d : Addr} {es : Array DictEntry} {ep : Nat} (lo : (d == sysModules) = false) : PySem.W.KdlSrc prog w "dict" d d es.size (fun i v => ∃ hi : i < es.size, v = es[i].key) (fun h => h.DictRaw d es ep) where
  type := fun _ hm => hm.typeIs
  there := fun _ ⟨o, ho, _⟩ => ⟨Heap.lt_size ho, Heap.lt_size ho⟩
  keep := fun _ _ hm hk => hm.at fun o e => hk d (.inl rfl) o e
  notList := by decide
  notTuple := by decide
  hint := fun _ _ _ _ hm hq => PySem.W.kdl_hint_dict hm.typeIs hq
  iter := fun _ s hh hm => ⟨_, _, (fun _ _ hq => wpAny_pyIter_dict_raw lo hm hq), Walks.rawKeys hh _ d (by obtain ⟨o, ho, _⟩ := hm; exact Nat.ne_of_lt (Heap.lt_size ho)) es ep, ⟨⟨_, Heap.get?_push_size _ rfl, rfl, rfl⟩, hm.at fun o e => Heap.get?_push_of_some _ e⟩⟩
abbrev keysV (ws : List (NestedKey × Addr × V)) : List V := ws.map fun p => V.ref p.2.1
theorem vals_keys : ∀ {us : List Value} {ws : List (NestedKey × Addr × V)} {xs : List (NestedKey × Addr × Value)}, PW ws xs → us.length = xs.length → (∀ (j : Nat) (v : Value), us[j]? = some v → ∃ y, xs[j]? = some y ∧ v = .ref y.2.1) → Vals (keysV ws) us
  | [], [], [], .nil, _, _ => .nil
  | u :: us, p :: ws, q :: xs, .cons h r, hl, hv => by
    obtain ⟨y, e1, rfl⟩ := hv 0 u rfl
    cases e1
    refine .cons ?_ (vals_keys r (by simpa using hl) fun j v e => ?_)
    · show Value.ref _ = Value.ref _
      rw [h.2.1]
    · obtain ⟨y, e1, e2⟩ := hv (j + 1) v (by simpa using e)
      exact ⟨y, by simpa using e1, e2⟩
  | [], _ :: _, _ :: _, .cons _ _, hl, _ => by simp at hl
  | _ :: _, [], [], .nil, hl, _ => by simp at hl
section
variable {X : Cx} {pins : List (Addr × Obj)} {σ : L2.St} {H F : Hp} {s : Shared}
theorem od_collect {A : Around} {E : Value → Shared → Prop} {R : List Value → Shared → Prop} (hh : A.handled = none) (I : Inv X pins σ H s) (ex : Ex F H) {D : Addr} {ws : List (NestedKey × Addr × V)} {kvs : List (NestedKey × PyData)} (h : H D = some (odHO D ws)) (ho : OdAll X.K F ws kvs)
    (q : ∀ (h' : Heap) (tk : Nat) (its : List Value), (∀ b o, s.heap.get? b = some o → h'.get? b = some o) → Vals (keysV ws) its → its.length ≤ sizeLine → R its { s with heap := h', toks := tk }) :
    wpAny (model X.prog X.w) A (collect (.ref D)) R E s := by
  obtain ⟨lo, xs, pw, dd, hx⟩ := od_dict I ex h ho
  obtain ⟨es, ep, raw, hsz, hes⟩ := dd.raw
  refine PySem.W.kdu_collect (kdl_raw lo) hh raw (by omega) fun h' tk acc hk ⟨ha, hi⟩ => q h' tk acc.toList hk (vals_keys pw (by rw [Array.length_toList, ha, hsz]) fun j v e => ?_) (by rw [Array.length_toList, ha]; omega)
  obtain ⟨hj, rfl⟩ := hi j v (by rw [← Array.getElem?_toList]; exact e)
  obtain ⟨y, e1, e2, _⟩ := hes j hj
  exact ⟨y, e1, e2⟩
end
end Z
set_option Elab.async false
set_option linter.all false
set_option maxRecDepth 100000
set_option maxHeartbeats 2000000
namespace Z
open PySem PySem.Spec L2 Evl PyProof.Rows
theorem freed_none (h : Heap) (k : Addr) : (h.update k fun o => { o with data := .freed }).get? k = none := by
  cases h
  simp only [Heap.update, Heap.get?, Array.getElem?_modify, if_true]
  cases hq : (_ : Array Obj)[k]? with
  | none => rfl
  | some o => rfl
/-- an object of nobody's -/
structure Lone (X : Cx) (pins : List (Addr × Obj)) (a : Addr) : Prop where
  fp : (a ∈ X.ex ∨ X.s_0.heap.objs.size ≤ a) ∧ a ≠ X.env.locals ∧ (∀ x c, X.env.cells.lookup x = some c → c ≠ a) ∧ ∀ p ∈ X.pn ++ pins, p.1 ≠ a
  nfs : a ∉ X.fs
  nst : a ∉ frs X.stack
section
variable {X : Cx} {pins : List (Addr × Obj)} {σ : L2.St} {H F : Hp} {s : Shared}
theorem Lone.ok {a : Addr} (L : Lone X pins a) (h : H a = none) : FpOk X pins H a := ⟨h, L.fp.2.1, L.nfs, L.fp.1, L.fp.2.2.1, L.fp.2.2.2⟩
theorem lone (I : Inv X pins σ H s) {a : Addr} (h : s.heap.objs.size ≤ a) : Lone X pins a := by
  have f := I.fpOk (H' := fun _ => none) h rfl
  refine ⟨⟨f.2.2.2.1, f.2.1, f.2.2.2.2.1, f.2.2.2.2.2⟩, f.2.2.1, fun hb => ?_⟩
  obtain ⟨_, o, ho, _⟩ := I.stack.mem hb
  exact absurd (Nat.lt_of_lt_of_le (Heap.lt_size ho) h) (Nat.lt_irrefl _)
/-- behind the sort: the list is known from now on -/
theorem sort_end (I : Inv X pins σ H s) {a k : Addr} {out : List V} {its : List Value} {h' : Heap} {tk c : Nat} (la : Lone X pins a) (lk : Lone X pins k) (ha : H a = none) (hk : H k = none)
    (keep : ∀ b o, b ≠ a → b ≠ k → s.heap.get? b = some o → h'.get? b = some o) (hout : h'.get? a = some (seqObj "list" its.toArray c)) (rv : Vals out its) (hl : out.length ≤ sizeLine) :
    Inv X pins σ (upd H a (.lst out)) { s with heap := h', toks := tk } := by
  have ne : ∀ {b o}, H b = some o → b ≠ a ∧ b ≠ k := fun {b o} e => ⟨(fun z => by subst z; rw [ha] at e; cases e), (fun z => by subst z; rw [hk] at e; cases e)⟩
  have ns : ∀ {b}, b ∉ [k, a] → b ≠ a ∧ b ≠ k := fun {b} h => ⟨(fun z => h (by simp [z])), (fun z => h (by simp [z]))⟩
  refine I.call' (ch := [k, a]) rfl ⟨fun b o e n _ h => keep b o (ns h).1 (ns h).2 e, fun b o e n _ h => ⟨o.slots, keep b o (ns h).1 (ns h).2 e⟩, fun b o e n h => ?_, fun b o e h => ⟨o, keep b o (ns h).1 (ns h).2 e⟩, fun b xs e => ?_, fun b o u e => ?_, fun b ps e => ⟨#[], ?_⟩⟩ (fun b u e => ?_) I.bare (fun b hb => ?_)
  · rw [upd_ne (ns h).1]; exact n
  · rw [upd_ne (ne e).1]; exact e
  · rw [upd_ne (ne e).1]; exact e
  · rw [upd_ne (ne e).1, e]; simp
  · by_cases h : b = a
    · subst h
      rw [upd_same] at e
      cases e
      exact ⟨hl, its, c, rv, hout⟩
    · rw [upd_ne h] at e
      refine (I.hok b u e).stay (fun x v hx hv => ?_) (fun x hx => ?_) fun x xs hx => ?_
      · have : x ≠ a ∧ x ≠ k := by
          rcases hx with rfl | hx
          · exact ne e
          · exact ne hx
        exact keep x v this.1 this.2 hv
      · rw [upd_ne (ne hx).1]; exact hx
      · rw [upd_ne (ne hx).1]; exact hx
  · rcases List.mem_cons.mp hb with rfl | hb
    · exact lk.fp
    · have : b = a := by simpa using hb
      subst this
      exact la.fp
end
end Z
set_option Elab.async false
set_option linter.all false
set_option maxRecDepth 100000
set_option maxHeartbeats 2000000
namespace Z
open PySem PySem.Spec L2 Evl PyProof.Rows
section
variable {X : Cx} {pins : List (Addr × Obj)} {σ : L2.St} {H F : Hp} {s : Shared}
/-- what stands where the keys are told -/
structure Loop (X : Cx) (pins : List (Addr × Obj)) (σ : L2.St) (H F : Hp) (a k : Addr) (e1 : Nat) (kz : List PyData) (s : Shared) : Prop where
  at' : ∃ (H' F' : Hp) (ws : List V) (kA : Array Value) (e : Nat), Inv X pins σ H' s ∧ Ex F F' ∧ Ex F' H' ∧ Pl F' ∧ H' a = none ∧ H' k = none ∧ s.heap.get? a = some (seqObj "list" #[] e1) ∧ s.heap.get? k = some (seqObj "list" kA e) ∧ Vals ws kA.toList ∧ DpAll X.K F' ws kz ∧ Ex H H'
theorem turn_ok {A : Around} {a k f : Addr} {e1 : Nat} {fd : FuncData} {lv : Nat} {x : Str} {p : List PyData → Option PyData} {kz : List PyData} {v : V} {u : Value} {d kd : PyData} {P : Value → Shared → Prop} {E : Value → Shared → Prop}
    (G : FnOk X.prog X.w X.K X.mg X.base CX0 lv f fd [x] (spP X.K 1 p)) (hr : Room lv A) (hA : ∀ H s, Env0 X.prog X.w X.K X.mg X.base X.A X.stack s H → Env0 X.prog X.w X.K X.mg X.base A X.stack s H) (hb : Binds X.K fd [x] [])
    (la : Lone X pins a) (lk : Lone X pins k) (L : Loop X pins σ H F a k e1 kz s) (hd : Dp X.K F v d) (rv : RelV v u) (hp : p [d] = some kd)
    (q : ∀ (w : V) (r : Value) (s' : Shared) (H' F' : Hp) (ws : List V) (kA : Array Value) (e : Nat), Inv X pins σ H' s' → Ex F F' → Ex F' H' → Pl F' → H' a = none → H' k = none → s'.heap.get? a = some (seqObj "list" #[] e1) → s'.heap.get? k = some (seqObj "list" kA e) → Vals ws kA.toList → DpAll X.K F' ws kz → Ex H H' → Dp X.K F' w kd → RelV w r → P r s') :
    wpAny (model X.prog X.w) A (call (.ref f) [u]) P E s := by
  obtain ⟨H', F', ws, kA, e, I, e1', e2, pl, ha, hk, oa, ok, hv, hw, hH⟩ := L.at'
  refine wpAny_call (codeAny_mono (G.run A X.stack s H' ⟨[u], []⟩ [u] [v] (fun w H'' => ∃ F'', Grow F' H' F'' H'' ∧ Dp X.K F'' w kd) E0 hr (hA _ _ I.env0) (hb s [u] I.kIn rfl) (.cons rv .nil) ?_) fun r s' hq => ?_)
  · exact ⟨rfl, F', [d], kd, e2, pl, .cons (dp_mono e1' hd) .nil, hp, fun w F'' H'' gr dw => ⟨F'', gr, dw⟩⟩
  · cases r with
    | error e => exact hq.elim
    | ok fl =>
      cases fl with
      | ret r =>
        have ce : CE X.stack X.prog X.w H' s (fun w H'' => ∃ F'', Grow F' H' F'' H'' ∧ Dp X.K F'' w kd) r s' := hq
        have ce' := ce
        obtain ⟨w, H'', os, bare, un, hok, rw', F'', gr, dw⟩ := ce'
        have oa' := un.keep a _ oa ha la.nst (by simp)
        have ok' := un.keep k _ ok hk lk.nst (by simp)
        have I' : Inv X pins σ H'' s' := I.call' (ch := []) os un hok bare fun b hb => by cases hb
        exact q w r s' H'' F'' ws kA e I' (e1'.trans gr.ext) gr.ok (gr.pl pl) (un.free a _ oa ha (by simp)) (un.free k _ ok hk (by simp)) oa' ok' hv (dpa_mono gr.ext hw) (hH.trans gr.keep) dw rw'
      | _ => exact hq.elim
end
end Z
set_option Elab.async false
set_option linter.all false
set_option maxRecDepth 100000
set_option maxHeartbeats 2000000
namespace Z
open PySem PySem.Spec L2 Evl PyProof.Rows
open PySem.W (AllAlike Sortable dataLe dataKind alike KeepsBut SortsAt EachIs keyH_end KeyedOut keyedOut_each sorted_data)
section
variable {X : Cx} {pins : List (Addr × Obj)} {σ : L2.St} {H F : Hp} {s : Shared}
theorem vals_get : ∀ {vs : List V} {us : List Value} {j : Nat} {u : Value}, Vals vs us → us[j]? = some u → ∃ v, vs[j]? = some v ∧ RelV v u
  | _, _, _, _, .nil, e => by simp at e
  | _, _, 0, _, .cons r _, e => by simp at e; subst e; exact ⟨_, rfl, r⟩
  | _, _, j + 1, u, .cons _ t, e => by
    obtain ⟨v, h1, h2⟩ := vals_get (j := j) (u := u) t (by simpa using e)
    exact ⟨v, by simpa using h1, h2⟩
/-- xs.sort(key=f) of a list that is nobody's -/
theorem ksort {A : Around} {f : Addr} {fd : FuncData} {lv : Nat} {x : Str} {p : List PyData → Option PyData} {key : PyData → PyData} {a : Addr} {n : Nat} {vs : List V} {its : List Value} {ds : List PyData} {E : Value → Shared → Prop} {P : PySem.Fin → Shared → Prop}
    (G : FnOk X.prog X.w X.K X.mg X.base CX0 lv f fd [x] (spP X.K 1 p)) (hr : Room lv A) (hA : ∀ H s, Env0 X.prog X.w X.K X.mg X.base X.A X.stack s H → Env0 X.prog X.w X.K X.mg X.base A X.stack s H) (hb : Binds X.K fd [x] []) (hu : A.units + 8 < cLine)
    (I : Inv X pins σ H s) (ex : Ex F H) (pl : Pl F) (la : Lone X pins a) (ha : H a = none) (hob : s.heap.get? a = some (seqObj "list" its.toArray n)) (rv : Vals vs its) (hZ : its.length ≤ sizeLine) (hd : DpAll X.K F vs ds) (hp : ∀ d ∈ ds, p [d] = some (key d)) (hal : AllAlike (ds.map key)) (hsk : Sortable (ds.map key)) (hdep : ∀ d ∈ ds, (key d).depth ≤ 8)
    (q : ∀ (s' : Shared) (H' : Hp) (zs : List (V × PyData)), zs.map (·.2) = ds.mergeSort (dataLe false key) → (∀ z ∈ zs, z ∈ vs.zip ds) → Inv X pins σ H' s' → H' a = some (.lst (zs.map (·.1))) → Ex H H' → P (.done (.ret .none)) s') :
    wpAny (model X.prog X.w) A (ksk_tree a (.ref f) false) P E s := by
  have hil : its.length = vs.length := rv.length.symm
  have hdl := dpa_len hd
  unfold ksk_tree
  refine wpAny_bind (listItems_at hob rfl ?_)
  refine wpAny_bind (listUpdate_at hob rfl ?_ (by rw [List.size_toArray]; exact hZ) (Nat.zero_le _))
  obtain ⟨e1, ho1⟩ : ∃ e1, (s.heap.update a (Obj.mapSeq fun _ => (#[] : Array Value))).get? a = some (seqObj "list" #[] e1) := ⟨_, get?_update_seq hob fun _ => #[]⟩
  have I1 : Inv X pins σ H { s with heap := s.heap.update a (Obj.mapSeq fun _ => (#[] : Array Value)) } := by
    obtain ⟨f0, f1, f2, f3, f4, f5⟩ := la.ok ha
    exact I.turned (t' := s.toks) (fun b o hb e => by rw [Heap.get?_update_ne _ _ _ _ hb]; exact e) f0 f1 f3 f4 f5
  obtain ⟨s1, hs1⟩ : ∃ s1 : Shared, s1 = { s with heap := s.heap.update a (Obj.mapSeq fun _ => (#[] : Array Value)) } := ⟨_, rfl⟩
  rw [← hs1] at I1 ⊢
  have ho1' : s1.heap.get? a = some (seqObj "list" #[] e1) := by rw [hs1]; exact ho1
  refine wpAny_bind (seqEpoch_at ho1' rfl ?_)
  refine wpAny_bind (wpAny_newTuple ?_ (by show its.length ≤ _; exact hZ))
  obtain ⟨s2, hs2⟩ : ∃ s2 : Shared, s2 = { s1 with heap := s1.heap.push { cls := .type "tuple", data := .seq its.toArray } } := ⟨_, rfl⟩
  have I2 : Inv X pins σ H s2 := by rw [hs2]; exact I1.kept (t' := s1.toks) fun b u e => Heap.get?_push_of_some _ e
  have ho2 : s2.heap.get? a = some (seqObj "list" #[] e1) := by rw [hs2]; exact Heap.get?_push_of_some _ ho1'
  show wpAny (model X.prog X.w) A _ P E { s1 with heap := s1.heap.push { cls := .type "tuple", data := .seq its.toArray } }
  rw [← hs2]
  refine wpAny_bind (wpAny_newList ?_ (Nat.zero_le _))
  obtain ⟨k, hk⟩ : ∃ k, k = s2.heap.objs.size := ⟨_, rfl⟩
  obtain ⟨s3, hs3⟩ : ∃ s3 : Shared, s3 = { s2 with heap := s2.heap.push (seqObj "list" #[] 0) } := ⟨_, rfl⟩
  have I3 : Inv X pins σ H s3 := by rw [hs3]; exact I2.kept (t' := s2.toks) fun b u e => Heap.get?_push_of_some _ e
  have ho3 : s3.heap.get? a = some (seqObj "list" #[] e1) := by rw [hs3]; exact Heap.get?_push_of_some _ ho2
  have hk3 : s3.heap.get? k = some (seqObj "list" #[] 0) := by rw [hs3, hk]; exact Heap.get?_push_size _ rfl
  have nk : H k = none := I2.hok.fresh (Nat.le_of_eq hk.symm)
  have lk : Lone X pins k := lone I2 (Nat.le_of_eq hk.symm)
  have hka : k ≠ a := fun z => by
    have := Heap.lt_size ho2
    rw [← z, hk] at this
    exact absurd this (Nat.lt_irrefl _)
  show wpAny (model X.prog X.w) A _ P E { s2 with heap := s2.heap.push (seqObj "list" #[] 0) }
  rw [← hs3, ← hk]
  refine wpAny_holding ?_
  unfold ksk_rest
  refine wpAny_bind (wpAny_rule ?_)
  first
    | rw [List.forIn_toArray]
    | (rw [← Array.forIn_toList]; simp only [List.toList_toArray])
    | rw [← Array.forIn_toList]
  refine wpAny_bind (ksk_fold (fun j s' => Loop X pins σ H F a k e1 ((ds.map key).take j) s') its 0 s3 ⟨H, F, [], #[], 0, I3, Ex.refl F, ex, pl, ha, nk, ho3, hk3, .nil, by rw [List.take_zero]; exact .nil, Ex.refl H⟩ (fun j u s' hx L => ?_) fun s' L => ?_)
  · simp only [Nat.zero_add] at L ⊢
    have hj : j < its.length := (List.getElem?_eq_some_iff.mp hx).1
    obtain ⟨v, hv, rvu⟩ := vals_get rv hx
    obtain ⟨d, hdj, dd⟩ := dpa_get' hd hv
    refine wpAny_bind (wpAny_attempt (turn_ok G hr hA hb la lk L dd rvu (hp d (List.mem_of_getElem? hdj)) fun w r s4 H' F' ws kA e I4 e2 e3 pl4 ha4 hk4 oa ok hvs hws hH dw rw' => ?_))
    have hsz : kA.size = j := by
      have h1 : ws.length = kA.toList.length := Vals.length hvs
      have h2 := dpa_len hws
      rw [List.length_take, List.length_map] at h2
      have h3 : kA.toList.length = kA.size := Array.length_toList
      omega
    have ha6 : kA.size ≤ sizeLine := by omega
    refine wpAny_bind (listUpdate_at ok rfl ?_ ha6 (by rw [Array.size_push]; omega))
    obtain ⟨c2, hc2⟩ : ∃ c2, (s4.heap.update k (Obj.mapSeq (·.push r))).get? k = some (seqObj "list" (kA.push r) c2) := ⟨_, get?_update_seq ok (·.push r)⟩
    have I5 : Inv X pins σ H' { s4 with heap := s4.heap.update k (Obj.mapSeq (·.push r)) } := by
      obtain ⟨f0, f1, f2, f3, f4, f5⟩ := lk.ok hk4
      exact I4.turned (t' := s4.toks) (fun b o hb e => by rw [Heap.get?_update_ne _ _ _ _ hb]; exact e) f0 f1 f3 f4 f5
    have ek : (ds.map key).take (j + 1) = (ds.map key).take j ++ [key d] := by
      rw [List.take_add_one, List.getElem?_map, hdj]; simp
    refine wpAny_pure ⟨rfl, H', F', ws ++ [w], kA.push r, c2, I5, e2, e3, pl4, ha4, hk4, by rw [Heap.get?_update_ne _ _ _ _ hka.symm]; exact oa, hc2, ?_, ?_, hH⟩
    · rw [Array.toList_push]; exact hvs.append (.cons rw' .nil)
    · rw [ek]; exact dpa_app hws (.cons dw .nil)
  · obtain ⟨H', F', ws, kA, e, I4, e2, e3, pl4, ha4, hk4, oa, ok, hvs, hws, hH⟩ := L.at'
    rw [Nat.zero_add, List.take_of_length_le (by rw [List.length_map]; omega)] at hws
    obtain ⟨as, hread⟩ := Dp.readsAll I4 _ ws kA.toList (dpa_mono e3 hws) hvs
    have hk' : EachIs (fun v d => ∃ as, Reads s'.heap v d as) kA.toList (ds.map key) := by
      have := PySem.W.readsAll_each (enc := id) (bs := ds.map key) (by rw [List.map_id]; exact hread)
      exact this
    have hsz : kA.size = its.length := by
      have h1 := hk'.length
      rw [Array.length_toList, List.length_map] at h1
      omega
    refine wpAny_bind (listItems_at ok rfl ?_)
    refine keyH_end (κ := dataKind s'.heap (ds.map key)) (h₁ := s'.heap.update k fun o => { o with data := .freed }) (fun b o hb e => ?_) (freed_none _ _) ok oa hka (SortsAt.data hk' hal hsk fun d hd' => ?_) hsz hZ fun h' tk c kp hout => ?_
    · by_cases h : b = k
      · subst h; rw [freed_none] at e; cases e
      · rw [Heap.get?_update_ne _ _ _ _ h] at e; exact e
    · obtain ⟨d0, h0, rfl⟩ := List.mem_map.mp hd'
      have := hdep d0 h0; omega
    · have es : (vs.zip ds).map (fun b => key b.2) = ds.map key := by
        have h1 : (vs.zip ds).map Prod.snd = ds := List.map_snd_zip (by omega)
        conv => rhs; rw [← h1, List.map_map]
        rfl
      have ko : KeyedOut false ((vs.zip ds).map fun b => key b.2) its (PySem.W.sortVals (dataKind s'.heap (ds.map key)) false kA.toList its) := by
        rw [es]; exact ⟨s'.heap, kA.toList, hal, rfl, hk'⟩
      have eo := keyedOut_each (β := V × PyData) (R := fun u b => RelV b.1 u) (fun b => key b.2) ko (each_zip rv hdl)
      have pm := List.mergeSort_perm (vs.zip ds) (dataLe false fun b => key b.2)
      have hm := PySem.W.sort_maps (r := dataLe false fun b : V × PyData => key b.2) (s := dataLe false key) (Prod.snd : V × PyData → PyData) (l := vs.zip ds) (fun a _ b _ => rfl)
      rw [List.map_snd_zip (by omega)] at hm
      have rvo := vals_each eo
      refine q _ _ _ hm (fun z hz => pm.mem_iff.mp hz) (sort_end I4 la lk ha4 hk4 (fun b o h1 h2 e => kp b o h1 (by rw [Heap.get?_update_ne _ _ _ _ h2]; exact e)) hout rvo ?_) upd_same fun b o e => ?_
      · rw [List.length_map, pm.length_eq, List.length_zip]; omega
      · rw [upd_ne (fun z => by rw [z, ha] at e; cases e)]; exact hH b o e
end
end Z
set_option Elab.async false
set_option linter.all false
set_option maxRecDepth 100000
set_option maxHeartbeats 2000000
namespace Z
open PySem PySem.Spec L2 Evl PyProof.Rows
open PySem.W (AllAlike Sortable dataLe)
/-! ### keys as data -/
mutual
def dataN : NestedKey → PyData
  | .num i => .int i
  | .tup ks => .tuple (dataNs ks)
  | .text x => .str x
  | .none => .none
def dataNs : List NestedKey → List PyData
  | [] => []
  | k :: ks => dataN k :: dataNs ks
end
mutual
theorem data_key : ∀ {d : PyData} {k : NestedKey}, keyN d = some k → dataN k = d
  | .int i, _, h => by cases h; rfl
  | .tuple xs, _, h => by
    obtain ⟨ks, h1, h2⟩ := Option.map_eq_some_iff.mp (show (keyN.keyNs xs).map NestedKey.tup = _ from h)
    subst h2
    show PyData.tuple (dataNs ks) = _
    rw [data_keys h1]
theorem data_keys : ∀ {ds : List PyData} {ks : List NestedKey}, keyN.keyNs ds = some ks → dataNs ks = ds
  | [], _, h => by cases h; rfl
  | d :: ds, _, h => by
    obtain ⟨k, h1, h⟩ := bind_eq (show (keyN d).bind (fun k => (keyN.keyNs ds).map (k :: ·)) = _ from h)
    obtain ⟨ks, h2, h3⟩ := Option.map_eq_some_iff.mp h
    subst h3
    show dataN k :: dataNs ks = _
    rw [data_key h1, data_keys h2]
end
theorem dpa_keys {K : PySem.W.Frag} {F : Hp} : ∀ {ws : List (NestedKey × Addr × V)} {kvs : List (NestedKey × PyData)}, OdAll K F ws kvs → DpAll K F (keysV ws) (kvs.map fun q => dataN q.1)
  | _, _, .nil => .nil
  | _, _, .cons (k := k) (b := b) hk ek _ r => .cons (show Dp K F (.ref b) (dataN k) by rw [data_key (keyT_no ek).2.2.1]; exact hk) (dpa_keys r)
/-! ### sorted(d, key=f) -/
def rSortDK (X : Cx) (f : Addr) (p : List PyData → Option PyData) : List V → List V → Hp → VK → Prop := fun vs zs H Q => ∃ (D : Addr) (F : Hp) (ws : List (NestedKey × Addr × V)) (kvs : List (NestedKey × PyData)) (ds : List PyData) (key : PyData → PyData),
  vs = [V.ref D] ∧ zs = [V.ref f] ∧ Ex F H ∧ Pl F ∧ H D = some (odHO D ws) ∧ OdAll X.K F ws kvs ∧ ds = (kvs.map fun q => dataN q.1) ∧ (∀ d ∈ ds, p [d] = some (key d)) ∧ AllAlike (ds.map key) ∧ Sortable (ds.map key) ∧ (∀ d ∈ ds, (key d).depth ≤ 8) ∧
  ∀ (a : Addr) (H' : Hp) (zs : List (V × PyData)), zs.map (·.2) = ds.mergeSort (dataLe false key) → (∀ z ∈ zs, z ∈ (keysV ws).zip ds) → H a = none → H' a = some (.lst (zs.map (·.1))) → Ex H H' → Q (.ref a) H'
section
variable {X : Cx}
theorem cr_sortDK {f : Addr} {fd : FuncData} {lv : Nat} {x : Str} {p : List PyData → Option PyData} (G : FnOk X.prog X.w X.K X.mg X.base CX0 lv f fd [x] (spP X.K 1 p)) (hr : Room (lv + 2) X.A) (hb : Binds X.K fd [x] []) (hu : X.A.units + 64 < cLine) :
    CallRK X (.builtin "sorted") [Str.ofString "key"] (rSortDK X f p) := by
  intro pins s σ H vs zs us ts Q I r rz h
  obtain ⟨D, F, ws, kvs, ds, key, rfl, rfl, ex, pl, hD, ho, hds, hp, hal, hsk, hdep, q⟩ := h
  obtain rfl := Vals.ref1 r
  obtain ⟨u, rfl, ru⟩ := vals1 rz
  cases ru
  refine call_function_entry_kw kind_sorted plain_sorted entry_sorted (ksk_s1 _ _) ?_
  unfold Builtin.«sorted»
  refine wpAny_bind (m := checkCount "sorted" 1 1 _) (wpAny_pure ?_)
  refine wpAny_bind (od_collect (A := X.A.in1) hr.hd I ex hD ho fun h' tk its hk hv hl => ?_)
  have I1 : Inv X pins σ H { s with heap := h', toks := tk } := I.kept hk
  obtain ⟨s1, hs1⟩ : ∃ s1 : Shared, s1 = { s with heap := h', toks := tk } := ⟨_, rfl⟩
  rw [← hs1] at I1 ⊢
  refine wpAny_bind (wpAny_newList ?_ hl)
  obtain ⟨a, ha⟩ : ∃ a, a = s1.heap.objs.size := ⟨_, rfl⟩
  obtain ⟨s2, hs2⟩ : ∃ s2 : Shared, s2 = { s1 with heap := s1.heap.push (seqObj "list" its.toArray 0) } := ⟨_, rfl⟩
  have hoL : s2.heap.get? a = some (seqObj "list" its.toArray 0) := by rw [hs2, ha]; exact Heap.get?_push_size _ rfl
  have I2 : Inv X pins σ H s2 := by rw [hs2]; exact I1.kept (t' := s1.toks) fun b u e => Heap.get?_push_of_some _ e
  show wpAny (model X.prog X.w) X.A.in1 _ _ _ { s1 with heap := s1.heap.push (seqObj "list" its.toArray 0) }
  rw [← hs2, ← ha]
  refine wpAny_bind (wpAny_holding (wpAny_call_entry_kw slot_list_sort ⟨_, hoL, rfl⟩ entry_list_sort ?_ (ksk_l1 _ _)))
  show wpAny (model X.prog X.w) X.A.in1.in1 (Builtin.«list.sort» ⟨[.ref a], [(Str.ofString "key", .ref f)]⟩) _ _ _
  rw [ksk_t1]
  have hdp := dpa_keys ho
  rw [← hds] at hdp
  refine ksort G hr.in1.in1 (fun H s e => e.in1.in1) hb (by show X.A.units + 1 + 1 + 8 < cLine; omega) I2 ex pl (lone I1 (Nat.le_of_eq ha.symm)) (I1.hok.fresh (Nat.le_of_eq ha.symm)) hoL hv hl hdp hp hal hsk hdep fun s' H' zs z1 z2 I' h1 h2 => ?_
  exact ⟨_, rfl, wpAny_pure ⟨_, rfl, .ref a, H', I', rfl, q a H' zs z1 z2 (I1.hok.fresh (Nat.le_of_eq ha.symm)) h1 h2⟩⟩
end
end Z
set_option Elab.async false
set_option linter.all false
set_option maxRecDepth 100000
set_option maxHeartbeats 2000000
namespace Z
open PySem PySem.Spec L2 Evl PyProof.Rows
open PySem.W (AllAlike Sortable dataLe)
def keysOf (p : List PyData → Option PyData) : List PyData → Option (List PyData)
  | [] => some []
  | d :: ds => (p [d]).bind fun k => (keysOf p ds).bind fun ks => some (k :: ks)
def keyD' (p : List PyData → Option PyData) (d : PyData) : PyData := (p [d]).getD .none
theorem keysOf_eq {p : List PyData → Option PyData} : ∀ {ds kz : List PyData}, keysOf p ds = some kz → kz = ds.map (keyD' p) ∧ ∀ d ∈ ds, p [d] = some (keyD' p d)
  | [], _, h => by cases h; exact ⟨rfl, fun d h => by cases h⟩
  | d :: ds, _, h => by
    obtain ⟨k, h1, h⟩ := bind_eq h
    obtain ⟨ks, h2, h⟩ := bind_eq h
    cases h
    obtain ⟨e1, e2⟩ := keysOf_eq h2
    have hk : keyD' p d = k := by unfold keyD'; rw [h1]; rfl
    refine ⟨by rw [List.map_cons, hk, e1], fun x hx => ?_⟩
    rcases List.mem_cons.mp hx with rfl | hx
    · rw [hk, h1]
    · exact e2 x hx
/-- sorted(d, key=f), of its keys -/
def sortDK (p : List PyData → Option PyData) (ds : List PyData) : Option (List PyData) := (keysOf p ds).bind fun kz => if okSort kz then some (ds.mergeSort (dataLe false (keyD' p))) else none
def eSortDK (n : NX) (p : List PyData → Option PyData) : EX := fun Γ => (n Γ).bind fun x => match x.1 with
  | .od kvs => (sortDK p (kvs.map fun q => dataN q.1)).bind fun ds => some (.list ds, x.2)
  | _ => none
theorem vref_lt {v : V} {f : Addr} : True := trivial
section
variable {X : Cx} {pos pp kp py : Pos}
theorem ep_sortDK {e : Expr} {y z : Str} {st : Stmt} {lv : Nat} {n : NX} {p : List PyData → Option PyData} (hm : X.mg "sorted" = none) (G : Ok X.prog X.w X.K X.mg X.base lv y st [z] (spP X.K 1 p)) (hr : Room (lv + 2) X.A) (hu : X.A.units + 64 < cLine) (he : NP X e n)
    (hg : Gl X "sorted" := by rfl) (hy : Gl X y := by rfl) (hyd : (y == ("__debug__" : Str)) = false := by decide)
    (h1 : backTo pos (starEach [e] X.env) = (false, eval e X.env) :: backTo pos (starEach [] X.env) := by rfl) (h2 : (backTo pos (starEach [e] X.env)).any (·.1) = false := by rfl)
    (h3 : (backToKw pos (keywordEach [⟨some "key", .Name y py, kp⟩] X.env)).all (·.1.isSome) = true := by rfl) (h4 : (backToKw pos (keywordEach [⟨some "key", .Name y py, kp⟩] X.env)).any (·.1.isNone) = false := by rfl) (h5 : (backToKw pos (keywordEach [⟨some "key", .Name y py, kp⟩] X.env)).filterMap (·.1) = [Str.ofString "key"] := by rfl) (h6 : starEach [e] X.env = (false, eval e X.env) :: starEach [] X.env := by rfl) :
    EP X (.Call (.Name "sorted" pp) [e] [⟨some "key", .Name y py, kp⟩] pos) (eSortDK n p) := by
  obtain ⟨f, fd, Fn, g, bi, G⟩ := G
  obtain ⟨te, b1, b2⟩ := he
  refine ⟨_, pe_callBK (cr_sortDK G hr bi hu) hg hm (by decide +kernel) (pa_cons b1 pa_nil h6) (pk_cons (pe_glob (v := V.ref f) hy g rfl hyd) pk_nil) (by decide) (by decide) h1 h2 h3 h4 h5, ?_⟩
  intro B Γ F σ H r Γ' R e Q q
  obtain ⟨⟨s, Γ1⟩, e1, e⟩ := bind_eq e
  cases s with
  | od kvs =>
    obtain ⟨ds, e2, e⟩ := bind_eq e
    cases e
    refine b2 B Γ F σ H (.od kvs) Γ1 R e1 _ fun v F1 H1 x1 R1 hd => ?_
    obtain ⟨D, ws, rfl, hid, hb, ho⟩ := hd
    obtain ⟨kz, e3, e4⟩ := bind_eq e2
    obtain ⟨e5, e6⟩ := keysOf_eq e3
    split at e4
    · rename_i hok
      cases e4
      rw [e5] at hok
      obtain ⟨a1, a2, a3⟩ := okSort_iff hok
      refine ⟨D, F1, ws, kvs, _, keyD' p, rfl, rfl, R1.ext, R1.pl, hid.here, ho, rfl, e6, a1, a2, fun d hd => a3 _ (List.mem_map.mpr ⟨d, hd, rfl⟩), fun a H' zs z1 z2 ha hH hex => ?_⟩
      have nF : F1 a = none := fresh_back R1.ext ha
      have dz := dpa_pairs fun z hz => dpa_zip (dpa_keys ho) z (z2 z hz)
      rw [z1] at dz
      have gr : Grow F1 H1 (upd F1 a (.lst (zs.map (·.1)))) H' := by
        refine ⟨hex, Ex.new nF, fun b u h => ?_, fun b u h => ?_, fun h => h.upd trivial⟩
        · by_cases hb : b = a
          · subst hb; rw [upd_same] at h; cases h; exact hH
          · rw [upd_ne hb] at h; exact hex _ _ (R1.ext _ _ h)
        · by_cases hb : b = a
          · subst hb; exact .inr ha
          · rw [upd_ne hb] at h; exact .inl h
      exact q _ _ H' (x1.trans gr.ext) (R1.grow gr) (.lst (sq_of upd_same) (dpa_mono gr.ext dz))
    · cases e4
  | no => cases e
  | val d => cases e
  | dic d => cases e
  | fd d => cases e
  | par d => cases e
  | own d => cases e
end
end Z
set_option Elab.async false
set_option linter.all false
set_option maxRecDepth 100000
set_option maxHeartbeats 400000
/-! Z: list(x) of a list of one's own, which stays one's own -/
namespace Z
open PySem L2 Evl PyProof.Rows
section
variable {X : Cx}
def eListO (i : Nat) : EX := fun Γ => (ownAt Γ i).bind fun ds => some (.list ds, Γ)
theorem ep_listO {x : Str} {px pp pos : Pos} {i : Nat} (hm : X.mg "list" = none) (hN : X.N[i]? = some x := by rfl) (hv : Vis X.env.scope x := by first | exact Or.inl rfl | exact Or.inr (Or.inl rfl) | exact Or.inr (Or.inr rfl)) (hd : (x == ("__debug__" : Str)) = false := by decide)
    (hcd : (x == ("__classdict__" : Str)) = false := by decide) (hg : Gl X "list" := by rfl)
    (he : starEach [.Name x px] X.env = (false, eval (.Name x px) X.env) :: starEach [] X.env := by rfl) (hpl : (backTo pos (starEach [] X.env)).any (·.1) = false := by rfl) : EP X (.Call (.Name "list" pp) [.Name x px] [] pos) (eListO i) := by
  refine ⟨_, pe_callTy call_list_of hg hm (by decide +kernel) (pa_cons (pe_var hN hv hd hcd) pa_nil he) (by decide) (by decide) he hpl, ?_⟩
  intro B Γ F σ H z Γ' R h Q q
  obtain ⟨ds, h1, h⟩ := bind_eq h
  cases h
  obtain ⟨a, vs, ea, hF, hH, hd⟩ := R.ownGet h1
  refine ⟨.ref a, ea, a, vs, rfl, .inl (sq_of hH), fun p hp => ?_⟩
  have gr := Grow.laid (o := .lst vs) R.ext hp
  exact q _ _ _ gr.ext (R.grow gr) (.lst (sq_of upd_same) (dpa_mono gr.ext hd))
@[simp] theorem z_listO {i : Nat} {Γ : Env} : eListO i Γ = (ownAt Γ i).bind fun ds => some (.list ds, Γ) := rfl
end
end Z
set_option Elab.async false
set_option linter.all false
set_option maxRecDepth 100000
set_option maxHeartbeats 400000
/-! all ways of an order to show another, in words of one's own -/
namespace Sw
open PySem Z
open Mt (Pl3 Fnd lastOr startOf)
def waysOf (o q : List Int) : List (List Int) := Mt.ways o (planFrom [0, (q.length : Int) + 1] q) [0, (o.length : Int) + 1] 0
def Occ (o q xs : List Int) : Prop := ∃ v : Int → Int, (∀ a ∈ q, ∀ b ∈ q, a < b → v a < v b) ∧ Mt.At o v q xs 0
theorem bet_order {q : List Int} (kq : Om.IsR 1 q) : Bet [0, (q.length : Int) + 1] q := fun c hc => by
  have := (kq.mem).mp hc
  refine ⟨fun z => ?_, fun z => ?_⟩
  · have : (0 : Int) ∈ lo [0, (q.length : Int) + 1] c := List.mem_filter.mpr ⟨List.mem_cons_self, by simp; omega⟩
    rw [z] at this; cases this
  · have : ((q.length : Int) + 1) ∈ hi [0, (q.length : Int) + 1] c := List.mem_filter.mpr ⟨by simp, by simp; omega⟩
    rw [z] at this; cases this
theorem at_congr {o : List Int} {v v' : Int → Int} : ∀ {es xs : List Int} {s : Int}, (∀ e ∈ es, v e = v' e) → Mt.At o v es xs s → Mt.At o v' es xs s
  | [], [], _, _, h => h
  | e :: es, x :: xs, s, hv, ⟨h1, h2, h3, h4⟩ => ⟨h1, by rw [h2, hv e List.mem_cons_self], h3, at_congr (fun e he => hv e (List.mem_cons_of_mem _ he)) h4⟩
  | [], _ :: _, _, _, h => h.elim
  | _ :: _, [], _, _, h => h.elim
theorem at_mem {o : List Int} {v : Int → Int} : ∀ {es xs : List Int} {s : Int}, Mt.At o v es xs s → ∀ e ∈ es, v e ∈ o
  | [], [], _, _, e, he => by cases he
  | e :: es, x :: xs, s, ⟨h1, h2, h3, h4⟩, e', he => by
    rcases List.mem_cons.mp he with rfl | he
    · exact Mt.mem_ixI h2
    · exact at_mem h4 e' he
  | [], _ :: _, _, h, _, _ => h.elim
  | _ :: _, [], _, h, _, _ => h.elim
theorem mem_ways {o q xs : List Int} (ho : Om.IsR 1 o) (hq : Om.IsR 1 q) (hl : q.length ≤ 900) : xs ∈ waysOf o q ↔ Occ o q xs := by
  have hb := bet_order hq
  obtain ⟨hp, hV⟩ := plan_ok hb (by simp; omega)
  constructor
  · intro h
    have hh : ([0, (q.length : Int) + 1] : List Int).map (fun x => if x = 0 then 0 else (o.length : Int) + 1) = [0, (o.length : Int) + 1] := by
      have : (q.length : Int) + 1 ≠ 0 := by omega
      simp [this]
    unfold waysOf at h
    rw [← hh] at h
    obtain ⟨v, _, h2, h3⟩ := Mt.ways_only (P := [0, (q.length : Int) + 1]) (v := fun x => if x = 0 then 0 else (o.length : Int) + 1) hp (fun _ h => h) (fun x hx y hy hxy => by
      simp only [List.mem_cons, List.not_mem_nil, or_false] at hx hy
      rcases hx with rfl | rfl <;> rcases hy with rfl | rfl
      · omega
      · have : (q.length : Int) + 1 ≠ 0 := by omega
        simp [this] <;> omega
      · omega
      · omega) (fun c hc x hx => ⟨fun h => ⟨x, hx, by omega, h⟩, fun h => ⟨x, hx, h, by omega⟩⟩) (by
      rw [List.nodup_append]
      refine ⟨by simp; omega, hq.nodup, fun a ha b hb e => ?_⟩
      have := hq.mem.mp hb
      simp only [List.mem_cons, List.not_mem_nil, or_false] at ha
      omega) h
    exact ⟨v, fun a ha b hb => h2 a (List.mem_append_right _ ha) b (List.mem_append_right _ hb), h3⟩
  · rintro ⟨v, hv, ha⟩
    have hm := at_mem ha
    have hvo : ∀ e ∈ q, 1 ≤ v e ∧ v e < (o.length : Int) + 1 := fun e he => by
      have := ho.mem.mp (hm e he); omega
    have hqe : ∀ e ∈ q, 1 ≤ e ∧ e < (q.length : Int) + 1 := fun e he => by
      have := hq.mem.mp he; omega
    obtain ⟨w, hw⟩ : ∃ w : Int → Int, w = fun x => if x ≤ 0 then 0 else if (q.length : Int) + 1 ≤ x then (o.length : Int) + 1 else v x := ⟨_, rfl⟩
    have w0 : w 0 = 0 := by rw [hw]; simp
    have w1 : w ((q.length : Int) + 1) = (o.length : Int) + 1 := by
      rw [hw]; show (if (q.length : Int) + 1 ≤ 0 then 0 else _) = _
      rw [if_neg (by omega), if_pos (by omega)]
    have wv : ∀ e ∈ q, v e = w e := fun e he => by
      have := hqe e he
      rw [hw]; show _ = (if e ≤ 0 then 0 else _)
      rw [if_neg (by omega), if_neg (by omega)]
    have key := Mt.ways_all (v := w) hp (fun x y hx hy hxy => by
      rcases hx with hx | hx <;> rcases hy with hy | hy
      · simp only [List.mem_cons, List.not_mem_nil, or_false] at hx hy
        rcases hx with rfl | rfl <;> rcases hy with rfl | rfl
        · omega
        · rw [w0, w1]; omega
        · omega
        · omega
      · simp only [List.mem_cons, List.not_mem_nil, or_false] at hx
        have := hqe y hy
        have := hvo y hy
        rw [← wv y hy]
        rcases hx with rfl | rfl
        · rw [w0]; omega
        · omega
      · simp only [List.mem_cons, List.not_mem_nil, or_false] at hy
        have := hqe x hx
        have := hvo x hx
        rw [← wv x hx]
        rcases hy with rfl | rfl
        · omega
        · rw [w1]; omega
      · rw [← wv x hx, ← wv y hy]; exact hv x hx y hy hxy) (at_congr wv ha)
    have hh : ([0, (q.length : Int) + 1] : List Int).map w = [0, (o.length : Int) + 1] := by simp [w0, w1]
    rw [hh] at key
    exact key
theorem rg_pw : ∀ (n : Nat) (a : Int), (Mt.rg a n).Pairwise (· < ·)
  | 0, _ => .nil
  | n + 1, a => by
    rw [Mt.rg, List.pairwise_cons]
    exact ⟨fun x hx => by have := Mt.mem_rg.mp hx; omega, rg_pw n (a + 1)⟩
theorem ways_pw {o : List Int} : ∀ (ps : List Pl3) (held : List Int) (s : Int), (Mt.ways o ps held s).Pairwise (· < ·)
  | [], _, _ => by simp [Mt.ways]
  | st :: ps, held, s => by
    cases h1 : Mt.ixI held st.1 with
    | none => rw [Mt.ways, h1]; exact .nil
    | some b =>
      cases h2 : Mt.ixI held st.2.1 with
      | none => rw [Mt.ways, h1, h2]; exact .nil
      | some t =>
        rw [Mt.ways_cons h1 h2, List.pairwise_flatMap]
        have hd : ∀ pl, ∀ x ∈ Mt.wf o st ps held b t pl, ∃ r, x = pl :: r := fun pl x hx => by
          unfold Mt.wf at hx
          split at hx
          · split at hx
            · split at hx
              · obtain ⟨r, _, rfl⟩ := List.mem_map.mp hx
                exact ⟨r, rfl⟩
              · cases hx
            · cases hx
          · cases hx
        refine ⟨fun pl _ => ?_, (rg_pw _ _).imp fun {a c} hac x hx y hy => ?_⟩
        · unfold Mt.wf
          split
          · split
            · split
              · refine List.pairwise_map.mpr ((ways_pw ps _ _).imp fun {x y} h => ?_)
                exact List.cons_lt_cons_iff.mpr (.inr ⟨rfl, h⟩)
              · exact .nil
            · exact .nil
          · exact .nil
        · obtain ⟨r, rfl⟩ := hd a x hx
          obtain ⟨r', rfl⟩ := hd c y hy
          exact List.cons_lt_cons_iff.mpr (.inl hac)
theorem ways_len {o : List Int} {q xs : List Int} (h : Occ o q xs) : xs.length = q.length := by
  obtain ⟨v, _, h⟩ := h
  exact Mt.at_len h
theorem placings_by_eq {o q : List Int} (ho : o.length ≤ 16) (hq : q.length ≤ 16) (kq : Om.IsR 1 q) (hq0 : q ≠ []) (m : Int) (hm : m < 0 ∨ 0 < m) :
    s_placings_by [T o, .list ((planFrom [0, (q.length : Int) + 1] q).map plD), .int m] = some (.list (TT (Mt.cut m 0 (waysOf o q)))) := by
  have hb := bet_order kq
  obtain ⟨hp, hV⟩ := plan_ok hb (by simp; omega)
  have hpl := Mt.plan_len hp
  have hpos := List.length_pos_iff.mpr hq0
  have hpow : (2 : Nat) ^ o.length ≤ 2 ^ 16 := Nat.pow_le_pow_right (by omega) ho
  obtain ⟨b, kt', xs', e1, _, e3, _, _, _⟩ := Mt.gat_ok gKey gKey_inj o (planFrom [0, (q.length : Int) + 1] q) m (by omega) (by omega) 20 0 (by omega) [] [] [] [0, (o.length : Int) + 1] o.length rfl (by omega) (fun q hq => by cases hq) (by simp [Mt.startOf]) (by simp [Mt.startOf]) (by simpa using hV) (by simp) (by simp; omega) (by simp; omega) (by simpa using hm)
  have hst : Mt.startOf ([] : List Int) = 0 := rfl
  rw [hst, List.drop_zero, List.nil_append] at e3
  have e4 : xs' = Mt.cut m 0 (waysOf o q) := by
    rw [e3]
    unfold waysOf
    simp
  show (intsOf _).bind _ = _
  rw [intsOf_map]
  show (plsOf _).bind _ = _
  rw [plsOf_map]
  show (Mt.gat gKey o _ m 20 [] [] [] [0, (o.length : Int) + 1]).bind _ = _
  rw [e1, ← e4]; rfl
end Sw
set_option Elab.async false
set_option linter.all false
set_option maxRecDepth 100000
set_option maxHeartbeats 400000
namespace Sw
open PySem Z
open PySem.W (dataLe dataLt rowLt alike alikeAll AllAlike Sortable)
theorem le_rows : dataLe false (fun r : List Int => T r) = fun p q => decide (p ≤ q) := by
  funext p q
  show (!dataLt (T q) (T p)) = _
  rw [show dataLt (T q) (T p) = rowLt (q.map .int) (p.map .int) from PySem.W.dataLt_tuple _ _]
  rw [PySem.W.dataLt_ints]
  by_cases h : q < p
  · have h' : ¬ p ≤ q := fun r => List.not_lt.mpr r h
    simp [h, h']
  · have h' : p ≤ q := List.not_lt.mp h
    simp [h, h']
theorem sort_rows {m l : List (List Int)} (hp : l.Perm m) (hs : l.Pairwise (· < ·)) : (TT m).mergeSort (dataLe false id) = TT l := by
  have h1 := PySem.W.sort_maps (r := dataLe false (fun r : List Int => T r)) (s := dataLe false id) (fun r : List Int => T r) (l := m) (fun a _ b _ => rfl)
  rw [le_rows] at h1
  show (m.map fun r => T r).mergeSort (dataLe false id) = l.map T
  rw [← h1]
  congr 1
  have h2 : (m.mergeSort fun p q => decide (p ≤ q)).Pairwise (· ≤ ·) := (List.pairwise_mergeSort (le := fun p q : List Int => decide (p ≤ q)) (fun a b c h1 h2 => by
    have h1 := of_decide_eq_true h1
    have h2 := of_decide_eq_true h2
    exact decide_eq_true (List.le_trans h1 h2)) (fun a b => by
      rcases List.le_total a b with h | h <;> simp [h]) m).imp fun h => of_decide_eq_true h
  exact List.Perm.eq_of_pairwise (le := (· ≤ ·)) (fun a b _ _ h1 h2 => List.le_antisymm h1 h2) h2 (hs.imp fun h => List.le_of_lt h) ((List.mergeSort_perm _ _).trans hp.symm)
theorem depth_T (r : List Int) : (T r).depth ≤ 8 := by
  show PyData.depthAll (r.map .int) + 1 ≤ 8
  rw [PySem.W.depth_ints]; omega
theorem ok_rows {m : List (List Int)} (hne : ∀ r ∈ m, r ≠ []) : okSort (TT m) = true := by
  unfold okSort
  rw [Bool.and_eq_true, Bool.and_eq_true]
  refine ⟨⟨List.all_eq_true.mpr fun d hd => List.all_eq_true.mpr fun e he => ?_, Bool.or_eq_true_iff.mpr (.inl (List.all_eq_true.mpr fun d hd => ?_))⟩, List.all_eq_true.mpr fun d hd => ?_⟩
  · obtain ⟨a, _, rfl⟩ := List.mem_map.mp hd
    obtain ⟨b, _, rfl⟩ := List.mem_map.mp he
    show alikeAll (a.map .int) (b.map .int) = true
    exact PySem.W.alike_ints a b
  · obtain ⟨a, ha, rfl⟩ := List.mem_map.mp hd
    cases a with
    | nil => exact absurd rfl (hne _ ha)
    | cons x r => rfl
  · obtain ⟨a, _, rfl⟩ := List.mem_map.mp hd
    exact decide_eq_true (depth_T a)
theorem sort2_rows {m l : List (List Int)} (hp : l.Perm m) (hs : l.Pairwise (· < ·)) (hne : ∀ r ∈ m, r ≠ []) : pSort2 [.list (TT m)] = some (.list (TT l)) := by
  cases m with
  | nil =>
    cases hp.eq_nil
    exact z_sort2L (ns := [])
  | cons r m =>
    have e1 : pSorted [.list (TT (r :: m))] = none := rfl
    unfold pSort2
    rw [e1]
    show pSortD [.list (TT (r :: m))] = _
    show (if okSort (TT (r :: m)) = true then some (PyData.list ((TT (r :: m)).mergeSort (dataLe false id))) else none) = _
    rw [if_pos (ok_rows hne), sort_rows hp hs]
theorem pw_nodup {l : List (List Int)} (h : l.Pairwise (· < ·)) : l.Nodup := h.imp fun {a b} hab e => by subst e; exact List.lt_irrefl _ hab
theorem pw_uniq {l m : List (List Int)} (h1 : l.Pairwise (· < ·)) (h2 : m.Pairwise (· < ·)) (h : ∀ x, x ∈ l ↔ x ∈ m) : l = m :=
  List.Perm.eq_of_pairwise (le := (· ≤ ·)) (fun a b _ _ h1 h2 => List.le_antisymm h1 h2) (h1.imp fun h => List.le_of_lt h) (h2.imp fun h => List.le_of_lt h) ((List.perm_ext_iff_of_nodup (pw_nodup h1) (pw_nodup h2)).mpr h)
/-! ### orders as functions -/
def posIn (l : List Int) (v : Int) : Int := if v ∈ l then (l.idxOf v : Nat) + 1 else 0
def inv (o : List Int) : List Int := (rgI 1 1 o.length).map (posIn o)
theorem inv_len (o : List Int) : (inv o).length = o.length := by unfold inv; rw [List.length_map, Om.rg_len]
theorem ix_nat {l : List Int} {i x : Int} (h0 : 0 ≤ i) : Mt.ixI l i = some x ↔ l[i.toNat]? = some x := by unfold Mt.ixI; rw [if_pos h0]
theorem ix_lt {l : List Int} {i x : Int} (h0 : 0 ≤ i) (h : Mt.ixI l i = some x) : i < l.length := by
  rw [ix_nat h0] at h
  have := (List.getElem?_eq_some_iff.mp h).1
  omega
theorem ix_get {l : List Int} {i : Int} (h0 : 0 ≤ i) (h : i < l.length) : Mt.ixI l i = some (l[i.toNat]'(by omega)) := (ix_nat h0).mpr (List.getElem?_eq_getElem (by omega))
theorem idx_get {l : List Int} (hn : l.Nodup) {i : Nat} {x : Int} (h : l[i]? = some x) : l.idxOf x = i := by
  obtain ⟨hl, e⟩ := List.getElem?_eq_some_iff.mp h
  rw [← e]
  exact List.Nodup.idxOf_getElem hn i hl
theorem ix_inv {o : List Int} (ho : Om.IsR 1 o) {i x : Int} (h0 : 0 ≤ i) (h : Mt.ixI o i = some x) : 1 ≤ x ∧ x ≤ o.length ∧ Mt.ixI (inv o) (x - 1) = some (i + 1) := by
  have hm := Mt.mem_ixI h
  have hx := ho.mem.mp hm
  refine ⟨by omega, by omega, ?_⟩
  rw [ix_nat (by omega)]
  unfold inv rgI
  rw [List.getElem?_map, List.getElem?_map, List.getElem?_range (by omega)]
  simp only [Option.map_some]
  rw [show (1 : Int) + ((x - 1).toNat : Int) * 1 = x by omega]
  unfold posIn
  rw [if_pos hm, idx_get ho.nodup ((ix_nat h0).mp h)]
  congr 1; omega
theorem pos_all {o : List Int} (hn : o.Nodup) : o.map (posIn o) = rgI 1 1 o.length := by
  apply List.ext_getElem
  · rw [List.length_map, Om.rg_len]
  · intro i h1 h2
    rw [List.length_map] at h1
    rw [List.getElem_map]
    have e : (rgI 1 1 o.length)[i] = 1 + (i : Int) * 1 := by simp [rgI]
    rw [e]
    unfold posIn
    rw [if_pos (List.getElem_mem h1), idx_get hn (List.getElem?_eq_getElem h1)]
    omega
theorem inv_ord {o : List Int} (ho : Om.IsR 1 o) : Om.IsR 1 (inv o) := by
  unfold Om.IsR
  rw [inv_len, ← pos_all ho.nodup]
  exact (List.Perm.map (posIn o) ho).symm
theorem ext_ix {o p : List Int} (hl : o.length = p.length) (h : ∀ i x, 0 ≤ i → Mt.ixI o i = some x → Mt.ixI p i = some x) : o = p := by
  apply List.ext_getElem hl
  intro i h1 h2
  have := h (i : Int) o[i] (by omega) ((ix_nat (by omega)).mpr (by rw [show ((i : Int)).toNat = i by omega]; exact List.getElem?_eq_getElem h1))
  rw [ix_nat (by omega), show ((i : Int)).toNat = i by omega, List.getElem?_eq_getElem h2] at this
  exact (Option.some.inj this).symm
theorem inv_inv {o : List Int} (ho : Om.IsR 1 o) : inv (inv o) = o := by
  refine (ext_ix (by rw [inv_len, inv_len]) fun i x h0 h => ?_).symm
  obtain ⟨h1, h2, h3⟩ := ix_inv ho h0 h
  obtain ⟨h4, h5, h6⟩ := ix_inv (inv_ord ho) (by omega) h3
  rw [show i + 1 - 1 = i by omega, show x - 1 + 1 = x by omega] at h6
  exact h6
theorem ix_rev {o : List Int} {i x : Int} (h0 : 0 ≤ i) (h : Mt.ixI o i = some x) : Mt.ixI o.reverse (o.length - 1 - i) = some x := by
  have hl := ix_lt h0 h
  rw [ix_nat h0] at h
  rw [ix_nat (by omega), List.getElem?_reverse (by omega)]
  rw [show o.length - 1 - ((o.length : Int) - 1 - i).toNat = i.toNat by omega]
  exact h
theorem ix_mir {o : List Int} {i x : Int} (h0 : 0 ≤ i) (h : Mt.ixI o i = some x) : Mt.ixI (Om.mir o) i = some (o.length + 1 - x) := by
  rw [ix_nat h0] at h ⊢
  unfold Om.mir
  rw [List.getElem?_map, h]; rfl
theorem mir_len (o : List Int) : (Om.mir o).length = o.length := by unfold Om.mir; rw [List.length_map]
theorem rev_ord {o : List Int} (ho : Om.IsR 1 o) : Om.IsR 1 o.reverse := ho.perm (List.reverse_perm o)
theorem mir_mir (o : List Int) : Om.mir (Om.mir o) = o := by
  unfold Om.mir
  rw [List.length_map, List.map_map]
  conv => rhs; rw [← List.map_id o]
  exact List.map_congr_left fun x _ => by simp only [Function.comp, id]; omega
theorem mir_rev (o : List Int) : Om.mir o.reverse = (Om.mir o).reverse := by
  unfold Om.mir
  rw [List.length_reverse, List.map_reverse]
theorem inv_rev {o : List Int} (ho : Om.IsR 1 o) : inv o.reverse = Om.mir (inv o) := by
  have hr := rev_ord ho
  refine (ext_ix (by rw [mir_len, inv_len, inv_len, List.length_reverse]) fun i x h0 h => ?_)
  obtain ⟨a1, a2, a3⟩ := ix_inv (inv_ord hr) h0 h
  rw [inv_inv hr] at a3
  rw [inv_len, List.length_reverse] at a2
  have b := ix_rev (by omega) a3
  rw [List.reverse_reverse, List.length_reverse] at b
  obtain ⟨c1, c2, c3⟩ := ix_inv ho (by omega) b
  have d := ix_mir (by omega) c3
  rw [inv_len, show i + 1 - 1 = i by omega] at d
  rw [d]; congr 1; omega
/-- the eight that come of an order -/
theorem eight {o : List Int} (ho : Om.IsR 1 o) : inv (inv (inv (inv o.reverse).reverse).reverse).reverse = o := by
  have hi := inv_ord ho
  have e1 := inv_rev ho
  have hm := Om.mir_ord hi
  have e2 : inv (inv o.reverse).reverse = Om.mir o.reverse := by
    have hx : Om.IsR 1 (Om.mir (inv o)) := hm
    rw [e1, inv_rev hx]
    have e3 : Om.mir (inv o) = inv o.reverse := e1.symm
    rw [e3, inv_inv (rev_ord ho)]
  have e3 : Om.IsR 1 (Om.mir o.reverse) := Om.mir_ord (rev_ord ho)
  have e4 : ∀ p : List Int, Om.IsR 1 p → inv (inv p.reverse).reverse = Om.mir p.reverse := fun p hp => by
    rw [inv_rev hp, inv_rev (Om.mir_ord (inv_ord hp)), (inv_rev hp).symm, inv_inv (rev_ord hp)]
  rw [e2, e4 _ e3, show Om.mir o.reverse = (Om.mir o).reverse from mir_rev o, List.reverse_reverse, mir_mir]
theorem third {o : List Int} (ho : Om.IsR 1 o) : inv (inv o).reverse = Om.mir o := by
  rw [inv_rev (inv_ord ho), inv_inv ho]
/-! ### ways, turned about -/
theorem at_to {o : List Int} {v : Int → Int} : ∀ {es xs : List Int} {s : Int}, 0 ≤ s → Mt.At o v es xs s → xs.length = es.length ∧ xs.Pairwise (· < ·) ∧ (∀ x ∈ xs, s ≤ x ∧ x < o.length) ∧ ∀ p ∈ es.zip xs, Mt.ixI o p.2 = some (v p.1)
  | [], [], s, _, _ => ⟨rfl, .nil, ⟨(fun x h => by cases h), (fun p h => by cases h)⟩⟩
  | [], _ :: _, _, _, h => h.elim
  | _ :: _, [], _, _, h => h.elim
  | e :: es, x :: xs, s, h0, ⟨h1, h2, h3, h4⟩ => by
    obtain ⟨a1, a2, a3, a4⟩ := at_to (s := x + 1) (by omega) h4
    refine ⟨by simp [a1], List.pairwise_cons.mpr ⟨fun y hy => by have := (a3 y hy).1; omega, a2⟩, fun y hy => ?_, fun p hp => ?_⟩
    · rcases List.mem_cons.mp hy with rfl | hy
      · omega
      · have := a3 y hy; omega
    · rcases List.mem_cons.mp hp with rfl | hp
      · exact h2
      · exact a4 p hp
theorem asc_len {N : Int} : ∀ {xs : List Int} {x : Int}, (x :: xs).Pairwise (· < ·) → (∀ y ∈ x :: xs, y < N) → x + xs.length < N
  | [], x, _, h => by have := h x List.mem_cons_self; simpa using this
  | y :: xs, x, hp, h => by
    rw [List.pairwise_cons] at hp
    have h1 := hp.1 y List.mem_cons_self
    have := asc_len hp.2 fun z hz => h z (List.mem_cons_of_mem _ hz)
    simp only [List.length_cons]
    omega
theorem at_of {o : List Int} {v : Int → Int} : ∀ {es xs : List Int} {s : Int}, xs.length = es.length → xs.Pairwise (· < ·) → (∀ x ∈ xs, s ≤ x ∧ x < o.length) → (∀ p ∈ es.zip xs, Mt.ixI o p.2 = some (v p.1)) → Mt.At o v es xs s
  | [], [], s, _, _, _, _ => trivial
  | [], _ :: _, _, h, _, _, _ => by simp at h
  | _ :: _, [], _, h, _, _, _ => by simp at h
  | e :: es, x :: xs, s, h1, h2, h3, h4 => by
    have hl := asc_len h2 fun y hy => (h3 y hy).2
    rw [List.pairwise_cons] at h2
    exact ⟨(h3 x List.mem_cons_self).1, h4 (e, x) List.mem_cons_self, hl, at_of (by simpa using h1) h2.2 (fun y hy => ⟨by have := h2.1 y hy; omega, (h3 y (List.mem_cons_of_mem _ hy)).2⟩) fun p hp => h4 p (List.mem_cons_of_mem _ hp)⟩
structure Emb (o q : List Int) (u v : Int → Int) : Prop where
  uu : ∀ i j : Int, 0 ≤ i → i < j → j < q.length → u i < u j
  vv : ∀ a b : Int, 1 ≤ a → a < b → b ≤ q.length → v a < v b
  im : ∀ i e : Int, 0 ≤ i → Mt.ixI q i = some e → 0 ≤ u i ∧ Mt.ixI o (u i) = some (v e)
theorem occ_emb {o q xs : List Int} (hq : Om.IsR 1 q) (h : Occ o q xs) : ∃ u v, Emb o q u v ∧ xs = (rgI 0 1 q.length).map u := by
  obtain ⟨v, hv, ha⟩ := h
  obtain ⟨h1, h2, h3, h4⟩ := at_to (Int.le_refl 0) ha
  refine ⟨fun i => xs.getD i.toNat 0, v, ⟨fun i j h0 hij hj => ?_, fun a b ha hab hb => hv a (hq.mem.mpr (by omega)) b (hq.mem.mpr (by omega)) hab, fun i e h0 hi => ?_⟩, ?_⟩
  · show xs.getD i.toNat 0 < xs.getD j.toNat 0
    rw [List.getD_eq_getElem?_getD, List.getD_eq_getElem?_getD, List.getElem?_eq_getElem (by omega), List.getElem?_eq_getElem (by omega)]
    exact List.pairwise_iff_getElem.mp h2 i.toNat j.toNat (by omega) (by omega) (by omega)
  · have hl := ix_lt h0 hi
    rw [ix_nat h0] at hi
    have hx : xs[i.toNat]? = some (xs[i.toNat]'(by omega)) := List.getElem?_eq_getElem (by omega)
    have hm : (e, xs[i.toNat]'(by omega)) ∈ q.zip xs := List.mem_of_getElem? (i := i.toNat) (by rw [List.getElem?_zip_eq_some]; exact ⟨hi, hx⟩)
    have h5 := h4 _ hm
    show 0 ≤ xs.getD i.toNat 0 ∧ Mt.ixI o (xs.getD i.toNat 0) = some (v e)
    rw [List.getD_eq_getElem?_getD, hx]
    exact ⟨(h3 _ (List.getElem_mem (by omega))).1, h5⟩
  · apply List.ext_getElem
    · rw [List.length_map, Om.rg_len, h1]
    · intro i g1 g2
      simp [rgI, List.getD_eq_getElem?_getD, List.getElem?_eq_getElem g1]
theorem emb_occ {o q : List Int} {u v : Int → Int} (hq : Om.IsR 1 q) (h : Emb o q u v) : Occ o q ((rgI 0 1 q.length).map u) := by
  have hin : ∀ i : Nat, i < q.length → 0 ≤ u i ∧ ∃ e, q[i]? = some e ∧ Mt.ixI o (u i) = some (v e) := fun i hi => by
    have hi' : q[i]? = some q[i] := List.getElem?_eq_getElem hi
    have := h.im (i : Int) q[i] (by omega) ((ix_nat (by omega)).mpr (by rw [show ((i : Int)).toNat = i by omega]; exact hi'))
    exact ⟨this.1, _, hi', this.2⟩
  refine ⟨v, fun a ha b hb hab => h.vv a b (by have := hq.mem.mp ha; omega) hab (by have := hq.mem.mp hb; omega), at_of (by rw [List.length_map, Om.rg_len]) ?_ (fun x hx => ?_) fun p hp => ?_⟩
  · rw [List.pairwise_map]
    refine List.Pairwise.imp_of_mem (R := (· < ·)) (fun {a b} ha hb hab => ?_) (Om.rg_sorted 0 q.length)
    have h1 := Om.mem_rg.mp ha
    have h2 := Om.mem_rg.mp hb
    exact h.uu a b (by omega) hab (by omega)
  · obtain ⟨i, hi, rfl⟩ := List.mem_map.mp hx
    have h1 := Om.mem_rg.mp hi
    obtain ⟨h2, e, _, h3⟩ := hin i.toNat (by omega)
    rw [show ((i.toNat : Nat) : Int) = i by omega] at h2 h3
    exact ⟨h2, ix_lt h2 h3⟩
  · obtain ⟨i, hi⟩ := List.getElem?_of_mem hp
    rw [List.getElem?_zip_eq_some] at hi
    obtain ⟨g1, g2⟩ := hi
    have hl := (List.getElem?_eq_some_iff.mp g1).1
    obtain ⟨h2, e, h4, h3⟩ := hin i hl
    rw [g1] at h4
    cases h4
    rw [List.getElem?_map] at g2
    unfold rgI at g2
    rw [List.getElem?_map, List.getElem?_range hl] at g2
    simp only [Option.map_some, Option.some.injEq] at g2
    rw [← g2, show (0 : Int) + (i : Int) * 1 = i by omega]
    exact h3
end Sw
set_option Elab.async false
set_option linter.all false
set_option maxRecDepth 100000
set_option maxHeartbeats 400000
namespace Sw
open PySem Z
section
variable {o q xs : List Int} {u v : Int → Int}
theorem emb_rev (h : Emb o q u v) : Emb o.reverse q.reverse (fun i => (o.length : Int) - 1 - u ((q.length : Int) - 1 - i)) v := by
  refine ⟨fun i j h0 hij hj => ?_, fun a b ha hab hb => h.vv a b ha hab (by simpa using hb), fun i e h0 hi => ?_⟩
  · rw [List.length_reverse] at hj
    have := h.uu ((q.length : Int) - 1 - j) ((q.length : Int) - 1 - i) (by omega) (by omega) (by omega)
    show (o.length : Int) - 1 - u ((q.length : Int) - 1 - i) < (o.length : Int) - 1 - u ((q.length : Int) - 1 - j)
    omega
  · have hl := ix_lt h0 hi
    have h1 := ix_rev h0 hi
    rw [List.reverse_reverse, List.length_reverse] at h1
    rw [List.length_reverse] at hl
    obtain ⟨h2, h3⟩ := h.im _ _ (by omega) h1
    have h4 := ix_lt h2 h3
    exact ⟨by show 0 ≤ (o.length : Int) - 1 - u ((q.length : Int) - 1 - i); omega, ix_rev h2 h3⟩
theorem emb_mir (h : Emb o q u v) : Emb (Om.mir o) (Om.mir q) u (fun a => (o.length : Int) + 1 - v ((q.length : Int) + 1 - a)) := by
  refine ⟨fun i j h0 hij hj => h.uu i j h0 hij (by rw [mir_len] at hj; exact hj), fun a b ha hab hb => ?_, fun i e h0 hi => ?_⟩
  · rw [mir_len] at hb
    have := h.vv ((q.length : Int) + 1 - b) ((q.length : Int) + 1 - a) (by omega) (by omega) (by omega)
    show (o.length : Int) + 1 - v ((q.length : Int) + 1 - a) < (o.length : Int) + 1 - v ((q.length : Int) + 1 - b)
    omega
  · have h1 := ix_mir h0 hi
    rw [mir_mir, mir_len] at h1
    obtain ⟨h2, h3⟩ := h.im _ _ h0 h1
    exact ⟨h2, ix_mir h2 h3⟩
theorem emb_inv (ho : Om.IsR 1 o) (hq : Om.IsR 1 q) (h : Emb o q u v) : Emb (inv o) (inv q) (fun j => v (j + 1) - 1) (fun a => u (a - 1) + 1) := by
  refine ⟨fun i j h0 hij hj => ?_, fun a b ha hab hb => ?_, fun j e h0 hj => ?_⟩
  · rw [inv_len] at hj
    have := h.vv (i + 1) (j + 1) (by omega) (by omega) (by omega)
    show v (i + 1) - 1 < v (j + 1) - 1
    omega
  · rw [inv_len] at hb
    have := h.uu (a - 1) (b - 1) (by omega) (by omega) (by omega)
    show u (a - 1) + 1 < u (b - 1) + 1
    omega
  · obtain ⟨a1, a2, a3⟩ := ix_inv (inv_ord hq) h0 hj
    rw [inv_inv hq] at a3
    obtain ⟨h2, h3⟩ := h.im _ _ (by omega) a3
    obtain ⟨b1, b2, b3⟩ := ix_inv ho h2 h3
    exact ⟨by show 0 ≤ v (j + 1) - 1; omega, b3⟩
def flp (n : Int) (xs : List Int) : List Int := xs.reverse.map fun x => n - 1 - x
theorem flp_flp (n : Int) (xs : List Int) : flp n (flp n xs) = xs := by
  unfold flp
  rw [← List.map_reverse, List.reverse_reverse, List.map_map]
  conv => rhs; rw [← List.map_id xs]
  exact List.map_congr_left fun x _ => by simp only [Function.comp, id]; omega
theorem flp_map (n : Int) (k : Nat) (u : Int → Int) : flp n ((rgI 0 1 k).map u) = (rgI 0 1 k).map fun i => n - 1 - u ((k : Int) - 1 - i) := by
  apply List.ext_getElem
  · simp [flp]
  · intro i h1 h2
    simp only [List.length_map, Om.rg_len] at h2
    simp [flp, rgI]
    congr 2
    omega
theorem occ_rev (hq : Om.IsR 1 q) (h : Occ o q xs) : Occ o.reverse q.reverse (flp o.length xs) := by
  obtain ⟨u, v, he, rfl⟩ := occ_emb hq h
  have := emb_occ (rev_ord hq) (emb_rev he)
  rw [List.length_reverse] at this
  rw [flp_map]
  exact this
theorem occ_mir (hq : Om.IsR 1 q) (h : Occ o q xs) : Occ (Om.mir o) (Om.mir q) xs := by
  obtain ⟨u, v, he, rfl⟩ := occ_emb hq h
  have := emb_occ (Om.mir_ord hq) (emb_mir he)
  rw [mir_len] at this
  exact this
def gI (o xs : List Int) : List Int := srt (xs.map fun x => (Mt.ixI o x).getD 0 - 1)
theorem gI_map (hq : Om.IsR 1 q) (h : Emb o q u v) : gI o ((rgI 0 1 q.length).map u) = (rgI 0 1 q.length).map fun j => v (j + 1) - 1 := by
  have e1 : ((rgI 0 1 q.length).map u).map (fun x => (Mt.ixI o x).getD 0 - 1) = q.map fun e => v e - 1 := by
    apply List.ext_getElem
    · simp [Om.rg_len]
    · intro i h1 h2
      simp only [List.length_map] at h2
      have hi : q[i]? = some q[i] := List.getElem?_eq_getElem h2
      have := (h.im (i : Int) q[i] (by omega) ((ix_nat (by omega)).mpr (by rw [show ((i : Int)).toNat = i by omega]; exact hi))).2
      simp [rgI, this]
  have e2 : (rgI 0 1 q.length).map (fun j => v (j + 1) - 1) = (rgI 1 1 q.length).map fun e => v e - 1 := by
    unfold rgI
    rw [List.map_map, List.map_map]
    exact List.map_congr_left fun i _ => by simp only [Function.comp]; congr 2; omega
  unfold gI
  rw [e1, e2]
  refine (srt_unique ((List.Perm.map _ hq).symm) ?_).symm
  rw [List.pairwise_map]
  refine List.Pairwise.imp_of_mem (R := (· < ·)) (fun {a b} ha hb hab => ?_) (Om.rg_sorted 1 q.length)
  have h1 := Om.mem_rg.mp ha
  have h2 := Om.mem_rg.mp hb
  have := h.vv a b (by omega) hab (by omega)
  omega
theorem occ_inv (ho : Om.IsR 1 o) (hq : Om.IsR 1 q) (h : Occ o q xs) : Occ (inv o) (inv q) (gI o xs) ∧ gI (inv o) (gI o xs) = xs := by
  obtain ⟨u, v, he, rfl⟩ := occ_emb hq h
  have hi := emb_inv ho hq he
  have h1 := emb_occ (inv_ord hq) hi
  have h2 := gI_map (inv_ord hq) hi
  rw [inv_len] at h1 h2
  rw [gI_map hq he]
  refine ⟨h1, ?_⟩
  rw [h2]
  exact List.map_congr_left fun j _ => by show u (j + 1 - 1) + 1 - 1 = u j; rw [show j + 1 - 1 = j by omega]; omega
theorem perm_of {W W' : List (List Int)} {f g : List Int → List Int} (h1 : W.Pairwise (· < ·)) (h2 : W'.Pairwise (· < ·)) (hf : ∀ x ∈ W, f x ∈ W' ∧ g (f x) = x) (hg : ∀ y ∈ W', g y ∈ W ∧ f (g y) = y) : W'.Perm (W.map f) := by
  refine ((List.perm_ext_iff_of_nodup (pw_nodup h2) ?_).mpr fun y => ⟨fun hy => List.mem_map.mpr ⟨g y, hg y hy⟩, fun hy => ?_⟩)
  · show (W.map f).Pairwise (· ≠ ·)
    rw [List.pairwise_map]
    refine List.Pairwise.imp_of_mem (R := (· ≠ ·)) (fun {a b} ha hb hab e => hab ?_) (pw_nodup h1)
    rw [← (hf a ha).2, e, (hf b hb).2]
  · obtain ⟨x, hx, rfl⟩ := List.mem_map.mp hy
    exact (hf x hx).1
theorem ways_rev (ho : Om.IsR 1 o) (hq : Om.IsR 1 q) (hl : q.length ≤ 900) : (waysOf o.reverse q.reverse).Perm ((waysOf o q).map (flp o.length)) := by
  have hl' : q.reverse.length ≤ 900 := by simpa using hl
  refine perm_of (g := flp o.length) (ways_pw _ _ _) (ways_pw _ _ _) (fun x hx => ⟨?_, flp_flp _ _⟩) (fun y hy => ⟨?_, flp_flp _ _⟩)
  · exact (mem_ways (rev_ord ho) (rev_ord hq) hl').mpr (occ_rev hq ((mem_ways ho hq hl).mp hx))
  · have := occ_rev (rev_ord hq) ((mem_ways (rev_ord ho) (rev_ord hq) hl').mp hy)
    rw [List.reverse_reverse, List.reverse_reverse, List.length_reverse] at this
    exact (mem_ways ho hq hl).mpr this
theorem ways_mir (ho : Om.IsR 1 o) (hq : Om.IsR 1 q) (hl : q.length ≤ 900) : waysOf (Om.mir o) (Om.mir q) = waysOf o q := by
  have hl' : (Om.mir q).length ≤ 900 := by rw [mir_len]; exact hl
  refine pw_uniq (ways_pw _ _ _) (ways_pw _ _ _) fun x => ⟨fun h => ?_, fun h => ?_⟩
  · have := occ_mir (Om.mir_ord hq) ((mem_ways (Om.mir_ord ho) (Om.mir_ord hq) hl').mp h)
    rw [mir_mir, mir_mir] at this
    exact (mem_ways ho hq hl).mpr this
  · exact (mem_ways (Om.mir_ord ho) (Om.mir_ord hq) hl').mpr (occ_mir hq ((mem_ways ho hq hl).mp h))
theorem ways_inv (ho : Om.IsR 1 o) (hq : Om.IsR 1 q) (hl : q.length ≤ 900) : (waysOf (inv o) (inv q)).Perm ((waysOf o q).map (gI o)) := by
  have hl' : (inv q).length ≤ 900 := by rw [inv_len]; exact hl
  refine perm_of (g := gI (inv o)) (ways_pw _ _ _) (ways_pw _ _ _) (fun x hx => ?_) (fun y hy => ?_)
  · obtain ⟨h1, h2⟩ := occ_inv ho hq ((mem_ways ho hq hl).mp hx)
    exact ⟨(mem_ways (inv_ord ho) (inv_ord hq) hl').mpr h1, h2⟩
  · obtain ⟨h1, h2⟩ := occ_inv (inv_ord ho) (inv_ord hq) ((mem_ways (inv_ord ho) (inv_ord hq) hl').mp hy)
    rw [inv_inv ho, inv_inv hq] at h1
    rw [inv_inv ho] at h2
    exact ⟨(mem_ways ho hq hl).mpr h1, h2⟩
end
end Sw
set_option Elab.async false
set_option linter.all false
set_option maxRecDepth 100000
set_option maxHeartbeats 400000
namespace Sw
open PySem Z
theorem set_map {n : Nat} {f f' : Int → Int} {i : Nat} (hi : i < n) (h : ∀ v, v ≠ (i : Int) + 1 → f' v = f v) : ((rgI 1 1 n).map f).set i (f' ((i : Int) + 1)) = (rgI 1 1 n).map f' := by
  apply List.ext_getElem
  · simp
  · intro k h1 h2
    simp [Om.rg_len] at h1 h2
    rw [List.getElem_set]
    have hg : ∀ (h3 : k < (rgI 1 1 n).length), (rgI 1 1 n)[k] = (k : Int) + 1 := fun h3 => by simp [rgI]; omega
    by_cases e : i = k
    · subst e
      rw [if_pos rfl, List.getElem_map, hg]
    · rw [if_neg e, List.getElem_map, List.getElem_map, hg, h]
      omega
theorem pos_snoc {pre : List Int} {x : Int} (h : x ∉ pre) (v : Int) : posIn (pre ++ [x]) v = if v = x then (pre.length : Int) + 1 else posIn pre v := by
  unfold posIn
  by_cases e : v = x
  · subst e
    rw [if_pos (by simp), if_pos rfl, List.idxOf_append, if_neg h]
    simp
  · rw [if_neg e]
    by_cases hm : v ∈ pre
    · rw [if_pos (by simp [hm]), if_pos hm, List.idxOf_append, if_pos hm]
    · rw [if_neg (by simp [hm, e]), if_neg hm]
/-- a number's place is written -/
theorem pos_store {o pre qs : List Int} {x : Int} (ho : Om.IsR 1 o) (e : o = pre ++ x :: qs) : ∃ i : Nat, x = (i : Int) + 1 ∧ i < o.length ∧ L2.ixN o.length (x - 1) = some i ∧ pre.length < o.length ∧ o[pre.length]? = some x ∧
    (((rgI 1 1 o.length).map (posIn pre)).map PyData.int).set i (.int ((pre.length : Int) + 1)) = ((rgI 1 1 o.length).map (posIn (pre ++ [x]))).map .int := by
  have hg : o[pre.length]? = some x := by rw [e]; simp
  have hx := ho.mem.mp (List.mem_of_getElem? hg)
  have hnd : x ∉ pre := fun z => by
    have := ho.nodup
    rw [e, List.nodup_append] at this
    exact this.2.2 _ z x (by simp) rfl
  obtain ⟨i, hi⟩ : ∃ i : Nat, x = (i : Int) + 1 := ⟨(x - 1).toNat, by omega⟩
  have hil : i < o.length := by omega
  refine ⟨i, hi, hil, by rw [hi, show ((i : Int) + 1 - 1) = (i : Int) by omega]; exact ixN_nat hil, (List.getElem?_eq_some_iff.mp hg).1, hg, ?_⟩
  rw [← set_map (f := posIn pre) (f' := posIn (pre ++ [x])) hil (fun v hv => by rw [pos_snoc hnd, if_neg (by rw [hi]; exact hv)]), List.map_set]
  congr 2
  rw [pos_snoc hnd, if_pos hi.symm]
theorem pos_first (n : Nat) : List.replicate n (PyData.int 0) = ((rgI 1 1 n).map (posIn [])).map .int := by
  rw [List.map_map]
  refine (List.eq_replicate_iff.mpr ⟨by rw [List.length_map, Om.rg_len], fun x hx => ?_⟩).symm
  obtain ⟨y, _, rfl⟩ := List.mem_map.mp hx
  rfl
theorem rg_cons (a : Int) (n : Nat) : rgI a 1 (n + 1) = a :: rgI (a + 1) 1 n := by
  apply List.ext_getElem
  · simp [Om.rg_len]
  · intro i h1 h2
    cases i with
    | zero => simp [rgI]
    | succ i => simp [rgI]; omega
theorem ways_count {o q : List Int} (ho : o.length ≤ 16) (hq : q.length ≤ 16) (kq : Om.IsR 1 q) (hq0 : q ≠ []) : (waysOf o q).length ≤ 2 ^ o.length := by
  have hb := bet_order kq
  obtain ⟨hp, hV⟩ := plan_ok hb (by simp; omega)
  have hpl := Mt.plan_len hp
  have hpos := List.length_pos_iff.mpr hq0
  have hpow : (2 : Nat) ^ o.length ≤ 2 ^ 16 := Nat.pow_le_pow_right (by omega) ho
  obtain ⟨b, kt', xs', e1, _, e3, _, e5, _⟩ := Mt.gat_ok gKey gKey_inj o (planFrom [0, (q.length : Int) + 1] q) (-1) (by omega) (by omega) 20 0 (by omega) [] [] [] [0, (o.length : Int) + 1] o.length rfl (by omega) (fun q hq => by cases hq) (by simp [Mt.startOf]) (by simp [Mt.startOf]) (by simpa using hV) (by simp) (by simp; omega) (by simp; omega) (.inl (by omega))
  have hst : Mt.startOf ([] : List Int) = 0 := rfl
  rw [hst, List.drop_zero, List.nil_append] at e3
  have e4 : xs' = waysOf o q := by
    rw [e3]
    unfold waysOf Mt.cut
    simp
  rw [← e4]
  simpa using e5
/-- the order that numbers make is an order -/
theorem rank_sorted : ∀ {l : List Int}, l.Pairwise (· < ·) → l.map (fun y => 1 + ((l.filter fun x => decide (x < y)).length : Int)) = rgI 1 1 l.length
  | [], _ => rfl
  | a :: l, h => by
    rw [List.pairwise_cons] at h
    have ih := rank_sorted h.2
    rw [List.length_cons, rg_cons, List.map_cons]
    have e0 : ((a :: l).filter fun x => decide (x < a)) = [] := List.filter_eq_nil_iff.mpr fun x hx => by
      rcases List.mem_cons.mp hx with rfl | hx
      · simp
      · have := h.1 x hx; simp; omega
    rw [e0]
    congr 1
    have e1 : l.map (fun y => 1 + (((a :: l).filter fun x => decide (x < y)).length : Int)) = (l.map (fun y => 1 + ((l.filter fun x => decide (x < y)).length : Int))).map (· + 1) := by
      rw [List.map_map]
      refine List.map_congr_left fun y hy => ?_
      simp only [Function.comp]
      rw [List.filter_cons_of_pos (by have := h.1 y hy; simp; omega), List.length_cons]
      omega
    rw [e1, ih]
    unfold rgI
    rw [List.map_map]
    exact List.map_congr_left fun i _ => by simp only [Function.comp]; omega
theorem rank_ord {l : List Int} (hn : l.Nodup) : Om.IsR 1 (l.map (fun y => 1 + ((l.filter fun x => decide (x < y)).length : Int))) := by
  have hp := srt_perm l
  have hs : (srt l).Pairwise (· < ·) := by
    have h1 := srt_sorted l
    have h2 : (srt l).Pairwise (· ≠ ·) := (List.Perm.nodup_iff hp).mpr hn
    exact (h1.and h2).imp fun {a b} h => by omega
  have e1 := rank_sorted hs
  have e2 : (fun y : Int => 1 + ((l.filter fun x => decide (x < y)).length : Int)) = fun y => 1 + (((srt l).filter fun x => decide (x < y)).length : Int) := by
    funext y
    rw [((hp.filter _).length_eq)]
  unfold Om.IsR
  rw [List.length_map, e2, ← hp.length_eq, ← e1]
  exact (hp.map _).symm
end Sw
namespace Z
open PySem
theorem acons_eq {f : EX} {a : AX} {Γ Γ1 Γ2 : Z.Env} {x : PyData} {ys : List PyData} (h1 : f Γ = some (x, Γ1)) (h2 : a Γ1 = some (ys, Γ2)) : aCons f a Γ = some (x :: ys, Γ2) := by
  show (f Γ).bind _ = _
  rw [h1]
  show (a Γ1).bind _ = _
  rw [h2]; rfl
theorem op_eq {p : PyData → PyData → Option PyData} {f g : EX} {Γ Γ1 Γ2 : Z.Env} {x y z : PyData} (h1 : f Γ = some (x, Γ1)) (h2 : g Γ1 = some (y, Γ2)) (h3 : p x y = some z) : eOp p f g Γ = some (z, Γ2) := by
  show (f Γ).bind _ = _
  rw [h1]
  show (g Γ1).bind _ = _
  rw [h2]
  show (p x y).bind _ = _
  rw [h3]; rfl
theorem callM0 {p : List PyData → List PyData → Option (PyData × List PyData)} {a : AX} {c0 cs cs' xs : List PyData} {r0 r1 : List Slot} {z : PyData} (h1 : a (.par c0 :: r0) = some (xs, .par cs :: r1)) (h2 : p cs xs = some (z, cs')) : eCallM 0 p a (.par c0 :: r0) = some (z, .par cs' :: r1) := by
  show (a (.par c0 :: r0)).bind _ = _
  rw [h1]
  show (p cs xs).bind _ = _
  rw [h2]; rfl
section
variable {p : List PyData → Option PyData} {f : EX} {n : NX} {a : AX} {Γ Γ1 : Z.Env} {xs ds : List PyData} {z : PyData}
theorem call_eq (h1 : a Γ = some (xs, Γ1)) (h2 : p xs = some z) : eCall p a Γ = some (z, Γ1) := by
  show (a Γ).bind _ = _
  rw [h1]
  show (p xs).bind _ = _
  rw [h2]; rfl
theorem call1_eq (h1 : f Γ = some (z, Γ1)) {y : PyData} (h2 : p [z] = some y) : eCall p (aCons f aNil) Γ = some (y, Γ1) := call_eq (acons_eq h1 rfl) h2
theorem call2_eq {g : EX} {Γ2 : Z.Env} {w y : PyData} (h1 : f Γ = some (z, Γ1)) (h3 : g Γ1 = some (w, Γ2)) (h2 : p [z, w] = some y) : eCall p (aCons f (aCons g aNil)) Γ = some (y, Γ2) := call_eq (acons_eq h1 (acons_eq h3 rfl)) h2
theorem lst_eq (h1 : a Γ = some (xs, Γ1)) (h2 : xs.length ≤ 100000) : eLst a Γ = some (.list xs, Γ1) := by
  show (a Γ).bind _ = _
  rw [h1]
  show (if xs.length ≤ 100000 then _ else _) = _
  rw [if_pos h2]
theorem nown_eq (h1 : n Γ = some (.own ds, Γ1)) : nOwn n Γ = some (.list ds, Γ1) := by
  show (n Γ).bind _ = _
  rw [h1]; rfl
theorem ret_eq (h1 : f Γ = some (z, Γ1)) : sRet f Γ = some (.rt z Γ1) := by
  show (f Γ).bind _ = _
  rw [h1]; rfl
theorem setv_eq {i : Nat} (h1 : f Γ = some (z, Γ1)) : sSet i (nVal f) Γ = some (.nx (Γ1.set i (.val z))) := by
  show ((f Γ).bind _).bind _ = _
  rw [h1]; rfl
theorem tru_eq {b : Bool} (h1 : f Γ = some (.bool b, Γ1)) : tTruX f Γ = some (b, Γ1) := by
  show (f Γ).bind _ = _
  rw [h1]; rfl
theorem not_eq {t : TX} {b : Bool} (h1 : t Γ = some (b, Γ1)) : tNotX t Γ = some (!b, Γ1) := by
  show (t Γ).bind _ = _
  rw [h1]; rfl
theorem ifno_eq {t : TX} {s1 s2 : SX} (h1 : t Γ = some (false, Γ1)) : sIf t s1 s2 Γ = s2 Γ1 := by
  show (t Γ).bind _ = _
  rw [h1]; rfl
theorem ifyes_eq {t : TX} {s1 s2 : SX} (h1 : t Γ = some (true, Γ1)) : sIf t s1 s2 Γ = s1 Γ1 := by
  show (t Γ).bind _ = _
  rw [h1]; rfl
theorem ifnot_eq {s1 : SX} (h1 : f Γ = some (.bool true, Γ1)) : sIf (tNotX (tTruX f)) s1 sNext Γ = some (.nx Γ1) := by
  rw [ifno_eq (not_eq (tru_eq h1))]; rfl
end
end Z
set_option Elab.async false
set_option linter.all false
set_option maxRecDepth 100000
set_option maxHeartbeats 2000000
namespace Law
open PySem L2 Evl PyProof.Rows Z
open Mt (Pl3 Fnd lastOr startOf)
def top (i : Nat) : Stmt := PySem.Challenge.pw_wholeorders_k14_whole_lists_turned_about.main.body.getD i (.Pass ⟨0, 0, 0, 0⟩)
/-! ### _gather, _gather_behind -/
abbrev t_gather : Stmt := top 12
abbrev t_gather_behind : Stmt := top 13
abbrev N_gather : List Str := ["task", "chosen", "held", "order", "plan", "most", "failed", "found", "at", "below", "above", "kept", "bottom", "top", "many", "start", "place", "number"]
abbrev N_gather_behind : List Str := ["task", "chosen", "grown", "plan", "failed", "rest", "key", "index"]
theorem sc_gather : FnScope N_gather ["task", "chosen", "held"] (defScope t_gather) := ⟨rfl, rfl, rfl, by decide +kernel, rfl, by decide +kernel, by decide +kernel⟩
theorem sc_gather_behind : FnScope N_gather_behind ["task", "chosen", "grown"] (defScope t_gather_behind) := ⟨rfl, rfl, rfl, by decide +kernel, rfl, by decide +kernel, by decide +kernel⟩
section
variable {P : Program} {w : World} {K : PySem.W.Frag} {mg : Str → Option Value} {base : Heap}
abbrev XB (P : Program) (w : World) (K : PySem.W.Frag) (mg : Str → Option Value) (base : Heap) (f : Addr) (cdv : Value) (A : Around) (outer : List PySem.Env) (s : Shared) (H : Hp) (E : XK) : Cx := (cxOf CX0 P w K mg base N_gather_behind "_gather_behind" (defScope t_gather_behind) f cdv A outer s H E).nox
abbrev XG (P : Program) (w : World) (K : PySem.W.Frag) (mg : Str → Option Value) (base : Heap) (f : Addr) (cdv : Value) (A : Around) (outer : List PySem.Env) (s : Shared) (H : Hp) (E : XK) : Cx := (cxOf CX0 P w K mg base N_gather "_gather" (defScope t_gather) f cdv A outer s H E).nox
abbrev bB : List Stmt := defBody t_gather_behind
abbrev bG : List Stmt := defBody t_gather
theorem ok_gather_behind (D : Df K mg "_gather_behind" t_gather_behind ["task", "chosen", "grown"]) {lv : Nat} {rec : List Int → List Pl3 → Int → Rec} (GA : Ok P w K mg base lv "_gather" t_gather ["task", "chosen", "held"] (spG K rec)) (m_len : mg "len" = none) (m_tuple : mg "tuple" = none) :
    Ok P w K mg base (lv + 1) "_gather_behind" t_gather_behind ["task", "chosen", "grown"] (spB K fun o p m => Mt.behind gKey p (rec o p m)) := by
  obtain ⟨f, fd, Fn, g, bi⟩ := D
  obtain ⟨fa, fda, FnA, ga, bia, GA⟩ := GA
  refine ⟨f, fd, Fn, g, bi, Fn.ok sc_gather_behind (fun vs H Q E h => h.1) fun cdv A outer s H vs Q E hr h => ?_⟩
  obtain ⟨hl, F, t, bd, bf, v1, v2, o, p, m, kt, xs, chosen, grown, kt', xs', rfl, ex, pl, Tt, d1, d2, e, q⟩ := h
  have hu : (XB P w K mg base f cdv A outer s H E).A.units + 64 < cLine := hr.units
  have nd : (N_gather_behind : List Str).Nodup := sc_gather_behind.nd
  obtain ⟨tR, pR, vR⟩ : EP (XB P w K mg base f cdv A outer s H E) (exprOf (stAt 1 bB)) (eCall pTuple (aCons (nOwn (nLc (itSeq (eOp pIx (eIxV 3 (eOp pSub (eLenV 1) (eC (.int 1)))) (eC (.int 2)))) (gxName 7) tYesX (eIxV 2 (eVar 7)) [7])) aNil)) :=
    ep_callTy b_tuple m_tuple (by decide +kernel) (ap_cons (ep_own (np_lc [("index", 7)] (ip_seq (ep_ix i_ix (ep_ixV (i := 3) (ep_op o_sub (ep_lenV (i := 1) m_len) ep_int)) ep_int)) (blkOk_by (N := N_gather_behind) (sc := defScope t_gather_behind) (by decide +kernel)) (fun _ => (gp_name (i := 7) nd)) (fun _ => tsp_nil) (fun _ => (ep_ixV (i := 2) (ep_var 7))) rfl nd)) ap_nil)
  obtain ⟨tK, pK, vK⟩ : EP (XB P w K mg base f cdv A outer s H E) (exprOf (stAt 2 bB)) (eTup (aCons (eLenV 1) (aCons (eVar 5) aNil))) := ep_tup (ap_cons (ep_lenV (i := 1) m_len) (ap_cons (ep_var 5) ap_nil))
  obtain ⟨tL, pL, vL⟩ : EP (XB P w K mg base f cdv A outer s H E) (argOf 0 (exprOf (stAt 3 bB))) (eIxV 1 (eUn pNeg (eC (.int 1)))) := ep_ixV (i := 1) (ep_un u_neg ep_int)
  obtain ⟨tD, pD, vD⟩ : EP (XB P w K mg base f cdv A outer s H E) (argOf 1 (argOf 1 (exprOf (stAt 3 bB)))) (eOp pAdd (eIxV 1 (eUn pNeg (eC (.int 1)))) (eC (.int 1))) := ep_op o_add (ep_ixV (i := 1) (ep_un u_neg ep_int)) ep_int
  obtain ⟨tV, pV, vV⟩ : EP (XB P w K mg base f cdv A outer s H E) (exprOf (stAt 0 (bodyOf (stAt 0 (bodyOf (stAt 3 bB)))))) (eIxV 1 (eUn pNeg (eC (.int 1)))) := ep_ixV (i := 1) (ep_un u_neg ep_int)
  obtain ⟨rl, o1, o2⟩ := (c_lt : OpE (XB P w K mg base f cdv A outer s H E) (compareOp .Lt) pLt)
  have pC : PE (XB P w K mg base f cdv A outer s H E) (argOf 0 (exprOf (stAt 0 (bodyOf (stAt 3 bB))))) (tCall (spG K rec) [] E0 (tCons (tVar 0) (tCons (tVar 1) (tCons (tVar 5) tNil)))) :=
    pe_call GA hr (by rfl) ga FnA.kp bia .nil pass0 (pa_cons (pv _) (pa_cons (pv _) (pa_cons (pv _) pa_nil)))
  refine ⟨_, pss_cons (ps_par (i := 3) (j := 4) rfl nd rfl rfl (by decide) rfl rfl (pa_cons (pe_ix (ix_list.or ix_tup) (pv 0) pe_int (fun _ _ => rfl)) (pa_cons (pe_ix (ix_list.or ix_tup) (pv 0) pe_int (fun _ _ => rfl)) pa_nil)) (by rfl) (by rfl))
    (pss_cons (ps_set nd (i := 5) rfl (by first | exact Or.inl rfl | exact Or.inr rfl) pR) (pss_cons (ps_set nd (i := 6) rfl (by first | exact Or.inl rfl | exact Or.inr rfl) pK)
    (pss_one (ps_if (pt_cmpR o1 pL (pe_odget hu (pv 4) (pv 6) pD) (by rfl)) (pss_one (ps_if (pt_not (pt_truth pC (by intro _; rfl))) (pss_one (ps_odput hu (pv 4) (pv 6) pV (by rfl))) pss_nil)) pss_nil)))), ?_⟩
  -- the state
  have e : Mt.behind gKey p (rec o p m) kt xs chosen grown = some (kt', xs') := e
  unfold Mt.behind at e
  split at e
  · cases e
  rename_i hlen
  obtain ⟨st, e1, e⟩ := bind_eq e
  obtain ⟨rest, e2, e⟩ := bind_eq e
  split at e
  · cases e
  rename_i hsz
  have S0 : St ⟨K, F, H, t, bd, bf, o, p, m, [(0, t)]⟩ [.no, .val (T chosen), .val (T grown), .no, .no, .no, .no, .no] F [some (.ref t), some v1, some v2, none, none, none, none, none] H kt xs := St.start 5 ex pl Tt d1 d2
  obtain ⟨ot, vo, vp, vm, ht, dvo, dvp, dvm⟩ := Tt.tup
  refine ⟨.ref t, rfl, .inr ⟨t, _, 1, vp, rfl, rfl, ex_t ex (st_frz ht), rfl, ⟨.ref t, rfl, .inr ⟨t, _, 3, .ref bd, rfl, rfl, ex_t ex (st_frz ht), rfl, ?_⟩⟩⟩⟩
  refine ⟨vp, .ref bd, rfl, ?_⟩
  have S1 : St ⟨K, F, H, t, bd, bf, o, p, m, [(0, t), (4, bd)]⟩ (gamB chosen grown p) F [some (.ref t), some v1, some v2, some vp, some (.ref bd), none, none, none] H kt xs :=
    ((S0.put (i := 3) dvp (by simp)).setNo (i := 4) (v := .ref bd) (by simp)).more _ (by intro q hq; simp at hq; rcases hq with rfl | rfl <;> rfl)
  have hne : chosen ≠ [] := fun z => hlen (.inl (by rw [z]; rfl))
  refine S1.set vR (e_rest hne e1 e2 (by omega)) (by simp) fun F2 σ2 H2 x2 S2 => ?_
  have S2 : St ⟨K, F, H, t, bd, bf, o, p, m, [(0, t), (4, bd)]⟩ (gamB1 chosen grown rest p) F2 σ2 H2 kt xs := S2
  refine S2.set vK e_key (by simp) fun F3 σ3 H3 x3 S3 => ?_
  have S3 : St ⟨K, F, H, t, bd, bf, o, p, m, [(0, t), (4, bd)]⟩ (gamB2 chosen grown rest p) F3 σ3 H3 kt xs := S3
  -- the test
  refine S3.eval vL (e_last hne) na_B2 fun u4 F4 H4 x4 S4 du4 => ?_
  refine ⟨.ref bd, S4.sp (4, bd) (by simp), bd, rfl, (by obtain ⟨ws, hd, _⟩ := S4.T.d; exact ⟨ws, hd⟩), ?_⟩
  obtain ⟨vkey, ekey, dkey⟩ := S4.R.slot 6 _ rfl
  refine ⟨vkey, ekey, ?_⟩
  refine S4.eval vD (e_dflt hne) na_B2 fun u5 F5 H5 x5 S5 du5 => ?_
  have dkey5 := dp_mono x5 dkey
  obtain ⟨bk, vk, rfl, _, _⟩ := dp_tup dkey5
  obtain ⟨ws5, hd5, ho5⟩ := S5.T.d
  refine ⟨bk, F5, ws5, _, _, _, rfl, S5.R.ext, hd5, ho5, dkey5, keyT_gKey _ _, ?_⟩
  obtain rfl := dp_int du4
  obtain rfl := dp_int du5
  have eg : (getW ws5 (gKey chosen.length rest)).getD (V.int (lastOr chosen + 1)) = V.int ((Mt.getI kt (gKey chosen.length rest)).getD (lastOr chosen + 1)) := by
    rw [getW_kv ho5]
    cases Mt.getI kt (gKey chosen.length rest) <;> rfl
  rw [eg]
  refine o2 F5 H5 _ _ _ _ _ S5.R.ext S5.R.pl (.int _) (.int _) rfl _ fun u6 F6 H6 gr6 du6 => ?_
  have S6 := S5.step S5.na (S5.R.rebased.grow gr6)
  have e6 : u6 = V.bl (decide (lastOr chosen < (Mt.getI kt (gKey chosen.length rest)).getD (lastOr chosen + 1))) := by cases du6; rfl
  subst e6
  refine ⟨_, rfl, ?_⟩
  by_cases hlt : lastOr chosen < (Mt.getI kt (gKey chosen.length rest)).getD (lastOr chosen + 1)
  · rw [if_pos hlt] at e
    obtain ⟨⟨r, kt1, xs1⟩, e3, e⟩ := bind_eq e
    rw [decide_eq_true hlt]
    rw [if_pos rfl]
    obtain ⟨w1, q1, g1⟩ := S6.R.slot 1 _ rfl
    obtain ⟨w5, q5, g5⟩ := S6.R.slot 5 _ rfl
    refine ⟨.ref t, S6.sp (0, t) (by simp), w1, q1, w5, q5, ?_⟩
    dsimp only [tNil]
    refine S6.callG g1 g5 e3 fun F7 H7 x7 S7 => ⟨r, rfl, ?_⟩
    cases r with
    | true =>
      cases e
      exact q F7 H7 S7.out S7.T
    | false =>
      have e' : (if kt1.length < 100000 then some (Mt.putI kt1 (gKey chosen.length rest) (lastOr chosen), xs1) else none) = some (kt', xs') := e
      split at e'
      · rename_i hsz2
        cases e'
        refine S7.eval vV (e_last hne) na_B2 fun u8 F8 H8 x8 S8 du8 => ?_
        refine ⟨.ref bd, S8.sp (4, bd) (by simp), ?_⟩
        obtain ⟨vkey8, ekey8, dkey8⟩ := S8.R.slot 6 _ rfl
        refine ⟨vkey8, ekey8, ?_⟩
        obtain ⟨bk8, vk8, rfl, _, _⟩ := dp_tup dkey8
        obtain ⟨ws8, hd8, ho8⟩ := S8.T.d
        obtain rfl := dp_int du8
        refine ⟨bd, bk8, F8, ws8, _, _, .int (lastOr chosen), _, rfl, rfl, S8.R.ext, hd8, ho8, dkey8, keyT_gKey _ _, .int _, by simpa [kvOf] using hsz2, ?_⟩
        have S9 := S8.store (i := lastOr chosen) ho8 dkey8 (keyT_gKey _ _)
        exact q _ _ S9.out S9.T
      · cases e'
  · rw [if_neg hlt] at e
    cases e
    rw [decide_eq_false hlt]
    exact q F6 H6 S6.out S6.T
theorem ok_gather (D : Df K mg "_gather" t_gather ["task", "chosen", "held"]) (DB : Df K mg "_gather_behind" t_gather_behind ["task", "chosen", "grown"]) (m_len : mg "len" = none) (m_range : mg "range" = none) (m_tuple : mg "tuple" = none) :
    ∀ n, Ok P w K mg base (1 + 2 * n) "_gather" t_gather ["task", "chosen", "held"] (spG K fun o p m => Mt.gat gKey o p m n)
  | 0 => by
    obtain ⟨f, fd, Fn, g, bi⟩ := D
    refine ⟨f, fd, Fn, g, bi, ⟨fun vs H Q E h => h.1, fun A outer s H args us vs Q E _ _ _ _ h => ?_⟩⟩
    obtain ⟨_, F, t, bd, bf, v1, v2, o, p, m, kt, xs, chosen, held, r, kt', xs', rfl, ex, pl, Tt, d1, d2, e, q⟩ := h
    cases e
  | n + 1 => by
    have GA := ok_gather D DB m_len m_range m_tuple n
    obtain ⟨fb, fdb, FnB, gb, bib, GB⟩ := ok_gather_behind DB GA m_len m_tuple
    obtain ⟨f, fd, Fn, g, bi⟩ := D
    have hlv : 1 + 2 * (n + 1) = (1 + 2 * n + 1) + 1 := by omega
    rw [hlv]
    refine ⟨f, fd, Fn, g, bi, Fn.ok sc_gather (fun vs H Q E h => h.1) fun cdv A outer s H vs Q E hr h => ?_⟩
    obtain ⟨hl, F, t, bd, bf, v1, v2, o, p, m, kt, xs, chosen, held, r, kt', xs', rfl, ex, pl, Tt, d1, d2, e, q⟩ := h
    have hu : (XG P w K mg base f cdv A outer s H E).A.units + 64 < cLine := hr.units
    have nd : (N_gather : List Str).Nodup := sc_gather.nd
    obtain ⟨t1, p1, v1'⟩ : EP (XG P w K mg base f cdv A outer s H E) (exprOf (stAt 1 bG)) (eLenV 1) := ep_lenV (i := 1) m_len
    obtain ⟨t2, p2, v2'⟩ : EP (XG P w K mg base f cdv A outer s H E) (exprOf (stAt 2 bG)) (eIxV 4 (eVar 8)) := ep_ixV (i := 4) (ep_var 8)
    obtain ⟨tg2, pg2, vg2⟩ : GP (XG P w K mg base f cdv A outer s H E) (tgOf (stAt 2 bG)) (gxTup 3 (gxCons (gxName 9) (gxCons (gxName 10) (gxCons (gxName 11) gxNil)))) ([9] ++ ([10] ++ ([11] ++ []))) :=
      gp_tup rfl (gps_cons (gp_name (i := 9) nd) (gps_cons (gp_name (i := 10) nd) (gps_cons (gp_name (i := 11) nd) gps_nil)))
    obtain ⟨t3, p3, v3⟩ : EP (XG P w K mg base f cdv A outer s H E) (exprOf (stAt 3 bG)) (eIxV 2 (eVar 9)) := ep_ixV (i := 2) (ep_var 9)
    obtain ⟨t4, p4, v4⟩ : EP (XG P w K mg base f cdv A outer s H E) (exprOf (stAt 4 bG)) (eIxV 2 (eVar 10)) := ep_ixV (i := 2) (ep_var 10)
    have p5 : PE (XG P w K mg base f cdv A outer s H E) (exprOf (stAt 5 bG)) _ := pe_callB call_len_seq (by rfl) m_len PySem.boot_len (pa_cons (pv 7) pa_nil) (by decide) (by decide)
    obtain ⟨t6, p6, v6⟩ : EP (XG P w K mg base f cdv A outer s H E) (exprOf (stAt 6 bG)) (eIf (tTruX (eVar 1)) (eOp pAdd (eIxV 1 (eUn pNeg (eC (.int 1)))) (eC (.int 1))) (eC (.int 0))) :=
      ep_if (tp_tru (ep_var 1)) (ep_op o_add (ep_ixV (i := 1) (ep_un u_neg ep_int)) ep_int) ep_int
    obtain ⟨wi, p7, v7⟩ : IP (XG P w K mg base f cdv A outer s H E) (tgOf (stAt 7 bG)) (exprOf (stAt 7 bG)) (itRange (aCons (eVar 15) (aCons (eOp pAdd (eOp pAdd (eOp pSub (eLenV 3) (eLenV 4)) (eVar 8)) (eC (.int 1))) aNil))) :=
      ip_range2 m_range (ep_var 15) (ep_op o_add (ep_op o_add (ep_op o_sub (ep_lenV (i := 3) m_len) (ep_lenV (i := 4) m_len)) (ep_var 8)) ep_int)
    obtain ⟨tg7, pg7, vg7⟩ : GP (XG P w K mg base f cdv A outer s H E) (tgOf (stAt 7 bG)) (gxName 16) [16] := gp_name (i := 16) nd
    obtain ⟨t8, p8, v8⟩ : EP (XG P w K mg base f cdv A outer s H E) (exprOf (stAt 0 (bodyOf (stAt 7 bG)))) (eIxV 3 (eVar 16)) := ep_ixV (i := 3) (ep_var 16)
    obtain ⟨t9, p9, v9⟩ : TP (XG P w K mg base f cdv A outer s H E) (exprOf (stAt 1 (bodyOf (stAt 7 bG)))) (tOf (eChain pLt pLt (eVar 12) (eVar 17) (eVar 13))) := tp_chain c_lt c_lt (ep_var 12) (ep_var 17) (ep_var 13)
    obtain ⟨t10, p10, v10⟩ : TP (XG P w K mg base f cdv A outer s H E) (exprOf (stAt 0 (bodyOf (stAt 1 (bodyOf (stAt 7 bG)))))) (tOf (eOp pEq (eOp pAdd (eVar 8) (eC (.int 1))) (eLenV 4))) := tp_cmp (c_eq hu) (ep_op o_add (ep_var 8) ep_int) (ep_lenV (i := 4) m_len)
    obtain ⟨t11, p11, v11⟩ : EP (XG P w K mg base f cdv A outer s H E) (argOf 0 (exprOf (stAt 0 (bodyOf (stAt 0 (bodyOf (stAt 1 (bodyOf (stAt 7 bG))))))))) (eOp pAdd (eVar 1) (eTup (aCons (eVar 16) aNil))) := ep_op o_add (ep_var 1) (ep_tup (ap_cons (ep_var 16) ap_nil))
    obtain ⟨t12, p12, v12⟩ : EP (XG P w K mg base f cdv A outer s H E) (argOf 1 (exprOf (stAt 0 (elseOf (stAt 0 (bodyOf (stAt 1 (bodyOf (stAt 7 bG))))))))) (eOp pAdd (eVar 1) (eTup (aCons (eVar 16) aNil))) := ep_op o_add (ep_var 1) (ep_tup (ap_cons (ep_var 16) ap_nil))
    obtain ⟨t13, p13, v13⟩ : EP (XG P w K mg base f cdv A outer s H E) (argOf 2 (exprOf (stAt 0 (elseOf (stAt 0 (bodyOf (stAt 1 (bodyOf (stAt 7 bG))))))))) (eOp pAdd (eVar 2) (eTup (aCons (eVar 17) aNil))) := ep_op o_add (ep_var 2) (ep_tup (ap_cons (ep_var 17) ap_nil))
    obtain ⟨rq, o1, o2⟩ := (c_eq hu : OpE (XG P w K mg base f cdv A outer s H E) (compareOp .Eq) pEq)
    obtain ⟨rg, g1, g2⟩ := (c_gt : OpE (XG P w K mg base f cdv A outer s H E) (compareOp .Gt) pGt)
    have p14 : PE (XG P w K mg base f cdv A outer s H E) (argOf 0 (exprOf (stAt 1 (bodyOf (stAt 1 (bodyOf (stAt 7 bG))))))) _ := pe_callB call_len_seq (by rfl) m_len PySem.boot_len (pa_cons (pv 7) pa_nil) (by decide) (by decide)
    have p15 : PE (XG P w K mg base f cdv A outer s H E) (argOf 0 (exprOf (stAt 8 bG))) _ := pe_callB call_len_seq (by rfl) m_len PySem.boot_len (pa_cons (pv 7) pa_nil) (by decide) (by decide)
    have pA : PE (XG P w K mg base f cdv A outer s H E) (exprOf (stAt 0 (bodyOf (stAt 0 (bodyOf (stAt 1 (bodyOf (stAt 7 bG)))))))) (tBM K "list" rAppend (tVar 7) (tCons t11 tNil)) :=
      pe_bm PySem.F.plainAttrs_list PySem.F.slot_list_append PySem.F.type_list_append mt_append (pv _) (pa_cons p11 pa_nil)
    have pC : PE (XG P w K mg base f cdv A outer s H E) (exprOf (stAt 0 (elseOf (stAt 0 (bodyOf (stAt 1 (bodyOf (stAt 7 bG)))))))) (tCall (spB K fun o p m => Mt.behind gKey p (Mt.gat gKey o p m n)) [] E0 (tCons (tVar 0) (tCons t12 (tCons t13 tNil)))) :=
      pe_call GB hr (by rfl) gb FnB.kp bib .nil pass0 (pa_cons (pv _) (pa_cons p12 (pa_cons p13 pa_nil)))
    refine ⟨_, pss_cons (ps_asg (pv 0) (pg_tup rfl (pgs_cons (pg_name nd (i := 3) rfl (by first | exact Or.inl rfl | exact Or.inr rfl)) (pgs_cons (pg_name nd (i := 4) rfl (by first | exact Or.inl rfl | exact Or.inr rfl)) (pgs_cons (pg_name nd (i := 5) rfl (by first | exact Or.inl rfl | exact Or.inr rfl)) (pgs_cons (pg_name nd (i := 6) rfl (by first | exact Or.inl rfl | exact Or.inr rfl)) (pgs_cons (pg_name nd (i := 7) rfl (by first | exact Or.inl rfl | exact Or.inr rfl)) pgs_nil)))))))
      (pss_cons (ps_set nd (i := 8) rfl (by first | exact Or.inl rfl | exact Or.inr rfl) p1)
      (pss_cons (ps_asg p2 pg2)
      (pss_cons (ps_set nd (i := 12) rfl (by first | exact Or.inl rfl | exact Or.inr rfl) p3)
      (pss_cons (ps_set nd (i := 13) rfl (by first | exact Or.inl rfl | exact Or.inr rfl) p4)
      (pss_cons (ps_set nd (i := 14) rfl (by first | exact Or.inl rfl | exact Or.inr rfl) p5)
      (pss_cons (ps_set nd (i := 15) rfl (by first | exact Or.inl rfl | exact Or.inr rfl) p6)
      (pss_cons (ps_for PassesOwn.never rfl p7 pg7 (pss_cons (ps_set nd (i := 17) rfl (by first | exact Or.inl rfl | exact Or.inr rfl) p8)
        (pss_one (ps_if p9 (pss_cons (ps_if p10 (pss_one (ps_expr pA)) (pss_one (ps_expr pC))) (pss_one (ps_if (pt_cmpR o1 p14 (pv 5) (by rfl)) (pss_one (ps_ret pe_bl)) pss_nil))) pss_nil))))
      (pss_one (ps_ret (pe_cmpR g1 p15 (pv 14) (by rfl))))))))))), ?_⟩
    have e : Mt.gBody gKey o p m (Mt.gat gKey o p m n) kt xs chosen held = some (r, kt', xs') := e
    unfold Mt.gBody at e
    split at e
    · cases e
    rename_i hz
    obtain ⟨st, e1, e⟩ := bind_eq e
    obtain ⟨bottom, e2, e⟩ := bind_eq e
    obtain ⟨top, e3, e⟩ := bind_eq e
    obtain ⟨res, e4, e⟩ := bind_eq e
    have S0 : St ⟨K, F, H, t, bd, bf, o, p, m, [(0, t)]⟩ [.no, .val (T chosen), .val (T held), .no, .no, .no, .no, .no, .no, .no, .no, .no, .no, .no, .no, .no, .no, .no] F [some (.ref t), some v1, some v2, none, none, none, none, none, none, none, none, none, none, none, none, none, none, none] H kt xs := St.start 15 ex pl Tt d1 d2
    obtain ⟨ot, vo, vp, vm, ht, dvo, dvp, dvm⟩ := Tt.tup
    refine ⟨.ref t, rfl, t, _, rfl, ex_t ex (st_frz ht), rfl, _, _, rfl, _, _, rfl, _, _, rfl, _, _, rfl, _, _, rfl, rfl, ?_⟩
    have S1 : St ⟨K, F, H, t, bd, bf, o, p, m, [(0, t), (6, bd), (7, bf)]⟩ (gG0 chosen held o p m) F [some (.ref t), some v1, some v2, some vo, some vp, some vm, some (.ref bd), some (.ref bf), none, none, none, none, none, none, none, none, none, none] H kt xs :=
      (((((S0.put (i := 3) dvo (by simp)).put (i := 4) dvp (by simp)).put (i := 5) dvm (by simp)).setNo (i := 6) (v := .ref bd) (by simp)).setNo (i := 7) (v := .ref bf) (by simp)).more _ (by intro q hq; simp at hq; rcases hq with rfl | rfl | rfl <;> rfl)
    refine S1.set v1' eG1 (by simp) fun F2 σ2 H2 x2 S2 => ?_
    have S2 : St ⟨K, F, H, t, bd, bf, o, p, m, [(0, t), (6, bd), (7, bf)]⟩ (gG1 chosen held o p m) F2 σ2 H2 kt xs := S2
    refine S2.asg v2' (eG2 e1) vg2 (by simp) (Γ2 := gG2 chosen held o p m st) rfl na_G2 fun F3 σ3 H3 x3 S3 => ?_
    refine S3.set v3 (eG3 e2) (by simp) fun F4 σ4 H4 x4 S4 => ?_
    have S4 : St ⟨K, F, H, t, bd, bf, o, p, m, [(0, t), (6, bd), (7, bf)]⟩ (gG3 chosen held o p m st bottom) F4 σ4 H4 kt xs := S4
    refine S4.set v4 (eG4 e3) (by simp) fun F5 σ5 H5 x5 S5 => ?_
    have S5 : St ⟨K, F, H, t, bd, bf, o, p, m, [(0, t), (6, bd), (7, bf)]⟩ (gG4 chosen held o p m st bottom top) F5 σ5 H5 kt xs := S5
    refine S5.lenSet (j := 7) (by simp) (by simp) fun σ6 S6 => ?_
    have S6 : St ⟨K, F, H, t, bd, bf, o, p, m, [(0, t), (6, bd), (7, bf)]⟩ (gG5 chosen held o p m st bottom top xs.length) F5 σ6 H5 kt xs := S6
    refine S6.set v6 eG6 (by simp) fun F7 σ7 H7 x7 S7 => ?_
    have S7 : St ⟨K, F, H, t, bd, bf, o, p, m, [(0, t), (6, bd), (7, bf)]⟩ (gGL chosen held o p m st bottom top xs.length (startOf chosen) .no .no) F7 σ7 H7 kt xs := S7
    refine S7.for v7 vg7 (by simp) (eG7 hz) (fun i Γ kt1 xs1 => ∃ s16 s17, Γ = gGL chosen held o p m st bottom top xs.length (startOf chosen) s16 s17 ∧ Mt.gLoop gKey o p m (Mt.gat gKey o p m n) chosen held bottom top ((Mt.rg (startOf chosen) (((o.length : Int) - p.length + chosen.length + 1) - startOf chosen).toNat).drop i) kt1 xs1 = some res) ⟨.no, .no, rfl, e4⟩ ?_ ?_
    · rintro i d Γ1 kt1 xs1 hd ⟨s16, s17, rfl, hj⟩ na1
      rw [List.getElem?_map] at hd
      obtain ⟨pl', hpl, rfl⟩ := Option.map_eq_some_iff.mp hd
      obtain ⟨hil, hie⟩ := List.getElem?_eq_some_iff.mp hpl
      rw [List.drop_eq_getElem_cons hil, hie, Mt.gLoop] at hj
      obtain ⟨number, h1, hj⟩ := bind_eq hj
      refine ⟨gGL chosen held o p m st bottom top xs.length (startOf chosen) (.val (.int pl')) s17, rfl, na_GL rfl (na1 17 s17 rfl), fun F1 σ1 H1 D' S hD hN => ?_⟩
      refine S.set v8 (eG8 h1) (by simp) fun F2 σ2 H2 x2 S2 => ?_
      have S2 : St ⟨K, F, H, t, bd, bf, o, p, m, [(0, t), (6, bd), (7, bf)]⟩ (gGL chosen held o p m st bottom top xs.length (startOf chosen) (.val (.int pl')) (.val (.int number))) F2 σ2 H2 kt1 xs1 := S2
      refine S2.test v9 eG9 S2.na fun F3 H3 x3 S3 => ?_
      by_cases hin : bottom < number ∧ number < top
      · rw [if_pos hin] at hj
        obtain ⟨⟨kt2, xs2⟩, h2, hj⟩ := bind_eq hj
        rw [decide_eq_true hin, if_pos rfl]
        have after : ∀ F4 H4, Ex F1 F4 → St ⟨K, F, H, t, bd, bf, o, p, m, [(0, t), (6, bd), (7, bf)]⟩ (gGL chosen held o p m st bottom top xs.length (startOf chosen) (.val (.int pl')) (.val (.int number))) F4 σ2 H4 kt2 xs2 →
            tIfS (tTest (tOp rq (tCB (fun xs H Q => ∃ p ys, xs = [V.ref p] ∧ (SqL K H p ys ∨ SqT K H p ys) ∧ Q (V.int (ys.length : Nat)) H) (tCons (tVar 7) tNil)) (tVar 5))) (tRet (tC (.bl true))) tNext D' σ2 H4 := by
          intro F4 H4 x4 S4
          refine S4.lenTest (j := 7) (i := 5) (by simp) rfl o2 (b := decide ((xs2.length : Int) = m)) (by simp) fun F5 H5 x5 S5 => ?_
          by_cases hm : (xs2.length : Int) = m
          · rw [if_pos hm] at hj
            cases hj
            cases e
            rw [decide_eq_true hm, if_pos rfl]
            show D'.rt (.bl true) H5
            rw [hD]
            exact q F5 H5 S5.out S5.T
          · rw [if_neg hm] at hj
            rw [decide_eq_false hm]
            exact hN _ _ _ F5 σ2 H5 (x4.trans x5) ⟨_, _, rfl, hj⟩ S5
        refine S3.test v10 eG10 S3.na fun F4 H4 x4 S4 => ?_
        by_cases hl : chosen.length + 1 = p.length
        · rw [if_pos hl] at h2
          split at h2
          case isFalse => cases h2
          rename_i hxl
          cases h2
          rw [decide_eq_true hl, if_pos rfl]
          obtain ⟨us, hf, hl'⟩ := S4.T.f
          refine ⟨.ref bf, S4.sp (7, bf) (by simp), .inl ⟨rfl, us, sq_of hf⟩, ?_⟩
          refine S4.eval v11 (eG11 (by omega)) S4.na fun u F5 H5 x5 S5 du => ?_
          obtain ⟨us5, hf5, hl5⟩ := S5.T.f
          exact ⟨bf, us5, u, rfl, rfl, hf5, sz_lt (by rw [dpa_len hl5, List.length_map]; exact hxl), after F5 _ (((x2.trans x3).trans x4).trans x5) (S5.app hf5 hl5 du)⟩
        · rw [if_neg hl] at h2
          rw [decide_eq_false hl]
          refine ⟨.ref t, S4.sp (0, t) (by simp), ?_⟩
          refine S4.eval v12 (eG11 (by omega)) S4.na fun u F5 H5 x5 S5 du => ?_
          refine S5.eval v13 (eG12 (by omega)) S5.na fun u2 F6 H6 x6 S6 du2 => ?_
          dsimp only [tNil]
          refine S6.callB (dp_mono x6 du) du2 h2 fun F8 H8 x8 S8 => ?_
          exact after F8 H8 (((((x2.trans x3).trans x4).trans x5).trans x6).trans x8) S8
      · rw [if_neg hin] at hj
        rw [decide_eq_false hin]
        exact hN _ _ _ F3 σ2 H3 (x2.trans x3) ⟨_, _, rfl, hj⟩ S3
    · rintro Γ3 kt3 xs3 F3 σ3 H3 x3 ⟨s16, s17, rfl, hj⟩ S
      rw [List.drop_eq_nil_of_le (by simp)] at hj
      cases hj
      cases e
      refine S.lenRet (j := 7) (i := 14) (by simp) rfl g2 (b := false || decide (xs.length < xs'.length)) (by simp [pGt, pCmp]) fun F4 H4 x4 S4 => ?_
      exact q F4 H4 S4.out S4.T
abbrev t_placings_by : Stmt := top 11
abbrev N_placings_by : List Str := ["order", "plan", "most", "found", "task"]
theorem sc_placings_by : FnScope N_placings_by ["order", "plan", "most"] (defScope t_placings_by) := ⟨rfl, rfl, rfl, by decide +kernel, rfl, by decide +kernel, by decide +kernel⟩
abbrev XP (P : Program) (w : World) (K : PySem.W.Frag) (mg : Str → Option Value) (base : Heap) (f : Addr) (cdv : Value) (A : Around) (outer : List PySem.Env) (s : Shared) (H : Hp) (E : XK) : Cx := (cxOf CX0 P w K mg base N_placings_by "placings_by" (defScope t_placings_by) f cdv A outer s H E).nox
abbrev bP : List Stmt := defBody t_placings_by
theorem ok_placings_by (D : Df K mg "placings_by" t_placings_by ["order", "plan", "most"]) (DG : Df K mg "_gather" t_gather ["task", "chosen", "held"]) (DB : Df K mg "_gather_behind" t_gather_behind ["task", "chosen", "grown"]) (m_len : mg "len" = none) (m_range : mg "range" = none) (m_tuple : mg "tuple" = none) :
    Ok P w K mg base 42 "placings_by" t_placings_by ["order", "plan", "most"] (spP K 3 s_placings_by) := by
  obtain ⟨fg, fdg, FnG, gg, big, GG⟩ := ok_gather (P := P) (w := w) (base := base) DG DB m_len m_range m_tuple 20
  obtain ⟨f, fd, Fn, g, bi⟩ := D
  refine ⟨f, fd, Fn, g, bi, Fn.ok sc_placings_by (fun vs H Q E h => h.1) fun cdv A outer s H vs Q E hr h => ?_⟩
  have hr41 : Room 41 (A.deeper (envOfC "placings_by" (defScope t_placings_by) s.heap.objs.size f cdv)) := hr
  obtain ⟨hl, F, ds, r, ex, pl, hd, e, q⟩ := h
  have nd : (N_placings_by : List Str).Nodup := sc_placings_by.nd
  obtain ⟨tE, pE, vE⟩ : EP (XP P w K mg base f cdv A outer s H E) (argOf 1 (exprOf (stAt 2 bP))) (eTup aNil) := ep_tup ap_nil
  obtain ⟨tH, pH, vH⟩ : EP (XP P w K mg base f cdv A outer s H E) (argOf 2 (exprOf (stAt 2 bP))) (eTup (aCons (eC (.int 0)) (aCons (eOp pAdd (eLenV 0) (eC (.int 1))) aNil))) := ep_tup (ap_cons ep_int (ap_cons (ep_op o_add (ep_lenV (i := 0) m_len) ep_int) ap_nil))
  have pC : PE (XP P w K mg base f cdv A outer s H E) (exprOf (stAt 2 bP)) (tCall (spG K fun o p m => Mt.gat gKey o p m 20) [] E0 (tCons (tVar 4) (tCons tE (tCons tH tNil)))) :=
    pe_call GG hr41 (by rfl) gg FnG.kp big .nil pass0 (pa_cons (pv _) (pa_cons pE (pa_cons pH pa_nil)))
  refine ⟨_, pss_cons (ps_set nd (i := 3) rfl (by first | exact Or.inl rfl | exact Or.inr rfl) (pe_lst pa_nil))
    (pss_cons (ps_set nd (i := 4) rfl (by first | exact Or.inl rfl | exact Or.inr rfl) (pe_tupF (pa_cons (pv 0) (pa_cons (pv 1) (pa_cons (pv 2) (pa_cons pe_od0 (pa_cons (pv 3) pa_nil)))))))
    (pss_cons (ps_expr pC) (pss_one (ps_ret (pv 3))))), ?_⟩
  -- what was handed in
  unfold s_placings_by at e
  split at e
  case h_2 => cases e
  rename_i os ps m
  obtain ⟨o, e1, e⟩ := bind_eq e
  obtain ⟨p, e2, e⟩ := bind_eq e
  obtain ⟨⟨r0, kt', xs'⟩, e3, e⟩ := bind_eq e
  cases e
  obtain rfl := intsOf_eq e1
  obtain rfl := plsOf_eq e2
  obtain ⟨v0, v1, v2, rfl, d0, d1, d2⟩ : ∃ v0 v1 v2, vs = [v0, v1, v2] ∧ Dp K F v0 (T o) ∧ Dp K F v1 (.list (p.map plD)) ∧ Dp K F v2 (.int m) := by
    cases hd with
    | cons a b => cases b with
      | cons c d => cases d with
        | cons e f => cases f with
          | nil => exact ⟨_, _, _, rfl, a, c, e⟩
  refine ⟨Nat.zero_le _, fun bf hbf => ?_⟩
  refine ⟨v0, rfl, v1, rfl, v2, rfl, fun bd hbd => ⟨.ref bf, rfl, ?_⟩⟩
  refine ⟨by rw [sizeLine_eq]; show 5 ≤ _; omega, fun t ot ht hot => ?_⟩
  have S0 := St.first (ot := ot) ex pl d0 d1 d2 hbf hbd ht hot
  refine ⟨.ref t, rfl, ?_⟩
  refine S0.eval vE (d := T []) rfl S0.na fun u1 F1 H1 x1 S1 du1 => ?_
  refine S1.eval vH (d := T [0, (o.length : Int) + 1]) (by simp [eTup, aCons, aNil, eC, eOp, eLenV, pLen, pAdd]) S1.na fun u2 F2 H2 x2 S2 du2 => ?_
  dsimp only [tNil]
  refine S2.callG (dp_mono x2 du1) du2 e3 fun F3 H3 x3 S3 => ?_
  have nbd : bd ≠ bf := fun z => by subst z; rw [upd_same] at hbd; cases hbd
  have nt1 : t ≠ bd := fun z => by subst z; rw [upd_same] at ht; cases ht
  have ht' : upd H bf (.lst []) t = none := by rwa [upd_ne nt1] at ht
  have nt2 : t ≠ bf := fun z => by subst z; rw [upd_same] at ht'; cases ht'
  obtain ⟨F', gr, dd⟩ := St.last (ot := ot) (v0 := v0) (v1 := v1) (v2 := v2) ex hbf (by rwa [upd_ne nbd] at hbd) (by rwa [upd_ne nt2] at ht') rfl rfl S3
  exact ⟨.ref bf, S3.sp (3, bf) (by simp), q _ F' H3 gr dd⟩
end
/-! ### _next_to -/
abbrev t_next_to : Stmt := top 9
abbrev N_next_to : List Str := ["held", "coming", "needed", "entry", "number"]
theorem sc_next_to : FnScope N_next_to ["held", "coming"] (defScope t_next_to) := ⟨rfl, rfl, rfl, by decide +kernel, rfl, by decide +kernel, by decide +kernel⟩
section
variable {P : Program} {w : World} {K : PySem.W.Frag} {mg : Str → Option Value} {base : Heap}
abbrev XN (P : Program) (w : World) (K : PySem.W.Frag) (mg : Str → Option Value) (base : Heap) (f : Addr) (cdv : Value) (A : Around) (outer : List PySem.Env) (s : Shared) (H : Hp) (E : XK) : Cx := (cxOf CX0 P w K mg base N_next_to "_next_to" (defScope t_next_to) f cdv A outer s H E).nox
abbrev bN : List Stmt := defBody t_next_to
theorem ok_next_to (D : Df K mg "_next_to" t_next_to ["held", "coming"]) (m_max : mg "max" = none) (m_min : mg "min" = none) : Ok P w K mg base 1 "_next_to" t_next_to ["held", "coming"] (spD K 2 s_next_to) := by
  obtain ⟨f, fd, Fn, g, bi⟩ := D
  refine ⟨f, fd, Fn, g, bi, Fn.ok sc_next_to (fun vs H Q E h => h.1) fun cdv A outer s H vs Q E hr h => ?_⟩
  obtain ⟨hl, F, ds, rs, ex, pl, hd, e, q⟩ := h
  have hu : (XN P w K mg base f cdv A outer s H E).A.units + 64 < cLine := hr.units
  have hu1 : (XN P w K mg base f cdv A outer s H E).A.units + 1 < cLine := by omega
  have nd : (N_next_to : List Str).Nodup := sc_next_to.nd
  obtain ⟨wi, pI, vI⟩ : IP (XN P w K mg base f cdv A outer s H E) (tgOf (stAt 1 bN)) (exprOf (stAt 1 bN)) (itSeq (eVar 1)) := ip_seq (ep_var 1)
  obtain ⟨tg, pG, vG⟩ : GP (XN P w K mg base f cdv A outer s H E) (tgOf (stAt 1 bN)) (gxName 3) [3] := gp_name (i := 3) nd
  obtain ⟨t1, p1, v1⟩ : EP (XN P w K mg base f cdv A outer s H E) (slOf (stAt 0 (bodyOf (stAt 1 bN)))) (eCall pMax1S (aCons (nOwn (nLc (itSeq (eVar 0)) (gxName 4) (tOf (eOp pLt (eVar 4) (eVar 3))) (eVar 4) [4])) aNil)) :=
    ep_callB (b_max1S rfl) m_max (by decide +kernel) (ap_cons (ep_own (np_lc [("number", 4)] (ip_seq (ep_var 0)) (blkOk_by (N := N_next_to) (sc := defScope t_next_to) (by decide +kernel)) (fun _ => (gp_name (i := 4) nd)) (fun _ => (tsp_one (tp_cmp c_lt (ep_var 4) (ep_var 3)))) (fun _ => (ep_var 4)) rfl nd)) ap_nil)
  obtain ⟨t2, p2, v2⟩ : EP (XN P w K mg base f cdv A outer s H E) (slOf (stAt 1 (bodyOf (stAt 1 bN)))) (eCall pMin1 (aCons (nOwn (nLc (itSeq (eVar 0)) (gxName 4) (tOf (eOp pGt (eVar 4) (eVar 3))) (eVar 4) [4])) aNil)) :=
    ep_callB (b_min1 rfl) m_min (by decide +kernel) (ap_cons (ep_own (np_lc [("number", 4)] (ip_seq (ep_var 0)) (blkOk_by (N := N_next_to) (sc := defScope t_next_to) (by decide +kernel)) (fun _ => (gp_name (i := 4) nd)) (fun _ => (tsp_one (tp_cmp c_gt (ep_var 4) (ep_var 3)))) (fun _ => (ep_var 4)) rfl nd)) ap_nil)
  refine ⟨_, pss_cons (ps_set nd (i := 2) rfl (by first | exact Or.inl rfl | exact Or.inr rfl) pe_dnewK)
    (pss_cons (ps_for PassesOwn.never rfl pI pG (pss_cons (ps_dput hu1 (pv 2) p1 pe_bl (by rfl)) (pss_one (ps_dput hu1 (pv 2) p2 pe_bl (by rfl))))) (pss_one (ps_ret (pv 2)))), ?_⟩
  unfold s_next_to at e
  split at e
  case h_2 => cases e
  rename_i hs cs
  obtain ⟨held, e1, e3⟩ := bind_eq e
  obtain ⟨coming, e2, e4⟩ := bind_eq e3
  clear e3 e
  obtain rfl := intsOf_eq e1
  obtain rfl := intsOf_eq e2
  obtain ⟨u0, u1, rfl, d0, d1⟩ := dpa2 hd
  intro dd hz
  have S0 := Sn.first ex pl d0 d1 hz
  refine S0.for vI vG (by decide) (items := coming.map .int) (by simp [gN, eVar, seqOf]) (fun i Γ kt => ∃ s3, Γ = gN held coming s3 .no ∧ nextTo held (coming.drop i) kt = some rs) ⟨.no, rfl, e4⟩ ?_ ?_
  · rintro i d Γ1 kt1 hd' ⟨s3, rfl, hj⟩ na1
    rw [List.getElem?_map] at hd'
    obtain ⟨x, hx, rfl⟩ := Option.map_eq_some_iff.mp hd'
    obtain ⟨hil, hie⟩ := List.getElem?_eq_some_iff.mp hx
    rw [List.drop_eq_getElem_cons hil, hie, nextTo] at hj
    obtain ⟨kt2, h1, hj⟩ := bind_eq hj
    unfold nextStep at h1
    split at h1
    · cases h1
    rename_i hc
    cases h1
    have hc1 : held.filter (fun y => decide (y < x)) ≠ [] := fun z => hc (.inl z)
    have hc2 : held.filter (fun y => decide (y > x)) ≠ [] := fun z => hc (.inr (.inl z))
    have hc3 : kt1.length ≤ 50000 := by omega
    have hc4 : held.length ≤ 50000 := by omega
    refine ⟨gN held coming (.val (.int x)) .no, rfl, na_N rfl rfl, fun F1 σ1 H1 D' S hD hN => ?_⟩
    refine S.put v1 (eN1 hc1 hc4) (by omega) fun F2 H2 x2 S2 => ?_
    refine S2.put v2 (eN2 hc2 hc4) (by have := putP_len kt1 (.inl (maxI (held.filter fun y => decide (y < x)))) (.bool true); omega) fun F3 H3 x3 S3 => ?_
    exact hN _ _ F3 σ1 H3 (x2.trans x3) ⟨_, rfl, hj⟩ S3
  · rintro Γ3 kt3 F3 σ3 H3 x3 ⟨s3, rfl, hj⟩ S
    rw [List.drop_eq_nil_of_le (by simp)] at hj
    cases hj
    obtain ⟨ws, F', gr, g1, g2⟩ := S.last hz
    exact ⟨.ref dd, S.sp, q dd ws F' H3 gr g1 g2⟩
end


/-! ### _law_places -/
abbrev t_law_places : Stmt := top 36
abbrev N_law_places : List Str := ["order", "pattern", "rows", "k", "longer", "row", "p", "j"]
theorem sc_law_places : FnScope ["order", "pattern", "rows", "k", "longer", "row", "p", "j"] ["order", "pattern"] (defScope t_law_places) := ⟨rfl, rfl, rfl, by decide +kernel, rfl, by decide +kernel, by decide +kernel⟩
def b_law_places : SX := (sSeq (sSet 2 (nVal (eLst (aCons (eTup aNil) aNil))))
    (sSeq (sFor (itRange (aCons (eLenV 1) aNil)) (gxName 3) (sSeq (sSet 4 (nLst aNil))
    (sSeq (sFor (itSeq (eVar 2)) (gxName 5) (sFor (itRange (aCons (eIf (tOf (eOp pNe (eVar 5) (eTup aNil))) (eOp pAdd (eIxV 5 (eUn pNeg (eC (.int 1)))) (eC (.int 1))) (eC (.int 0))) (aCons (eLenV 0) aNil))) (gxName 6) (sIf (tTruX (eCall pAll (aCons (nOwn (nLc (itRange (aCons (eVar 3) aNil)) (gxName 7) tYesX (eOp pEq (eOp pLt (eIxV 0 (eIxV 5 (eVar 7))) (eIxV 0 (eVar 6))) (eOp pLt (eIxV 1 (eVar 7)) (eIxV 1 (eVar 3)))) [7])) aNil))) (sApp 4 (eOp pAdd (eVar 5) (eTup (aCons (eVar 6) aNil)))) sNext)))
    (sSet 2 (nVal (eVar 4))))))
    (sRet (eVar 2))))
def s_law_places : List PyData → Option PyData := runP 8 b_law_places
section
variable {P : Program} {w : World} {K : PySem.W.Frag} {mg : Str → Option Value} {base : Heap}
theorem ok_law_places (D : Df K mg "_law_places" t_law_places ["order", "pattern"])
    (m_all : mg "all" = none)
    (m_len : mg "len" = none)
    (m_range : mg "range" = none) : Ok P w K mg base 1 "_law_places" t_law_places ["order", "pattern"] (spP K 2 s_law_places) := by
  refine ok_pure D sc_law_places rfl rfl (fun f cdv A outer s H E hr => ?_)
  have hu : (cxOf CX0 P w K mg base ["order", "pattern", "rows", "k", "longer", "row", "p", "j"] "_law_places" (defScope t_law_places) f cdv A outer s H E).nox.A.units + 64 < cLine := hr.units
  have nd : (["order", "pattern", "rows", "k", "longer", "row", "p", "j"] : List Str).Nodup := sc_law_places.nd
  exact (bp_cons (sp_set (i := 2) (np_val (ep_lst (ap_cons (ep_tup ap_nil) ap_nil))) nd)
    (bp_cons (sp_for (ip_range1 m_range (ep_lenV (i := 1) m_len)) (gp_name (i := 3) nd) (bp_cons (sp_set (i := 4) (np_lst ap_nil) nd)
    (bp_cons (sp_for (ip_seq (ep_var 2)) (gp_name (i := 5) nd) (bp_one (sp_for (ip_range2 m_range (ep_if (tp_cmp (c_ne hu) (ep_var 5) (ep_tup ap_nil)) (ep_op o_add (ep_ixV (i := 5) (ep_un u_neg ep_int)) ep_int) ep_int) (ep_lenV (i := 0) m_len)) (gp_name (i := 6) nd) (bp_one (sp_if (tp_tru (ep_callB (b_all rfl) m_all (by decide +kernel) (ap_cons (ep_own (np_lc [("j", 7)] (ip_range1 m_range (ep_var 3)) (blkOk_by (N := N_law_places) (sc := defScope t_law_places) (by decide +kernel)) (fun _ => (gp_name (i := 7) nd)) (fun _ => tsp_nil) (fun _ => (ep_cmp (c_eq hu) (ep_cmp c_lt (ep_ixV (i := 0) (ep_ixV (i := 5) (ep_var 7))) (ep_ixV (i := 0) (ep_var 6))) (ep_cmp c_lt (ep_ixV (i := 1) (ep_var 7)) (ep_ixV (i := 1) (ep_var 3))))) rfl nd)) ap_nil))) (bp_one (sp_app (i := 4) (ep_op o_add (ep_var 5) (ep_tup (ap_cons (ep_var 6) ap_nil))))) bp_nil)))))
    (bp_one (sp_set (i := 2) (np_val (ep_var 4)) nd)))))
    (bp_one (sp_ret (ep_var 2)))))
end

/-! ### _law_lets -/
abbrev t_law_lets : Stmt := top 37
abbrev N_law_lets : List Str := ["forbidden", "order", "pattern"]
theorem sc_law_lets : FnScope ["forbidden", "order", "pattern"] ["forbidden", "order"] (defScope t_law_lets) := ⟨rfl, rfl, rfl, by decide +kernel, rfl, by decide +kernel, by decide +kernel⟩
def b_law_lets : SX := (sRet (eCall pAll (aCons (nOwn (nLc (itSeq (eVar 0)) (gxName 2) tYesX (eOp pEq (eCall s_law_places (aCons (eVar 1) (aCons (eVar 2) aNil))) (eLst aNil)) [2])) aNil)))
def s_law_lets : List PyData → Option PyData := runP 3 b_law_lets
section
variable {P : Program} {w : World} {K : PySem.W.Frag} {mg : Str → Option Value} {base : Heap}
theorem ok_law_lets (D : Df K mg "_law_lets" t_law_lets ["forbidden", "order"])
    (G_law_places : Ok P w K mg base 1 "_law_places" t_law_places ["order", "pattern"] (spP K 2 s_law_places))
    (m_all : mg "all" = none) : Ok P w K mg base 2 "_law_lets" t_law_lets ["forbidden", "order"] (spP K 2 s_law_lets) := by
  refine ok_pure D sc_law_lets rfl rfl (fun f cdv A outer s H E hr => ?_)
  have hu : (cxOf CX0 P w K mg base ["forbidden", "order", "pattern"] "_law_lets" (defScope t_law_lets) f cdv A outer s H E).nox.A.units + 64 < cLine := hr.units
  have nd : (["forbidden", "order", "pattern"] : List Str).Nodup := sc_law_lets.nd
  exact (bp_one (sp_ret (ep_callB (b_all rfl) m_all (by decide +kernel) (ap_cons (ep_own (np_lc [("pattern", 2)] (ip_seq (ep_var 0)) (blkOk_by (N := N_law_lets) (sc := defScope t_law_lets) (by decide +kernel)) (fun _ => (gp_name (i := 2) nd)) (fun _ => tsp_nil) (fun _ => (ep_cmp (c_eq hu) (ep_o G_law_places (hr.mono (by first | decide | omega | exact Nat.le_trans (by decide) (Nat.le_add_right _ _))) (ap_cons (ep_var 1) (ap_cons (ep_var 2) ap_nil)) (len_cons (len_cons len_nil))) (ep_lst ap_nil))) rfl nd)) ap_nil))))
end

/-! ### _law_sorted -/
abbrev t_law_sorted : Stmt := top 38
abbrev N_law_sorted : List Str := ["patterns", "rows", "pattern", "k"]
theorem sc_law_sorted : FnScope ["patterns", "rows", "pattern", "k"] ["patterns"] (defScope t_law_sorted) := ⟨rfl, rfl, rfl, by decide +kernel, rfl, by decide +kernel, by decide +kernel⟩
def b_law_sorted : SX := (sSeq (sSet 1 (nVal (eCall pSort2 (aCons (nOwn (nLc (itSeq (eVar 0)) (gxName 2) tYesX (eTup (aCons (eLenV 2) (aCons (eVar 2) aNil))) [2])) aNil))))
    (sRet (nOwn (nLc (itRange (aCons (eLenV 1) aNil)) (gxName 3) (tOrX (tOf (eOp pEq (eVar 3) (eC (.int 0)))) (tOf (eOp pNe (eIxV 1 (eVar 3)) (eIxV 1 (eOp pSub (eVar 3) (eC (.int 1))))))) (eOp pIx (eIxV 1 (eVar 3)) (eC (.int 1))) [3]))))
def s_law_sorted : List PyData → Option PyData := runP 4 b_law_sorted
section
variable {P : Program} {w : World} {K : PySem.W.Frag} {mg : Str → Option Value} {base : Heap}
theorem ok_law_sorted (D : Df K mg "_law_sorted" t_law_sorted ["patterns"])
    (m_len : mg "len" = none)
    (m_range : mg "range" = none)
    (m_sorted : mg "sorted" = none) : Ok P w K mg base 1 "_law_sorted" t_law_sorted ["patterns"] (spP K 1 s_law_sorted) := by
  refine ok_pure D sc_law_sorted rfl rfl (fun f cdv A outer s H E hr => ?_)
  have hu : (cxOf CX0 P w K mg base ["patterns", "rows", "pattern", "k"] "_law_sorted" (defScope t_law_sorted) f cdv A outer s H E).nox.A.units + 64 < cLine := hr.units
  have nd : (["patterns", "rows", "pattern", "k"] : List Str).Nodup := sc_law_sorted.nd
  exact (bp_cons (sp_set (i := 1) (np_val (ep_callB (b_sort2 hu) m_sorted (by decide +kernel) (ap_cons (ep_own (np_lc [("pattern", 2)] (ip_seq (ep_var 0)) (blkOk_by (N := N_law_sorted) (sc := defScope t_law_sorted) (by decide +kernel)) (fun _ => (gp_name (i := 2) nd)) (fun _ => tsp_nil) (fun _ => (ep_tup (ap_cons (ep_lenV (i := 2) m_len) (ap_cons (ep_var 2) ap_nil)))) rfl nd)) ap_nil))) nd)
    (bp_one (sp_ret (ep_own (np_lc [("k", 3)] (ip_range1 m_range (ep_lenV (i := 1) m_len)) (blkOk_by (N := N_law_sorted) (sc := defScope t_law_sorted) (by decide +kernel)) (fun _ => (gp_name (i := 3) nd)) (fun _ => (tsp_one (WP.tp (wp_or (tp_cmp (c_eq hu) (ep_var 3) ep_int) (wp_or1 (tp_cmp (c_ne hu) (ep_ixV (i := 1) (ep_var 3)) (ep_ixV (i := 1) (ep_op o_sub (ep_var 3) ep_int)))))))) (fun _ => (ep_ix i_ix (ep_ixV (i := 1) (ep_var 3)) ep_int)) rfl nd)))))
end

/-! ### _law_least -/
abbrev t_law_least : Stmt := top 39
abbrev N_law_least : List Str := ["patterns", "rows", "pattern"]
theorem sc_law_least : FnScope ["patterns", "rows", "pattern"] ["patterns"] (defScope t_law_least) := ⟨rfl, rfl, rfl, by decide +kernel, rfl, by decide +kernel, by decide +kernel⟩
def b_law_least : SX := (sSeq (sSet 1 (nLst aNil))
    (sSeq (sFor (itSeq (eCall s_law_sorted (aCons (eVar 0) aNil))) (gxName 2) (sIf (tBor (tTruX (eCall s_law_lets (aCons (eVar 1) (aCons (eVar 2) aNil))))) (sApp 1 (eVar 2)) sNext))
    (sRet (eCall pTuple (aCons (eVar 1) aNil)))))
def s_law_least : List PyData → Option PyData := runP 3 b_law_least
section
variable {P : Program} {w : World} {K : PySem.W.Frag} {mg : Str → Option Value} {base : Heap}
theorem ok_law_least (D : Df K mg "_law_least" t_law_least ["patterns"])
    (G_law_lets : Ok P w K mg base 2 "_law_lets" t_law_lets ["forbidden", "order"] (spP K 2 s_law_lets))
    (G_law_sorted : Ok P w K mg base 1 "_law_sorted" t_law_sorted ["patterns"] (spP K 1 s_law_sorted))
    (m_tuple : mg "tuple" = none) : Ok P w K mg base 3 "_law_least" t_law_least ["patterns"] (spP K 1 s_law_least) := by
  refine ok_pure D sc_law_least rfl rfl (fun f cdv A outer s H E hr => ?_)
  have hu : (cxOf CX0 P w K mg base ["patterns", "rows", "pattern"] "_law_least" (defScope t_law_least) f cdv A outer s H E).nox.A.units + 64 < cLine := hr.units
  have nd : (["patterns", "rows", "pattern"] : List Str).Nodup := sc_law_least.nd
  exact (bp_cons (sp_set (i := 1) (np_lst ap_nil) nd)
    (bp_cons (sp_for (ip_seq (ep_o G_law_sorted (hr.mono (by first | decide | omega | exact Nat.le_trans (by decide) (Nat.le_add_right _ _))) (ap_cons (ep_var 0) ap_nil) (len_cons len_nil))) (gp_name (i := 2) nd) (bp_one (sp_if (tp_bor (tp_tru (ep_o G_law_lets (hr.mono (by first | decide | omega | exact Nat.le_trans (by decide) (Nat.le_add_right _ _))) (ap_cons (ep_var 1) (ap_cons (ep_var 2) ap_nil)) (len_cons (len_cons len_nil))))) (bp_one (sp_app (i := 1) (ep_var 2))) bp_nil)))
    (bp_one (sp_ret (ep_callTy b_tuple m_tuple (by decide +kernel) (ap_cons (ep_var 1) ap_nil))))))
end

/-! ### _law_take -/
abbrev t_law_take : Stmt := top 34
abbrev N_law_take : List Str := ["pot", "many", "cell", "mixed", "told"]
theorem sc_law_take : FnScope ["pot", "many", "cell", "mixed", "told"] ["pot", "many"] (defScope t_law_take) := ⟨rfl, rfl, rfl, by decide +kernel, rfl, by decide +kernel, by decide +kernel⟩
def b_law_take : SX := (sSeq (sIf (tAndX (tOf (eOp pEq (eIxV 0 (eC (.int 0))) (eC (.int 0)))) (tOf (eOp pLt (eIxV 0 (eC (.int 2))) (eLenV 0)))) (sSeq (sSet 2 (nVal (eIxV 0 (eIxV 0 (eC (.int 2))))))
    (sSeq (sAugK 0 (eC (.int 2)) (fun x y => x + y) (eC (.int 1)))
    (sIf (tOf (eOp pGe (eVar 2) (eOp pPow2 (eC (.int 10)) (eC (.int 18))))) (sStore 0 (eC (.int 0)) (eOp pSub (eVar 2) (eOp pPow2 (eC (.int 10)) (eC (.int 18))))) (sSeq (sSet 3 (nVal (eOp pMod (eCall pInt (aCons (eVar 2) aNil)) (eC (.int 2147483647)))))
    (sSeq (sSet 3 (nVal (eOp pMod (eCall pInt (aCons (eOp pAdd (eOp pAdd (eOp pMul3 (eVar 3) (eVar 3)) (eOp pMul3 (eC (.int 69621)) (eVar 3))) (eOp pMul3 (eC (.int 977)) (eIxV 0 (eC (.int 2))))) aNil)) (eC (.int 2147483629)))))
    (sStore 0 (eC (.int 1)) (eOp pMod (eCall pInt (aCons (eOp pAdd (eIxV 0 (eC (.int 1))) (eVar 3)) aNil)) (eC (.int 2147483629))))))))) sNext)
    (sSeq (sIf (tOf (eOp pGt (eIxV 0 (eC (.int 0))) (eC (.int 0)))) (sSeq (sSet 4 (nVal (eOp pMod (eCall pInt (aCons (eIxV 0 (eC (.int 0))) aNil)) (eVar 1))))
    (sSeq (sStore 0 (eC (.int 0)) (eOp pFdiv (eIxV 0 (eC (.int 0))) (eVar 1)))
    (sRet (eVar 4)))) sNext)
    (sSeq (sStore 0 (eC (.int 1)) (eOp pMod (eCall pInt (aCons (eOp pAdd (eOp pAdd (eOp pMul3 (eIxV 0 (eC (.int 1))) (eC (.int 48271))) (eOp pMul3 (eC (.int 40692)) (eIxV 0 (eC (.int 2))))) (eC (.int 11))) aNil)) (eC (.int 2147483647))))
    (sSeq (sStore 0 (eC (.int 1)) (eOp pMod (eCall pInt (aCons (eOp pAdd (eOp pMul3 (eIxV 0 (eC (.int 1))) (eIxV 0 (eC (.int 1)))) (eC (.int 7))) aNil)) (eC (.int 2147483629))))
    (sRet (eOp pMod (eCall pInt (aCons (eOp pFdiv (eIxV 0 (eC (.int 1))) (eC (.int 8))) aNil)) (eVar 1)))))))
def s_law_take : List PyData → List PyData → Option (PyData × List PyData) := runM 5 b_law_take
section
variable {P : Program} {w : World} {K : PySem.W.Frag} {mg : Str → Option Value} {base : Heap}
theorem ok_law_take (D : Df K mg "_law_take" t_law_take ["pot", "many"])
    (m_int : mg "int" = none)
    (m_len : mg "len" = none) : Ok P w K mg base 1 "_law_take" t_law_take ["pot", "many"] (spM K 2 s_law_take) := by
  refine ok_mut D sc_law_take rfl rfl (fun f cdv A outer s H E hr => ?_)
  have hu : (cxOf CX0 P w K mg base ["pot", "many", "cell", "mixed", "told"] "_law_take" (defScope t_law_take) f cdv A outer s H E).nox.A.units + 64 < cLine := hr.units
  have nd : (["pot", "many", "cell", "mixed", "told"] : List Str).Nodup := sc_law_take.nd
  exact (bp_cons (sp_if (WP.tp (wp_and (tp_cmp (c_eq hu) (ep_ixV (i := 0) ep_int) ep_int) (wp_and1 (tp_cmp c_lt (ep_ixV (i := 0) ep_int) (ep_lenV (i := 0) m_len))))) (bp_cons (sp_set (i := 2) (np_val (ep_ixV (i := 0) (ep_ixV (i := 0) ep_int))) nd)
    (bp_cons (sp_augK (i := 0) ep_int ep_int ip_add)
    (bp_one (sp_if (tp_cmp c_ge (ep_var 2) (ep_op o_pow2 ep_int ep_int)) (bp_one (sp_store (i := 0) (ep_op o_sub (ep_var 2) (ep_op o_pow2 ep_int ep_int)) ep_int)) (bp_cons (sp_set (i := 3) (np_val (ep_op o_mod (ep_callTy b_int m_int (by decide +kernel) (ap_cons (ep_var 2) ap_nil)) ep_int)) nd)
    (bp_cons (sp_set (i := 3) (np_val (ep_op o_mod (ep_callTy b_int m_int (by decide +kernel) (ap_cons (ep_op o_add (ep_op o_add (ep_op o_mul3 (ep_var 3) (ep_var 3)) (ep_op o_mul3 ep_int (ep_var 3))) (ep_op o_mul3 ep_int (ep_ixV (i := 0) ep_int))) ap_nil)) ep_int)) nd)
    (bp_one (sp_store (i := 0) (ep_op o_mod (ep_callTy b_int m_int (by decide +kernel) (ap_cons (ep_op o_add (ep_ixV (i := 0) ep_int) (ep_var 3)) ap_nil)) ep_int) ep_int)))))))) bp_nil)
    (bp_cons (sp_if (tp_cmp c_gt (ep_ixV (i := 0) ep_int) ep_int) (bp_cons (sp_set (i := 4) (np_val (ep_op o_mod (ep_callTy b_int m_int (by decide +kernel) (ap_cons (ep_ixV (i := 0) ep_int) ap_nil)) (ep_var 1))) nd)
    (bp_cons (sp_store (i := 0) (ep_op o_fdiv (ep_ixV (i := 0) ep_int) (ep_var 1)) ep_int)
    (bp_one (sp_ret (ep_var 4))))) bp_nil)
    (bp_cons (sp_store (i := 0) (ep_op o_mod (ep_callTy b_int m_int (by decide +kernel) (ap_cons (ep_op o_add (ep_op o_add (ep_op o_mul3 (ep_ixV (i := 0) ep_int) ep_int) (ep_op o_mul3 ep_int (ep_ixV (i := 0) ep_int))) ep_int) ap_nil)) ep_int) ep_int)
    (bp_cons (sp_store (i := 0) (ep_op o_mod (ep_callTy b_int m_int (by decide +kernel) (ap_cons (ep_op o_add (ep_op o_mul3 (ep_ixV (i := 0) ep_int) (ep_ixV (i := 0) ep_int)) ep_int) ap_nil)) ep_int) ep_int)
    (bp_one (sp_ret (ep_op o_mod (ep_callTy b_int m_int (by decide +kernel) (ap_cons (ep_op o_fdiv (ep_ixV (i := 0) ep_int) ep_int) ap_nil)) (ep_var 1))))))))
end

/-! ### _law_order -/
abbrev t_law_order : Stmt := top 40
abbrev N_law_order : List Str := ["pot", "n", "order", "k", "p"]
theorem sc_law_order : FnScope ["pot", "n", "order", "k", "p"] ["pot", "n"] (defScope t_law_order) := ⟨rfl, rfl, rfl, by decide +kernel, rfl, by decide +kernel, by decide +kernel⟩
def b_law_order : SX := (sSeq (sSet 2 (nVal (eTup aNil)))
    (sSeq (sFor (itRange (aCons (eVar 1) aNil)) (gxName 3) (sSeq (sSet 4 (nVal (eCallM 0 s_law_take (aCons (eOp pAdd (eVar 3) (eC (.int 1))) aNil))))
    (sSet 2 (nVal (eOp pAdd (eOp pAdd (eSl pSl (eVar 2) oNone (oSome (eVar 4))) (eTup (aCons (eOp pAdd (eVar 3) (eC (.int 1))) aNil))) (eSl pSl (eVar 2) (oSome (eVar 4)) oNone))))))
    (sRet (eVar 2))))
def s_law_order : List PyData → List PyData → Option (PyData × List PyData) := runM 5 b_law_order
section
variable {P : Program} {w : World} {K : PySem.W.Frag} {mg : Str → Option Value} {base : Heap}
theorem ok_law_order (D : Df K mg "_law_order" t_law_order ["pot", "n"])
    (G_law_take : Ok P w K mg base 1 "_law_take" t_law_take ["pot", "many"] (spM K 2 s_law_take))
    (m_range : mg "range" = none) : Ok P w K mg base 2 "_law_order" t_law_order ["pot", "n"] (spM K 2 s_law_order) := by
  refine ok_mut D sc_law_order rfl rfl (fun f cdv A outer s H E hr => ?_)
  have hu : (cxOf CX0 P w K mg base ["pot", "n", "order", "k", "p"] "_law_order" (defScope t_law_order) f cdv A outer s H E).nox.A.units + 64 < cLine := hr.units
  have nd : (["pot", "n", "order", "k", "p"] : List Str).Nodup := sc_law_order.nd
  exact (bp_cons (sp_set (i := 2) (np_val (ep_tup ap_nil)) nd)
    (bp_cons (sp_for (ip_range1 m_range (ep_var 1)) (gp_name (i := 3) nd) (bp_cons (sp_set (i := 4) (np_val (ep_oM (i := 0) G_law_take (hr.mono (by first | decide | omega | exact Nat.le_trans (by decide) (Nat.le_add_right _ _))) (ap_cons (ep_op o_add (ep_var 3) ep_int) ap_nil) (len_cons len_nil) rfl)) nd)
    (bp_one (sp_set (i := 2) (np_val (ep_op o_add (ep_op o_add (ep_slice s_sl (ep_var 2) opt_none (opt_some (ep_var 4))) (ep_tup (ap_cons (ep_op o_add (ep_var 3) ep_int) ap_nil))) (ep_slice s_sl (ep_var 2) (opt_some (ep_var 4)) opt_none))) nd))))
    (bp_one (sp_ret (ep_var 2)))))
end

/-! ### _law_pattern -/
abbrev t_law_pattern : Stmt := top 41
abbrev N_law_pattern : List Str := ["pot", "most", "sizes"]
theorem sc_law_pattern : FnScope ["pot", "most", "sizes"] ["pot", "most"] (defScope t_law_pattern) := ⟨rfl, rfl, rfl, by decide +kernel, rfl, by decide +kernel, by decide +kernel⟩
def b_law_pattern : SX := (sSeq (sSet 2 (nVal (eLst (aCons (eC (.int 3)) (aCons (eC (.int 3)) (aCons (eC (.int 3)) (aCons (eC (.int 4)) (aCons (eC (.int 4)) (aCons (eC (.int 4)) (aCons (eC (.int 3)) (aCons (eC (.int 5)) (aCons (eC (.int 2)) (aCons (eC (.int 3)) (aCons (eC (.int 4)) (aCons (eC (.int 5)) (aCons (eC (.int 3)) (aCons (eC (.int 4)) (aCons (eC (.int 2)) (aCons (eC (.int 3)) (aCons (eC (.int 4)) (aCons (eC (.int 5)) (aCons (eC (.int 3)) (aCons (eC (.int 1)) aNil)))))))))))))))))))))))
    (sRet (eCallM 0 s_law_order (aCons (eCall pMin2 (aCons (eVar 1) (aCons (eIxV 2 (eCallM 0 s_law_take (aCons (eC (.int 20)) aNil))) aNil))) aNil))))
def s_law_pattern : List PyData → List PyData → Option (PyData × List PyData) := runM 3 b_law_pattern
section
variable {P : Program} {w : World} {K : PySem.W.Frag} {mg : Str → Option Value} {base : Heap}
theorem ok_law_pattern (D : Df K mg "_law_pattern" t_law_pattern ["pot", "most"])
    (G_law_order : Ok P w K mg base 2 "_law_order" t_law_order ["pot", "n"] (spM K 2 s_law_order))
    (G_law_take : Ok P w K mg base 1 "_law_take" t_law_take ["pot", "many"] (spM K 2 s_law_take))
    (m_min : mg "min" = none) : Ok P w K mg base 3 "_law_pattern" t_law_pattern ["pot", "most"] (spM K 2 s_law_pattern) := by
  refine ok_mut D sc_law_pattern rfl rfl (fun f cdv A outer s H E hr => ?_)
  have hu : (cxOf CX0 P w K mg base ["pot", "most", "sizes"] "_law_pattern" (defScope t_law_pattern) f cdv A outer s H E).nox.A.units + 64 < cLine := hr.units
  have nd : (["pot", "most", "sizes"] : List Str).Nodup := sc_law_pattern.nd
  exact (bp_cons (sp_set (i := 2) (np_val (ep_lst (ap_cons ep_int (ap_cons ep_int (ap_cons ep_int (ap_cons ep_int (ap_cons ep_int (ap_cons ep_int (ap_cons ep_int (ap_cons ep_int (ap_cons ep_int (ap_cons ep_int (ap_cons ep_int (ap_cons ep_int (ap_cons ep_int (ap_cons ep_int (ap_cons ep_int (ap_cons ep_int (ap_cons ep_int (ap_cons ep_int (ap_cons ep_int (ap_cons ep_int ap_nil)))))))))))))))))))))) nd)
    (bp_one (sp_ret (ep_oM (i := 0) G_law_order (hr.mono (by first | decide | omega | exact Nat.le_trans (by decide) (Nat.le_add_right _ _))) (ap_cons (ep_callB (b_min2 rfl) m_min (by decide +kernel) (ap_cons (ep_var 1) (ap_cons (ep_ixV (i := 2) (ep_oM (i := 0) G_law_take (hr.mono (by first | decide | omega | exact Nat.le_trans (by decide) (Nat.le_add_right _ _))) (ap_cons ep_int ap_nil) (len_cons len_nil) rfl)) ap_nil))) ap_nil) (len_cons len_nil) rfl))))
end

/-! ### _law_list -/
abbrev t_law_list : Stmt := top 42
abbrev N_law_list : List Str := ["pot", "most", "many", "rows", "k"]
theorem sc_law_list : FnScope ["pot", "most", "many", "rows", "k"] ["pot", "most", "many"] (defScope t_law_list) := ⟨rfl, rfl, rfl, by decide +kernel, rfl, by decide +kernel, by decide +kernel⟩
def b_law_list : SX := (sSeq (sSet 3 (nLc (itRange (aCons (eCallM 0 s_law_take (aCons (eOp pAdd (eVar 2) (eC (.int 1))) aNil)) aNil)) (gxName 4) tYesX (eCallM 0 s_law_pattern (aCons (eVar 1) aNil)) [4]))
    (sSeq (sIf (tAndX (tBor (tOf (eOp pNe (eVar 3) (eLst aNil)))) (tAndX (tOf (eOp pLt (eLenV 3) (eVar 2))) (tOf (eOp pEq (eCallM 0 s_law_take (aCons (eC (.int 4)) aNil)) (eC (.int 0)))))) (sIns 3 (eCallM 0 s_law_take (aCons (eOp pAdd (eLenV 3) (eC (.int 1))) aNil)) (eIxV 3 (eCallM 0 s_law_take (aCons (eLenV 3) aNil)))) sNext)
    (sRet (eCall pTuple (aCons (eVar 3) aNil)))))
def s_law_list : List PyData → List PyData → Option (PyData × List PyData) := runM 5 b_law_list
section
variable {P : Program} {w : World} {K : PySem.W.Frag} {mg : Str → Option Value} {base : Heap}
theorem ok_law_list (D : Df K mg "_law_list" t_law_list ["pot", "most", "many"])
    (G_law_pattern : Ok P w K mg base 3 "_law_pattern" t_law_pattern ["pot", "most"] (spM K 2 s_law_pattern))
    (G_law_take : Ok P w K mg base 1 "_law_take" t_law_take ["pot", "many"] (spM K 2 s_law_take))
    (m_len : mg "len" = none)
    (m_range : mg "range" = none)
    (m_tuple : mg "tuple" = none) : Ok P w K mg base 4 "_law_list" t_law_list ["pot", "most", "many"] (spM K 3 s_law_list) := by
  refine ok_mut D sc_law_list rfl rfl (fun f cdv A outer s H E hr => ?_)
  have hu : (cxOf CX0 P w K mg base ["pot", "most", "many", "rows", "k"] "_law_list" (defScope t_law_list) f cdv A outer s H E).nox.A.units + 64 < cLine := hr.units
  have nd : (["pot", "most", "many", "rows", "k"] : List Str).Nodup := sc_law_list.nd
  exact (bp_cons (sp_setLc (i := 3) [("k", 4)] (ip_range1 m_range (ep_oM (i := 0) G_law_take (hr.mono (by first | decide | omega | exact Nat.le_trans (by decide) (Nat.le_add_right _ _))) (ap_cons (ep_op o_add (ep_var 2) ep_int) ap_nil) (len_cons len_nil) rfl)) (blkOk_by (N := N_law_list) (sc := defScope t_law_list) (by decide +kernel)) (fun _ => (gp_name (i := 4) nd)) (fun _ => tsp_nil) (fun _ => (ep_oM (i := 0) G_law_pattern (hr.mono (by first | decide | omega | exact Nat.le_trans (by decide) (Nat.le_add_right _ _))) (ap_cons (ep_var 1) ap_nil) (len_cons len_nil) rfl)) rfl nd (sw_true rfl rfl rfl (by decide +kernel)))
    (bp_cons (sp_if (WP.tp (wp_and (tp_bor (tp_cmp (c_ne hu) (ep_var 3) (ep_lst ap_nil))) (wp_and (tp_cmp c_lt (ep_lenV (i := 3) m_len) (ep_var 2)) (wp_and1 (tp_cmp (c_eq hu) (ep_oM (i := 0) G_law_take (hr.mono (by first | decide | omega | exact Nat.le_trans (by decide) (Nat.le_add_right _ _))) (ap_cons ep_int ap_nil) (len_cons len_nil) rfl) ep_int))))) (bp_one (sp_ins (i := 3) (ep_oM (i := 0) G_law_take (hr.mono (by first | decide | omega | exact Nat.le_trans (by decide) (Nat.le_add_right _ _))) (ap_cons (ep_op o_add (ep_lenV (i := 3) m_len) ep_int) ap_nil) (len_cons len_nil) rfl) (ep_ixV (i := 3) (ep_oM (i := 0) G_law_take (hr.mono (by first | decide | omega | exact Nat.le_trans (by decide) (Nat.le_add_right _ _))) (ap_cons (ep_lenV (i := 3) m_len) ap_nil) (len_cons len_nil) rfl)))) bp_nil)
    (bp_one (sp_ret (ep_callTy b_tuple m_tuple (by decide +kernel) (ap_cons (ep_var 3) ap_nil))))))
end

/-! ### _law_same -/
abbrev t_law_same : Stmt := top 35
abbrev N_law_same : List Str := ["told", "due", "kinds", "k"]
theorem sc_law_same : FnScope ["told", "due", "kinds", "k"] ["told", "due"] (defScope t_law_same) := ⟨rfl, rfl, rfl, by decide +kernel, rfl, by decide +kernel, by decide +kernel⟩
def b_law_same (rec : List PyData → Option PyData) : SX := (sSeq (sIf (tOf (eOp pIs (eVar 1) (eC .none))) (sRet (eOp pIs (eVar 0) (eC .none))) sNext)
    (sSeq (sIf (tTruX (eUn (pIsi3 "bool" "int" "str") (eVar 1))) (sSeq (sSet 2 (nVal (eLst (aCons (eOp pEq (eUn (pIsi "bool") (eVar 0)) (eUn (pIsi "bool") (eVar 1))) (aCons (eOp pEq (eUn (pIsi "str") (eVar 0)) (eUn (pIsi "str") (eVar 1))) aNil)))))
    (sRet (eAnd (eUn (pIsi3 "bool" "int" "str") (eVar 0)) (eAnd (eOp pEq (eVar 2) (eLst (aCons (eC (.bool true)) (aCons (eC (.bool true)) aNil)))) (eOp pEq (eVar 0) (eVar 1)))))) sNext)
    (sSeq (sIf (tOrX (tOf (eOp pNe (eUn (pIsi "list") (eVar 1)) (eUn (pIsi "list") (eVar 0)))) (tOf (eOp pNe (eUn (pIsi "tuple") (eVar 1)) (eUn (pIsi "tuple") (eVar 0))))) (sRet (eC (.bool false))) sNext)
    (sRet (eAnd (eOp pEq (eLenV 0) (eLenV 1)) (eCall pAll (aCons (nOwn (nLc (itRange (aCons (eLenV 1) aNil)) (gxName 3) tYesX (eCall rec (aCons (eIxV 0 (eVar 3)) (aCons (eIxV 1 (eVar 3)) aNil))) [3])) aNil)))))))
def s_law_same : Nat → List PyData → Option PyData
  | 0 => fun _ => none
  | n + 1 => runP 4 (b_law_same (s_law_same n))
section
variable {P : Program} {w : World} {K : PySem.W.Frag} {mg : Str → Option Value} {base : Heap}
theorem ok_law_same (D : Df K mg "_law_same" t_law_same ["told", "due"])
    (m_all : mg "all" = none)
    (m_bool : mg "bool" = none)
    (m_int : mg "int" = none)
    (m_isinstance : mg "isinstance" = none)
    (m_len : mg "len" = none)
    (m_list : mg "list" = none)
    (m_range : mg "range" = none)
    (m_str : mg "str" = none)
    (m_tuple : mg "tuple" = none) : ∀ n, Ok P w K mg base (1 + n) "_law_same" t_law_same ["told", "due"] (spP K 2 (s_law_same n))
  | 0 => ok_no D
  | n + 1 => by
    have G_law_same := ok_law_same D m_all m_bool m_int m_isinstance m_len m_list m_range m_str m_tuple n
    refine ok_pure D sc_law_same rfl rfl (fun f cdv A outer s H E hr => ?_)
    have hu : (cxOf CX0 P w K mg base ["told", "due", "kinds", "k"] "_law_same" (defScope t_law_same) f cdv A outer s H E).nox.A.units + 64 < cLine := hr.units
    have nd : (["told", "due", "kinds", "k"] : List Str).Nodup := sc_law_same.nd
    exact (bp_cons (sp_if (tp_cmp c_is (ep_var 1) ep_non) (bp_one (sp_ret (ep_cmp c_is (ep_var 0) ep_non))) bp_nil)
    (bp_cons (sp_if (tp_tru (ep_isi3 m_isinstance m_bool (by decide +kernel) m_int (by decide +kernel) m_str (by decide +kernel) (ep_var 1))) (bp_cons (sp_set (i := 2) (np_val (ep_lst (ap_cons (ep_cmp (c_eq hu) (ep_isi m_isinstance m_bool (by decide +kernel) (ep_var 0)) (ep_isi m_isinstance m_bool (by decide +kernel) (ep_var 1))) (ap_cons (ep_cmp (c_eq hu) (ep_isi m_isinstance m_str (by decide +kernel) (ep_var 0)) (ep_isi m_isinstance m_str (by decide +kernel) (ep_var 1))) ap_nil)))) nd)
    (bp_one (sp_ret (ep_and (ep_isi3 m_isinstance m_bool (by decide +kernel) m_int (by decide +kernel) m_str (by decide +kernel) (ep_var 0)) (ep_and (ep_cmp (c_eq hu) (ep_var 2) (ep_lst (ap_cons ep_bl (ap_cons ep_bl ap_nil)))) (ep_one (ep_cmp (c_eq hu) (ep_var 0) (ep_var 1)))))))) bp_nil)
    (bp_cons (sp_if (WP.tp (wp_or (tp_cmp (c_ne hu) (ep_isi m_isinstance m_list (by decide +kernel) (ep_var 1)) (ep_isi m_isinstance m_list (by decide +kernel) (ep_var 0))) (wp_or1 (tp_cmp (c_ne hu) (ep_isi m_isinstance m_tuple (by decide +kernel) (ep_var 1)) (ep_isi m_isinstance m_tuple (by decide +kernel) (ep_var 0)))))) (bp_one (sp_ret ep_bl)) bp_nil)
    (bp_one (sp_ret (ep_and (ep_cmp (c_eq hu) (ep_lenV (i := 0) m_len) (ep_lenV (i := 1) m_len)) (ep_one (ep_callB (b_all rfl) m_all (by decide +kernel) (ap_cons (ep_own (np_lc [("k", 3)] (ip_range1 m_range (ep_lenV (i := 1) m_len)) (blkOk_by (N := N_law_same) (sc := defScope t_law_same) (by decide +kernel)) (fun _ => (gp_name (i := 3) nd)) (fun _ => tsp_nil) (fun _ => (ep_o G_law_same hr (ap_cons (ep_ixV (i := 0) (ep_var 3)) (ap_cons (ep_ixV (i := 1) (ep_var 3)) ap_nil)) (len_cons (len_cons len_nil)))) rfl nd)) ap_nil)))))))))
end

/-! ### _law_turned -/
abbrev t_law_turned : Stmt := top 43
abbrev N_law_turned : List Str := ["order", "way", "a"]
theorem sc_law_turned : FnScope ["order", "way", "a"] ["order", "way"] (defScope t_law_turned) := ⟨rfl, rfl, rfl, by decide +kernel, rfl, by decide +kernel, by decide +kernel⟩
def b_law_turned : SX := (sSeq (sIf (tOf (eOp pEq (eVar 1) (eC (.int 0)))) (sRet (eUn pRev (eVar 0))) sNext)
    (sSeq (sIf (tOf (eOp pEq (eVar 1) (eC (.int 1)))) (sRet (eCall pTuple (aCons (nOwn (nLc (itSeq (eVar 0)) (gxName 2) tYesX (eOp pSub (eOp pAdd (eLenV 0) (eC (.int 1))) (eVar 2)) [2])) aNil))) sNext)
    (sRet (eCall pTuple (aCons (nOwn (nLc (itRange (aCons (eC (.int 1)) (aCons (eOp pAdd (eLenV 0) (eC (.int 1))) aNil))) (gxName 2) tYesX (eOp pAdd (eOp pIndex (eVar 0) (eVar 2)) (eC (.int 1))) [2])) aNil)))))
def s_law_turned : List PyData → Option PyData := runP 3 b_law_turned
section
variable {P : Program} {w : World} {K : PySem.W.Frag} {mg : Str → Option Value} {base : Heap}
theorem ok_law_turned (D : Df K mg "_law_turned" t_law_turned ["order", "way"])
    (m_len : mg "len" = none)
    (m_range : mg "range" = none)
    (m_tuple : mg "tuple" = none)
    (hKT : KT K) : Ok P w K mg base 1 "_law_turned" t_law_turned ["order", "way"] (spP K 2 s_law_turned) := by
  refine ok_pure D sc_law_turned rfl rfl (fun f cdv A outer s H E hr => ?_)
  have hu : (cxOf CX0 P w K mg base ["order", "way", "a"] "_law_turned" (defScope t_law_turned) f cdv A outer s H E).nox.A.units + 64 < cLine := hr.units
  have nd : (["order", "way", "a"] : List Str).Nodup := sc_law_turned.nd
  exact (bp_cons (sp_if (tp_cmp (c_eq hu) (ep_var 1) ep_int) (bp_one (sp_ret (ep_rev (ep_var 0)))) bp_nil)
    (bp_cons (sp_if (tp_cmp (c_eq hu) (ep_var 1) ep_int) (bp_one (sp_ret (ep_callTy b_tuple m_tuple (by decide +kernel) (ap_cons (ep_own (np_lc [("a", 2)] (ip_seq (ep_var 0)) (blkOk_by (N := N_law_turned) (sc := defScope t_law_turned) (by decide +kernel)) (fun _ => (gp_name (i := 2) nd)) (fun _ => tsp_nil) (fun _ => (ep_op o_sub (ep_op o_add (ep_lenV (i := 0) m_len) ep_int) (ep_var 2))) rfl nd)) ap_nil)))) bp_nil)
    (bp_one (sp_ret (ep_callTy b_tuple m_tuple (by decide +kernel) (ap_cons (ep_own (np_lc [("a", 2)] (ip_range2 m_range ep_int (ep_op o_add (ep_lenV (i := 0) m_len) ep_int)) (blkOk_by (N := N_law_turned) (sc := defScope t_law_turned) (by decide +kernel)) (fun _ => (gp_name (i := 2) nd)) (fun _ => tsp_nil) (fun _ => (ep_op o_add (ep_index hKT (ep_var 0) (ep_var 2)) ep_int)) rfl nd)) ap_nil))))))
end

/-! ### is_integer -/
abbrev t_is_integer : Stmt := top 5
abbrev N_is_integer : List Str := ["told"]
theorem sc_is_integer : FnScope ["told"] ["told"] (defScope t_is_integer) := ⟨rfl, rfl, rfl, by decide +kernel, rfl, by decide +kernel, by decide +kernel⟩
def b_is_integer : SX := (sRet (eAnd (eUn (pIsi "int") (eVar 0)) (eNot (eUn (pIsi "bool") (eVar 0)))))
def s_is_integer : List PyData → Option PyData := runP 1 b_is_integer
section
variable {P : Program} {w : World} {K : PySem.W.Frag} {mg : Str → Option Value} {base : Heap}
theorem ok_is_integer (D : Df K mg "is_integer" t_is_integer ["told"])
    (m_bool : mg "bool" = none)
    (m_int : mg "int" = none)
    (m_isinstance : mg "isinstance" = none) : Ok P w K mg base 1 "is_integer" t_is_integer ["told"] (spP K 1 s_is_integer) := by
  refine ok_pure D sc_is_integer rfl rfl (fun f cdv A outer s H E hr => ?_)
  have hu : (cxOf CX0 P w K mg base ["told"] "is_integer" (defScope t_is_integer) f cdv A outer s H E).nox.A.units + 64 < cLine := hr.units
  have nd : (["told"] : List Str).Nodup := sc_is_integer.nd
  exact (bp_one (sp_ret (ep_and (ep_isi m_isinstance m_int (by decide +kernel) (ep_var 0)) (ep_one (ep_not (ep_isi m_isinstance m_bool (by decide +kernel) (ep_var 0)))))))
end

/-! ### are_integers -/
abbrev t_are_integers : Stmt := top 6
abbrev N_are_integers : List Str := ["told", "number"]
theorem sc_are_integers : FnScope ["told", "number"] ["told"] (defScope t_are_integers) := ⟨rfl, rfl, rfl, by decide +kernel, rfl, by decide +kernel, by decide +kernel⟩
def b_are_integers : SX := (sSeq (sIf (tNotX (tTruX (eUn (pIsi "tuple") (eVar 0)))) (sRet (eC (.bool false))) sNext)
    (sSeq (sFor (itSeq (eVar 0)) (gxName 1) (sIf (tNotX (tTruX (eCall s_is_integer (aCons (eVar 1) aNil)))) (sRet (eC (.bool false))) sNext))
    (sRet (eC (.bool true)))))
def s_are_integers : List PyData → Option PyData := runP 2 b_are_integers
section
variable {P : Program} {w : World} {K : PySem.W.Frag} {mg : Str → Option Value} {base : Heap}
theorem ok_are_integers (D : Df K mg "are_integers" t_are_integers ["told"])
    (G_is_integer : Ok P w K mg base 1 "is_integer" t_is_integer ["told"] (spP K 1 s_is_integer))
    (m_isinstance : mg "isinstance" = none)
    (m_tuple : mg "tuple" = none) : Ok P w K mg base 2 "are_integers" t_are_integers ["told"] (spP K 1 s_are_integers) := by
  refine ok_pure D sc_are_integers rfl rfl (fun f cdv A outer s H E hr => ?_)
  have hu : (cxOf CX0 P w K mg base ["told", "number"] "are_integers" (defScope t_are_integers) f cdv A outer s H E).nox.A.units + 64 < cLine := hr.units
  have nd : (["told", "number"] : List Str).Nodup := sc_are_integers.nd
  exact (bp_cons (sp_if (tp_not (tp_tru (ep_isi m_isinstance m_tuple (by decide +kernel) (ep_var 0)))) (bp_one (sp_ret ep_bl)) bp_nil)
    (bp_cons (sp_for (ip_seq (ep_var 0)) (gp_name (i := 1) nd) (bp_one (sp_if (tp_not (tp_tru (ep_o G_is_integer (hr.mono (by first | decide | omega | exact Nat.le_trans (by decide) (Nat.le_add_right _ _))) (ap_cons (ep_var 1) ap_nil) (len_cons len_nil)))) (bp_one (sp_ret ep_bl)) bp_nil)))
    (bp_one (sp_ret ep_bl))))
end

/-! ### is_order -/
abbrev t_is_order : Stmt := top 15
abbrev N_is_order : List Str := ["told"]
theorem sc_is_order : FnScope ["told"] ["told"] (defScope t_is_order) := ⟨rfl, rfl, rfl, by decide +kernel, rfl, by decide +kernel, by decide +kernel⟩
def b_is_order : SX := (sRet (eAnd (eCall s_are_integers (aCons (eVar 0) aNil)) (eOp pEq (eCall pSort2 (aCons (eVar 0) aNil)) (eLR (rxOf (aCons (eC (.int 1)) (aCons (eOp pAdd (eLenV 0) (eC (.int 1))) aNil)))))))
def s_is_order : List PyData → Option PyData := runP 1 b_is_order
section
variable {P : Program} {w : World} {K : PySem.W.Frag} {mg : Str → Option Value} {base : Heap}
theorem ok_is_order (D : Df K mg "is_order" t_is_order ["told"])
    (G_are_integers : Ok P w K mg base 2 "are_integers" t_are_integers ["told"] (spP K 1 s_are_integers))
    (m_len : mg "len" = none)
    (m_list : mg "list" = none)
    (m_range : mg "range" = none)
    (m_sorted : mg "sorted" = none) : Ok P w K mg base 3 "is_order" t_is_order ["told"] (spP K 1 s_is_order) := by
  refine ok_pure D sc_is_order rfl rfl (fun f cdv A outer s H E hr => ?_)
  have hu : (cxOf CX0 P w K mg base ["told"] "is_order" (defScope t_is_order) f cdv A outer s H E).nox.A.units + 64 < cLine := hr.units
  have nd : (["told"] : List Str).Nodup := sc_is_order.nd
  exact (bp_one (sp_ret (ep_and (ep_o G_are_integers (hr.mono (by first | decide | omega | exact Nat.le_trans (by decide) (Nat.le_add_right _ _))) (ap_cons (ep_var 0) ap_nil) (len_cons len_nil)) (ep_one (ep_cmp (c_eq hu) (ep_callB (b_sort2 hu) m_sorted (by decide +kernel) (ap_cons (ep_var 0) ap_nil)) (ep_LR rfl m_list (rp_2 m_range ep_int (ep_op o_add (ep_lenV (i := 0) m_len) ep_int))))))))
end

/-! ### is_pattern -/
abbrev t_is_pattern : Stmt := top 16
abbrev N_is_pattern : List Str := ["told"]
theorem sc_is_pattern : FnScope ["told"] ["told"] (defScope t_is_pattern) := ⟨rfl, rfl, rfl, by decide +kernel, rfl, by decide +kernel, by decide +kernel⟩
def b_is_pattern : SX := (sRet (eAnd (eCall s_is_order (aCons (eVar 0) aNil)) (eOp pGt (eLenV 0) (eC (.int 0)))))
def s_is_pattern : List PyData → Option PyData := runP 1 b_is_pattern
section
variable {P : Program} {w : World} {K : PySem.W.Frag} {mg : Str → Option Value} {base : Heap}
theorem ok_is_pattern (D : Df K mg "is_pattern" t_is_pattern ["told"])
    (G_is_order : Ok P w K mg base 3 "is_order" t_is_order ["told"] (spP K 1 s_is_order))
    (m_len : mg "len" = none) : Ok P w K mg base 4 "is_pattern" t_is_pattern ["told"] (spP K 1 s_is_pattern) := by
  refine ok_pure D sc_is_pattern rfl rfl (fun f cdv A outer s H E hr => ?_)
  have hu : (cxOf CX0 P w K mg base ["told"] "is_pattern" (defScope t_is_pattern) f cdv A outer s H E).nox.A.units + 64 < cLine := hr.units
  have nd : (["told"] : List Str).Nodup := sc_is_pattern.nd
  exact (bp_one (sp_ret (ep_and (ep_o G_is_order (hr.mono (by first | decide | omega | exact Nat.le_trans (by decide) (Nat.le_add_right _ _))) (ap_cons (ep_var 0) ap_nil) (len_cons len_nil)) (ep_one (ep_cmp c_gt (ep_lenV (i := 0) m_len) ep_int)))))
end

/-! ### is_list -/
abbrev t_is_list : Stmt := top 23
abbrev N_is_list : List Str := ["told", "pattern"]
theorem sc_is_list : FnScope ["told", "pattern"] ["told"] (defScope t_is_list) := ⟨rfl, rfl, rfl, by decide +kernel, rfl, by decide +kernel, by decide +kernel⟩
def b_is_list : SX := (sSeq (sIf (tNotX (tTruX (eUn (pIsi "tuple") (eVar 0)))) (sRet (eC (.bool false))) sNext)
    (sSeq (sFor (itSeq (eVar 0)) (gxName 1) (sIf (tNotX (tTruX (eCall s_is_pattern (aCons (eVar 1) aNil)))) (sRet (eC (.bool false))) sNext))
    (sRet (eC (.bool true)))))
def s_is_list : List PyData → Option PyData := runP 2 b_is_list
section
variable {P : Program} {w : World} {K : PySem.W.Frag} {mg : Str → Option Value} {base : Heap}
theorem ok_is_list (D : Df K mg "is_list" t_is_list ["told"])
    (G_is_pattern : Ok P w K mg base 4 "is_pattern" t_is_pattern ["told"] (spP K 1 s_is_pattern))
    (m_isinstance : mg "isinstance" = none)
    (m_tuple : mg "tuple" = none) : Ok P w K mg base 5 "is_list" t_is_list ["told"] (spP K 1 s_is_list) := by
  refine ok_pure D sc_is_list rfl rfl (fun f cdv A outer s H E hr => ?_)
  have hu : (cxOf CX0 P w K mg base ["told", "pattern"] "is_list" (defScope t_is_list) f cdv A outer s H E).nox.A.units + 64 < cLine := hr.units
  have nd : (["told", "pattern"] : List Str).Nodup := sc_is_list.nd
  exact (bp_cons (sp_if (tp_not (tp_tru (ep_isi m_isinstance m_tuple (by decide +kernel) (ep_var 0)))) (bp_one (sp_ret ep_bl)) bp_nil)
    (bp_cons (sp_for (ip_seq (ep_var 0)) (gp_name (i := 1) nd) (bp_one (sp_if (tp_not (tp_tru (ep_o G_is_pattern (hr.mono (by first | decide | omega | exact Nat.le_trans (by decide) (Nat.le_add_right _ _))) (ap_cons (ep_var 1) ap_nil) (len_cons len_nil)))) (bp_one (sp_ret ep_bl)) bp_nil)))
    (bp_one (sp_ret ep_bl))))
end

/-! ### check_list -/
abbrev t_check_list : Stmt := top 24
abbrev N_check_list : List Str := ["forbidden"]
theorem sc_check_list : FnScope ["forbidden"] ["forbidden"] (defScope t_check_list) := ⟨rfl, rfl, rfl, by decide +kernel, rfl, by decide +kernel, by decide +kernel⟩
def b_check_list : SX := (sIf (tNotX (tTruX (eCall s_is_list (aCons (eVar 0) aNil)))) sNever sNext)
def s_check_list : List PyData → Option PyData := runP 1 b_check_list
section
variable {P : Program} {w : World} {K : PySem.W.Frag} {mg : Str → Option Value} {base : Heap}
theorem ok_check_list (D : Df K mg "check_list" t_check_list ["forbidden"])
    (G_is_list : Ok P w K mg base 5 "is_list" t_is_list ["told"] (spP K 1 s_is_list)) : Ok P w K mg base 6 "check_list" t_check_list ["forbidden"] (spP K 1 s_check_list) := by
  refine ok_pure D sc_check_list rfl rfl (fun f cdv A outer s H E hr => ?_)
  have hu : (cxOf CX0 P w K mg base ["forbidden"] "check_list" (defScope t_check_list) f cdv A outer s H E).nox.A.units + 64 < cLine := hr.units
  have nd : (["forbidden"] : List Str).Nodup := sc_check_list.nd
  exact (bp_one (sp_if (tp_not (tp_tru (ep_o G_is_list (hr.mono (by first | decide | omega | exact Nat.le_trans (by decide) (Nat.le_add_right _ _))) (ap_cons (ep_var 0) ap_nil) (len_cons len_nil)))) (bp_one sp_never) bp_nil))
end

/-! ### check_order -/
abbrev t_check_order : Stmt := top 17
abbrev N_check_order : List Str := ["order"]
theorem sc_check_order : FnScope ["order"] ["order"] (defScope t_check_order) := ⟨rfl, rfl, rfl, by decide +kernel, rfl, by decide +kernel, by decide +kernel⟩
def b_check_order : SX := (sIf (tNotX (tTruX (eCall s_is_order (aCons (eVar 0) aNil)))) sNever sNext)
def s_check_order : List PyData → Option PyData := runP 1 b_check_order
section
variable {P : Program} {w : World} {K : PySem.W.Frag} {mg : Str → Option Value} {base : Heap}
theorem ok_check_order (D : Df K mg "check_order" t_check_order ["order"])
    (G_is_order : Ok P w K mg base 3 "is_order" t_is_order ["told"] (spP K 1 s_is_order)) : Ok P w K mg base 4 "check_order" t_check_order ["order"] (spP K 1 s_check_order) := by
  refine ok_pure D sc_check_order rfl rfl (fun f cdv A outer s H E hr => ?_)
  have hu : (cxOf CX0 P w K mg base ["order"] "check_order" (defScope t_check_order) f cdv A outer s H E).nox.A.units + 64 < cLine := hr.units
  have nd : (["order"] : List Str).Nodup := sc_check_order.nd
  exact (bp_one (sp_if (tp_not (tp_tru (ep_o G_is_order (hr.mono (by first | decide | omega | exact Nat.le_trans (by decide) (Nat.le_add_right _ _))) (ap_cons (ep_var 0) ap_nil) (len_cons len_nil)))) (bp_one sp_never) bp_nil))
end

/-! ### inverse -/
abbrev t_inverse : Stmt := top 21
abbrev N_inverse : List Str := ["order", "at_place", "place", "number"]
theorem sc_inverse : FnScope ["order", "at_place", "place", "number"] ["order"] (defScope t_inverse) := ⟨rfl, rfl, rfl, by decide +kernel, rfl, by decide +kernel, by decide +kernel⟩
def b_inverse : SX := (sSeq (sDrop (eCall s_check_order (aCons (eVar 0) aNil)))
    (sSeq (sSet 1 (nRep (nLst (aCons (eC (.int 0)) aNil)) (eLenV 0)))
    (sSeq (sFor (itEnum (eVar 0)) (gxTup 2 (gxCons (gxName 2) (gxCons (gxName 3) gxNil))) (sStore 1 (eOp pSub (eVar 3) (eC (.int 1))) (eOp pAdd (eVar 2) (eC (.int 1)))))
    (sRet (eCall pTuple (aCons (eVar 1) aNil))))))
def s_inverse : List PyData → Option PyData := runP 4 b_inverse
section
variable {P : Program} {w : World} {K : PySem.W.Frag} {mg : Str → Option Value} {base : Heap}
theorem ok_inverse (D : Df K mg "inverse" t_inverse ["order"])
    (G_check_order : Ok P w K mg base 4 "check_order" t_check_order ["order"] (spP K 1 s_check_order))
    (m_enumerate : mg "enumerate" = none)
    (m_len : mg "len" = none)
    (m_tuple : mg "tuple" = none) : Ok P w K mg base 5 "inverse" t_inverse ["order"] (spP K 1 s_inverse) := by
  refine ok_pure D sc_inverse rfl rfl (fun f cdv A outer s H E hr => ?_)
  have hu : (cxOf CX0 P w K mg base ["order", "at_place", "place", "number"] "inverse" (defScope t_inverse) f cdv A outer s H E).nox.A.units + 64 < cLine := hr.units
  have nd : (["order", "at_place", "place", "number"] : List Str).Nodup := sc_inverse.nd
  exact (bp_cons (sp_expr (ep_o G_check_order (hr.mono (by first | decide | omega | exact Nat.le_trans (by decide) (Nat.le_add_right _ _))) (ap_cons (ep_var 0) ap_nil) (len_cons len_nil)))
    (bp_cons (sp_set (i := 1) (np_rep (np_lst (ap_cons ep_int ap_nil)) (ep_lenV (i := 0) m_len)) nd)
    (bp_cons (sp_for (ip_enum m_enumerate (ep_var 0)) (gp_tup rfl (gps_cons (gp_name (i := 2) nd) (gps_cons (gp_name (i := 3) nd) gps_nil))) (bp_one (sp_store (i := 1) (ep_op o_add (ep_var 2) ep_int) (ep_op o_sub (ep_var 3) ep_int))))
    (bp_one (sp_ret (ep_callTy b_tuple m_tuple (by decide +kernel) (ap_cons (ep_var 1) ap_nil)))))))
end

/-! ### by_length -/
abbrev t_by_length : Stmt := top 28
abbrev N_by_length : List Str := ["order"]
theorem sc_by_length : FnScope ["order"] ["order"] (defScope t_by_length) := ⟨rfl, rfl, rfl, by decide +kernel, rfl, by decide +kernel, by decide +kernel⟩
def b_by_length : SX := (sRet (eTup (aCons (eLenV 0) (aCons (eVar 0) aNil))))
def s_by_length : List PyData → Option PyData := runP 1 b_by_length
section
variable {P : Program} {w : World} {K : PySem.W.Frag} {mg : Str → Option Value} {base : Heap}
theorem ok_by_length (D : Df K mg "by_length" t_by_length ["order"])
    (m_len : mg "len" = none) : Ok P w K mg base 1 "by_length" t_by_length ["order"] (spP K 1 s_by_length) := by
  refine ok_pure D sc_by_length rfl rfl (fun f cdv A outer s H E hr => ?_)
  have hu : (cxOf CX0 P w K mg base ["order"] "by_length" (defScope t_by_length) f cdv A outer s H E).nox.A.units + 64 < cLine := hr.units
  have nd : (["order"] : List Str).Nodup := sc_by_length.nd
  exact (bp_one (sp_ret (ep_tup (ap_cons (ep_lenV (i := 0) m_len) (ap_cons (ep_var 0) ap_nil)))))
end

/-! ### ascending -/
abbrev t_ascending : Stmt := top 27
abbrev N_ascending : List Str := ["found", "order"]
theorem sc_ascending : FnScope ["found", "order"] ["found"] (defScope t_ascending) := ⟨rfl, rfl, rfl, by decide +kernel, rfl, by decide +kernel, by decide +kernel⟩
def b_ascending : SX := (sRet (eSortDK (nDcO (itSeq (eVar 0)) (gxName 1) (eVar 1) (eC (.bool true)) [1]) s_by_length))
def s_ascending : List PyData → Option PyData := runP 2 b_ascending
section
variable {P : Program} {w : World} {K : PySem.W.Frag} {mg : Str → Option Value} {base : Heap}
theorem ok_ascending (D : Df K mg "ascending" t_ascending ["found"])
    (G_by_length : Ok P w K mg base 1 "by_length" t_by_length ["order"] (spP K 1 s_by_length))
    (m_sorted : mg "sorted" = none) : Ok P w K mg base 4 "ascending" t_ascending ["found"] (spP K 1 s_ascending) := by
  refine ok_pure D sc_ascending rfl rfl (fun f cdv A outer s H E hr => ?_)
  have hu : (cxOf CX0 P w K mg base ["found", "order"] "ascending" (defScope t_ascending) f cdv A outer s H E).nox.A.units + 64 < cLine := hr.units
  have nd : (["found", "order"] : List Str).Nodup := sc_ascending.nd
  exact (bp_one (sp_ret (ep_sortDK m_sorted G_by_length (hr.mono (by first | decide | omega | exact Nat.le_trans (by decide) (Nat.le_add_right _ _))) hu (np_dcO hu [("order", 1)] (ip_seq (ep_var 0)) (blkOk_by (N := N_ascending) (sc := defScope t_ascending) (by decide +kernel)) (fun _ => (gp_name (i := 1) nd)) (fun _ => (ep_var 1)) (fun _ => ep_bl) rfl nd))))
end

/-! ### plan_of -/
abbrev t_plan_of : Stmt := top 8
abbrev N_plan_of : List Str := ["pattern", "held", "plan", "at", "entry", "below", "above", "grown", "needed", "kept", "number", "index"]
theorem sc_plan_of : FnScope ["pattern", "held", "plan", "at", "entry", "below", "above", "grown", "needed", "kept", "number", "index"] ["pattern"] (defScope t_plan_of) := ⟨rfl, rfl, rfl, by decide +kernel, rfl, by decide +kernel, by decide +kernel⟩
def b_plan_of : SX := (sSeq (sSet 1 (nVal (eLst (aCons (eC (.int 0)) (aCons (eOp pAdd (eLenV 0) (eC (.int 1))) aNil)))))
    (sSeq (sSet 2 (nLst aNil))
    (sSeq (sFor (itEnum (eVar 0)) (gxTup 2 (gxCons (gxName 3) (gxCons (gxName 4) gxNil))) (sSeq (sSet 5 (nVal (eCall pMax1S (aCons (nOwn (nLc (itSeq (eVar 1)) (gxName 10) (tOf (eOp pLt (eVar 10) (eVar 4))) (eVar 10) [10])) aNil))))
    (sSeq (sSet 6 (nVal (eCall pMin1 (aCons (nOwn (nLc (itSeq (eVar 1)) (gxName 10) (tOf (eOp pGt (eVar 10) (eVar 4))) (eVar 10) [10])) aNil))))
    (sSeq (sSet 7 (nVal (eOp pAdd (eVar 1) (eLst (aCons (eVar 4) aNil)))))
    (sSeq (sSet 8 (nCallD s_next_to (aCons (eVar 7) (aCons (eSl pSl (eVar 0) (oSome (eOp pAdd (eVar 3) (eC (.int 1)))) oNone) aNil))))
    (sSeq (sSet 9 (nLc (itEnum (eVar 7)) (gxTup 2 (gxCons (gxName 11) (gxCons (gxName 10) gxNil))) (tDin 8 (eVar 10)) (eVar 11) [11, 10]))
    (sSeq (sApp 2 (eTup (aCons (eOp pIndexL (eVar 1) (eVar 5)) (aCons (eOp pIndexL (eVar 1) (eVar 6)) (aCons (eVar 9) aNil)))))
    (sSet 1 (nLc (itSeq (eVar 9)) (gxName 11) tYesX (eIxV 7 (eVar 11)) [11])))))))))
    (sRet (eVar 2)))))
def s_plan_of : List PyData → Option PyData := runP 12 b_plan_of
section
variable {P : Program} {w : World} {K : PySem.W.Frag} {mg : Str → Option Value} {base : Heap}
theorem ok_plan_of (D : Df K mg "plan_of" t_plan_of ["pattern"])
    (G_next_to : Ok P w K mg base 1 "_next_to" t_next_to ["held", "coming"] (spD K 2 s_next_to))
    (m_enumerate : mg "enumerate" = none)
    (m_len : mg "len" = none)
    (m_max : mg "max" = none)
    (m_min : mg "min" = none) : Ok P w K mg base 2 "plan_of" t_plan_of ["pattern"] (spP K 1 s_plan_of) := by
  refine ok_pure D sc_plan_of rfl rfl (fun f cdv A outer s H E hr => ?_)
  have hu : (cxOf CX0 P w K mg base ["pattern", "held", "plan", "at", "entry", "below", "above", "grown", "needed", "kept", "number", "index"] "plan_of" (defScope t_plan_of) f cdv A outer s H E).nox.A.units + 64 < cLine := hr.units
  have nd : (["pattern", "held", "plan", "at", "entry", "below", "above", "grown", "needed", "kept", "number", "index"] : List Str).Nodup := sc_plan_of.nd
  exact (bp_cons (sp_set (i := 1) (np_val (ep_lst (ap_cons ep_int (ap_cons (ep_op o_add (ep_lenV (i := 0) m_len) ep_int) ap_nil)))) nd)
    (bp_cons (sp_set (i := 2) (np_lst ap_nil) nd)
    (bp_cons (sp_for (ip_enum m_enumerate (ep_var 0)) (gp_tup rfl (gps_cons (gp_name (i := 3) nd) (gps_cons (gp_name (i := 4) nd) gps_nil))) (bp_cons (sp_set (i := 5) (np_val (ep_callB (b_max1S rfl) m_max (by decide +kernel) (ap_cons (ep_own (np_lc [("number", 10)] (ip_seq (ep_var 1)) (blkOk_by (N := N_plan_of) (sc := defScope t_plan_of) (by decide +kernel)) (fun _ => (gp_name (i := 10) nd)) (fun _ => (tsp_one (tp_cmp c_lt (ep_var 10) (ep_var 4)))) (fun _ => (ep_var 10)) rfl nd)) ap_nil))) nd)
    (bp_cons (sp_set (i := 6) (np_val (ep_callB (b_min1 rfl) m_min (by decide +kernel) (ap_cons (ep_own (np_lc [("number", 10)] (ip_seq (ep_var 1)) (blkOk_by (N := N_plan_of) (sc := defScope t_plan_of) (by decide +kernel)) (fun _ => (gp_name (i := 10) nd)) (fun _ => (tsp_one (tp_cmp c_gt (ep_var 10) (ep_var 4)))) (fun _ => (ep_var 10)) rfl nd)) ap_nil))) nd)
    (bp_cons (sp_set (i := 7) (np_val (ep_op o_add (ep_var 1) (ep_lst (ap_cons (ep_var 4) ap_nil)))) nd)
    (bp_cons (sp_set (i := 8) (np_oD G_next_to (hr.mono (by first | decide | omega | exact Nat.le_trans (by decide) (Nat.le_add_right _ _))) (ap_cons (ep_var 7) (ap_cons (ep_slice s_sl (ep_var 0) (opt_some (ep_op o_add (ep_var 3) ep_int)) opt_none) ap_nil)) (len_cons (len_cons len_nil))) nd)
    (bp_cons (sp_setLc (i := 9) [("index", 11), ("number", 10)] (ip_enum m_enumerate (ep_var 7)) (blkOk_by (N := N_plan_of) (sc := defScope t_plan_of) (by decide +kernel)) (fun _ => (gp_tup rfl (gps_cons (gp_name (i := 11) nd) (gps_cons (gp_name (i := 10) nd) gps_nil)))) (fun _ => (tsp_one (tp_din (i := 8) hu (ep_var 10)))) (fun _ => (ep_var 11)) rfl nd (sw_true rfl rfl rfl (by decide +kernel)))
    (bp_cons (sp_app (i := 2) (ep_tup (ap_cons (ep_indexL (ep_var 1) (ep_var 5)) (ap_cons (ep_indexL (ep_var 1) (ep_var 6)) (ap_cons (ep_var 9) ap_nil)))))
    (bp_one (sp_setLc (i := 1) [("index", 11)] (ip_seq (ep_var 9)) (blkOk_by (N := N_plan_of) (sc := defScope t_plan_of) (by decide +kernel)) (fun _ => (gp_name (i := 11) nd)) (fun _ => tsp_nil) (fun _ => (ep_ixV (i := 7) (ep_var 11))) rfl nd (sw_true rfl rfl rfl (by decide +kernel)))))))))))
    (bp_one (sp_ret (ep_var 2))))))
end

/-! ### placings -/
abbrev t_placings : Stmt := top 10
abbrev N_placings : List Str := ["order", "pattern", "most"]
theorem sc_placings : FnScope ["order", "pattern", "most"] ["order", "pattern", "most"] (defScope t_placings) := ⟨rfl, rfl, rfl, by decide +kernel, rfl, by decide +kernel, by decide +kernel⟩
def b_placings : SX := (sRet (eCall s_placings_by (aCons (eVar 0) (aCons (eCall s_plan_of (aCons (eVar 1) aNil)) (aCons (eVar 2) aNil)))))
def s_placings : List PyData → Option PyData := runP 3 b_placings
section
variable {P : Program} {w : World} {K : PySem.W.Frag} {mg : Str → Option Value} {base : Heap}
theorem ok_placings (D : Df K mg "placings" t_placings ["order", "pattern", "most"])
    (G_placings_by : Ok P w K mg base 42 "placings_by" t_placings_by ["order", "plan", "most"] (spP K 3 s_placings_by))
    (G_plan_of : Ok P w K mg base 2 "plan_of" t_plan_of ["pattern"] (spP K 1 s_plan_of)) : Ok P w K mg base 43 "placings" t_placings ["order", "pattern", "most"] (spP K 3 s_placings) := by
  refine ok_pure D sc_placings rfl rfl (fun f cdv A outer s H E hr => ?_)
  have hu : (cxOf CX0 P w K mg base ["order", "pattern", "most"] "placings" (defScope t_placings) f cdv A outer s H E).nox.A.units + 64 < cLine := hr.units
  have nd : (["order", "pattern", "most"] : List Str).Nodup := sc_placings.nd
  exact (bp_one (sp_ret (ep_o G_placings_by (hr.mono (by first | decide | omega | exact Nat.le_trans (by decide) (Nat.le_add_right _ _))) (ap_cons (ep_var 0) (ap_cons (ep_o G_plan_of (hr.mono (by first | decide | omega | exact Nat.le_trans (by decide) (Nat.le_add_right _ _))) (ap_cons (ep_var 1) ap_nil) (len_cons len_nil)) (ap_cons (ep_var 2) ap_nil))) (len_cons (len_cons (len_cons len_nil))))))
end

/-! ### does_show -/
abbrev t_does_show : Stmt := top 18
abbrev N_does_show : List Str := ["order", "pattern"]
theorem sc_does_show : FnScope ["order", "pattern"] ["order", "pattern"] (defScope t_does_show) := ⟨rfl, rfl, rfl, by decide +kernel, rfl, by decide +kernel, by decide +kernel⟩
def b_does_show : SX := (sRet (eOp pEq (eCall pLen (aCons (eCall s_placings (aCons (eVar 0) (aCons (eVar 1) (aCons (eC (.int 1)) aNil)))) aNil)) (eC (.int 1))))
def s_does_show : List PyData → Option PyData := runP 2 b_does_show
section
variable {P : Program} {w : World} {K : PySem.W.Frag} {mg : Str → Option Value} {base : Heap}
theorem ok_does_show (D : Df K mg "does_show" t_does_show ["order", "pattern"])
    (G_placings : Ok P w K mg base 43 "placings" t_placings ["order", "pattern", "most"] (spP K 3 s_placings))
    (m_len : mg "len" = none) : Ok P w K mg base 44 "does_show" t_does_show ["order", "pattern"] (spP K 2 s_does_show) := by
  refine ok_pure D sc_does_show rfl rfl (fun f cdv A outer s H E hr => ?_)
  have hu : (cxOf CX0 P w K mg base ["order", "pattern"] "does_show" (defScope t_does_show) f cdv A outer s H E).nox.A.units + 64 < cLine := hr.units
  have nd : (["order", "pattern"] : List Str).Nodup := sc_does_show.nd
  exact (bp_one (sp_ret (ep_cmp (c_eq hu) (ep_callB b_len m_len (by decide +kernel) (ap_cons (ep_o G_placings (hr.mono (by first | decide | omega | exact Nat.le_trans (by decide) (Nat.le_add_right _ _))) (ap_cons (ep_var 0) (ap_cons (ep_var 1) (ap_cons ep_int ap_nil))) (len_cons (len_cons (len_cons len_nil)))) ap_nil)) ep_int)))
end

/-! ### does_let -/
abbrev t_does_let : Stmt := top 25
abbrev N_does_let : List Str := ["forbidden", "order", "pattern"]
theorem sc_does_let : FnScope ["forbidden", "order", "pattern"] ["forbidden", "order"] (defScope t_does_let) := ⟨rfl, rfl, rfl, by decide +kernel, rfl, by decide +kernel, by decide +kernel⟩
def b_does_let : SX := (sSeq (sFor (itSeq (eVar 0)) (gxName 2) (sIf (tTruX (eCall s_does_show (aCons (eVar 1) (aCons (eVar 2) aNil)))) (sRet (eC (.bool false))) sNext))
    (sRet (eC (.bool true))))
def s_does_let : List PyData → Option PyData := runP 3 b_does_let
section
variable {P : Program} {w : World} {K : PySem.W.Frag} {mg : Str → Option Value} {base : Heap}
theorem ok_does_let (D : Df K mg "does_let" t_does_let ["forbidden", "order"])
    (G_does_show : Ok P w K mg base 44 "does_show" t_does_show ["order", "pattern"] (spP K 2 s_does_show)) : Ok P w K mg base 45 "does_let" t_does_let ["forbidden", "order"] (spP K 2 s_does_let) := by
  refine ok_pure D sc_does_let rfl rfl (fun f cdv A outer s H E hr => ?_)
  have hu : (cxOf CX0 P w K mg base ["forbidden", "order", "pattern"] "does_let" (defScope t_does_let) f cdv A outer s H E).nox.A.units + 64 < cLine := hr.units
  have nd : (["forbidden", "order", "pattern"] : List Str).Nodup := sc_does_let.nd
  exact (bp_cons (sp_for (ip_seq (ep_var 0)) (gp_name (i := 2) nd) (bp_one (sp_if (tp_tru (ep_o G_does_show (hr.mono (by first | decide | omega | exact Nat.le_trans (by decide) (Nat.le_add_right _ _))) (ap_cons (ep_var 1) (ap_cons (ep_var 2) ap_nil)) (len_cons (len_cons len_nil)))) (bp_one (sp_ret ep_bl)) bp_nil)))
    (bp_one (sp_ret ep_bl)))
end

/-! ### least_of -/
abbrev t_least_of : Stmt := top 29
abbrev N_least_of : List Str := ["forbidden", "kept", "shorter", "pattern"]
theorem sc_least_of : FnScope ["forbidden", "kept", "shorter", "pattern"] ["forbidden"] (defScope t_least_of) := ⟨rfl, rfl, rfl, by decide +kernel, rfl, by decide +kernel, by decide +kernel⟩
def b_least_of : SX := (sSeq (sSet 1 (nLst aNil))
    (sSeq (sSet 2 (nVal (eLst aNil)))
    (sSeq (sFor (itSeq (eCall s_ascending (aCons (eVar 0) aNil))) (gxName 3) (sSeq (sIf (tAndX (tBor (tTruX (eVar 1))) (tOf (eOp pLt (eCall pLen (aCons (eIxV 1 (eUn pNeg (eC (.int 1)))) aNil)) (eLenV 3)))) (sSet 2 (nVal (eListO 1))) sNext)
    (sIf (tTruX (eCall s_does_let (aCons (eVar 2) (aCons (eVar 3) aNil)))) (sApp 1 (eVar 3)) sNext)))
    (sRet (eCall pTuple (aCons (eVar 1) aNil))))))
def s_least_of : List PyData → Option PyData := runP 4 b_least_of
section
variable {P : Program} {w : World} {K : PySem.W.Frag} {mg : Str → Option Value} {base : Heap}
theorem ok_least_of (D : Df K mg "least_of" t_least_of ["forbidden"])
    (G_ascending : Ok P w K mg base 4 "ascending" t_ascending ["found"] (spP K 1 s_ascending))
    (G_does_let : Ok P w K mg base 45 "does_let" t_does_let ["forbidden", "order"] (spP K 2 s_does_let))
    (m_len : mg "len" = none)
    (m_list : mg "list" = none)
    (m_tuple : mg "tuple" = none) : Ok P w K mg base 46 "least_of" t_least_of ["forbidden"] (spP K 1 s_least_of) := by
  refine ok_pure D sc_least_of rfl rfl (fun f cdv A outer s H E hr => ?_)
  have hu : (cxOf CX0 P w K mg base ["forbidden", "kept", "shorter", "pattern"] "least_of" (defScope t_least_of) f cdv A outer s H E).nox.A.units + 64 < cLine := hr.units
  have nd : (["forbidden", "kept", "shorter", "pattern"] : List Str).Nodup := sc_least_of.nd
  exact (bp_cons (sp_set (i := 1) (np_lst ap_nil) nd)
    (bp_cons (sp_set (i := 2) (np_val (ep_lst ap_nil)) nd)
    (bp_cons (sp_for (ip_seq (ep_o G_ascending (hr.mono (by first | decide | omega | exact Nat.le_trans (by decide) (Nat.le_add_right _ _))) (ap_cons (ep_var 0) ap_nil) (len_cons len_nil))) (gp_name (i := 3) nd) (bp_cons (sp_if (WP.tp (wp_and (tp_bor (tp_tru (ep_var 1))) (wp_and1 (tp_cmp c_lt (ep_callB b_len m_len (by decide +kernel) (ap_cons (ep_ixV (i := 1) (ep_un u_neg ep_int)) ap_nil)) (ep_lenV (i := 3) m_len))))) (bp_one (sp_set (i := 2) (np_val (ep_listO (i := 1) m_list)) nd)) bp_nil)
    (bp_one (sp_if (tp_tru (ep_o G_does_let (hr.mono (by first | decide | omega | exact Nat.le_trans (by decide) (Nat.le_add_right _ _))) (ap_cons (ep_var 2) (ap_cons (ep_var 3) ap_nil)) (len_cons (len_cons len_nil)))) (bp_one (sp_app (i := 1) (ep_var 3))) bp_nil))))
    (bp_one (sp_ret (ep_callTy b_tuple m_tuple (by decide +kernel) (ap_cons (ep_var 1) ap_nil)))))))
end

/-! ### inverse_list -/
abbrev t_inverse_list : Stmt := top 32
abbrev N_inverse_list : List Str := ["forbidden", "pattern"]
theorem sc_inverse_list : FnScope ["forbidden", "pattern"] ["forbidden"] (defScope t_inverse_list) := ⟨rfl, rfl, rfl, by decide +kernel, rfl, by decide +kernel, by decide +kernel⟩
def b_inverse_list : SX := (sSeq (sDrop (eCall s_check_list (aCons (eVar 0) aNil)))
    (sRet (eCall s_least_of (aCons (nOwn (nLc (itSeq (eVar 0)) (gxName 1) tYesX (eCall s_inverse (aCons (eVar 1) aNil)) [1])) aNil))))
def s_inverse_list : List PyData → Option PyData := runP 2 b_inverse_list
section
variable {P : Program} {w : World} {K : PySem.W.Frag} {mg : Str → Option Value} {base : Heap}
theorem ok_inverse_list (D : Df K mg "inverse_list" t_inverse_list ["forbidden"])
    (G_check_list : Ok P w K mg base 6 "check_list" t_check_list ["forbidden"] (spP K 1 s_check_list))
    (G_inverse : Ok P w K mg base 5 "inverse" t_inverse ["order"] (spP K 1 s_inverse))
    (G_least_of : Ok P w K mg base 46 "least_of" t_least_of ["forbidden"] (spP K 1 s_least_of)) : Ok P w K mg base 47 "inverse_list" t_inverse_list ["forbidden"] (spP K 1 s_inverse_list) := by
  refine ok_pure D sc_inverse_list rfl rfl (fun f cdv A outer s H E hr => ?_)
  have hu : (cxOf CX0 P w K mg base ["forbidden", "pattern"] "inverse_list" (defScope t_inverse_list) f cdv A outer s H E).nox.A.units + 64 < cLine := hr.units
  have nd : (["forbidden", "pattern"] : List Str).Nodup := sc_inverse_list.nd
  exact (bp_cons (sp_expr (ep_o G_check_list (hr.mono (by first | decide | omega | exact Nat.le_trans (by decide) (Nat.le_add_right _ _))) (ap_cons (ep_var 0) ap_nil) (len_cons len_nil)))
    (bp_one (sp_ret (ep_o G_least_of (hr.mono (by first | decide | omega | exact Nat.le_trans (by decide) (Nat.le_add_right _ _))) (ap_cons (ep_own (np_lc [("pattern", 1)] (ip_seq (ep_var 0)) (blkOk_by (N := N_inverse_list) (sc := defScope t_inverse_list) (by decide +kernel)) (fun _ => (gp_name (i := 1) nd)) (fun _ => tsp_nil) (fun _ => (ep_o G_inverse (hr.mono (by first | decide | omega | exact Nat.le_trans (by decide) (Nat.le_add_right _ _))) (ap_cons (ep_var 1) ap_nil) (len_cons len_nil))) rfl nd)) ap_nil) (len_cons len_nil)))))
end

/-! ### lets -/
abbrev t_lets : Stmt := top 26
abbrev N_lets : List Str := ["forbidden", "order"]
theorem sc_lets : FnScope ["forbidden", "order"] ["forbidden", "order"] (defScope t_lets) := ⟨rfl, rfl, rfl, by decide +kernel, rfl, by decide +kernel, by decide +kernel⟩
def b_lets : SX := (sSeq (sDrop (eCall s_check_list (aCons (eVar 0) aNil)))
    (sSeq (sDrop (eCall s_check_order (aCons (eVar 1) aNil)))
    (sRet (eCall s_does_let (aCons (eVar 0) (aCons (eVar 1) aNil))))))
def s_lets : List PyData → Option PyData := runP 2 b_lets
section
variable {P : Program} {w : World} {K : PySem.W.Frag} {mg : Str → Option Value} {base : Heap}
theorem ok_lets (D : Df K mg "lets" t_lets ["forbidden", "order"])
    (G_check_list : Ok P w K mg base 6 "check_list" t_check_list ["forbidden"] (spP K 1 s_check_list))
    (G_check_order : Ok P w K mg base 4 "check_order" t_check_order ["order"] (spP K 1 s_check_order))
    (G_does_let : Ok P w K mg base 45 "does_let" t_does_let ["forbidden", "order"] (spP K 2 s_does_let)) : Ok P w K mg base 46 "lets" t_lets ["forbidden", "order"] (spP K 2 s_lets) := by
  refine ok_pure D sc_lets rfl rfl (fun f cdv A outer s H E hr => ?_)
  have hu : (cxOf CX0 P w K mg base ["forbidden", "order"] "lets" (defScope t_lets) f cdv A outer s H E).nox.A.units + 64 < cLine := hr.units
  have nd : (["forbidden", "order"] : List Str).Nodup := sc_lets.nd
  exact (bp_cons (sp_expr (ep_o G_check_list (hr.mono (by first | decide | omega | exact Nat.le_trans (by decide) (Nat.le_add_right _ _))) (ap_cons (ep_var 0) ap_nil) (len_cons len_nil)))
    (bp_cons (sp_expr (ep_o G_check_order (hr.mono (by first | decide | omega | exact Nat.le_trans (by decide) (Nat.le_add_right _ _))) (ap_cons (ep_var 1) ap_nil) (len_cons len_nil)))
    (bp_one (sp_ret (ep_o G_does_let (hr.mono (by first | decide | omega | exact Nat.le_trans (by decide) (Nat.le_add_right _ _))) (ap_cons (ep_var 0) (ap_cons (ep_var 1) ap_nil)) (len_cons (len_cons len_nil)))))))
end

/-! ### mirrored -/
abbrev t_mirrored : Stmt := top 20
abbrev N_mirrored : List Str := ["order", "number"]
theorem sc_mirrored : FnScope ["order", "number"] ["order"] (defScope t_mirrored) := ⟨rfl, rfl, rfl, by decide +kernel, rfl, by decide +kernel, by decide +kernel⟩
def b_mirrored : SX := (sSeq (sDrop (eCall s_check_order (aCons (eVar 0) aNil)))
    (sRet (eCall pTuple (aCons (nOwn (nLc (itSeq (eVar 0)) (gxName 1) tYesX (eOp pSub (eOp pAdd (eLenV 0) (eC (.int 1))) (eVar 1)) [1])) aNil))))
def s_mirrored : List PyData → Option PyData := runP 2 b_mirrored
section
variable {P : Program} {w : World} {K : PySem.W.Frag} {mg : Str → Option Value} {base : Heap}
theorem ok_mirrored (D : Df K mg "mirrored" t_mirrored ["order"])
    (G_check_order : Ok P w K mg base 4 "check_order" t_check_order ["order"] (spP K 1 s_check_order))
    (m_len : mg "len" = none)
    (m_tuple : mg "tuple" = none) : Ok P w K mg base 5 "mirrored" t_mirrored ["order"] (spP K 1 s_mirrored) := by
  refine ok_pure D sc_mirrored rfl rfl (fun f cdv A outer s H E hr => ?_)
  have hu : (cxOf CX0 P w K mg base ["order", "number"] "mirrored" (defScope t_mirrored) f cdv A outer s H E).nox.A.units + 64 < cLine := hr.units
  have nd : (["order", "number"] : List Str).Nodup := sc_mirrored.nd
  exact (bp_cons (sp_expr (ep_o G_check_order (hr.mono (by first | decide | omega | exact Nat.le_trans (by decide) (Nat.le_add_right _ _))) (ap_cons (ep_var 0) ap_nil) (len_cons len_nil)))
    (bp_one (sp_ret (ep_callTy b_tuple m_tuple (by decide +kernel) (ap_cons (ep_own (np_lc [("number", 1)] (ip_seq (ep_var 0)) (blkOk_by (N := N_mirrored) (sc := defScope t_mirrored) (by decide +kernel)) (fun _ => (gp_name (i := 1) nd)) (fun _ => tsp_nil) (fun _ => (ep_op o_sub (ep_op o_add (ep_lenV (i := 0) m_len) ep_int) (ep_var 1))) rfl nd)) ap_nil)))))
end

/-! ### mirrored_list -/
abbrev t_mirrored_list : Stmt := top 31
abbrev N_mirrored_list : List Str := ["forbidden", "pattern"]
theorem sc_mirrored_list : FnScope ["forbidden", "pattern"] ["forbidden"] (defScope t_mirrored_list) := ⟨rfl, rfl, rfl, by decide +kernel, rfl, by decide +kernel, by decide +kernel⟩
def b_mirrored_list : SX := (sSeq (sDrop (eCall s_check_list (aCons (eVar 0) aNil)))
    (sRet (eCall s_least_of (aCons (nOwn (nLc (itSeq (eVar 0)) (gxName 1) tYesX (eCall s_mirrored (aCons (eVar 1) aNil)) [1])) aNil))))
def s_mirrored_list : List PyData → Option PyData := runP 2 b_mirrored_list
section
variable {P : Program} {w : World} {K : PySem.W.Frag} {mg : Str → Option Value} {base : Heap}
theorem ok_mirrored_list (D : Df K mg "mirrored_list" t_mirrored_list ["forbidden"])
    (G_check_list : Ok P w K mg base 6 "check_list" t_check_list ["forbidden"] (spP K 1 s_check_list))
    (G_least_of : Ok P w K mg base 46 "least_of" t_least_of ["forbidden"] (spP K 1 s_least_of))
    (G_mirrored : Ok P w K mg base 5 "mirrored" t_mirrored ["order"] (spP K 1 s_mirrored)) : Ok P w K mg base 47 "mirrored_list" t_mirrored_list ["forbidden"] (spP K 1 s_mirrored_list) := by
  refine ok_pure D sc_mirrored_list rfl rfl (fun f cdv A outer s H E hr => ?_)
  have hu : (cxOf CX0 P w K mg base ["forbidden", "pattern"] "mirrored_list" (defScope t_mirrored_list) f cdv A outer s H E).nox.A.units + 64 < cLine := hr.units
  have nd : (["forbidden", "pattern"] : List Str).Nodup := sc_mirrored_list.nd
  exact (bp_cons (sp_expr (ep_o G_check_list (hr.mono (by first | decide | omega | exact Nat.le_trans (by decide) (Nat.le_add_right _ _))) (ap_cons (ep_var 0) ap_nil) (len_cons len_nil)))
    (bp_one (sp_ret (ep_o G_least_of (hr.mono (by first | decide | omega | exact Nat.le_trans (by decide) (Nat.le_add_right _ _))) (ap_cons (ep_own (np_lc [("pattern", 1)] (ip_seq (ep_var 0)) (blkOk_by (N := N_mirrored_list) (sc := defScope t_mirrored_list) (by decide +kernel)) (fun _ => (gp_name (i := 1) nd)) (fun _ => tsp_nil) (fun _ => (ep_o G_mirrored (hr.mono (by first | decide | omega | exact Nat.le_trans (by decide) (Nat.le_add_right _ _))) (ap_cons (ep_var 1) ap_nil) (len_cons len_nil))) rfl nd)) ap_nil) (len_cons len_nil)))))
end

/-! ### turned -/
abbrev t_turned : Stmt := top 19
abbrev N_turned : List Str := ["order"]
theorem sc_turned : FnScope ["order"] ["order"] (defScope t_turned) := ⟨rfl, rfl, rfl, by decide +kernel, rfl, by decide +kernel, by decide +kernel⟩
def b_turned : SX := (sSeq (sDrop (eCall s_check_order (aCons (eVar 0) aNil)))
    (sRet (eUn pRev (eVar 0))))
def s_turned : List PyData → Option PyData := runP 1 b_turned
section
variable {P : Program} {w : World} {K : PySem.W.Frag} {mg : Str → Option Value} {base : Heap}
theorem ok_turned (D : Df K mg "turned" t_turned ["order"])
    (G_check_order : Ok P w K mg base 4 "check_order" t_check_order ["order"] (spP K 1 s_check_order)) : Ok P w K mg base 5 "turned" t_turned ["order"] (spP K 1 s_turned) := by
  refine ok_pure D sc_turned rfl rfl (fun f cdv A outer s H E hr => ?_)
  have hu : (cxOf CX0 P w K mg base ["order"] "turned" (defScope t_turned) f cdv A outer s H E).nox.A.units + 64 < cLine := hr.units
  have nd : (["order"] : List Str).Nodup := sc_turned.nd
  exact (bp_cons (sp_expr (ep_o G_check_order (hr.mono (by first | decide | omega | exact Nat.le_trans (by decide) (Nat.le_add_right _ _))) (ap_cons (ep_var 0) ap_nil) (len_cons len_nil)))
    (bp_one (sp_ret (ep_rev (ep_var 0)))))
end

/-! ### turned_list -/
abbrev t_turned_list : Stmt := top 30
abbrev N_turned_list : List Str := ["forbidden", "pattern"]
theorem sc_turned_list : FnScope ["forbidden", "pattern"] ["forbidden"] (defScope t_turned_list) := ⟨rfl, rfl, rfl, by decide +kernel, rfl, by decide +kernel, by decide +kernel⟩
def b_turned_list : SX := (sSeq (sDrop (eCall s_check_list (aCons (eVar 0) aNil)))
    (sRet (eCall s_least_of (aCons (nOwn (nLc (itSeq (eVar 0)) (gxName 1) tYesX (eCall s_turned (aCons (eVar 1) aNil)) [1])) aNil))))
def s_turned_list : List PyData → Option PyData := runP 2 b_turned_list
section
variable {P : Program} {w : World} {K : PySem.W.Frag} {mg : Str → Option Value} {base : Heap}
theorem ok_turned_list (D : Df K mg "turned_list" t_turned_list ["forbidden"])
    (G_check_list : Ok P w K mg base 6 "check_list" t_check_list ["forbidden"] (spP K 1 s_check_list))
    (G_least_of : Ok P w K mg base 46 "least_of" t_least_of ["forbidden"] (spP K 1 s_least_of))
    (G_turned : Ok P w K mg base 5 "turned" t_turned ["order"] (spP K 1 s_turned)) : Ok P w K mg base 47 "turned_list" t_turned_list ["forbidden"] (spP K 1 s_turned_list) := by
  refine ok_pure D sc_turned_list rfl rfl (fun f cdv A outer s H E hr => ?_)
  have hu : (cxOf CX0 P w K mg base ["forbidden", "pattern"] "turned_list" (defScope t_turned_list) f cdv A outer s H E).nox.A.units + 64 < cLine := hr.units
  have nd : (["forbidden", "pattern"] : List Str).Nodup := sc_turned_list.nd
  exact (bp_cons (sp_expr (ep_o G_check_list (hr.mono (by first | decide | omega | exact Nat.le_trans (by decide) (Nat.le_add_right _ _))) (ap_cons (ep_var 0) ap_nil) (len_cons len_nil)))
    (bp_one (sp_ret (ep_o G_least_of (hr.mono (by first | decide | omega | exact Nat.le_trans (by decide) (Nat.le_add_right _ _))) (ap_cons (ep_own (np_lc [("pattern", 1)] (ip_seq (ep_var 0)) (blkOk_by (N := N_turned_list) (sc := defScope t_turned_list) (by decide +kernel)) (fun _ => (gp_name (i := 1) nd)) (fun _ => tsp_nil) (fun _ => (ep_o G_turned (hr.mono (by first | decide | omega | exact Nat.le_trans (by decide) (Nat.le_add_right _ _))) (ap_cons (ep_var 1) ap_nil) (len_cons len_nil))) rfl nd)) ap_nil) (len_cons len_nil)))))
end

/-! ### law -/
abbrev t_law : Stmt := top 44
abbrev N_law : List Str := ["script", "pot", "turn", "forbidden", "dues", "told", "back", "way", "order", "pattern"]
theorem sc_law : FnScope ["script", "pot", "turn", "forbidden", "dues", "told", "back", "way", "order", "pattern"] ["script"] (defScope t_law) := ⟨rfl, rfl, rfl, by decide +kernel, rfl, by decide +kernel, by decide +kernel⟩
def b_law : SX := (sSeq (sSet 1 (nAdd (eLst (aCons (eC (.int 0)) (aCons (eC (.int 7)) (aCons (eC (.int 3)) aNil)))) (eCall pList (aCons (eVar 0) aNil))))
    (sSeq (sFor (itRange (aCons (eC (.int 5)) aNil)) (gxName 2) (sSeq (sSet 3 (nVal (eCallM 1 s_law_list (aCons (eC (.int 5)) (aCons (eC (.int 6)) aNil)))))
    (sSeq (sSet 4 (nLc (itRange (aCons (eC (.int 3)) aNil)) (gxName 7) tYesX (eCall s_law_least (aCons (nOwn (nLc (itSeq (eVar 3)) (gxName 9) tYesX (eCall s_law_turned (aCons (eVar 9) (aCons (eVar 7) aNil))) [9])) aNil)) [7]))
    (sSeq (sSet 5 (nVal (eLst (aCons (eCall s_turned_list (aCons (eVar 3) aNil)) (aCons (eCall s_mirrored_list (aCons (eVar 3) aNil)) (aCons (eCall s_inverse_list (aCons (eVar 3) aNil)) aNil))))))
    (sSeq (sIf (tNotX (tTruX (eCall (s_law_same 40) (aCons (eVar 5) (aCons (eVar 4) aNil))))) (sRet (eC (.bool false))) sNext)
    (sSeq (sSet 5 (nVal (eLst (aCons (eCallK s_turned_list 0 [0] aNil (aCons (eVar 3) aNil)) (aCons (eCallK s_mirrored_list 0 [0] aNil (aCons (eVar 3) aNil)) (aCons (eCallK s_inverse_list 0 [0] aNil (aCons (eVar 3) aNil)) aNil))))))
    (sSeq (sIf (tNotX (tTruX (eCall (s_law_same 40) (aCons (eVar 5) (aCons (eVar 4) aNil))))) (sRet (eC (.bool false))) sNext)
    (sSeq (sSet 6 (nVal (eCall s_law_least (aCons (eVar 3) aNil))))
    (sSeq (sIf (tNotX (tTruX (eCall (s_law_same 40) (aCons (eLst (aCons (eCall s_turned_list (aCons (eIxV 4 (eC (.int 0))) aNil)) (aCons (eCall s_mirrored_list (aCons (eIxV 4 (eC (.int 1))) aNil)) (aCons (eCall s_inverse_list (aCons (eIxV 4 (eC (.int 2))) aNil)) aNil)))) (aCons (eLst (aCons (eVar 6) (aCons (eVar 6) (aCons (eVar 6) aNil)))) aNil))))) (sRet (eC (.bool false))) sNext)
    (sFor (itRange (aCons (eC (.int 3)) aNil)) (gxName 7) (sSeq (sSet 8 (nVal (eCallM 1 s_law_order (aCons (eCallM 1 s_law_take (aCons (eC (.int 9)) aNil)) aNil))))
    (sIf (tOf (eOp pNe (eCall s_lets (aCons (eIxV 4 (eVar 7)) (aCons (eCall s_law_turned (aCons (eVar 8) (aCons (eVar 7) aNil))) aNil))) (eCall s_law_lets (aCons (eVar 3) (aCons (eVar 8) aNil))))) (sRet (eC (.bool false))) sNext))))))))))))
    (sRet (eC (.bool true)))))
def s_law : List PyData → Option PyData := runP 10 b_law
section
variable {P : Program} {w : World} {K : PySem.W.Frag} {mg : Str → Option Value} {base : Heap}
theorem ok_law (D : Df K mg "law" t_law ["script"])
    (G_law_least : Ok P w K mg base 3 "_law_least" t_law_least ["patterns"] (spP K 1 s_law_least))
    (G_law_lets : Ok P w K mg base 2 "_law_lets" t_law_lets ["forbidden", "order"] (spP K 2 s_law_lets))
    (G_law_list : Ok P w K mg base 4 "_law_list" t_law_list ["pot", "most", "many"] (spM K 3 s_law_list))
    (G_law_order : Ok P w K mg base 2 "_law_order" t_law_order ["pot", "n"] (spM K 2 s_law_order))
    (G_law_same : Ok P w K mg base 41 "_law_same" t_law_same ["told", "due"] (spP K 2 (s_law_same 40)))
    (G_law_take : Ok P w K mg base 1 "_law_take" t_law_take ["pot", "many"] (spM K 2 s_law_take))
    (G_law_turned : Ok P w K mg base 1 "_law_turned" t_law_turned ["order", "way"] (spP K 2 s_law_turned))
    (G_inverse_list : Ok P w K mg base 47 "inverse_list" t_inverse_list ["forbidden"] (spP K 1 s_inverse_list))
    (G_lets : Ok P w K mg base 46 "lets" t_lets ["forbidden", "order"] (spP K 2 s_lets))
    (G_mirrored_list : Ok P w K mg base 47 "mirrored_list" t_mirrored_list ["forbidden"] (spP K 1 s_mirrored_list))
    (G_turned_list : Ok P w K mg base 47 "turned_list" t_turned_list ["forbidden"] (spP K 1 s_turned_list))
    (m_list : mg "list" = none)
    (m_range : mg "range" = none) : Ok P w K mg base 48 "law" t_law ["script"] (spP K 1 s_law) := by
  refine ok_pure D sc_law rfl rfl (fun f cdv A outer s H E hr => ?_)
  have hu : (cxOf CX0 P w K mg base ["script", "pot", "turn", "forbidden", "dues", "told", "back", "way", "order", "pattern"] "law" (defScope t_law) f cdv A outer s H E).nox.A.units + 64 < cLine := hr.units
  have nd : (["script", "pot", "turn", "forbidden", "dues", "told", "back", "way", "order", "pattern"] : List Str).Nodup := sc_law.nd
  exact (bp_cons (sp_set (i := 1) (np_add (ep_lst (ap_cons ep_int (ap_cons ep_int (ap_cons ep_int ap_nil)))) (ep_callTy b_list m_list (by decide +kernel) (ap_cons (ep_var 0) ap_nil))) nd)
    (bp_cons (sp_for (ip_range1 m_range ep_int) (gp_name (i := 2) nd) (bp_cons (sp_set (i := 3) (np_val (ep_oM (i := 1) G_law_list (hr.mono (by first | decide | omega | exact Nat.le_trans (by decide) (Nat.le_add_right _ _))) (ap_cons ep_int (ap_cons ep_int ap_nil)) (len_cons (len_cons len_nil)) rfl)) nd)
    (bp_cons (sp_setLc (i := 4) [("way", 7)] (ip_range1 m_range ep_int) (blkOk_by (N := N_law) (sc := defScope t_law) (by decide +kernel)) (fun _ => (gp_name (i := 7) nd)) (fun _ => tsp_nil) (fun _ => (ep_o G_law_least (hr.mono (by first | decide | omega | exact Nat.le_trans (by decide) (Nat.le_add_right _ _))) (ap_cons (ep_own (np_lc [("pattern", 9)] (ip_seq (ep_var 3)) (blkOk_by (by kernel_rfl)) (fun _ => (gp_name (i := 9) nd)) (fun _ => tsp_nil) (fun _ => (ep_o G_law_turned (hr.mono (by first | decide | omega | exact Nat.le_trans (by decide) (Nat.le_add_right _ _))) (ap_cons (ep_var 9) (ap_cons (ep_var 7) ap_nil)) (len_cons (len_cons len_nil)))) rfl nd)) ap_nil) (len_cons len_nil))) rfl nd (sw_true rfl rfl rfl (by decide +kernel)))
    (bp_cons (sp_set (i := 5) (np_val (ep_lst (ap_cons (ep_o G_turned_list (hr.mono (by first | decide | omega | exact Nat.le_trans (by decide) (Nat.le_add_right _ _))) (ap_cons (ep_var 3) ap_nil) (len_cons len_nil)) (ap_cons (ep_o G_mirrored_list (hr.mono (by first | decide | omega | exact Nat.le_trans (by decide) (Nat.le_add_right _ _))) (ap_cons (ep_var 3) ap_nil) (len_cons len_nil)) (ap_cons (ep_o G_inverse_list (hr.mono (by first | decide | omega | exact Nat.le_trans (by decide) (Nat.le_add_right _ _))) (ap_cons (ep_var 3) ap_nil) (len_cons len_nil)) ap_nil))))) nd)
    (bp_cons (sp_if (tp_not (tp_tru (ep_o G_law_same (hr.mono (by first | decide | omega | exact Nat.le_trans (by decide) (Nat.le_add_right _ _))) (ap_cons (ep_var 5) (ap_cons (ep_var 4) ap_nil)) (len_cons (len_cons len_nil))))) (bp_one (sp_ret ep_bl)) bp_nil)
    (bp_cons (sp_set (i := 5) (np_val (ep_lst (ap_cons (ep_oK0 (perm := [0]) (ks := ["forbidden"]) G_turned_list (hr.mono (by first | decide | omega | exact Nat.le_trans (by decide) (Nat.le_add_right _ _))) (fun _ _ _ _ _ _ us ws h1 h2 => match us, ws, h1, h2 with | [], [_], _, _ => rfl) (kp_cons (ep_var 3) kp_nil) (len_cons len_nil) (fun ds h => match ds, h with | [_], _ => rfl)) (ap_cons (ep_oK0 (perm := [0]) (ks := ["forbidden"]) G_mirrored_list (hr.mono (by first | decide | omega | exact Nat.le_trans (by decide) (Nat.le_add_right _ _))) (fun _ _ _ _ _ _ us ws h1 h2 => match us, ws, h1, h2 with | [], [_], _, _ => rfl) (kp_cons (ep_var 3) kp_nil) (len_cons len_nil) (fun ds h => match ds, h with | [_], _ => rfl)) (ap_cons (ep_oK0 (perm := [0]) (ks := ["forbidden"]) G_inverse_list (hr.mono (by first | decide | omega | exact Nat.le_trans (by decide) (Nat.le_add_right _ _))) (fun _ _ _ _ _ _ us ws h1 h2 => match us, ws, h1, h2 with | [], [_], _, _ => rfl) (kp_cons (ep_var 3) kp_nil) (len_cons len_nil) (fun ds h => match ds, h with | [_], _ => rfl)) ap_nil))))) nd)
    (bp_cons (sp_if (tp_not (tp_tru (ep_o G_law_same (hr.mono (by first | decide | omega | exact Nat.le_trans (by decide) (Nat.le_add_right _ _))) (ap_cons (ep_var 5) (ap_cons (ep_var 4) ap_nil)) (len_cons (len_cons len_nil))))) (bp_one (sp_ret ep_bl)) bp_nil)
    (bp_cons (sp_set (i := 6) (np_val (ep_o G_law_least (hr.mono (by first | decide | omega | exact Nat.le_trans (by decide) (Nat.le_add_right _ _))) (ap_cons (ep_var 3) ap_nil) (len_cons len_nil))) nd)
    (bp_cons (sp_if (tp_not (tp_tru (ep_o G_law_same (hr.mono (by first | decide | omega | exact Nat.le_trans (by decide) (Nat.le_add_right _ _))) (ap_cons (ep_lst (ap_cons (ep_o G_turned_list (hr.mono (by first | decide | omega | exact Nat.le_trans (by decide) (Nat.le_add_right _ _))) (ap_cons (ep_ixV (i := 4) ep_int) ap_nil) (len_cons len_nil)) (ap_cons (ep_o G_mirrored_list (hr.mono (by first | decide | omega | exact Nat.le_trans (by decide) (Nat.le_add_right _ _))) (ap_cons (ep_ixV (i := 4) ep_int) ap_nil) (len_cons len_nil)) (ap_cons (ep_o G_inverse_list (hr.mono (by first | decide | omega | exact Nat.le_trans (by decide) (Nat.le_add_right _ _))) (ap_cons (ep_ixV (i := 4) ep_int) ap_nil) (len_cons len_nil)) ap_nil)))) (ap_cons (ep_lst (ap_cons (ep_var 6) (ap_cons (ep_var 6) (ap_cons (ep_var 6) ap_nil)))) ap_nil)) (len_cons (len_cons len_nil))))) (bp_one (sp_ret ep_bl)) bp_nil)
    (bp_one (sp_for (ip_range1 m_range ep_int) (gp_name (i := 7) nd) (bp_cons (sp_set (i := 8) (np_val (ep_oM (i := 1) G_law_order (hr.mono (by first | decide | omega | exact Nat.le_trans (by decide) (Nat.le_add_right _ _))) (ap_cons (ep_oM (i := 1) G_law_take (hr.mono (by first | decide | omega | exact Nat.le_trans (by decide) (Nat.le_add_right _ _))) (ap_cons ep_int ap_nil) (len_cons len_nil) rfl) ap_nil) (len_cons len_nil) rfl)) nd)
    (bp_one (sp_if (tp_cmp (c_ne hu) (ep_o G_lets (hr.mono (by first | decide | omega | exact Nat.le_trans (by decide) (Nat.le_add_right _ _))) (ap_cons (ep_ixV (i := 4) (ep_var 7)) (ap_cons (ep_o G_law_turned (hr.mono (by first | decide | omega | exact Nat.le_trans (by decide) (Nat.le_add_right _ _))) (ap_cons (ep_var 8) (ap_cons (ep_var 7) ap_nil)) (len_cons (len_cons len_nil))) ap_nil)) (len_cons (len_cons len_nil))) (ep_o G_law_lets (hr.mono (by first | decide | omega | exact Nat.le_trans (by decide) (Nat.le_add_right _ _))) (ap_cons (ep_var 3) (ap_cons (ep_var 8) ap_nil)) (len_cons (len_cons len_nil)))) (bp_one (sp_ret ep_bl)) bp_nil))))))))))))))
    (bp_one (sp_ret ep_bl))))
end

/-! ### the end -/
theorem all_mk {l : PySem.W.OpenLaw} {w : World} {K : PySem.W.Frag} {h : Heap} {mg : Str → Option Value} {fa : Addr} (main : ∀ ns : List Int, ns.length ≤ 63 → s_law [.list (ns.map .int)] = some (.bool true)) (X : K.In h) (G : h.Ns mainGlobals mg) (hfa : mg "law" = some (.ref fa))
    {f0 : Addr} {oc0 kV0 dc0 pm0 cd0 ct0 : Value} {od0 an0 : Option Addr} {sl0 : Array (Option Value)}
    (a0 : PySem.W.nsIn K mainGlobals "_law_places" = some (some (.ref f0))) (l0 : K.lookup f0 = some ⟨oc0, od0, .func (PySem.W.fnOf "_law_places" "_law_places" (defArgs t_law_places) (defBody t_law_places) (defScope t_law_places) .none kV0 dc0 pm0 an0 cd0 ct0), sl0⟩) (c0 : PySem.W.codeIn K cd0 "_law_places" = true) (k0 : PySem.W.keepIn K (.ref f0) = true)
    {f1 : Addr} {oc1 kV1 dc1 pm1 cd1 ct1 : Value} {od1 an1 : Option Addr} {sl1 : Array (Option Value)}
    (a1 : PySem.W.nsIn K mainGlobals "_law_lets" = some (some (.ref f1))) (l1 : K.lookup f1 = some ⟨oc1, od1, .func (PySem.W.fnOf "_law_lets" "_law_lets" (defArgs t_law_lets) (defBody t_law_lets) (defScope t_law_lets) .none kV1 dc1 pm1 an1 cd1 ct1), sl1⟩) (c1 : PySem.W.codeIn K cd1 "_law_lets" = true) (k1 : PySem.W.keepIn K (.ref f1) = true)
    {f2 : Addr} {oc2 kV2 dc2 pm2 cd2 ct2 : Value} {od2 an2 : Option Addr} {sl2 : Array (Option Value)}
    (a2 : PySem.W.nsIn K mainGlobals "_law_sorted" = some (some (.ref f2))) (l2 : K.lookup f2 = some ⟨oc2, od2, .func (PySem.W.fnOf "_law_sorted" "_law_sorted" (defArgs t_law_sorted) (defBody t_law_sorted) (defScope t_law_sorted) .none kV2 dc2 pm2 an2 cd2 ct2), sl2⟩) (c2 : PySem.W.codeIn K cd2 "_law_sorted" = true) (k2 : PySem.W.keepIn K (.ref f2) = true)
    {f3 : Addr} {oc3 kV3 dc3 pm3 cd3 ct3 : Value} {od3 an3 : Option Addr} {sl3 : Array (Option Value)}
    (a3 : PySem.W.nsIn K mainGlobals "_law_least" = some (some (.ref f3))) (l3 : K.lookup f3 = some ⟨oc3, od3, .func (PySem.W.fnOf "_law_least" "_law_least" (defArgs t_law_least) (defBody t_law_least) (defScope t_law_least) .none kV3 dc3 pm3 an3 cd3 ct3), sl3⟩) (c3 : PySem.W.codeIn K cd3 "_law_least" = true) (k3 : PySem.W.keepIn K (.ref f3) = true)
    {f4 : Addr} {oc4 kV4 dc4 pm4 cd4 ct4 : Value} {od4 an4 : Option Addr} {sl4 : Array (Option Value)}
    (a4 : PySem.W.nsIn K mainGlobals "_law_take" = some (some (.ref f4))) (l4 : K.lookup f4 = some ⟨oc4, od4, .func (PySem.W.fnOf "_law_take" "_law_take" (defArgs t_law_take) (defBody t_law_take) (defScope t_law_take) .none kV4 dc4 pm4 an4 cd4 ct4), sl4⟩) (c4 : PySem.W.codeIn K cd4 "_law_take" = true) (k4 : PySem.W.keepIn K (.ref f4) = true)
    {f5 : Addr} {oc5 kV5 dc5 pm5 cd5 ct5 : Value} {od5 an5 : Option Addr} {sl5 : Array (Option Value)}
    (a5 : PySem.W.nsIn K mainGlobals "_law_order" = some (some (.ref f5))) (l5 : K.lookup f5 = some ⟨oc5, od5, .func (PySem.W.fnOf "_law_order" "_law_order" (defArgs t_law_order) (defBody t_law_order) (defScope t_law_order) .none kV5 dc5 pm5 an5 cd5 ct5), sl5⟩) (c5 : PySem.W.codeIn K cd5 "_law_order" = true) (k5 : PySem.W.keepIn K (.ref f5) = true)
    {f6 : Addr} {oc6 kV6 dc6 pm6 cd6 ct6 : Value} {od6 an6 : Option Addr} {sl6 : Array (Option Value)}
    (a6 : PySem.W.nsIn K mainGlobals "_law_pattern" = some (some (.ref f6))) (l6 : K.lookup f6 = some ⟨oc6, od6, .func (PySem.W.fnOf "_law_pattern" "_law_pattern" (defArgs t_law_pattern) (defBody t_law_pattern) (defScope t_law_pattern) .none kV6 dc6 pm6 an6 cd6 ct6), sl6⟩) (c6 : PySem.W.codeIn K cd6 "_law_pattern" = true) (k6 : PySem.W.keepIn K (.ref f6) = true)
    {f7 : Addr} {oc7 kV7 dc7 pm7 cd7 ct7 : Value} {od7 an7 : Option Addr} {sl7 : Array (Option Value)}
    (a7 : PySem.W.nsIn K mainGlobals "_law_list" = some (some (.ref f7))) (l7 : K.lookup f7 = some ⟨oc7, od7, .func (PySem.W.fnOf "_law_list" "_law_list" (defArgs t_law_list) (defBody t_law_list) (defScope t_law_list) .none kV7 dc7 pm7 an7 cd7 ct7), sl7⟩) (c7 : PySem.W.codeIn K cd7 "_law_list" = true) (k7 : PySem.W.keepIn K (.ref f7) = true)
    {f8 : Addr} {oc8 kV8 dc8 pm8 cd8 ct8 : Value} {od8 an8 : Option Addr} {sl8 : Array (Option Value)}
    (a8 : PySem.W.nsIn K mainGlobals "_law_same" = some (some (.ref f8))) (l8 : K.lookup f8 = some ⟨oc8, od8, .func (PySem.W.fnOf "_law_same" "_law_same" (defArgs t_law_same) (defBody t_law_same) (defScope t_law_same) .none kV8 dc8 pm8 an8 cd8 ct8), sl8⟩) (c8 : PySem.W.codeIn K cd8 "_law_same" = true) (k8 : PySem.W.keepIn K (.ref f8) = true)
    {f9 : Addr} {oc9 kV9 dc9 pm9 cd9 ct9 : Value} {od9 an9 : Option Addr} {sl9 : Array (Option Value)}
    (a9 : PySem.W.nsIn K mainGlobals "_law_turned" = some (some (.ref f9))) (l9 : K.lookup f9 = some ⟨oc9, od9, .func (PySem.W.fnOf "_law_turned" "_law_turned" (defArgs t_law_turned) (defBody t_law_turned) (defScope t_law_turned) .none kV9 dc9 pm9 an9 cd9 ct9), sl9⟩) (c9 : PySem.W.codeIn K cd9 "_law_turned" = true) (k9 : PySem.W.keepIn K (.ref f9) = true)
    {f10 : Addr} {oc10 kV10 dc10 pm10 cd10 ct10 : Value} {od10 an10 : Option Addr} {sl10 : Array (Option Value)}
    (a10 : PySem.W.nsIn K mainGlobals "is_integer" = some (some (.ref f10))) (l10 : K.lookup f10 = some ⟨oc10, od10, .func (PySem.W.fnOf "is_integer" "is_integer" (defArgs t_is_integer) (defBody t_is_integer) (defScope t_is_integer) .none kV10 dc10 pm10 an10 cd10 ct10), sl10⟩) (c10 : PySem.W.codeIn K cd10 "is_integer" = true) (k10 : PySem.W.keepIn K (.ref f10) = true)
    {f11 : Addr} {oc11 kV11 dc11 pm11 cd11 ct11 : Value} {od11 an11 : Option Addr} {sl11 : Array (Option Value)}
    (a11 : PySem.W.nsIn K mainGlobals "are_integers" = some (some (.ref f11))) (l11 : K.lookup f11 = some ⟨oc11, od11, .func (PySem.W.fnOf "are_integers" "are_integers" (defArgs t_are_integers) (defBody t_are_integers) (defScope t_are_integers) .none kV11 dc11 pm11 an11 cd11 ct11), sl11⟩) (c11 : PySem.W.codeIn K cd11 "are_integers" = true) (k11 : PySem.W.keepIn K (.ref f11) = true)
    {f12 : Addr} {oc12 kV12 dc12 pm12 cd12 ct12 : Value} {od12 an12 : Option Addr} {sl12 : Array (Option Value)}
    (a12 : PySem.W.nsIn K mainGlobals "is_order" = some (some (.ref f12))) (l12 : K.lookup f12 = some ⟨oc12, od12, .func (PySem.W.fnOf "is_order" "is_order" (defArgs t_is_order) (defBody t_is_order) (defScope t_is_order) .none kV12 dc12 pm12 an12 cd12 ct12), sl12⟩) (c12 : PySem.W.codeIn K cd12 "is_order" = true) (k12 : PySem.W.keepIn K (.ref f12) = true)
    {f13 : Addr} {oc13 kV13 dc13 pm13 cd13 ct13 : Value} {od13 an13 : Option Addr} {sl13 : Array (Option Value)}
    (a13 : PySem.W.nsIn K mainGlobals "is_pattern" = some (some (.ref f13))) (l13 : K.lookup f13 = some ⟨oc13, od13, .func (PySem.W.fnOf "is_pattern" "is_pattern" (defArgs t_is_pattern) (defBody t_is_pattern) (defScope t_is_pattern) .none kV13 dc13 pm13 an13 cd13 ct13), sl13⟩) (c13 : PySem.W.codeIn K cd13 "is_pattern" = true) (k13 : PySem.W.keepIn K (.ref f13) = true)
    {f14 : Addr} {oc14 kV14 dc14 pm14 cd14 ct14 : Value} {od14 an14 : Option Addr} {sl14 : Array (Option Value)}
    (a14 : PySem.W.nsIn K mainGlobals "is_list" = some (some (.ref f14))) (l14 : K.lookup f14 = some ⟨oc14, od14, .func (PySem.W.fnOf "is_list" "is_list" (defArgs t_is_list) (defBody t_is_list) (defScope t_is_list) .none kV14 dc14 pm14 an14 cd14 ct14), sl14⟩) (c14 : PySem.W.codeIn K cd14 "is_list" = true) (k14 : PySem.W.keepIn K (.ref f14) = true)
    {f15 : Addr} {oc15 kV15 dc15 pm15 cd15 ct15 : Value} {od15 an15 : Option Addr} {sl15 : Array (Option Value)}
    (a15 : PySem.W.nsIn K mainGlobals "check_list" = some (some (.ref f15))) (l15 : K.lookup f15 = some ⟨oc15, od15, .func (PySem.W.fnOf "check_list" "check_list" (defArgs t_check_list) (defBody t_check_list) (defScope t_check_list) .none kV15 dc15 pm15 an15 cd15 ct15), sl15⟩) (c15 : PySem.W.codeIn K cd15 "check_list" = true) (k15 : PySem.W.keepIn K (.ref f15) = true)
    {f16 : Addr} {oc16 kV16 dc16 pm16 cd16 ct16 : Value} {od16 an16 : Option Addr} {sl16 : Array (Option Value)}
    (a16 : PySem.W.nsIn K mainGlobals "check_order" = some (some (.ref f16))) (l16 : K.lookup f16 = some ⟨oc16, od16, .func (PySem.W.fnOf "check_order" "check_order" (defArgs t_check_order) (defBody t_check_order) (defScope t_check_order) .none kV16 dc16 pm16 an16 cd16 ct16), sl16⟩) (c16 : PySem.W.codeIn K cd16 "check_order" = true) (k16 : PySem.W.keepIn K (.ref f16) = true)
    {f17 : Addr} {oc17 kV17 dc17 pm17 cd17 ct17 : Value} {od17 an17 : Option Addr} {sl17 : Array (Option Value)}
    (a17 : PySem.W.nsIn K mainGlobals "inverse" = some (some (.ref f17))) (l17 : K.lookup f17 = some ⟨oc17, od17, .func (PySem.W.fnOf "inverse" "inverse" (defArgs t_inverse) (defBody t_inverse) (defScope t_inverse) .none kV17 dc17 pm17 an17 cd17 ct17), sl17⟩) (c17 : PySem.W.codeIn K cd17 "inverse" = true) (k17 : PySem.W.keepIn K (.ref f17) = true)
    {f18 : Addr} {oc18 kV18 dc18 pm18 cd18 ct18 : Value} {od18 an18 : Option Addr} {sl18 : Array (Option Value)}
    (a18 : PySem.W.nsIn K mainGlobals "by_length" = some (some (.ref f18))) (l18 : K.lookup f18 = some ⟨oc18, od18, .func (PySem.W.fnOf "by_length" "by_length" (defArgs t_by_length) (defBody t_by_length) (defScope t_by_length) .none kV18 dc18 pm18 an18 cd18 ct18), sl18⟩) (c18 : PySem.W.codeIn K cd18 "by_length" = true) (k18 : PySem.W.keepIn K (.ref f18) = true)
    {f19 : Addr} {oc19 kV19 dc19 pm19 cd19 ct19 : Value} {od19 an19 : Option Addr} {sl19 : Array (Option Value)}
    (a19 : PySem.W.nsIn K mainGlobals "ascending" = some (some (.ref f19))) (l19 : K.lookup f19 = some ⟨oc19, od19, .func (PySem.W.fnOf "ascending" "ascending" (defArgs t_ascending) (defBody t_ascending) (defScope t_ascending) .none kV19 dc19 pm19 an19 cd19 ct19), sl19⟩) (c19 : PySem.W.codeIn K cd19 "ascending" = true) (k19 : PySem.W.keepIn K (.ref f19) = true)
    {f20 : Addr} {oc20 kV20 dc20 pm20 cd20 ct20 : Value} {od20 an20 : Option Addr} {sl20 : Array (Option Value)}
    (a20 : PySem.W.nsIn K mainGlobals "_gather" = some (some (.ref f20))) (l20 : K.lookup f20 = some ⟨oc20, od20, .func (PySem.W.fnOf "_gather" "_gather" (defArgs t_gather) (defBody t_gather) (defScope t_gather) .none kV20 dc20 pm20 an20 cd20 ct20), sl20⟩) (c20 : PySem.W.codeIn K cd20 "_gather" = true) (k20 : PySem.W.keepIn K (.ref f20) = true)
    {f21 : Addr} {oc21 kV21 dc21 pm21 cd21 ct21 : Value} {od21 an21 : Option Addr} {sl21 : Array (Option Value)}
    (a21 : PySem.W.nsIn K mainGlobals "_gather_behind" = some (some (.ref f21))) (l21 : K.lookup f21 = some ⟨oc21, od21, .func (PySem.W.fnOf "_gather_behind" "_gather_behind" (defArgs t_gather_behind) (defBody t_gather_behind) (defScope t_gather_behind) .none kV21 dc21 pm21 an21 cd21 ct21), sl21⟩) (c21 : PySem.W.codeIn K cd21 "_gather_behind" = true) (k21 : PySem.W.keepIn K (.ref f21) = true)
    {f22 : Addr} {oc22 kV22 dc22 pm22 cd22 ct22 : Value} {od22 an22 : Option Addr} {sl22 : Array (Option Value)}
    (a22 : PySem.W.nsIn K mainGlobals "placings_by" = some (some (.ref f22))) (l22 : K.lookup f22 = some ⟨oc22, od22, .func (PySem.W.fnOf "placings_by" "placings_by" (defArgs t_placings_by) (defBody t_placings_by) (defScope t_placings_by) .none kV22 dc22 pm22 an22 cd22 ct22), sl22⟩) (c22 : PySem.W.codeIn K cd22 "placings_by" = true) (k22 : PySem.W.keepIn K (.ref f22) = true)
    {f23 : Addr} {oc23 kV23 dc23 pm23 cd23 ct23 : Value} {od23 an23 : Option Addr} {sl23 : Array (Option Value)}
    (a23 : PySem.W.nsIn K mainGlobals "_next_to" = some (some (.ref f23))) (l23 : K.lookup f23 = some ⟨oc23, od23, .func (PySem.W.fnOf "_next_to" "_next_to" (defArgs t_next_to) (defBody t_next_to) (defScope t_next_to) .none kV23 dc23 pm23 an23 cd23 ct23), sl23⟩) (c23 : PySem.W.codeIn K cd23 "_next_to" = true) (k23 : PySem.W.keepIn K (.ref f23) = true)
    {f24 : Addr} {oc24 kV24 dc24 pm24 cd24 ct24 : Value} {od24 an24 : Option Addr} {sl24 : Array (Option Value)}
    (a24 : PySem.W.nsIn K mainGlobals "plan_of" = some (some (.ref f24))) (l24 : K.lookup f24 = some ⟨oc24, od24, .func (PySem.W.fnOf "plan_of" "plan_of" (defArgs t_plan_of) (defBody t_plan_of) (defScope t_plan_of) .none kV24 dc24 pm24 an24 cd24 ct24), sl24⟩) (c24 : PySem.W.codeIn K cd24 "plan_of" = true) (k24 : PySem.W.keepIn K (.ref f24) = true)
    {f25 : Addr} {oc25 kV25 dc25 pm25 cd25 ct25 : Value} {od25 an25 : Option Addr} {sl25 : Array (Option Value)}
    (a25 : PySem.W.nsIn K mainGlobals "placings" = some (some (.ref f25))) (l25 : K.lookup f25 = some ⟨oc25, od25, .func (PySem.W.fnOf "placings" "placings" (defArgs t_placings) (defBody t_placings) (defScope t_placings) .none kV25 dc25 pm25 an25 cd25 ct25), sl25⟩) (c25 : PySem.W.codeIn K cd25 "placings" = true) (k25 : PySem.W.keepIn K (.ref f25) = true)
    {f26 : Addr} {oc26 kV26 dc26 pm26 cd26 ct26 : Value} {od26 an26 : Option Addr} {sl26 : Array (Option Value)}
    (a26 : PySem.W.nsIn K mainGlobals "does_show" = some (some (.ref f26))) (l26 : K.lookup f26 = some ⟨oc26, od26, .func (PySem.W.fnOf "does_show" "does_show" (defArgs t_does_show) (defBody t_does_show) (defScope t_does_show) .none kV26 dc26 pm26 an26 cd26 ct26), sl26⟩) (c26 : PySem.W.codeIn K cd26 "does_show" = true) (k26 : PySem.W.keepIn K (.ref f26) = true)
    {f27 : Addr} {oc27 kV27 dc27 pm27 cd27 ct27 : Value} {od27 an27 : Option Addr} {sl27 : Array (Option Value)}
    (a27 : PySem.W.nsIn K mainGlobals "does_let" = some (some (.ref f27))) (l27 : K.lookup f27 = some ⟨oc27, od27, .func (PySem.W.fnOf "does_let" "does_let" (defArgs t_does_let) (defBody t_does_let) (defScope t_does_let) .none kV27 dc27 pm27 an27 cd27 ct27), sl27⟩) (c27 : PySem.W.codeIn K cd27 "does_let" = true) (k27 : PySem.W.keepIn K (.ref f27) = true)
    {f28 : Addr} {oc28 kV28 dc28 pm28 cd28 ct28 : Value} {od28 an28 : Option Addr} {sl28 : Array (Option Value)}
    (a28 : PySem.W.nsIn K mainGlobals "least_of" = some (some (.ref f28))) (l28 : K.lookup f28 = some ⟨oc28, od28, .func (PySem.W.fnOf "least_of" "least_of" (defArgs t_least_of) (defBody t_least_of) (defScope t_least_of) .none kV28 dc28 pm28 an28 cd28 ct28), sl28⟩) (c28 : PySem.W.codeIn K cd28 "least_of" = true) (k28 : PySem.W.keepIn K (.ref f28) = true)
    {f29 : Addr} {oc29 kV29 dc29 pm29 cd29 ct29 : Value} {od29 an29 : Option Addr} {sl29 : Array (Option Value)}
    (a29 : PySem.W.nsIn K mainGlobals "inverse_list" = some (some (.ref f29))) (l29 : K.lookup f29 = some ⟨oc29, od29, .func (PySem.W.fnOf "inverse_list" "inverse_list" (defArgs t_inverse_list) (defBody t_inverse_list) (defScope t_inverse_list) .none kV29 dc29 pm29 an29 cd29 ct29), sl29⟩) (c29 : PySem.W.codeIn K cd29 "inverse_list" = true) (k29 : PySem.W.keepIn K (.ref f29) = true)
    {f30 : Addr} {oc30 kV30 dc30 pm30 cd30 ct30 : Value} {od30 an30 : Option Addr} {sl30 : Array (Option Value)}
    (a30 : PySem.W.nsIn K mainGlobals "lets" = some (some (.ref f30))) (l30 : K.lookup f30 = some ⟨oc30, od30, .func (PySem.W.fnOf "lets" "lets" (defArgs t_lets) (defBody t_lets) (defScope t_lets) .none kV30 dc30 pm30 an30 cd30 ct30), sl30⟩) (c30 : PySem.W.codeIn K cd30 "lets" = true) (k30 : PySem.W.keepIn K (.ref f30) = true)
    {f31 : Addr} {oc31 kV31 dc31 pm31 cd31 ct31 : Value} {od31 an31 : Option Addr} {sl31 : Array (Option Value)}
    (a31 : PySem.W.nsIn K mainGlobals "mirrored" = some (some (.ref f31))) (l31 : K.lookup f31 = some ⟨oc31, od31, .func (PySem.W.fnOf "mirrored" "mirrored" (defArgs t_mirrored) (defBody t_mirrored) (defScope t_mirrored) .none kV31 dc31 pm31 an31 cd31 ct31), sl31⟩) (c31 : PySem.W.codeIn K cd31 "mirrored" = true) (k31 : PySem.W.keepIn K (.ref f31) = true)
    {f32 : Addr} {oc32 kV32 dc32 pm32 cd32 ct32 : Value} {od32 an32 : Option Addr} {sl32 : Array (Option Value)}
    (a32 : PySem.W.nsIn K mainGlobals "mirrored_list" = some (some (.ref f32))) (l32 : K.lookup f32 = some ⟨oc32, od32, .func (PySem.W.fnOf "mirrored_list" "mirrored_list" (defArgs t_mirrored_list) (defBody t_mirrored_list) (defScope t_mirrored_list) .none kV32 dc32 pm32 an32 cd32 ct32), sl32⟩) (c32 : PySem.W.codeIn K cd32 "mirrored_list" = true) (k32 : PySem.W.keepIn K (.ref f32) = true)
    {f33 : Addr} {oc33 kV33 dc33 pm33 cd33 ct33 : Value} {od33 an33 : Option Addr} {sl33 : Array (Option Value)}
    (a33 : PySem.W.nsIn K mainGlobals "turned" = some (some (.ref f33))) (l33 : K.lookup f33 = some ⟨oc33, od33, .func (PySem.W.fnOf "turned" "turned" (defArgs t_turned) (defBody t_turned) (defScope t_turned) .none kV33 dc33 pm33 an33 cd33 ct33), sl33⟩) (c33 : PySem.W.codeIn K cd33 "turned" = true) (k33 : PySem.W.keepIn K (.ref f33) = true)
    {f34 : Addr} {oc34 kV34 dc34 pm34 cd34 ct34 : Value} {od34 an34 : Option Addr} {sl34 : Array (Option Value)}
    (a34 : PySem.W.nsIn K mainGlobals "turned_list" = some (some (.ref f34))) (l34 : K.lookup f34 = some ⟨oc34, od34, .func (PySem.W.fnOf "turned_list" "turned_list" (defArgs t_turned_list) (defBody t_turned_list) (defScope t_turned_list) .none kV34 dc34 pm34 an34 cd34 ct34), sl34⟩) (c34 : PySem.W.codeIn K cd34 "turned_list" = true) (k34 : PySem.W.keepIn K (.ref f34) = true)
    {f35 : Addr} {oc35 kV35 dc35 pm35 cd35 ct35 : Value} {od35 an35 : Option Addr} {sl35 : Array (Option Value)}
    (a35 : PySem.W.nsIn K mainGlobals "law" = some (some (.ref f35))) (l35 : K.lookup f35 = some ⟨oc35, od35, .func (PySem.W.fnOf "law" "law" (defArgs t_law) (defBody t_law) (defScope t_law) .none kV35 dc35 pm35 an35 cd35 ct35), sl35⟩) (c35 : PySem.W.codeIn K cd35 "law" = true) (k35 : PySem.W.keepIn K (.ref f35) = true)
    (z_all : PySem.W.nsIn K mainGlobals "all" = some none)
    (z_bool : PySem.W.nsIn K mainGlobals "bool" = some none)
    (z_enumerate : PySem.W.nsIn K mainGlobals "enumerate" = some none)
    (z_int : PySem.W.nsIn K mainGlobals "int" = some none)
    (z_isinstance : PySem.W.nsIn K mainGlobals "isinstance" = some none)
    (z_len : PySem.W.nsIn K mainGlobals "len" = some none)
    (z_list : PySem.W.nsIn K mainGlobals "list" = some none)
    (z_max : PySem.W.nsIn K mainGlobals "max" = some none)
    (z_min : PySem.W.nsIn K mainGlobals "min" = some none)
    (z_range : PySem.W.nsIn K mainGlobals "range" = some none)
    (z_sorted : PySem.W.nsIn K mainGlobals "sorted" = some none)
    (z_str : PySem.W.nsIn K mainGlobals "str" = some none)
    (z_tuple : PySem.W.nsIn K mainGlobals "tuple" = some none)
    (hkt : K.all (fun p => ktB p.2) = true) :
    ∃ fd : FuncData, (∀ (s : Shared) (v : Value), BindsTo s fd ⟨[v], []⟩ [("script", v)]) ∧ ∀ base : Heap, K.In base → base.Ns mainGlobals mg → FnOk l.prog w K mg base CX0 48 fa fd ["script"] (spLaw K) := by
  have m_all := PySem.W.mg_none_of X G z_all
  have m_bool := PySem.W.mg_none_of X G z_bool
  have m_enumerate := PySem.W.mg_none_of X G z_enumerate
  have m_int := PySem.W.mg_none_of X G z_int
  have m_isinstance := PySem.W.mg_none_of X G z_isinstance
  have m_len := PySem.W.mg_none_of X G z_len
  have m_list := PySem.W.mg_none_of X G z_list
  have m_max := PySem.W.mg_none_of X G z_max
  have m_min := PySem.W.mg_none_of X G z_min
  have m_range := PySem.W.mg_none_of X G z_range
  have m_sorted := PySem.W.mg_none_of X G z_sorted
  have m_str := PySem.W.mg_none_of X G z_str
  have m_tuple := PySem.W.mg_none_of X G z_tuple
  have hKT : KT K := kt_of hkt
  have D0 : Df K mg "_law_places" t_law_places ["order", "pattern"] := df_mk X G (fun _ _ _ _ _ _ us hl => match us, hl with | [_, _], _ => rfl) a0 l0 c0 k0
  have D1 : Df K mg "_law_lets" t_law_lets ["forbidden", "order"] := df_mk X G (fun _ _ _ _ _ _ us hl => match us, hl with | [_, _], _ => rfl) a1 l1 c1 k1
  have D2 : Df K mg "_law_sorted" t_law_sorted ["patterns"] := df_mk X G (fun _ _ _ _ _ _ us hl => match us, hl with | [_], _ => rfl) a2 l2 c2 k2
  have D3 : Df K mg "_law_least" t_law_least ["patterns"] := df_mk X G (fun _ _ _ _ _ _ us hl => match us, hl with | [_], _ => rfl) a3 l3 c3 k3
  have D4 : Df K mg "_law_take" t_law_take ["pot", "many"] := df_mk X G (fun _ _ _ _ _ _ us hl => match us, hl with | [_, _], _ => rfl) a4 l4 c4 k4
  have D5 : Df K mg "_law_order" t_law_order ["pot", "n"] := df_mk X G (fun _ _ _ _ _ _ us hl => match us, hl with | [_, _], _ => rfl) a5 l5 c5 k5
  have D6 : Df K mg "_law_pattern" t_law_pattern ["pot", "most"] := df_mk X G (fun _ _ _ _ _ _ us hl => match us, hl with | [_, _], _ => rfl) a6 l6 c6 k6
  have D7 : Df K mg "_law_list" t_law_list ["pot", "most", "many"] := df_mk X G (fun _ _ _ _ _ _ us hl => match us, hl with | [_, _, _], _ => rfl) a7 l7 c7 k7
  have D8 : Df K mg "_law_same" t_law_same ["told", "due"] := df_mk X G (fun _ _ _ _ _ _ us hl => match us, hl with | [_, _], _ => rfl) a8 l8 c8 k8
  have D9 : Df K mg "_law_turned" t_law_turned ["order", "way"] := df_mk X G (fun _ _ _ _ _ _ us hl => match us, hl with | [_, _], _ => rfl) a9 l9 c9 k9
  have D10 : Df K mg "is_integer" t_is_integer ["told"] := df_mk X G (fun _ _ _ _ _ _ us hl => match us, hl with | [_], _ => rfl) a10 l10 c10 k10
  have D11 : Df K mg "are_integers" t_are_integers ["told"] := df_mk X G (fun _ _ _ _ _ _ us hl => match us, hl with | [_], _ => rfl) a11 l11 c11 k11
  have D12 : Df K mg "is_order" t_is_order ["told"] := df_mk X G (fun _ _ _ _ _ _ us hl => match us, hl with | [_], _ => rfl) a12 l12 c12 k12
  have D13 : Df K mg "is_pattern" t_is_pattern ["told"] := df_mk X G (fun _ _ _ _ _ _ us hl => match us, hl with | [_], _ => rfl) a13 l13 c13 k13
  have D14 : Df K mg "is_list" t_is_list ["told"] := df_mk X G (fun _ _ _ _ _ _ us hl => match us, hl with | [_], _ => rfl) a14 l14 c14 k14
  have D15 : Df K mg "check_list" t_check_list ["forbidden"] := df_mk X G (fun _ _ _ _ _ _ us hl => match us, hl with | [_], _ => rfl) a15 l15 c15 k15
  have D16 : Df K mg "check_order" t_check_order ["order"] := df_mk X G (fun _ _ _ _ _ _ us hl => match us, hl with | [_], _ => rfl) a16 l16 c16 k16
  have D17 : Df K mg "inverse" t_inverse ["order"] := df_mk X G (fun _ _ _ _ _ _ us hl => match us, hl with | [_], _ => rfl) a17 l17 c17 k17
  have D18 : Df K mg "by_length" t_by_length ["order"] := df_mk X G (fun _ _ _ _ _ _ us hl => match us, hl with | [_], _ => rfl) a18 l18 c18 k18
  have D19 : Df K mg "ascending" t_ascending ["found"] := df_mk X G (fun _ _ _ _ _ _ us hl => match us, hl with | [_], _ => rfl) a19 l19 c19 k19
  have D20 : Df K mg "_gather" t_gather ["task", "chosen", "held"] := df_mk X G (fun _ _ _ _ _ _ us hl => match us, hl with | [_, _, _], _ => rfl) a20 l20 c20 k20
  have D21 : Df K mg "_gather_behind" t_gather_behind ["task", "chosen", "grown"] := df_mk X G (fun _ _ _ _ _ _ us hl => match us, hl with | [_, _, _], _ => rfl) a21 l21 c21 k21
  have D22 : Df K mg "placings_by" t_placings_by ["order", "plan", "most"] := df_mk X G (fun _ _ _ _ _ _ us hl => match us, hl with | [_, _, _], _ => rfl) a22 l22 c22 k22
  have D23 : Df K mg "_next_to" t_next_to ["held", "coming"] := df_mk X G (fun _ _ _ _ _ _ us hl => match us, hl with | [_, _], _ => rfl) a23 l23 c23 k23
  have D24 : Df K mg "plan_of" t_plan_of ["pattern"] := df_mk X G (fun _ _ _ _ _ _ us hl => match us, hl with | [_], _ => rfl) a24 l24 c24 k24
  have D25 : Df K mg "placings" t_placings ["order", "pattern", "most"] := df_mk X G (fun _ _ _ _ _ _ us hl => match us, hl with | [_, _, _], _ => rfl) a25 l25 c25 k25
  have D26 : Df K mg "does_show" t_does_show ["order", "pattern"] := df_mk X G (fun _ _ _ _ _ _ us hl => match us, hl with | [_, _], _ => rfl) a26 l26 c26 k26
  have D27 : Df K mg "does_let" t_does_let ["forbidden", "order"] := df_mk X G (fun _ _ _ _ _ _ us hl => match us, hl with | [_, _], _ => rfl) a27 l27 c27 k27
  have D28 : Df K mg "least_of" t_least_of ["forbidden"] := df_mk X G (fun _ _ _ _ _ _ us hl => match us, hl with | [_], _ => rfl) a28 l28 c28 k28
  have D29 : Df K mg "inverse_list" t_inverse_list ["forbidden"] := df_mk X G (fun _ _ _ _ _ _ us hl => match us, hl with | [_], _ => rfl) a29 l29 c29 k29
  have D30 : Df K mg "lets" t_lets ["forbidden", "order"] := df_mk X G (fun _ _ _ _ _ _ us hl => match us, hl with | [_, _], _ => rfl) a30 l30 c30 k30
  have D31 : Df K mg "mirrored" t_mirrored ["order"] := df_mk X G (fun _ _ _ _ _ _ us hl => match us, hl with | [_], _ => rfl) a31 l31 c31 k31
  have D32 : Df K mg "mirrored_list" t_mirrored_list ["forbidden"] := df_mk X G (fun _ _ _ _ _ _ us hl => match us, hl with | [_], _ => rfl) a32 l32 c32 k32
  have D33 : Df K mg "turned" t_turned ["order"] := df_mk X G (fun _ _ _ _ _ _ us hl => match us, hl with | [_], _ => rfl) a33 l33 c33 k33
  have D34 : Df K mg "turned_list" t_turned_list ["forbidden"] := df_mk X G (fun _ _ _ _ _ _ us hl => match us, hl with | [_], _ => rfl) a34 l34 c34 k34
  have D35 : Df K mg "law" t_law ["script"] := df_mk X G (fun _ _ _ _ _ _ us hl => match us, hl with | [_], _ => rfl) a35 l35 c35 k35
  have go : ∀ base : Heap, K.In base → base.Ns mainGlobals mg → Ok l.prog w K mg base 48 "law" t_law ["script"] (spP K 1 s_law) := fun base _ _ => by
    have G_law_places := ok_law_places (P := l.prog) (w := w) (base := base) D0 m_all m_len m_range
    have G_law_lets := ok_law_lets (P := l.prog) (w := w) (base := base) D1 G_law_places m_all
    have G_law_sorted := ok_law_sorted (P := l.prog) (w := w) (base := base) D2 m_len m_range m_sorted
    have G_law_least := ok_law_least (P := l.prog) (w := w) (base := base) D3 G_law_lets G_law_sorted m_tuple
    have G_law_take := ok_law_take (P := l.prog) (w := w) (base := base) D4 m_int m_len
    have G_law_order := ok_law_order (P := l.prog) (w := w) (base := base) D5 G_law_take m_range
    have G_law_pattern := ok_law_pattern (P := l.prog) (w := w) (base := base) D6 G_law_order G_law_take m_min
    have G_law_list := ok_law_list (P := l.prog) (w := w) (base := base) D7 G_law_pattern G_law_take m_len m_range m_tuple
    have G_law_same := ok_law_same (P := l.prog) (w := w) (base := base) D8 m_all m_bool m_int m_isinstance m_len m_list m_range m_str m_tuple 40
    have G_law_turned := ok_law_turned (P := l.prog) (w := w) (base := base) D9 m_len m_range m_tuple hKT
    have G_is_integer := ok_is_integer (P := l.prog) (w := w) (base := base) D10 m_bool m_int m_isinstance
    have G_are_integers := ok_are_integers (P := l.prog) (w := w) (base := base) D11 G_is_integer m_isinstance m_tuple
    have G_is_order := ok_is_order (P := l.prog) (w := w) (base := base) D12 G_are_integers m_len m_list m_range m_sorted
    have G_is_pattern := ok_is_pattern (P := l.prog) (w := w) (base := base) D13 G_is_order m_len
    have G_is_list := ok_is_list (P := l.prog) (w := w) (base := base) D14 G_is_pattern m_isinstance m_tuple
    have G_check_list := ok_check_list (P := l.prog) (w := w) (base := base) D15 G_is_list
    have G_check_order := ok_check_order (P := l.prog) (w := w) (base := base) D16 G_is_order
    have G_inverse := ok_inverse (P := l.prog) (w := w) (base := base) D17 G_check_order m_enumerate m_len m_tuple
    have G_by_length := ok_by_length (P := l.prog) (w := w) (base := base) D18 m_len
    have G_ascending := ok_ascending (P := l.prog) (w := w) (base := base) D19 G_by_length m_sorted
    have G_placings_by := ok_placings_by (P := l.prog) (w := w) (base := base) D22 D20 D21 m_len m_range m_tuple
    have G_next_to := ok_next_to (P := l.prog) (w := w) (base := base) D23 m_max m_min
    have G_plan_of := ok_plan_of (P := l.prog) (w := w) (base := base) D24 G_next_to m_enumerate m_len m_max m_min
    have G_placings := ok_placings (P := l.prog) (w := w) (base := base) D25 G_placings_by G_plan_of
    have G_does_show := ok_does_show (P := l.prog) (w := w) (base := base) D26 G_placings m_len
    have G_does_let := ok_does_let (P := l.prog) (w := w) (base := base) D27 G_does_show
    have G_least_of := ok_least_of (P := l.prog) (w := w) (base := base) D28 G_ascending G_does_let m_len m_list m_tuple
    have G_inverse_list := ok_inverse_list (P := l.prog) (w := w) (base := base) D29 G_check_list G_inverse G_least_of
    have G_lets := ok_lets (P := l.prog) (w := w) (base := base) D30 G_check_list G_check_order G_does_let
    have G_mirrored := ok_mirrored (P := l.prog) (w := w) (base := base) D31 G_check_order m_len m_tuple
    have G_mirrored_list := ok_mirrored_list (P := l.prog) (w := w) (base := base) D32 G_check_list G_least_of G_mirrored
    have G_turned := ok_turned (P := l.prog) (w := w) (base := base) D33 G_check_order
    have G_turned_list := ok_turned_list (P := l.prog) (w := w) (base := base) D34 G_check_list G_least_of G_turned
    have G_law := ok_law (P := l.prog) (w := w) (base := base) D35 G_law_least G_law_lets G_law_list G_law_order G_law_same G_law_take G_law_turned G_inverse_list G_lets G_mirrored_list G_turned_list m_list m_range
    exact G_law
  obtain ⟨f0', fd0, F0, g0, _⟩ := D35
  rw [hfa] at g0; cases g0
  refine ⟨fd0, fun s v => ?_, fun base h1 h2 => ?_⟩
  · obtain ⟨oc, od, kV, doc, pm, an, cdv, ct, osl, rfl, _, _⟩ := F0.ex
    exact .of_eq rfl
  · obtain ⟨fd, F, G⟩ := ok_end main hfa (go base h1 h2)
    have e : fd = fd0 := by
      obtain ⟨_, _, _, _, _, _, _, _, _, _, e1, _⟩ := F.ex
      obtain ⟨_, _, _, _, _, _, _, _, _, _, e2, _⟩ := F0.ex
      rw [e1] at e2
      have e3 := congrArg Obj.data (Option.some.inj e2)
      injection e3
    subst e
    exact G
end Law
set_option Elab.async false
set_option linter.all false
set_option maxRecDepth 100000
set_option maxHeartbeats 400000
/-! lists of patterns: what shows what, the least list -/
namespace Sw
open PySem Z
/-- an order shows another one -/
def sh (o q : List Int) : Bool := !(waysOf o q).isEmpty
theorem sh_iff {o q : List Int} (ho : Om.IsR 1 o) (hq : Om.IsR 1 q) (hl : q.length ≤ 900) : sh o q = true ↔ ∃ xs, Occ o q xs := by
  unfold sh
  rw [Bool.not_eq_true', List.isEmpty_eq_false_iff_exists_mem]
  exact exists_congr fun xs => mem_ways ho hq hl
theorem sh_emb {o q : List Int} (ho : Om.IsR 1 o) (hq : Om.IsR 1 q) (hl : q.length ≤ 900) : sh o q = true ↔ ∃ u v, Emb o q u v := by
  rw [sh_iff ho hq hl]
  constructor
  · rintro ⟨xs, h⟩
    obtain ⟨u, v, h, _⟩ := occ_emb hq h
    exact ⟨u, v, h⟩
  · rintro ⟨u, v, h⟩
    exact ⟨_, emb_occ hq h⟩
theorem emb_refl {o : List Int} : Emb o o id id := ⟨fun _ _ _ h _ => h, fun _ _ _ h _ => h, fun _ _ h0 h => ⟨h0, h⟩⟩
theorem ord_get {p : List Int} (hp : Om.IsR 1 p) {a : Int} (h : 1 ≤ a ∧ a ≤ p.length) : ∃ i : Int, 0 ≤ i ∧ Mt.ixI p i = some a := by
  have hm : a ∈ p := hp.mem.mpr (by omega)
  obtain ⟨i, hi⟩ := List.getElem?_of_mem hm
  exact ⟨i, by omega, (ix_nat (by omega)).mpr (by rw [show ((i : Int)).toNat = i by omega]; exact hi)⟩
theorem emb_trans {o q p : List Int} {u v u' v' : Int → Int} (hq : Om.IsR 1 q) (hp : Om.IsR 1 p) (h : Emb o q u v) (h' : Emb q p u' v') : Emb o p (fun i => u (u' i)) (fun a => v (v' a)) := by
  refine ⟨fun i j h0 hij hj => ?_, fun a b ha hab hb => ?_, fun i e h0 hi => ?_⟩
  · have g1 := h'.im i _ h0 (ix_get (l := p) h0 (by omega))
    have g2 := h'.im j _ (by omega) (ix_get (l := p) (by omega) hj)
    exact h.uu _ _ g1.1 (h'.uu i j h0 hij hj) (ix_lt g2.1 g2.2)
  · obtain ⟨i, hi0, hi⟩ := ord_get hp (a := a) (by omega)
    obtain ⟨j, hj0, hj⟩ := ord_get hp (a := b) (by omega)
    have g1 := hq.mem.mp (Mt.mem_ixI (h'.im i a hi0 hi).2)
    have g2 := hq.mem.mp (Mt.mem_ixI (h'.im j b hj0 hj).2)
    exact h.vv _ _ g1.1 (h'.vv a b ha hab hb) (by omega)
  · obtain ⟨a1, a2⟩ := h'.im i e h0 hi
    exact h.im _ _ a1 a2
theorem sh_trans {o q p : List Int} (ho : Om.IsR 1 o) (hq : Om.IsR 1 q) (hp : Om.IsR 1 p) (hl : q.length ≤ 900) (hl' : p.length ≤ 900) (h : sh o q = true) (h' : sh q p = true) : sh o p = true := by
  obtain ⟨u, v, g⟩ := (sh_emb ho hq hl).mp h
  obtain ⟨u', v', g'⟩ := (sh_emb hq hp hl').mp h'
  exact (sh_emb ho hp hl').mpr ⟨_, _, emb_trans hq hp g g'⟩
theorem sh_refl {o : List Int} (ho : Om.IsR 1 o) (hl : o.length ≤ 900) : sh o o = true := (sh_emb ho ho hl).mpr ⟨_, _, emb_refl⟩
theorem occ_len {o q xs : List Int} (h : Occ o q xs) : q.length ≤ o.length := by
  obtain ⟨v, _, ha⟩ := h
  obtain ⟨h1, h2, h3, _⟩ := at_to (Int.le_refl 0) ha
  cases xs with
  | nil => simp at h1; omega
  | cons x xs =>
    have := asc_len h2 fun y hy => (h3 y hy).2
    have := (h3 x List.mem_cons_self).1
    simp at h1; omega
theorem sh_len {o q : List Int} (ho : Om.IsR 1 o) (hq : Om.IsR 1 q) (hl : q.length ≤ 900) (h : sh o q = true) : q.length ≤ o.length := by
  obtain ⟨xs, h⟩ := (sh_iff ho hq hl).mp h
  exact occ_len h
theorem rg_fix {c : Int} {n : Nat} {f : Int → Int} (hm : ((rgI (c + 1) 1 n).map f).Pairwise (· < ·)) (hr : ∀ x, c < x → x ≤ c + n → c < f x ∧ f x ≤ c + n) : ∀ x, c < x → x ≤ c + n → f x = x := by
  have h1 := Om.strict_rg (l := (rgI (c + 1) 1 n).map f) (c := c) hm (fun y hy => by
    obtain ⟨x, hx, rfl⟩ := List.mem_map.mp hy
    have := Om.mem_rg.mp hx
    have := hr x (by omega) (by omega)
    rw [List.length_map, Om.rg_len]; omega)
  rw [List.length_map, Om.rg_len] at h1
  have h2 : (rgI (c + 1) 1 n).map f = (rgI (c + 1) 1 n).map id := by rw [h1, List.map_id]
  intro x hx hx2
  exact List.map_inj_left.mp h2 x (Om.mem_rg.mpr (by omega))
theorem emb_same {o q : List Int} {u v : Int → Int} (ho : Om.IsR 1 o) (hq : Om.IsR 1 q) (hl : q.length = o.length) (h : Emb o q u v) : q = o := by
  have hu : ∀ i, -1 < i → i ≤ -1 + (q.length : Int) → u i = i := rg_fix (c := -1) (n := q.length) (by
    rw [List.pairwise_map]
    refine List.Pairwise.imp_of_mem (R := (· < ·)) (fun {a b} ha hb hab => ?_) (Om.rg_sorted _ _)
    have h1 := Om.mem_rg.mp ha
    have h2 := Om.mem_rg.mp hb
    exact h.uu a b (by omega) hab (by omega)) (fun x h1 h2 => by
    have := h.im x _ (by omega) (ix_get (l := q) (by omega) (by omega))
    have := ix_lt this.1 this.2
    omega)
  have hv : ∀ i, 0 < i → i ≤ 0 + (q.length : Int) → v i = i := rg_fix (c := 0) (n := q.length) (by
    rw [List.pairwise_map]
    refine List.Pairwise.imp_of_mem (R := (· < ·)) (fun {a b} ha hb hab => ?_) (Om.rg_sorted _ _)
    have h1 := Om.mem_rg.mp ha
    have h2 := Om.mem_rg.mp hb
    exact h.vv a b (by omega) hab (by omega)) (fun x h1 h2 => by
    obtain ⟨i, hi0, hi⟩ := ord_get hq (a := x) (by omega)
    have := ho.mem.mp (Mt.mem_ixI (h.im i x hi0 hi).2)
    omega)
  refine ext_ix hl fun i x h0 hi => ?_
  obtain ⟨_, g⟩ := h.im i x h0 hi
  have g1 := ix_lt h0 hi
  have g2 := hq.mem.mp (Mt.mem_ixI hi)
  rw [hu i (by omega) (by omega), hv x (by omega) (by omega)] at g
  exact g
theorem sh_same {o q : List Int} (ho : Om.IsR 1 o) (hq : Om.IsR 1 q) (hl : q.length ≤ 900) (he : q.length = o.length) (h : sh o q = true) : q = o := by
  obtain ⟨u, v, h⟩ := (sh_emb ho hq hl).mp h
  exact emb_same ho hq he h
/-! ### by length, then as tuples -/
def lt2 (a b : List Int) : Prop := a.length < b.length ∨ (a.length = b.length ∧ a < b)
theorem lt2_irr (a : List Int) : ¬ lt2 a a := fun h => by
  rcases h with h | h
  · omega
  · exact List.lt_irrefl _ h.2
theorem lt2_trans {a b c : List Int} (h : lt2 a b) (k : lt2 b c) : lt2 a c := by
  rcases h with h | h <;> rcases k with k | k
  · exact .inl (by omega)
  · exact .inl (by omega)
  · exact .inl (by omega)
  · exact .inr ⟨by omega, List.lt_trans h.2 k.2⟩
theorem lt2_len {a b : List Int} (h : lt2 a b) : a.length ≤ b.length := by
  rcases h with h | h <;> omega
theorem pw2_nodup {l : List (List Int)} (h : l.Pairwise lt2) : l.Nodup := h.imp fun {a b} hab e => by subst e; exact lt2_irr _ hab
theorem pw2_uniq : ∀ {l m : List (List Int)}, l.Pairwise lt2 → m.Pairwise lt2 → (∀ x, x ∈ l ↔ x ∈ m) → l = m
  | [], [], _, _, _ => rfl
  | [], b :: m, _, _, h => by have := (h b).mpr List.mem_cons_self; cases this
  | a :: l, [], _, _, h => by have := (h a).mp List.mem_cons_self; cases this
  | a :: l, b :: m, h1, h2, h => by
    rw [List.pairwise_cons] at h1 h2
    have e : a = b := by
      rcases List.mem_cons.mp ((h a).mp List.mem_cons_self) with e | g1
      · exact e
      · rcases List.mem_cons.mp ((h b).mpr List.mem_cons_self) with e | g2
        · exact e.symm
        · exact (lt2_irr a (lt2_trans (h1.1 b g2) (h2.1 a g1))).elim
    subst e
    rw [pw2_uniq h1.2 h2.2 fun x => ⟨fun hx => by
      rcases List.mem_cons.mp ((h x).mp (List.mem_cons_of_mem _ hx)) with rfl | g
      · exact (lt2_irr _ (h1.1 x hx)).elim
      · exact g, fun hx => by
      rcases List.mem_cons.mp ((h x).mpr (List.mem_cons_of_mem _ hx)) with rfl | g
      · exact (lt2_irr _ (h2.1 x hx)).elim
      · exact g⟩]
/-! ### the least list -/
def lets (kept : List (List Int)) (p : List Int) : Bool := kept.all fun q => !sh p q
def lst : List (List Int) → List (List Int) → List (List Int)
  | kept, [] => kept
  | kept, p :: r => if lets kept p then lst (kept ++ [p]) r else lst kept r
theorem lst_snoc : ∀ (r k : List (List Int)) (p : List Int), lst k (r ++ [p]) = if lets (lst k r) p then lst k r ++ [p] else lst k r
  | [], k, p => by rw [List.nil_append]; rfl
  | x :: r, k, p => by
    rw [List.cons_append]
    unfold lst
    split
    · exact lst_snoc r _ p
    · exact lst_snoc r _ p
theorem lst_sublist : ∀ (r k : List (List Int)), (lst k r).Sublist (k ++ r)
  | [], k => by rw [lst, List.append_nil]; exact List.Sublist.refl _
  | x :: r, k => by
    unfold lst
    split
    · have := lst_sublist r (k ++ [x])
      rwa [List.append_assoc] at this
    · exact (lst_sublist r k).trans (List.Sublist.append_left (List.sublist_cons_self x r) k)
theorem lst_kept : ∀ (r k : List (List Int)) (x : List Int), x ∈ k → x ∈ lst k r
  | [], k, x, h => h
  | p :: r, k, x, h => by
    unfold lst
    split
    · exact lst_kept r _ x (List.mem_append_left _ h)
    · exact lst_kept r k x h
theorem lst_shows : ∀ (r k : List (List Int)) (p : List Int), p ∈ r → p ∈ lst k r ∨ ∃ q ∈ lst k r, sh p q = true
  | [], k, p, h => by cases h
  | x :: r, k, p, h => by
    unfold lst
    rcases List.mem_cons.mp h with rfl | h
    · split
      · exact .inl (lst_kept r _ _ (by simp))
      · rename_i hn
        unfold lets at hn
        rw [List.all_eq_true] at hn
        have : ∃ q ∈ k, sh p q = true := by
          refine Classical.byContradiction fun hc => hn fun q hq => ?_
          cases e : sh p q with
          | false => rfl
          | true => exact (hc ⟨q, hq, e⟩).elim
        obtain ⟨q, hq, e⟩ := this
        exact .inr ⟨q, lst_kept r k q hq, e⟩
    · split
      · exact lst_shows r _ p h
      · exact lst_shows r k p h
theorem lst_good : ∀ (r k : List (List Int)), k.Pairwise (fun q p => sh p q = false) → (lst k r).Pairwise (fun q p => sh p q = false)
  | [], k, h => h
  | x :: r, k, h => by
    unfold lst
    split
    · rename_i hl
      refine lst_good r _ (List.pairwise_append.mpr ⟨h, List.pairwise_singleton _ _, fun a ha b hb => ?_⟩)
      obtain rfl : b = x := by simpa using hb
      unfold lets at hl
      have := List.all_eq_true.mp hl a ha
      simpa using this
    · exact lst_good r k h
theorem lst_id : ∀ (r k : List (List Int)), (k ++ r).Pairwise (fun q p => sh p q = false) → lst k r = k ++ r
  | [], k, _ => by rw [lst, List.append_nil]
  | x :: r, k, h => by
    unfold lst
    have hx : lets k x = true := by
      unfold lets
      rw [List.all_eq_true]
      intro a ha
      have := (List.pairwise_append.mp h).2.2 a ha x List.mem_cons_self
      simp [this]
    rw [if_pos hx, lst_id r (k ++ [x]) (by rwa [List.append_assoc]), List.append_assoc]; rfl
/-- what is forbidden, of a list: each an order of one to five things -/
def Pats (N : Nat) (L : List (List Int)) : Prop := ∀ p ∈ L, Om.IsR 1 p ∧ 1 ≤ p.length ∧ p.length ≤ N
theorem lets_lst {N : Nat} (hN : N ≤ 900) {L : List (List Int)} (h : Pats N L) {o : List Int} (ho : Om.IsR 1 o) : lets (lst [] L) o = lets L o := by
  have hsub : ∀ x ∈ lst [] L, x ∈ L := fun x hx => (lst_sublist L []).subset hx
  unfold lets
  rw [Bool.eq_iff_iff, List.all_eq_true, List.all_eq_true]
  constructor
  · intro g p hp
    rcases lst_shows L [] p hp with h1 | ⟨q, h1, h2⟩
    · exact g p h1
    · have := g q h1
      obtain ⟨kp, _, lp⟩ := h p hp
      obtain ⟨kq, _, lq⟩ := h q (hsub q h1)
      cases e : sh o p with
      | false => rfl
      | true =>
        rw [sh_trans ho kp kq (by omega) (by omega) e h2] at this
        exact this
  · intro g p hp
    exact g p (hsub p hp)
theorem lets_mem {L M : List (List Int)} (h : ∀ x, x ∈ L ↔ x ∈ M) (o : List Int) : lets L o = lets M o := by
  unfold lets
  rw [Bool.eq_iff_iff, List.all_eq_true, List.all_eq_true]
  exact ⟨fun g x hx => g x ((h x).mpr hx), fun g x hx => g x ((h x).mp hx)⟩
/-- the shorter ones tell as much as all that are kept -/
theorem lets_short {N : Nat} (hN : N ≤ 900) {kept short : List (List Int)} {p : List Int} (hk : Pats N kept) (hp : Om.IsR 1 p) (h1 : ∀ x ∈ short, x ∈ kept) (h2 : ∀ x ∈ kept, x ∈ short ∨ (x.length = p.length ∧ x ≠ p)) : lets short p = lets kept p := by
  unfold lets
  rw [Bool.eq_iff_iff, List.all_eq_true, List.all_eq_true]
  refine ⟨fun g x hx => ?_, fun g x hx => g x (h1 x hx)⟩
  rcases h2 x hx with h | ⟨e1, e2⟩
  · exact g x h
  · obtain ⟨kx, _, lx⟩ := hk x hx
    cases e : sh p x with
    | false => rfl
    | true => exact (e2 (sh_same hp kx (by omega) e1 e)).elim
end Sw
set_option Elab.async false
set_option linter.all false
set_option maxRecDepth 100000
set_option maxHeartbeats 400000
/-! all places of a pattern, gone through row by row -/
namespace Sw
open PySem Z
def gv (l : List Int) (i : Int) : Int := l.getD i.toNat 0
def okP (o q row : List Int) (k : Nat) (p : Int) : Bool := (rgI 0 1 k).all fun j => decide (gv o (gv row j) < gv o p) == decide (gv q j < gv q k)
def stt (row : List Int) : Int := match row.getLast? with
  | none => 0
  | some x => x + 1
def pv (o q row : List Int) (k : Nat) : List Int := (rgI (stt row) 1 ((o.length : Int) - stt row).toNat).filter (okP o q row k)
def ext (o q : List Int) (k : Nat) (row : List Int) : List (List Int) := (pv o q row k).map fun p => row ++ [p]
def plc (o q : List Int) : Nat → List (List Int)
  | 0 => [[]]
  | k + 1 => (plc o q k).flatMap (ext o q k)
def Row (o q : List Int) (k : Nat) (row : List Int) : Prop := row.length = k ∧ row.Pairwise (· < ·) ∧ (∀ x ∈ row, 0 ≤ x ∧ x < o.length) ∧ ∀ i j : Int, 0 ≤ i → i < j → j < k → (gv o (gv row i) < gv o (gv row j) ↔ gv q i < gv q j)
theorem gv_app {l : List Int} {p i : Int} (h0 : 0 ≤ i) (h : i < l.length) : gv (l ++ [p]) i = gv l i := by
  unfold gv
  rw [List.getD_eq_getElem?_getD, List.getD_eq_getElem?_getD, List.getElem?_append_left (by omega)]
theorem gv_last {l : List Int} {p : Int} : gv (l ++ [p]) l.length = p := by
  unfold gv
  rw [List.getD_eq_getElem?_getD, show ((l.length : Int)).toNat = l.length by omega, List.getElem?_concat_length]; rfl
theorem gv_mem {l : List Int} {i : Int} (h0 : 0 ≤ i) (h : i < l.length) : gv l i ∈ l := by
  unfold gv
  rw [List.getD_eq_getElem?_getD, List.getElem?_eq_getElem (by omega)]
  exact List.getElem_mem _
theorem gv_ix {l : List Int} {i : Int} (h0 : 0 ≤ i) (h : i < l.length) : Mt.ixI l i = some (gv l i) := by
  rw [ix_nat h0]
  unfold gv
  rw [List.getD_eq_getElem?_getD, List.getElem?_eq_getElem (by omega)]; rfl
theorem gv_of {l : List Int} {i x : Int} (h0 : 0 ≤ i) (h : Mt.ixI l i = some x) : gv l i = x := by
  rw [gv_ix h0 (ix_lt h0 h)] at h
  exact Option.some.inj h
theorem stt_snoc (row : List Int) (p : Int) : stt (row ++ [p]) = p + 1 := by unfold stt; rw [List.getLast?_concat]
theorem row_step {o q row : List Int} {k : Nat} {p : Int} : Row o q (k + 1) (row ++ [p]) ↔ Row o q k row ∧ (stt row ≤ p ∧ p < o.length) ∧ okP o q row k p = true := by
  constructor
  · rintro ⟨h1, h2, h3, h4⟩
    have hl : row.length = k := by simpa using h1
    rw [List.pairwise_append] at h2
    refine ⟨⟨hl, h2.1, fun x hx => h3 x (List.mem_append_left _ hx), fun i j hi hij hj => ?_⟩, ⟨?_, (h3 p (by simp)).2⟩, ?_⟩
    · have := h4 i j hi hij (by omega)
      rwa [gv_app hi (by omega), gv_app (by omega) (by omega)] at this
    · unfold stt
      cases e : row.getLast? with
      | none => exact (h3 p (by simp)).1
      | some x =>
        have := h2.2.2 x (List.mem_of_getLast? e) p (by simp)
        show x + 1 ≤ p
        omega
    · unfold okP
      rw [List.all_eq_true]
      intro j hj
      have hj' := Om.mem_rg.mp hj
      have := h4 j k (by omega) (by omega) (by omega)
      rw [gv_app (by omega) (by omega)] at this
      have e : gv (row ++ [p]) (k : Int) = p := by rw [← hl]; exact gv_last
      rw [e] at this
      rw [beq_iff_eq, decide_eq_decide]
      exact this
  · rintro ⟨⟨h1, h2, h3, h4⟩, ⟨h5, h6⟩, h7⟩
    have hlt : ∀ x ∈ row, x < p := fun x hx => by
      unfold stt at h5
      cases e : row.getLast? with
      | none =>
        rw [List.getLast?_eq_none_iff] at e
        rw [e] at hx; cases hx
      | some y =>
        rw [e] at h5
        have h5 : y + 1 ≤ p := h5
        rcases List.eq_nil_or_concat row with rfl | ⟨r, z, rfl⟩
        · cases hx
        · rw [List.concat_eq_append] at *
          rw [List.getLast?_concat] at e
          obtain rfl := Option.some.inj e
          rcases List.mem_append.mp hx with hx | hx
          · have := (List.pairwise_append.mp h2).2.2 x hx z (by simp); omega
          · have : x = z := by simpa using hx
            omega
    have h0 : 0 ≤ stt row := by
      unfold stt
      cases e : row.getLast? with
      | none => exact Int.le_refl _
      | some y =>
        have := (h3 y (List.mem_of_getLast? e)).1
        show 0 ≤ y + 1
        omega
    refine ⟨by simp [h1], List.pairwise_append.mpr ⟨h2, List.pairwise_singleton _ _, fun a ha b hb => ?_⟩, fun x hx => ?_, fun i j hi hij hj => ?_⟩
    · obtain rfl : b = p := by simpa using hb
      exact hlt a ha
    · rcases List.mem_append.mp hx with hx | hx
      · exact h3 x hx
      · obtain rfl : x = p := by simpa using hx
        omega
    · by_cases e : j = k
      · subst e
        have e1 : gv (row ++ [p]) (k : Int) = p := by rw [← h1]; exact gv_last
        rw [e1, gv_app hi (by omega)]
        unfold okP at h7
        have := List.all_eq_true.mp h7 i (Om.mem_rg.mpr (by omega))
        rwa [beq_iff_eq, decide_eq_decide] at this
      · rw [gv_app hi (by omega), gv_app (by omega) (by omega)]
        exact h4 i j hi hij (by omega)
theorem mem_plc {o q : List Int} : ∀ {k : Nat} {row : List Int}, row ∈ plc o q k ↔ Row o q k row
  | 0, row => by
    rw [plc, List.mem_singleton]
    constructor
    · rintro rfl
      exact ⟨rfl, .nil, ⟨(fun x hx => by cases hx), (fun i j _ _ _ => by omega)⟩⟩
    · intro h
      exact List.length_eq_zero_iff.mp h.1
  | k + 1, row => by
    rw [plc, List.mem_flatMap]
    constructor
    · rintro ⟨r, hr, hx⟩
      obtain ⟨p, hp, rfl⟩ := List.mem_map.mp hx
      obtain ⟨hp1, hp2⟩ := List.mem_filter.mp hp
      have := Om.mem_rg.mp hp1
      exact row_step.mpr ⟨mem_plc.mp hr, ⟨by omega, by omega⟩, hp2⟩
    · intro h
      rcases List.eq_nil_or_concat row with rfl | ⟨r, p, rfl⟩
      · exact absurd h.1 (by simp)
      · rw [List.concat_eq_append] at *
        obtain ⟨h1, h2, h3⟩ := row_step.mp h
        exact ⟨r, mem_plc.mpr h1, List.mem_map.mpr ⟨p, List.mem_filter.mpr ⟨Om.mem_rg.mpr (by omega), h3⟩, rfl⟩⟩
theorem nd_gv {l : List Int} (hn : l.Nodup) {i j : Int} (hi : 0 ≤ i) (hil : i < l.length) (hj : 0 ≤ j) (hjl : j < l.length) (h : gv l i = gv l j) : i = j := by
  unfold gv at h
  rw [List.getD_eq_getElem?_getD, List.getD_eq_getElem?_getD, List.getElem?_eq_getElem (by omega), List.getElem?_eq_getElem (by omega)] at h
  have := (List.getElem_inj hn).mp (show l[i.toNat]'(by omega) = l[j.toNat]'(by omega) from h)
  omega
theorem gv_asc {l : List Int} (h : l.Pairwise (· < ·)) {i j : Int} (hi : 0 ≤ i) (hij : i < j) (hjl : j < l.length) : gv l i < gv l j := by
  unfold gv
  rw [List.getD_eq_getElem?_getD, List.getD_eq_getElem?_getD, List.getElem?_eq_getElem (by omega), List.getElem?_eq_getElem (by omega)]
  exact List.pairwise_iff_getElem.mp h i.toNat j.toNat (by omega) (by omega) (by omega)
theorem row_emb {o q row : List Int} (ho : Om.IsR 1 o) (hq : Om.IsR 1 q) (h : Row o q q.length row) : Emb o q (gv row) (fun e => gv o (gv row (posIn q e - 1))) := by
  obtain ⟨h1, h2, h3, h4⟩ := h
  have hp : ∀ e : Int, 1 ≤ e → e ≤ q.length → 0 ≤ posIn q e - 1 ∧ posIn q e - 1 < q.length ∧ gv q (posIn q e - 1) = e := fun e he he2 => by
    have hm : e ∈ q := hq.mem.mpr (by omega)
    have hl := List.idxOf_lt_length_of_mem hm
    unfold posIn
    rw [if_pos hm]
    refine ⟨by omega, by omega, ?_⟩
    unfold gv
    rw [show (((q.idxOf e : Nat) : Int) + 1 - 1).toNat = q.idxOf e by omega, List.getD_eq_getElem?_getD, List.getElem?_eq_getElem hl]
    simp
  have hin : ∀ i : Int, 0 ≤ i → i < q.length → 0 ≤ gv row i ∧ gv row i < o.length := fun i hi hil => h3 _ (gv_mem hi (by omega))
  refine ⟨fun i j h0 hij hj => gv_asc h2 h0 hij (by omega), fun a b ha hab hb => ?_, fun i e h0 hi => ?_⟩
  · obtain ⟨a1, a2, a3⟩ := hp a ha (by omega)
    obtain ⟨b1, b2, b3⟩ := hp b (by omega) hb
    show gv o (gv row (posIn q a - 1)) < gv o (gv row (posIn q b - 1))
    generalize posIn q a - 1 = i at *
    generalize posIn q b - 1 = j at *
    rcases Int.lt_trichotomy i j with g | g | g
    · exact (h4 i j a1 g b2).mpr (by omega)
    · subst g; omega
    · have n1 := fun hh => (h4 j i b1 g a2).mp hh
      have n2 : gv o (gv row i) ≠ gv o (gv row j) := fun e => by
        have i1 := hin i a1 a2
        have j1 := hin j b1 b2
        have := nd_gv ho.nodup i1.1 i1.2 j1.1 j1.2 e
        have := gv_asc h2 b1 g (by omega)
        omega
      refine Classical.byContradiction fun hc => ?_
      have := n1 (by omega)
      omega
  · have hl := ix_lt h0 hi
    have hm : e ∈ q := Mt.mem_ixI hi
    have e1 : posIn q e - 1 = i := by
      unfold posIn
      rw [if_pos hm, idx_get hq.nodup ((ix_nat h0).mp hi)]
      omega
    have i1 := hin i h0 hl
    refine ⟨i1.1, ?_⟩
    show _ = some (gv o (gv row (posIn q e - 1)))
    rw [e1]
    exact gv_ix i1.1 i1.2
theorem emb_row {o q : List Int} {u v : Int → Int} (hq : Om.IsR 1 q) (h : Emb o q u v) : Row o q q.length ((rgI 0 1 q.length).map u) := by
  have hin : ∀ i : Int, 0 ≤ i → i < q.length → 0 ≤ u i ∧ Mt.ixI o (u i) = some (v (gv q i)) := fun i h0 hl => h.im i _ h0 (gv_ix h0 hl)
  have hg : ∀ i : Int, 0 ≤ i → i < q.length → gv ((rgI 0 1 q.length).map u) i = u i := fun i h0 hl => by
    unfold gv rgI
    rw [List.getD_eq_getElem?_getD, List.getElem?_map, List.getElem?_map, List.getElem?_range (by omega)]
    show u (0 + ((i.toNat : Nat) : Int) * 1) = u i
    congr 1; omega
  refine ⟨by rw [List.length_map, Om.rg_len], ?_, fun x hx => ?_, fun i j hi hij hj => ?_⟩
  · rw [List.pairwise_map]
    refine List.Pairwise.imp_of_mem (R := (· < ·)) (fun {a b} ha hb hab => ?_) (Om.rg_sorted 0 q.length)
    have h1 := Om.mem_rg.mp ha
    have h2 := Om.mem_rg.mp hb
    exact h.uu a b (by omega) hab (by omega)
  · obtain ⟨i, hi, rfl⟩ := List.mem_map.mp hx
    have h1 := Om.mem_rg.mp hi
    obtain ⟨h2, h3⟩ := hin i (by omega) (by omega)
    exact ⟨h2, ix_lt h2 h3⟩
  · have g1 := hin i hi (by omega)
    have g2 := hin j (by omega) hj
    rw [hg i hi (by omega), hg j (by omega) hj, gv_of g1.1 g1.2, gv_of g2.1 g2.2]
    have m1 := hq.mem.mp (gv_mem (l := q) hi (by omega))
    have m2 := hq.mem.mp (gv_mem (l := q) (i := j) (by omega) hj)
    constructor
    · intro hlt
      rcases Int.lt_trichotomy (gv q i) (gv q j) with g | g | g
      · exact g
      · rw [g] at hlt; omega
      · have := h.vv _ _ m2.1 g (by omega); omega
    · intro hlt
      exact h.vv _ _ m1.1 hlt (by omega)
theorem plc_sh {o q : List Int} (ho : Om.IsR 1 o) (hq : Om.IsR 1 q) (hl : q.length ≤ 900) : (plc o q q.length).isEmpty = !sh o q := by
  cases e : sh o q with
  | true =>
    obtain ⟨u, v, h⟩ := (sh_emb ho hq hl).mp e
    have := mem_plc.mpr (emb_row hq h)
    cases e2 : plc o q q.length with
    | nil => rw [e2] at this; cases this
    | cons x l => rfl
  | false =>
    cases e2 : plc o q q.length with
    | nil => rfl
    | cons x l =>
      have h := row_emb ho hq (mem_plc.mp (by rw [e2]; exact List.mem_cons_self : x ∈ plc o q q.length))
      rw [(sh_emb ho hq hl).mpr ⟨_, _, h⟩] at e
      cases e
/-! ### how many rows -/
def wt (n : Nat) (row : List Int) : Nat := 2 ^ ((n : Int) - stt row).toNat
theorem wt_pos (n : Nat) (row : List Int) : 1 ≤ wt n row := Nat.one_le_two_pow
theorem sum_filter (f : Int → Nat) (c : Int → Bool) : ∀ l : List Int, ((l.filter c).map f).sum ≤ (l.map f).sum
  | [] => Nat.le_refl _
  | x :: l => by
    have := sum_filter f c l
    rw [List.filter_cons]
    split
    · simp only [List.map_cons, List.sum_cons]; omega
    · simp only [List.map_cons, List.sum_cons]; omega
theorem sum_pows (n : Nat) : ∀ (c : Nat) (s : Int), s + c = n → ((rgI s 1 c).map fun p => 2 ^ ((n : Int) - (p + 1)).toNat).sum ≤ 2 ^ c
  | 0, s, _ => by simp [rgI]
  | c + 1, s, h => by
    have ih := sum_pows n c (s + 1) (by omega)
    rw [Om.rg_succ, List.map_cons, List.sum_cons, show ((n : Int) - (s + 1)).toNat = c by omega]
    rw [Nat.pow_succ]; omega
theorem ext_wt {o q row : List Int} {k : Nat} : ((ext o q k row).map (wt o.length)).sum ≤ wt o.length row := by
  unfold ext pv
  rw [List.map_map]
  have e : (wt o.length ∘ fun p => row ++ [p]) = fun p => 2 ^ ((o.length : Int) - (p + 1)).toNat := by
    funext p
    show wt o.length (row ++ [p]) = _
    unfold wt
    rw [stt_snoc]
  rw [e]
  refine Nat.le_trans (sum_filter _ _ _) ?_
  by_cases h : stt row ≤ o.length
  · exact sum_pows o.length _ _ (by omega)
  · rw [show ((o.length : Int) - stt row).toNat = 0 by omega]
    simp [rgI]
theorem flat_wt {o q : List Int} {k : Nat} : ∀ rows : List (List Int), ((rows.flatMap (ext o q k)).map (wt o.length)).sum ≤ (rows.map (wt o.length)).sum
  | [] => Nat.le_refl _
  | r :: rows => by
    have := flat_wt (o := o) (q := q) (k := k) rows
    have := ext_wt (o := o) (q := q) (row := r) (k := k)
    rw [List.flatMap_cons, List.map_append, List.sum_append, List.map_cons, List.sum_cons]
    omega
theorem plc_wt {o q : List Int} : ∀ k : Nat, ((plc o q k).map (wt o.length)).sum ≤ 2 ^ o.length
  | 0 => by simp [plc, wt, stt]
  | k + 1 => Nat.le_trans (flat_wt _) (plc_wt k)
theorem len_wt (n : Nat) : ∀ rows : List (List Int), rows.length ≤ (rows.map (wt n)).sum
  | [] => Nat.le_refl _
  | r :: rows => by
    have := len_wt n rows
    have := wt_pos n r
    simp only [List.length_cons, List.map_cons, List.sum_cons]; omega
theorem plc_len {o q : List Int} (k : Nat) : (plc o q k).length ≤ 2 ^ o.length := Nat.le_trans (len_wt _ _) (plc_wt k)
end Sw
set_option Elab.async false
set_option linter.all false
set_option maxRecDepth 100000
set_option maxHeartbeats 400000
/-! each once, by length and then as tuples -/
namespace Sw
open PySem Z
open PySem.W (dataLe dataLt rowLt alike alikeAll AllAlike Sortable)
theorem lt2_tri (a b : List Int) : lt2 a b ∨ a = b ∨ lt2 b a := by
  unfold lt2
  rcases Nat.lt_trichotomy a.length b.length with h | h | h
  · exact .inl (.inl h)
  · rcases List.le_total a b with k | k
    · rcases List.le_iff_lt_or_eq.mp k with k | k
      · exact .inl (.inr ⟨h, k⟩)
      · exact .inr (.inl k)
    · rcases List.le_iff_lt_or_eq.mp k with k | k
      · exact .inr (.inr (.inr ⟨h.symm, k⟩))
      · exact .inr (.inl k.symm)
  · exact .inr (.inr (.inl h))
abbrev prD (r : List Int) : PyData := .tuple [.int (r.length : Int), T r]
theorem lt_pr (q p : List Int) : dataLt (prD q) (prD p) = true ↔ lt2 q p := by
  have a1 : alike (.int (q.length : Int)) (.int (p.length : Int)) = true := by simp [alike]
  have a2 : alike (T q) (T p) = true := PySem.W.alike_ints q p
  rw [PySem.W.dataLt_pair a1 a2]
  have e1 : PyData.eqv (.int (q.length : Int)) (.int (p.length : Int)) = decide (q.length = p.length) := by
    rw [eqv_int]
    by_cases h : q.length = p.length
    · simp [h]
    · have h' : ¬ (q.length : Int) = (p.length : Int) := by omega
      simp [h, h']
  have e2 : PyData.eqv (T q) (T p) = decide (q = p) := eqvAll_ints q p
  have e3 : dataLt (T q) (T p) = decide (q < p) := by
    rw [show dataLt (T q) (T p) = rowLt (q.map .int) (p.map .int) from PySem.W.dataLt_tuple _ _, PySem.W.dataLt_ints]
  rw [e1, e2, e3, PySem.W.dataLt_int]
  unfold lt2
  by_cases h : q.length = p.length
  · rw [if_pos (decide_eq_true h)]
    by_cases k : q = p
    · rw [if_pos (decide_eq_true k)]
      subst k
      simp [List.lt_irrefl]
    · rw [if_neg (by simpa using k)]
      simp [h]
  · rw [if_neg (by simpa using h)]
    simp [h]
theorem le_pr (p q : List Int) : dataLe false prD p q = true ↔ ¬ lt2 q p := by
  show (!dataLt (prD q) (prD p)) = true ↔ _
  rw [← lt_pr]
  simp
theorem sort_pr (m : List (List Int)) : (m.mergeSort (dataLe false prD)).Pairwise fun a b => ¬ lt2 b a :=
  (List.pairwise_mergeSort (le := dataLe false prD) (fun a b c h1 h2 => by
    rw [le_pr] at *
    intro h
    rcases lt2_tri c b with k | k | k
    · exact h2 k
    · subst k; exact h1 h
    · exact h1 (lt2_trans k h)) (fun a b => by
    rw [Bool.or_eq_true, le_pr, le_pr]
    rcases lt2_tri a b with k | k | k
    · exact .inl fun h => lt2_irr _ (lt2_trans k h)
    · subst k; exact .inl (lt2_irr _)
    · exact .inr fun h => lt2_irr _ (lt2_trans k h)) m).imp fun h => (le_pr _ _).mp h
theorem ok_pr (m : List (List Int)) : okSort (m.map prD) = true := by
  unfold okSort
  rw [Bool.and_eq_true, Bool.and_eq_true]
  refine ⟨⟨List.all_eq_true.mpr fun d hd => List.all_eq_true.mpr fun e he => ?_, Bool.or_eq_true_iff.mpr (.inl (List.all_eq_true.mpr fun d hd => ?_))⟩, List.all_eq_true.mpr fun d hd => ?_⟩
  · obtain ⟨a, _, rfl⟩ := List.mem_map.mp hd
    obtain ⟨b, _, rfl⟩ := List.mem_map.mp he
    have h2 : alike (T a) (T b) = true := PySem.W.alike_ints a b
    show alikeAll [.int (a.length : Int), T a] [.int (b.length : Int), T b] = true
    simp [alikeAll, alike, PySem.W.alike_ints]
  · obtain ⟨a, _, rfl⟩ := List.mem_map.mp hd
    rfl
  · obtain ⟨a, _, rfl⟩ := List.mem_map.mp hd
    refine decide_eq_true ?_
    show PyData.depthAll [.int (a.length : Int), T a] + 1 ≤ 8
    have h1 : PyData.depth (T a) = PyData.depthAll (a.map .int) + 1 := rfl
    simp [PyData.depthAll, PyData.depth, PySem.W.depth_ints]
theorem sort2_pr (m : List (List Int)) : pSort2 [.list (m.map prD)] = some (.list ((m.mergeSort (dataLe false prD)).map prD)) := by
  cases m with
  | nil => rw [List.mergeSort_nil]; exact z_sort2L (ns := [])
  | cons r m =>
    have e1 : pSorted [.list ((r :: m).map prD)] = none := rfl
    unfold pSort2
    rw [e1]
    show pSortD [.list ((r :: m).map prD)] = _
    show (if okSort ((r :: m).map prD) = true then some (PyData.list (((r :: m).map prD).mergeSort (dataLe false id))) else none) = _
    rw [if_pos (ok_pr _)]
    congr 2
    exact (PySem.W.sort_maps (r := dataLe false prD) (s := dataLe false id) prD (l := r :: m) (fun a _ b _ => rfl)).symm
/-! ### those that stand twice -/
def gS (S : List (List Int)) (k : Int) : List Int := S.getD k.toNat []
def cS (S : List (List Int)) (k : Int) : Bool := decide (k = 0) || !decide (gS S k = gS S (k - 1))
def undup (S : List (List Int)) : List (List Int) := ((rgI 0 1 S.length).filter (cS S)).map (gS S)
theorem gS_get {S : List (List Int)} {k : Int} (h0 : 0 ≤ k) (h : k < S.length) : gS S k = S[k.toNat]'(by omega) := by
  unfold gS
  rw [List.getD_eq_getElem?_getD, List.getElem?_eq_getElem (by omega)]; rfl
theorem undup_asc {S : List (List Int)} (h : S.Pairwise fun a b => ¬ lt2 b a) : (undup S).Pairwise lt2 := by
  unfold undup
  rw [List.pairwise_map]
  have hle : ∀ i j : Int, 0 ≤ i → i ≤ j → j < S.length → ¬ lt2 (gS S j) (gS S i) := fun i j h0 hij hj => by
    by_cases e : i = j
    · subst e; exact lt2_irr _
    · rw [gS_get h0 (by omega), gS_get (by omega) hj]
      exact List.pairwise_iff_getElem.mp h i.toNat j.toNat (by omega) (by omega) (by omega)
  refine List.Pairwise.imp_of_mem (R := (· < ·)) (fun {a b} ha hb hab => ?_) ((Om.rg_sorted 0 S.length).filter _)
  have a1 := Om.mem_rg.mp (List.mem_filter.mp ha).1
  obtain ⟨b1, b2⟩ := List.mem_filter.mp hb
  have b1 := Om.mem_rg.mp b1
  have h1 := hle a (b - 1) (by omega) (by omega) (by omega)
  have h2 := hle (b - 1) b (by omega) (by omega) (by omega)
  have h3 : gS S b ≠ gS S (b - 1) := fun e => by
    unfold cS at b2
    rw [decide_eq_false (by omega), decide_eq_true e] at b2
    cases b2
  have h4 : lt2 (gS S (b - 1)) (gS S b) := by
    rcases lt2_tri (gS S (b - 1)) (gS S b) with k | k | k
    · exact k
    · exact (h3 k.symm).elim
    · exact (h2 k).elim
  rcases lt2_tri (gS S a) (gS S (b - 1)) with k | k | k
  · exact lt2_trans k h4
  · rw [k]; exact h4
  · exact (h1 k).elim
theorem mem_undup {S : List (List Int)} {x : List Int} : x ∈ undup S ↔ x ∈ S := by
  constructor
  · intro h
    obtain ⟨k, hk, rfl⟩ := List.mem_map.mp h
    have := Om.mem_rg.mp (List.mem_filter.mp hk).1
    rw [gS_get (by omega) (by omega)]
    exact List.getElem_mem _
  · intro h
    have key : ∀ n : Nat, n < S.length → gS S n ∈ undup S := by
      intro n
      induction n with
      | zero =>
        intro hn
        exact List.mem_map.mpr ⟨0, List.mem_filter.mpr ⟨Om.mem_rg.mpr (by omega), rfl⟩, rfl⟩
      | succ n ih =>
        intro hn
        by_cases e : gS S ((n + 1 : Nat) : Int) = gS S (((n + 1 : Nat) : Int) - 1)
        · rw [e, show ((n + 1 : Nat) : Int) - 1 = (n : Int) by omega]
          exact ih (by omega)
        · exact List.mem_map.mpr ⟨((n + 1 : Nat) : Int), List.mem_filter.mpr ⟨Om.mem_rg.mpr (by omega), by unfold cS; rw [decide_eq_false e]; simp⟩, rfl⟩
    obtain ⟨i, hi⟩ := List.getElem?_of_mem h
    have hl := (List.getElem?_eq_some_iff.mp hi).1
    have := key i hl
    rw [gS_get (by omega) (by omega)] at this
    have e : S[((i : Nat) : Int).toNat]'(by omega) = x := by
      have := (List.getElem?_eq_some_iff.mp hi).2
      rw [← this]
      congr 1
    rwa [e] at this
/-- the list, ascending, each once -/
def asc (L : List (List Int)) : List (List Int) := undup (L.mergeSort (dataLe false prD))
theorem asc_pw (L : List (List Int)) : (asc L).Pairwise lt2 := undup_asc (sort_pr L)
theorem mem_asc {L : List (List Int)} {x : List Int} : x ∈ asc L ↔ x ∈ L := by
  unfold asc
  rw [mem_undup]
  exact (List.mergeSort_perm _ _).mem_iff
theorem asc_of {L M : List (List Int)} (h : M.Pairwise lt2) (k : ∀ x, x ∈ M ↔ x ∈ L) : M = asc L :=
  pw2_uniq h (asc_pw L) fun x => by rw [k, mem_asc]
theorem ascl_len (L : List (List Int)) : (asc L).length ≤ L.length := by
  unfold asc undup
  rw [List.length_map]
  refine Nat.le_trans (List.length_filter_le _ _) ?_
  rw [Om.rg_len, List.length_mergeSort]
  exact Nat.le_refl _
/-! ### by a dict -/
def dd1 (acc : List (List Int)) (r : List Int) : List (List Int) := if r ∈ acc then acc else acc ++ [r]
theorem dd_mem : ∀ (L acc : List (List Int)) (x : List Int), x ∈ L.foldl dd1 acc ↔ x ∈ acc ∨ x ∈ L
  | [], acc, x => by simp
  | r :: L, acc, x => by
    rw [List.foldl_cons, dd_mem L (dd1 acc r) x]
    unfold dd1
    split
    · rename_i h
      constructor
      · rintro (h1 | h1)
        · exact .inl h1
        · exact .inr (List.mem_cons_of_mem _ h1)
      · rintro (h1 | h1)
        · exact .inl h1
        · rcases List.mem_cons.mp h1 with rfl | h1
          · exact .inl h
          · exact .inr h1
    · rw [List.mem_append, List.mem_singleton, List.mem_cons]
      constructor
      · rintro ((h1 | h1) | h1)
        · exact .inl h1
        · exact .inr (.inl h1)
        · exact .inr (.inr h1)
      · rintro (h1 | h1 | h1)
        · exact .inl (.inl h1)
        · exact .inl (.inr h1)
        · exact .inr h1
theorem dd_nodup : ∀ (L acc : List (List Int)), acc.Nodup → (L.foldl dd1 acc).Nodup
  | [], acc, h => h
  | r :: L, acc, h => by
    rw [List.foldl_cons]
    refine dd_nodup L _ ?_
    unfold dd1
    split
    · exact h
    · rename_i hr
      rw [List.nodup_append]
      refine ⟨h, by simp, fun a ha b hb e => ?_⟩
      subst e
      simp at hb
      subst hb
      exact hr ha
theorem dd_asc (L : List (List Int)) : (L.foldl dd1 []).mergeSort (dataLe false prD) = asc L := by
  refine asc_of ?_ fun x => ?_
  · have h1 := sort_pr (L.foldl dd1 [])
    have h2 : ((L.foldl dd1 []).mergeSort (dataLe false prD)).Nodup := (List.mergeSort_perm _ _).nodup_iff.mpr (dd_nodup L [] .nil)
    refine (h1.and h2).imp fun {a b} h => ?_
    rcases lt2_tri a b with k | k | k
    · exact k
    · exact (h.2 k).elim
    · exact (h.1 k).elim
  · rw [(List.mergeSort_perm _ _).mem_iff, dd_mem]
    simp
end Sw
namespace Z
open PySem L2
theorem keyT_T (r : List Int) : keyT (T r) = some (.tup (r.map .num)) := by
  have e : keyN (T r) = some (.tup (r.map .num)) := by
    show (keyN.keyNs (r.map .int)).map NestedKey.tup = _
    rw [keyNs_ints]; rfl
  show (keyN (T r)).bind (fun k => if k.depth ≤ 8 then some k else none) = _
  rw [e]
  have : (NestedKey.tup (r.map .num)).depth ≤ 8 := by
    simp [NestedKey.depth, depth_nums]
  exact if_pos this
theorem dataN_T (r : List Int) : dataN (.tup (r.map .num)) = T r := by
  have h : keyN (T r) = some (.tup (r.map .num)) := by
    show (keyN.keyNs (r.map .int)).map NestedKey.tup = _
    rw [keyNs_ints]; rfl
  exact data_key h
abbrev kvT (acc : List (List Int)) : List (NestedKey × PyData) := acc.map fun r => (NestedKey.tup (r.map .num), PyData.bool true)
theorem tup_inj {a b : List Int} (h : NestedKey.tup (a.map .num) = NestedKey.tup (b.map .num)) : a = b := by
  have h := NestedKey.tup.inj h
  exact (List.map_inj_right (fun x y h => by injection h)).mp h
theorem put_T (acc : List (List Int)) (r : List Int) : putN (kvT acc) (.tup (r.map .num)) (.bool true) = kvT (Sw.dd1 acc r) := by
  unfold putN Sw.dd1
  by_cases h : r ∈ acc
  · rw [if_pos h, if_pos (by
      rw [List.any_eq_true]
      exact ⟨_, List.mem_map.mpr ⟨r, h, rfl⟩, decide_eq_true rfl⟩)]
    unfold kvT
    rw [List.map_map]
    refine List.map_congr_left fun x _ => ?_
    simp only [Function.comp]
    split
    · rename_i e; rw [e]
    · rfl
  · rw [if_neg h, if_neg (by
      rw [List.any_eq_true]
      rintro ⟨p, hp, e⟩
      obtain ⟨x, hx, rfl⟩ := List.mem_map.mp hp
      exact h (tup_inj (of_decide_eq_true e) ▸ hx))]
    unfold kvT
    rw [List.map_append]; rfl
end Z
set_option Elab.async false
set_option linter.all false
set_option maxRecDepth 100000
set_option maxHeartbeats 4000000
namespace Law
open PySem Z
theorem forLoop_cons {g : PyData → Z.Env → Option Z.Env} {b : SX} {x : PyData} {xs : List PyData} {Γ Γ1 Γ2 : Z.Env} (h1 : g x Γ = some Γ1) (h2 : b Γ1 = some (.nx Γ2)) : forLoop g b (x :: xs) Γ = forLoop g b xs Γ2 := by
  conv => lhs; unfold forLoop
  rw [h1]; simp only [Option.bind_some, h2]
/-! ### the pot -/
def PotOk (cs : List PyData) : Prop := ∃ (a b : Int) (c : Nat) (r : List Int), cs = .int a :: .int b :: .int ((c + 3 : Nat) : Int) :: r.map .int ∧ 0 ≤ a ∧ (0 ≤ b ∧ b < 2147483647) ∧ c ≤ r.length ∧ r.length ≤ 1000
theorem pw18 : pPow2 (.int 10) (.int 18) = some (.int 1000000000000000000) := by simp
abbrev tk1 : SX := (sIf (tAndX (tOf (eOp pEq (eIxV 0 (eC (.int 0))) (eC (.int 0)))) (tOf (eOp pLt (eIxV 0 (eC (.int 2))) (eLenV 0)))) (sSeq (sSet 2 (nVal (eIxV 0 (eIxV 0 (eC (.int 2))))))
    (sSeq (sAugK 0 (eC (.int 2)) (fun x y => x + y) (eC (.int 1)))
    (sIf (tOf (eOp pGe (eVar 2) (eOp pPow2 (eC (.int 10)) (eC (.int 18))))) (sStore 0 (eC (.int 0)) (eOp pSub (eVar 2) (eOp pPow2 (eC (.int 10)) (eC (.int 18))))) (sSeq (sSet 3 (nVal (eOp pMod (eCall pInt (aCons (eVar 2) aNil)) (eC (.int 2147483647)))))
    (sSeq (sSet 3 (nVal (eOp pMod (eCall pInt (aCons (eOp pAdd (eOp pAdd (eOp pMul3 (eVar 3) (eVar 3)) (eOp pMul3 (eC (.int 69621)) (eVar 3))) (eOp pMul3 (eC (.int 977)) (eIxV 0 (eC (.int 2))))) aNil)) (eC (.int 2147483629)))))
    (sStore 0 (eC (.int 1)) (eOp pMod (eCall pInt (aCons (eOp pAdd (eIxV 0 (eC (.int 1))) (eVar 3)) aNil)) (eC (.int 2147483629))))))))) sNext)
theorem tk1_eq {cs : List PyData} (h : PotOk cs) (m : Int) : ∃ cs' s2 s3, tk1 [.par cs, .val (.int m), .no, .no, .no] = some (.nx [.par cs', .val (.int m), s2, s3, .no]) ∧ PotOk cs' := by
  obtain ⟨a, b, c, r, rfl, ha, hb, hc, hr⟩ := h
  by_cases h0 : a = 0 ∧ c < r.length
  · obtain ⟨rfl, hlt⟩ := h0
    have i0 : L2.ixN (r.length + 1 + 1 + 1) 0 = some 0 := ixN_nat (i := 0) (by omega)
    have i1 : L2.ixN (r.length + 1 + 1 + 1) 1 = some 1 := ixN_nat (i := 1) (by omega)
    have i2 : L2.ixN (r.length + 1 + 1 + 1) 2 = some 2 := ixN_nat (i := 2) (by omega)
    have i3 : L2.ixN (r.length + 1 + 1 + 1) ((c : Int) + 3) = some (c + 3) := ixN_nat (i := c + 3) (by omega)
    have lt : (c : Int) + 3 < (r.length : Int) + 1 + 1 + 1 := by omega
    by_cases hg : 1000000000000000000 ≤ r[c]
    · refine ⟨.int (r[c] - 1000000000000000000) :: .int b :: .int ((c + 1 + 3 : Nat) : Int) :: r.map .int, .val (.int r[c]), .no, ?_, _, _, _, r, rfl, by omega, hb, by omega, hr⟩
      simp [tk1, i0, i1, i2, i3, lt, hlt, hg]
      omega
    · obtain ⟨x, hx⟩ : ∃ x, x = r[c] % 2147483647 := ⟨_, rfl⟩
      have hx2 : 0 ≤ x ∧ x < 2147483647 := by rw [hx]; exact ⟨Int.emod_nonneg _ (by omega), Int.emod_lt_of_pos _ (by omega)⟩
      have x64 : x.natAbs < 2 ^ 64 := by omega
      have x64' : x.natAbs < 18446744073709551616 := by omega
      refine ⟨.int 0 :: .int ((b + (x * x + 69621 * x + 977 * ((c : Int) + 3 + 1)) % 2147483629) % 2147483629) :: .int ((c + 1 + 3 : Nat) : Int) :: r.map .int, .val (.int r[c]), .val (.int ((x * x + 69621 * x + 977 * ((c : Int) + 3 + 1)) % 2147483629)), ?_, _, _, _, r, rfl, by omega, ?_, by omega, hr⟩
      · simp [tk1, i0, i1, i2, i3, lt, hlt, hg, ← hx, x64, x64']
        omega
      · constructor
        · exact Int.emod_nonneg _ (by omega)
        · have := Int.emod_lt_of_pos (b + (x * x + 69621 * x + 977 * ((c : Int) + 3 + 1)) % 2147483629) (b := 2147483629) (by omega)
          omega
  · refine ⟨_, .no, .no, ?_, a, b, c, r, rfl, ha, hb, hc, hr⟩
    have i0 : L2.ixN (r.length + 1 + 1 + 1) 0 = some 0 := ixN_nat (i := 0) (by omega)
    have i2 : L2.ixN (r.length + 1 + 1 + 1) 2 = some 2 := ixN_nat (i := 2) (by omega)
    by_cases ha0 : a = 0
    · have hn : ¬ (c : Int) + 3 < (r.length : Int) + 1 + 1 + 1 := by omega
      simp [tk1, i0, i2, ha0, hn]
    · simp [tk1, i0, i2, ha0]
theorem take_eq {cs : List PyData} (h : PotOk cs) (m : Nat) (hm : 0 < m ∧ m < 2 ^ 60) : ∃ (n : Nat) (cs' : List PyData), s_law_take cs [.int m] = some (.int n, cs') ∧ n < m ∧ PotOk cs' := by
  obtain ⟨cs1, s2, s3, e1, h1⟩ := tk1_eq h m
  obtain ⟨a, b, c, r, rfl, ha, hb, hc, hr⟩ := h1
  have i0 : L2.ixN (r.length + 1 + 1 + 1) 0 = some 0 := ixN_nat (i := 0) (by omega)
  have i1 : L2.ixN (r.length + 1 + 1 + 1) 1 = some 1 := ixN_nat (i := 1) (by omega)
  have i2 : L2.ixN (r.length + 1 + 1 + 1) 2 = some 2 := ixN_nat (i := 2) (by omega)
  have hml : m.log2 < 9000 := Nat.lt_trans (log2_small (by omega)) (by decide)
  have hm0 : 0 < m := hm.1
  by_cases h0 : 0 < a
  · have g1 : 0 ≤ a % (m : Int) := Int.emod_nonneg _ (by omega)
    have g2 : a % (m : Int) < m := Int.emod_lt_of_pos _ (by omega)
    have g3 : 0 ≤ a / (m : Int) := Int.ediv_nonneg ha (by omega)
    refine ⟨(a % (m : Int)).toNat, .int (a / (m : Int)) :: .int b :: .int ((c + 3 : Nat) : Int) :: r.map .int, ?_, by omega, _, _, _, r, rfl, g3, hb, hc, hr⟩
    have e2 : (((a % (m : Int)).toNat : Nat) : Int) = a % (m : Int) := by omega
    rw [e2]
    show (runM 5 b_law_take) _ _ = _
    unfold runM b_law_take
    rw [show envM 5 cs [.int (m : Int)] = [.par cs, .val (.int m), .no, .no, .no] from rfl]
    rw [seq_nx e1]
    simp [i0, i1, i2, h0, hm0, hml]
  · have e48 : Nat.log2 8 = 3 := by decide +kernel
    obtain ⟨x, hx⟩ : ∃ x, x = (b * 48271 + 40692 * ((c : Int) + 3) + 11) % 2147483647 := ⟨_, rfl⟩
    have hx2 : 0 ≤ x ∧ x < 2147483647 := by rw [hx]; exact ⟨Int.emod_nonneg _ (by omega), Int.emod_lt_of_pos _ (by omega)⟩
    obtain ⟨y, hy⟩ : ∃ y, y = (x * x + 7) % 2147483629 := ⟨_, rfl⟩
    have hy2 : 0 ≤ y ∧ y < 2147483629 := by rw [hy]; exact ⟨Int.emod_nonneg _ (by omega), Int.emod_lt_of_pos _ (by omega)⟩
    have x64 : x.natAbs < 18446744073709551616 := by omega
    have g1 : 0 ≤ (y / 8) % (m : Int) := Int.emod_nonneg _ (by omega)
    have g2 : (y / 8) % (m : Int) < m := Int.emod_lt_of_pos _ (by omega)
    refine ⟨((y / 8) % (m : Int)).toNat, .int a :: .int y :: .int ((c + 3 : Nat) : Int) :: r.map .int, ?_, by omega, _, _, _, r, rfl, ha, by omega, hc, hr⟩
    have e2 : ((((y / 8) % (m : Int)).toNat : Nat) : Int) = (y / 8) % (m : Int) := by omega
    rw [e2]
    show (runM 5 b_law_take) _ _ = _
    unfold runM b_law_take
    rw [show envM 5 cs [.int (m : Int)] = [.par cs, .val (.int m), .no, .no, .no] from rfl]
    rw [seq_nx e1]
    simp [i0, i1, i2, h0, hm0, e48, ← hx, x64, ← hy]
/-! ### same -/
inductive Nest : Nat → PyData → Prop
  | non (n : Nat) : Nest (n + 1) .none
  | int (n : Nat) (i : Int) : Nest (n + 1) (.int i)
  | bool (n : Nat) (b : Bool) : Nest (n + 1) (.bool b)
  | tup (n : Nat) (xs : List PyData) : (∀ x ∈ xs, Nest n x) → xs.length ≤ 1000 → Nest (n + 1) (.tuple xs)
  | lst (n : Nat) (xs : List PyData) : (∀ x ∈ xs, Nest n x) → xs.length ≤ 1000 → Nest (n + 1) (.list xs)
theorem tt_eq : pEq (.list [.bool true, .bool true]) (.list [.bool true, .bool true]) = some (.bool true) := by rfl
theorem isi3_none : pIsi3 "bool" "int" "str" .none = some (.bool false) := by
  simp only [isi3_d, isiD, tyD, kit_none_bool, kit_none_int, kit_none_str]; rfl
theorem isi3_int (i : Int) : pIsi3 "bool" "int" "str" (.int i) = some (.bool true) := by
  simp only [isi3_d, isiD, tyD, kit_int_bool, kit_int_int, kit_int_str]; rfl
theorem isi3_bool (b : Bool) : pIsi3 "bool" "int" "str" (.bool b) = some (.bool true) := by
  simp only [isi3_d, isiD, tyD, kit_bool_bool, kit_bool_int, kit_bool_str]; rfl
theorem isi3_tup (xs : List PyData) : pIsi3 "bool" "int" "str" (.tuple xs) = some (.bool false) := by
  simp only [isi3_d, isiD, tyD, kit_tuple_bool, kit_tuple_int, kit_tuple_str]; rfl
theorem isi3_lst (xs : List PyData) : pIsi3 "bool" "int" "str" (.list xs) = some (.bool false) := by
  simp only [isi3_d, isiD, tyD, kit_list_bool, kit_list_int, kit_list_str]; rfl
theorem all_true (n : Nat) : boolsOf (List.replicate n (.bool true)) = some (List.replicate n true) := by
  have := boolsOf_map (List.replicate n true)
  simpa using this
theorem same_eq : ∀ {n : Nat} {d : PyData}, Nest n d → s_law_same n [d, d] = some (.bool true) := by
  intro n d h
  induction h with
  | non n => simp [-isi3_d, s_law_same, runP, b_law_same, envOf, isNone]
  | int n i => simp [-isi3_d, s_law_same, runP, b_law_same, envOf, isNone, isi3_int, tt_eq]
  | bool n b => simp [-isi3_d, s_law_same, runP, b_law_same, envOf, isNone, isi3_bool, tt_eq]
  | tup n xs hx hl ih =>
    have hr := rangeN xs.length (by omega)
    have lc := nLc_intsM (it := itRange (aCons (eLenV 1) aNil)) (f := eCall (s_law_same n) (aCons (eIxV 0 (eVar 3)) (aCons (eIxV 1 (eVar 3)) aNil))) (i := 3) (Γ := [.val (.tuple xs), .val (.tuple xs), .no, .no]) (rgI 0 1 xs.length) (fun _ => .bool true) (by simp [hr]) rfl (fun x hx' => by
      obtain ⟨k, rfl⟩ : ∃ k : Nat, x = k := ⟨x.toNat, by have := Om.mem_rg.mp hx'; omega⟩
      have hk : k < xs.length := by have := Om.mem_rg.mp hx'; omega
      have hs := ih xs[k] (List.getElem_mem hk)
      simp [ixN_nat hk, hk, hs]) (by rw [Om.rg_len]; omega)
    have e : (rgI 0 1 xs.length).map (fun _ => PyData.bool true) = List.replicate xs.length (.bool true) := by
      rw [List.map_const', Om.rg_len]
    rw [e] at lc
    simp [-isi3_d, s_law_same, runP, b_law_same, envOf, isNone, isi3_tup, lc, all_true]
  | lst n xs hx hl ih =>
    have hr := rangeN xs.length (by omega)
    have lc := nLc_intsM (it := itRange (aCons (eLenV 1) aNil)) (f := eCall (s_law_same n) (aCons (eIxV 0 (eVar 3)) (aCons (eIxV 1 (eVar 3)) aNil))) (i := 3) (Γ := [.val (.list xs), .val (.list xs), .no, .no]) (rgI 0 1 xs.length) (fun _ => .bool true) (by simp [hr]) rfl (fun x hx' => by
      obtain ⟨k, rfl⟩ : ∃ k : Nat, x = k := ⟨x.toNat, by have := Om.mem_rg.mp hx'; omega⟩
      have hk : k < xs.length := by have := Om.mem_rg.mp hx'; omega
      have hs := ih xs[k] (List.getElem_mem hk)
      simp [ixN_nat hk, hk, hs]) (by rw [Om.rg_len]; omega)
    have e : (rgI 0 1 xs.length).map (fun _ => PyData.bool true) = List.replicate xs.length (.bool true) := by
      rw [List.map_const', Om.rg_len]
    rw [e] at lc
    simp [-isi3_d, s_law_same, runP, b_law_same, envOf, isNone, isi3_lst, lc, all_true]
theorem nest_T (n : Nat) (o : List Int) (h : o.length ≤ 1000) : Nest (n + 2) (T o) :=
  .tup _ _ (fun x hx => by obtain ⟨i, _, rfl⟩ := List.mem_map.mp hx; exact .int _ _) (by simpa using h)
/-! ### orders -/
theorem is_integer_int (i : Int) : s_is_integer [.int i] = some (.bool true) := by
  simp [s_is_integer, runP, b_is_integer, envOf]
theorem are_integers_ints (o : List Int) : s_are_integers [T o] = some (.bool true) := by
  obtain ⟨Γ', h1, h2⟩ := forLoop_ints (g := gxName 1) (b := sIf (tNotX (tTruX (eCall s_is_integer (aCons (eVar 1) aNil)))) (sRet (eC (.bool false))) sNext) (fun _ Γ => ∃ s, Γ = [.val (T o), s]) o
    (fun pre x post Γ e ⟨s, hs⟩ => by subst hs; exact ⟨_, _, rfl, .inl (by simp [is_integer_int]; rfl), ⟨_, rfl⟩⟩) (Γ := [.val (T o), .no]) ⟨_, rfl⟩
  simp [s_are_integers, runP, b_are_integers, envOf, h1]
theorem is_order_ints (o : List Int) (h : o.length ≤ 1000) : s_is_order [T o] = some (.bool (decide (srt o = rgI 1 1 o.length))) := by
  have hr := rangeS o.length (by omega)
  simp [s_is_order, runP, b_is_order, envOf, are_integers_ints, z_sort2T, hr, z_eqL]
theorem is_order_ok {o : List Int} (h : o.length ≤ 1000) (k : Om.IsR 1 o) : s_is_order [T o] = some (.bool true) := by
  rw [is_order_ints o h, decide_eq_true (Om.srt_iff.mpr k)]
/-! ### the law's own orders -/
theorem order_eq {cs : List PyData} (h : PotOk cs) (n : Nat) (hn : n ≤ 100) : ∃ o cs', s_law_order cs [.int n] = some (T o, cs') ∧ PotOk cs' ∧ Om.IsR 1 o ∧ o.length = n := by
  have hr := rangeN n (by omega)
  obtain ⟨Γ', h1, cs', o, s3, s4, hΓ, hp, ho, hl⟩ := forLoop_ints (g := gxName 3) (b := (sSeq (sSet 4 (nVal (eCallM 0 s_law_take (aCons (eOp pAdd (eVar 3) (eC (.int 1))) aNil))))
    (sSet 2 (nVal (eOp pAdd (eOp pAdd (eSl pSl (eVar 2) oNone (oSome (eVar 4))) (eTup (aCons (eOp pAdd (eVar 3) (eC (.int 1))) aNil))) (eSl pSl (eVar 2) (oSome (eVar 4)) oNone))))))
    (fun pre Γ => ∃ cs' o s3 s4, Γ = [.par cs', .val (.int n), .val (T o), s3, s4] ∧ PotOk cs' ∧ Om.IsR 1 o ∧ o.length = pre.length) (rgI 0 1 n)
    (fun pre x post Γ e ⟨cs', o, s3, s4, hΓ, hp, ho, hl⟩ => by
      obtain ⟨hx, _, hi⟩ := rg_split e
      obtain rfl : x = (pre.length : Int) := by omega
      subst hΓ
      obtain ⟨p, cs2, t1, t2, t3⟩ := take_eq hp (pre.length + 1) (by omega)
      have t1' : s_law_take cs' [.int ((pre.length : Int) + 1)] = some (.int p, cs2) := t1
      have hpl : p ≤ o.length := by omega
      refine ⟨_, [.par cs2, .val (.int n), .val (T (o.take p ++ ((pre.length : Int) + 1) :: o.drop p)), .val (.int pre.length), .val (.int p)], rfl, .inl ?_, cs2, _, _, _, rfl, t3, ?_, by simp [hl]; omega⟩
      · have m1 : min p o.length = p := Nat.min_eq_left hpl
        have c1 : p + 1 ≤ 100000 := by omega
        have c2 : p + (o.length - p + 1) ≤ 100000 := by omega
        have c3 : p + 1 + (o.length - p) ≤ 100000 := by omega
        simp [t1', cut_to, cut_from, m1, c1, c2, c3]
      · have q : Om.IsR (1 + (o.length : Int)) [(pre.length : Int) + 1] := by
          have : (pre.length : Int) + 1 = 1 + (o.length : Int) := by omega
          rw [this]
          show List.Perm _ _
          have : rgI (1 + (o.length : Int)) 1 1 = [1 + (o.length : Int)] := by rw [Om.rg_succ]; rfl
          simp only [List.length_singleton]
          rw [this]
        have := ho.append q
        refine this.perm ?_
        have e : o ++ [(pre.length : Int) + 1] = o.take p ++ (o.drop p ++ [(pre.length : Int) + 1]) := by
          rw [← List.append_assoc, List.take_append_drop]
        rw [e]
        exact (List.perm_append_comm (l₁ := [_]) (l₂ := o.drop p)).append_left _)
    (Γ := [.par cs, .val (.int n), .val (T []), .no, .no]) ⟨cs, [], _, _, rfl, h, Om.isR_nil 1, rfl⟩
  subst hΓ
  rw [Om.rg_len] at hl
  refine ⟨o, cs', ?_, hp, ho, hl⟩
  have h1' := h1
  simp only [T, List.map_nil] at h1'
  simp [-z_par0, -z_for, s_law_order, runM, b_law_order, envM]
  rw [z_for]
  simp [hr, h1']
theorem check_ok {o : List Int} (h : o.length ≤ 1000) (k : Om.IsR 1 o) : s_check_order [T o] = some .none := by
  simp [s_check_order, runP, b_check_order, envOf, is_order_ok h k]
end Law
set_option Elab.async false
set_option linter.all false
set_option maxRecDepth 100000
set_option maxHeartbeats 4000000
namespace Law
open PySem Z
open Mt (Pl3 Fnd lastOr startOf)
/-! ### plan_of -/
abbrev pl1 : SX := (sSet 5 (nVal (eCall pMax1S (aCons (nOwn (nLc (itSeq (eVar 1)) (gxName 10) (tOf (eOp pLt (eVar 10) (eVar 4))) (eVar 10) [10])) aNil))))
abbrev pl2 : SX := (sSet 6 (nVal (eCall pMin1 (aCons (nOwn (nLc (itSeq (eVar 1)) (gxName 10) (tOf (eOp pGt (eVar 10) (eVar 4))) (eVar 10) [10])) aNil))))
abbrev pl3 : SX := (sSet 7 (nVal (eOp pAdd (eVar 1) (eLst (aCons (eVar 4) aNil)))))
abbrev pl4 : SX := (sSet 8 (nCallD s_next_to (aCons (eVar 7) (aCons (eSl pSl (eVar 0) (oSome (eOp pAdd (eVar 3) (eC (.int 1)))) oNone) aNil))))
abbrev pl5 : SX := (sSet 9 (nLc (itEnum (eVar 7)) (gxTup 2 (gxCons (gxName 11) (gxCons (gxName 10) gxNil))) (tDin 8 (eVar 10)) (eVar 11) [11, 10]))
abbrev pl6 : SX := (sApp 2 (eTup (aCons (eOp pIndexL (eVar 1) (eVar 5)) (aCons (eOp pIndexL (eVar 1) (eVar 6)) (aCons (eVar 9) aNil)))))
abbrev pl7 : SX := (sSet 1 (nLc (itSeq (eVar 9)) (gxName 11) tYesX (eIxV 7 (eVar 11)) [11]))
theorem b_plan_eq : b_plan_of = (sSeq (sSet 1 (nVal (eLst (aCons (eC (.int 0)) (aCons (eOp pAdd (eLenV 0) (eC (.int 1))) aNil)))))
    (sSeq (sSet 2 (nLst aNil))
    (sSeq (sFor (itEnum (eVar 0)) (gxTup 2 (gxCons (gxName 3) (gxCons (gxName 4) gxNil))) (sSeq pl1 (sSeq pl2 (sSeq pl3 (sSeq pl4 (sSeq pl5 (sSeq pl6 pl7)))))))
    (sRet (eVar 2))))) := rfl
/-- the held list as a value, or as one's own -/
def HeldS (hn : List Int) (s : Slot) : Prop := s = .val (.list (hn.map .int)) ∨ s = .own (hn.map .int)
abbrev LI (hn : List Int) : PyData := .list (hn.map .int)
section
variable {q hn : List Int} {pls : List PyData} {k e : Int} {s5 s6 s7 s8 s9 s : Slot}
theorem p1 (hs : HeldS hn s) (h0 : lo hn e ≠ []) (hl : hn.length ≤ 50000) : pl1 [.val (T q), s, .own pls, .val (.int k), .val (.int e), s5, s6, s7, s8, s9, .no, .no] = some (.nx [.val (T q), .val (LI hn), .own pls, .val (.int k), .val (.int e), .val (.int (maxI (lo hn e))), s6, s7, s8, s9, .no, .no]) := by
  have e3 : nLc (itSeq (eVar 1)) (gxName 10) (tOf (eOp pLt (eVar 10) (eVar 4))) (eVar 10) [10] [.val (T q), .val (LI hn), .own pls, .val (.int k), .val (.int e), s5, s6, s7, s8, s9, .no, .no] = some (.own ((lo hn e).map .int), [.val (T q), .val (LI hn), .own pls, .val (.int k), .val (.int e), s5, s6, s7, s8, s9, .no, .no]) := by
    refine nLc_any hn .int (fun x => [.val (T q), .val (LI hn), .own pls, .val (.int k), .val (.int e), s5, s6, s7, s8, s9, .val (.int x), .no]) (fun x => decide (x < e)) .int (by simp [seqOf]) (by rfl) (fun x hx => ⟨rfl, by simp [pLt, pCmp], fun _ => by simp, rfl⟩) (by omega)
  have e2 : nLc (itSeq (eVar 1)) (gxName 10) (tOf (eOp pLt (eVar 10) (eVar 4))) (eVar 10) [10] [.val (T q), s, .own pls, .val (.int k), .val (.int e), s5, s6, s7, s8, s9, .no, .no] = some (.own ((lo hn e).map .int), [.val (T q), .val (LI hn), .own pls, .val (.int k), .val (.int e), s5, s6, s7, s8, s9, .no, .no]) := by
    rcases hs with rfl | rfl
    · exact e3
    · rw [← e3]; rfl
  have : pMax1S [.list ((lo hn e).map .int)] = some (.int (maxI (lo hn e))) := by
    show (intsOf _).bind _ = _
    rw [intsOf_map]
    show (if _ = 0 then none else _) = _
    rw [if_neg (by simpa using h0)]
  simp [e2, this]
theorem p2 (h0 : hi hn e ≠ []) (hl : hn.length ≤ 50000) : pl2 [.val (T q), .val (LI hn), .own pls, .val (.int k), .val (.int e), s5, s6, s7, s8, s9, .no, .no] = some (.nx [.val (T q), .val (LI hn), .own pls, .val (.int k), .val (.int e), s5, .val (.int (minI (hi hn e))), s7, s8, s9, .no, .no]) := by
  have e3 : nLc (itSeq (eVar 1)) (gxName 10) (tOf (eOp pGt (eVar 10) (eVar 4))) (eVar 10) [10] [.val (T q), .val (LI hn), .own pls, .val (.int k), .val (.int e), s5, s6, s7, s8, s9, .no, .no] = some (.own ((hi hn e).map .int), [.val (T q), .val (LI hn), .own pls, .val (.int k), .val (.int e), s5, s6, s7, s8, s9, .no, .no]) := by
    refine nLc_any hn .int (fun x => [.val (T q), .val (LI hn), .own pls, .val (.int k), .val (.int e), s5, s6, s7, s8, s9, .val (.int x), .no]) (fun x => decide (x > e)) .int (by simp [seqOf]) (by rfl) (fun x hx => ⟨rfl, by simp [pGt, pCmp], fun _ => by simp, rfl⟩) (by omega)
  have : pMin1 [.list ((hi hn e).map .int)] = some (.int (minI (hi hn e))) := by
    show (intsOf _).bind _ = _
    rw [intsOf_map]
    show (if _ = 0 then none else _) = _
    rw [if_neg (by simpa using h0)]
  simp [e3, this]
theorem p3 (hl : hn.length ≤ 50000) : pl3 [.val (T q), .val (LI hn), .own pls, .val (.int k), .val (.int e), s5, s6, s7, s8, s9, .no, .no] = some (.nx [.val (T q), .val (LI hn), .own pls, .val (.int k), .val (.int e), s5, s6, .val (LI (hn ++ [e])), s8, s9, .no, .no]) := by
  have : hn.length + 1 ≤ 100000 := by omega
  simp [this]
theorem p4 {k : Nat} {es grown : List Int} {kvs : List (L2.Key × PyData)} (hk : q.drop (k + 1) = es) (hkl : k < q.length) (h : nextTo grown es [] = some kvs) : pl4 [.val (T q), .val (LI hn), .own pls, .val (.int k), .val (.int e), s5, s6, .val (LI grown), s8, s9, .no, .no] = some (.nx [.val (T q), .val (LI hn), .own pls, .val (.int k), .val (.int e), s5, s6, .val (LI grown), .dic kvs, s9, .no, .no]) := by
  have e1 : s_next_to [LI grown, T es] = some kvs := by
    show (intsOf _).bind _ = _
    rw [intsOf_map]
    show (intsOf _).bind _ = _
    rw [intsOf_map]; exact h
  have e2 : cutD (q.map .int) (some ((k : Int) + 1)) none = es.map .int := by
    have := cut_from (q.map .int) (k + 1)
    rw [show ((k : Int) + 1) = ((k + 1 : Nat) : Int) by omega, this, ← List.map_drop, hk]
  have e3 : (eSl pSl (eVar 0) (oSome (eOp pAdd (eVar 3) (eC (.int 1)))) oNone) [.val (T q), .val (LI hn), .own pls, .val (.int k), .val (.int e), s5, s6, .val (LI grown), s8, s9, .no, .no] = some (T es, [.val (T q), .val (LI hn), .own pls, .val (.int k), .val (.int e), s5, s6, .val (LI grown), s8, s9, .no, .no]) := by
    simp [e2]
  have e4 : (nCallD s_next_to (aCons (eVar 7) (aCons (eSl pSl (eVar 0) (oSome (eOp pAdd (eVar 3) (eC (.int 1)))) oNone) aNil))) [.val (T q), .val (LI hn), .own pls, .val (.int k), .val (.int e), s5, s6, .val (LI grown), s8, s9, .no, .no] = some (.dic kvs, [.val (T q), .val (LI hn), .own pls, .val (.int k), .val (.int e), s5, s6, .val (LI grown), s8, s9, .no, .no]) := by
    have e5 : (aCons (eVar 7) (aCons (eSl pSl (eVar 0) (oSome (eOp pAdd (eVar 3) (eC (.int 1)))) oNone) aNil)) [.val (T q), .val (LI hn), .own pls, .val (.int k), .val (.int e), s5, s6, .val (LI grown), s8, s9, .no, .no] = some ([LI grown, T es], [.val (T q), .val (LI hn), .own pls, .val (.int k), .val (.int e), s5, s6, .val (LI grown), s8, s9, .no, .no]) := by
      simp [e2]
    unfold nCallD
    rw [e5]
    show (s_next_to [LI grown, T es]).bind _ = _
    rw [e1]; rfl
  unfold pl4 sSet
  rw [e4]; rfl
theorem enum_range (l : List Int) : ∀ k : Nat, enumFrom k (l.map .int) = (List.range l.length).map fun (i : Nat) => .tuple [.int ((k + i : Nat) : Int), .int (l.getD i 0)] := by
  induction l with
  | nil => intro k; rfl
  | cons x l ih =>
    intro k
    rw [List.map_cons, List.length_cons, List.range_succ_eq_map, List.map_cons, List.map_map]
    show PyData.tuple [.int k, .int x] :: enumFrom (k + 1) (l.map .int) = _
    rw [ih (k + 1)]
    congr 1
    refine List.map_congr_left fun i _ => ?_
    simp only [Function.comp]
    congr 3
    omega
theorem p5 {grown : List Int} {kvs : List (L2.Key × PyData)} (hl : grown.length ≤ 50000) : pl5 [.val (T q), .val (LI hn), .own pls, .val (.int k), .val (.int e), s5, s6, .val (LI grown), .dic kvs, s9, .no, .no] = some (.nx [.val (T q), .val (LI hn), .own pls, .val (.int k), .val (.int e), s5, s6, .val (LI grown), .dic kvs, .own ((keptOf grown kvs).map .int), .no, .no]) := by
  have e1 : nLc (itEnum (eVar 7)) (gxTup 2 (gxCons (gxName 11) (gxCons (gxName 10) gxNil))) (tDin 8 (eVar 10)) (eVar 11) [11, 10] [.val (T q), .val (LI hn), .own pls, .val (.int k), .val (.int e), s5, s6, .val (LI grown), .dic kvs, s9, .no, .no] =
      some (.own (((List.range grown.length).filter fun i => (getP kvs (.inl (grown.getD i 0))).isSome).map fun (i : Nat) => .int (i : Int)), [.val (T q), .val (LI hn), .own pls, .val (.int k), .val (.int e), s5, s6, .val (LI grown), .dic kvs, s9, .no, .no]) := by
    refine nLc_any (List.range grown.length) (fun (i : Nat) => .tuple [.int ((0 + i : Nat) : Int), .int (grown.getD i 0)]) (fun (i : Nat) => [.val (T q), .val (LI hn), .own pls, .val (.int k), .val (.int e), s5, s6, .val (LI grown), .dic kvs, s9, .val (.int (grown.getD i 0)), .val (.int (i : Int))]) (fun i => (getP kvs (.inl (grown.getD i 0))).isSome) (fun (i : Nat) => .int (i : Int)) ?_ (by rfl) (fun i hi => ⟨?_, rfl, fun _ => rfl, rfl⟩) (by rw [List.length_range]; omega)
    · rw [← enum_range grown 0]; rfl
    · rw [Nat.zero_add]; rfl
  unfold pl5 sSet
  rw [e1]
  unfold keptOf
  rw [List.map_map]; rfl
theorem p6 {bl ab : Int} {kept : List Int} (h1 : bl ∈ hn) (h2 : ab ∈ hn) (hl : pls.length < 100000) : pl6 [.val (T q), .val (LI hn), .own pls, .val (.int k), .val (.int e), .val (.int bl), .val (.int ab), s7, s8, .own (kept.map .int), .no, .no] = some (.nx [.val (T q), .val (LI hn), .own (pls ++ [plD ((hn.idxOf bl : Nat), (hn.idxOf ab : Nat), kept)]), .val (.int k), .val (.int e), .val (.int bl), .val (.int ab), s7, s8, .val (LI kept), .no, .no]) := by
  simp [h1, h2, hl, plD]
theorem p7 {grown : List Int} {kvs : List (L2.Key × PyData)} (hl : grown.length ≤ 50000) : pl7 [.val (T q), s, .own pls, .val (.int k), .val (.int e), s5, s6, .val (LI grown), s8, .val (LI (keptOf grown kvs)), .no, .no] = some (.nx [.val (T q), .own ((nextHeld grown kvs).map .int), .own pls, .val (.int k), .val (.int e), s5, s6, .val (LI grown), s8, .val (LI (keptOf grown kvs)), .no, .no]) := by
  have hk : ∀ x ∈ keptOf grown kvs, ∃ y, Mt.ixI grown x = some y := fun x hx => by
    unfold keptOf at hx
    obtain ⟨i, hi, rfl⟩ := List.mem_map.mp hx
    have := List.mem_range.mp (List.mem_filter.mp hi).1
    exact Mt.ixI_ok (by omega) (by omega)
  have hlen : (keptOf grown kvs).length ≤ 100000 := by
    unfold keptOf
    rw [List.length_map]
    have := List.length_filter_le (fun i => (getP kvs (.inl (grown.getD i 0))).isSome) (List.range grown.length)
    rw [List.length_range] at this
    omega
  have e1 : nLc (itSeq (eVar 9)) (gxName 11) tYesX (eIxV 7 (eVar 11)) [11] [.val (T q), s, .own pls, .val (.int k), .val (.int e), s5, s6, .val (LI grown), s8, .val (LI (keptOf grown kvs)), .no, .no] =
      some (.own (((keptOf grown kvs).filter fun _ => true).map fun x => .int ((Mt.ixI grown x).getD 0)), [.val (T q), s, .own pls, .val (.int k), .val (.int e), s5, s6, .val (LI grown), s8, .val (LI (keptOf grown kvs)), .no, .no]) := by
    refine nLc_any (keptOf grown kvs) .int (fun x => [.val (T q), s, .own pls, .val (.int k), .val (.int e), s5, s6, .val (LI grown), s8, .val (LI (keptOf grown kvs)), .no, .val (.int x)]) (fun _ => true) (fun x => .int ((Mt.ixI grown x).getD 0)) (by simp [seqOf]) (by rfl) (fun x hx => ⟨rfl, rfl, fun _ => ?_, rfl⟩) hlen
    obtain ⟨y, hy⟩ := hk x hx
    have hy2 := hy
    rw [← ixI_eq] at hy
    obtain ⟨j, g1, g2⟩ := bind_eq hy
    simp [g1, g2, hy2]
  unfold pl7 sSet
  rw [e1, List.filter_eq_self.mpr (fun _ _ => rfl), ← kept_held, List.map_map]; rfl
end
theorem plan_loop (q : List Int) (hq : q.length ≤ 900) : ∀ (es : List Int) (k : Nat) (hn : List Int) (pls : List Pl3) (s s3 s4 s5 s6 s7 s8 s9 : Slot), q.drop k = es → k + es.length = q.length → HeldS hn s → Bet hn es → hn.length ≤ 2 + k → pls.length = k →
    ∃ Γ', forLoop (gxTup 2 (gxCons (gxName 3) (gxCons (gxName 4) gxNil))) (sSeq pl1 (sSeq pl2 (sSeq pl3 (sSeq pl4 (sSeq pl5 (sSeq pl6 pl7)))))) (enumFrom k (es.map .int)) [.val (T q), s, .own (pls.map plD), s3, s4, s5, s6, s7, s8, s9, .no, .no] = some (.nx Γ') ∧ Γ'[2]? = some (.own ((pls ++ planFrom hn es).map plD))
  | [], k, hn, pls, s, s3, s4, s5, s6, s7, s8, s9, _, _, _, _, _, _ => ⟨_, rfl, by simp [planFrom]⟩
  | e :: es, k, hn, pls, s, s3, s4, s5, s6, s7, s8, s9, hd, hkl, hs, hb, hh, hp => by
    simp only [List.length_cons] at hkl
    have hd' : q.drop (k + 1) = es := by rw [← List.drop_drop, hd]; rfl
    have hb' : Bet hn es := fun c hc => hb c (List.mem_cons_of_mem _ hc)
    have hg := bet_app (e := e) hb'
    have hgl : (hn ++ [e]).length ≤ 50000 := by simp; omega
    obtain ⟨kvs, k1, k2⟩ := next_ok hgl (kvs := []) hg (by simp; omega)
    obtain ⟨h1, h2⟩ := hb e List.mem_cons_self
    obtain ⟨a1, a2, a3⟩ := lo_spec h1
    obtain ⟨b1, b2, b3⟩ := hi_spec h2
    have hnl : (nextHeld (hn ++ [e]) kvs).length ≤ hn.length + 1 := by
      have := List.length_filter_le (fun x => (getP kvs (.inl x)).isSome) (hn ++ [e])
      unfold nextHeld
      simp at this ⊢; omega
    obtain ⟨Γ', g1, g2⟩ := plan_loop q hq es (k + 1) (nextHeld (hn ++ [e]) kvs) (pls ++ [(((hn.idxOf (maxI (lo hn e)) : Nat) : Int), ((hn.idxOf (minI (hi hn e)) : Nat) : Int), keptOf (hn ++ [e]) kvs)]) (.own ((nextHeld (hn ++ [e]) kvs).map .int)) (.val (.int k)) (.val (.int e)) (.val (.int (maxI (lo hn e)))) (.val (.int (minI (hi hn e)))) (.val (LI (hn ++ [e]))) (.dic kvs) (.val (LI (keptOf (hn ++ [e]) kvs)))
      hd' (by omega) (.inr rfl) (bet_next hg k2) (by omega) (by simp [hp])
    refine ⟨Γ', ?_, ?_⟩
    · rw [← g1]
      show forLoop _ _ (.tuple [.int k, .int e] :: enumFrom (k + 1) (es.map .int)) _ = _
      have hbody : (sSeq pl1 (sSeq pl2 (sSeq pl3 (sSeq pl4 (sSeq pl5 (sSeq pl6 pl7)))))) [.val (T q), s, .own (pls.map plD), .val (.int k), .val (.int e), s5, s6, s7, s8, s9, .no, .no] = some (.nx [.val (T q), .own ((nextHeld (hn ++ [e]) kvs).map .int), .own ((pls ++ [(((hn.idxOf (maxI (lo hn e)) : Nat) : Int), ((hn.idxOf (minI (hi hn e)) : Nat) : Int), keptOf (hn ++ [e]) kvs)]).map plD), .val (.int k), .val (.int e), .val (.int (maxI (lo hn e))), .val (.int (minI (hi hn e))), .val (LI (hn ++ [e])), .dic kvs, .val (LI (keptOf (hn ++ [e]) kvs)), .no, .no]) := by
        rw [seq_nx (p1 hs h1 (by omega)), seq_nx (p2 h2 (by omega)), seq_nx (p3 (by omega)), seq_nx (p4 hd' (by omega) k1), seq_nx (p5 hgl), seq_nx (p6 a1 b1 (by simp; omega)), p7 hgl, List.map_append]
        rfl
      exact forLoop_cons rfl hbody
    · rw [g2, planFrom, k1, List.append_assoc]; rfl
theorem plan_eq {q : List Int} (hq : q.length ≤ 900) (hb : Bet [0, (q.length : Int) + 1] q) : s_plan_of [T q] = some (.list ((planFrom [0, (q.length : Int) + 1] q).map plD)) := by
  obtain ⟨Γ', h1, h2⟩ := plan_loop q hq q 0 [0, (q.length : Int) + 1] [] (.val (LI [0, (q.length : Int) + 1])) .no .no .no .no .no .no .no rfl (by simp) (.inl rfl) hb (by simp) rfl
  rw [List.nil_append] at h2
  have e1 : (sFor (itEnum (eVar 0)) (gxTup 2 (gxCons (gxName 3) (gxCons (gxName 4) gxNil))) (sSeq pl1 (sSeq pl2 (sSeq pl3 (sSeq pl4 (sSeq pl5 (sSeq pl6 pl7))))))) [.val (T q), .val (LI [0, (q.length : Int) + 1]), .own [], .no, .no, .no, .no, .no, .no, .no, .no, .no] = some (.nx Γ') := by
    rw [← h1]; rfl
  have e2 : (sRet (eVar 2)) Γ' = some (.rt (.list ((planFrom [0, (q.length : Int) + 1] q).map plD)) (Γ'.set 2 (.val (.list ((planFrom [0, (q.length : Int) + 1] q).map plD))))) := by
    unfold sRet eVar
    rw [h2]; rfl
  show (b_plan_of (envOf 12 [T q])).bind _ = _
  rw [b_plan_eq]
  have e3 : (sSet 1 (nVal (eLst (aCons (eC (.int 0)) (aCons (eOp pAdd (eLenV 0) (eC (.int 1))) aNil))))) (envOf 12 [T q]) = some (.nx [.val (T q), .val (LI [0, (q.length : Int) + 1]), .no, .no, .no, .no, .no, .no, .no, .no, .no, .no]) := by simp [envOf]
  have e4 : (sSet 2 (nLst aNil)) [.val (T q), .val (LI [0, (q.length : Int) + 1]), .no, .no, .no, .no, .no, .no, .no, .no, .no, .no] = some (.nx [.val (T q), .val (LI [0, (q.length : Int) + 1]), .own [], .no, .no, .no, .no, .no, .no, .no, .no, .no]) := by simp
  rw [seq_nx e3, seq_nx e4, seq_nx e1, e2]; rfl
end Law
set_option Elab.async false
set_option linter.all false
set_option maxRecDepth 100000
set_option maxHeartbeats 400000
namespace Law
open PySem Z Sw
theorem forLoop_map {α : Type} {g : PyData → Z.Env → Option Z.Env} {b : SX} (d : α → PyData) (I : List α → Z.Env → Prop) (xs : List α)
    (step : ∀ pre x post Γ, xs = pre ++ x :: post → I pre Γ → ∃ Γ1 Γ2, g (d x) Γ = some Γ1 ∧ (b Γ1 = some (.nx Γ2) ∨ b Γ1 = some (.ct Γ2)) ∧ I (pre ++ [x]) Γ2) {Γ : Z.Env} (h0 : I [] Γ) :
    ∃ Γ', forLoop g b (xs.map d) Γ = some (.nx Γ') ∧ I xs Γ' := by
  have all : ∀ (post pre : List α) (Γ : Z.Env), xs = pre ++ post → I pre Γ → ∃ Γ', forLoop g b (post.map d) Γ = some (.nx Γ') ∧ I xs Γ' := by
    intro post
    induction post with
    | nil => intro pre Γ e h; rw [List.append_nil] at e; subst e; exact ⟨Γ, rfl, h⟩
    | cons x post ih =>
      intro pre Γ e h
      obtain ⟨Γ1, Γ2, h1, h2, h3⟩ := step pre x post Γ e h
      obtain ⟨Γ', g1, g2⟩ := ih (pre ++ [x]) Γ2 (by rw [e]; simp) h3
      refine ⟨Γ', ?_, g2⟩
      rw [List.map_cons]
      unfold forLoop
      rw [h1]
      rcases h2 with h2 | h2 <;> simp only [Option.bind_some, h2, g1]
  exact all xs [] Γ rfl h0
theorem pattern_is {q : List Int} (hq : q.length ≤ 1000) (kq : Om.IsR 1 q) (h1 : 1 ≤ q.length) : s_is_pattern [T q] = some (.bool true) := by
  have h2 := is_order_ok hq kq
  have h3' : (0 : Int) < q.length := by omega
  have h3 : 0 < q.length := by omega
  simp [s_is_pattern, runP, b_is_pattern, envOf, h2, h3, h3', pGt, pCmp]
theorem show_eq {o q : List Int} (ho : o.length ≤ 16) (hq : q.length ≤ 16) (kq : Om.IsR 1 q) (h1 : 1 ≤ q.length) : s_does_show [T o, T q] = some (.bool (sh o q)) := by
  have hne : q ≠ [] := fun z => by rw [z] at h1; simp at h1
  have h3 := placings_by_eq ho hq kq hne 1 (.inr (by omega))
  have h4 := plan_eq (q := q) (by omega) (bet_order kq)
  have h5 : pEq (.int ((Mt.cut 1 0 (waysOf o q)).length : Int)) (.int 1) = some (.bool (sh o q)) := by
    unfold Mt.cut sh
    rw [if_neg (by omega)]
    cases waysOf o q with
    | nil => rfl
    | cons x l => simp
  generalize Mt.cut 1 0 (waysOf o q) = W at *
  generalize sh o q = b at *
  generalize T o = d at *
  generalize T q = e at *
  generalize PyData.list ((planFrom [0, (q.length : Int) + 1] q).map plD) = pl at *
  have h6 : s_placings [d, e, .int 1] = some (.list (TT W)) := by
    simp [s_placings, runP, b_placings, envOf, h4, h3]
  have h7 : pLen [.list (TT W)] = some (.int (W.length : Int)) := by simp
  generalize TT W = Wd at *
  simp only [s_does_show, runP, b_does_show, envOf]
  simp [-z_plenL, h6, h7, h5]
abbrev dlB : SX := sIf (tTruX (eCall s_does_show (aCons (eVar 1) (aCons (eVar 2) aNil)))) (sRet (eC (.bool false))) sNext
theorem dl_loop {d : PyData} {o : List Int} (ho : o.length ≤ 16) : ∀ (L : List (List Int)) (s : Slot), Pats 16 L → ∃ Γ', forLoop (gxName 2) dlB (TT L) [.val d, .val (T o), s] = some (if lets L o then .nx Γ' else .rt (.bool false) Γ')
  | [], s, _ => ⟨_, rfl⟩
  | q :: L, s, h => by
    obtain ⟨k1, k2, k3⟩ := h q List.mem_cons_self
    have e1 := show_eq ho k3 k1 k2
    have e2 : (eCall s_does_show (aCons (eVar 1) (aCons (eVar 2) aNil))) [.val d, .val (T o), .val (T q)] = some (.bool (sh o q), [.val d, .val (T o), .val (T q)]) := call2_eq rfl rfl e1
    have e3 : lets (q :: L) o = (!sh o q && lets L o) := rfl
    show ∃ Γ', forLoop (gxName 2) dlB (T q :: TT L) [.val d, .val (T o), s] = _
    cases e : sh o q with
    | true =>
      rw [e] at e2 e3
      have e4 : dlB [.val d, .val (T o), .val (T q)] = some (.rt (.bool false) [.val d, .val (T o), .val (T q)]) := ifyes_eq (tru_eq e2)
      refine ⟨[.val d, .val (T o), .val (T q)], ?_⟩
      unfold forLoop
      rw [show gxName 2 (T q) [.val d, .val (T o), s] = some [.val d, .val (T o), .val (T q)] from rfl, Option.bind_some, e4, e3]
      rfl
    | false =>
      rw [e] at e2 e3
      obtain ⟨Γ', g⟩ := dl_loop ho L (.val (T q)) (fun x hx => h x (List.mem_cons_of_mem _ hx))
      refine ⟨Γ', ?_⟩
      rw [e3, Bool.not_false, Bool.true_and, ← g]
      exact forLoop_cons (Γ1 := [.val d, .val (T o), .val (T q)]) rfl ((ifno_eq (tru_eq e2)).trans rfl)
theorem let_eq {d : PyData} {L : List (List Int)} (hd : seqOf d = some (TT L)) {o : List Int} (ho : o.length ≤ 16) (hL : Pats 16 L) : s_does_let [d, T o] = some (.bool (lets L o)) := by
  obtain ⟨Γ', h⟩ := dl_loop (d := d) ho L .no hL
  have e1 : itSeq (eVar 0) [.val d, .val (T o), .no] = some (TT L, [.val d, .val (T o), .no]) := by
    show (seqOf d).bind _ = _
    rw [hd]; rfl
  have e2 : sFor (itSeq (eVar 0)) (gxName 2) dlB [.val d, .val (T o), .no] = some (if lets L o then .nx Γ' else .rt (.bool false) Γ') := by
    rw [← h]
    show (itSeq (eVar 0) [.val d, .val (T o), .no]).bind _ = _
    rw [e1]; rfl
  show (b_does_let [.val d, .val (T o), .no]).bind _ = _
  cases e : lets L o with
  | true =>
    rw [e] at e2
    rw [show b_does_let [.val d, .val (T o), .no] = _ from seq_nx e2]; rfl
  | false =>
    rw [e] at e2
    have e2 : sFor (itSeq (eVar 0)) (gxName 2) dlB [.val d, .val (T o), .no] = some (.rt (.bool false) Γ') := e2
    have e3 : b_does_let [.val d, .val (T o), .no] = some (.rt (.bool false) Γ') := by
      show (sFor (itSeq (eVar 0)) (gxName 2) dlB [.val d, .val (T o), .no]).bind _ = _
      rw [e2]; rfl
    rw [e3]; rfl
abbrev ilB : SX := sIf (tNotX (tTruX (eCall s_is_pattern (aCons (eVar 1) aNil)))) (sRet (eC (.bool false))) sNext
theorem is_list_ok {L : List (List Int)} (hL : Pats 1000 L) : s_is_list [.tuple (TT L)] = some (.bool true) := by
  obtain ⟨Γ', h1, _⟩ := forLoop_map (g := gxName 1) (b := ilB) T (fun _ Γ => ∃ s, Γ = [.val (.tuple (TT L)), s]) L
    (fun pre x post Γ e ⟨s, hs⟩ => by
      subst hs
      obtain ⟨k1, k2, k3⟩ := hL x (by rw [e]; simp)
      exact ⟨_, _, rfl, .inl (ifnot_eq (call1_eq (show eVar 1 [.val (.tuple (TT L)), .val (T x)] = some (T x, _) from rfl) (pattern_is k3 k1 k2))), _, rfl⟩) (Γ := [.val (.tuple (TT L)), .no]) ⟨_, rfl⟩
  have e2 : sFor (itSeq (eVar 0)) (gxName 1) ilB [.val (.tuple (TT L)), .no] = some (.nx Γ') := by
    rw [← h1]; rfl
  have e1 : sIf (tNotX (tTruX (eUn (pIsi "tuple") (eVar 0)))) (sRet (eC (.bool false))) sNext [.val (.tuple (TT L)), .no] = some (.nx [.val (.tuple (TT L)), .no]) := by
    generalize TT L = W
    simp
  show (b_is_list [.val (.tuple (TT L)), .no]).bind _ = _
  rw [show b_is_list [.val (.tuple (TT L)), .no] = _ from (seq_nx e1).trans (seq_nx e2)]; rfl
theorem check_list_ok {L : List (List Int)} (hL : Pats 1000 L) : s_check_list [.tuple (TT L)] = some .none := by
  have h := is_list_ok hL
  show (b_check_list [.val (.tuple (TT L))]).bind _ = _
  rw [show b_check_list [.val (.tuple (TT L))] = _ from ifno_eq (not_eq (tru_eq (call1_eq (show eVar 0 [.val (.tuple (TT L))] = some (.tuple (TT L), _) from rfl) h)))]; rfl
/-! ### ascending -/
theorem dco_loop {d : PyData} : ∀ (L acc : List (List Int)) (s : Slot), acc.length + L.length ≤ 50000 → ∃ s', dcoLoop (gxName 1) (eVar 1) (eC (.bool true)) [1] (TT L) (kvT acc) [.val d, s] = some (kvT (L.foldl dd1 acc), [.val d, s'])
  | [], acc, s, _ => ⟨s, rfl⟩
  | r :: L, acc, s, h => by
    have hd : (dd1 acc r).length ≤ acc.length + 1 := by
      unfold dd1
      split
      · omega
      · simp
    simp only [List.length_cons] at h
    obtain ⟨s', g⟩ := dco_loop (d := d) L (dd1 acc r) (.val (T r)) (by omega)
    refine ⟨s', ?_⟩
    rw [List.foldl_cons, ← g]
    show (keyT (T r)).bind (fun k => if (kvT acc).length < 100000 then dcoLoop (gxName 1) (eVar 1) (eC (.bool true)) [1] (TT L) (putN (kvT acc) k (.bool true)) [.val d, .val (T r)] else none) = _
    rw [keyT_T, Option.bind_some, if_pos (by rw [List.length_map]; omega), put_T]
theorem by_length_eq (r : List Int) : s_by_length [T r] = some (prD r) := by
  simp [s_by_length, runP, b_by_length, envOf]
theorem keys_eq : ∀ D : List (List Int), keysOf s_by_length (TT D) = some (D.map prD)
  | [] => rfl
  | r :: D => by
    show (s_by_length [T r]).bind (fun k => (keysOf s_by_length (TT D)).bind fun ks => some (k :: ks)) = _
    rw [by_length_eq, keys_eq D]; rfl
theorem sort_keys (D : List (List Int)) : sortDK s_by_length (TT D) = some (TT (D.mergeSort (PySem.W.dataLe false prD))) := by
  unfold sortDK
  rw [keys_eq, Option.bind_some, if_pos (ok_pr D)]
  congr 1
  refine (PySem.W.sort_maps (r := PySem.W.dataLe false prD) (s := PySem.W.dataLe false (keyD' s_by_length)) T (l := D) (fun a _ b _ => ?_)).symm
  have e : ∀ x : List Int, keyD' s_by_length (T x) = prD x := fun x => by unfold keyD'; rw [by_length_eq]; rfl
  show PySem.W.dataLe false prD a b = (!PySem.W.dataLt (keyD' s_by_length (T b)) (keyD' s_by_length (T a)))
  rw [e, e]; rfl
theorem ascending_eq {d : PyData} {L : List (List Int)} (hd : seqOf d = some (TT L)) (hl : L.length ≤ 50000) : s_ascending [d] = some (.list (TT (asc L))) := by
  obtain ⟨s', h⟩ := dco_loop (d := d) L [] .no (by simpa using hl)
  have e1 : itSeq (eVar 0) [.val d, .no] = some (TT L, [.val d, .no]) := by
    show (seqOf d).bind _ = _
    rw [hd]; rfl
  have e2 : nDcO (itSeq (eVar 0)) (gxName 1) (eVar 1) (eC (.bool true)) [1] [.val d, .no] = some (.od (kvT (L.foldl dd1 [])), restE [.val d, .no] [.val d, s'] [1]) := by
    show (itSeq (eVar 0) [.val d, .no]).bind _ = _
    rw [e1]
    show (dcoLoop (gxName 1) (eVar 1) (eC (.bool true)) [1] (TT L) (kvT []) [.val d, .no]).bind _ = _
    rw [h]; rfl
  have e3 : ((kvT (L.foldl dd1 [])).map fun q => dataN q.1) = TT (L.foldl dd1 []) := by
    rw [List.map_map]
    exact List.map_congr_left fun r _ => dataN_T r
  show (b_ascending [.val d, .no]).bind _ = _
  have e4 : eSortDK (nDcO (itSeq (eVar 0)) (gxName 1) (eVar 1) (eC (.bool true)) [1]) s_by_length [.val d, .no] = some (.list (TT (asc L)), restE [.val d, .no] [.val d, s'] [1]) := by
    unfold eSortDK
    rw [e2]
    show (sortDK s_by_length ((kvT (L.foldl dd1 [])).map fun q => dataN q.1)).bind _ = _
    rw [e3, sort_keys, dd_asc]; rfl
  rw [show b_ascending [.val d, .no] = _ from ret_eq e4]; rfl
end Law
set_option Elab.async false
set_option linter.all false
set_option maxRecDepth 100000
set_option maxHeartbeats 400000
namespace Law
open PySem Z Sw
/-! ### the law's own rows -/
abbrev lpT : TX := (tTruX (eCall pAll (aCons (nOwn (nLc (itRange (aCons (eVar 3) aNil)) (gxName 7) tYesX (eOp pEq (eOp pLt (eIxV 0 (eIxV 5 (eVar 7))) (eIxV 0 (eVar 6))) (eOp pLt (eIxV 1 (eVar 7)) (eIxV 1 (eVar 3)))) [7])) aNil)))
abbrev lpI : SX := (sIf lpT (sApp 4 (eOp pAdd (eVar 5) (eTup (aCons (eVar 6) aNil)))) sNext)
abbrev lpR : AX := (itRange (aCons (eIf (tOf (eOp pNe (eVar 5) (eTup aNil))) (eOp pAdd (eIxV 5 (eUn pNeg (eC (.int 1)))) (eC (.int 1))) (eC (.int 0))) (aCons (eLenV 0) aNil)))
abbrev lpB : SX := (sSeq (sSet 4 (nLst aNil)) (sSeq (sFor (itSeq (eVar 2)) (gxName 5) (sFor lpR (gxName 6) lpI)) (sSet 2 (nVal (eVar 4)))))
abbrev E8 (o q : List Int) (s2 : PyData) (k : Nat) (s4 : Slot) (row : List Int) (p j : Int) : Z.Env := [.val (T o), .val (T q), .val s2, .val (.int k), s4, .val (T row), .val (.int p), .val (.int j)]
section
variable {o q : List Int} {s2 : PyData} {k : Nat} {row : List Int} {acc : List (List Int)}
theorem gv_pix {l : List Int} {i : Int} (h0 : 0 ≤ i) (h : i < l.length) : pIx (T l) (.int i) = some (.int (gv l i)) := pIx_T (gv_ix h0 h)
theorem lpT_eq {p : Int} (hr : Row o q k row) (hk : k < q.length) (hk2 : k ≤ 1000) (hp : 0 ≤ p ∧ p < o.length) {s4 : Slot} :
    lpT [.val (T o), .val (T q), .val s2, .val (.int k), s4, .val (T row), .val (.int p), .no] = some (okP o q row k p, [.val (T o), .val (T q), .val s2, .val (.int k), s4, .val (T row), .val (.int p), .no]) := by
  obtain ⟨h1, h2, h3, h4⟩ := hr
  have e1 := nLc_intsM (it := itRange (aCons (eVar 3) aNil)) (f := eOp pEq (eOp pLt (eIxV 0 (eIxV 5 (eVar 7))) (eIxV 0 (eVar 6))) (eOp pLt (eIxV 1 (eVar 7)) (eIxV 1 (eVar 3)))) (i := 7) (Γ := [.val (T o), .val (T q), .val s2, .val (.int k), s4, .val (T row), .val (.int p), .no]) (rgI 0 1 k) (fun j => .bool (decide (gv o (gv row j) < gv o p) == decide (gv q j < gv q k)))
    (by
      show (rangeOf [.int (k : Int)]).bind _ = _
      rw [rangeN k (by omega)]; rfl) rfl (fun j hj => by
      have hj' := Om.mem_rg.mp hj
      have m1 := h3 _ (gv_mem (l := row) (i := j) (by omega) (by omega))
      have a1 := gv_pix (l := row) (i := j) (by omega) (by omega)
      have a2 := gv_pix (l := o) m1.1 m1.2
      have a3 := gv_pix (l := o) hp.1 hp.2
      have a4 := gv_pix (l := q) (i := j) (by omega) (by omega)
      have a5 := gv_pix (l := q) (i := (k : Int)) (by omega) (by omega)
      have b1 : eOp pLt (eIxV 0 (eIxV 5 (eVar 7))) (eIxV 0 (eVar 6)) (E8 o q s2 k s4 row p j) = some (.bool (decide (gv o (gv row j) < gv o p)), E8 o q s2 k s4 row p j) := by
        refine op_eq (Γ1 := E8 o q s2 k s4 row p j) (x := .int (gv o (gv row j))) (y := .int (gv o p)) ?_ ?_ (by simp [pLt, pCmp])
        · have c1 : eIxV 5 (eVar 7) (E8 o q s2 k s4 row p j) = some (.int (gv row j), E8 o q s2 k s4 row p j) := by
            show (pIx (T row) (.int j)).bind _ = _
            rw [a1]; rfl
          show ((eIxV 5 (eVar 7)) (E8 o q s2 k s4 row p j)).bind _ = _
          rw [c1]
          show (pIx (T o) (.int (gv row j))).bind _ = _
          rw [a2]; rfl
        · show (pIx (T o) (.int p)).bind _ = _
          rw [a3]; rfl
      have b2 : eOp pLt (eIxV 1 (eVar 7)) (eIxV 1 (eVar 3)) (E8 o q s2 k s4 row p j) = some (.bool (decide (gv q j < gv q k)), E8 o q s2 k s4 row p j) := by
        refine op_eq (Γ1 := E8 o q s2 k s4 row p j) (x := .int (gv q j)) (y := .int (gv q k)) ?_ ?_ (by simp [pLt, pCmp])
        · show (pIx (T q) (.int j)).bind _ = _
          rw [a4]; rfl
        · show (pIx (T q) (.int (k : Int))).bind _ = _
          rw [a5]; rfl
      exact op_eq b1 b2 (by simp)) (by rw [Om.rg_len]; omega)
  have e2 : pAll [.list ((rgI 0 1 k).map fun j => .bool (decide (gv o (gv row j) < gv o p) == decide (gv q j < gv q k)))] = some (.bool (okP o q row k p)) := by
    have := boolsOf_map ((rgI 0 1 k).map fun j => (decide (gv o (gv row j) < gv o p) == decide (gv q j < gv q k)))
    rw [List.map_map] at this
    show (boolsOf _).bind _ = _
    rw [show ((rgI 0 1 k).map fun j => PyData.bool (decide (gv o (gv row j) < gv o p) == decide (gv q j < gv q k))) = (rgI 0 1 k).map (PyData.bool ∘ fun j => (decide (gv o (gv row j) < gv o p) == decide (gv q j < gv q k))) from rfl, this]
    show some (PyData.bool _) = _
    unfold okP
    rw [List.all_map]; rfl
  exact tru_eq (call1_eq (nown_eq e1) e2)
theorem lpR_eq (hr : Row o q k row) (ho : o.length ≤ 1000) {s4 s6 : Slot} : lpR [.val (T o), .val (T q), .val s2, .val (.int k), s4, .val (T row), s6, .no] = some ((rgI (stt row) 1 ((o.length : Int) - stt row).toNat).map .int, [.val (T o), .val (T q), .val s2, .val (.int k), s4, .val (T row), s6, .no]) := by
  obtain ⟨h1, h2, h3, h4⟩ := hr
  have e0 : pNe (T row) (.tuple []) = some (.bool (!decide (row = []))) := z_neT0 row
  have key : ∀ s : Int, stt row = s → (0 ≤ s ∧ s ≤ 1000) → (eIf (tOf (eOp pNe (eVar 5) (eTup aNil))) (eOp pAdd (eIxV 5 (eUn pNeg (eC (.int 1)))) (eC (.int 1))) (eC (.int 0))) [.val (T o), .val (T q), .val s2, .val (.int k), s4, .val (T row), s6, .no] = some (.int s, [.val (T o), .val (T q), .val s2, .val (.int k), s4, .val (T row), s6, .no]) → lpR [.val (T o), .val (T q), .val s2, .val (.int k), s4, .val (T row), s6, .no] = some ((rgI s 1 ((o.length : Int) - s).toNat).map .int, [.val (T o), .val (T q), .val s2, .val (.int k), s4, .val (T row), s6, .no]) := fun s hs hb he => by
    have hr := range2 s (o.length : Int) (by omega) (by omega)
    have e1 := acons_eq he (acons_eq (show eLenV 0 [.val (T o), .val (T q), .val s2, .val (.int k), s4, .val (T row), s6, .no] = some (.int (o.length : Int), [.val (T o), .val (T q), .val s2, .val (.int k), s4, .val (T row), s6, .no]) from by
      simp) (show aNil [.val (T o), .val (T q), .val s2, .val (.int k), s4, .val (T row), s6, .no] = some ([], _) from rfl))
    show (aCons _ (aCons (eLenV 0) aNil) _).bind _ = _
    rw [e1]
    show (rangeOf [.int s, .int (o.length : Int)]).bind _ = _
    rw [hr]; rfl
  rcases List.eq_nil_or_concat row with rfl | ⟨r, x, rfl⟩
  · exact key 0 rfl (by omega) (by simp)
  · rw [List.concat_eq_append] at *
    have hx := h3 x (by simp)
    rw [stt_snoc]
    refine key (x + 1) (stt_snoc r x) (by omega) ?_
    have e1 : pIx (T (r ++ [x])) (.int (-1)) = some (.int x) := by
      have := pIx_T (ixI_last (c := r ++ [x]) (by simp))
      rw [this]
      unfold Mt.lastOr
      simp
    generalize hR : r ++ [x] = R at *
    have hne : R ≠ [] := by rw [← hR]; simp
    have e2 : (tOf (eOp pNe (eVar 5) (eTup aNil))) [.val (T o), .val (T q), .val s2, .val (.int k), s4, .val (T R), s6, .no] = some (true, [.val (T o), .val (T q), .val s2, .val (.int k), s4, .val (T R), s6, .no]) := by
      rw [decide_eq_false hne] at e0
      generalize T R = d at *
      generalize T o = d1 at *
      generalize T q = d2 at *
      simp [e0]
    have e3 : (eOp pAdd (eIxV 5 (eUn pNeg (eC (.int 1)))) (eC (.int 1))) [.val (T o), .val (T q), .val s2, .val (.int k), s4, .val (T R), s6, .no] = some (.int (x + 1), [.val (T o), .val (T q), .val s2, .val (.int k), s4, .val (T R), s6, .no]) := by
      refine op_eq (Γ1 := [.val (T o), .val (T q), .val s2, .val (.int k), s4, .val (T R), s6, .no]) (x := .int x) ?_ rfl (by simp)
      show (pIx (T R) (.int (-1))).bind _ = _
      rw [e1]; rfl
    show ((tOf (eOp pNe (eVar 5) (eTup aNil))) _).bind _ = _
    rw [e2]
    exact e3
theorem lpI_loop (hr : Row o q k row) (ho : o.length ≤ 12) (hk : k < q.length) (hk2 : k ≤ 1000) (hl : acc.length + (ext o q k row).length ≤ 5000) (s6 : Slot) : ∃ s6', forLoop (gxName 6) lpI ((rgI (stt row) 1 ((o.length : Int) - stt row).toNat).map .int) [.val (T o), .val (T q), .val s2, .val (.int k), .own (TT acc), .val (T row), s6, .no] = some (.nx [.val (T o), .val (T q), .val s2, .val (.int k), .own (TT (acc ++ ext o q k row)), .val (T row), s6', .no]) := by
  have hb : ∀ x ∈ rgI (stt row) 1 ((o.length : Int) - stt row).toNat, 0 ≤ x ∧ x < o.length := fun x hx => by
    have := Om.mem_rg.mp hx
    have h0 : 0 ≤ stt row := by
      unfold stt
      cases e : row.getLast? with
      | none => exact Int.le_refl _
      | some y =>
        have := (hr.2.2.1 y (List.mem_of_getLast? e)).1
        show 0 ≤ y + 1
        omega
    omega
  have hsz : ∀ pre post, rgI (stt row) 1 ((o.length : Int) - stt row).toNat = pre ++ post → (pre.filter (okP o q row k)).length ≤ (ext o q k row).length := fun pre post e => by
    unfold ext pv
    rw [List.length_map, e, List.filter_append, List.length_append]; omega
  obtain ⟨Γ', h1, s6', h2⟩ := forLoop_ints (g := gxName 6) (b := lpI) (fun pre Γ => ∃ s6, Γ = [.val (T o), .val (T q), .val s2, .val (.int k), .own (TT (acc ++ (pre.filter (okP o q row k)).map fun p => row ++ [p])), .val (T row), s6, .no]) (rgI (stt row) 1 ((o.length : Int) - stt row).toNat)
    (fun pre x post Γ e ⟨s, hs⟩ => by
      subst hs
      have hx := hb x (by rw [e]; simp)
      have hs := hsz pre (x :: post) e
      have t := lpT_eq (s2 := s2) (s4 := .own (TT (acc ++ (pre.filter (okP o q row k)).map fun p => row ++ [p]))) hr hk hk2 hx
      cases ho : okP o q row k x with
      | true =>
        rw [ho] at t
        refine ⟨[.val (T o), .val (T q), .val s2, .val (.int k), .own (TT (acc ++ (pre.filter (okP o q row k)).map fun p => row ++ [p])), .val (T row), .val (.int x), .no], [.val (T o), .val (T q), .val s2, .val (.int k), .own (TT (acc ++ ((pre ++ [x]).filter (okP o q row k)).map fun p => row ++ [p])), .val (T row), .val (.int x), .no], rfl, .inl ?_, _, rfl⟩
        have e2 : acc ++ ((pre ++ [x]).filter (okP o q row k)).map (fun p => row ++ [p]) = (acc ++ (pre.filter (okP o q row k)).map fun p => row ++ [p]) ++ [row ++ [x]] := by
          rw [List.filter_append, List.map_append, List.append_assoc]
          simp [ho]
        rw [show lpI _ = _ from ifyes_eq t, e2]
        have hlen : (acc ++ (pre.filter (okP o q row k)).map fun p => row ++ [p]).length ≤ 5000 := by
          rw [List.length_append, List.length_map]; omega
        generalize (acc ++ (pre.filter (okP o q row k)).map fun p => row ++ [p]) = W at *
        have hrow : row.length ≤ 1000 := by rw [hr.1]; exact hk2
        have e3 : eOp pAdd (eVar 5) (eTup (aCons (eVar 6) aNil)) [.val (T o), .val (T q), .val s2, .val (.int k), .own (TT W), .val (T row), .val (.int x), .no] = some (T (row ++ [x]), [.val (T o), .val (T q), .val s2, .val (.int k), .own (TT W), .val (T row), .val (.int x), .no]) := by
          have : row.length + 1 ≤ 100000 := by omega
          refine op_eq (x := T row) (y := T [x]) (Γ1 := [.val (T o), .val (T q), .val s2, .val (.int k), .own (TT W), .val (T row), .val (.int x), .no]) rfl rfl ?_
          simp [this]
        show ((eOp pAdd (eVar 5) (eTup (aCons (eVar 6) aNil))) _).bind _ = _
        rw [e3]
        show (if (TT W).length < 100000 then _ else none) = _
        have e4 : TT (W ++ [row ++ [x]]) = TT W ++ [T (row ++ [x])] := List.map_append
        rw [if_pos (by rw [List.length_map]; omega), e4]; rfl
      | false =>
        rw [ho] at t
        have e2 : (pre ++ [x]).filter (okP o q row k) = pre.filter (okP o q row k) := by
          rw [List.filter_append]
          simp [ho]
        rw [e2]
        exact ⟨_, _, rfl, .inl (ifno_eq t), _, rfl⟩)
    (Γ := [.val (T o), .val (T q), .val s2, .val (.int k), .own (TT acc), .val (T row), s6, .no]) ⟨s6, by simp⟩
  refine ⟨s6', ?_⟩
  rw [h1, h2]; rfl
theorem lpR_loop (ho : o.length ≤ 12) (hk : k < q.length) (hk2 : k ≤ 1000) (s5 s6 : Slot) : ∃ s5' s6', forLoop (gxName 5) (sFor lpR (gxName 6) lpI) (TT (plc o q k)) [.val (T o), .val (T q), .val s2, .val (.int k), .own [], s5, s6, .no] = some (.nx [.val (T o), .val (T q), .val s2, .val (.int k), .own (TT (plc o q (k + 1))), s5', s6', .no]) := by
  have hsz : (plc o q (k + 1)).length ≤ 4096 := Nat.le_trans (plc_len _) (Nat.le_trans (Nat.pow_le_pow_right (by omega) ho) (by decide))
  obtain ⟨Γ', h1, s5', s6', h2⟩ := forLoop_map (g := gxName 5) (b := sFor lpR (gxName 6) lpI) T (fun pre Γ => ∃ s5 s6, Γ = [.val (T o), .val (T q), .val s2, .val (.int k), .own (TT (pre.flatMap (ext o q k))), s5, s6, .no]) (plc o q k)
    (fun pre x post Γ e ⟨s5, s6, hs⟩ => by
      subst hs
      have hr : Row o q k x := mem_plc.mp (by rw [e]; simp)
      have hl : (pre.flatMap (ext o q k)).length + (ext o q k x).length ≤ 5000 := by
        have : plc o q (k + 1) = (pre ++ x :: post).flatMap (ext o q k) := by rw [← e]; rfl
        rw [this, List.flatMap_append, List.flatMap_cons, List.length_append, List.length_append] at hsz
        omega
      obtain ⟨s6', t⟩ := lpI_loop (s2 := s2) (acc := pre.flatMap (ext o q k)) hr ho hk hk2 hl s6
      refine ⟨[.val (T o), .val (T q), .val s2, .val (.int k), .own (TT (pre.flatMap (ext o q k))), .val (T x), s6, .no], [.val (T o), .val (T q), .val s2, .val (.int k), .own (TT ((pre ++ [x]).flatMap (ext o q k))), .val (T x), s6', .no], rfl, .inl ?_, _, _, rfl⟩
      rw [List.flatMap_append, show [x].flatMap (ext o q k) = ext o q k x from by simp, ← t]
      show (lpR [.val (T o), .val (T q), .val s2, .val (.int k), .own (TT (pre.flatMap (ext o q k))), .val (T x), s6, .no]).bind _ = _
      rw [lpR_eq hr (by omega)]; rfl)
    (Γ := [.val (T o), .val (T q), .val s2, .val (.int k), .own [], s5, s6, .no]) ⟨s5, s6, rfl⟩
  refine ⟨s5', s6', ?_⟩
  rw [show TT (plc o q k) = (plc o q k).map T from rfl, h1, h2]; rfl
theorem places_eq (ho : o.length ≤ 12) (hq : q.length ≤ 1000) : s_law_places [T o, T q] = some (.list (TT (plc o q q.length))) := by
  obtain ⟨Γ', h1, s3, s4, s5, s6, h2⟩ := forLoop_ints (g := gxName 3) (b := lpB) (fun pre Γ => ∃ s3 s4 s5 s6, Γ = [.val (T o), .val (T q), .val (.list (TT (plc o q pre.length))), s3, s4, s5, s6, .no]) (rgI 0 1 q.length)
    (fun pre x post Γ e ⟨s3, s4, s5, s6, hs⟩ => by
      subst hs
      obtain ⟨hx, _, hi⟩ := rg_split e
      obtain rfl : x = (pre.length : Int) := by omega
      obtain ⟨s5', s6', t⟩ := lpR_loop (s2 := .list (TT (plc o q pre.length))) (k := pre.length) (q := q) ho hi (by omega) s5 s6
      refine ⟨[.val (T o), .val (T q), .val (.list (TT (plc o q pre.length))), .val (.int pre.length), s4, s5, s6, .no], [.val (T o), .val (T q), .val (.list (TT (plc o q (pre ++ [(pre.length : Int)]).length))), .val (.int pre.length), .val (.list (TT (plc o q (pre.length + 1)))), s5', s6', .no], rfl, .inl ?_, _, _, _, _, rfl⟩
      have a1 : sSet 4 (nLst aNil) [.val (T o), .val (T q), .val (.list (TT (plc o q pre.length))), .val (.int pre.length), s4, s5, s6, .no] = some (.nx [.val (T o), .val (T q), .val (.list (TT (plc o q pre.length))), .val (.int pre.length), .own [], s5, s6, .no]) := rfl
      have a2 : sFor (itSeq (eVar 2)) (gxName 5) (sFor lpR (gxName 6) lpI) [.val (T o), .val (T q), .val (.list (TT (plc o q pre.length))), .val (.int pre.length), .own [], s5, s6, .no] = some (.nx [.val (T o), .val (T q), .val (.list (TT (plc o q pre.length))), .val (.int pre.length), .own (TT (plc o q (pre.length + 1))), s5', s6', .no]) := by
        rw [← t]; rfl
      rw [show lpB _ = _ from (seq_nx a1).trans (seq_nx a2), List.length_append, List.length_singleton]; rfl)
    (Γ := [.val (T o), .val (T q), .val (.list (TT (plc o q 0))), .no, .no, .no, .no, .no]) ⟨_, _, _, _, rfl⟩
  rw [Om.rg_len] at h2
  subst h2
  have a1 : sSet 2 (nVal (eLst (aCons (eTup aNil) aNil))) [.val (T o), .val (T q), .no, .no, .no, .no, .no, .no] = some (.nx [.val (T o), .val (T q), .val (.list (TT (plc o q 0))), .no, .no, .no, .no, .no]) := rfl
  have a2 : sFor (itRange (aCons (eLenV 1) aNil)) (gxName 3) lpB [.val (T o), .val (T q), .val (.list (TT (plc o q 0))), .no, .no, .no, .no, .no] = some (.nx [.val (T o), .val (T q), .val (.list (TT (plc o q q.length))), s3, s4, s5, s6, .no]) := by
    rw [← h1]
    have e1 : eLenV 1 [.val (T o), .val (T q), .val (.list (TT (plc o q 0))), .no, .no, .no, .no, .no] = some (.int (q.length : Int), [.val (T o), .val (T q), .val (.list (TT (plc o q 0))), .no, .no, .no, .no, .no]) := by simp
    have e2 : itRange (aCons (eLenV 1) aNil) [.val (T o), .val (T q), .val (.list (TT (plc o q 0))), .no, .no, .no, .no, .no] = some ((rgI 0 1 q.length).map .int, [.val (T o), .val (T q), .val (.list (TT (plc o q 0))), .no, .no, .no, .no, .no]) := by
      show (aCons (eLenV 1) aNil _).bind _ = _
      rw [acons_eq e1 (show aNil _ = some ([], _) from rfl)]
      show (rangeOf [.int (q.length : Int)]).bind _ = _
      rw [rangeN _ (by omega)]; rfl
    show (itRange (aCons (eLenV 1) aNil) _).bind _ = _
    rw [e2]; rfl
  show (b_law_places [.val (T o), .val (T q), .no, .no, .no, .no, .no, .no]).bind _ = _
  rw [show b_law_places [.val (T o), .val (T q), .no, .no, .no, .no, .no, .no] = _ from (seq_nx a1).trans (seq_nx a2)]; rfl
theorem eq_nilL {D : List PyData} (hd : D.length ≤ 100000000) (hs : SeqAt.shaped (.list D) = true) : pEq (.list D) (.list []) = some (.bool D.isEmpty) := by
  unfold pEq
  rw [if_pos ⟨hs, rfl⟩]
  cases D with
  | nil => rfl
  | cons x D => rfl
end
end Law
set_option Elab.async false
set_option linter.all false
set_option maxRecDepth 100000
set_option maxHeartbeats 400000
namespace Law
open PySem Z Sw
theorem lay_TT : ∀ l : List (List Int), PyData.canLayAll0 (TT l) = true
  | [] => rfl
  | x :: l => by
    show (PyData.canLayAll0 (x.map .int) && PyData.canLayAll0 (TT l)) = true
    rw [lay_TT l, lay_ints]; rfl
theorem deep_TT : ∀ l : List (List Int), PyData.depthAll (TT l) ≤ 2
  | [] => by decide
  | x :: l => by
    show max (PyData.depthAll (x.map .int) + 1) (PyData.depthAll (TT l)) ≤ 2
    have := deep_ints x
    exact Nat.max_le.mpr ⟨by omega, deep_TT l⟩
theorem sh_TT (l : List (List Int)) : SeqAt.shaped (.list (TT l)) = true := by
  unfold SeqAt.shaped
  rw [show PyData.canLay0 (.list (TT l)) = PyData.canLayAll0 (TT l) from rfl, lay_TT]
  have : PyData.depth (.list (TT l)) = PyData.depthAll (TT l) + 1 := rfl
  rw [this]
  have := deep_TT l
  simp; omega
theorem eq_nilTT (l : List (List Int)) : pEq (.list (TT l)) (.list []) = some (.bool l.isEmpty) := by
  unfold pEq
  rw [if_pos ⟨sh_TT l, rfl⟩]
  cases l with
  | nil => rfl
  | cons x D => rfl
theorem lets_eq {d : PyData} {L : List (List Int)} (hd : seqOf d = some (TT L)) (hl : L.length ≤ 1000) {o : List Int} (ho : o.length ≤ 12) (ko : Om.IsR 1 o) (hL : Pats 900 L) : s_law_lets [d, T o] = some (.bool (lets L o)) := by
  have e1 := nLc_any (it := itSeq (eVar 0)) (g := gxName 2) (t := tYesX) (f := eOp pEq (eCall s_law_places (aCons (eVar 1) (aCons (eVar 2) aNil))) (eLst aNil)) (vs := [2]) (Γ := [.val d, .val (T o), .no]) L T (fun x => [.val d, .val (T o), .val (T x)]) (fun _ => true) (fun x => .bool (!sh o x))
    (by show (seqOf d).bind _ = _; rw [hd]; rfl) rfl (fun x hx => ⟨rfl, rfl, fun _ => by
      obtain ⟨k1, k2, k3⟩ := hL x hx
      have := places_eq (o := o) (q := x) ho (by omega)
      refine op_eq (Γ1 := [.val d, .val (T o), .val (T x)]) (call2_eq rfl rfl this) rfl ?_
      rw [eq_nilTT, plc_sh ko k1 k3], rfl⟩) (by omega)
  rw [List.filter_eq_self.mpr (fun _ _ => rfl)] at e1
  have e2 : pAll [.list (L.map fun x => .bool (!sh o x))] = some (.bool (lets L o)) := by
    have := boolsOf_map (L.map fun x => !sh o x)
    rw [List.map_map] at this
    show (boolsOf _).bind _ = _
    rw [show (L.map fun x => PyData.bool (!sh o x)) = L.map (PyData.bool ∘ fun x => !sh o x) from rfl, this]
    show some (PyData.bool _) = _
    unfold lets
    rw [List.all_map]; rfl
  show (b_law_lets [.val d, .val (T o), .no]).bind _ = _
  rw [show b_law_lets [.val d, .val (T o), .no] = _ from ret_eq (call1_eq (nown_eq e1) e2)]; rfl
/-! ### the law's own sorting -/
theorem lay_pr (a : List Int) : PyData.canLay0 (prD a) = true := by
  show (PyData.canLay0 (.int (a.length : Int)) && (PyData.canLayAll0 (a.map .int) && true)) = true
  rw [lay_ints]; rfl
theorem sh_pr (a : List Int) : SeqAt.shaped (prD a) = true := by
  unfold SeqAt.shaped
  rw [lay_pr]
  have e : PyData.depth (prD a) = max (PyData.depth (.int (a.length : Int))) (max (PyData.depthAll (a.map .int) + 1) 0) + 1 := rfl
  have e1 : PyData.depth (.int (a.length : Int)) = 0 := rfl
  rw [e, e1]
  have := deep_ints a
  simp; omega
theorem ne_pr (a b : List Int) : pNe (prD a) (prD b) = some (.bool (!decide (a = b))) := by
  unfold pNe
  rw [if_pos ⟨sh_pr a, sh_pr b⟩]
  have e : PyData.eqv (prD a) (prD b) = (PyData.eqv (.int (a.length : Int)) (.int (b.length : Int)) && (PyData.eqvAll (a.map .int) (b.map .int) && true)) := rfl
  rw [e, eqv_int, eqvAll_ints]
  by_cases h : a = b
  · subst h; simp
  · simp [h]
theorem pIx_LD {l : List PyData} {i : Int} (h0 : 0 ≤ i) (h : i < l.length) : pIx (.list l) (.int i) = some (l.getD i.toNat .none) := by
  obtain ⟨n, rfl⟩ : ∃ n : Nat, i = n := ⟨i.toNat, by omega⟩
  have := pIx_L (l := l) (i := n) (x := l.getD n .none) (by
    rw [List.getD_eq_getElem?_getD, List.getElem?_eq_getElem (by omega)]; rfl)
  exact this
theorem get_pr {S : List (List Int)} {i : Int} (h0 : 0 ≤ i) (h : i < S.length) : pIx (.list (S.map prD)) (.int i) = some (prD (gS S i)) := by
  rw [pIx_LD h0 (by simpa using h), gS_get h0 h, List.getD_eq_getElem?_getD, List.getElem?_map, List.getElem?_eq_getElem (by omega)]; rfl
theorem sorted_eq {d : PyData} {L : List (List Int)} (hd : seqOf d = some (TT L)) (hl : L.length ≤ 1000) (hL : ∀ r ∈ L, r.length ≤ 1000) : s_law_sorted [d] = some (.list (TT (asc L))) := by
  have e1 := nLc_any (it := itSeq (eVar 0)) (g := gxName 2) (t := tYesX) (f := eTup (aCons (eLenV 2) (aCons (eVar 2) aNil))) (vs := [2]) (Γ := [.val d, .no, .no, .no]) L T (fun x => [.val d, .no, .val (T x), .no]) (fun _ => true) prD
    (by show (seqOf d).bind _ = _; rw [hd]; rfl) rfl (fun x hx => ⟨rfl, rfl, fun _ => by simp, rfl⟩) (by omega)
  rw [List.filter_eq_self.mpr (fun _ _ => rfl)] at e1
  have e2 := sort2_pr L
  have hSl : (L.mergeSort (PySem.W.dataLe false prD)).length ≤ 1000 := by rw [List.length_mergeSort]; exact hl
  unfold asc
  generalize L.mergeSort (PySem.W.dataLe false prD) = S at *
  have a1 : sSet 1 (nVal (eCall pSort2 (aCons (nOwn (nLc (itSeq (eVar 0)) (gxName 2) tYesX (eTup (aCons (eLenV 2) (aCons (eVar 2) aNil))) [2])) aNil))) [.val d, .no, .no, .no] = some (.nx [.val d, .val (.list (S.map prD)), .no, .no]) :=
    setv_eq (call1_eq (nown_eq e1) e2)
  have a2 := nLc_ints (it := itRange (aCons (eLenV 1) aNil)) (t := (tOrX (tOf (eOp pEq (eVar 3) (eC (.int 0)))) (tOf (eOp pNe (eIxV 1 (eVar 3)) (eIxV 1 (eOp pSub (eVar 3) (eC (.int 1)))))))) (f := (eOp pIx (eIxV 1 (eVar 3)) (eC (.int 1)))) (i := 3) (Γ := [.val d, .val (.list (S.map prD)), .no, .no]) (rgI 0 1 S.length) (cS S) (fun k => T (gS S k))
    (by
      have e1 : eLenV 1 [.val d, .val (.list (S.map prD)), .no, .no] = some (.int (S.length : Int), [.val d, .val (.list (S.map prD)), .no, .no]) := by simp
      show (aCons (eLenV 1) aNil _).bind _ = _
      rw [acons_eq e1 (show aNil _ = some ([], _) from rfl)]
      show (rangeOf [.int (S.length : Int)]).bind _ = _
      rw [rangeN _ (by omega)]; rfl) rfl (fun k hk => by
      have hk' := Om.mem_rg.mp hk
      have g1 := get_pr (S := S) (i := k) (by omega) (by omega)
      have f1 : eIxV 1 (eVar 3) [.val d, .val (.list (S.map prD)), .no, .val (.int k)] = some (prD (gS S k), [.val d, .val (.list (S.map prD)), .no, .val (.int k)]) := by
        show (pIx (.list (S.map prD)) (.int k)).bind _ = _
        rw [g1]; rfl
      refine ⟨?_, fun _ => op_eq (Γ1 := [.val d, .val (.list (S.map prD)), .no, .val (.int k)]) f1 rfl (by simp [pIx, seqOf, L2.ixN])⟩
      have f2 : tOf (eOp pEq (eVar 3) (eC (.int 0))) [.val d, .val (.list (S.map prD)), .no, .val (.int k)] = some (decide (k = 0), [.val d, .val (.list (S.map prD)), .no, .val (.int k)]) := by
        generalize S.map prD = W
        simp
      show ((tOf (eOp pEq (eVar 3) (eC (.int 0)))) [.val d, .val (.list (S.map prD)), .no, .val (.int k)]).bind _ = _
      rw [f2]
      by_cases h0 : k = 0
      · subst h0; rfl
      · have g2 := get_pr (S := S) (i := k - 1) (by omega) (by omega)
        have f3 : eIxV 1 (eOp pSub (eVar 3) (eC (.int 1))) [.val d, .val (.list (S.map prD)), .no, .val (.int k)] = some (prD (gS S (k - 1)), [.val d, .val (.list (S.map prD)), .no, .val (.int k)]) := by
          show (pIx (.list (S.map prD)) (.int (k - 1))).bind _ = _
          rw [g2]; rfl
        have f4 := op_eq f1 f3 (ne_pr _ _)
        unfold cS
        rw [decide_eq_false h0]
        show ((eOp pNe (eIxV 1 (eVar 3)) (eIxV 1 (eOp pSub (eVar 3) (eC (.int 1))))) [.val d, .val (.list (S.map prD)), .no, .val (.int k)]).bind _ = _
        rw [f4]; rfl) (by rw [Om.rg_len]; omega)
  show (b_law_sorted [.val d, .no, .no, .no]).bind _ = _
  rw [show b_law_sorted [.val d, .no, .no, .no] = _ from (seq_nx a1).trans (ret_eq (nown_eq a2))]
  unfold undup
  have e3 : TT (((rgI 0 1 S.length).filter (cS S)).map (gS S)) = ((rgI 0 1 S.length).filter (cS S)).map fun k => T (gS S k) := by
    rw [show TT (((rgI 0 1 S.length).filter (cS S)).map (gS S)) = (((rgI 0 1 S.length).filter (cS S)).map (gS S)).map T from rfl, List.map_map]; rfl
  rw [e3]; rfl
end Law
set_option Elab.async false
set_option linter.all false
set_option maxRecDepth 100000
set_option maxHeartbeats 400000
namespace Law
open PySem Z Sw
/-! ### drawn patterns and lists -/
def szs : List Int := [3, 3, 3, 4, 4, 4, 3, 5, 2, 3, 4, 5, 3, 4, 2, 3, 4, 5, 3, 1]
theorem szs_all : ∀ n : Nat, n < 20 → 1 ≤ gv szs n ∧ gv szs n ≤ 5 := by
  have h : (List.range 20).all (fun n => decide (1 ≤ gv szs (n : Nat) ∧ gv szs (n : Nat) ≤ 5)) = true := by decide +kernel
  intro n hn
  exact of_decide_eq_true (List.all_eq_true.mp h n (List.mem_range.mpr hn))
theorem gv_pixL {l : List Int} {i : Int} (h0 : 0 ≤ i) (h : i < l.length) : pIx (.list (l.map .int)) (.int i) = some (.int (gv l i)) := by
  have := gv_pix h0 h
  exact this
abbrev ptA : SX := (sSet 2 (nVal (eLst (aCons (eC (.int 3)) (aCons (eC (.int 3)) (aCons (eC (.int 3)) (aCons (eC (.int 4)) (aCons (eC (.int 4)) (aCons (eC (.int 4)) (aCons (eC (.int 3)) (aCons (eC (.int 5)) (aCons (eC (.int 2)) (aCons (eC (.int 3)) (aCons (eC (.int 4)) (aCons (eC (.int 5)) (aCons (eC (.int 3)) (aCons (eC (.int 4)) (aCons (eC (.int 2)) (aCons (eC (.int 3)) (aCons (eC (.int 4)) (aCons (eC (.int 5)) (aCons (eC (.int 3)) (aCons (eC (.int 1)) aNil)))))))))))))))))))))))
theorem pattern_eq {cs : List PyData} (h : PotOk cs) (m : Nat) (hm : 1 ≤ m) : ∃ o cs', s_law_pattern cs [.int m] = some (T o, cs') ∧ PotOk cs' ∧ Om.IsR 1 o ∧ 1 ≤ o.length ∧ o.length ≤ 5 := by
  obtain ⟨k, c1, t1, t2, t3⟩ := take_eq h 20 (by decide)
  obtain ⟨z1, z2⟩ := szs_all k t2
  obtain ⟨n, hn, n1, n2⟩ : ∃ n : Nat, (if gv szs k < (m : Int) then gv szs k else (m : Int)) = n ∧ 1 ≤ n ∧ n ≤ 5 := by
    split
    · exact ⟨(gv szs k).toNat, by omega, by omega, by omega⟩
    · exact ⟨m, rfl, hm, by omega⟩
  obtain ⟨o, c2, o1, o2, o3, o4⟩ := order_eq t3 n (by omega)
  refine ⟨o, c2, ?_, o2, o3, by omega, by omega⟩
  have a1 : ptA [.par cs, .val (.int m), .no] = some (.nx [.par cs, .val (.int m), .val (.list (szs.map .int))]) := rfl
  have g := gv_pixL (l := szs) (i := (k : Int)) (by omega) (by show (k : Int) < 20; omega)
  generalize szs.map PyData.int = W at *
  have b1 : eCallM 0 s_law_take (aCons (eC (.int 20)) aNil) [.par cs, .val (.int m), .val (.list W)] = some (.int k, [.par c1, .val (.int m), .val (.list W)]) := callM0 rfl t1
  have b2 : eIxV 2 (eCallM 0 s_law_take (aCons (eC (.int 20)) aNil)) [.par cs, .val (.int m), .val (.list W)] = some (.int (gv szs k), [.par c1, .val (.int m), .val (.list W)]) := by
    show ((eCallM 0 s_law_take (aCons (eC (.int 20)) aNil)) [.par cs, .val (.int m), .val (.list W)]).bind _ = _
    rw [b1]
    show (pIx (.list W) (.int (k : Int))).bind _ = _
    rw [g]; rfl
  have b3 : pMin2 [.int (m : Int), .int (gv szs k)] = some (.int n) := by rw [← hn]; simp
  have b4 : (eCall pMin2 (aCons (eVar 1) (aCons (eIxV 2 (eCallM 0 s_law_take (aCons (eC (.int 20)) aNil))) aNil))) [.par cs, .val (.int m), .val (.list W)] = some (.int n, [.par c1, .val (.int m), .val (.list W)]) := call2_eq rfl b2 b3
  have b5 := callM0 (p := s_law_order) (acons_eq b4 (show aNil _ = some ([], _) from rfl)) o1
  show (b_law_pattern [.par cs, .val (.int m), .no]).bind _ = _
  rw [show b_law_pattern [.par cs, .val (.int m), .no] = _ from (seq_nx a1).trans (ret_eq b5)]; rfl
theorem ll_loop {m : Nat} (hm : 1 ≤ m) {n : PyData} {s3 : Slot} : ∀ (xs : List PyData) (acc : List (List Int)) (cs : List PyData) (s : Slot), PotOk cs → acc.length + xs.length ≤ 1000 → ∃ rows cs' s', lcLoop (gxName 4) tYesX (eCallM 0 s_law_pattern (aCons (eVar 1) aNil)) [4] xs (TT acc) [.par cs, .val (.int m), .val n, s3, s] = some (TT (acc ++ rows), [.par cs', .val (.int m), .val n, s3, s']) ∧ PotOk cs' ∧ rows.length = xs.length ∧ Pats 5 rows
  | [], acc, cs, s, h, _ => ⟨[], cs, s, by rw [List.append_nil]; rfl, h, rfl, fun p hp => by cases hp⟩
  | x :: xs, acc, cs, s, h, hl => by
    simp only [List.length_cons] at hl
    obtain ⟨o, c1, o1, o2, o3, o4, o5⟩ := pattern_eq h m hm
    obtain ⟨rows, c2, s', g1, g2, g3, g4⟩ := ll_loop (m := m) hm (n := n) (s3 := s3) xs (acc ++ [o]) c1 (.val x) o2 (by simp; omega)
    refine ⟨o :: rows, c2, s', ?_, g2, by simp [g3], fun p hp => ?_⟩
    · have e : acc ++ o :: rows = acc ++ [o] ++ rows := by simp
      rw [e, ← g1]
      have f1 : eCallM 0 s_law_pattern (aCons (eVar 1) aNil) [.par cs, .val (.int m), .val n, s3, .val x] = some (T o, [.par c1, .val (.int m), .val n, s3, .val x]) := callM0 rfl o1
      have e4 : TT (acc ++ [o]) = TT acc ++ [T o] := List.map_append
      rw [e4]
      show ((eCallM 0 s_law_pattern (aCons (eVar 1) aNil)) [.par cs, .val (.int m), .val n, s3, .val x]).bind _ = _
      rw [f1]
      show (if (TT acc).length < 100000 then _ else none) = _
      rw [if_pos (by rw [List.length_map]; omega)]
    · rcases List.mem_cons.mp hp with rfl | hp
      · exact ⟨o3, o4, o5⟩
      · exact g4 p hp
theorem ne_nilTT (l : List (List Int)) : pNe (.list (TT l)) (.list []) = some (.bool (!l.isEmpty)) := by
  unfold pNe
  rw [if_pos ⟨sh_TT l, rfl⟩]
  cases l with
  | nil => rfl
  | cons x D => rfl
theorem and_yes {t u : TX} {Γ Γ1 : Z.Env} (h : t Γ = some (true, Γ1)) : tAndX t u Γ = u Γ1 := by
  show (t Γ).bind _ = _
  rw [h]; rfl
theorem and_no {t u : TX} {Γ Γ1 : Z.Env} (h : t Γ = some (false, Γ1)) : tAndX t u Γ = some (false, Γ1) := by
  show (t Γ).bind _ = _
  rw [h]; rfl
abbrev llT : TX := (tAndX (tBor (tOf (eOp pNe (eVar 3) (eLst aNil)))) (tAndX (tOf (eOp pLt (eLenV 3) (eVar 2))) (tOf (eOp pEq (eCallM 0 s_law_take (aCons (eC (.int 4)) aNil)) (eC (.int 0))))))
abbrev llI : SX := (sIns 3 (eCallM 0 s_law_take (aCons (eOp pAdd (eLenV 3) (eC (.int 1))) aNil)) (eIxV 3 (eCallM 0 s_law_take (aCons (eLenV 3) aNil))))
section
variable {m n : Nat} {rows : List (List Int)} {cs : List PyData}
theorem llT_eq (h : PotOk cs) (hl : rows.length ≤ 1000) : ∃ b cs', llT [.par cs, .val (.int m), .val (.int n), .own (TT rows), .no] = some (b, [.par cs', .val (.int m), .val (.int n), .own (TT rows), .no]) ∧ PotOk cs' ∧ (b = true → rows ≠ [] ∧ rows.length < n) := by
  have e1 : tBor (tOf (eOp pNe (eVar 3) (eLst aNil))) [.par cs, .val (.int m), .val (.int n), .own (TT rows), .no] = some (!rows.isEmpty, [.par cs, .val (.int m), .val (.int n), .own (TT rows), .no]) := by
    have := ne_nilTT rows
    have f : eOp pNe (eVar 3) (eLst aNil) ([.par cs, .val (.int m), .val (.int n), .own (TT rows), .no].map Slot.shown) = some (.bool (!rows.isEmpty), [.par cs, .val (.int m), .val (.int n), .own (TT rows), .no].map Slot.shown) := op_eq (x := .list (TT rows)) (y := .list []) rfl rfl this
    show ((eOp pNe (eVar 3) (eLst aNil) ([.par cs, .val (.int m), .val (.int n), .own (TT rows), .no].map Slot.shown)).bind _).bind _ = _
    rw [f]; rfl
  have e2 : tOf (eOp pLt (eLenV 3) (eVar 2)) [.par cs, .val (.int m), .val (.int n), .own (TT rows), .no] = some (decide (rows.length < n), [.par cs, .val (.int m), .val (.int n), .own (TT rows), .no]) := by
    have hl : (TT rows).length = rows.length := List.length_map _
    generalize TT rows = W at *
    simp [pLt, pCmp, hl]
  obtain ⟨k, c1, t1, t2, t3⟩ := take_eq h 4 (by decide)
  have e3 : tOf (eOp pEq (eCallM 0 s_law_take (aCons (eC (.int 4)) aNil)) (eC (.int 0))) [.par cs, .val (.int m), .val (.int n), .own (TT rows), .no] = some (decide ((k : Int) = 0), [.par c1, .val (.int m), .val (.int n), .own (TT rows), .no]) := by
    have f := op_eq (p := pEq) (g := eC (.int 0)) (callM0 (r0 := [.val (.int m), .val (.int n), .own (TT rows), .no]) (a := aCons (eC (.int 4)) aNil) rfl t1) rfl (show pEq (.int (k : Int)) (.int 0) = some (.bool (decide ((k : Int) = 0))) from by simp)
    show ((eOp pEq _ _ _).bind _) = _
    rw [f]; rfl
  cases h1 : rows.isEmpty with
  | true =>
    rw [h1] at e1
    exact ⟨false, cs, and_no e1, h, fun h => by cases h⟩
  | false =>
    rw [h1] at e1
    have hne : rows ≠ [] := fun z => by rw [z] at h1; cases h1
    by_cases h2 : rows.length < n
    · rw [decide_eq_true h2] at e2
      exact ⟨decide ((k : Int) = 0), c1, (and_yes e1).trans ((and_yes e2).trans e3), t3, fun _ => ⟨hne, h2⟩⟩
    · rw [decide_eq_false h2] at e2
      exact ⟨false, cs, (and_yes e1).trans (and_no e2), h, fun h => by cases h⟩
theorem llI_eq (h : PotOk cs) (hl : rows.length ≤ 1000) (hne : rows ≠ []) : ∃ (p : Nat) (x : List Int) (cs' : List PyData), llI [.par cs, .val (.int m), .val (.int n), .own (TT rows), .no] = some (.nx [.par cs', .val (.int m), .val (.int n), .own (TT (rows.take p ++ [x] ++ rows.drop p)), .no]) ∧ PotOk cs' ∧ x ∈ rows := by
  have hpos := List.length_pos_iff.mpr hne
  have hl2 : (TT rows).length = rows.length := List.length_map _
  obtain ⟨p, c1, t1, t2, t3⟩ := take_eq h (rows.length + 1) (by omega)
  obtain ⟨j, c2, u1, u2, u3⟩ := take_eq t3 rows.length (by omega)
  have t1' : s_law_take cs [.int ((rows.length : Int) + 1)] = some (.int p, c1) := t1
  have e1 : eCallM 0 s_law_take (aCons (eOp pAdd (eLenV 3) (eC (.int 1))) aNil) [.par cs, .val (.int m), .val (.int n), .own (TT rows), .no] = some (.int p, [.par c1, .val (.int m), .val (.int n), .own (TT rows), .no]) := by
    refine callM0 (cs := cs) (xs := [.int ((rows.length : Int) + 1)]) (r1 := [.val (.int m), .val (.int n), .own (TT rows), .no]) ?_ t1'
    rw [← hl2]
    generalize TT rows = W at *
    simp
  have e2 : eCallM 0 s_law_take (aCons (eLenV 3) aNil) [.par c1, .val (.int m), .val (.int n), .own (TT rows), .no] = some (.int j, [.par c2, .val (.int m), .val (.int n), .own (TT rows), .no]) := by
    refine callM0 (cs := c1) (xs := [.int (rows.length : Int)]) (r1 := [.val (.int m), .val (.int n), .own (TT rows), .no]) ?_ u1
    rw [← hl2]
    generalize TT rows = W at *
    simp
  have hj : (TT rows)[j]? = some (T rows[j]) := by rw [List.getElem?_map, List.getElem?_eq_getElem u2]; rfl
  have g := pIx_L hj
  have e3 : eIxV 3 (eCallM 0 s_law_take (aCons (eLenV 3) aNil)) [.par c1, .val (.int m), .val (.int n), .own (TT rows), .no] = some (T rows[j], [.par c2, .val (.int m), .val (.int n), .own (TT rows), .no]) := by
    show ((eCallM 0 s_law_take (aCons (eLenV 3) aNil)) [.par c1, .val (.int m), .val (.int n), .own (TT rows), .no]).bind _ = _
    rw [e2]
    show (pIx (.list (TT rows)) (.int (j : Int))).bind _ = _
    rw [g]; rfl
  refine ⟨p, rows[j], c2, ?_, u3, List.getElem_mem u2⟩
  show ((eCallM 0 s_law_take (aCons (eOp pAdd (eLenV 3) (eC (.int 1))) aNil)) [.par cs, .val (.int m), .val (.int n), .own (TT rows), .no]).bind _ = _
  rw [e1]
  show ((eIxV 3 (eCallM 0 s_law_take (aCons (eLenV 3) aNil))) [.par c1, .val (.int m), .val (.int n), .own (TT rows), .no]).bind _ = _
  rw [e3]
  show (if (TT rows).length < 100000 ∧ 0 ≤ (p : Int) ∧ (p : Int) < 100000 then some (Out.nx (ownSet [.par c2, .val (.int m), .val (.int n), .own (TT rows), .no] 3 ((TT rows).take (p : Int).toNat ++ [T rows[j]] ++ (TT rows).drop (p : Int).toNat))) else none) = _
  rw [if_pos (by rw [hl2]; omega), show ((p : Int)).toNat = p by omega]
  have e4 : TT (rows.take p ++ [rows[j]] ++ rows.drop p) = (TT rows).take p ++ [T rows[j]] ++ (TT rows).drop p := by
    show List.map T _ = _
    rw [List.map_append, List.map_append, List.map_take, List.map_drop]; rfl
  rw [e4]; rfl
theorem list_eq (h : PotOk cs) (hm : 1 ≤ m) (hn : n ≤ 100) : ∃ rows cs', s_law_list cs [.int m, .int n] = some (.tuple (TT rows), cs') ∧ PotOk cs' ∧ rows.length ≤ n ∧ Pats 5 rows := by
  obtain ⟨k, c1, t1, t2, t3⟩ := take_eq h (n + 1) (by omega)
  have t1' : s_law_take cs [.int ((n : Int) + 1)] = some (.int k, c1) := t1
  obtain ⟨rows, c2, s', g1, g2, g3, g4⟩ := ll_loop (m := m) hm (n := .int n) (s3 := .no) ((rgI 0 1 k).map .int) [] c1 .no t3 (by rw [List.length_map, Om.rg_len]; simp; omega)
  rw [List.length_map, Om.rg_len] at g3
  have b1 : eCallM 0 s_law_take (aCons (eOp pAdd (eVar 2) (eC (.int 1))) aNil) [.par cs, .val (.int m), .val (.int n), .no, .no] = some (.int k, [.par c1, .val (.int m), .val (.int n), .no, .no]) :=
    callM0 (xs := [.int ((n : Int) + 1)]) (by simp) t1'
  have b2 : itRange (aCons (eCallM 0 s_law_take (aCons (eOp pAdd (eVar 2) (eC (.int 1))) aNil)) aNil) [.par cs, .val (.int m), .val (.int n), .no, .no] = some ((rgI 0 1 k).map .int, [.par c1, .val (.int m), .val (.int n), .no, .no]) := by
    show (aCons _ aNil _).bind _ = _
    rw [acons_eq b1 (show aNil _ = some ([], _) from rfl)]
    show (rangeOf [.int (k : Int)]).bind _ = _
    rw [rangeN _ (by omega)]; rfl
  have a1 : sSet 3 (nLc (itRange (aCons (eCallM 0 s_law_take (aCons (eOp pAdd (eVar 2) (eC (.int 1))) aNil)) aNil)) (gxName 4) tYesX (eCallM 0 s_law_pattern (aCons (eVar 1) aNil)) [4]) [.par cs, .val (.int m), .val (.int n), .no, .no] = some (.nx [.par c2, .val (.int m), .val (.int n), .own (TT rows), .no]) := by
    have : nLc (itRange (aCons (eCallM 0 s_law_take (aCons (eOp pAdd (eVar 2) (eC (.int 1))) aNil)) aNil)) (gxName 4) tYesX (eCallM 0 s_law_pattern (aCons (eVar 1) aNil)) [4] [.par cs, .val (.int m), .val (.int n), .no, .no] = some (.own (TT rows), [.par c2, .val (.int m), .val (.int n), .no, .no]) := by
      show (itRange _ _).bind _ = _
      rw [b2]
      show ((lcLoop (gxName 4) tYesX (eCallM 0 s_law_pattern (aCons (eVar 1) aNil)) [4] ((rgI 0 1 k).map .int) (TT []) [.par c1, .val (.int m), .val (.int n), .no, .no]).bind _) = _
      rw [g1]; rfl
    show (nLc _ _ _ _ _ _).bind _ = _
    rw [this]; rfl
  obtain ⟨b, c3, d1, d2, d3⟩ := llT_eq (m := m) (n := n) (rows := rows) g2 (by omega)
  have fin : ∀ (rows' : List (List Int)) (c4 : List PyData), sIf llT llI sNext [.par c2, .val (.int m), .val (.int n), .own (TT rows), .no] = some (.nx [.par c4, .val (.int m), .val (.int n), .own (TT rows'), .no]) → s_law_list cs [.int m, .int n] = some (.tuple (TT rows'), c4) := fun rows' c4 hh => by
    show (b_law_list [.par cs, .val (.int m), .val (.int n), .no, .no]).bind _ = _
    rw [show b_law_list [.par cs, .val (.int m), .val (.int n), .no, .no] = _ from (seq_nx a1).trans (seq_nx hh)]
    rfl
  cases b with
  | false =>
    exact ⟨rows, c3, fin rows c3 (ifno_eq d1), d2, by omega, g4⟩
  | true =>
    obtain ⟨hne, hlt⟩ := d3 rfl
    obtain ⟨p, x, c4, i1, i2, i3⟩ := llI_eq (m := m) (n := n) (rows := rows) d2 (by omega) hne
    refine ⟨_, c4, fin _ c4 ((ifyes_eq d1).trans i1), i2, ?_, fun y hy => ?_⟩
    · simp only [List.length_append, List.length_take, List.length_drop, List.length_singleton]
      omega
    · rcases List.mem_append.mp hy with hy | hy
      · rcases List.mem_append.mp hy with hy | hy
        · exact g4 y (List.mem_of_mem_take hy)
        · obtain rfl : y = x := by simpa using hy
          exact g4 y i3
      · exact g4 y (List.mem_of_mem_drop hy)
end
end Law
set_option Elab.async false
set_option linter.all false
set_option maxRecDepth 100000
set_option maxHeartbeats 400000
namespace Law
open PySem Z Sw
theorem pats_lst {N : Nat} {L : List (List Int)} (h : Pats N L) : Pats N (lst [] L) := fun p hp => h p ((lst_sublist L []).subset hp)
theorem pats_asc {N : Nat} {L : List (List Int)} (h : Pats N L) : Pats N (asc L) := fun p hp => h p (mem_asc.mp hp)
theorem lst_len (L : List (List Int)) : (lst [] L).length ≤ L.length := (lst_sublist L []).length_le
theorem app_eq {Γ : Z.Env} {i : Nat} {f : EX} {ds : List PyData} {z : PyData} (h1 : ownAt Γ i = some ds) (h2 : f Γ = some (z, Γ)) (hl : ds.length < 100000) : sApp i f Γ = some (.nx (ownSet Γ i (ds ++ [z]))) := by
  show (ownAt Γ i).bind _ = _
  rw [h1]
  show (f Γ).bind _ = _
  rw [h2]
  show (ownAt Γ i).bind _ = _
  rw [h1]
  exact if_pos hl
theorem TT_snoc (k : List (List Int)) (x : List Int) : TT (k ++ [x]) = TT k ++ [T x] := List.map_append
/-! ### the law's own least list -/
theorem law_least_eq {d : PyData} {L : List (List Int)} (hd : seqOf d = some (TT L)) (hl : L.length ≤ 1000) (hL : Pats 12 L) : s_law_least [d] = some (.tuple (TT (lst [] (asc L)))) := by
  have hs := sorted_eq hd hl (fun r hr => by have := (hL r hr).2.2; omega)
  have hA := pats_asc hL
  have hAl := ascl_len L
  generalize asc L = A at *
  obtain ⟨Γ', h1, s2, h2⟩ := forLoop_map (g := gxName 2) (b := (sIf (tBor (tTruX (eCall s_law_lets (aCons (eVar 1) (aCons (eVar 2) aNil))))) (sApp 1 (eVar 2)) sNext)) T (fun pre Γ => ∃ s2, Γ = [.val d, .own (TT (lst [] pre)), s2]) A
    (fun pre x post Γ e ⟨s2, hΓ⟩ => by
      subst hΓ
      obtain ⟨k1, k2, k3⟩ := hA x (by rw [e]; simp)
      have hpre : pre.length ≤ A.length := by rw [e]; simp
      have hk := lst_len pre
      have hP : Pats 900 (lst [] pre) := fun p hp => by
        obtain ⟨a1, a2, a3⟩ := hA p (by rw [e]; exact List.mem_append_left _ ((lst_sublist pre []).subset hp))
        exact ⟨a1, a2, by omega⟩
      have t := lets_eq (d := .list (TT (lst [] pre))) (L := lst [] pre) rfl (by omega) k3 k1 hP
      rw [lst_snoc]
      generalize lst [] pre = K at *
      have t2 : tBor (tTruX (eCall s_law_lets (aCons (eVar 1) (aCons (eVar 2) aNil)))) [.val d, .own (TT K), .val (T x)] = some (lets K x, [.val d, .own (TT K), .val (T x)]) := by
        have f : (eCall s_law_lets (aCons (eVar 1) (aCons (eVar 2) aNil))) ([.val d, .own (TT K), .val (T x)].map Slot.shown) = some (.bool (lets K x), [.val d, .own (TT K), .val (T x)].map Slot.shown) := call2_eq rfl rfl t
        show (tTruX (eCall s_law_lets (aCons (eVar 1) (aCons (eVar 2) aNil))) ([.val d, .own (TT K), .val (T x)].map Slot.shown)).bind _ = _
        rw [tru_eq f]; rfl
      cases hx : lets K x with
      | true =>
        rw [hx] at t2
        refine ⟨[.val d, .own (TT K), .val (T x)], [.val d, .own (TT (K ++ [x])), .val (T x)], rfl, .inl ?_, _, rfl⟩
        rw [ifyes_eq t2, app_eq (ds := TT K) (z := T x) rfl rfl (by rw [List.length_map]; omega), TT_snoc]; rfl
      | false =>
        rw [hx] at t2
        exact ⟨_, _, rfl, .inl ((ifno_eq t2).trans rfl), _, rfl⟩)
    (Γ := [.val d, .own [], .no]) ⟨_, rfl⟩
  subst h2
  have a1 : sSet 1 (nLst aNil) [.val d, .no, .no] = some (.nx [.val d, .own [], .no]) := rfl
  have a2 : sFor (itSeq (eCall s_law_sorted (aCons (eVar 0) aNil))) (gxName 2) (sIf (tBor (tTruX (eCall s_law_lets (aCons (eVar 1) (aCons (eVar 2) aNil))))) (sApp 1 (eVar 2)) sNext) [.val d, .own [], .no] = some (.nx [.val d, .own (TT (lst [] A)), s2]) := by
    rw [← h1]
    have : eCall s_law_sorted (aCons (eVar 0) aNil) [.val d, .own [], .no] = some (.list (TT A), [.val d, .own [], .no]) := call1_eq rfl hs
    show ((eCall s_law_sorted (aCons (eVar 0) aNil) [.val d, .own [], .no]).bind _).bind _ = _
    rw [this]; rfl
  show (b_law_least [.val d, .no, .no]).bind _ = _
  rw [show b_law_least [.val d, .no, .no] = _ from (seq_nx a1).trans (seq_nx a2)]; rfl
/-! ### the program's least list -/
abbrev loT : TX := (tAndX (tBor (tTruX (eVar 1))) (tOf (eOp pLt (eCall pLen (aCons (eIxV 1 (eUn pNeg (eC (.int 1)))) aNil)) (eLenV 3))))
abbrev loA : SX := (sIf loT (sSet 2 (nVal (eListO 1))) sNext)
abbrev loB : SX := (sIf (tTruX (eCall s_does_let (aCons (eVar 2) (aCons (eVar 3) aNil)))) (sApp 1 (eVar 3)) sNext)
theorem last_ix {K : List (List Int)} {l : List Int} (h : K.getLast? = some l) : pIx (.list (TT K)) (.int (-1)) = some (T l) := by
  have hp : 0 < K.length := by
    cases K with
    | nil => cases h
    | cons x K => simp
  have e : (TT K)[K.length - 1]? = some (T l) := by
    rw [List.getLast?_eq_getElem?] at h
    rw [List.getElem?_map, h]; rfl
  have h2 : L2.ixN (TT K).length (-1) = some (K.length - 1) := by rw [List.length_map]; exact ixN_last hp
  generalize TT K = W at *
  simp [pIx, seqOf, h2, e]
theorem loT_eq {d s2 : PyData} {K : List (List Int)} {x : List Int} : loT [.val d, .own (TT K), .val s2, .val (T x)] = some ((match K.getLast? with | none => false | some l => decide (l.length < x.length)), [.val d, .own (TT K), .val s2, .val (T x)]) := by
  have e1 : tBor (tTruX (eVar 1)) [.val d, .own (TT K), .val s2, .val (T x)] = some (!K.isEmpty, [.val d, .own (TT K), .val s2, .val (T x)]) := by
    cases K with
    | nil => rfl
    | cons y K => rfl
  cases hK : K.getLast? with
  | none =>
    have : K = [] := List.getLast?_eq_none_iff.mp hK
    subst this
    exact and_no e1
  | some l =>
    have hne : K.isEmpty = false := by
      cases K with
      | nil => cases hK
      | cons y K => rfl
    rw [hne] at e1
    refine (and_yes e1).trans ?_
    have g := last_ix hK
    have f1 : eIxV 1 (eUn pNeg (eC (.int 1))) [.val d, .own (TT K), .val s2, .val (T x)] = some (T l, [.val d, .own (TT K), .val s2, .val (T x)]) := by
      show (pIx (.list (TT K)) (.int (-1))).bind _ = _
      rw [g]; rfl
    generalize TT K = W at *
    have f2 : eCall pLen (aCons (eIxV 1 (eUn pNeg (eC (.int 1)))) aNil) [.val d, .own W, .val s2, .val (T x)] = some (.int (l.length : Int), [.val d, .own W, .val s2, .val (T x)]) := call1_eq f1 (by simp)
    have f3 : eLenV 3 [.val d, .own W, .val s2, .val (T x)] = some (.int (x.length : Int), [.val d, .own W, .val s2, .val (T x)]) := by simp
    have f4 := op_eq (p := pLt) (z := .bool (decide (l.length < x.length))) f2 f3 (by simp [pLt, pCmp])
    show (eOp pLt _ _ _).bind _ = _
    rw [f4]; rfl
/-- what the loop of least_of keeps -/
structure LoI (K short : List (List Int)) : Prop where
  sub : ∀ x ∈ short, x ∈ K
  rest : ∀ x ∈ K, x ∈ short ∨ ∃ l, K.getLast? = some l ∧ x.length = l.length
theorem lo_step {d : PyData} {pre short : List (List Int)} {x : List Int} (hA : Pats 12 (pre ++ [x])) (hs : (pre ++ [x]).Pairwise lt2) (hl : pre.length ≤ 1000) (I : LoI (lst [] pre) short) :
    ∃ short', (sSeq loA loB) [.val d, .own (TT (lst [] pre)), .val (.list (TT short)), .val (T x)] = some (.nx [.val d, .own (TT (lst [] (pre ++ [x]))), .val (.list (TT short')), .val (T x)]) ∧ LoI (lst [] (pre ++ [x])) short' := by
  obtain ⟨k1, k2, k3⟩ := hA x (by simp)
  have hk := lst_len pre
  have hsub : ∀ y ∈ lst [] pre, y ∈ pre := fun y hy => (lst_sublist pre []).subset hy
  have hP : Pats 12 (lst [] pre) := fun p hp => hA p (List.mem_append_left _ (hsub p hp))
  have hlt : ∀ y ∈ lst [] pre, lt2 y x := fun y hy => (List.pairwise_append.mp hs).2.2 y (hsub y hy) x (by simp)
  rw [lst_snoc]
  generalize lst [] pre = K at *
  -- the shorter ones, brought up to date
  have key : ∃ short', loA [.val d, .own (TT K), .val (.list (TT short)), .val (T x)] = some (.nx [.val d, .own (TT K), .val (.list (TT short')), .val (T x)]) ∧ (∀ y ∈ short', y ∈ K) ∧ (∀ y ∈ K, y ∈ short' ∨ (y.length = x.length ∧ ∃ l, K.getLast? = some l ∧ y.length = l.length)) := by
    have t := loT_eq (d := d) (s2 := .list (TT short)) (K := K) (x := x)
    cases hK : K.getLast? with
    | none =>
      rw [hK] at t
      have : K = [] := List.getLast?_eq_none_iff.mp hK
      refine ⟨short, (ifno_eq t).trans rfl, I.sub, fun y hy => ?_⟩
      rw [this] at hy; cases hy
    | some l =>
      rw [hK] at t
      by_cases hh : l.length < x.length
      · have t : loT [.val d, .own (TT K), .val (.list (TT short)), .val (T x)] = some (true, [.val d, .own (TT K), .val (.list (TT short)), .val (T x)]) := by
          rw [t]; simp [hh]
        exact ⟨K, (ifyes_eq t).trans rfl, fun _ h => h, fun y hy => .inl hy⟩
      · have t : loT [.val d, .own (TT K), .val (.list (TT short)), .val (T x)] = some (false, [.val d, .own (TT K), .val (.list (TT short)), .val (T x)]) := by
          rw [t]; simp [hh]
        have hle := lt2_len (hlt l (List.mem_of_getLast? hK))
        refine ⟨short, (ifno_eq t).trans rfl, I.sub, fun y hy => ?_⟩
        rcases I.rest y hy with h | ⟨l', h1, h2⟩
        · exact .inl h
        · rw [hK] at h1
          obtain rfl := Option.some.inj h1
          exact .inr ⟨by omega, _, rfl, h2⟩
  obtain ⟨short', a1, a2, a3⟩ := key
  have hls : lets short' x = lets K x := lets_short (N := 12) (by omega) hP k1 a2 (fun y hy => by
    rcases a3 y hy with h | ⟨h, _⟩
    · exact .inl h
    · exact .inr ⟨h, fun z => lt2_irr _ (by have := hlt y hy; rwa [z] at this)⟩)
  have t := let_eq (d := .list (TT short')) (L := short') rfl (o := x) (by omega) (fun p hp => by
    obtain ⟨b1, b2, b3⟩ := hP p (a2 p hp)
    exact ⟨b1, b2, by omega⟩)
  rw [hls] at t
  have t2 : (eCall s_does_let (aCons (eVar 2) (aCons (eVar 3) aNil))) [.val d, .own (TT K), .val (.list (TT short')), .val (T x)] = some (.bool (lets K x), [.val d, .own (TT K), .val (.list (TT short')), .val (T x)]) := call2_eq rfl rfl t
  refine ⟨short', ?_, ?_⟩
  · rw [seq_nx a1]
    cases hx : lets K x with
    | true =>
      rw [hx] at t2
      rw [show loB _ = _ from ifyes_eq (tru_eq t2), app_eq (ds := TT K) (z := T x) rfl rfl (by rw [List.length_map]; omega), if_pos rfl, TT_snoc]; rfl
    | false =>
      rw [hx] at t2
      rw [show loB _ = _ from ifno_eq (tru_eq t2)]; rfl
  · cases hx : lets K x with
    | true =>
      refine ⟨fun y hy => List.mem_append_left _ (a2 y hy), fun y hy => ?_⟩
      rw [if_pos rfl] at *
      rcases List.mem_append.mp hy with hy | hy
      · rcases a3 y hy with h | ⟨h, _⟩
        · exact .inl h
        · exact .inr ⟨x, List.getLast?_concat, h⟩
      · obtain rfl : y = x := by simpa using hy
        exact .inr ⟨y, List.getLast?_concat, rfl⟩
    | false =>
      refine ⟨a2, fun y hy => ?_⟩
      rcases a3 y hy with h | ⟨_, h⟩
      · exact .inl h
      · exact .inr h
theorem least_of_eq {d : PyData} {L : List (List Int)} (hd : seqOf d = some (TT L)) (hl : L.length ≤ 1000) (hL : Pats 12 L) : s_least_of [d] = some (.tuple (TT (lst [] (asc L)))) := by
  have hs := ascending_eq hd (by omega)
  have hA := pats_asc hL
  have hAl := ascl_len L
  have hpw := asc_pw L
  generalize asc L = A at *
  obtain ⟨Γ', h1, short, s3, h2, _⟩ := forLoop_map (g := gxName 3) (b := sSeq loA loB) T (fun pre Γ => ∃ short s3, Γ = [.val d, .own (TT (lst [] pre)), .val (.list (TT short)), s3] ∧ LoI (lst [] pre) short) A
    (fun pre x post Γ e ⟨short, s3, hΓ, I⟩ => by
      subst hΓ
      have hin : ∀ y ∈ pre ++ [x], y ∈ A := fun y hy => by
        rw [e]
        rcases List.mem_append.mp hy with h | h
        · exact List.mem_append_left _ h
        · obtain rfl : y = x := by simpa using h
          simp
      have hp2 : (pre ++ [x]).Pairwise lt2 := by
        rw [e, show pre ++ x :: post = (pre ++ [x]) ++ post by simp] at hpw
        exact (List.pairwise_append.mp hpw).1
      have hpre : pre.length ≤ A.length := by rw [e]; simp
      obtain ⟨short', g1, g2⟩ := lo_step (d := d) (short := short) (fun p hp => hA p (hin p hp)) hp2 (by omega) I
      exact ⟨_, _, rfl, .inl g1, short', _, rfl, g2⟩)
    (Γ := [.val d, .own [], .val (.list []), .no]) ⟨[], _, rfl, ⟨fun x hx => hx, fun x hx => .inl hx⟩⟩
  subst h2
  have a1 : sSet 1 (nLst aNil) [.val d, .no, .no, .no] = some (.nx [.val d, .own [], .no, .no]) := rfl
  have a1' : sSet 2 (nVal (eLst aNil)) [.val d, .own [], .no, .no] = some (.nx [.val d, .own [], .val (.list []), .no]) := rfl
  have a2 : sFor (itSeq (eCall s_ascending (aCons (eVar 0) aNil))) (gxName 3) (sSeq loA loB) [.val d, .own [], .val (.list []), .no] = some (.nx [.val d, .own (TT (lst [] A)), .val (.list (TT short)), s3]) := by
    rw [← h1]
    have : eCall s_ascending (aCons (eVar 0) aNil) [.val d, .own [], .val (.list []), .no] = some (.list (TT A), [.val d, .own [], .val (.list []), .no]) := call1_eq rfl hs
    show ((eCall s_ascending (aCons (eVar 0) aNil) [.val d, .own [], .val (.list []), .no]).bind _).bind _ = _
    rw [this]; rfl
  show (b_least_of [.val d, .no, .no, .no]).bind _ = _
  rw [show b_least_of [.val d, .no, .no, .no] = _ from (seq_nx a1).trans ((seq_nx a1').trans (seq_nx a2))]; rfl
theorem drop_eq {f : EX} {Γ Γ1 : Z.Env} {z : PyData} (h : f Γ = some (z, Γ1)) : sDrop f Γ = some (.nx Γ1) := by
  show (f Γ).bind _ = _
  rw [h]; rfl
theorem plets_eq {L : List (List Int)} (hL : Pats 12 L) {o : List Int} (ho : o.length ≤ 16) (ko : Om.IsR 1 o) : s_lets [.tuple (TT L), T o] = some (.bool (lets L o)) := by
  have h1 := check_list_ok (L := L) (fun p hp => by obtain ⟨b1, b2, b3⟩ := hL p hp; exact ⟨b1, b2, by omega⟩)
  have h2 := check_ok (o := o) (by omega) ko
  have h3 := let_eq (d := .tuple (TT L)) (L := L) rfl ho (fun p hp => by obtain ⟨b1, b2, b3⟩ := hL p hp; exact ⟨b1, b2, by omega⟩)
  generalize PyData.tuple (TT L) = d at *
  generalize T o = e at *
  show (b_lets [.val d, .val e]).bind _ = _
  rw [show b_lets [.val d, .val e] = _ from (seq_nx (drop_eq (call1_eq (show eVar 0 [.val d, .val e] = some (d, [.val d, .val e]) from rfl) h1))).trans ((seq_nx (drop_eq (call1_eq (show eVar 1 [.val d, .val e] = some (e, [.val d, .val e]) from rfl) h2))).trans (ret_eq (call2_eq (show eVar 0 [.val d, .val e] = some (d, [.val d, .val e]) from rfl) (show eVar 1 [.val d, .val e] = some (e, [.val d, .val e]) from rfl) h3)))]; rfl
end Law
set_option Elab.async false
set_option linter.all false
set_option maxRecDepth 100000
set_option maxHeartbeats 400000
/-! the least list: those that show no other one -/
namespace Sw
open PySem Z
theorem pw_lst {A : List (List Int)} (h : A.Pairwise lt2) : (lst [] A).Pairwise lt2 := h.sublist (by have := lst_sublist A []; rwa [List.nil_append] at this)
/-- of two kept ones none shows the other -/
theorem kept_apart {K : List (List Int)} (h1 : K.Pairwise lt2) (h2 : K.Pairwise fun q p => sh p q = false) {a b : List Int} (ha : a ∈ K) (hb : b ∈ K) (h : lt2 a b) : sh b a = false := by
  obtain ⟨i, hi, rfl⟩ := List.getElem_of_mem ha
  obtain ⟨j, hj, rfl⟩ := List.getElem_of_mem hb
  rcases Nat.lt_trichotomy i j with k | k | k
  · exact List.pairwise_iff_getElem.mp h2 i j hi hj k
  · subst k; exact (lt2_irr _ h).elim
  · exact (lt2_irr _ (lt2_trans h (List.pairwise_iff_getElem.mp h1 j i hj hi k))).elim
theorem mem_least {N : Nat} (hN : N ≤ 900) {L : List (List Int)} (h : Pats N L) {p : List Int} : p ∈ lst [] (asc L) ↔ p ∈ L ∧ ∀ q ∈ L, sh p q = true → q = p := by
  have hsub : ∀ x ∈ lst [] (asc L), x ∈ L := fun x hx => mem_asc.mp ((lst_sublist (asc L) []).subset hx)
  have hpw := pw_lst (asc_pw L)
  have hgd := lst_good (asc L) [] .nil
  constructor
  · intro hp
    refine ⟨hsub p hp, fun q hq hs => Classical.byContradiction fun hne => ?_⟩
    obtain ⟨kp, _, lp⟩ := h p (hsub p hp)
    obtain ⟨kq, _, lq⟩ := h q hq
    have hlen := sh_len kp kq (by omega) hs
    have hlt : q.length < p.length := by
      refine Classical.byContradiction fun hc => ?_
      exact hne (sh_same kp kq (by omega) (by omega) hs)
    -- a kept one that q shows
    have hd : ∃ d ∈ lst [] (asc L), sh q d = true := by
      rcases lst_shows (asc L) [] q (mem_asc.mpr hq) with h1 | h1
      · exact ⟨q, h1, sh_refl kq (by omega)⟩
      · exact h1
    obtain ⟨d, hd, hqd⟩ := hd
    obtain ⟨kd, _, ld⟩ := h d (hsub d hd)
    have hdl := sh_len kq kd (by omega) hqd
    have := kept_apart hpw hgd hd hp (.inl (by omega))
    rw [sh_trans kp kq kd (by omega) (by omega) hs hqd] at this
    cases this
  · rintro ⟨hp, hm⟩
    rcases lst_shows (asc L) [] p (mem_asc.mpr hp) with h1 | ⟨q, h1, h2⟩
    · exact h1
    · rw [hm q (hsub q h1) h2] at h1
      exact h1
theorem least_ext {L M : List (List Int)} (h : ∀ x, x ∈ lst [] (asc L) ↔ x ∈ lst [] (asc M)) : lst [] (asc L) = lst [] (asc M) :=
  pw2_uniq (pw_lst (asc_pw L)) (pw_lst (asc_pw M)) h
theorem pats_mono' {N M : Nat} {L : List (List Int)} (h : N ≤ M) (hL : Pats N L) : Pats M L := fun p hp => by obtain ⟨a, b, c⟩ := hL p hp; exact ⟨a, b, by omega⟩
theorem pats_least {N : Nat} {L : List (List Int)} (h : Pats N L) : Pats N (lst [] (asc L)) := fun p hp => h p (mem_asc.mp ((lst_sublist (asc L) []).subset hp))
/-! ### turned about, mirrored, inverse -/
structure Turn (f : List Int → List Int) : Prop where
  ord : ∀ {o}, Om.IsR 1 o → Om.IsR 1 (f o)
  len : ∀ o, (f o).length = o.length
  inv : ∀ {o}, Om.IsR 1 o → f (f o) = o
  sh : ∀ {o q}, Om.IsR 1 o → Om.IsR 1 q → q.length ≤ 900 → sh (f o) (f q) = sh o q
theorem perm_empty {α : Type} {l m : List α} (h : l.length = m.length) : l.isEmpty = m.isEmpty := by
  cases l <;> cases m <;> first | rfl | simp at h
theorem turn_rev : Turn List.reverse := ⟨fun h => rev_ord h, fun o => List.length_reverse, fun _ => List.reverse_reverse _, fun ho hq hl => by
  unfold Sw.sh
  rw [perm_empty ((ways_rev ho hq hl).length_eq.trans (List.length_map _))]⟩
theorem turn_mir : Turn Om.mir := ⟨fun h => Om.mir_ord h, mir_len, fun _ => mir_mir _, fun ho hq hl => by
  unfold Sw.sh
  rw [ways_mir ho hq hl]⟩
theorem turn_inv : Turn Sw.inv := ⟨fun h => inv_ord h, inv_len, fun h => inv_inv h, fun ho hq hl => by
  unfold Sw.sh
  rw [perm_empty ((ways_inv ho hq hl).length_eq.trans (List.length_map _))]⟩
section
variable {f : List Int → List Int} (F : Turn f)
include F
theorem pats_map {N : Nat} {L : List (List Int)} (h : Pats N L) : Pats N (L.map f) := fun p hp => by
  obtain ⟨q, hq, rfl⟩ := List.mem_map.mp hp
  obtain ⟨a, b, c⟩ := h q hq
  exact ⟨F.ord a, by rw [F.len]; exact b, by rw [F.len]; exact c⟩
theorem least_back {N : Nat} (hN : N ≤ 900) {L : List (List Int)} (h : Pats N L) : lst [] (asc ((lst [] (asc (L.map f))).map f)) = lst [] (asc L) := by
  have hm := pats_map F h
  have hM := pats_least hm
  have hMm := pats_map F hM
  refine least_ext fun x => ?_
  rw [mem_least hN hMm, mem_least hN h]
  constructor
  · rintro ⟨h1, h2⟩
    obtain ⟨y, hy, rfl⟩ := List.mem_map.mp h1
    obtain ⟨y1, y2⟩ := (mem_least hN hm).mp hy
    obtain ⟨z, hz, rfl⟩ := List.mem_map.mp y1
    obtain ⟨kz, _, lz⟩ := h z hz
    rw [F.inv kz]
    refine ⟨hz, fun q hq hs => ?_⟩
    obtain ⟨kq, _, lq⟩ := h q hq
    have := y2 (f q) (List.mem_map.mpr ⟨q, hq, rfl⟩) (by rw [F.sh kz kq (by omega)]; exact hs)
    rw [← F.inv kq, this, F.inv kz]
  · rintro ⟨h1, h2⟩
    obtain ⟨kx, _, lx⟩ := h x h1
    have hfx : f x ∈ lst [] (asc (L.map f)) := (mem_least hN hm).mpr ⟨List.mem_map.mpr ⟨x, h1, rfl⟩, fun q hq hs => by
      obtain ⟨z, hz, rfl⟩ := List.mem_map.mp hq
      obtain ⟨kz, _, lz⟩ := h z hz
      rw [F.sh kx kz (by omega)] at hs
      rw [h2 z hz hs]⟩
    refine ⟨List.mem_map.mpr ⟨f x, hfx, F.inv kx⟩, fun q hq hs => ?_⟩
    obtain ⟨y, hy, rfl⟩ := List.mem_map.mp hq
    obtain ⟨z, hz, rfl⟩ := List.mem_map.mp ((mem_least hN hm).mp hy).1
    obtain ⟨kz, _, lz⟩ := h z hz
    rw [F.inv kz] at hs ⊢
    exact h2 z hz hs
theorem lets_map {N : Nat} (hN : N ≤ 900) {L : List (List Int)} (h : Pats N L) {o : List Int} (ho : Om.IsR 1 o) : lets (lst [] (asc (L.map f))) (f o) = lets L o := by
  rw [lets_lst hN (fun p hp => pats_map F h p (mem_asc.mp hp)) (F.ord ho), lets_mem (fun x => mem_asc)]
  unfold lets
  rw [List.all_map]
  have : ∀ q ∈ L, (!sh (f o) (f q)) = !sh o q := fun q hq => by
    obtain ⟨kq, _, lq⟩ := h q hq
    rw [F.sh ho kq (by omega)]
  rw [Bool.eq_iff_iff, List.all_eq_true, List.all_eq_true]
  exact ⟨fun g x hx => by rw [← this x hx]; exact g x hx, fun g x hx => by show (!sh (f o) (f x)) = true; rw [this x hx]; exact g x hx⟩
end
end Sw
set_option Elab.async false
set_option linter.all false
set_option maxRecDepth 100000
set_option maxHeartbeats 400000
namespace Law
open PySem Z Sw
theorem turned_eq {o : List Int} (h : o.length ≤ 1000) (k : Om.IsR 1 o) : s_turned [T o] = some (T o.reverse) := by
  simp [s_turned, runP, b_turned, envOf, check_ok h k]
theorem mirrored_eq {o : List Int} (h : o.length ≤ 1000) (k : Om.IsR 1 o) : s_mirrored [T o] = some (T (Om.mir o)) := by
  have e := nLc_intsM (it := itSeq (eVar 0)) (f := eOp pSub (eOp pAdd (eLenV 0) (eC (.int 1))) (eVar 1)) (i := 1) (Γ := [.val (T o), .no]) o (fun x => .int ((o.length : Int) + 1 - x)) (by simp) (by simp [freeE, Slot.isOwn]) (fun x _ => by simp) (by omega)
  simp [s_mirrored, runP, b_mirrored, envOf, check_ok h k, e, Om.mir]
abbrev ivB : SX := (sStore 1 (eOp pSub (eVar 3) (eC (.int 1))) (eOp pAdd (eVar 2) (eC (.int 1))))
theorem iv_loop {o : List Int} (ho : Om.IsR 1 o) : ∀ (qs pre : List Int) (s2 s3 : Slot), o = pre ++ qs → ∃ s2' s3', forLoop (gxTup 2 (gxCons (gxName 2) (gxCons (gxName 3) gxNil))) ivB (enumFrom pre.length (qs.map .int)) [.val (T o), .own (((rgI 1 1 o.length).map (posIn pre)).map .int), s2, s3] =
    some (.nx [.val (T o), .own (((rgI 1 1 o.length).map (posIn o)).map .int), s2', s3'])
  | [], pre, s2, s3, e => by
    rw [List.append_nil] at e
    subst e
    exact ⟨s2, s3, rfl⟩
  | x :: qs, pre, s2, s3, e => by
    obtain ⟨i, hi, hil, hix, hpl, hg, hset⟩ := pos_store ho e
    obtain ⟨s2', s3', h⟩ := iv_loop ho qs (pre ++ [x]) (.val (.int (pre.length : Nat))) (.val (.int x)) (by rw [e]; simp)
    refine ⟨s2', s3', ?_⟩
    rw [List.length_append, List.length_singleton] at h
    rw [← h]
    have hl2 : (((rgI 1 1 o.length).map (posIn pre)).map PyData.int).length = o.length := by rw [List.length_map, List.length_map, Om.rg_len]
    have hbody : ivB [.val (T o), .own (((rgI 1 1 o.length).map (posIn pre)).map .int), .val (.int (pre.length : Nat)), .val (.int x)] = some (.nx [.val (T o), .own (((rgI 1 1 o.length).map (posIn (pre ++ [x]))).map .int), .val (.int (pre.length : Nat)), .val (.int x)]) := by
      show ((L2.ixN (((rgI 1 1 o.length).map (posIn pre)).map PyData.int).length (x - 1)).bind fun j => some (Out.nx [.val (T o), .own ((((rgI 1 1 o.length).map (posIn pre)).map PyData.int).set j (.int ((pre.length : Int) + 1))), .val (.int (pre.length : Nat)), .val (.int x)])) = _
      rw [hl2, hix]
      show some (Out.nx [_, .own ((((rgI 1 1 o.length).map (posIn pre)).map PyData.int).set i (.int ((pre.length : Int) + 1))), _, _]) = _
      rw [hset]
    exact forLoop_cons rfl hbody
theorem inverse_eq {o : List Int} (h : o.length ≤ 1000) (k : Om.IsR 1 o) : s_inverse [T o] = some (T (inv o)) := by
  obtain ⟨s2, s3, h1⟩ := iv_loop k o [] .no .no rfl
  have hc := check_ok h k
  have e0 : (sDrop (eCall s_check_order (aCons (eVar 0) aNil))) (envOf 4 [T o]) = some (.nx [.val (T o), .no, .no, .no]) := by
    simp [envOf, hc]
  have e1 : (sSet 1 (nRep (nLst (aCons (eC (.int 0)) aNil)) (eLenV 0))) [.val (T o), .no, .no, .no] = some (.nx [.val (T o), .own (((rgI 1 1 o.length).map (posIn [])).map .int), .no, .no]) := by
    rw [← pos_first]
    have hl' : (o.length : Int) ≤ 100000 := by omega
    have hl2 : o.length ≤ 100000 := by omega
    simp [hl', hl2]
  have e2 : (sFor (itEnum (eVar 0)) (gxTup 2 (gxCons (gxName 2) (gxCons (gxName 3) gxNil))) ivB) [.val (T o), .own (((rgI 1 1 o.length).map (posIn [])).map .int), .no, .no] = some (.nx [.val (T o), .own (((rgI 1 1 o.length).map (posIn o)).map .int), s2, s3]) := h1
  have e3 : (sRet (eCall pTuple (aCons (eVar 1) aNil))) [.val (T o), .own (((rgI 1 1 o.length).map (posIn o)).map .int), s2, s3] = some (.rt (T (inv o)) [.val (T o), .val (.list (((rgI 1 1 o.length).map (posIn o)).map .int)), s2, s3]) := rfl
  show (b_inverse (envOf 4 [T o])).bind _ = _
  have e7 : b_inverse (envOf 4 [T o]) = _ := (seq_nx e0).trans ((seq_nx e1).trans ((seq_nx e2).trans e3))
  rw [e7]; rfl
abbrev wyB : SX := (sStore 2 (eOp pSub (eIxV 0 (eVar 3)) (eC (.int 1))) (eOp pAdd (eVar 3) (eC (.int 1))))
theorem callM_eq {i : Nat} {p : List PyData → List PyData → Option (PyData × List PyData)} {a : AX} {Γ Γ1 : Z.Env} {c0 cs cs' xs : List PyData} {z : PyData} (h0 : ownAt Γ i = some c0) (h1 : a Γ = some (xs, Γ1)) (h3 : ownAt Γ1 i = some cs) (h2 : p cs xs = some (z, cs')) : eCallM i p a Γ = some (z, ownSet Γ1 i cs') := by
  show (ownAt Γ i).bind _ = _
  rw [h0]
  show (a Γ).bind _ = _
  rw [h1]
  show (ownAt Γ1 i).bind _ = _
  rw [h3]
  show (p cs xs).bind _ = _
  rw [h2]; rfl
theorem callk_eq {p : List PyData → Option PyData} {f : EX} {Γ Γ1 : Z.Env} {x z : PyData} (h1 : f Γ = some (x, Γ1)) (h2 : p [x] = some z) : eCallK p 0 [0] aNil (aCons f aNil) Γ = some (z, Γ1) := by
  have e1 : (aCons f aNil) Γ = some ([x], Γ1) := acons_eq h1 rfl
  show (((aCons f aNil) Γ).bind _) = _
  rw [e1]
  show (p [x]).bind _ = _
  rw [h2]; rfl
theorem callk2_eq {p : List PyData → Option PyData} {f g : EX} {Γ Γ1 Γ2 : Z.Env} {x y z : PyData} (h1 : f Γ = some (x, Γ1)) (h1' : g Γ1 = some (y, Γ2)) (h2 : p [y, x] = some z) : eCallK p 0 [1, 0] aNil (aCons f (aCons g aNil)) Γ = some (z, Γ2) := by
  have e1 : (aCons f (aCons g aNil)) Γ = some ([x, y], Γ2) := acons_eq h1 (acons_eq h1' rfl)
  show (((aCons f (aCons g aNil)) Γ).bind _) = _
  rw [e1]
  show (p [y, x]).bind _ = _
  rw [h2]; rfl
abbrev Lt (L : List (List Int)) : PyData := .tuple (TT L)
theorem nest_L {L : List (List Int)} (hl : L.length ≤ 1000) (h : Pats 900 L) : Nest 39 (Lt L) :=
  .tup 38 _ (fun x hx => by
    obtain ⟨r, hr, rfl⟩ := List.mem_map.mp hx
    exact nest_T 36 _ (by have := (h r hr).2.2; omega)) (by rw [List.length_map]; exact hl)
theorem same3 {d : PyData} (h : Nest 39 d) : s_law_same 40 [.list [d, d, d], .list [d, d, d]] = some (.bool true) :=
  same_eq (.lst 39 _ (fun x hx => by
    simp only [List.mem_cons, List.not_mem_nil, or_false] at hx
    rcases hx with rfl | rfl | rfl <;> exact h) (by simp))
theorem pats_mono {L : List (List Int)} {N M : Nat} (h : N ≤ M) (hL : Pats N L) : Pats M L := pats_mono' h hL
def fw (w : Int) (o : List Int) : List Int := if w = 0 then o.reverse else if w = 1 then Om.mir o else inv o
theorem turn_fw (w : Int) : Turn (fw w) := by
  by_cases h0 : w = 0
  · subst h0; exact turn_rev
  · by_cases h1 : w = 1
    · subst h1; exact turn_mir
    · have : fw w = inv := by funext o; unfold fw; rw [if_neg h0, if_neg h1]
      rw [this]; exact turn_inv
abbrev lwI : NX := (nLc (itRange (aCons (eC (.int 1)) (aCons (eOp pAdd (eLenV 0) (eC (.int 1))) aNil))) (gxName 2) tYesX (eOp pAdd (eOp pIndex (eVar 0) (eVar 2)) (eC (.int 1))) [2])
theorem law_turned_eq {w : Int} (hw : 0 ≤ w ∧ w < 3) {o : List Int} (ho : o.length ≤ 1000) (ko : Om.IsR 1 o) : s_law_turned [T o, .int w] = some (T (fw w o)) := by
  rcases (by omega : w = 0 ∨ w = 1 ∨ w = 2) with rfl | rfl | rfl
  · simp [s_law_turned, runP, b_law_turned, envOf, fw]
  · have e := nLc_intsM (it := itSeq (eVar 0)) (f := eOp pSub (eOp pAdd (eLenV 0) (eC (.int 1))) (eVar 2)) (i := 2) (Γ := [.val (T o), .val (.int 1), .no]) o (fun x => .int ((o.length : Int) + 1 - x)) (by simp) (by simp [freeE, Slot.isOwn]) (fun x _ => by simp) (by omega)
    simp [s_law_turned, runP, b_law_turned, envOf, e, fw, Om.mir]
  · have hr := rangeS o.length (by omega)
    have e := nLc_intsM (it := itRange (aCons (eC (.int 1)) (aCons (eOp pAdd (eLenV 0) (eC (.int 1))) aNil))) (f := eOp pAdd (eOp pIndex (eVar 0) (eVar 2)) (eC (.int 1))) (i := 2) (Γ := [.val (T o), .val (.int 2), .no]) (rgI 1 1 o.length) (fun x => .int (posIn o x)) (by simp [hr]) (by simp [freeE, Slot.isOwn]) (fun x hx => by
      have hx' := Om.mem_rg.mp hx
      have hm : x ∈ o := ko.mem.mpr (by omega)
      have hp : posIn o x = (o.idxOf x : Nat) + 1 := by unfold posIn; rw [if_pos hm]
      simp [hm, hp]) (by rw [Om.rg_len]; omega)
    have e2 : ((rgI 1 1 o.length).map fun x => PyData.int (posIn o x)) = (inv o).map .int := by
      unfold inv
      rw [List.map_map]; rfl
    rw [e2] at e
    have e3 : fw 2 o = inv o := rfl
    rw [e3]
    generalize hI : inv o = I at *
    simp [s_law_turned, runP, b_law_turned, envOf, e]
/-! ### lists, turned -/
theorem tl_eq {s : List PyData → Option PyData} {f : List Int → List Int} (F : Turn f) (hs : ∀ q : List Int, q.length ≤ 1000 → Om.IsR 1 q → s [T q] = some (T (f q))) {L : List (List Int)} (hl : L.length ≤ 1000) (hL : Pats 12 L) :
    runP 2 (sSeq (sDrop (eCall s_check_list (aCons (eVar 0) aNil))) (sRet (eCall s_least_of (aCons (nOwn (nLc (itSeq (eVar 0)) (gxName 1) tYesX (eCall s (aCons (eVar 1) aNil)) [1])) aNil)))) [Lt L] = some (Lt (lst [] (asc (L.map f)))) := by
  have h1 := check_list_ok (L := L) (pats_mono (by omega) hL)
  have e1 := nLc_any (it := itSeq (eVar 0)) (g := gxName 1) (t := tYesX) (f := eCall s (aCons (eVar 1) aNil)) (vs := [1]) (Γ := [.val (Lt L), .no]) L T (fun x => [.val (Lt L), .val (T x)]) (fun _ => true) (fun x => T (f x)) rfl rfl (fun x hx => ⟨rfl, rfl, fun _ => by
    obtain ⟨k1, k2, k3⟩ := hL x hx
    exact call1_eq (f := eVar 1) rfl (hs x (by omega) k1), rfl⟩) (by omega)
  rw [List.filter_eq_self.mpr (fun _ _ => rfl)] at e1
  have e2 : (L.map fun x => T (f x)) = TT (L.map f) := by
    show _ = (L.map f).map T
    rw [List.map_map]; rfl
  rw [e2] at e1
  have h2 := least_of_eq (d := .list (TT (L.map f))) (L := L.map f) rfl (by rw [List.length_map]; exact hl) (pats_map F hL)
  have a1 : sDrop (eCall s_check_list (aCons (eVar 0) aNil)) [.val (Lt L), .no] = some (.nx [.val (Lt L), .no]) := drop_eq (call1_eq (f := eVar 0) rfl h1)
  show ((sSeq (sDrop (eCall s_check_list (aCons (eVar 0) aNil))) (sRet (eCall s_least_of (aCons (nOwn (nLc (itSeq (eVar 0)) (gxName 1) tYesX (eCall s (aCons (eVar 1) aNil)) [1])) aNil)))) [.val (Lt L), .no]).bind _ = _
  rw [(seq_nx a1).trans (ret_eq (call1_eq (nown_eq e1) h2))]; rfl
section
variable {L : List (List Int)} (hl : L.length ≤ 1000) (hL : Pats 12 L)
include hl hL
theorem turned_list_eq : s_turned_list [Lt L] = some (Lt (lst [] (asc (L.map (fw 0))))) := tl_eq (s := s_turned) (turn_fw 0) (fun q h k => turned_eq h k) hl hL
theorem mirrored_list_eq : s_mirrored_list [Lt L] = some (Lt (lst [] (asc (L.map (fw 1))))) := tl_eq (s := s_mirrored) (turn_fw 1) (fun q h k => mirrored_eq h k) hl hL
theorem inverse_list_eq : s_inverse_list [Lt L] = some (Lt (lst [] (asc (L.map (fw 2))))) := tl_eq (s := s_inverse) (turn_fw 2) (fun q h k => inverse_eq h k) hl hL
end
abbrev m1 : SX := (sSet 3 (nVal (eCallM 1 s_law_list (aCons (eC (.int 5)) (aCons (eC (.int 6)) aNil)))))
abbrev m2 : SX := (sSet 4 (nLc (itRange (aCons (eC (.int 3)) aNil)) (gxName 7) tYesX (eCall s_law_least (aCons (nOwn (nLc (itSeq (eVar 3)) (gxName 9) tYesX (eCall s_law_turned (aCons (eVar 9) (aCons (eVar 7) aNil))) [9])) aNil)) [7]))
abbrev m3 : SX := (sSet 5 (nVal (eLst (aCons (eCall s_turned_list (aCons (eVar 3) aNil)) (aCons (eCall s_mirrored_list (aCons (eVar 3) aNil)) (aCons (eCall s_inverse_list (aCons (eVar 3) aNil)) aNil))))))
abbrev m4 : SX := (sIf (tNotX (tTruX (eCall (s_law_same 40) (aCons (eVar 5) (aCons (eVar 4) aNil))))) (sRet (eC (.bool false))) sNext)
abbrev m5 : SX := (sSet 5 (nVal (eLst (aCons (eCallK s_turned_list 0 [0] aNil (aCons (eVar 3) aNil)) (aCons (eCallK s_mirrored_list 0 [0] aNil (aCons (eVar 3) aNil)) (aCons (eCallK s_inverse_list 0 [0] aNil (aCons (eVar 3) aNil)) aNil))))))
abbrev m6 : SX := (sIf (tNotX (tTruX (eCall (s_law_same 40) (aCons (eVar 5) (aCons (eVar 4) aNil))))) (sRet (eC (.bool false))) sNext)
abbrev m7 : SX := (sSet 6 (nVal (eCall s_law_least (aCons (eVar 3) aNil))))
abbrev m8 : SX := (sIf (tNotX (tTruX (eCall (s_law_same 40) (aCons (eLst (aCons (eCall s_turned_list (aCons (eIxV 4 (eC (.int 0))) aNil)) (aCons (eCall s_mirrored_list (aCons (eIxV 4 (eC (.int 1))) aNil)) (aCons (eCall s_inverse_list (aCons (eIxV 4 (eC (.int 2))) aNil)) aNil)))) (aCons (eLst (aCons (eVar 6) (aCons (eVar 6) (aCons (eVar 6) aNil)))) aNil))))) (sRet (eC (.bool false))) sNext)
abbrev i1 : SX := (sSet 8 (nVal (eCallM 1 s_law_order (aCons (eCallM 1 s_law_take (aCons (eC (.int 9)) aNil)) aNil))))
abbrev i2 : SX := (sIf (tOf (eOp pNe (eCall s_lets (aCons (eIxV 4 (eVar 7)) (aCons (eCall s_law_turned (aCons (eVar 8) (aCons (eVar 7) aNil))) aNil))) (eCall s_law_lets (aCons (eVar 3) (aCons (eVar 8) aNil))))) (sRet (eC (.bool false))) sNext)
abbrev iB : SX := (sSeq i1 i2)
abbrev m9 : SX := (sFor (itRange (aCons (eC (.int 3)) aNil)) (gxName 7) iB)
abbrev mB : SX := (sSeq m1 (sSeq m2 (sSeq m3 (sSeq m4 (sSeq m5 (sSeq m6 (sSeq m7 (sSeq m8 m9))))))))
theorem b_law_eq : b_law = sSeq (sSet 1 (nAdd (eLst (aCons (eC (.int 0)) (aCons (eC (.int 7)) (aCons (eC (.int 3)) aNil)))) (eCall pList (aCons (eVar 0) aNil)))) (sSeq (sFor (itRange (aCons (eC (.int 5)) aNil)) (gxName 2) mB) (sRet (eC (.bool true)))) := rfl

abbrev LD (L : List (List Int)) (w : Int) : List (List Int) := lst [] (asc (L.map (fw w)))
abbrev DL (L : List (List Int)) : List PyData := [Lt (LD L 0), Lt (LD L 1), Lt (LD L 2)]
section
variable {sc : PyData} {cs : List PyData} {L : List (List Int)} {s2 s3 s4 s5 s6 s7 s8 s9 : Slot}
theorem ld_pats (hL : Pats 5 L) (w : Int) : Pats 5 (LD L w) := pats_least (pats_map (turn_fw w) hL)
theorem ld_len (hl : L.length ≤ 6) (w : Int) : (LD L w).length ≤ 6 := by
  have h1 := lst_len (asc (L.map (fw w)))
  have h2 := ascl_len (L.map (fw w))
  rw [List.length_map] at h2
  show (lst [] (asc (L.map (fw w)))).length ≤ 6
  omega
theorem ld_back (hL : Pats 5 L) (w : Int) : lst [] (asc ((LD L w).map (fw w))) = lst [] (asc L) := least_back (turn_fw w) (N := 5) (by omega) hL
theorem m1_eq (h : PotOk cs) : ∃ L cs', m1 [.val sc, .own cs, s2, s3, s4, s5, s6, s7, s8, s9] = some (.nx [.val sc, .own cs', s2, .val (Lt L), s4, s5, s6, s7, s8, s9]) ∧ PotOk cs' ∧ L.length ≤ 6 ∧ Pats 5 L := by
  obtain ⟨L, c1, t1, t2, t3, t4⟩ := list_eq (m := 5) (n := 6) h (by omega) (by omega)
  exact ⟨L, c1, setv_eq (Γ1 := [.val sc, .own c1, s2, s3, s4, s5, s6, s7, s8, s9]) (callM_eq (Γ1 := [.val sc, .own cs, s2, s3, s4, s5, s6, s7, s8, s9]) rfl (acons_eq rfl (acons_eq rfl rfl)) rfl t1), t2, t3, t4⟩
theorem m2_eq (hl : L.length ≤ 6) (hL : Pats 5 L) (h7 : s7.isOwn = false) : m2 [.val sc, .own cs, s2, .val (Lt L), s4, s5, s6, s7, s8, .no] = some (.nx [.val sc, .own cs, s2, .val (Lt L), .own (DL L), s5, s6, s7, s8, .no]) := by
  have e := nLc_intsM (it := itRange (aCons (eC (.int 3)) aNil)) (f := eCall s_law_least (aCons (nOwn (nLc (itSeq (eVar 3)) (gxName 9) tYesX (eCall s_law_turned (aCons (eVar 9) (aCons (eVar 7) aNil))) [9])) aNil)) (i := 7) (Γ := [.val sc, .own cs, s2, .val (Lt L), s4, s5, s6, s7, s8, .no]) (rgI 0 1 3) (fun w => Lt (LD L w))
    (by
      have h3 : rangeOf [.int 3] = some (rgI 0 1 3) := rangeN 3 (by omega)
      simp [h3]) (by simp [freeE, h7]) (fun w hw => by
      have hw' := Om.mem_rg.mp hw
      have e1 := nLc_any (it := itSeq (eVar 3)) (g := gxName 9) (t := tYesX) (f := eCall s_law_turned (aCons (eVar 9) (aCons (eVar 7) aNil))) (vs := [9]) (Γ := [.val sc, .own cs, s2, .val (Lt L), s4, s5, s6, .val (.int w), s8, .no]) L T (fun x => [.val sc, .own cs, s2, .val (Lt L), s4, s5, s6, .val (.int w), s8, .val (T x)]) (fun _ => true) (fun x => T (fw w x)) rfl rfl (fun x hx => ⟨rfl, rfl, fun _ => by
        obtain ⟨k1, k2, k3⟩ := hL x hx
        exact call2_eq (f := eVar 9) (g := eVar 7) rfl rfl (law_turned_eq (by omega) (by omega) k1), rfl⟩) (by omega)
      rw [List.filter_eq_self.mpr (fun _ _ => rfl)] at e1
      have e2 : (L.map fun x => T (fw w x)) = TT (L.map (fw w)) := by
        show _ = (L.map (fw w)).map T
        rw [List.map_map]; rfl
      rw [e2] at e1
      exact call1_eq (nown_eq e1) (law_least_eq (d := .list (TT (L.map (fw w)))) rfl (by rw [List.length_map]; omega) (pats_map (turn_fw w) (pats_mono (by omega) hL)))) (by decide)
  have e2 : ((rgI 0 1 3).map fun w => Lt (LD L w)) = DL L := rfl
  rw [e2] at e
  generalize DL L = D at *
  show (nLc _ _ _ _ _ _).bind _ = _
  rw [e]; rfl
theorem nest_D (hl : L.length ≤ 6) (hL : Pats 5 L) : Nest 40 (.list (DL L)) := .lst 39 _ (fun x hx => by
  have h : ∀ w, Nest 39 (Lt (LD L w)) := fun w => nest_L (by have := ld_len hl w; omega) (pats_mono (by omega) (ld_pats hL w))
  simp only [List.mem_cons, List.not_mem_nil, or_false] at hx
  rcases hx with rfl | rfl | rfl <;> exact h _) (by simp)
theorem m3_eq (hl : L.length ≤ 6) (hL : Pats 5 L) : m3 [.val sc, .own cs, s2, .val (Lt L), s4, s5, s6, s7, s8, s9] = some (.nx [.val sc, .own cs, s2, .val (Lt L), s4, .val (.list (DL L)), s6, s7, s8, s9]) := by
  have h1 := turned_list_eq (L := L) (by omega) (pats_mono (by omega) hL)
  have h2 := mirrored_list_eq (L := L) (by omega) (pats_mono (by omega) hL)
  have h3 := inverse_list_eq (L := L) (by omega) (pats_mono (by omega) hL)
  unfold DL LD
  generalize lst [] (asc (L.map (fw 0))) = A0 at *
  generalize lst [] (asc (L.map (fw 1))) = A1 at *
  generalize lst [] (asc (L.map (fw 2))) = A2 at *
  exact setv_eq (Γ1 := [.val sc, .own cs, s2, .val (Lt L), s4, s5, s6, s7, s8, s9]) (lst_eq (acons_eq (call1_eq (f := eVar 3) rfl h1) (acons_eq (call1_eq (f := eVar 3) rfl h2) (acons_eq (call1_eq (f := eVar 3) rfl h3) rfl))) (by simp))
theorem m5_eq (hl : L.length ≤ 6) (hL : Pats 5 L) : m5 [.val sc, .own cs, s2, .val (Lt L), s4, s5, s6, s7, s8, s9] = some (.nx [.val sc, .own cs, s2, .val (Lt L), s4, .val (.list (DL L)), s6, s7, s8, s9]) := by
  have h1 := turned_list_eq (L := L) (by omega) (pats_mono (by omega) hL)
  have h2 := mirrored_list_eq (L := L) (by omega) (pats_mono (by omega) hL)
  have h3 := inverse_list_eq (L := L) (by omega) (pats_mono (by omega) hL)
  unfold DL LD
  generalize lst [] (asc (L.map (fw 0))) = A0 at *
  generalize lst [] (asc (L.map (fw 1))) = A1 at *
  generalize lst [] (asc (L.map (fw 2))) = A2 at *
  exact setv_eq (Γ1 := [.val sc, .own cs, s2, .val (Lt L), s4, s5, s6, s7, s8, s9]) (lst_eq (acons_eq (callk_eq (f := eVar 3) rfl h1) (acons_eq (callk_eq (f := eVar 3) rfl h2) (acons_eq (callk_eq (f := eVar 3) rfl h3) rfl))) (by simp))
theorem m4_eq {d3 : PyData} (hl : L.length ≤ 6) (hL : Pats 5 L) : m4 [.val sc, .own cs, s2, .val d3, .own (DL L), .val (.list (DL L)), s6, s7, s8, s9] = some (.nx [.val sc, .own cs, s2, .val d3, .val (.list (DL L)), .val (.list (DL L)), s6, s7, s8, s9]) := by
  have h4 := same_eq (nest_D hl hL)
  generalize DL L = D at *
  exact ifnot_eq (call2_eq (Γ1 := [.val sc, .own cs, s2, .val d3, .own D, .val (.list D), s6, s7, s8, s9]) (p := s_law_same 40) (f := eVar 5) (g := eVar 4) rfl rfl h4)
theorem m6_eq {d3 : PyData} (hl : L.length ≤ 6) (hL : Pats 5 L) : m6 [.val sc, .own cs, s2, .val d3, .val (.list (DL L)), .val (.list (DL L)), s6, s7, s8, s9] = some (.nx [.val sc, .own cs, s2, .val d3, .val (.list (DL L)), .val (.list (DL L)), s6, s7, s8, s9]) := by
  have h4 := same_eq (nest_D hl hL)
  generalize DL L = D at *
  exact ifnot_eq (call2_eq (Γ1 := [.val sc, .own cs, s2, .val d3, .val (.list D), .val (.list D), s6, s7, s8, s9]) (p := s_law_same 40) (f := eVar 5) (g := eVar 4) rfl rfl h4)
theorem m7_eq (hl : L.length ≤ 6) (hL : Pats 5 L) : m7 [.val sc, .own cs, s2, .val (Lt L), s4, s5, s6, s7, s8, s9] = some (.nx [.val sc, .own cs, s2, .val (Lt L), s4, s5, .val (Lt (lst [] (asc L))), s7, s8, s9]) :=
  setv_eq (call1_eq (Γ1 := [.val sc, .own cs, s2, .val (Lt L), s4, s5, s6, s7, s8, s9]) (f := eVar 3) rfl (law_least_eq (d := Lt L) rfl (by omega) (pats_mono (by omega) hL)))
theorem m8_eq {d3 : PyData} (hl : L.length ≤ 6) (hL : Pats 5 L) : m8 [.val sc, .own cs, s2, .val d3, .val (.list (DL L)), s5, .val (Lt (lst [] (asc L))), s7, s8, s9] = some (.nx [.val sc, .own cs, s2, .val d3, .val (.list (DL L)), s5, .val (Lt (lst [] (asc L))), s7, s8, s9]) := by
  have h1 := turned_list_eq (L := LD L 0) (by have := ld_len hl 0; omega) (pats_mono (by omega) (ld_pats hL 0))
  have h2 := mirrored_list_eq (L := LD L 1) (by have := ld_len hl 1; omega) (pats_mono (by omega) (ld_pats hL 1))
  have h3 := inverse_list_eq (L := LD L 2) (by have := ld_len hl 2; omega) (pats_mono (by omega) (ld_pats hL 2))
  rw [ld_back hL] at h1 h2 h3
  have hA := ascl_len L
  have hD := lst_len (asc L)
  have h4 := same3 (nest_L (L := lst [] (asc L)) (by omega) (pats_mono (by omega) (pats_least hL)))
  unfold DL
  generalize LD L 0 = A0 at *
  generalize LD L 1 = A1 at *
  generalize LD L 2 = A2 at *
  generalize lst [] (asc L) = B at *
  refine ifnot_eq (call2_eq (Γ1 := [.val sc, .own cs, s2, .val d3, .val (.list [Lt A0, Lt A1, Lt A2]), s5, .val (Lt B), s7, s8, s9]) (p := s_law_same 40) (lst_eq (acons_eq (Γ1 := [.val sc, .own cs, s2, .val d3, .val (.list [Lt A0, Lt A1, Lt A2]), s5, .val (Lt B), s7, s8, s9]) (call1_eq (f := eIxV 4 (eC (.int 0))) rfl h1) (acons_eq (Γ1 := [.val sc, .own cs, s2, .val d3, .val (.list [Lt A0, Lt A1, Lt A2]), s5, .val (Lt B), s7, s8, s9]) (call1_eq (f := eIxV 4 (eC (.int 1))) rfl h2) (acons_eq (Γ1 := [.val sc, .own cs, s2, .val d3, .val (.list [Lt A0, Lt A1, Lt A2]), s5, .val (Lt B), s7, s8, s9]) (call1_eq (f := eIxV 4 (eC (.int 2))) rfl h3) rfl))) (by simp)) (lst_eq (acons_eq rfl (acons_eq rfl (acons_eq rfl rfl))) (by simp)) h4)
/-! ### a look -/
theorem i1_eq (h : PotOk cs) {d3 d4 d6 : PyData} : ∃ o cs', i1 [.val sc, .own cs, s2, .val d3, .val d4, s5, .val d6, s7, s8, s9] = some (.nx [.val sc, .own cs', s2, .val d3, .val d4, s5, .val d6, s7, .val (T o), s9]) ∧ PotOk cs' ∧ Om.IsR 1 o ∧ o.length ≤ 8 := by
  obtain ⟨a, c1, a1, a2, a3⟩ := take_eq h 9 (by decide)
  obtain ⟨o, c4, o1, o2, o3, o4⟩ := order_eq a3 a (by omega)
  refine ⟨o, c4, setv_eq (z := T o) (Γ1 := [.val sc, .own c4, s2, .val d3, .val d4, s5, .val d6, s7, s8, s9]) ?_, o2, o3, by omega⟩
  have e2 : eCallM 1 s_law_take (aCons (eC (.int 9)) aNil) [.val sc, .own cs, s2, .val d3, .val d4, s5, .val d6, s7, s8, s9] = some (.int a, [.val sc, .own c1, s2, .val d3, .val d4, s5, .val d6, s7, s8, s9]) :=
    callM_eq (Γ1 := [.val sc, .own cs, s2, .val d3, .val d4, s5, .val d6, s7, s8, s9]) rfl rfl rfl a1
  exact callM_eq (Γ1 := [.val sc, .own c1, s2, .val d3, .val d4, s5, .val d6, s7, s8, s9]) rfl (acons_eq e2 rfl) rfl o1
theorem i2_eq {d6 : PyData} {o : List Int} {w : Int} (hw : 0 ≤ w ∧ w < 3) (ho : o.length ≤ 8) (ko : Om.IsR 1 o) (hl : L.length ≤ 6) (hL : Pats 5 L) : i2 [.val sc, .own cs, s2, .val (Lt L), .val (.list (DL L)), s5, .val d6, .val (.int w), .val (T o), s9] = some (.nx [.val sc, .own cs, s2, .val (Lt L), .val (.list (DL L)), s5, .val d6, .val (.int w), .val (T o), s9]) := by
  have F := turn_fw w
  have h1 := lets_eq (d := Lt L) (L := L) rfl (by omega) (by omega) ko (pats_mono (by omega) hL)
  have h2 := plets_eq (L := LD L w) (pats_mono (by omega) (ld_pats hL w)) (o := fw w o) (by rw [F.len]; omega) (F.ord ko)
  have h3 := law_turned_eq hw (o := o) (by omega) ko
  rw [lets_map F (N := 5) (by omega) hL ko] at h2
  have g : pIx (.list (DL L)) (.int w) = some (Lt (LD L w)) := by
    rcases (by omega : w = 0 ∨ w = 1 ∨ w = 2) with rfl | rfl | rfl <;> simp [pIx, seqOf, L2.ixN]
  generalize LD L w = A at *
  generalize DL L = D at *
  generalize fw w o = o' at *
  generalize lets L o = b at *
  have e1 : eIxV 4 (eVar 7) [.val sc, .own cs, s2, .val (Lt L), .val (.list D), s5, .val d6, .val (.int w), .val (T o), s9] = some (Lt A, [.val sc, .own cs, s2, .val (Lt L), .val (.list D), s5, .val d6, .val (.int w), .val (T o), s9]) := by
    show (pIx (.list D) (.int w)).bind _ = _
    rw [g]; rfl
  have e2 : eCall s_law_turned (aCons (eVar 8) (aCons (eVar 7) aNil)) [.val sc, .own cs, s2, .val (Lt L), .val (.list D), s5, .val d6, .val (.int w), .val (T o), s9] = some (T o', [.val sc, .own cs, s2, .val (Lt L), .val (.list D), s5, .val d6, .val (.int w), .val (T o), s9]) :=
    call2_eq (f := eVar 8) (g := eVar 7) rfl rfl h3
  have e3 := call2_eq e1 e2 h2
  have e4 : eCall s_law_lets (aCons (eVar 3) (aCons (eVar 8) aNil)) [.val sc, .own cs, s2, .val (Lt L), .val (.list D), s5, .val d6, .val (.int w), .val (T o), s9] = some (.bool b, [.val sc, .own cs, s2, .val (Lt L), .val (.list D), s5, .val d6, .val (.int w), .val (T o), s9]) :=
    call2_eq (f := eVar 3) (g := eVar 8) rfl rfl h1
  have e5 := op_eq (p := pNe) e3 e4 (show pNe (.bool b) (.bool b) = some (.bool false) from by simp)
  refine (ifno_eq (Γ1 := [.val sc, .own cs, s2, .val (Lt L), .val (.list D), s5, .val d6, .val (.int w), .val (T o), s9]) ?_).trans rfl
  show (eOp pNe _ _ _).bind _ = _
  rw [e5]; rfl
theorem mB_eq (h : PotOk cs) (h7 : s7.isOwn = false) : ∃ cs' t3 t4 t5 t6 t7 t8, mB [.val sc, .own cs, s2, s3, s4, s5, s6, s7, s8, .no] = some (.nx [.val sc, .own cs', s2, t3, t4, t5, t6, t7, t8, .no]) ∧ PotOk cs' ∧ t7.isOwn = false := by
  obtain ⟨L, c1, a1, a2, hl, hL⟩ := m1_eq (sc := sc) (s2 := s2) (s3 := s3) (s4 := s4) (s5 := s5) (s6 := s6) (s7 := s7) (s8 := s8) (s9 := .no) h
  have b2 := m2_eq (sc := sc) (cs := c1) (s2 := s2) (s4 := s4) (s5 := s5) (s6 := s6) (s7 := s7) (s8 := s8) hl hL h7
  have b3 := m3_eq (sc := sc) (cs := c1) (s2 := s2) (s4 := .own (DL L)) (s5 := s5) (s6 := s6) (s7 := s7) (s8 := s8) (s9 := .no) hl hL
  have b4 := m4_eq (sc := sc) (cs := c1) (s2 := s2) (s6 := s6) (s7 := s7) (s8 := s8) (s9 := .no) (d3 := Lt L) hl hL
  have b5 := m5_eq (sc := sc) (cs := c1) (s2 := s2) (s4 := .val (.list (DL L))) (s5 := .val (.list (DL L))) (s6 := s6) (s7 := s7) (s8 := s8) (s9 := .no) hl hL
  have b6 := m6_eq (sc := sc) (cs := c1) (s2 := s2) (s6 := s6) (s7 := s7) (s8 := s8) (s9 := .no) (d3 := Lt L) hl hL
  have b7 := m7_eq (sc := sc) (cs := c1) (s2 := s2) (s4 := .val (.list (DL L))) (s5 := .val (.list (DL L))) (s6 := s6) (s7 := s7) (s8 := s8) (s9 := .no) hl hL
  have b8 := m8_eq (sc := sc) (cs := c1) (s2 := s2) (s5 := .val (.list (DL L))) (s7 := s7) (s8 := s8) (s9 := .no) (d3 := Lt L) hl hL
  obtain ⟨Γ', h1, c3, t7, t8, hΓ, h2, h3⟩ := forLoop_ints (g := gxName 7) (b := iB) (fun pre Γ => ∃ c t7 t8, Γ = [.val sc, .own c, s2, .val (Lt L), .val (.list (DL L)), .val (.list (DL L)), .val (Lt (lst [] (asc L))), t7, t8, .no] ∧ PotOk c ∧ t7.isOwn = false) (rgI 0 1 3)
    (fun pre x post Γ e ⟨c, t7, t8, hΓ, hp, ht⟩ => by
      subst hΓ
      obtain ⟨hx, _, hi⟩ := rg_split e
      obtain ⟨o, c1, o1, o2, o3, o4⟩ := i1_eq (sc := sc) (s2 := s2) (s5 := .val (.list (DL L))) (s7 := .val (.int x)) (s8 := t8) (s9 := .no) hp (d3 := Lt L) (d4 := .list (DL L)) (d6 := Lt (lst [] (asc L)))
      have q := i2_eq (sc := sc) (cs := c1) (s2 := s2) (s5 := .val (.list (DL L))) (s9 := .no) (d6 := Lt (lst [] (asc L))) (w := x) (by omega) o4 o3 hl hL
      exact ⟨_, _, rfl, .inl ((seq_nx o1).trans q), _, _, _, rfl, o2, rfl⟩)
    (Γ := [.val sc, .own c1, s2, .val (Lt L), .val (.list (DL L)), .val (.list (DL L)), .val (Lt (lst [] (asc L))), s7, s8, .no]) ⟨_, _, _, rfl, a2, h7⟩
  subst hΓ
  have b9 : m9 [.val sc, .own c1, s2, .val (Lt L), .val (.list (DL L)), .val (.list (DL L)), .val (Lt (lst [] (asc L))), s7, s8, .no] = some (.nx [.val sc, .own c3, s2, .val (Lt L), .val (.list (DL L)), .val (.list (DL L)), .val (Lt (lst [] (asc L))), t7, t8, .no]) := by
    have h5 : rangeOf [.int 3] = some (rgI 0 1 3) := rangeN 3 (by omega)
    have h6 : itRange (aCons (eC (.int 3)) aNil) [.val sc, .own c1, s2, .val (Lt L), .val (.list (DL L)), .val (.list (DL L)), .val (Lt (lst [] (asc L))), s7, s8, .no] = some ((rgI 0 1 3).map .int, [.val sc, .own c1, s2, .val (Lt L), .val (.list (DL L)), .val (.list (DL L)), .val (Lt (lst [] (asc L))), s7, s8, .no]) := by
      generalize [Slot.val sc, .own c1, s2, .val (Lt L), .val (.list (DL L)), .val (.list (DL L)), .val (Lt (lst [] (asc L))), s7, s8, .no] = G
      simp [h5]
    exact (for_nx h6).trans h1
  exact ⟨c3, _, _, _, _, t7, t8, (seq_nx a1).trans ((seq_nx b2).trans ((seq_nx b3).trans ((seq_nx b4).trans ((seq_nx b5).trans ((seq_nx b6).trans ((seq_nx b7).trans ((seq_nx b8).trans b9))))))), h2, h3⟩
end
theorem main (ns : List Int) (hl : ns.length ≤ 63) : s_law [.list (ns.map .int)] = some (.bool true) := by
  have h6 : rangeOf [.int 5] = some (rgI 0 1 5) := rangeN 5 (by omega)
  have hp0 : PotOk (.int 0 :: .int 7 :: .int 3 :: ns.map .int) := ⟨0, 7, 0, ns, rfl, by omega, by omega, by omega, by omega⟩
  obtain ⟨Γ', q, cs', s2, s3, s4, s5, s6, s7, s8, hΓ, hp, _⟩ := forLoop_ints (g := gxName 2) (b := mB)
    (fun pre Γ => ∃ cs s2 s3 s4 s5 s6 s7 s8, Γ = [.val (.list (ns.map .int)), .own cs, s2, s3, s4, s5, s6, s7, s8, .no] ∧ PotOk cs ∧ s7.isOwn = false) (rgI 0 1 5)
    (fun pre x post Γ e ⟨cs, s2, s3, s4, s5, s6, s7, s8, hΓ, hp, h7⟩ => by
      subst hΓ
      obtain ⟨cs', t3, t4, t5, t6, t7, t8, k1, k2, k3⟩ := mB_eq (sc := .list (ns.map .int)) (s2 := .val (.int x)) (s3 := s3) (s4 := s4) (s5 := s5) (s6 := s6) (s7 := s7) (s8 := s8) hp h7
      exact ⟨_, _, rfl, .inl k1, _, _, _, _, _, _, _, _, rfl, k2, k3⟩)
    (Γ := [.val (.list (ns.map .int)), .own (.int 0 :: .int 7 :: .int 3 :: ns.map .int), .no, .no, .no, .no, .no, .no, .no, .no]) ⟨_, _, _, _, _, _, _, _, rfl, hp0, rfl⟩
  subst hΓ
  have hn : ns.length ≤ 99997 := by omega
  have hb' : b_law [.val (.list (ns.map .int)), .no, .no, .no, .no, .no, .no, .no, .no, .no] = some (.rt (.bool true) [.val (.list (ns.map .int)), .own cs', s2, s3, s4, s5, s6, s7, s8, .no]) := by
    rw [b_law_eq, seq_nx (Γ1 := [.val (.list (ns.map .int)), .own (.int 0 :: .int 7 :: .int 3 :: ns.map .int), .no, .no, .no, .no, .no, .no, .no, .no]) ?_, seq_nx ((for_nx (Γ1 := [.val (.list (ns.map .int)), .own (.int 0 :: .int 7 :: .int 3 :: ns.map .int), .no, .no, .no, .no, .no, .no, .no, .no]) (xs := (rgI 0 1 5).map .int) (by simp [h6])).trans q)]
    · rfl
    · have c : 3 + ns.length ≤ 100000 := by omega
      simp [c]
  show (b_law (envOf 10 [.list (ns.map .int)])).bind _ = _
  rw [show envOf 10 [.list (ns.map .int)] = [.val (.list (ns.map .int)), .no, .no, .no, .no, .no, .no, .no, .no, .no] from rfl, hb']; rfl
end Law
open PySem PySem.W PyProof.Rows
set_option maxHeartbeats 0 in
theorem PySem.Challenge.cw_wholeorders_k14_whole_lists_turned_about_holds : PySem.Challenge.rw_wholeorders_k14_whole_lists_turned_about.Holds := by
  w_on; o_law; k_head; (case hw => w_witness2)
  k_fill
  refine L2.walk_of (l := PySem.Challenge.rw_wholeorders_k14_whole_lists_turned_about) (n := 63) (k := 48) (x := "script") (CX := fun _ => L2.CX0) (sp := fun w => Z.spLaw _) rfl (by decide) rfl ⟨rfl, by decide, by decide⟩ (fun w h Y => PySem.W.kIn_of Y) ?F (fun _ _ a ns hl _ hS => ⟨a, ns, rfl, hS, hl, fun _ => rfl⟩) (fun _ _ _ _ _ h => h)
  case F =>
    intro w mg fa h KX G hmg
    refine' Law.all_mk Law.main KX G hmg ?a0 ?l0 ?c0 ?k0 ?a1 ?l1 ?c1 ?k1 ?a2 ?l2 ?c2 ?k2 ?a3 ?l3 ?c3 ?k3 ?a4 ?l4 ?c4 ?k4 ?a5 ?l5 ?c5 ?k5 ?a6 ?l6 ?c6 ?k6 ?a7 ?l7 ?c7 ?k7 ?a8 ?l8 ?c8 ?k8 ?a9 ?l9 ?c9 ?k9 ?a10 ?l10 ?c10 ?k10 ?a11 ?l11 ?c11 ?k11 ?a12 ?l12 ?c12 ?k12 ?a13 ?l13 ?c13 ?k13 ?a14 ?l14 ?c14 ?k14 ?a15 ?l15 ?c15 ?k15 ?a16 ?l16 ?c16 ?k16 ?a17 ?l17 ?c17 ?k17 ?a18 ?l18 ?c18 ?k18 ?a19 ?l19 ?c19 ?k19 ?a20 ?l20 ?c20 ?k20 ?a21 ?l21 ?c21 ?k21 ?a22 ?l22 ?c22 ?k22 ?a23 ?l23 ?c23 ?k23 ?a24 ?l24 ?c24 ?k24 ?a25 ?l25 ?c25 ?k25 ?a26 ?l26 ?c26 ?k26 ?a27 ?l27 ?c27 ?k27 ?a28 ?l28 ?c28 ?k28 ?a29 ?l29 ?c29 ?k29 ?a30 ?l30 ?c30 ?k30 ?a31 ?l31 ?c31 ?k31 ?a32 ?l32 ?c32 ?k32 ?a33 ?l33 ?c33 ?k33 ?a34 ?l34 ?c34 ?k34 ?a35 ?l35 ?c35 ?k35 ?z_all ?z_bool ?z_enumerate ?z_int ?z_isinstance ?z_len ?z_list ?z_max ?z_min ?z_range ?z_sorted ?z_str ?z_tuple ?hkt
    (case a0 => k_is)
    (case l0 => k_is)
    (case c0 => k_is)
    (case k0 => k_is)
    (case a1 => k_is)
    (case l1 => k_is)
    (case c1 => k_is)
    (case k1 => k_is)
    (case a2 => k_is)
    (case l2 => k_is)
    (case c2 => k_is)
    (case k2 => k_is)
    (case a3 => k_is)
    (case l3 => k_is)
    (case c3 => k_is)
    (case k3 => k_is)
    (case a4 => k_is)
    (case l4 => k_is)
    (case c4 => k_is)
    (case k4 => k_is)
    (case a5 => k_is)
    (case l5 => k_is)
    (case c5 => k_is)
    (case k5 => k_is)
    (case a6 => k_is)
    (case l6 => k_is)
    (case c6 => k_is)
    (case k6 => k_is)
    (case a7 => k_is)
    (case l7 => k_is)
    (case c7 => k_is)
    (case k7 => k_is)
    (case a8 => k_is)
    (case l8 => k_is)
    (case c8 => k_is)
    (case k8 => k_is)
    (case a9 => k_is)
    (case l9 => k_is)
    (case c9 => k_is)
    (case k9 => k_is)
    (case a10 => k_is)
    (case l10 => k_is)
    (case c10 => k_is)
    (case k10 => k_is)
    (case a11 => k_is)
    (case l11 => k_is)
    (case c11 => k_is)
    (case k11 => k_is)
    (case a12 => k_is)
    (case l12 => k_is)
    (case c12 => k_is)
    (case k12 => k_is)
    (case a13 => k_is)
    (case l13 => k_is)
    (case c13 => k_is)
    (case k13 => k_is)
    (case a14 => k_is)
    (case l14 => k_is)
    (case c14 => k_is)
    (case k14 => k_is)
    (case a15 => k_is)
    (case l15 => k_is)
    (case c15 => k_is)
    (case k15 => k_is)
    (case a16 => k_is)
    (case l16 => k_is)
    (case c16 => k_is)
    (case k16 => k_is)
    (case a17 => k_is)
    (case l17 => k_is)
    (case c17 => k_is)
    (case k17 => k_is)
    (case a18 => k_is)
    (case l18 => k_is)
    (case c18 => k_is)
    (case k18 => k_is)
    (case a19 => k_is)
    (case l19 => k_is)
    (case c19 => k_is)
    (case k19 => k_is)
    (case a20 => k_is)
    (case l20 => k_is)
    (case c20 => k_is)
    (case k20 => k_is)
    (case a21 => k_is)
    (case l21 => k_is)
    (case c21 => k_is)
    (case k21 => k_is)
    (case a22 => k_is)
    (case l22 => k_is)
    (case c22 => k_is)
    (case k22 => k_is)
    (case a23 => k_is)
    (case l23 => k_is)
    (case c23 => k_is)
    (case k23 => k_is)
    (case a24 => k_is)
    (case l24 => k_is)
    (case c24 => k_is)
    (case k24 => k_is)
    (case a25 => k_is)
    (case l25 => k_is)
    (case c25 => k_is)
    (case k25 => k_is)
    (case a26 => k_is)
    (case l26 => k_is)
    (case c26 => k_is)
    (case k26 => k_is)
    (case a27 => k_is)
    (case l27 => k_is)
    (case c27 => k_is)
    (case k27 => k_is)
    (case a28 => k_is)
    (case l28 => k_is)
    (case c28 => k_is)
    (case k28 => k_is)
    (case a29 => k_is)
    (case l29 => k_is)
    (case c29 => k_is)
    (case k29 => k_is)
    (case a30 => k_is)
    (case l30 => k_is)
    (case c30 => k_is)
    (case k30 => k_is)
    (case a31 => k_is)
    (case l31 => k_is)
    (case c31 => k_is)
    (case k31 => k_is)
    (case a32 => k_is)
    (case l32 => k_is)
    (case c32 => k_is)
    (case k32 => k_is)
    (case a33 => k_is)
    (case l33 => k_is)
    (case c33 => k_is)
    (case k33 => k_is)
    (case a34 => k_is)
    (case l34 => k_is)
    (case c34 => k_is)
    (case k34 => k_is)
    (case a35 => k_is)
    (case l35 => k_is)
    (case c35 => k_is)
    (case k35 => k_is)
    (case z_all => k_is)
    (case z_bool => k_is)
    (case z_enumerate => k_is)
    (case z_int => k_is)
    (case z_isinstance => k_is)
    (case z_len => k_is)
    (case z_list => k_is)
    (case z_max => k_is)
    (case z_min => k_is)
    (case z_range => k_is)
    (case z_sorted => k_is)
    (case z_str => k_is)
    (case z_tuple => k_is)
    (case hkt => kernel_rfl)
