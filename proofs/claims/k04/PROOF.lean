import PyProof.Rows.All
import Wide.All
import OpenK.AllK
import Wide.FinOn
import HandS.ForMost
import HandS.ForExc
import HandS.Wide
import HandS.Gcd
import HandS.IsInst
import HandS.ExcInit
import HandS.ExcField
import HandS.ExcIs
import HandS.Property
import HandS.DictComp
import HandS.ClsMeth
import HandS.Zip
import HandS.Walk
import HandS.Style
import HandS.TupAny
import HandS.More
import HandS.Strs
import KE.GoesEnum
import HandS.OwnEq
import PyProof.InstEq
import HandS.FStr
import HandS.TryMany
import HandS.TupSets
import KE.GoesSet
import HandS.Lambda
import HandS.EndTab
import KE.KDictList
import PyProof.DictValues
import KE.GoesZip
import KE.GoesMore
import HandS.DictEq
import HandS.DictTup
import PyProof.DictFindH
import KE.KDictDisplayH
import PyProof.Rows.Range3
import HandS.Small
import KE.KDictKeyed
import HandS.SortOrd
import KE.KSortTupAny
import HandS.SortRule
import KE.KDictPairs
import KE.KMathG
import KE.KMathGC
import PyProof.SeqIndex
import KE.KDictZip
import PyProof.AutoSeq1
import HandS.Deep
import HandS.Conv
import PySem.Challenge.RW_evensieve_k04_draws
set_option Elab.async false
set_option linter.all false
set_option maxRecDepth 100000
set_option maxHeartbeats 4000000
namespace My
open PySem L2 PySem.Spec PyProof.Rows
section
variable {X : Cx}
/-! ### Base.__init__(self, ..), Base an own class over ValueError without one of its own -/
def tBaseI (K : PySem.W.Frag) (ta : TA) : TE := fun σ H Q => ta σ H fun vs H1 => ∃ (a C : Addr) (ws : List V), vs = .ref a :: ws ∧ ws.length ≤ 1000 ∧ OexC K C ∧ H1 a = some (exo a C none) ∧ Q .non H1
theorem pe_baseinit {x : Str} {S : Addr} {mc : Value} {e : Expr} {es : List Expr} {ta : TA} {p1 p2 pos : Pos} {pl : Sem Bool} (hg : Gl X x) (hm : X.mg x = some (.ref S)) (r : ClX.CRead X.K S mc) (at_ : PySem.W.findCls X.K (.ref S) mc "__init__" = some (.val (.builtin "ValueError.__init__"))) (ha : PA X (e :: es) ta)
    (hd : (x == ("__debug__" : Str)) = false := by decide)
    (hc : eval (.Call (.Attribute (.Name x p1) "__init__" p2) (e :: es) [] pos) X.env = (do
      let ov ← eval (.Name x p1) X.env
      standAt p2.atName
      let (f, first) ← holding [ov] (getMethod ov "__init__" pl)
      callWith pos f first (backTo pos (starEach (e :: es) X.env)) (backToKw pos (keywordEach [] X.env))) := by rfl)
    (he : starEach (e :: es) X.env = (false, eval e X.env) :: starEach es X.env := by rfl) (hpl : (backTo pos (starEach es X.env)).any (·.1) = false := by rfl) :
    PE X (.Call (.Attribute (.Name x p1) "__init__" p2) (e :: es) [] pos) (tBaseI X.K ta) := by
  refine ⟨fun pins s σ H Q I want => ?_⟩
  refine PySem.W.methodCall_KW (ld_glob I hg hm ?_ hd) hc
  refine PySem.W.method_cls I.kIn r.ga ?_
  refine PySem.W.cls_value I.kIn r.rd at_ (by decide +kernel) ?_
  refine PyProof.Rows.callWith_method1 (thn (ha.run pos pins _ σ H _ (I.tok _) want) fun us s1 ⟨vs, H1, I1, r1, a, C, ws, ev, hl, T, ea, q⟩ => ?_) he hpl
  subst ev
  cases r1 with
  | @cons _ u0 _ ur ra rest =>
    obtain rfl : u0 = Value.ref a := ra
    exact oinit_ok T I1 ea (by rw [← Paired.length rest, sizeLine_eq]; omega) fun s' J => ⟨.non, H1, J, rfl, q⟩
end
end My
set_option Elab.async false
set_option linter.all false
set_option maxRecDepth 100000
set_option maxHeartbeats 4000000
namespace My
open PySem L2 PySem.Spec PyProof.Rows HT
section
variable {prog : Program} {w : World} {A : Around} {E : Value → Shared → Prop} {s : Shared}
theorem back_take {α : Type} (l : List α) : ∀ m : Nat, m ≤ l.length → (List.range m).filterMap (fun k => l[l.length - 1 - k]?) = l.reverse.take m
  | 0, _ => by simp
  | m + 1, h => by
    have ih := back_take l m (by omega)
    rw [List.range_succ, List.filterMap_append, ih, List.take_add_one, List.getElem?_reverse (by omega)]
    cases e : l[l.length - 1 - m]? <;> simp [List.filterMap, e]
theorem fm_same {α β : Type} {f g : α → Option β} : ∀ l : List α, (∀ k, k ∈ l → f k = g k) → l.filterMap f = l.filterMap g
  | [], _ => rfl
  | a :: l, h => by
    rw [List.filterMap_cons, List.filterMap_cons, h a List.mem_cons_self, fm_same l fun k m => h k (List.mem_cons_of_mem _ m)]
theorem back_pick (items : Array Value) : (List.filterMap (fun k : Nat => items[((items.size : Int) - 1 + (k : Int) * -1).toNat]?) (List.range items.size)).toArray = items.toList.reverse.toArray := by
  have h := back_take items.toList items.toList.length (Nat.le_refl _)
  rw [List.take_of_length_le (by simp)] at h
  rw [← h]
  congr 1
  have e : items.toList.length = items.size := by simp
  rw [e]
  refine fm_same _ fun k hk => ?_
  have hk' := List.mem_range.mp hk
  rw [show ((items.size : Int) - 1 + (k : Int) * -1).toNat = items.size - 1 - k by omega]
  simp
theorem applied_back {sl : Addr} {vs : Value} {n : Nat} {Q : Int × Int × Nat → Shared → Prop} (hs : s.heap.IsSliceOf sl .none .none vs) (ps : IsPart vs (some (-1))) (h : Q ((n : Int) - 1, -1, n) s) :
    wpAny (model prog w) A (Builtin.Slice.sliceApplied (.ref sl) (pure (n : Int))) Q E s := by
  obtain ⟨rec, at_, _, data⟩ := id hs
  unfold Builtin.Slice.sliceApplied Builtin.Slice.sliceFields
  refine wpAny_bind (wpAny_bind (wpAny_field at_ data (x := .none) rfl (wpAny_bind (wpAny_field at_ data (x := .none) rfl (wpAny_bind (wpAny_field at_ data (x := vs) rfl (wpAny_pure ?_)))))))
  refine wpAny_bind (slicePart_ ps ?_)
  show wpAny _ _ (if ((-1 : Int) == 0) = true then _ else _) _ _ s
  rw [if_neg (by decide)]
  refine wpAny_bind (slicePart_none (wpAny_bind (slicePart_none (wpAny_bind (wpAny_pure ?_)))))
  show wpAny _ _ (match Builtin.Slice.sliceAdjust none none (-1) (n : Int) with | (lo, hi) => pure (lo, (-1 : Int), Builtin.Slice.slicePlaces lo hi (-1))) _ _ s
  have e : Builtin.Slice.sliceAdjust none none (-1) (n : Int) = ((n : Int) - 1, -1) := by simp [Builtin.Slice.sliceAdjust]
  rw [e]
  show wpAny _ _ (pure ((n : Int) - 1, (-1 : Int), Builtin.Slice.slicePlaces ((n : Int) - 1) (-1) (-1))) _ _ s
  have e2 : Builtin.Slice.slicePlaces ((n : Int) - 1) (-1) (-1) = n := by
    simp [Builtin.Slice.slicePlaces]
    try omega
  rw [e2]
  exact wpAny_pure h
theorem tuple_back {t sl : Addr} {items : Array Value} {vs : Value} {Q : Value → Shared → Prop} (ht : IsTup s.heap t items) (hs : s.heap.IsSliceOf sl .none .none vs) (ps : IsPart vs (some (-1)))
    (h : Q (.ref s.heap.objs.size) { s with heap := s.heap.push { cls := .type "tuple", data := .seq items.toList.reverse.toArray } }) (hsz : items.size ≤ sizeLine) : wpAny (model prog w) A (getItem (.ref t) (.ref sl)) Q E s := by
  have room : sizeOk (.seq items.toList.reverse.toArray) := by
    show items.toList.reverse.toArray.size ≤ sizeLine
    simpa using hsz
  obtain ⟨rec, at_, cls_, data⟩ := id hs
  have kind : s.TypeIs (.ref sl) "slice" := ⟨rec, at_, cls_⟩
  unfold getItem
  try with_reducible refine wpAny_holding ?_
  first | refine wpAny_bind (wpAny_pure ?_) | skip
  refine wpAny_bind (wpAny_sequenceKey ht.typeIs (by decide) ?_)
  refine wpAny_bind (wpAny_callSpecial?_slot (name := Str.ofString "__getitem__") ht.typeIs PyProof.Rows.slot_tuple_getitem
    (wpAny_call_entry PyProof.Rows.slot_tuple_getitem ht.typeIs entry_tuple_getitem ?_ (args_tuple_getitem _ _)))
  show wpAny _ _ (Builtin.Tuple.tupleItemsOf (.ref t) >>= _) _ _ s
  refine wpAny_bind (tupleItemsOf_ ht ?_)
  refine wpAny_bind (wpAny_typeOf kind ?_)
  rw [if_pos (by decide)]
  refine wpAny_bind (applied_back hs ps ?_)
  have no : ¬ (((items.size : Int) - 1 == 0 && (-1 : Int) == 1 && items.size == items.size) = true) := by simp
  dsimp only
  rw [if_neg no, back_pick]
  first
    | exact wpAny_bind (m := Builtin.Tuple.tupleExact _) (wpAny_newObj_type (wpAny_pure ⟨_, rfl, wpAny_pure h⟩) room)
    | exact wpAny_bind (m := Builtin.Tuple.tupleExact _) (wpAny_newObj_type (wpAny_bind (wpAny_pure (wpAny_pure ⟨_, rfl, wpAny_pure h⟩))) room)
    | exact wpAny_bind (wpAny_bind (m := Builtin.Tuple.tupleExact _) (wpAny_newObj_type (wpAny_pure ⟨_, rfl, wpAny_pure h⟩) room))
end
/-! ### t[::-1] of a tuple, x in a chain of three comparisons -/
section
variable {X : Cx}
def tRevT (K : PySem.W.Frag) (te : TE) : TE := fun σ H Q => te σ H fun x H1 => ∃ a xs, x = .ref a ∧ SqT K H1 a xs ∧ ∀ p, H1 p = none → Q (.ref p) (upd H1 p (.tup xs.reverse))
theorem pe_revT {e : Expr} {te : TE} {k : Nat} {p1 p2 p3 pos : Pos} (he : PE X e te) : PE X (.Subscript e (.Slice none none (some (.UnaryOp .USub (.Constant (.int 1) k p1) p2)) p3) pos) (tRevT X.K te) := by
  refine ⟨fun pins s σ H Q I want => ?_⟩
  refine Subscript_ (thn (he.run pins s σ H _ I want) fun v s1 ⟨x, H1, I1, rx, a, xs, ex, hx, q⟩ => ?_)
  subst ex
  cases rx
  refine wpAny_Slice (thn (po_none.run pins s1 σ H1 (fun o H2 => o = none ∧ H2 = H1) I1 ⟨rfl, rfl⟩) fun vl s2 ⟨l, H2, I2, pl, el, e2⟩ => ?_)
  subst el e2
  refine thn (po_none.run pins s2 σ H2 (fun o H3 => o = none ∧ H3 = H2) I2 ⟨rfl, rfl⟩) fun vu s3 ⟨u, H3, I3, pu, eu, e3⟩ => ?_
  subst eu e3
  have minus : PO X (some (.UnaryOp .USub (.Constant (.int 1) k p1) p2)) (tPart (tUn (rU fun i => .int (-i)) (tC (.int 1)))) := po_some (pe_un un_neg pe_int)
  refine thn (minus.run pins s3 σ H3 (fun o H4 => o = some (-1) ∧ H4 = H3) I3 ⟨1, rfl, -1, rfl, rfl, rfl⟩) fun vs s4 ⟨o, H4, I4, ps, eo, e4⟩ => ?_
  subst eo e4
  have I5 : Inv X pins σ H4 { s4 with heap := s4.heap.push { cls := .type "slice", data := .fields #[vl, vu, vs] } } := I4.kept (t' := s4.toks) fun b ob q => Heap.get?_push_of_some _ q
  obtain ⟨its, r, ht, hz⟩ := I5.tuple hx
  have hlen := r.length
  cases pl
  cases pu
  show wpAny (model X.prog X.w) X.A (subscriptTail e (.Slice none none (some (.UnaryOp .USub (.Constant (.int 1) k p1) p2)) p3) (.ref a) (.ref s4.heap.objs.size)) (EP X pins σ Q) X.xe { s4 with heap := s4.heap.push { cls := .type "slice", data := .fields #[.none, .none, vs] } }
  refine tail_any (ops := [.ref a, .ref s4.heap.objs.size]) ht.typeIs (PyProof.Rows.slot_tuple_getitem.lookup) ?_ (by with_unfolding_all rfl)
  refine tuple_back ht (Heap.IsSliceOf.new _ .none .none vs) ps ?_ (by rw [List.size_toArray]; omega)
  refine ⟨.ref _, _, I5.laid (t' := s4.toks) (o := .tup xs.reverse) (fun b ob q => Heap.get?_push_of_some _ q) (Nat.le_refl _) ?_, rfl, q _ (I5.hok.fresh (Nat.le_refl _))⟩
  have hz2 : xs.reverse.length ≤ sizeLine := by rw [List.length_reverse]; exact hz
  refine ⟨hz2, its.reverse, r.reverse, ?_⟩
  exact IsTup.new _ its.reverse.toArray
def tChain3 (r r' r'' : R2) (ta tb tc td : TE) : TE := fun σ H Q => ta σ H fun x H1 => tb σ H1 fun y H2 => r x y H2 fun z H3 => ∃ k, z = .bl k ∧
  (if k = true then tc σ H3 fun y' H4 => r' y y' H4 fun z' H5 => ∃ k', z' = .bl k' ∧ (if k' = true then td σ H5 fun y'' H6 => r'' y' y'' H6 Q else Q (.bl false) H5) else Q (.bl false) H3)
theorem pe_chain3 {op op' op'' : CmpOp} {r r' r'' : R2} {a b c d : Expr} {ta tb tc td : TE} {pos : Pos} (ho : OpR X (compareOp op) r) (ho' : OpR X (compareOp op') r') (ho'' : OpR X (compareOp op'') r'') (ha : PE X a ta) (hb : PE X b tb) (hc : PE X c tc) (hd : PE X d td)
    (hm : lastMarks [op, op', op''] [b, c, d] = false := by with_unfolding_all rfl) : PE X (.Compare a [op, op', op''] [b, c, d] pos) (tChain3 r r' r'' ta tb tc td) := by
  refine ⟨fun pins s σ H Q I want => ?_⟩
  refine Compare_chain (thn (ha.run pins s σ H _ I want) fun v s1 ⟨x, H1, I1, r1, q1⟩ => chain_link (thn (hb.run pins s1 σ H1 _ I1 q1) fun u s2 ⟨y, H2, I2, r2, q2⟩ => thn (ho pins s2 σ H2 x y v u _ I2 r1 r2 q2) fun t s3 ⟨z, H3, I3, r3, k, e, q3⟩ => ?_)) hm
  subst e
  cases r3
  refine wpAny_truthy_bool ?_
  cases k with
  | false => exact ite_ff ⟨.bl false, H3, I3, rfl, q3⟩
  | true =>
    refine ite_tt (chain_link (thn (hc.run pins s3 σ H3 _ I3 q3) fun u' s4 ⟨y', H4, I4, r4, q4⟩ => thn (ho' pins s4 σ H4 y y' u u' _ I4 r2 r4 q4) fun t' s5 ⟨z', H5, I5, r5, k', e', q5⟩ => ?_))
    subst e'
    cases r5
    refine wpAny_truthy_bool ?_
    cases k' with
    | false => exact ite_ff ⟨.bl false, H5, I5, rfl, q5⟩
    | true => exact ite_tt (chain_last (thn (hd.run pins s5 σ H5 _ I5 q5) fun w' s6 ⟨y'', H6, I6, r6, q6⟩ => ho'' pins s6 σ H6 y' y'' u' w' Q I6 r4 r6 q6))
end
end My
set_option Elab.async false
set_option linter.all false
set_option maxRecDepth 100000
set_option maxHeartbeats 4000000
/-! isinstance(e, Base) in the suite, e a caught error that has its dict -/
namespace My
open PySem L2 PySem.Spec PyProof.Rows PySem.W
section
variable {prog : Program} {w : World} {A : Around} {E : Value → Shared → Prop} {s : Shared} {K : Frag} {x D : Addr} {ox od : Obj}
theorem exc_class {Q : Option Value → Shared → Prop} (C : ExcC K D) (X : K.In s.heap) (I : InstAt s.heap x ox D (some od)) (h : Q (some (.ref D)) { s with toks := s.toks + 1 }) :
    wpAny (model prog w) A (getAttr? (.ref x) "__class__") Q E s := by
  have found : findObj K D (some od) "__class__" = some (.bind (.builtin "getset_descriptor.__get__") (.builtin "object.__class__")) := by
    obtain ⟨cd, hc, _⟩ := any_some C.hd
    exact findObj_data (by rw [hc]; rfl) C.ha C.hn C.ht
  obtain ⟨heap, gens, drawn, n, os⟩ := s
  have T0 := I.type (M := model prog w)
  have T1 := looks_findIn (M := model prog w) X C.hg
  have T2 := looks_findIn (M := model prog w) X C.hk
  have T3 := looks_find (M := model prog w) X I found
  have isB : Looks (model prog w) heap (isInstance (.ref x) (.type "BaseException")) true := T0.andThen (looks_subIn X C.hs)
  have unlike : (Value.builtin "BaseException.__getattribute__" == Value.builtin "object.__getattribute__") = false := by decide +kernel
  have c1 : (onTheHeap (Value.ref D) && Value.builtin "BaseException.__getattribute__" == Value.builtin "object.__getattribute__") = false := by rw [unlike]; rfl
  have c2 : (false && onTheHeap (Value.builtin "BaseException.__getattribute__")) = false := rfl
  unfold getAttr? getAttrBy? getAttrBy
  refine wpAny_bind (wpAny_mkText (wpAny_bind (wpAny_attempt (wpAny_holding (wpAny_bind (T0.at (wpAny_bind (T1.at ?_))))))))
  show wpAny _ _ (if (onTheHeap (Value.ref D) && Value.builtin "BaseException.__getattribute__" == Value.builtin "object.__getattribute__") = true then _ else _) _ _ _
  rw [c1, if_neg Bool.false_ne_true]
  unfold getAttrByItsOwn hookBefore
  refine wpAny_bind ?_
  rw [if_pos (show onTheHeap (Value.ref D) = true from rfl)]
  refine T2.at ?_
  refine wpAny_bind (wpAny_attempt (wpAny_holding ?_))
  unfold callGetattribute
  rw [c2, if_neg Bool.false_ne_true]
  unfold boundAndCalled
  rw [PySem.F.excAttr_ValueError.ga.bind (.ref x)]
  refine wpAny_bind (wpAny_pure ?_)
  show wpAny _ _ (call (.builtin "BaseException.__getattribute__") [.ref x, .str "__class__" n]) _ _ _
  refine wpAny_call (codeAny_call_builtin PySem.F.excAttr_ValueError.ga.plain PySem.F.entry_bexc_ga ?_)
  refine @check_slot (model prog w) _ _ ⟨heap, gens, drawn, n + 1, os⟩ "BaseException.__getattribute__" "BaseException" "__getattribute__" (.ref x) [.str "__class__" n] [] _ (by decide +kernel) (by decide +kernel) isB (PySem.F.args_bexc_ga (.ref x) (.str "__class__" n)) ?_
  unfold Builtin.«object.__getattribute__»
  refine wpAny_bind (wpAny_of_eq (a := ((Value.ref x : Value), [Value.str "__class__" n])) (by first | rfl | (simp only [slotArgs]; rfl)) ?_)
  refine wpAny_bind (wpAny_pure (wpAny_bind (T0.at (wpAny_bind (T3.at ?_)))))
  show wpAny _ _ (holding [Value.builtin "object.__class__"] (call (.builtin "getset_descriptor.__get__") [.builtin "object.__class__", .ref x, .ref D]) >>= ret) _ _ _
  refine wpAny_bind (wpAny_holding (wpAny_call (class_get (s := ⟨heap, gens, drawn, n + 1, os⟩) (ox := ox) (od := some od) X I C.hm ?_)))
  refine wpAny_pure ?_
  show wpAny _ _ (handedOut (.ref D)) _ _ _
  rw [handedOut_of (v := .ref D) rfl]
  first
    | exact wpAny_pure (wpAny_pure h)
    | exact wpAny_pure h
    | exact wpAny_pure (wpAny_bind (wpAny_pure (wpAny_pure h)))
theorem kit_caught (C : ExcC K D) : KitX K (.ref x) (.ref D) (fun h => InstAt h x ox D (some od)) where
  ty := fun _ _ _ I => I.type
  it := fun M h X _ => by
    obtain ⟨cd, hc, _⟩ := any_some C.hd
    unfold clsIn at hc
    split at hc
    · rename_i _ _ _ _ found
      intro A' Q' E' s' keep q
      unfold isType loadHead
      exact wpAny_bind (wpAny_loadPart (keep _ _ (X _ _ found)) (wpAny_pure q))
    · cases hc
  ne := fun h tp dd its n sl X htp => by
    obtain ⟨cd, hc, _⟩ := any_some C.hd
    refine Bool.eq_false_iff.mpr fun q => ?_
    obtain rfl : D = tp := Value.ref.inj (beq_iff_eq.mp q)
    unfold clsIn at hc
    split at hc
    · rename_i _ _ _ _ found
      cases (X _ _ found).symm.trans htp
    · cases hc
  ca := fun X I k => exc_class C X I k
end
theorem kit_of_exm {K : Frag} {t c : Value} (h : exmOne K t c = some true) : kitOne K t c = some true := by
  unfold exmOne at h
  split at h
  · unfold kitOne
    split
    · rfl
    · exact h
  · cases h
/-- isinstance(e, S), e the error that the suite holds, with its dict at dd -/
def rIsC (K : Frag) (D a dd : Addr) : List V → Hp → VK → Prop := fun xs H Q => ∃ (S : Addr) (b : Bool) (fs : List (Str × V)), xs = [.ref a, .ref S] ∧ H dd = some (.xd fs) ∧ kitOne K (.ref D) (.ref S) = some b ∧ Q (.bl b) H
theorem call_isC {X : Cx} {a D dd : Addr} {oe : Obj} {pn : List (Addr × Obj)} (C : ExcC X.K D) (hz : Zc (.ref D) (some dd) oe) (hf : ∃ vs, oe.data = .fields vs) : CallR (X.suite a ((a, oe) :: pn)) (.builtin "isinstance") (rIsC X.K D a dd) := by
  intro pins s σ H xs us Q I r want
  obtain ⟨S, b, fs, rfl, hd, e, q⟩ := want
  obtain ⟨u1, u2, rfl, r1, r2⟩ := vals2 r
  obtain rfl : u1 = Value.ref a := r1
  obtain rfl : u2 = Value.ref S := r2
  obtain ⟨at_, _⟩ := I.pin (a, oe) (List.mem_append_left _ List.mem_cons_self)
  obtain ⟨vs, hv⟩ := hf
  have held : ObjOk X.prog X.w H s.heap dd (.xd fs) := I.hok dd _ hd
  obtain ⟨mA, hns, _⟩ := held
  obtain ⟨od, ho, _⟩ := lookIn_ns hns
  have J : InstAt s.heap a oe D (some od) := ⟨at_, hz.1, by unfold notCls; rw [hv] <;> rfl, by rw [hz.2]; exact ho⟩
  exact kia_one (kit_caught C) I.kIn J e (fun z => nomatch z) fun tk => ⟨.bl b, H, I.kept (t' := tk) fun _ _ z => z, rfl, q⟩
end My
set_option Elab.async false
set_option linter.all false
set_option maxRecDepth 100000
set_option maxHeartbeats 4000000
/-! len(set(xs)), xs a list of texts no two of which are one -/
namespace My
open PySem L2 PySem.Spec PyProof.Rows
def hasT (xs : List Str) (i : Nat) : Str → Bool := fun y => (xs.take i).any fun z => z == y
theorem hasT_more {xs : List Str} {i : Nat} (h : i < xs.length) (y : Str) : (hasT xs i y || decide (y = xs.getD i Str.empty)) = hasT xs (i + 1) y := by
  have e : xs.take (i + 1) = xs.take i ++ [xs[i]] := by rw [List.take_add_one, List.getElem?_eq_getElem h]; rfl
  have d : xs.getD i Str.empty = xs[i] := by rw [List.getD_eq_getElem?_getD, List.getElem?_eq_getElem h]; rfl
  unfold hasT
  rw [e, d, List.any_append]
  congr 1
  rw [List.any_cons, List.any_nil, Bool.or_false]
  by_cases q : y = xs[i]
  · rw [decide_eq_true q, q, beq_self_eq_true]
  · rw [decide_eq_false q]
    exact (beq_eq_false_iff_ne.mpr fun z => q z.symm).symm
theorem hasT_not {xs : List Str} (nd : xs.Nodup) {i : Nat} (h : i < xs.length) : hasT xs i (xs.getD i Str.empty) = false := by
  unfold hasT
  rw [List.getD_eq_getElem?_getD, List.getElem?_eq_getElem h]
  refine Bool.eq_false_iff.mpr fun z => ?_
  obtain ⟨y, hy, e⟩ := List.any_eq_true.mp z
  obtain rfl := beq_iff_eq.mp e
  obtain ⟨j, hj, ej⟩ := List.mem_iff_getElem.mp hy
  rw [List.length_take] at hj
  rw [List.getElem_take] at ej
  have := (List.getElem_inj nd).mp ej
  omega
section
variable {prog : Program} {w : World} {A : Around} {s : Shared}
/-- the loop that puts them in -/
theorem put_texts {R : Result → Shared → Prop} {I : Addr} {fp wr : List Addr} {G : Array GenState → Array GenState → Prop} {P : Nat → Value → Prop} {St : Nat → Shared → Prop} {xs : List Str}
    (W : WalksS prog w A.in1 I fp wr G xs.length P St) (S : Addr) (out : S ∉ fp) (nd : xs.Nodup) (few : xs.length < 100) (tells : ∀ i v, P i v → ∃ t, v = .str (xs.getD i Str.empty) t) :
    ∀ (left i : Nat) (s : Shared), i + left = xs.length → St i s → s.heap.SetOf (PySem.strKind prog w) S (hasT xs i) i →
      (∀ s', Moved (S :: wr) G s s' → s'.heap.SetOf (PySem.strKind prog w) S (hasT xs xs.length) xs.length → R (.ok (.ret .none)) s') →
      codeAny (model prog w) A (.builtin "set.update.loop" ⟨[.ref S, .ref I], []⟩) R s := by
  have stays : ∀ {s s' : Shared} {i : Nat}, Moved wr G s s' → s.heap.SetOf (PySem.strKind prog w) S (hasT xs i) i → s'.heap.SetOf (PySem.strKind prog w) S (hasT xs i) i := fun m h => by
    obtain ⟨o, es, ep, t, ho, z⟩ := h
    exact ⟨o, es, ep, t, m.heap S _ (fun q => out (W.sub _ q)) ho, z⟩
  intro left
  induction left with
  | zero =>
    intro i s e st h k
    obtain rfl : i = xs.length := by omega
    refine codeAny_builtin F.entry_set_update_loop ?_
    rw [Around.under_plainId F.plain_set_update_loop _]
    show wpAny _ A.in1 (do let x ← pyNext (.ref I); _) _ _ s
    exact wpAny_bind (W.done s _ _ st fun s' m => wpAny_pure (k s' (m.mono fun b q => .tail _ q) (stays m h)))
  | succ left ih =>
    intro i s e st h k
    have lt : i < xs.length := by omega
    refine codeAny_builtin F.entry_set_update_loop ?_
    rw [Around.under_plainId F.plain_set_update_loop _]
    show wpAny _ A.in1 (do let x ← pyNext (.ref I); _) _ _ s
    refine wpAny_bind (W.item i s _ _ lt st fun v s1 p st1 m => ?_)
    obtain ⟨t, rfl⟩ := tells i v p
    have h1 := stays m h
    refine wpAny_bind (wpAny_holding ?_)
    unfold setAdd
    refine wpAny_holding (wpAny_bind ((PySem.strKind prog w).pyHash (k := xs.getD i Str.empty) (strKind_is _ _ _ _) ?_))
    refine wpAny_setAddHashed_of (knd := PySem.strKind prog w) (s := { s1 with toks := s1.toks + 1 }) (strKind_is _ _ _ _) rfl h1 (by unfold scanBound; omega) fun h' only h2 => ?_
    have h3 : h'.SetOf (PySem.strKind prog w) S (hasT xs (i + 1)) (i + 1) := SetOf_congr h2 (hasT_more lt) (by rw [hasT_not nd lt]; rfl)
    refine wpAny_pure ⟨plainId_quiet F.plain_set_update_loop _, ih (i + 1) _ (by omega) (W.frame _ s1 _ _ st1 (Nat.le_succ _) fun b q o z => ?_) h3 fun s2 m2 h4 => k s2 ?_ h4⟩
    · rw [only.2 b fun z => out (z ▸ q)]
      exact z
    · refine Moved.trans W.gtrans ((m.mono fun b q => .tail _ q).then_heap (Nat.le_succ _) fun b o q z => ?_) m2
      rw [only.2 b fun z => q (z ▸ .head _)]
      exact z
/-- set(l), by its loop -/
theorem set_of_list {Q : Value → Shared → Prop} {E : Value → Shared → Prop} {l : Addr} {items : Array Value} (calm : A.handled = none) (hl : s.heap.IsList l items) (Z : Heap → Addr → Prop)
    (loop : ∀ (B : Around) (R : Result → Shared → Prop) (I : Addr) (t : Shared), B.handled = none → s.heap.objs.size ≠ I → l ≠ I → s.heap.objs.size ≠ l → t.heap.IsListIter I l 0 → t.heap.IsList l items → t.heap.SetOf (PySem.strKind prog w) s.heap.objs.size (fun _ => false) 0 →
      (∀ t', Moved [s.heap.objs.size, I] (fun a b => b = a) t t' → Z t'.heap s.heap.objs.size → R (.ok (.ret .none)) t') →
      codeAny (model prog w) B (.builtin "set.update.loop" ⟨[.ref s.heap.objs.size, .ref I], []⟩) R t)
    (k : ∀ (h' : Heap) (tk : Nat), Z h' s.heap.objs.size → (∀ b o, s.heap.get? b = some o → h'.get? b = some o) → Q (.ref s.heap.objs.size) { s with heap := h', toks := tk }) :
    wpAny (model prog w) A (call (.type "set") [.ref l]) Q E s := by
  have born := PySem.F.called_set
  obtain ⟨cls, rest, eqm⟩ := born.mro
  have a1 := born.made
  have a2 := born.sub
  have a3 := born.notType
  have a4 := born.canCreate
  have a5 := PySem.F.typeCall_set_1 (.ref l)
  refine wpAny_call (codeAny_of_tree ?_)
  show wpAny _ _ (callAny (.type "set") _) _ _ _
  refine wpAny_pure ⟨Code.quiet_builtin _ (by decide +kernel), codeAny_builtin PySem.F.entry_type_call ?_⟩
  rw [Around.under_plain (weight_type_call_type "set" [.ref l] []) rfl]
  repeat (any_goals (first | assumption | wp_step))
  let fresh : Bool → Obj := fun b => { cls := .type "set", dict := none, data := .set #[] 0 (.fresh 0 0 b) }
  refine codeAny_mono (code_set_new_1 (.ref l) (E := E) (Q₁ := fun u t => ∃ b, u = .ref s.heap.objs.size ∧ t = { s with heap := s.heap.push (fresh b) }) fun b => ⟨b, rfl, rfl⟩) fun r t hr => ?_
  rcases r with e | fl
  · exact hr
  cases fl with
  | next => exact hr.elim
  | brk => exact hr.elim
  | cont => exact hr.elim
  | ret u =>
  obtain ⟨b, rfl, rfl⟩ := hr
  have at_ : (s.heap.push (fresh b)).get? s.heap.objs.size = some (fresh b) := Heap.get?_push_size _ rfl
  have a6 : Shared.TypeIs { s with heap := s.heap.push (fresh b) } (.ref s.heap.objs.size) "set" := ⟨_, at_, rfl⟩
  have a7 := born.init.lookup
  have a8 := born.init.bind (.ref s.heap.objs.size)
  repeat (any_goals (first | assumption | wp_step))
  have ll : l < s.heap.objs.size := by
    obtain ⟨o, ho, _⟩ := id hl
    exact Heap.lt_size ho
  have hl2 : (s.heap.push (fresh b)).IsList l items := hl.push _
  refine codeAny_mono (codeAny_call_builtin (R := wants (fun u t => u = .none ∧ ∃ h' tk, t = { s with heap := h', toks := tk } ∧ Z h' s.heap.objs.size ∧ ∀ b o, s.heap.get? b = some o → h'.get? b = some o) E) born.init.plain PySem.F.entry_set_init (check_set_init_1 a6 ?_)) fun r t hr => ?_
  · obtain ⟨ol, hol, hcl, nl, hdl⟩ := id hl
    obtain ⟨lc, ld_, ldat, lsl⟩ := ol
    dsimp only at hcl hdl
    subst hcl hdl
    have hol2 : (s.heap.push (fresh b)).get? l = some { cls := .type "list", dict := ld_, data := .seq items nl, slots := lsl } := Heap.get?_push_of_some _ hol
    have b1 := PySem.F.sub_list_set
    have b2 := PySem.F.sub_list_frozenset
    have b3 : (Value.type "list" == Value.type "dict") = false := by decide
    unfold Builtin.«set.__init__» noKeywords Builtin.Frozenset.updateFrom
    generalize hold : pyIter = it
    wp_walk
    subst hold
    refine wpAny_pyIter_list hl2 (wpAny_bind (wpAny_runValue ?_))
    have nI : (s.heap.push (fresh b)).objs.size = s.heap.objs.size + 1 := Heap.size_push _ _
    refine loop _ _ _ _ (by simp [calm]) (by rw [nI]; exact Nat.ne_of_lt (Nat.lt_succ_self _)) (by rw [nI]; exact Nat.ne_of_lt (Nat.lt_succ_of_lt ll)) (Nat.ne_of_gt ll) ?_ ?_ ?_ fun t' m z => ?_
    · exact ⟨_, Heap.get?_push_size _ rfl, rfl, rfl⟩
    · exact hl2.push _
    · exact SetOf_congr ((setObjOf_fresh (knd := PySem.strKind prog w) b).setOf (Heap.get?_push_of_some _ at_) (by unfold scanBound; omega)) (fun _ => rfl) rfl
    · obtain ⟨h', g', d', tk', os'⟩ := t'
      obtain rfl : g' = s.gens := m.gens
      obtain rfl : d' = s.drawn := m.drawn
      obtain rfl : os' = s.os := m.os
      refine wpAny_pure (wpAny_pure ⟨rfl, h', tk', rfl, z, fun c o q => ?_⟩)
      have lc := Heap.lt_size q
      refine m.heap c o (fun q2 => ?_) (Heap.get?_push_of_some _ (Heap.get?_push_of_some _ q))
      simp only [List.mem_cons, List.not_mem_nil, or_false] at q2
      rw [nI] at q2
      rcases q2 with q2 | q2
      · exact absurd lc (by rw [q2]; exact Nat.lt_irrefl _)
      · exact absurd lc (by rw [q2]; exact Nat.not_lt.mpr (Nat.le_succ _))
  · rcases r with e | fl
    · exact hr
    cases fl with
    | next => exact hr.elim
    | brk => exact hr.elim
    | cont => exact hr.elim
    | ret u =>
    obtain ⟨rfl, h', tk, rfl, z, keep⟩ := hr
    repeat (any_goals (first | assumption | wp_step))
    exact k h' tk z keep
end
section
variable {X : Cx}
/-- len(set(xs)), xs a list of texts -/
def tLenT (K : PySem.W.Frag) (ta : TE) : TE := fun σ H Q => ta σ H fun x H1 => ∃ (l : Addr) (xs : List Str), x = .ref l ∧ SqL K H1 l (xs.map V.str) ∧ xs.Nodup ∧ xs.length < 100 ∧ Q (.int xs.length) H1
theorem pe_lenT {a : Expr} {ta : TE} {p p2 q pos : Pos} (hc : X.calm = true) (hg : Gl X "len") (hm : X.mg "len" = none) (hg2 : Gl X "set") (hm2 : X.mg "set" = none) (ha : PE X a ta)
    (na : starEach [a] X.env = (false, eval a X.env) :: starEach [] X.env := by rfl) : PE X (.Call (.Name "len" p) [.Call (.Name "set" p2) [a] [] q] [] pos) (tLenT X.K ta) := by
  refine ⟨fun pins s σ H Q I want => ?_⟩
  refine Call_ (ld_blt I hg hm boot_len (PyProof.Rows.callWith_builtin1 (PyProof.Rows.args_cons (Call_ (ld_blt I hg2 hm2 boot_set ?_)) rfl) rfl rfl))
  refine PyProof.Rows.callWith_type1 (PyProof.Rows.args_cons (thn (ha.run pins s σ H _ I want) fun v s1 ⟨x, H1, I1, r1, l, xs, ex, hq, nd, few, q1⟩ => PyProof.Rows.args_nil ?_) na) na rfl
  subst ex
  cases r1
  obtain ⟨its, r, pl, hz⟩ := I1.list hq
  have he : its.length = xs.length := by rw [← r.length, List.length_map]
  have hs : its.toArray.size = xs.length := by rw [List.size_toArray, he]
  refine set_of_list (I1.ok.hd hc) pl.isList (fun h a => h.SetOf (PySem.strKind X.prog X.w) a (hasT xs xs.length) xs.length) (fun B R J t hh n1 n2 n3 i1 i2 i3 fin => ?_) fun h' tk hS keep => ?_
  · have W := (Walks.list (prog := X.prog) (w := X.w) (A := B.in1) (by simp [hh]) J l n2 its.toArray).toS
    rw [hs] at W
    refine put_texts W _ ?_ nd few (fun i v hv => SS.strs_at (L2.strsAre_of r) i v ?_) xs.length 0 t (by omega) ⟨i1, i2⟩ (SetOf_congr i3 (fun _ => rfl) rfl) fin
    · simp only [List.mem_cons, List.not_mem_nil, or_false, not_or]
      exact ⟨n1, n3⟩
    · rw [Array.getElem?_toList]
      exact hv
  · refine PyProof.Rows.args_nil ?_
    obtain ⟨o, es, ep, t, ho, hex, hd, _, _, _, hf, hn⟩ := hS
    have I2 : Inv X pins σ H1 { s1 with heap := h', toks := tk } := I1.kept fun b o e => keep b o e
    exact call_len_set ho hex hd hf (by rw [hn] <;> omega) ⟨.int xs.length, H1, I2.tok _, ⟨_, by rw [hn]⟩, q1⟩
end
end My
set_option Elab.async false
set_option linter.all false
set_option maxRecDepth 100000
set_option maxHeartbeats 4000000
/-! for i, x in enumerate(t), t a tuple -/
namespace My
open PySem L2 PySem.Spec PyProof.Rows PySem.W
abbrev walker (t : Addr) : Obj := { cls := .type "tuple_iterator", data := .fields #[.ref t, .int 0 0] }
abbrev counter (it : Addr) : Obj := { cls := .type "enumerate", data := .fields #[.none, .bool false, .ref it, rawInt 0, .none, .none] }
theorem born_enum (t : Addr) (items : Array Value) : Meets (Builtin.«enumerate.__new__» ⟨[.type "enumerate", .ref t], []⟩) (fun _ R s => s.heap.IsTuple t items ∧
      R (.ok (.ret (.ref (s.heap.push (walker t)).objs.size))) { s with heap := (s.heap.push (walker t)).push (counter s.heap.objs.size) }) := .of_wp fun prog w A R s want => by
  obtain ⟨hp, g, d, tk, os⟩ := s
  obtain ⟨is_, want⟩ := want
  have a1 := sub_enumerate
  have walks : ∀ {B : Around} {E : Value → Shared → Prop} {Q : Value → Shared → Prop}, Q (.ref hp.objs.size) ⟨hp.push (walker t), g, d, tk, os⟩ → wpAny (model prog w) B (pyIter (.ref t)) Q E ⟨hp, g, d, tk, os⟩ := fun q =>
    (begins_tuple t items).iter prog w _ _ ⟨hp, g, d, tk, os⟩ _ is_ q
  obtain ⟨ot, hot, hct, nt, hdt⟩ := id is_
  obtain ⟨c0, d0, dt0, s0⟩ := ot
  dsimp only at hct hdt
  subst hct hdt
  wp_walk using wpAny_loadPart' hot
  refine wpAny_stack_any fun st => wpAny_pure ?_
  split
  · rename_i c _ _ _ _ _
    cases (c == Value.type "enumerate") <;> (wp_walk using wpAny_loadPart' hot, walks; exact ⟨_, rfl, want⟩)
  · wp_walk using wpAny_loadPart' hot, walks
    exact ⟨_, rfl, want⟩
theorem call_enumT {prog : Program} {w : World} {A : Around} {E : Value → Shared → Prop} {s : Shared} {t : Addr} {items : Array Value} {Q : Value → Shared → Prop} (is_ : s.heap.IsTuple t items)
    (k : ∀ h', IsEnum h' (s.heap.objs.size + 1) s.heap.objs.size 0 .none → h'.IsTupleIter s.heap.objs.size t 0 → (∀ b o, s.heap.get? b = some o → h'.get? b = some o) → Q (.ref (s.heap.objs.size + 1)) { s with heap := h' }) :
    wpAny (model prog w) A (call (.type "enumerate") [.ref t]) Q E s := by
  have z1 : (s.heap.push (walker t)).objs.size = s.heap.objs.size + 1 := Heap.size_push ..
  have here : IsEnum ((s.heap.push (walker t)).push (counter s.heap.objs.size)) (s.heap.objs.size + 1) s.heap.objs.size 0 .none := by
    have q := Heap.get?_push_size (s.heap.push (walker t)) (o := counter s.heap.objs.size) rfl
    rw [z1] at q
    exact q
  refine callType_new F.called_enumerate (by decide) (F.typeCall_enumerate_1 _) (F.newCall_enumerate_1 _) (fun obj => F.args_object_init_2 obj _) F.entry_enumerate_new (born_enum t items) ⟨is_, ?_⟩
  show _ ∧ _
  rw [z1]
  exact ⟨⟨_, here, rfl⟩, k _ here ⟨_, Heap.get?_push_of_some _ (Heap.get?_push_size _ rfl), rfl, rfl⟩ fun b o x => Heap.get?_push_of_some _ (Heap.get?_push_of_some _ x)⟩
def IteT (K : PySem.W.Frag) (a : Addr) : It where
  go := fun i H => ∃ (xs : List V) (x : V), SqT K H a xs ∧ xs[i]? = some x
  yld := fun i H v H' => ∃ T x, v = .ref T ∧ H T = none ∧ H' = upd H T (.tup [.int (i : Nat), x]) ∧ ∀ xs, SqT K H a xs → xs[i]? = some x
  stop := fun i H => ∃ xs : List V, SqT K H a xs ∧ xs.length = i
theorem turn_enumT {P : Program} {w : World} {K : PySem.W.Frag} {elts : List Expr} {kk : Nat} {tpos : Pos} (a e it : Addr) :
    Turn P w K (.Tuple elts kk tpos) (IteT K a) [e, it] e (fun i h => (∃ old, IsEnum h e it ((i : Nat) : Int) old) ∧ h.IsTupleIter it a i ∧ e ≠ it) where
  mem := by simp
  obj := fun i h st b hb => by
    obtain ⟨⟨old, he⟩, ⟨o, ho, hc, hd⟩, _⟩ := st
    rcases (show b = e ∨ b = it by simpa using hb) with rfl | rfl
    · exact ⟨_, he, fun v q => nomatch q⟩
    · exact ⟨o, ho, fun v q => by rw [hd] at q; cases q⟩
  keep := fun i h h' st k => ⟨st.1.imp fun old he => k e (by simp) _ he, st.2.1.at fun o q => k it (by simp) o q, st.2.2⟩
  item := by
    intro X hP hw hK hc i pins s σ H E I hf st hg
    subst hP hw hK
    obtain ⟨⟨old, he⟩, hit, hne⟩ := st
    obtain ⟨xs, x, hq, hx⟩ := hg
    obtain ⟨its, rv, p, hz⟩ := I.tuple hq
    have isT : s.heap.IsTuple a its.toArray := p
    obtain ⟨u, hu, ru⟩ := rv.get hx
    have hel : e < s.heap.objs.size := Heap.lt_size he
    have hil : it < s.heap.objs.size := by obtain ⟨_, q, _⟩ := hit; exact Heap.lt_size q
    have nai : a ≠ it := fun z => by
      obtain ⟨o1, h1, c1, _⟩ := id isT
      obtain ⟨o2, h2, c2, _⟩ := id hit
      rw [z, h2] at h1
      cases h1
      rw [c2] at c1
      exact absurd c1 (by decide)
    have nea : e ≠ a := fun z => by
      obtain ⟨o1, h1, c1, _⟩ := id isT
      rw [← z, he] at h1
      cases h1
      exact absurd (show ("enumerate" : String) = "tuple" from Value.type.inj c1) (by decide)
    have li : i < its.toArray.size := by
      rw [List.size_toArray, ← rv.length]
      exact (List.getElem?_eq_some_iff.mp hx).1
    refine wpAny_pyNext_enum_itemD (Draws.tuple (by simpa using I.ok.hd hc) it a nai its.toArray) he ⟨hit, isT⟩ li hne (by simp [hne, nea]) fun x' h' tk hx' ho st' hT hsz hk => ?_
    obtain rfl : x' = u := by
      have e2 : its.toArray[i]? = some u := by simpa using hu
      rw [e2] at hx'
      exact (Option.some.inj hx').symm
    refine ⟨_, rfl, wpAny_letOwnedTupleGo_enum (s := { s with heap := h', toks := tk + 1 }) ho fun h'' he' sb => ?_⟩
    have hT2 : h''.get? s.heap.objs.size = some { cls := .type "tuple", data := .seq #[.int i tk, x'] } := (sb.2 _ (Nat.ne_of_gt hel)).trans hT
    have new : ObjOk X.prog X.w (upd H s.heap.objs.size (.tup [.int (i : Nat), x])) h'' s.heap.objs.size (.tup [.int (i : Nat), x]) :=
      ⟨by show 2 ≤ sizeLine; decide, [.int i tk, x'], .cons ⟨_, rfl⟩ (.cons ru .nil), ⟨_, hT2, rfl, _, rfl⟩⟩
    have I1 : Inv X pins σ (upd H s.heap.objs.size (.tup [.int (i : Nat), x])) { s with heap := h'', toks := tk + 1 } :=
      I.turnedNew (ch := [e, it]) (fun b ob hb q => (sb.2 b (fun z => hb (by simp [z]))).trans (hk b ob (fun z => hb (by simp [z])) (fun z => hb (by simp [z])) q)) hf (Nat.le_refl _) new
    refine ⟨.ref s.heap.objs.size, _, I1, rfl, ⟨_, x, rfl, I.hok.fresh (Nat.le_refl _), rfl, fun ys hy => by rw [I.tuple_inj hy hq]; exact hx⟩, ⟨⟨x', ?_⟩, st'.1.at fun o q => (sb.2 it (Ne.symm hne)).trans q, hne⟩, fun b hb => ?_⟩
    · rw [show ((i + 1 : Nat) : Int) = (i : Int) + 1 by omega]
      exact he'
    · have hb' : b < s.heap.objs.size := by
        rcases (show b = e ∨ b = it by simpa using hb) with rfl | rfl
        · exact hel
        · exact hil
      rw [upd_ne (Nat.ne_of_lt hb')]
      exact (hf b hb).1
  done := by
    intro X hP hw hK hc i pins s σ H E I hf st hg
    subst hP hw hK
    obtain ⟨⟨old, he⟩, hit, hne⟩ := st
    obtain ⟨xs, hq, hx⟩ := hg
    obtain ⟨its, rv, p, hz⟩ := I.tuple hq
    have isT : s.heap.IsTuple a its.toArray := p
    obtain ⟨f0, f1, f2, f3, f4, f5⟩ := hf it (by simp)
    have nai : a ≠ it := fun z => by
      obtain ⟨o1, h1, c1, _⟩ := id isT
      obtain ⟨o2, h2, c2, _⟩ := id hit
      rw [z, h2] at h1
      cases h1
      rw [c2] at c1
      exact absurd c1 (by decide)
    have hl : its.toArray.size = i := by rw [List.size_toArray, ← rv.length, hx]
    have D := Draws.tuple (prog := X.prog) (w := X.w) (A := X.A.in1) (by simpa using I.ok.hd hc) it a nai its.toArray
    rw [hl] at D
    exact wpAny_pyNext_enum_endD D he ⟨hit, isT⟩ fun h' eb => ⟨rfl, I.turned (t' := s.toks) (fun b o hb q => eb b o hb q) f0 f1 f3 f4 f5⟩
  self := fun A i s Q E st h => by
    obtain ⟨⟨_, he⟩, _⟩ := st
    exact wpAny_pyIter_enum he h
def iEnumT (K : PySem.W.Frag) (ta : TA) : TI := fun σ H R => ta σ H fun vs H1 => ∃ a xs, vs = [.ref a] ∧ SqT K H1 a xs ∧ R (IteT K a) H1
theorem pi_enumT {X : Cx} {e : Expr} {ta : TA} {p pos tpos : Pos} {elts : List Expr} {kk : Nat} (hg : Gl X "enumerate") (hm : X.mg "enumerate" = none) (ha : PA X [e] ta) (hs : starEach [e] X.env = [(false, eval e X.env)] := by rfl) :
    PI X (.Tuple elts kk tpos) (.Call (.Name "enumerate" p) [e] [] pos) (iEnumT X.K ta) := by
  refine ⟨fun pins s σ H R I want => ?_⟩
  refine Call_ (ld_blt I hg hm boot_enumerate (PyProof.Rows.callWith_type1 (thn (ha.run pos pins s σ H _ I want) fun us s1 ⟨vs, H1, I1, r1, a, xs, ev, hq, q⟩ => ?_) hs rfl))
  subst ev
  cases r1 with
  | @cons _ u0 _ ur ra rest =>
    cases rest
    obtain rfl : u0 = Value.ref a := ra
    obtain ⟨its, rv, p', hz⟩ := I1.tuple hq
    refine call_enumT (show s1.heap.IsTuple a its.toArray from p') fun h' he hit keep => wpAny_pyIter_enum he ?_
    have I2 : Inv X pins σ H1 { s1 with heap := h' } := I1.kept (t' := s1.toks) keep
    refine ⟨s1.heap.objs.size + 1, [s1.heap.objs.size + 1, s1.heap.objs.size], _, _, H1, rfl, I2, turn_enumT a (s1.heap.objs.size + 1) s1.heap.objs.size, ⟨⟨.none, he⟩, hit, Nat.succ_ne_self _⟩, fun b hb => ?_, q⟩
    have big : s1.heap.objs.size ≤ b := by
      rcases (show b = s1.heap.objs.size + 1 ∨ b = s1.heap.objs.size by simpa using hb) with rfl | rfl
      · exact Nat.le_add_right _ _
      · exact Nat.le_refl _
    exact I1.fpOk big (I1.hok.fresh big)
theorem walk_enumT {K : PySem.W.Frag} {a : Addr} {xs : List V} : Walk (IteT K a) xs.length (fun H => SqT K H a xs) (YPair (fun i => some (.int (i : Nat))) (fun i => xs[i]?)) := by
  refine ⟨fun i _ hi q => ⟨xs, xs[i], q, List.getElem?_eq_getElem hi⟩, fun _ q => ⟨xs, q, rfl⟩, fun i H v H' _ q y => ?_⟩
  obtain ⟨T, x, h1, h2, h3, h4⟩ := y
  exact ⟨T, _, x, h1, h2, h3, rfl, h4 xs q⟩
end My
set_option Elab.async false
set_option linter.all false
set_option maxRecDepth 100000
set_option maxHeartbeats 4000000
/-! a text times a number -/
namespace My
open PySem L2 PySem.Spec PyProof.Rows
def timesS (s : Str) (n : Nat) : Str := ⟨(List.replicate n s.cps).foldl (· ++ ·) #[]⟩
theorem times_size (a : Array Nat) : ∀ (n : Nat) (acc : Array Nat), ((List.replicate n a).foldl (· ++ ·) acc).size = acc.size + a.size * n
  | 0, acc => by simp
  | n + 1, acc => by
    rw [List.replicate_succ, List.foldl_cons, times_size a n, Array.size_append, Nat.mul_succ]
    omega
theorem op_mulS {X : Cx} : OpR X (binaryOp .Mult) (fun x y H Q => ∃ (s : Str) (n : Nat), x = .str s ∧ y = .int (n : Int) ∧ s.length ≤ 1000 ∧ s.length ≠ 0 ∧ 1 ≤ n ∧ n ≤ 1000 ∧ Q (.str (timesS s n)) H) := by
  intro pins st σ H x y v u Q I rx ry want
  obtain ⟨s, n, rfl, rfl, ls, l0, n1, n2, q⟩ := want
  obtain ⟨t, rfl⟩ := rx
  obtain ⟨t', rfl⟩ := ry
  refine P.mul_str ?_ (fun _ _ => ?_) (fun _ _ => ?_) ?_
  · rw [decide_eq_false (show ¬ (n : Int) < -(2 ^ 63) by omega), decide_eq_false (show ¬ (n : Int) ≥ 2 ^ 63 by omega)]
    rfl
  · intro z
    have h0 : s.length * n ≤ 1000 * 1000 := Nat.mul_le_mul ls n2
    have h1 : ((s.length : Nat) : Int) * (n : Int) ≤ 2 ^ 63 - 1 := by
      have : ((s.length * n : Nat) : Int) ≤ ((1000 * 1000 : Nat) : Int) := Int.ofNat_le.mpr h0
      rw [Int.natCast_mul] at this
      omega
    have h2 := Int.le_ediv_of_mul_le (show (0 : Int) < (n : Int) by omega) h1
    omega
  · refine decide_eq_false ?_
    have h1 : s.length * (n : Int).toNat ≤ 1000 * 1000 := by
      rw [Int.toNat_natCast]
      exact Nat.mul_le_mul ls n2
    exact Nat.not_lt.mpr (Nat.le_trans h1 (by decide))
  · rw [if_neg (show ¬ (n : Int) < 1 by omega)]
    by_cases c : n = 1
    · subst c
      rw [if_pos (by simp)]
      have e : timesS s 1 = s := by
        show (⟨#[] ++ s.cps⟩ : Str) = s
        rw [Array.empty_append]
      rw [e] at q
      exact ⟨.str s, H, I, ⟨_, rfl⟩, q⟩
    · rw [if_neg (by simp; omega)]
      refine ⟨?_, ⟨.str (timesS s n), H, I.tok _, ⟨_, by rw [Int.toNat_natCast]; rfl⟩, q⟩⟩
      rw [Int.toNat_natCast]
      have h0 : s.length * n ≤ 1000 * 1000 := Nat.mul_le_mul ls n2
      have e : (timesS s n).cps.size = s.length * n := by
        have z := times_size s.cps n #[]
        rw [Array.size_empty, Nat.zero_add] at z
        exact z
      exact Nat.le_trans (Nat.le_of_eq e) (Nat.le_trans h0 (by decide))
end My
set_option Elab.async false
set_option linter.all false
set_option maxRecDepth 100000
set_option maxHeartbeats 4000000
/-! == and != by an own __eq__ whose answer is whatever its promise says -/
namespace My
open PySem L2 PySem.Spec PyProof.Rows
section
variable {X : Cx} {n : Nat} {CX : CXT} {C f : Addr} {fd : FuncData} {ps : List Str} {sp : Sp} {E : XK}
/-- two instances of the class at C; the answer by the promise of __eq__ -/
def rOwnEq (C : Addr) (sp : Sp) (E : XK) : R2 := fun x y H Q => ∃ a b dx dy fs gs, x = .ref a ∧ y = .ref b ∧ H a = some (.ins C dx fs) ∧ H b = some (.ins C dy gs) ∧ sp [.ref a, .ref b] H (fun v H' => ∃ k, v = .bl k ∧ Q (.bl k) H') E
def rOwnNe (C : Addr) (sp : Sp) (E : XK) : R2 := fun x y H Q => ∃ a b dx dy fs gs, x = .ref a ∧ y = .ref b ∧ H a = some (.ins C dx fs) ∧ H b = some (.ins C dy gs) ∧ sp [.ref a, .ref b] H (fun v H' => ∃ k, v = .bl k ∧ Q (.bl (!k)) H') E
/-- the call of __eq__ itself, from any place with room -/
theorem own_call {A : Around} {pins : List (Addr × Obj)} {s : Shared} {σ : L2.St} {H : Hp} {a b : Addr} {Q : VK} (F : FnOk X.prog X.w X.K X.mg X.base CX n f fd ps sp) (hb : Binds X.K fd ps []) (hx : Passes CX X E) (hr : Room n A) (fr : A.frames = X.A.frames)
    (I : Inv X pins σ H s) (h : sp [.ref a, .ref b] H Q E) : wpAny (model X.prog X.w) A (call (.ref f) [.ref a, .ref b]) (EP X pins σ Q) X.xe s := by
  have e0 : Env0 X.prog X.w X.K X.mg X.base A X.stack s H := by
    have e := I.env0
    exact ⟨by rw [fr]; exact e.frames, e.mod, e.bs, e.bsz, e.funs, e.frf, e.hok, e.bare⟩
  have hl := F.len _ _ _ _ h
  refine wpAny_call (codeAny_mono (F.run A X.stack s H ⟨[.ref a, .ref b], []⟩ [.ref a, .ref b] [.ref a, .ref b] _ E hr e0 (by
    have := hb s [.ref a, .ref b] I.kIn (by simpa using hl)
    simpa using this) (.cons rfl (.cons rfl .nil)) h) fun r s' hq => ?_)
  cases r with
  | error e => exact hx pins σ H s e s' I hq
  | ok fl =>
    cases fl with
    | ret w => exact I.after hq
    | next => exact False.elim hq
    | brk => exact False.elim hq
    | cont => exact False.elim hq
theorem op_ownEq (F : FnOk X.prog X.w X.K X.mg X.base CX n f fd ps sp) (hs : PySem.W.findIn X.K (.ref C) "__eq__" = some (some (.ref f))) (hf : PySem.W.isFn X.K (.ref f) = true) (hb : Binds X.K fd ps []) (hx : Passes CX X E) (hr : Room n X.A) :
    OpR X (compareOp .Eq) (rOwnEq C sp E) := by
  intro pins s σ H x y v u Q I rx ry h
  obtain ⟨a, b, dx, dy, fs, gs, rfl, rfl, ha, hb', h⟩ := h
  cases rx
  cases ry
  obtain ⟨mA, J, _⟩ := ins_get I.hok ha
  obtain ⟨mB, J', _⟩ := ins_get I.hok hb'
  obtain ⟨od, J, _⟩ := J.look
  obtain ⟨od', J', _⟩ := J'.look
  obtain ⟨m, hF⟩ := I.fr
  show wpAny (model X.prog X.w) X.A (richCompare .Eq (.ref a) (.ref b)) (EP X pins σ Q) X.xe s
  refine PySem.W.cmp_K (op := .Eq) (tb := .ref C) (by have := hr.un; omega) hF I.ok.mod.kin J J'.type (by simp [PySem.W.notFirst]) hs hf ?_
  refine wpAny_mono (own_call F hb hx hr rfl I h) (fun r s' z => ?_) fun _ _ z => z
  obtain ⟨w, H', I', rw_, k, rfl, q⟩ := z
  cases rw_
  exact ⟨.bl k, H', I', rfl, q⟩
/-- a slot of object, bound and called -/
theorem ifBound_slot {M : Model} {A : Around} {E : Value → Shared → Prop} {K : PySem.W.Frag} {s : Shared} {x C : Addr} {ox : Obj} {od : Option Obj} {name : Str} {id : String} {args : List Value} {Q : Option Value → Shared → Prop} (KX : K.In s.heap) (I : PySem.W.InstAt s.heap x ox C od)
    (hs : PySem.W.findIn K (.ref C) name = some (some (.builtin id))) (bd : bindSpecial (.builtin id) (.ref x) = pure (.builtin id, [.ref x])) (h : wpAny M A (call (.builtin id) (.ref x :: args)) (fun v => Q (some v)) E s) :
    wpAny M A (callSpecialIfBound? (.ref x) name args) Q E s := by
  have told : wpAny M A (call (.builtin id) ([.ref x] ++ args) >>= fun v => pure (some v)) Q E s := wpAny_bind (wpAny_mono h (fun v s' z => wpAny_pure z) fun _ _ z => z)
  simp only [callSpecialIfBound?, bindSpecialIfBound?]
  refine wpAny_holding (wpAny_bind (wpAny_bind (wpAny_bind (I.type.here ((PySem.W.looks_findIn KX hs).here ?_)))))
  simp only [bd]
  refine wpAny_bind (wpAny_askSetting (wpAny_ite ?_))
  split
  · exact wpAny_bind (wpAny_pure (wpAny_pure told))
  · exact wpAny_tryCatch (wpAny_bind (wpAny_pure (wpAny_pure told)))
theorem ne_bind (x : Addr) : bindSpecial (.builtin "object.__ne__") (.ref x) = pure (.builtin "object.__ne__", [.ref x]) := F.cmp_object.ne.bind (.ref x)
theorem op_ownNe (F : FnOk X.prog X.w X.K X.mg X.base CX n f fd ps sp) (hs : PySem.W.findIn X.K (.ref C) "__eq__" = some (some (.ref f))) (hf : PySem.W.isFn X.K (.ref f) = true) (hb : Binds X.K fd ps []) (hx : Passes CX X E) (hr : Room (n + 1) X.A)
    (hn : PySem.W.findIn X.K (.ref C) "__ne__" = some (some (.builtin "object.__ne__"))) (hm : PySem.W.mroIn X.K C (.type "object") = some true) :
    OpR X (compareOp .NotEq) (rOwnNe C sp E) := by
  intro pins s σ H x y v u Q I rx ry h
  obtain ⟨a, b, dx, dy, fs, gs, rfl, rfl, ha, hb', h⟩ := h
  cases rx
  cases ry
  obtain ⟨mA, J, _⟩ := ins_get I.hok ha
  obtain ⟨mB, J', _⟩ := ins_get I.hok hb'
  obtain ⟨od, J, _⟩ := J.look
  obtain ⟨od', J', _⟩ := J'.look
  have KX := I.kIn
  have hu := hr.un
  have inner : wpAny (model X.prog X.w) X.A.in1 (Builtin.«object.__ne__» ⟨[.ref a, .ref b], []⟩) (fun t s' => ∃ k, t = .done (.ret (.bool k)) ∧ EP X pins σ Q (.bool k) s') X.xe s := by
    unfold Builtin.«object.__ne__»
    refine wpAny_bind (m := slotArgs "__ne__" 1 _) (wpAny_pure ?_)
    dsimp only
    refine wpAny_bind (wpAny_cRoomFor (by show X.A.units + 1 < cLine; omega) ?_)
    refine wpAny_bind (PySem.W.ifBound_K KX J hs hf (wpAny_mono (own_call F hb hx hr.in1 rfl I h) (fun r s' z => ?_) fun _ _ z => z))
    obtain ⟨w, H', I', rw_, k, rfl, q⟩ := z
    cases rw_
    dsimp only
    refine wpAny_bind (m := truthy (.bool k)) ?_
    refine wpAny_truthy_bool ?_
    exact wpAny_pure ⟨!k, rfl, .bl (!k), H', I', rfl, q⟩
  show wpAny (model X.prog X.w) X.A (richCompare .NotEq (.ref a) (.ref b)) (EP X pins σ Q) X.xe s
  have sub : PySem.W.Looks (model X.prog X.w) s.heap (isInstance (.ref a) (.type "object")) true := J.type.andThen (PySem.W.looks_mroIn KX hm)
  have one : wpAny (model X.prog X.w) X.A (tryCompare (.ref a) "__ne__" (.ref b)) (fun r s' => ∃ k, r = some (.bool k) ∧ EP X pins σ Q (.bool k) s') X.xe s := by
    unfold tryCompare
    refine wpAny_bind (ifBound_slot KX J hn (ne_bind a) (wpAny_call (codeAny_call_builtin PySem.F.cmp_object.ne.plain PySem.F.cmpEntry_ne (PySem.W.check_slot PySem.F.cmpKind_ne PySem.F.cmpSplit_ne sub (PySem.F.cmpArgs_ne _ _) (wpAny_mono inner (fun t s' z => ?_) fun _ _ z => z)))))
    obtain ⟨k, rfl, q⟩ := z
    exact wpAny_pure ⟨k, rfl, q⟩
  unfold richCompare
  simp only [PySem.oneThing_ref]
  refine wpAny_holding (wpAny_bind (wpAny_cRoomFor (by omega) ?_))
  refine wpAny_bind (J.type.here (wpAny_bind (J'.type.here ?_)))
  rw [if_neg (show ¬ (Value.ref C != Value.ref C) = true by simp)]
  refine wpAny_bind (wpAny_pure ?_)
  simp only [Bool.false_eq_true, if_false]
  refine wpAny_bind (wpAny_mono one (fun r s' z => ?_) fun _ _ z => z)
  obtain ⟨k, rfl, q⟩ := z
  exact wpAny_pure q
/-! ### len(x), x an instance with its own __len__ -/
def rOwnLen (C : Addr) (sp : Sp) (E : XK) : List V → Hp → VK → Prop := fun xs H Q => ∃ a dx fs, xs = [.ref a] ∧ H a = some (.ins C dx fs) ∧ sp [.ref a] H (fun v H' => ∃ k : Nat, v = .int (k : Int) ∧ (k : Int) < 2 ^ 63 ∧ Q (.int (k : Int)) H') E
theorem call_ownLen (F : FnOk X.prog X.w X.K X.mg X.base CX n f fd ps sp) (hs : PySem.W.findIn X.K (.ref C) "__len__" = some (some (.ref f))) (hf : PySem.W.isFn X.K (.ref f) = true) (hb : Binds X.K fd ps []) (hx : Passes CX X E) (hr : Room (n + 1) X.A) :
    CallR X (.builtin "len") (rOwnLen C sp E) := by
  intro pins s σ H xs us Q I r h
  obtain ⟨a, dx, fs, rfl, ha, h⟩ := h
  rw [Vals.ref1 r]
  obtain ⟨mA, J, _⟩ := ins_get I.hok ha
  obtain ⟨od, J, _⟩ := J.look
  obtain ⟨m, hF⟩ := I.fr
  refine PySem.W.len_K hF I.ok.mod.kin J hs hf ?_
  have e0 : Env0 X.prog X.w X.K X.mg X.base X.A.in1 X.stack s H := by
    have e := I.env0
    exact ⟨e.frames, e.mod, e.bs, e.bsz, e.funs, e.frf, e.hok, e.bare⟩
  have hl := F.len _ _ _ _ h
  refine wpAny_call (codeAny_mono (F.run X.A.in1 X.stack s H ⟨[.ref a], []⟩ [.ref a] [.ref a] _ E hr.in1 e0 (by
    have := hb s [.ref a] I.kIn (by simpa using hl)
    simpa using this) (.cons rfl .nil) h) fun r s' hq => ?_)
  cases r with
  | error e => exact hx pins σ H s e s' I hq
  | ok fl =>
    cases fl with
    | ret w =>
      obtain ⟨z, H', I', rz, k, rfl, hk, q⟩ := I.after hq
      obtain ⟨t, rfl⟩ := rz
      exact ⟨⟨Int.natCast_nonneg k, hk⟩, .int (k : Int), H', I'.tok _, ⟨_, rfl⟩, q⟩
    | next => exact False.elim hq
    | brk => exact False.elim hq
    | cont => exact False.elim hq
end
end My
set_option Elab.async false
set_option linter.all false
set_option maxRecDepth 100000
set_option maxHeartbeats 4000000
/-! f-strings of None, texts, ints; a try with several clauses, each of which may name its exception -/
namespace My
open PySem L2 PySem.Spec PyProof.Rows
section
variable {X : Cx}
/-- {x}, x None, a text or an int -/
def tFmtN (te : TE) : TE := fun σ H Q => te σ H fun x H1 => (x = .non ∧ Q (.str "None") H1) ∨ (∃ y : Str, x = .str y ∧ y.length ≤ sizeLine ∧ Q (.str y) H1) ∨ ∃ i : Int, x = .int i ∧ i.natAbs.log2 < 1920 ∧ Q (.str (toString i)) H1
theorem pe_fmtN {e : Expr} {te : TE} {pos : Pos} (he : PE X e te) : PE X (.FormattedValue e (-1) none pos) (tFmtN te) := by
  refine ⟨fun pins s σ H Q I h => wpAny_FormattedValue_plain (thn (he.run pins s σ H _ I h) fun v s1 ⟨x, H1, I1, r1, q⟩ => ?_)⟩
  rcases q with ⟨rfl, q⟩ | ⟨y, rfl, hz, q⟩ | ⟨i, rfl, hz, q⟩
  · cases r1
    exact wpAny_formatField_none ⟨.str "None", H1, I1.tok _, ⟨_, rfl⟩, q⟩
  · obtain ⟨t, rfl⟩ := r1
    exact wpAny_formatField_str ⟨.str y, H1, I1, ⟨t, rfl⟩, q⟩ ⟨.str y, H1, I1.tok _, ⟨_, rfl⟩, q⟩ hz
  · obtain ⟨t, rfl⟩ := r1
    exact wpAny_formatField_int hz ⟨.str (toString i), H1, I1.tok _, ⟨_, rfl⟩, q⟩
/-- an except clause: its class, the slot of its name, its suite -/
structure Clause where
  c : Value
  i : Nat
  ts : Addr → Value → Option Addr → TS
/-- behind a suite the clause's name is unbound -/
def unbound (i : Nat) (D : Ends) : Ends := { nx := fun σ H => D.nx (σ.set i none) H, rt := D.rt, bk := fun σ H => D.bk (σ.set i none) H, ct := fun σ H => D.ct (σ.set i none) H }
/-- what is wished for where an exception comes out of the body: the clauses one behind the other -/
def wClauses (K : PySem.W.Frag) (Wout : WX) (D : Ends) : List Clause → WX
  | [] => Wout
  | k :: r => fun cls d σ H => ∃ b, PySem.W.exmOne K cls k.c = some b ∧ (b = true → ∀ a, H a = none → k.ts a cls d (unbound k.i D) (σ.set k.i (some (.ref a))) H) ∧ (b = false → wClauses K Wout D r cls d σ H)
inductive ClausesOk (X : Cx) : List ExceptHandler → List Clause → Prop
  | nil : ClausesOk X [] []
  | cons {x n : Str} {k : Clause} {b₀ : Stmt} {suite : List Stmt} {np pos' : Pos} {hds : List ExceptHandler} {l : List Clause} (hi : X.N[k.i]? = some n) (hln : X.env.kindOf n = some .local) (hc : Names X x k.c)
      (hsu : ∀ (a : Addr) (oe : Obj) (cls : Value) (d : Option Addr) (pn : List (Addr × Obj)), Zc cls d oe → (∃ vs, oe.data = .fields vs) → PSs (X.suite a ((a, oe) :: pn)) (b₀ :: suite) (k.ts a cls d)) (r : ClausesOk X hds l) :
      ClausesOk X (.ExceptHandler (some (.Name x np)) (some n) (b₀ :: suite) pos' :: hds) (k :: l)
variable {body : List Stmt} {h₀ : ExceptHandler} {hds : List ExceptHandler} {l : List Clause} {pos : Pos} {tb : WX → TS} {Wout : WX}
theorem ps_try_clauses (hs : X.stack = X.env :: X.outer) (hf : X.env.frame = some X.env.locals) (hN : X.N.Nodup) (tk : Takes X Wout)
    (hb : ∀ (W : WX) (pn : List (Addr × Obj)) (xe : Value → Shared → Prop), Takes (X.tr pn xe) W → PassesOwn (model X.prog X.w) X.A X.env xe → PSs (X.tr pn xe) body (tb W))
    (hh : ClausesOk X (h₀ :: hds) l) : PS X (.Try body (h₀ :: hds) [] [] pos) (fun D σ H => tb (wClauses X.K Wout D l) D σ H) := by
  refine ⟨fun pins s σ H D I want => wpAny_Try_except ?_⟩
  have ok := I.ok
  have stacked : X.A.frames = some (X.env :: X.outer) := ok.frames.trans (congrArg some hs)
  let caught : Value → Shared → Prop := fun e s₁ => wpAny (model X.prog X.w) X.A (noteFrame e X.env) (fun _ s₂ => wpAny (model X.prog X.w) X.A (setFlight e none) (fun _ s₃ =>
    wpAny (model X.prog X.w) X.A (handleBy e X.env (h₀ :: hds)) (SP X pins D) X.xe s₃) X.xe s₂) X.xe s₁
  have takes : Takes (X.tr (X.pn ++ pins) caught) (wClauses X.K Wout D l) := by
    rintro u s' ⟨a, B, sI, pins', σ', H', cls, d, rfl, J', nb, up, sky, na, os, ag, wish⟩
    have J : Inv X pins σ' H' sI := J'.ofTry ok
    show wpAny (model X.prog X.w) X.A (noteFrame (.ref a) X.env) _ _ _
    refine Sky.land Zc.steady stacked hf (show Sky B (X.env :: X.outer) a (Zc cls d) X.env.locals s'.heap by rw [← hs]; exact sky) fun h3 landed up3 => ?_
    have J3 : Inv X pins σ' H' { s' with heap := h3 } := J.landed nb landed.1 (up.trans up3) os ag
    obtain ⟨oe, vs, at3, like3, fields3⟩ := landed.there
    have apart : a ∉ frs (X.env :: X.outer) := fun m => by
      obtain ⟨_, o, e, other⟩ := landed.2.2.1.mem m
      obtain rfl : oe = o := Option.some.inj (at3.symm.trans e)
      exact other _ fields3
    have off1 : a ≠ X.env.locals := fun z => apart (List.mem_filterMap.mpr ⟨X.env, List.mem_cons_self, by rw [hf, z]⟩)
    have off2 : a ∉ X.fs := fun m => by
      obtain ⟨e, he, q⟩ := List.mem_filterMap.mp m
      exact apart (List.mem_filterMap.mpr ⟨e, List.mem_cons_of_mem _ he, q⟩)
    have S3 := J3.suite at3 fields3 na off1 off2
    have go : ∀ {hs2 : List ExceptHandler} {l2 : List Clause}, ClausesOk X hs2 l2 → wClauses X.K Wout D l2 cls d σ' H' →
        wpAny (model X.prog X.w) X.A (handleBy (.ref a) X.env hs2) (SP X pins D) X.xe { s' with heap := h3 } := by
      intro hs2 l2 fit
      induction fit with
      | nil =>
        intro wish
        have on : wpAny (model X.prog X.w) X.A (setFlight (.ref a) X.env.frame) (fun _ s4 => wpAny (model X.prog X.w) X.A (throw (.ref a) : Sem Flow) (SP X pins D) X.xe s4) X.xe { s' with heap := h3 } := by
          rw [hf]
          exact HandSPX.setFlight_upZ landed fun h4 hot up4 => wpAny_throw (tk _ _ ⟨a, B, sI, pins, σ', H', cls, d, rfl, J, nb, (up.trans up3).trans up4, .inr (.inr (by rw [hs]; exact hot)), na, os, ag, wish⟩)
        obtain ⟨_, _, _, o4, vs4, T, oT, tb4, at4, like4, fields4, first4, _⟩ := id landed
        refine wpAny_handleBy_nil ?_
        unfold PySem.passOn
        refine wpAny_bind (wpAny_field at4 fields4 first4 ?_)
        rw [if_neg (show ¬ (Value.ref T == Value.none) = true by simp)]
        first
          | exact wpAny_bind on
          | exact wpAny_bind (wpAny_pure (wpAny_bind on))
      | @cons x n k b₀ suite np pos' hs3 l3 hi hln hc hsu rest ih =>
        rintro ⟨b, asks, yes, no⟩
        have kindOf : PySem.W.Looks (model X.prog X.w) h3 (typeOf (.ref a)) cls := fun A Q E s keep q => wpAny_typeOf_ref (keep _ _ at3) (by rw [like3.1]; exact q)
        have answer := PySem.W.exm_one (M := model X.prog X.w) J3.kIn kindOf asks
        have named : ∀ {Q : Value → Shared → Prop} {E : Value → Shared → Prop}, Q k.c { s' with heap := h3 } → wpAny (model X.prog X.w) (X.A.mark (some (.ref a))) (eval (.Name x np) X.env) Q E { s' with heap := h3 } := fun {Q E} q => by
          obtain ⟨gl, dbg, m | ⟨m, bt, nn⟩⟩ := hc
          · exact ld_glob (X := X.suite a ((a, oe) :: (X.pn ++ pins))) S3 gl m q dbg
          · exact ld_blt (X := X.suite a ((a, oe) :: (X.pn ++ pins))) S3 gl m bt q nn dbg
        refine wpAny_handleBy_cons (codeAny_handlers_test (named (answer.here ?_))) (by intro q; cases q)
        cases b with
        | false => exact ih (no rfl)
        | true =>
          refine codeAny_handlers_suite_as (HandSPX.lands_againZ landed fun h4 again up4 => ?_)
          obtain ⟨oe4, vs4, at4, like4, fields4⟩ := again.there
          have S4 := (J.landed nb again.1 ((up.trans up3).trans up4) os ag : Inv X pins σ' H' { s' with heap := h4 }).suite at4 fields4 na off1 off2
          refine store_ok (X := X.suite a ((a, oe4) :: (X.pn ++ pins))) (v := .ref a) S4 hN hi (.inl hln) rfl (fun s5 S5 => ?_) (.inr hln)
          refine wpAny_mono ((hsu a oe4 cls d (X.pn ++ pins) like4 ⟨_, fields4⟩).run [] s5 _ H' _ S5 (yes rfl a na)) (fun f s6 end_ => ?_) (fun _ _ z => False.elim z)
          have leave : ∀ {σ6 : L2.St} {H6 : Hp} {Q : Shared → Prop}, Inv (X.suite a ((a, oe4) :: (X.pn ++ pins))) [] σ6 H6 s6 → (∀ s7, Inv X pins (σ6.set k.i none) H6 s7 → Q s7) →
              wpAny (model X.prog X.w) X.A (do bindName X.env n .none; unbindBehindTheSuite X.env n pos') (fun _ s7 => Q s7) X.xe s6 := fun {σ6 H6 Q} S6 q => gone_ok (S6.unsuite ok) hN hi hln q
          cases f with
          | next =>
            obtain ⟨σ6, H6, S6, q6⟩ := end_
            exact leave S6 fun s7 J7 => ⟨_, _, J7, q6⟩
          | brk =>
            obtain ⟨σ6, H6, S6, q6⟩ := end_
            exact leave S6 fun s7 J7 => ⟨_, _, J7, q6⟩
          | cont =>
            obtain ⟨σ6, H6, S6, q6⟩ := end_
            exact leave S6 fun s7 J7 => ⟨_, _, J7, q6⟩
          | ret u =>
            obtain ⟨v6, σ6, H6, S6, r6, q6⟩ := end_
            exact leave S6 fun s7 J7 => ⟨_, _, _, J7, r6, q6⟩
    exact go hh wish
  refine wpAny_mono ((hb (wClauses X.K Wout D l) (X.pn ++ pins) caught takes PassesOwn.looking).run [] s σ H D (I.toTry _) want) (fun f s1 end_ => ?_) (fun e s1 he => he)
  cases f with
  | next =>
    obtain ⟨σ', H', J', q⟩ := end_
    exact wpAny_execs_nil ⟨σ', H', J'.ofTry ok, q⟩
  | brk =>
    obtain ⟨σ', H', J', q⟩ := end_
    exact ⟨σ', H', J'.ofTry ok, q⟩
  | cont =>
    obtain ⟨σ', H', J', q⟩ := end_
    exact ⟨σ', H', J'.ofTry ok, q⟩
  | ret u =>
    obtain ⟨v, σ', H', J', r, q⟩ := end_
    exact ⟨v, σ', H', J'.ofTry ok, r, q⟩
end
end My
set_option Elab.async false
set_option linter.all false
set_option maxRecDepth 100000
set_option maxHeartbeats 4000000
/-! set(x), x a list or a tuple of texts or of ints; len(set(x)), sorted(set(x)) -/
namespace My
open PySem L2 PySem.Spec PyProof.Rows
/-- how many of the first i are new where they stand -/
def newT (xs : List Str) : Nat → Nat
  | 0 => 0
  | i + 1 => if hasT xs i (xs.getD i Str.empty) = true then newT xs i else newT xs i + 1
theorem newT_le (xs : List Str) : ∀ i, newT xs i ≤ i
  | 0 => Nat.le_refl _
  | i + 1 => by
    have := newT_le xs i
    unfold newT
    split <;> omega
theorem newT_nodup {xs : List Str} (nd : xs.Nodup) : ∀ i, i ≤ xs.length → newT xs i = i
  | 0, _ => rfl
  | i + 1, h => by
    have := newT_nodup nd i (by omega)
    unfold newT
    rw [hasT_not nd (by omega), if_neg Bool.false_ne_true, this]
def hasI (xs : List Int) (i : Nat) : Int → Bool := fun y => (xs.take i).any fun z => z == y
theorem hasI_more {xs : List Int} {i : Nat} (h : i < xs.length) (y : Int) : (hasI xs i y || decide (y = xs.getD i 0)) = hasI xs (i + 1) y := by
  have e : xs.take (i + 1) = xs.take i ++ [xs[i]] := by rw [List.take_add_one, List.getElem?_eq_getElem h]; rfl
  have d : xs.getD i 0 = xs[i] := by rw [List.getD_eq_getElem?_getD, List.getElem?_eq_getElem h]; rfl
  unfold hasI
  rw [e, d, List.any_append, List.any_cons, List.any_nil, Bool.or_false]
  congr 1
  by_cases q : y = xs[i]
  · rw [decide_eq_true q, q, beq_self_eq_true]
  · rw [decide_eq_false q]
    exact (beq_eq_false_iff_ne.mpr fun z => q z.symm).symm
def newI (xs : List Int) : Nat → Nat
  | 0 => 0
  | i + 1 => if hasI xs i (xs.getD i 0) = true then newI xs i else newI xs i + 1
theorem newI_le (xs : List Int) : ∀ i, newI xs i ≤ i
  | 0 => Nat.le_refl _
  | i + 1 => by
    have := newI_le xs i
    unfold newI
    split <;> omega
section
variable {prog : Program} {w : World} {A : Around} {s : Shared}
/-- set.update's loop, whatever the items: B tells of the first i items what the set has -/
theorem put_any {R : Result → Shared → Prop} {I : Addr} {fp wr : List Addr} {G : Array GenState → Array GenState → Prop} {P : Nat → Value → Prop} {St : Nat → Shared → Prop} {n : Nat}
    (W : WalksS prog w A.in1 I fp wr G n P St) (S : Addr) (out : S ∉ fp) (B : Nat → Heap → Prop) (stays : ∀ i h h', B i h → (∀ o, h.get? S = some o → h'.get? S = some o) → B i h')
    (adds : ∀ i v (s : Shared) (Q : Shared → Prop) (E : Value → Shared → Prop), i < n → P i v → B i s.heap → (∀ h' tk, s.toks ≤ tk → Heap.SameBut S s.heap h' → B (i + 1) h' → Q { s with heap := h', toks := tk }) → wpAny (model prog w) A.in1 (setAdd S v) (fun _ s' => Q s') E s) :
    ∀ (left i : Nat) (s : Shared), i + left = n → St i s → B i s.heap →
      (∀ s', Moved (S :: wr) G s s' → B n s'.heap → R (.ok (.ret .none)) s') →
      codeAny (model prog w) A (.builtin "set.update.loop" ⟨[.ref S, .ref I], []⟩) R s := by
  have moved : ∀ {s s' : Shared} {i : Nat}, Moved wr G s s' → B i s.heap → B i s'.heap := fun m h => stays _ _ _ h fun o e => m.heap S o (fun q => out (W.sub _ q)) e
  intro left
  induction left with
  | zero =>
    intro i s e st h k
    obtain rfl : i = n := by omega
    refine codeAny_builtin F.entry_set_update_loop ?_
    rw [Around.under_plainId F.plain_set_update_loop _]
    show wpAny _ A.in1 (do let x ← pyNext (.ref I); _) _ _ s
    exact wpAny_bind (W.done s _ _ st fun s' m => wpAny_pure (k s' (m.mono fun b q => .tail _ q) (moved m h)))
  | succ left ih =>
    intro i s e st h k
    have lt : i < n := by omega
    refine codeAny_builtin F.entry_set_update_loop ?_
    rw [Around.under_plainId F.plain_set_update_loop _]
    show wpAny _ A.in1 (do let x ← pyNext (.ref I); _) _ _ s
    refine wpAny_bind (W.item i s _ _ lt st fun v s1 p st1 m => wpAny_bind (wpAny_holding (adds i v s1 (fun s' => wpAny (model prog w) A.in1 (again (Code.builtin "set.update.loop" ⟨[.ref S, .ref I], []⟩)) _ _ s') _ lt p (moved m h) fun h' tk le only h2 => ?_)))
    refine wpAny_pure ⟨plainId_quiet F.plain_set_update_loop _, ih (i + 1) _ (by omega) (W.frame _ s1 _ _ st1 le fun b q o z => ?_) h2 fun s2 m2 h4 => k s2 ?_ h4⟩
    · rw [only.2 b fun z => out (z ▸ q)]
      exact z
    · refine Moved.trans W.gtrans ((m.mono fun b q => .tail _ q).then_heap le fun b o q z => ?_) m2
      rw [only.2 b fun z => q (z ▸ .head _)]
      exact z
end
section
variable {prog : Program} {w : World} {A : Around} {s : Shared}
abbrev freshSet (w : World) : Obj := { cls := .type "set", dict := none, data := .set #[] 0 (.fresh 0 0 (!w.params.followText "set-order")) }
theorem set_from_list {Q : Value → Shared → Prop} {E : Value → Shared → Prop} {l : Addr} {items : Array Value} (calm : A.handled = none) (hl : s.heap.IsList l items) (B : Nat → Heap → Prop) (stays : ∀ i h h', B i h → (∀ o, h.get? s.heap.objs.size = some o → h'.get? s.heap.objs.size = some o) → B i h')
    (first : ∀ h : Heap, h.get? s.heap.objs.size = some (freshSet w) → B 0 h)
    (adds : ∀ (A' : Around) i v (t : Shared) (Q : Shared → Prop) (E : Value → Shared → Prop), i < items.size → items[i]? = some v → B i t.heap → (∀ h' tk, t.toks ≤ tk → Heap.SameBut s.heap.objs.size t.heap h' → B (i + 1) h' → Q { t with heap := h', toks := tk }) → wpAny (model prog w) A' (setAdd s.heap.objs.size v) (fun _ s' => Q s') E t)
    (k : ∀ (h' : Heap) (tk : Nat), B items.size h' → (∀ b o, s.heap.get? b = some o → h'.get? b = some o) → Q (.ref s.heap.objs.size) { s with heap := h', toks := tk }) :
    wpAny (model prog w) A (call (.type "set") [.ref l]) Q E s := by
  have born := PySem.F.called_set
  obtain ⟨cls, rest, eqm⟩ := born.mro
  have a1 := born.made
  have a2 := born.sub
  have a3 := born.notType
  have a4 := born.canCreate
  have a5 := PySem.F.typeCall_set_1 (.ref l)
  refine wpAny_call (codeAny_of_tree ?_)
  show wpAny _ _ (callAny (.type "set") _) _ _ _
  refine wpAny_pure ⟨Code.quiet_builtin _ (by decide +kernel), codeAny_builtin PySem.F.entry_type_call ?_⟩
  rw [Around.under_plain (weight_type_call_type "set" [.ref l] []) rfl]
  repeat (any_goals (first | assumption | wp_step))
  refine codeAny_mono (code_set_led1 (.ref l) (E := E) (Q₁ := fun u t => u = .ref s.heap.objs.size ∧ t = { s with heap := s.heap.push (freshSet w) }) ⟨rfl, rfl⟩) fun r t hr => ?_
  rcases r with e | fl
  · exact hr
  cases fl with
  | next => exact hr.elim
  | brk => exact hr.elim
  | cont => exact hr.elim
  | ret u =>
  obtain ⟨rfl, rfl⟩ := hr
  have at_ : (s.heap.push (freshSet w)).get? s.heap.objs.size = some (freshSet w) := Heap.get?_push_size _ rfl
  have a6 : Shared.TypeIs { s with heap := s.heap.push (freshSet w) } (.ref s.heap.objs.size) "set" := ⟨_, at_, rfl⟩
  have a7 := born.init.lookup
  have a8 := born.init.bind (.ref s.heap.objs.size)
  repeat (any_goals (first | assumption | wp_step))
  have ll : l < s.heap.objs.size := by
    obtain ⟨o, ho, _⟩ := id hl
    exact Heap.lt_size ho
  have hl2 : (s.heap.push (freshSet w)).IsList l items := hl.push _
  refine codeAny_mono (codeAny_call_builtin (R := wants (fun u t => u = .none ∧ ∃ h' tk, t = { s with heap := h', toks := tk } ∧ B items.size h' ∧ ∀ b o, s.heap.get? b = some o → h'.get? b = some o) E) born.init.plain PySem.F.entry_set_init (check_set_init_1 a6 ?_)) fun r t hr => ?_
  · obtain ⟨ol, hol, hcl, nl, hdl⟩ := id hl
    obtain ⟨lc, ld_, ldat, lsl⟩ := ol
    dsimp only at hcl hdl
    subst hcl hdl
    have hol2 : (s.heap.push (freshSet w)).get? l = some { cls := .type "list", dict := ld_, data := .seq items nl, slots := lsl } := Heap.get?_push_of_some _ hol
    have b1 := PySem.F.sub_list_set
    have b2 := PySem.F.sub_list_frozenset
    have b3 : (Value.type "list" == Value.type "dict") = false := by decide
    unfold Builtin.«set.__init__» noKeywords Builtin.Frozenset.updateFrom
    generalize hold : pyIter = it
    wp_walk
    subst hold
    refine wpAny_pyIter_list hl2 (wpAny_bind (wpAny_runValue ?_))
    have nI : (s.heap.push (freshSet w)).objs.size = s.heap.objs.size + 1 := Heap.size_push _ _
    have n2 : l ≠ (s.heap.push (freshSet w)).objs.size := by rw [nI]; exact Nat.ne_of_lt (Nat.lt_succ_of_lt ll)
    refine put_any ((Walks.list (by simp [calm]) (s.heap.push (freshSet w)).objs.size l n2 items).toS) s.heap.objs.size ?_ B stays (fun i v t Q E lt hv h q => adds _ i v t Q E lt hv h q) items.size 0 _ (by omega) ⟨⟨_, Heap.get?_push_size _ rfl, rfl, rfl⟩, hl2.push _⟩ (first _ (Heap.get?_push_of_some _ at_)) fun t' m z => ?_
    · simp only [List.mem_cons, List.not_mem_nil, or_false, not_or]
      exact ⟨by rw [nI]; exact Nat.ne_of_lt (Nat.lt_succ_self _), Nat.ne_of_gt ll⟩
    · obtain ⟨h', g', d', tk', os'⟩ := t'
      obtain rfl : g' = s.gens := m.gens
      obtain rfl : d' = s.drawn := m.drawn
      obtain rfl : os' = s.os := m.os
      refine wpAny_pure (wpAny_pure ⟨rfl, h', tk', rfl, z, fun c o q => ?_⟩)
      have lc := Heap.lt_size q
      refine m.heap c o (fun q2 => ?_) (Heap.get?_push_of_some _ (Heap.get?_push_of_some _ q))
      simp only [List.mem_cons, List.not_mem_nil, or_false] at q2
      rw [nI] at q2
      rcases q2 with q2 | q2
      · exact absurd lc (by rw [q2]; exact Nat.lt_irrefl _)
      · exact absurd lc (by rw [q2]; exact Nat.not_lt.mpr (Nat.le_succ _))
  · rcases r with e | fl
    · exact hr
    cases fl with
    | next => exact hr.elim
    | brk => exact hr.elim
    | cont => exact hr.elim
    | ret u =>
    obtain ⟨rfl, h', tk, rfl, z, keep⟩ := hr
    repeat (any_goals (first | assumption | wp_step))
    exact k h' tk z keep
end
section
variable {prog : Program} {w : World} {A : Around} {s : Shared}
theorem set_from_tuple {Q : Value → Shared → Prop} {E : Value → Shared → Prop} {l : Addr} {items : Array Value} (calm : A.handled = none) (hl : s.heap.IsTuple l items) (B : Nat → Heap → Prop) (stays : ∀ i h h', B i h → (∀ o, h.get? s.heap.objs.size = some o → h'.get? s.heap.objs.size = some o) → B i h')
    (first : ∀ h : Heap, h.get? s.heap.objs.size = some (freshSet w) → B 0 h)
    (adds : ∀ (A' : Around) i v (t : Shared) (Q : Shared → Prop) (E : Value → Shared → Prop), i < items.size → items[i]? = some v → B i t.heap → (∀ h' tk, t.toks ≤ tk → Heap.SameBut s.heap.objs.size t.heap h' → B (i + 1) h' → Q { t with heap := h', toks := tk }) → wpAny (model prog w) A' (setAdd s.heap.objs.size v) (fun _ s' => Q s') E t)
    (k : ∀ (h' : Heap) (tk : Nat), B items.size h' → (∀ b o, s.heap.get? b = some o → h'.get? b = some o) → Q (.ref s.heap.objs.size) { s with heap := h', toks := tk }) :
    wpAny (model prog w) A (call (.type "set") [.ref l]) Q E s := by
  have born := PySem.F.called_set
  obtain ⟨cls, rest, eqm⟩ := born.mro
  have a1 := born.made
  have a2 := born.sub
  have a3 := born.notType
  have a4 := born.canCreate
  have a5 := PySem.F.typeCall_set_1 (.ref l)
  refine wpAny_call (codeAny_of_tree ?_)
  show wpAny _ _ (callAny (.type "set") _) _ _ _
  refine wpAny_pure ⟨Code.quiet_builtin _ (by decide +kernel), codeAny_builtin PySem.F.entry_type_call ?_⟩
  rw [Around.under_plain (weight_type_call_type "set" [.ref l] []) rfl]
  repeat (any_goals (first | assumption | wp_step))
  refine codeAny_mono (code_set_led1 (.ref l) (E := E) (Q₁ := fun u t => u = .ref s.heap.objs.size ∧ t = { s with heap := s.heap.push (freshSet w) }) ⟨rfl, rfl⟩) fun r t hr => ?_
  rcases r with e | fl
  · exact hr
  cases fl with
  | next => exact hr.elim
  | brk => exact hr.elim
  | cont => exact hr.elim
  | ret u =>
  obtain ⟨rfl, rfl⟩ := hr
  have at_ : (s.heap.push (freshSet w)).get? s.heap.objs.size = some (freshSet w) := Heap.get?_push_size _ rfl
  have a6 : Shared.TypeIs { s with heap := s.heap.push (freshSet w) } (.ref s.heap.objs.size) "set" := ⟨_, at_, rfl⟩
  have a7 := born.init.lookup
  have a8 := born.init.bind (.ref s.heap.objs.size)
  repeat (any_goals (first | assumption | wp_step))
  have ll : l < s.heap.objs.size := by
    obtain ⟨o, ho, _⟩ := id hl
    exact Heap.lt_size ho
  have hl2 : (s.heap.push (freshSet w)).IsTuple l items := by
    obtain ⟨o, ho, z⟩ := id hl
    exact ⟨o, Heap.get?_push_of_some _ ho, z⟩
  refine codeAny_mono (codeAny_call_builtin (R := wants (fun u t => u = .none ∧ ∃ h' tk, t = { s with heap := h', toks := tk } ∧ B items.size h' ∧ ∀ b o, s.heap.get? b = some o → h'.get? b = some o) E) born.init.plain PySem.F.entry_set_init (check_set_init_1 a6 ?_)) fun r t hr => ?_
  · obtain ⟨ol, hol, hcl, nl, hdl⟩ := id hl
    obtain ⟨lc, ld_, ldat, lsl⟩ := ol
    dsimp only at hcl hdl
    subst hcl hdl
    have hol2 : (s.heap.push (freshSet w)).get? l = some { cls := .type "tuple", dict := ld_, data := .seq items nl, slots := lsl } := Heap.get?_push_of_some _ hol
    have b1 := PySem.F.sub_tuple_set
    have b2 := PySem.F.sub_tuple_frozenset
    have b3 : (Value.type "tuple" == Value.type "dict") = false := by decide
    unfold Builtin.«set.__init__» noKeywords Builtin.Frozenset.updateFrom
    generalize hold : pyIter = it
    wp_walk
    subst hold
    refine wpAny_pyIter_tuple hl2 (wpAny_bind (wpAny_runValue ?_))
    have nI : (s.heap.push (freshSet w)).objs.size = s.heap.objs.size + 1 := Heap.size_push _ _
    have n2 : l ≠ (s.heap.push (freshSet w)).objs.size := by rw [nI]; exact Nat.ne_of_lt (Nat.lt_succ_of_lt ll)
    refine put_any ((Walks.tuple (by simp [calm]) (s.heap.push (freshSet w)).objs.size l n2 items).toS) s.heap.objs.size ?_ B stays (fun i v t Q E lt hv h q => adds _ i v t Q E lt hv h q) items.size 0 _ (by omega) ⟨⟨_, Heap.get?_push_size _ rfl, rfl, rfl⟩, (by
      obtain ⟨o, ho, z⟩ := id hl2
      exact ⟨o, Heap.get?_push_of_some _ ho, z⟩)⟩ (first _ (Heap.get?_push_of_some _ at_)) fun t' m z => ?_
    · simp only [List.mem_cons, List.not_mem_nil, or_false, not_or]
      exact ⟨by rw [nI]; exact Nat.ne_of_lt (Nat.lt_succ_self _), Nat.ne_of_gt ll⟩
    · obtain ⟨h', g', d', tk', os'⟩ := t'
      obtain rfl : g' = s.gens := m.gens
      obtain rfl : d' = s.drawn := m.drawn
      obtain rfl : os' = s.os := m.os
      refine wpAny_pure (wpAny_pure ⟨rfl, h', tk', rfl, z, fun c o q => ?_⟩)
      have lc := Heap.lt_size q
      refine m.heap c o (fun q2 => ?_) (Heap.get?_push_of_some _ (Heap.get?_push_of_some _ q))
      simp only [List.mem_cons, List.not_mem_nil, or_false] at q2
      rw [nI] at q2
      rcases q2 with q2 | q2
      · exact absurd lc (by rw [q2]; exact Nat.lt_irrefl _)
      · exact absurd lc (by rw [q2]; exact Nat.not_lt.mpr (Nat.le_succ _))
  · rcases r with e | fl
    · exact hr
    cases fl with
    | next => exact hr.elim
    | brk => exact hr.elim
    | cont => exact hr.elim
    | ret u =>
    obtain ⟨rfl, h', tk, rfl, z, keep⟩ := hr
    repeat (any_goals (first | assumption | wp_step))
    exact k h' tk z keep
end
end My
set_option Elab.async false
set_option linter.all false
set_option maxRecDepth 100000
set_option maxHeartbeats 4000000
/-! len(set(x)), set(x) of ints, {elt for target in iter} of ints -/
namespace My
open PySem L2 PySem.Spec PyProof.Rows
section
variable {X : Cx}
/-- a list or a tuple -/
def SqA (K : PySem.W.Frag) (H : Hp) (l : Addr) (xs : List V) : Prop := SqL K H l xs ∨ SqT K H l xs
/-- len(set(x)), x of texts -/
def tLenU (K : PySem.W.Frag) (ta : TE) : TE := fun σ H Q => ta σ H fun x H1 => ∃ (l : Addr) (xs : List Str), x = .ref l ∧ SqA K H1 l (xs.map V.str) ∧ xs.length < 100 ∧ Q (.int (newT xs xs.length)) H1
theorem texts_put {P : Program} {w : World} {A : Around} {xs : List Str} {S : Addr} {i : Nat} {v : Value} {t : Shared} {Q : Shared → Prop} {E : Value → Shared → Prop} (lt : i < xs.length) (few : xs.length < 100) (tell : ∃ tk, v = .str (xs.getD i Str.empty) tk)
    (h : t.heap.SetOf (PySem.strKind P w) S (hasT xs i) (newT xs i)) (k : ∀ h' tk, t.toks ≤ tk → Heap.SameBut S t.heap h' → h'.SetOf (PySem.strKind P w) S (hasT xs (i + 1)) (newT xs (i + 1)) → Q { t with heap := h', toks := tk }) :
    wpAny (model P w) A (setAdd S v) (fun _ s' => Q s') E t := by
  obtain ⟨tk, rfl⟩ := tell
  unfold setAdd
  refine wpAny_holding (wpAny_bind ((PySem.strKind P w).pyHash (k := xs.getD i Str.empty) (strKind_is _ _ _ _) ?_))
  refine wpAny_setAddHashed_of (knd := PySem.strKind P w) (s := { t with toks := t.toks + 1 }) (strKind_is _ _ _ _) rfl h (by have := newT_le xs i; unfold scanBound; omega) fun h' only h2 => ?_
  exact k h' _ (Nat.le_succ _) only (SetOf_congr h2 (hasT_more lt) rfl)
theorem pe_lenU {a : Expr} {ta : TE} {p p2 q pos : Pos} (hc : X.calm = true) (hg : Gl X "len") (hm : X.mg "len" = none) (hg2 : Gl X "set") (hm2 : X.mg "set" = none) (ha : PE X a ta)
    (na : starEach [a] X.env = (false, eval a X.env) :: starEach [] X.env := by rfl) : PE X (.Call (.Name "len" p) [.Call (.Name "set" p2) [a] [] q] [] pos) (tLenU X.K ta) := by
  refine ⟨fun pins s σ H Q I want => ?_⟩
  refine Call_ (ld_blt I hg hm boot_len (PyProof.Rows.callWith_builtin1 (PyProof.Rows.args_cons (Call_ (ld_blt I hg2 hm2 boot_set ?_)) rfl) rfl rfl))
  refine PyProof.Rows.callWith_type1 (PyProof.Rows.args_cons (thn (ha.run pins s σ H _ I want) fun v s1 ⟨x, H1, I1, r1, l, xs, ex, hq, few, q1⟩ => PyProof.Rows.args_nil ?_) na) na rfl
  subst ex
  cases r1
  have told : ∀ (h' : Heap) (tk : Nat), h'.SetOf (PySem.strKind X.prog X.w) s1.heap.objs.size (hasT xs xs.length) (newT xs xs.length) → (∀ b o, s1.heap.get? b = some o → h'.get? b = some o) → wpAny (model X.prog X.w) X.A (spliced (backTo pos (starEach [] X.env))) (fun vs s' => wpAny (model X.prog X.w) X.A (call (.builtin "len") ([] ++ (.ref s1.heap.objs.size :: vs))) (EP X pins σ Q) X.xe s') X.xe { s1 with heap := h', toks := tk } := fun h' tk hS keep => by
    refine PyProof.Rows.args_nil ?_
    obtain ⟨o, es, ep, t, ho, hex, hd, _, _, _, hf, hn⟩ := hS
    have I2 : Inv X pins σ H1 { s1 with heap := h', toks := tk } := I1.kept fun b o e => keep b o e
    have := newT_le xs xs.length
    exact call_len_set ho hex hd hf (by rw [hn] <;> omega) ⟨.int (newT xs xs.length), H1, I2.tok _, ⟨_, by rw [hn]⟩, q1⟩
  have stays : ∀ (i : Nat) (h h' : Heap), h.SetOf (PySem.strKind X.prog X.w) s1.heap.objs.size (hasT xs i) (newT xs i) → (∀ o, h.get? s1.heap.objs.size = some o → h'.get? s1.heap.objs.size = some o) → h'.SetOf (PySem.strKind X.prog X.w) s1.heap.objs.size (hasT xs i) (newT xs i) := fun i h h' ⟨o, es, ep, t, ho, z⟩ m => ⟨o, es, ep, t, m _ ho, z⟩
  have first : ∀ h : Heap, h.get? s1.heap.objs.size = some (freshSet X.w) → h.SetOf (PySem.strKind X.prog X.w) s1.heap.objs.size (hasT xs 0) (newT xs 0) := fun h at_ => SetOf_congr ((setObjOf_fresh (knd := PySem.strKind X.prog X.w) _).setOf at_ (by unfold scanBound; omega)) (fun _ => rfl) rfl
  rcases hq with hq | hq
  · obtain ⟨its, r, pl, hz⟩ := I1.list hq
    have hs : its.toArray.size = xs.length := by rw [List.size_toArray, ← r.length, List.length_map]
    refine set_from_list (I1.ok.hd hc) pl.isList (fun i h => h.SetOf (PySem.strKind X.prog X.w) s1.heap.objs.size (hasT xs i) (newT xs i)) stays first (fun A' i v t Q E lt hv h k => texts_put (by omega) few (SS.strs_at (L2.strsAre_of r) i v (by simpa using hv)) h k) fun h' tk z keep => told h' tk (by rw [hs] at z; exact z) keep
  · obtain ⟨its, r, pl, hz⟩ := I1.tuple hq
    have hs : its.toArray.size = xs.length := by rw [List.size_toArray, ← r.length, List.length_map]
    refine set_from_tuple (I1.ok.hd hc) pl (fun i h => h.SetOf (PySem.strKind X.prog X.w) s1.heap.objs.size (hasT xs i) (newT xs i)) stays first (fun A' i v t Q E lt hv h k => texts_put (by omega) few (SS.strs_at (L2.strsAre_of r) i v (by simpa using hv)) h k) fun h' tk z keep => told h' tk (by rw [hs] at z; exact z) keep
/-- set(x), x a list of ints -/
def rSetI (K : PySem.W.Frag) (w : World) : List V → Hp → VK → Prop := fun xs H Q => ∃ (l : Addr) (ns : List Int), xs = [.ref l] ∧ SqL K H l (ns.map V.int) ∧ ns.length < 100 ∧ ∀ a, H a = none → Q (.ref a) (upd H a (SetO w a (hasI ns ns.length) (newI ns ns.length)))
theorem cr_setI (hc : X.calm = true) : CallR X (.type "set") (rSetI X.K X.w) := by
  intro pins s σ H xs us Q I r want
  obtain ⟨l, ns, rfl, hq, few, k⟩ := want
  rw [Vals.ref1 r]
  obtain ⟨its, rv, pl, hz⟩ := I.list hq
  have hs : its.toArray.size = ns.length := by rw [List.size_toArray, ← rv.length, List.length_map]
  have none_ : H s.heap.objs.size = none := I.hok.fresh (Nat.le_refl _)
  refine set_from_list (I.ok.hd hc) pl.isList (fun i h => SetR X.w h s.heap.objs.size (hasI ns i) (newI ns i)) (fun i h h' R m => R.at m) (fun h at_ => ?_) (fun A' i v t Q E lt hv h k => ?_) fun h' tk z keep => ?_
  · have e := Heap.get?_push_size s.heap (o := freshSet X.w) rfl
    have R := (setR_fresh (h := s.heap) X.w).at (h' := h) fun o z => by
      rw [e] at z
      rw [← Option.some.inj z]
      exact at_
    exact R.congr fun _ => rfl
  · rw [hs] at lt
    have hv2 : its[i]? = some v := by simpa using hv
    have hn : (ns.map V.int)[i]? = some (V.int ns[i]) := by rw [List.getElem?_map, List.getElem?_eq_getElem lt]; rfl
    obtain ⟨u, hu, ru⟩ := rv.get hn
    rw [hv2] at hu
    obtain rfl := Option.some.inj hu
    obtain ⟨tk, rfl⟩ := ru
    have e : ns.getD i 0 = ns[i] := by rw [List.getD_eq_getElem?_getD, List.getElem?_eq_getElem lt]; rfl
    unfold setAdd
    refine wpAny_holding (wpAny_bind ((intKind X.prog X.w).pyHash (k := ns[i]) (intKind_is _ _ _ _) ?_))
    refine setR_add_hashed (s := { t with toks := t.toks + 1 }) h (by have := newI_le ns i; unfold scanBound; omega) fun h' only R => k h' _ (Nat.le_succ _) only ?_
    have c := R.congr (S' := hasI ns (i + 1)) fun y => by rw [← hasI_more lt y, e]
    have e2 : newI ns (i + 1) = if hasI ns i ns[i] = true then newI ns i else newI ns i + 1 := by
      show (if hasI ns i (ns.getD i 0) = true then newI ns i else newI ns i + 1) = _
      rw [e]
    rw [e2]
    exact c
  · rw [hs] at z
    exact ⟨.ref s.heap.objs.size, upd H s.heap.objs.size (SetO X.w s.heap.objs.size (hasI ns ns.length) (newI ns ns.length)), I.laid (t' := tk) keep (Nat.le_refl _) (setO_new z), rfl, k _ none_⟩
/-- {elt for target in iter if ..}, ints: D the new set -/
def tSc (w : World) (wi : TI) (g : TG) (tt : TT) (te : TE) (vs : List Nat) : TE := fun σ H Q => wi σ H fun J H1 => ∀ D, H1 D = none → ∃ W : Nat → Nat → Hp → Prop, (∃ m, W 0 m (upd H1 D (SetO w D (fun _ => false) 0))) ∧ ∀ i m H, W i m H →
  (J.stop i H ∧ Q (.ref D) H) ∨ (J.go i H ∧ ∃ Nx : Hp → Prop, (∀ H', Nx H' → ∃ m', m' < m ∧ W (i + 1) m' H') ∧ ∀ x H', J.yld i H x H' → g x (wipe σ vs) H' fun σ2 H2 => wipe σ2 vs = wipe σ vs ∧ tt σ2 H2 fun b H3 =>
    if b = true then te σ2 H3 fun y H4 => ∃ (k : Int) (S : Int → Bool) (n : Nat), y = .int k ∧ H4 D = some (SetO w D S n) ∧ n + 1 < scanBound ∧ Nx (upd H4 D (SetO w D (fun j => S j || decide (j = k)) (if S k = true then n else n + 1))) else Nx H3)
theorem pe_sc {tg iter elt : Expr} {ifs : List Expr} {scope : Scope} {own : List (Str × Nat)} {pos : Pos} {wi : TI} {g : TG} {tt : TT} {te : TE} (hc : X.calm = true) (hN : X.N.Nodup) (hi : PI X tg iter wi) (ok : BlkOk X.N X.env.scope scope own)
    (hg : ∀ (s : Shared) (H : Hp) (C : Addr) (cl : List (Str × Addr)) (fp : List Addr), PG (X.blk s H scope (compEnvC scope cl C X.env) fp) tg g) (ht : ∀ (s : Shared) (H : Hp) (C : Addr) (cl : List (Str × Addr)) (fp : List Addr), PTs (X.blk s H scope (compEnvC scope cl C X.env) fp) ifs tt)
    (he : ∀ (s : Shared) (H : Hp) (C : Addr) (cl : List (Str × Addr)) (fp : List Addr), PE (X.blk s H scope (compEnvC scope cl C X.env) fp) elt te) (hs : ∀ x, foldedSetIterable iter X.env x = pure x := by intro _; rfl) :
    PE X (.SetComp elt [⟨tg, iter, ifs, 0⟩] scope pos) (tSc X.w wi g tt te (own.map (·.2))) := by
  refine ⟨fun pins s σ H Q I want => ?_⟩
  rw [arm_eval_SetComp]
  have caught : ∀ y ∈ scope.names, y.2 = .free → ∃ c, X.env.cells.lookup y.1 = some c := fun y hy e => (ok.free y hy e).elim (fun k => I.ok.has _ (.inl k)) fun k => I.ok.has _ (.inr k)
  refine wpAny_comprehension_free (use := none) rfl hs (closure_ok caught) ok.kind (fun y hy e => by rw [ok.uniq y hy, e])
    (thn (hi.run pins s σ H _ I want) fun xv s1 hx => thn hx fun itv s2 h2 => ?_)
  obtain ⟨it, fp, tn, J, H2, e, I2, T, st2, f2, q⟩ := h2
  subst e
  refine wpAny_newSet_raw fun led hled => newEnv_comp ?_
  subst hled
  generalize hD : s2.heap.objs.size = D
  have free_ : H2 D = none := I2.hok.fresh (Nat.le_of_eq hD)
  obtain ⟨W, ⟨m0, w0⟩, turn⟩ := q D free_
  generalize hs3 : ({ s2 with heap := s2.heap.push (freshSet X.w) } : Shared) = s3
  generalize hH3 : upd H2 D (SetO X.w D (fun _ => false) 0) = H3
  have at3 : s3.heap = s2.heap.push (freshSet X.w) := by rw [← hs3]
  have I3 : Inv X pins σ H3 s3 := by
    rw [← hs3, ← hH3]
    refine I2.laid (t' := s2.toks) (fun b o z => Heap.get?_push_of_some _ z) (Nat.le_of_eq hD) (setO_new ?_)
    rw [← hD]
    exact setR_fresh X.w
  have low : ∀ b ∈ fp, b < s2.heap.objs.size := fun b hb => by
    obtain ⟨o, z, _⟩ := T.obj _ _ st2 b hb
    exact Heap.lt_size z
  have f3 : ∀ b ∈ fp, FpOk X pins H3 b ∧ b < s3.heap.objs.size := fun b hb => by
    have lt := low b hb
    refine ⟨⟨?_, (f2 b hb).2⟩, by rw [at3, Heap.size_push]; exact Nat.lt_succ_of_lt lt⟩
    rw [← hH3, upd_ne (by rw [← hD]; exact Nat.ne_of_lt lt)]
    exact (f2 b hb).1
  have I4 := block_start I3 ok hN f3
  generalize hcells : cellsFrom (s3.heap.objs.size + 1) scope.names (cloFrom X.env.cells scope.names []) = cells at I4
  have pg := hg s3 H3 s3.heap.objs.size cells fp
  have pt := ht s3 H3 s3.heap.objs.size cells fp
  have pe := he s3 H3 s3.heap.objs.size cells fp
  have home : (compEnvC scope cells s3.heap.objs.size X.env).locals = s3.heap.objs.size := rfl
  show codeAny _ _ (.compStart (.SetComp elt [⟨tg, iter, ifs, 0⟩] scope pos) 0 (.ref it) (.ref D) (compEnvC scope cells s3.heap.objs.size X.env)) (compPost (model X.prog X.w) X.A X.xe none (EP X pins σ Q) (.ref D) s3.heap.objs.size) { s3 with heap := pushCells (s3.heap.push { cls := .type "dict", data := .dict #[] }) scope.names }
  have clear : ∀ b ∈ fp, H3 b = none := fun b hb => (f3 b hb).1.1
  have start : tn 0 (pushCells (s3.heap.push { cls := .type "dict", data := .dict #[] }) scope.names) := T.keep _ _ _ st2 fun b _ o z => pushCells_keeps _ _ _ _ (Heap.get?_push_of_some _ (by rw [at3]; exact Heap.get?_push_of_some _ z))
  generalize hce : compEnvC scope cells s3.heap.objs.size X.env = ce at I4 pg pt pe home ⊢
  generalize hs4 : ({ s3 with heap := pushCells (s3.heap.push { cls := .type "dict", data := .dict #[] }) scope.names } : Shared) = s4 at I4 ⊢
  have st4 : tn 0 s4.heap := by
    rw [← hs4]
    exact start
  have footing : ∀ {σ' : L2.St} {H' : Hp} {s' : Shared}, Inv (X.blk s3 H3 scope ce fp) [] σ' H' s' → (∀ b ∈ fp, H' b = none) → ∀ b ∈ fp, FpOk (X.blk s3 H3 scope ce fp) [] H' b := fun {σ' H' s'} I' n b hb =>
    ⟨n b hb, (I'.ok.exf b hb).1, I'.ok.exfs b hb, .inl hb, fun x c z => (I'.ok.exf b hb).2 x c z, fun p hp => absurd (show p ∈ ([] : List (Addr × Obj)) ++ [] from hp) (by simp)⟩
  have loop : codeAny (model X.prog X.w) X.A (.compLoop (.SetComp elt [⟨tg, iter, ifs, 0⟩] scope pos) 0 (.ref it) (.ref D) ce) (compPost (model X.prog X.w) X.A X.xe none (EP X pins σ Q) (.ref D) s3.heap.objs.size) s4 := by
    refine compLoop_set_any (fun n s' => ∃ i H', Inv (X.blk s3 H3 scope ce fp) [] (wipe σ (own.map (·.2))) H' s' ∧ tn i s'.heap ∧ (∀ b ∈ fp, H' b = none) ∧ W i n H') ?_ m0 ⟨0, H3, I4, st4, clear, by rw [← hH3]; exact w0⟩
    rintro n s5 ⟨i, H5, I5, st5, n5, w5⟩
    rcases turn i n H5 w5 with ⟨stop, qq⟩ | ⟨go, Nx, hNx, step⟩
    · refine thnF (T.done (X.blk s3 H3 scope ce fp) rfl rfl rfl hc i [] s5 _ H5 (fun _ _ => False) I5 (footing I5 n5) st5 stop) fun r s6 ⟨hr, I6⟩ => ?_
      subst hr
      have I7 : Inv X pins σ H5 s6 := I3.call' (ch := fp) I6.os I6.base I6.hok I6.bare fun b hb => ⟨(f3 b hb).1.2.2.2.1, (f3 b hb).1.2.1, (f3 b hb).1.2.2.2.2.1, (f3 b hb).1.2.2.2.2.2⟩
      have off : H5 s3.heap.objs.size = none := by
        rw [← home]
        exact I6.free
      obtain ⟨m, hn, _⟩ := I6.loc
      have hn : s6.heap.Ns ce.locals m := hn
      rw [home] at hn
      obtain ⟨f0, f1, _, g3, g4, g5⟩ := I3.fpOk (Nat.le_refl _) off
      refine ⟨m, hn, fun h'' only => ?_⟩
      exact ⟨.ref D, H5, I7.turned (t' := s6.toks) (fun b o hb z => (only.2 b hb).trans z) f0 f1 g3 g4 g5, rfl, qq⟩
    · refine thnF (T.item (X.blk s3 H3 scope ce fp) rfl rfl rfl hc i [] s5 _ H5 (fun _ _ => False) I5 (footing I5 n5) st5 go) fun r s6 ⟨u, hr, h6⟩ => ?_
      subst hr
      refine thnF h6 fun _ s7 ⟨x, H7, I7, r7, y7, st7, n7⟩ => ?_
      have I7' := I7.pinned (footing I7 n7) (T.obj _ _ st7)
      refine thnF (pg.run _ s7 _ H7 x u _ I7' r7 (step x H7 y7)) fun _ s8 ⟨σ8, H8, I8, hw8, q8⟩ => ?_
      refine thnF (pt.run _ s8 σ8 H8 _ I8 q8) fun b s9 ⟨H9, I9, q9⟩ => ?_
      have fin : ∀ {s' : Shared} {H' : Hp}, Inv (X.blk s3 H3 scope ce fp) ([] ++ pinsAt fp s7.heap) σ8 H' s' → Nx H' → ∃ m, m < n ∧ ∃ i H', Inv (X.blk s3 H3 scope ce fp) [] (wipe σ (own.map (·.2))) H' s' ∧ tn i s'.heap ∧ (∀ b ∈ fp, H' b = none) ∧ W i m H' := fun {s' H'} I' nx => by
        obtain ⟨m', hm, w'⟩ := hNx H' nx
        have held : ∀ b ∈ fp, ∀ o, s7.heap.get? b = some o → s'.heap.get? b = some o ∧ H' b = none := fun b hb o z =>
          let y := I'.pin (b, o) (List.mem_append_right _ (List.mem_append_right _ (mem_pinsAt hb z)))
          ⟨y.1, y.2.1⟩
        have same_len : (wipe σ (own.map (·.2))).length = σ8.length := by rw [← hw8, wipe_length]
        refine ⟨m', hm, i + 1, H', (I'.unpinned (pins := [])).weak same_len (fun j v z => ?_), T.keep _ _ _ st7 fun b hb o z => (held b hb o z).1, fun b hb => ?_, w'⟩
        · rw [← hw8] at z
          exact (wipe_some z).1
        · obtain ⟨o, z, _⟩ := T.obj _ _ st7 b hb
          exact (held b hb o z).2
      cases b with
      | false =>
        simp only [Bool.false_eq_true, if_false] at q9 ⊢
        exact fin I9 q9
      | true =>
        simp only [if_true] at q9 ⊢
        refine thnF (pe.run _ s9 σ8 H9 _ I9 q9) fun v s10 ⟨y, H10, I10, r10, k, S, c, ek, hD10, room, nx⟩ => ?_
        subst ek
        have add := (mt_sadd (X := X.blk s3 H3 scope ce fp)) _ s10 σ8 H10 (.ref D) [.int k] (.ref D) [v] (fun v' H' => v' = .non ∧ Nx H') I10 rfl (.cons r10 .nil) ⟨D, k, S, c, rfl, rfl, hD10, room, rfl, nx⟩
        refine wpAny_mono add (fun _ s11 z => ?_) fun _ _ z => False.elim z
        obtain ⟨v', H11, I11, _, _, nx⟩ := z
        exact fin I11 nx
  exact codeAny_compStart_set loop (T.self X.A 0 _ _ _ st4 loop)
end
end My
set_option Elab.async false
set_option linter.all false
set_option maxRecDepth 100000
set_option maxHeartbeats 4000000
/-! a walk over a list or a tuple; isinstance(e, a built-in class) of a caught error; what leaves a lambda's body; the end with the top's tables -/
namespace My
open PySem L2 PySem.Spec PyProof.Rows
section
variable {X : Cx} {tg : Expr}
def iLT (K : PySem.W.Frag) (te : TE) : TI := fun σ H R => te σ H fun x H1 => ∃ a, x = .ref a ∧ ((∃ xs, SqL K H1 a xs ∧ R (Itl K a) H1) ∨ ∃ xs, SqT K H1 a xs ∧ R (Itt K a) H1)
theorem pi_lt {e : Expr} {te : TE} (he : PE X e te) : PI X tg e (iLT X.K te) := by
  refine ⟨fun pins s σ H R I want => thn (he.run pins s σ H _ I want) fun v s1 ⟨x, H1, I1, r1, a, ex, q⟩ => ?_⟩
  subst ex
  cases r1
  have fresh_ : ∀ b ∈ [s1.heap.objs.size], FpOk X pins H1 b := fun b hb => by
    obtain rfl := List.mem_singleton.mp hb
    exact I1.fpOk (Nat.le_refl _) (I1.hok.fresh (Nat.le_refl _))
  rcases q with ⟨xs, hq, q⟩ | ⟨xs, hq, q⟩
  · obtain ⟨its, rv, pl, _⟩ := I1.list hq
    exact wpAny_pyIter_list pl.isList ⟨_, _, _, _, H1, rfl, I1.kept (t' := s1.toks) fun b o z => Heap.get?_push_of_some _ z, turn_list a _, ⟨_, Heap.get?_push_size _ rfl, rfl, rfl⟩, fresh_, q⟩
  · obtain ⟨its, rv, pl, _⟩ := I1.tuple hq
    exact wpAny_pyIter_tuple (show s1.heap.IsTuple a its.toArray from pl) ⟨_, _, _, _, H1, rfl, I1.kept (t' := s1.toks) fun b o z => Heap.get?_push_of_some _ z, turn_tuple a _, ⟨_, Heap.get?_push_size _ rfl, rfl, rfl⟩, fresh_, q⟩
end
/-- isinstance(e, T), T built in -/
def rIsV (K : PySem.W.Frag) (D a dd : Addr) (n : String) : List V → Hp → VK → Prop := fun xs H Q => ∃ (b : Bool) (fs : List (Str × V)), xs = [.ref a, .ty n] ∧ H dd = some (.xd fs) ∧ PySem.W.kitOne K (.ref D) (.type n) = some b ∧ Q (.bl b) H
theorem call_isV {X : Cx} {a D dd : Addr} {n : String} {oe : Obj} {pn : List (Addr × Obj)} (C : ExcC X.K D) (hz : Zc (.ref D) (some dd) oe) (hf : ∃ vs, oe.data = .fields vs) : CallR (X.suite a ((a, oe) :: pn)) (.builtin "isinstance") (rIsV X.K D a dd n) := by
  intro pins s σ H xs us Q I r want
  obtain ⟨b, fs, rfl, hd, e, q⟩ := want
  obtain ⟨u1, u2, rfl, r1, r2⟩ := vals2 r
  cases r1
  cases r2
  obtain ⟨at_, _⟩ := I.pin (a, oe) (List.mem_append_left _ List.mem_cons_self)
  obtain ⟨vs, hv⟩ := hf
  obtain ⟨mA, hns, _⟩ : ObjOk X.prog X.w H s.heap dd (.xd fs) := I.hok dd _ hd
  obtain ⟨od, ho, _⟩ := lookIn_ns hns
  have J : PySem.W.InstAt s.heap a oe D (some od) := ⟨at_, hz.1, by unfold PySem.W.notCls; rw [hv] <;> rfl, by rw [hz.2]; exact ho⟩
  exact PySem.W.kia_one (kit_caught C) I.kIn J e (fun z => nomatch z) fun tk => ⟨.bl b, H, I.kept (t' := tk) fun _ _ z => z, rfl, q⟩
/-- what a def called within a lambda lets out leaves the lambda -/
theorem pass_lam {X : Cx} {A : Around} {outer : List Env} {s : Shared} {H : Hp} {E : XK} {scope : Scope} {f c' : Addr} : Passes (L2.CX X.prog X.w) (LamX.lamCx X A outer s H E scope f c') E :=
  L2.passes_call (X := LamX.lamCx X A outer s H E scope f c') (W := fun cls d _ H => E cls d H) (takes_of rfl rfl rfl rfl) fun _ _ _ _ h => h
/-- the rule for a def whose code object is known -/
theorem fun_okC {P : Program} {w : World} {K : PySem.W.Frag} {mg : Str → Option Value} {base : Heap} {x qual : Str} {st : Stmt} {f c : Addr} {fd : FuncData} {N ps : List Str} {k : Nat} {sp : Sp} (F : Fun K x qual st f fd) (hc : fd.code = .ref c) (S : FnScope N ps (defScope st)) (len : ∀ vs H Q E, sp vs H Q E → vs.length = ps.length)
    (hbody : ∀ (A : Around) (outer : List Env) (s : Shared) (H : Hp) (vs : List V) (Q : VK) (E : XK), Room k (A.deeper (envOfC qual (defScope st) s.heap.objs.size f (.ref c))) → sp vs H Q E →
      ∃ t, PSs (cxOf CX0 P w K mg base N qual (defScope st) f (.ref c) A outer s H E) (defBody st) t ∧ t { nx := fun _ H' => Q .non H', rt := Q } (start N vs) H) : FnOk P w K mg base CX0 (k + 1) f fd ps sp := by
  obtain ⟨oc, od, kV, doc, pm, an, cdv, ct, osl, rfl, lk, hcd⟩ := F.ex
  obtain rfl : cdv = .ref c := hc
  exact fn_of lk hcd S len fun A outer s H vs Q E hr hsp => hbody A outer s H vs Q E hr hsp
open LamX in
/-- the end of a law whose text's defs, those of the names, hold lambdas -/
theorem walk_ofTabs {l : PySem.W.OpenLaw} {n k : Nat} {q : Program} {loose : List Str} {XP : (Str → Option Value) → Heap → Prop} {YP : World → Heap → Prop} {d : DefRec} {K : Params → PySem.W.Frag} {CX : World → CXT} {x : Str} (names : List Str)
    (hn : l.most = some n) (hn2 : n ≤ sizeLine) (hdf : d.params.defaults = []) (hr : Room k callerA) (known : (names.all fun y => (PyProof.Rows.recsOf q).any fun e => e.name == y) = true) (hY : ∀ (w : World) (h : Heap), YP w h → (K w.params).In h)
    (F : ∀ (w : World) (mg : Str → Option Value) (fa : Addr) (h : Heap), YP w h → (K w.params).In h → h.Ns mainGlobals mg → mg d.name = some (.ref fa) →
      (∀ y ∈ names, ∀ c P, PySem.W.tabIn (K w.params) y = some (c, P) → PySem.W.CodeHd h c P ∧ h.get? P = some { cls := .none, data := .fields #[] }) → LawAtS l w (K w.params) (CX w) k n x mg fa h)
    (hCX : ∀ (w : World) (H : Hp) (s : Shared) (e : Value) (s' : Shared), CX w [] H s (fun _ _ _ => False) e s' → False) :
    PySem.W.WalkO q loose XP YP l.row.toRowW d [] (fun f vs => PySem.call f vs) := by
  refine Att.attach_callB hn hdf fun w s₀ s₁ mg mb fa o pm cd doc a vs ns G Y ho hd hcd hmg hobj hints hlen hbits hg => ?_
  have KX := hY w _ Y
  have tables : ∀ y ∈ names, ∀ c P, PySem.W.tabIn (K w.params) y = some (c, P) → PySem.W.CodeHd s₁.heap c P ∧ s₁.heap.get? P = some { cls := .none, data := .fields #[] } := fun y hy c P ht => by
    have there := List.all_eq_true.mp known y hy
    have isSome : ((PyProof.Rows.recsOf q).find? fun e => e.name == y).isSome = true := by
      rw [List.find?_isSome]
      exact List.any_eq_true.mp there
    obtain ⟨r, hr2⟩ := Option.isSome_iff_exists.mp isSome
    exact PySem.W.tab_of G.T KX hr2 ht
  obtain ⟨fd, cs, sp, hT, nT, C, hb, hsp, hF⟩ := F w mg fa _ Y KX G.T.g hmg tables
  exact law_callTs KX G.T.g G.T.b G.T.builtins G.T.nolimit hg hT nT C G.T.bmain hobj hints (Nat.le_trans hlen hn2) hr hF hb (fun H hH hS => hsp H a ns hlen hbits hH hS) fun H e s' => hCX w H s₁ e s'
end My
set_option Elab.async false
set_option linter.all false
set_option maxRecDepth 100000
set_option maxHeartbeats 4000000
/-! list(d.values()); != of tuples whose items are like one another -/
namespace My
open PySem L2 PySem.Spec PyProof.Rows
section
variable {X : Cx}
theorem kv_get {kvs : List (Key × V)} {vs : List (Key × Value)} (r : KV kvs vs) : ∀ {us : List Value}, us.length = vs.length → (∀ (j : Nat) (v : Value), us[j]? = some v → ∃ k, vs[j]? = some (k, v)) → Vals (kvs.map Prod.snd) us := by
  unfold KV at r
  induction r with
  | nil =>
    intro us hl hv
    cases us with
    | nil => exact .nil
    | cons u us => simp at hl
  | @cons p q ps qs h t ih =>
    intro us hl hv
    cases us with
    | nil => simp at hl
    | cons u us =>
      obtain ⟨k, e⟩ := hv 0 u rfl
      have e2 : q = (k, u) := by simpa using e
      subst e2
      exact .cons h.2 (ih (by simpa using hl) fun j v z => by simpa using hv (j + 1) v (by simpa using z))
def tListV (te : TE) : TE := fun σ H Q => te σ H fun x H1 => ∃ d kvs, x = .ref d ∧ Rd H1 d (.dK kvs) ∧ ∀ q, H1 q = none → Q (.ref q) (upd H1 q (.lst (kvs.map Prod.snd)))
theorem pe_listvals {e : Expr} {te : TE} {p apos cpos pos : Pos} (hc : X.calm = true) (hg : Gl X "list") (hm : X.mg "list" = none) (he : PE X e te) (hbase : attributeBase e "values" X.env (eval e X.env) = eval e X.env := by rfl) (hline : (apos.endLine == cpos.line) = true := by rfl)
    (na : starEach [.Call (.Attribute e "values" apos) [] [] cpos] X.env = (false, eval (.Call (.Attribute e "values" apos) [] [] cpos) X.env) :: starEach [] X.env := by rfl) :
    PE X (.Call (.Name "list" p) [.Call (.Attribute e "values" apos) [] [] cpos] [] pos) (tListV te) := by
  refine ⟨fun pins s σ H Q I want => ?_⟩
  refine Call_ (ld_blt I hg hm boot_list (PyProof.Rows.callWith_type1 (PyProof.Rows.args_cons ?_ na) na rfl))
  refine wpAny_Call_method (T := "dict") (id := "dict.values") hbase rfl hline F.plainAttrs_dict F.slot_dict_values F.type_dict_values (thn (he.run pins s σ H _ I want) fun u s1 ⟨x, H1, I1, rx, d, kvs, ex, hd, q⟩ => ?_)
  subst ex
  obtain rfl : u = Value.ref d := rx
  obtain ⟨z, lo, vs, rel, dd⟩ := dk_rd I1.hok hd
  refine ⟨dd.typeIs, dd.mapOf.noDict, ?_⟩
  have I2 : Inv X pins σ H1 { s1 with heap := s1.heap.push { cls := .type "dict_values", data := .fields #[.ref d] } } := I1.kept (t' := s1.toks) fun b ob q => Heap.get?_push_of_some _ q
  obtain ⟨ep, hat⟩ := dd.dictAt
  have lt : d < s1.heap.objs.size := hat.lt_size
  have fin : wpAny (model X.prog X.w) X.A (spliced (backTo pos (starEach [] X.env))) (fun ws s' => wpAny (model X.prog X.w) X.A (call (.type "list") ([] ++ (.ref s1.heap.objs.size :: ws))) (EP X pins σ Q) X.xe s') X.xe { s1 with heap := s1.heap.push { cls := .type "dict_values", data := .fields #[.ref d] } } := by
    refine PyProof.Rows.args_nil ?_
    refine PySem.W.kdl_call (PySem.W.kdl_values (r := s1.heap.objs.size) (d := d) (knd := mixKind X.prog X.w) (kvs := vs) (ep := ep)) (I1.ok.hd hc) ⟨⟨_, Heap.get?_push_size _ rfl, rfl, rfl⟩, hat.push _⟩ (by rw [← rel.length]; exact z) fun h' tk acc c' hk hD hacc => ?_
    have hv : Vals (kvs.map Prod.snd) acc.toList := kv_get rel (by rw [Array.length_toList]; exact hacc.1) fun j v e => hacc.2 j v (by rw [← Array.getElem?_toList]; exact e)
    refine ⟨.ref (s1.heap.push { cls := .type "dict_values", data := .fields #[.ref d] }).objs.size, upd H1 (s1.heap.push { cls := .type "dict_values", data := .fields #[.ref d] }).objs.size (.lst (kvs.map Prod.snd)), I2.laid (t' := tk) hk (Nat.le_refl _)
      (show ObjOk X.prog X.w _ _ _ (.lst (kvs.map Prod.snd)) from ⟨by rw [List.length_map]; exact z, acc.toList, c', hv, by rw [Array.toArray_toList]; exact hD⟩), rfl, q _ (I2.hok.fresh (Nat.le_refl _))⟩
  show wpAny _ _ (callWith cpos (.builtin "dict.values") [.ref d] [] []) _ X.xe s1
  exact method_meetsIn F.slot_dict_values F.entry_dict_values rfl (PySem.evalArgs_none ⟨rfl, dd.typeIs, F.args_dict_values_1 _, _, meets_dict_values (mixKind X.prog X.w) d lo, ⟨vs, dd⟩, fin⟩)
end
end My
namespace My
open PySem PySem.SeqAt
open AutoSeq1 (wpAny_loadPart')
open MeetsSeq MeetsSeq2 MeetsSeq3 SeqRoads2
section
variable {prog : Program} {w : World} {A : Around} {E : Value → Shared → Prop} {s : Shared} {l b : Addr} {xs ys : Array Value} {Q : Value → Shared → Prop}
/-- the comparison's own walk over the pairs; every pair is alike -/
theorem ne_body {R : Result → Shared → Prop} {dl db : Option Addr} {nl nb : Nat} {sl sb : Array (Option Value)} (at1 : s.heap.get? l = some ⟨.type "tuple", dl, .seq xs nl, sl⟩) (at2 : s.heap.get? b = some ⟨.type "tuple", db, .seq ys nb, sb⟩) (same : xs.size = ys.size)
    (each : ∀ (p : Value × Value), p ∈ xs.toList.zip ys.toList → ∀ W : Bool → Shared → Prop, W true s → wpAny (model prog w) A.in1 (eqBool p.1 p.2) W (fun e t => R (.error e) t) s) (fin : R (.ok (.ret (.bool false))) s) :
    wpAny (model prog w) A.in1 (Builtin.«tuple.__ne__» ⟨[.ref l, .ref b], []⟩) (GQ.FinOf prog w A R) (fun e t => R (.error e) t) s := by
  have sub := AutoSeq1.sub_tuple_tuple
  have each0 := each
  have fin0 := fin
  obtain ⟨hp, gg, dd, tk, os⟩ := s
  wp_walk using wpAny_loadPart' at1, wpAny_loadPart' at2, wpAny_forIn_list _ (fun left acc t => acc.1 = none ∧ t = Shared.mk hp gg dd tk os ∧ ∀ p ∈ left, p ∈ xs.toList.zip ys.toList) _
  case h => exact ⟨rfl, rfl, fun p h => h⟩
  case turn =>
    rintro ⟨u, v⟩ left acc t ⟨none_, rfl, inside⟩
    refine wpAny_bind (each0 (u, v) (inside _ List.mem_cons_self) _ ?_)
    wp_walk
    exact ⟨rfl, rfl, fun p h => inside p (List.mem_cons_of_mem _ h)⟩
  case fin =>
    rintro ⟨c1, c2⟩ t ⟨none_, rfl, -⟩
    simp only at none_
    rw [none_]
    wp_walk
    simpa [Builtin.Tuple.tupleCompareSizes, same, bne] using fin0
theorem ne_tuples (hu : A.units < cLine) (hl : s.heap.IsTuple l xs) (hb : s.heap.IsTuple b ys) (same : xs.size = ys.size)
    (each : ∀ (p : Value × Value), p ∈ xs.toList.zip ys.toList → ∀ W : Bool → Shared → Prop, W true s → wpAny (model prog w) A.in1 (eqBool p.1 p.2) W E s) (q : Q (.bool false) s) : wpAny (model prog w) A (compareOp .NotEq (.ref l) (.ref b)) Q E s := by
  obtain ⟨⟨kl, dl, bl, sl⟩, ol, el, nl, fl⟩ := id hl
  obtain ⟨⟨kb, db, bb, sb⟩, ob, eb, nb, fb⟩ := id hb
  simp only at el fl eb fb
  subst el fl eb fb
  refine wpAny_richCompare_same_room (op := .NotEq) ⟨_, ol, rfl⟩ ⟨_, ob, rfl⟩ F.slot_tuple_ne (GQ.call_here F.slot_tuple_ne ⟨_, ol, rfl⟩ F.entry_tuple_ne (F.args_tuple_ne_2 _ _) ?_) hu
  exact ne_body (R := wants (fun v t => v ≠ .notImplemented ∧ Q v t) E) ol ob same each ⟨(fun x => nomatch x), q⟩
end
end My
set_option Elab.async false
set_option linter.all false
set_option maxRecDepth 100000
set_option maxHeartbeats 4000000
namespace My
open PySem L2 PySem.Spec PyProof.Rows
section
variable {X : Cx}
/-- two items that are like one another: data, or two dicts -/
inductive LikeD (K : PySem.W.Frag) (H : Hp) : V → V → Prop
  | dat {x y : V} {d e : PyData} (h1 : Dp K H x d) (h2 : Dp K H y e) (s1 : SeqAt.shaped d = true) (s2 : SeqAt.shaped e = true) (q : PyData.eqv d e = true) : LikeD K H x y
  | dic {a b : Addr} {ks ls : List (Key × V)} (ne : a ≠ b) (h1 : H a = some (.dK ks)) (h2 : H b = some (.dK ls)) (len : ks.length = ls.length) (hit : ∀ p ∈ ks, valV ls p.1 = some p.2 ∧ flatB p.2 = true) : LikeD K H (.ref a) (.ref b)
theorem like_eq {A : Around} {pins : List (Addr × Obj)} {s : Shared} {σ : L2.St} {H : Hp} {x y : V} {u v : Value} {E : Value → Shared → Prop} {W : Bool → Shared → Prop} (hu : A.units + 64 < cLine) (I : Inv X pins σ H s) (rx : RelV x u) (ry : RelV y v) (h : LikeD X.K H x y) (q : W true s) :
    wpAny (model X.prog X.w) A (eqBool u v) W E s := by
  cases h with
  | dat h1 h2 s1 s2 e =>
    obtain ⟨as, r1⟩ := Dp.reads I _ _ _ h1 rx
    obtain ⟨bs, r2⟩ := Dp.reads I _ _ _ h2 ry
    have z := SeqAt.eqAt_reads _ _ A s u v as bs r1 r2 (SeqAt.canLay_of_shaped s1) (SeqAt.canLay_of_shaped s2) (SeqAt.room_of_shaped s1 hu)
    rw [e] at z
    exact z _ _ _ _ q
  | @dic a b ks ls ne h1 h2 len hit =>
    cases rx
    cases ry
    obtain ⟨_, ya, va, ra, da⟩ := (show ObjOk X.prog X.w H s.heap a (.dK ks) from I.hok a _ h1)
    obtain ⟨_, yb, vb, rb, db⟩ := (show ObjOk X.prog X.w H s.heap b (.dK ls) from I.hok b _ h2)
    have hl : va.length = vb.length := by rw [← ra.length, ← rb.length]; exact len
    refine GQ.eqBool_refG ne ?_
    refine PySem.W.keq_eq (knd := mixKind X.prog X.w) (r := true) ya yb da db (by omega) (fun _ => hits_all rb ra hit) ⟨_, rfl, ?_⟩
    simpa [hl] using q
/-- !=, two tuples whose items are like one another -/
def rNeTup (K : PySem.W.Frag) : R2 := fun x y H Q => ∃ a b xs ys, x = .ref a ∧ y = .ref b ∧ SqT K H a xs ∧ SqT K H b ys ∧ xs.length = ys.length ∧ (∀ (j : Nat) (x y : V), xs[j]? = some x → ys[j]? = some y → LikeD K H x y) ∧ Q (.bl false) H
theorem zip_at {α β : Type} : ∀ {xs : List α} {ys : List β} {p : α × β}, p ∈ xs.zip ys → ∃ j : Nat, xs[j]? = some p.1 ∧ ys[j]? = some p.2
  | [], _, _, h => by simp at h
  | _ :: _, [], _, h => by simp at h
  | x :: xs, y :: ys, p, h => by
    rw [List.zip_cons_cons, List.mem_cons] at h
    rcases h with rfl | h
    · exact ⟨0, rfl, rfl⟩
    · obtain ⟨j, h1, h2⟩ := zip_at h
      exact ⟨j + 1, by simpa using h1, by simpa using h2⟩
theorem vals_back : ∀ {xs : List V} {us : List Value} {j : Nat} {u : Value}, Vals xs us → us[j]? = some u → ∃ x, xs[j]? = some x ∧ RelV x u
  | _, _, _, _, .nil, h => by simp at h
  | _, _, 0, _, .cons r _, h => by
    obtain rfl := Option.some.inj h
    exact ⟨_, rfl, r⟩
  | _, _, j + 1, _, .cons _ t, h => by
    obtain ⟨x, h1, h2⟩ := vals_back (j := j) t (by simpa using h)
    exact ⟨x, by simpa using h1, h2⟩
theorem op_neTup (hu : X.A.units + 65 < cLine) : OpR X (compareOp .NotEq) (rNeTup X.K) := by
  intro pins s σ H x y v u Q I rx ry h
  obtain ⟨a, b, xs, ys, rfl, rfl, ha, hb, len, like, q⟩ := h
  cases rx
  cases ry
  obtain ⟨its, r1, e1, _⟩ := I.tuple ha
  obtain ⟨its2, r2, e2, _⟩ := I.tuple hb
  refine ne_tuples (by omega) e1 e2 (by rw [List.size_toArray, List.size_toArray, ← r1.length, ← r2.length]; exact len) (fun p hp W hw => ?_) ⟨.bl false, H, I, rfl, q⟩
  obtain ⟨j, g1, g2⟩ := zip_at hp
  obtain ⟨x, gx, rx⟩ := vals_back r1 (by simpa using g1)
  obtain ⟨y, gy, ry⟩ := vals_back r2 (by simpa using g2)
  have un : X.A.in1.units + 64 < cLine := by
    have : X.A.in1.units = X.A.units + 1 := rfl
    omega
  exact like_eq un I rx ry (like j x y gx gy) hw
end
end My
set_option Elab.async false
set_option linter.all false
set_option maxRecDepth 100000
set_option maxHeartbeats 4000000
/-! for x, y in zip(t, l), t a tuple and l a list of as many items -/
namespace My
open PySem L2 PySem.Spec PyProof.Rows PySem.W
def ItzM (K : PySem.W.Frag) (a b : Addr) : It where
  go := fun i H => ∃ (xs ys : List V) (x y : V), SqT K H a xs ∧ SqL K H b ys ∧ xs[i]? = some x ∧ ys[i]? = some y
  yld := fun i H v H' => ∃ T x y, v = .ref T ∧ H T = none ∧ H' = upd H T (.tup [x, y]) ∧ (∀ xs, SqT K H a xs → xs[i]? = some x) ∧ ∀ ys, SqL K H b ys → ys[i]? = some y
  stop := fun i H => ∃ xs ys : List V, SqT K H a xs ∧ SqL K H b ys ∧ xs.length = i ∧ ys.length = i
theorem turn_zipM {P : Program} {w : World} {K : PySem.W.Frag} {elts : List Expr} {kk : Nat} {tpos : Pos} {a b z TI TO i1 i2 : Addr} (S : ZipSep2 z TI TO i1 i2 [i1, a] [i2, b]) :
    Turn P w K (.Tuple elts kk tpos) (ItzM K a b) [z, TI, TO, i1, i2] z (fun i h => IsZip h z TI TO .none ∧ IsTupOf2 h TI (.ref i1) (.ref i2) ∧ (∃ u v, IsTupOf2 h TO u v) ∧ h.IsTupleIter i1 a i ∧ h.IsListIter i2 b i) where
  mem := by simp
  obj := fun i h st c hc => by
    obtain ⟨g1, g2, ⟨u, v, g3⟩, ⟨o4, g4, _, d4⟩, ⟨o5, g5, _, d5⟩⟩ := st
    rcases (show c = z ∨ c = TI ∨ c = TO ∨ c = i1 ∨ c = i2 by simpa using hc) with rfl | rfl | rfl | rfl | rfl
    · exact ⟨_, g1, fun v q => nomatch q⟩
    · exact ⟨_, g2, fun v q => nomatch q⟩
    · exact ⟨_, g3, fun v q => nomatch q⟩
    · exact ⟨o4, g4, fun v q => by rw [d4] at q; cases q⟩
    · exact ⟨o5, g5, fun v q => by rw [d5] at q; cases q⟩
  keep := fun i h h' st k => by
    obtain ⟨g1, g2, ⟨u, v, g3⟩, g4, g5⟩ := st
    refine ⟨k z (by simp) _ g1, k TI (by simp) _ g2, ⟨u, v, k TO (by simp) _ g3⟩, g4.at fun o q => ?_, g5.at fun o q => ?_⟩
    · exact k i1 (by simp) o q
    · exact k i2 (by simp) o q
  item := by
    intro X hP hw hK hc i pins s σ H E I hf st hg
    subst hP hw hK
    obtain ⟨g1, g2, ⟨u0, v0, g3⟩, g4, g5⟩ := st
    obtain ⟨xs, ys, x, y, ha, hb, hx, hy⟩ := hg
    obtain ⟨its, rv, pa, _⟩ := I.tuple ha
    obtain ⟨its2, rv2, pb, _⟩ := I.list hb
    have isT : s.heap.IsTuple a its.toArray := pa
    have isL : s.heap.IsList b its2.toArray := pb.isList
    obtain ⟨u, hu, ru⟩ := rv.get hx
    obtain ⟨v, hv, rv'⟩ := rv2.get hy
    have zl : z < s.heap.objs.size := Heap.lt_size g1
    have nai : a ≠ i1 := fun q => by
      obtain ⟨o1, e1, c1, _⟩ := id isT
      obtain ⟨o2, e2, c2, _⟩ := id g4
      rw [q, e2] at e1
      cases e1
      rw [c2] at c1
      exact absurd c1 (by decide)
    have nbi : b ≠ i2 := fun q => by
      obtain ⟨o1, e1, c1, _⟩ := id isL
      obtain ⟨o2, e2, c2, _⟩ := id g5
      rw [q, e2] at e1
      cases e1
      rw [c2] at c1
      exact absurd c1 (by decide)
    have free : X.A.handled = none := I.ok.hd hc
    have lt1 : i < its.toArray.size := by
      rw [List.size_toArray, ← rv.length]
      exact (List.getElem?_eq_some_iff.mp hx).1
    have lt2 : i < its2.toArray.size := by
      rw [List.size_toArray, ← rv2.length]
      exact (List.getElem?_eq_some_iff.mp hy).1
    refine wpAny_pyNext_zipD2_item S (Draws.tuple (by simpa using free) i1 a nai its.toArray) (Draws.list (by simpa using free) i2 b nbi its2.toArray) g1 g2 g3 ⟨g4, isT⟩ ⟨g5, isL⟩ lt1 lt2 fun x' y' h' tk hx' hy' z' TO' st1 st2 hT hsz hk => ?_
    obtain rfl : x' = u := by
      have e : its.toArray[i]? = some u := by simpa using hu
      rw [e] at hx'
      exact (Option.some.inj hx').symm
    obtain rfl : y' = v := by
      have e : its2.toArray[i]? = some v := by simpa using hv
      rw [e] at hy'
      exact (Option.some.inj hy').symm
    refine ⟨_, rfl, wpAny_letOwnedTupleGo_zip (s := { s with heap := h', toks := tk }) z' fun h'' z'' sb => ?_⟩
    have there : h''.get? s.heap.objs.size = some { cls := .type "tuple", data := .seq #[x', y'] } := (sb.2 _ (Nat.ne_of_gt zl)).trans hT
    have born : ObjOk X.prog X.w (upd H s.heap.objs.size (.tup [x, y])) h'' s.heap.objs.size (.tup [x, y]) := ⟨by show 2 ≤ sizeLine; decide, [x', y'], .cons ru (.cons rv' .nil), ⟨_, there, rfl, _, rfl⟩⟩
    have I1 : Inv X pins σ (upd H s.heap.objs.size (.tup [x, y])) { s with heap := h'', toks := tk } := by
      refine I.turnedNew (ch := [z, TI, TO, i1, i2]) (fun c o hb q => ?_) hf (Nat.le_refl _) born
      have n : c ≠ z ∧ c ≠ TI ∧ c ≠ TO ∧ c ≠ i1 ∧ c ≠ i2 := by simpa using hb
      exact (sb.2 c n.1).trans (hk c o n.1 n.2.2.1 n.2.2.2.1 n.2.2.2.2 q)
    refine ⟨.ref s.heap.objs.size, _, I1, rfl, ⟨_, x, y, rfl, I.hok.fresh (Nat.le_refl _), rfl, fun l hl => ?_, fun l hl => ?_⟩, ⟨z'', ?_, ⟨x', y', ?_⟩, ?_, ?_⟩, fun c hcm => ?_⟩
    · rw [I.tuple_inj hl ha]
      exact hx
    · rw [I.list_inj hl hb]
      exact hy
    · exact (sb.2 _ S.TIz).trans (hk _ _ S.TIz S.TITO S.TIi1 S.TIi2 g2)
    · exact (sb.2 _ S.TOz).trans TO'
    · exact st1.1.at fun o q => (sb.2 _ (Ne.symm S.zi1)).trans q
    · exact st2.1.at fun o q => (sb.2 _ (Ne.symm S.zi2)).trans q
    · have low : c < s.heap.objs.size := by
        rcases (show c = z ∨ c = TI ∨ c = TO ∨ c = i1 ∨ c = i2 by simpa using hcm) with rfl | rfl | rfl | rfl | rfl
        · exact zl
        · exact Heap.lt_size g2
        · exact Heap.lt_size g3
        · obtain ⟨_, e, _⟩ := g4
          exact Heap.lt_size e
        · obtain ⟨_, e, _⟩ := g5
          exact Heap.lt_size e
      rw [upd_ne (Nat.ne_of_lt low)]
      exact (hf c hcm).1
  done := by
    intro X hP hw hK hc i pins s σ H E I hf st hg
    subst hP hw hK
    obtain ⟨g1, g2, ⟨u0, v0, g3⟩, g4, g5⟩ := st
    obtain ⟨xs, ys, ha, hb, l1, l2⟩ := hg
    obtain ⟨its, rv, pa, _⟩ := I.tuple ha
    obtain ⟨its2, rv2, pb, _⟩ := I.list hb
    have isT : s.heap.IsTuple a its.toArray := pa
    have isL : s.heap.IsList b its2.toArray := pb.isList
    have nai : a ≠ i1 := fun q => by
      obtain ⟨o1, e1, c1, _⟩ := id isT
      obtain ⟨o2, e2, c2, _⟩ := id g4
      rw [q, e2] at e1
      cases e1
      rw [c2] at c1
      exact absurd c1 (by decide)
    have nbi : b ≠ i2 := fun q => by
      obtain ⟨o1, e1, c1, _⟩ := id isL
      obtain ⟨o2, e2, c2, _⟩ := id g5
      rw [q, e2] at e1
      cases e1
      rw [c2] at c1
      exact absurd c1 (by decide)
    have free : X.A.handled = none := I.ok.hd hc
    have s1 : its.toArray.size = i := by rw [List.size_toArray, ← rv.length, l1]
    have s2 : its2.toArray.size = i := by rw [List.size_toArray, ← rv2.length, l2]
    refine wpAny_pyNext_zipD2_end S (Draws.tuple (by simpa using free) i1 a nai its.toArray) (Draws.list (by simpa using free) i2 b nbi its2.toArray) g1 g2 g3 ⟨g4, isT⟩ ⟨g5, isL⟩ (by omega) (by omega) (by omega) fun h' tk hk => ⟨rfl, ?_⟩
    refine I.turnedL (t' := tk) (ch := [z, TI, TO, i1, i2]) (fun c o hb q => ?_) hf
    have n : c ≠ z ∧ c ≠ TI ∧ c ≠ TO ∧ c ≠ i1 ∧ c ≠ i2 := by simpa using hb
    exact hk c o n.1 n.2.2.1 n.2.2.2.1 n.2.2.2.2 q
  self := fun A i s Q E st h => wpAny_pyIter_zip st.1 h
def iZipM (K : PySem.W.Frag) (ta : TA) : TI := fun σ H R => ta σ H fun vs H1 => ∃ a b xs ys, vs = [.ref a, .ref b] ∧ SqT K H1 a xs ∧ SqL K H1 b ys ∧ R (ItzM K a b) H1
theorem sep_of {n a b : Nat} (la : a < n) (lb : b < n) : ZipSep2 (n + 4) (n + 2) (n + 3) n (n + 1) [n, a] [n + 1, b] := by
  have ne : ∀ {x y : Nat}, x < y ∨ y < x → (x : Addr) ≠ y := fun h e => by
    rw [show _ = _ from e] at h
    omega
  have out : ∀ {x y z : Nat}, (x : Addr) ≠ y → (x : Addr) ≠ z → (x : Addr) ∉ ([y, z] : List Addr) := fun h1 h2 h => by
    rcases List.mem_cons.mp h with h | h
    · exact h1 h
    · exact h2 (List.mem_singleton.mp h)
  exact ⟨ne (by omega), ne (by omega), ne (by omega), ne (by omega), List.mem_cons_self, out (ne (by omega)) (ne (by omega)), out (ne (by omega)) (ne (by omega)), ne (by omega), List.mem_cons_self, out (ne (by omega)) (ne (by omega)), out (ne (by omega)) (ne (by omega)), out (ne (by omega)) (ne (by omega)), out (ne (by omega)) (ne (by omega))⟩
theorem pi_zipM {X : Cx} {e e2 : Expr} {ta : TA} {p pos tpos : Pos} {elts : List Expr} {kk : Nat} (hg : Gl X "zip") (hm : X.mg "zip" = none) (ha : PA X [e, e2] ta) (hs : starEach [e, e2] X.env = (false, eval e X.env) :: starEach [e2] X.env := by rfl) (hpl : (backTo pos (starEach [e2] X.env)).any (·.1) = false := by rfl) :
    PI X (.Tuple elts kk tpos) (.Call (.Name "zip" p) [e, e2] [] pos) (iZipM X.K ta) := by
  refine ⟨fun pins s σ H R I want => ?_⟩
  refine Call_ (ld_blt I hg hm PyProof.Rows.boot_zip (PyProof.Rows.callWith_type1 (thn (ha.run pos pins s σ H _ I want) fun us s1 ⟨vs, H1, I1, r1, a, b, xs, ys, ev, ht, hl, q⟩ => ?_) hs hpl))
  subst ev
  obtain ⟨u1, u2, rfl, ra, rb⟩ := vals2 r1
  cases ra
  cases rb
  obtain ⟨its, rv, pa, _⟩ := I1.tuple ht
  obtain ⟨its2, rv2, pb, _⟩ := I1.list hl
  have isT : s1.heap.IsTuple a its.toArray := pa
  have isL : s1.heap.IsList b its2.toArray := pb.isList
  obtain ⟨oa, ea, _⟩ := id isT
  obtain ⟨ob, eb, _⟩ := id isL
  have la := Heap.lt_size ea
  have lb := Heap.lt_size eb
  refine zip_begins2 (begins_tuple a its.toArray) (begins_list b its2.toArray) isT isL fun h' gz gT gO g1 g2 _ keep => wpAny_pyIter_zip gz ?_
  have I2 : Inv X pins σ H1 { s1 with heap := h' } := I1.kept (t' := s1.toks) keep
  have sep := sep_of la lb
  refine ⟨s1.heap.objs.size + 4, [s1.heap.objs.size + 4, s1.heap.objs.size + 2, s1.heap.objs.size + 3, s1.heap.objs.size, s1.heap.objs.size + 1], _, _, H1, rfl, I2, turn_zipM sep, ⟨gz, gT, ⟨_, _, gO⟩, ⟨_, g1, rfl, rfl⟩, ⟨_, g2, rfl, rfl⟩⟩, fun c hc => ?_, q⟩
  have big : s1.heap.objs.size ≤ c := by
    rcases (show c = s1.heap.objs.size + 4 ∨ c = s1.heap.objs.size + 2 ∨ c = s1.heap.objs.size + 3 ∨ c = s1.heap.objs.size ∨ c = s1.heap.objs.size + 1 by simpa using hc) with rfl | rfl | rfl | rfl | rfl <;> omega
  exact I1.fpOk big (I1.hok.fresh big)
theorem walk_zipM {K : PySem.W.Frag} {a b : Addr} {xs ys : List V} (len : xs.length = ys.length) : Walk (ItzM K a b) xs.length (fun H => SqT K H a xs ∧ SqL K H b ys) (YPair (fun i => xs[i]?) (fun i => ys[i]?)) := by
  refine ⟨fun i _ hi q => ?_, fun _ q => ⟨xs, ys, q.1, q.2, rfl, len.symm⟩, fun i H v H' _ q y => ?_⟩
  · have h2 : i < ys.length := by omega
    exact ⟨xs, ys, xs[i], ys[i], q.1, q.2, List.getElem?_eq_getElem hi, List.getElem?_eq_getElem h2⟩
  · obtain ⟨T, x, z, h1, h2, h3, h4, h5⟩ := y
    exact ⟨T, x, z, h1, h2, h3, h4 xs q.1, h5 ys q.2⟩
end My
set_option Elab.async false
set_option linter.all false
set_option maxRecDepth 100000
set_option maxHeartbeats 4000000
/-! for i, x in enumerate(r), r a list or a tuple -/
namespace My
open PySem L2 PySem.Spec PyProof.Rows PySem.W
def iEnumA (K : PySem.W.Frag) (ta : TA) : TI := fun σ H R => ta σ H fun vs H1 => ∃ a, vs = [.ref a] ∧ ((∃ xs, SqL K H1 a xs ∧ R (Ite K a) H1) ∨ ∃ xs, SqT K H1 a xs ∧ R (IteT K a) H1)
theorem pi_enumA {X : Cx} {e : Expr} {ta : TA} {p pos tpos : Pos} {elts : List Expr} {kk : Nat} (hg : Gl X "enumerate") (hm : X.mg "enumerate" = none) (ha : PA X [e] ta) (hs : starEach [e] X.env = [(false, eval e X.env)] := by rfl) :
    PI X (.Tuple elts kk tpos) (.Call (.Name "enumerate" p) [e] [] pos) (iEnumA X.K ta) := by
  refine ⟨fun pins s σ H R I want => ?_⟩
  refine Call_ (ld_blt I hg hm boot_enumerate (PyProof.Rows.callWith_type1 (thn (ha.run pos pins s σ H _ I want) fun us s1 ⟨vs, H1, I1, r1, a, ev, q⟩ => ?_) hs rfl))
  subst ev
  rw [Vals.ref1 r1]
  have fresh2 : ∀ b, b ∈ [s1.heap.objs.size + 1, s1.heap.objs.size] → FpOk X pins H1 b := fun b hb => by
    have big : s1.heap.objs.size ≤ b := by
      rcases (show b = s1.heap.objs.size + 1 ∨ b = s1.heap.objs.size by simpa using hb) with rfl | rfl
      · exact Nat.le_add_right _ _
      · exact Nat.le_refl _
    exact I1.fpOk big (I1.hok.fresh big)
  rcases q with ⟨xs, hq, q⟩ | ⟨xs, hq, q⟩
  · obtain ⟨its, rv, pl, _⟩ := I1.list hq
    refine call_enumerate_list pl.isList fun h' he hit _ keep => wpAny_pyIter_enum he ?_
    have I2 : Inv X pins σ H1 { s1 with heap := h' } := I1.kept (t' := s1.toks) keep
    exact ⟨_, _, _, _, H1, rfl, I2, turn_enum a (s1.heap.objs.size + 1) s1.heap.objs.size, ⟨⟨.none, he⟩, hit, Nat.succ_ne_self _⟩, fresh2, q⟩
  · obtain ⟨its, rv, pl, _⟩ := I1.tuple hq
    refine call_enumT (show s1.heap.IsTuple a its.toArray from pl) fun h' he hit keep => wpAny_pyIter_enum he ?_
    have I2 : Inv X pins σ H1 { s1 with heap := h' } := I1.kept (t' := s1.toks) keep
    exact ⟨_, _, _, _, H1, rfl, I2, turn_enumT a (s1.heap.objs.size + 1) s1.heap.objs.size, ⟨⟨.none, he⟩, hit, Nat.succ_ne_self _⟩, fresh2, q⟩
end My
set_option Elab.async false
set_option linter.all false
set_option maxRecDepth 100000
set_option maxHeartbeats 4000000
/-! tuples whose object is known to have no dict: made by tuple(list); methods of theirs -/
namespace My
open PySem L2 PySem.Spec PyProof.Rows
def TupN (H : Hp) (a : Addr) (xs : List V) : Prop := ∃ o : Obj, o.dict = none ∧ H a = some (.frz o (.tup xs))
theorem TupN.sq {K : PySem.W.Frag} {H : Hp} {a : Addr} {xs : List V} (h : TupN H a xs) : SqT K H a xs := by
  obtain ⟨o, _, h⟩ := h
  exact .inl (.inr ⟨o, h⟩)
section
variable {X : Cx}
/-- tuple(x), x a list or such a tuple -/
def rTupN (K : PySem.W.Frag) : List V → Hp → VK → Prop := fun xs H Q => ∃ p ys, xs = [.ref p] ∧ (SqL K H p ys ∨ TupN H p ys) ∧ ∀ t H2, (∀ b u, H b = some u → H2 b = some u) → TupN H2 t ys → Q (.ref t) H2
theorem call_tupN : CallR X (.type "tuple") (rTupN X.K) := by
  intro pins s σ H xs us Q I r want
  obtain ⟨p, ys, rfl, is_, k⟩ := want
  rw [Vals.ref1 r]
  rcases is_ with is_ | is_
  · obtain ⟨its, rv, pl, few⟩ := I.list is_
    have hl := rv.length
    refine call_tuple_list pl.isList (fun h' keep => ?_) (by simp only [List.size_toArray] <;> omega)
    have I1 : Inv X pins σ H { s with heap := h' } := I.kept (t' := s.toks) keep
    have free := I1.hok.fresh (Nat.le_refl h'.objs.size)
    have J := I1.laid (t' := s.toks) (a := h'.objs.size) (o := .frz { cls := .type "tuple", data := .seq its.toArray } (.tup ys)) (fun b o e => Heap.get?_push_of_some { cls := .type "tuple", data := .seq its.toArray } e) (Nat.le_refl _) ⟨Heap.get?_push_size _ rfl, few, its, rv, IsTup.new _ _⟩
    exact ⟨.ref h'.objs.size, _, J, rfl, k _ _ (fun b u e => by rw [upd_ne (ne_of_none e free)]; exact e) ⟨_, rfl, upd_same⟩⟩
  · obtain ⟨its, rv, pl, _⟩ := I.tuple (is_.sq (K := X.K))
    exact call_tuple_same pl ⟨.ref p, H, I, rfl, k p H (fun _ _ e => e) is_⟩
/-- x.m(e, ..), x such a tuple -/
def tBMT (r : V → List V → Hp → VK → Prop) (to : TE) (t : TA) : TE := fun σ H Q => to σ H fun x H1 => ∃ a ys, x = .ref a ∧ TupN H1 a ys ∧ t σ H1 fun xs H2 => r x xs H2 Q
theorem pe_bmT {o e : Expr} {es : List Expr} {to : TE} {t : TA} {name : Str} {apos cpos : Pos} {id : String} {r : V → List V → Hp → VK → Prop} (pa : PlainAttrs "tuple") (slot : Slot "tuple" name id) (ty : typeOf (.builtin id) = pure (.type "method_descriptor")) (hm : MtR X id r) (ho : PE X o to) (ha : PA X (e :: es) t)
    (h1 : attributeBase o name X.env (eval o X.env) = eval o X.env := by rfl) (h2 : ((backTo cpos (starEach (e :: es) X.env)).all (fun x => !x.1) && (backToKw cpos (keywordEach [] X.env)).all (fun x => x.1.isSome) && decide ((e :: es).length + ([] : List Keyword).length + (if ([] : List Keyword).isEmpty then 0 else 1) < 30)) = true := by rfl)
    (h3 : (apos.endLine == cpos.line) = true := by rfl) (h4 : starEach (e :: es) X.env = (false, eval e X.env) :: starEach es X.env := by rfl) (h5 : (backTo cpos (starEach es X.env)).any (·.1) = false := by rfl) :
    PE X (.Call (.Attribute o name apos) (e :: es) [] cpos) (tBMT r to t) := by
  refine ⟨fun pins s σ H Q I want => ?_⟩
  refine wpAny_Call_method_late h1 h2 h3 rfl (thn (ho.run pins s σ H _ I want) fun v s1 ⟨x, H1, I1, rx, a, ys, ex, ⟨ob, nd, at_⟩, q⟩ => ?_)
  subst ex
  cases rx
  obtain ⟨got, _, its, _, o2, got2, cls, _⟩ : ObjOk X.prog X.w H1 s1.heap a (.frz ob (.tup ys)) := I1.hok a _ at_
  refine ⟨"tuple", id, pa, slot, ty, ⟨o2, got2, cls⟩, fun b eb => ?_, ?_⟩
  · cases eb
    exact ⟨ob, got, nd⟩
  · have told := ha.run cpos pins s1 σ H1 _ I1 q
    rw [h4] at told ⊢
    refine Calls.callWith_builtin ?_ (Calls.evalArgs_plain (thn told fun us s2 ⟨vs, H2, I2, r2, q2⟩ => hm pins s2 σ H2 (.ref a) vs (.ref a) us Q I2 rfl r2 q2))
    show (false || (backTo cpos (starEach es X.env)).any (·.1)) = false
    rw [h5]
    rfl
end
end My
set_option Elab.async false
set_option linter.all false
set_option maxRecDepth 100000
set_option maxHeartbeats 4000000
/-! == of dicts, entry by entry, from state to state -/
namespace My
open PySem PySem.Spec PyProof.Rows
section
variable {prog : Program} {w : World} {A : Around} {E : Value → Shared → Prop} {s : Shared}
/-- what stands at d: a dict's rows -/
def RowsAt (h : Heap) (d : Addr) (es : Array DictEntry) (ep : Nat) : Prop := ∃ o, h.get? d = some o ∧ o.data = .dict es ep
/-- one turn of the comparison -/
def turnOf (b : Addr) (e : DictEntry) : Sem Bool := holding [e.key, e.val] do
  let some j ← dictFind b e.key e.hash | pure false
  let some f := (← dictEntries b)[j]? | unsupported "internal:dict-equal"
  holding [f.val] (eqBool e.val f.val)
theorem same_rows {nm : String} {a b : Addr} {es es' : Array DictEntry} {ep ep' : Nat} {R : Bool → Shared → Prop} (na : (a == sysModules) = false) (nb : (b == sysModules) = false) (ra : RowsAt s.heap a es ep) (rb : RowsAt s.heap b es' ep')
    (W : Nat → Shared → Prop) (w0 : es.size = es'.size → W 0 s) (other : es.size ≠ es'.size → R false s) (at_ : ∀ i t, W i t → RowsAt t.heap a es ep)
    (step : ∀ i e t, es[i]? = some e → W i t → wpAny (model prog w) A (turnOf b e) (fun k t' => if k = true then W (i + 1) t' else R false t') E t) (fin : ∀ t, W es.size t → R true t) :
    wpAny (model prog w) A (Builtin.Dict.samePairs nm a b) R E s := by
  unfold Builtin.Dict.samePairs Builtin.Dict.showsAll
  rw [na, nb]
  simp only [Bool.false_eq_true, if_false]
  obtain ⟨oa, ha, da⟩ := ra
  obtain ⟨ob, hb, db⟩ := rb
  refine wpAny_bind (wpAny_pure (wpAny_bind (wpAny_pure (wpAny_bind (wpAny_dictEntries ha da ?_)))))
  refine wpAny_bind (wpAny_dictEntries hb db ?_)
  by_cases sz : es.size = es'.size
  · have nsz : (es.size != es'.size) = false := by simp [sz]
    rw [nsz]
    simp only [Bool.false_eq_true, if_false]
    have start := w0 sz
    refine wpAny_bind (wpAny_dictEpoch ha da (wpAny_bind ?_))
    rw [Std.Legacy.Range.forIn_eq_forIn_range']
    simp only [Std.Legacy.Range.size, Nat.sub_zero, Nat.add_sub_cancel, Nat.div_one]
    refine wpAny_forIn_list _ (fun left acc t => acc = (none, ()) ∧ ∃ i, left = List.range' i (es.size - i) ∧ i ≤ es.size ∧ W i t) _ ?_ ?_ _ _ ⟨rfl, 0, by simp, Nat.zero_le _, start⟩
    · rintro x left acc t ⟨rfl, i, el, hi, hw⟩
      have lt : i < es.size := by
        by_cases h : i < es.size
        · exact h
        · rw [show es.size - i = 0 by omega] at el
          simp at el
      rw [show es.size - i = (es.size - (i + 1)) + 1 by omega, List.range'_succ] at el
      injection el with e1 e2
      subst e1
      obtain ⟨o1, g1, d1⟩ := at_ x t hw
      refine wpAny_bind (wpAny_dictEntries g1 d1 ?_)
      have ge : es[x]? = some es[x] := Array.getElem?_eq_getElem lt
      rw [ge]
      refine wpAny_bind (wpAny_mono (step x es[x] t ge hw) (fun k t' z => ?_) fun _ _ z => z)
      cases k with
      | false => exact wpAny_pure (wpAny_pure z)
      | true =>
        have z' : W (x + 1) t' := z
        obtain ⟨o2, g2, d2⟩ := at_ _ t' z'
        refine wpAny_bind (wpAny_dictEpoch g2 d2 ?_)
        rw [if_neg (by simp)]
        exact wpAny_pure ⟨rfl, x + 1, e2, lt, z'⟩
    · rintro acc t ⟨rfl, i, el, hi, hw⟩
      have le : i = es.size := by
        by_cases h : i < es.size
        · rw [show es.size - i = (es.size - (i + 1)) + 1 by omega, List.range'_succ] at el
          simp at el
        · omega
      subst le
      exact wpAny_pure (fin t hw)
  · have nsz : (es.size != es'.size) = true := by simpa using sz
    rw [nsz]
    simp only [if_true]
    exact wpAny_bind (wpAny_rule (wpAny_pure (other sz)))
end
end My
set_option Elab.async false
set_option linter.all false
set_option maxRecDepth 100000
set_option maxHeartbeats 4000000
/-! == and != of tuples, item by item, from state to state -/
namespace My
open PySem PySem.SeqAt
open AutoSeq1 (wpAny_loadPart')
open MeetsSeq MeetsSeq2 MeetsSeq3 SeqRoads2
section
variable {prog : Program} {w : World} {A : Around} {E : Value → Shared → Prop} {s : Shared} {l b : Addr} {xs ys : Array Value}
theorem eq_bodyW {R : Result → Shared → Prop} {dl db : Option Addr} {nl nb : Nat} {sl sb : Array (Option Value)} (at1 : s.heap.get? l = some ⟨.type "tuple", dl, .seq xs nl, sl⟩) (at2 : s.heap.get? b = some ⟨.type "tuple", db, .seq ys nb, sb⟩) (same : xs.size = ys.size)
    (W : Nat → Shared → Prop) (w0 : W 0 s) (step : ∀ i u v t, xs[i]? = some u → ys[i]? = some v → W i t → wpAny (model prog w) A.in1 (eqBool u v) (fun k t' => if k = true then W (i + 1) t' else R (.ok (.ret (.bool false))) t') (fun e t => R (.error e) t) t) (fin : ∀ t, W xs.size t → R (.ok (.ret (.bool true))) t) :
    wpAny (model prog w) A.in1 (Builtin.«tuple.__eq__» ⟨[.ref l, .ref b], []⟩) (GQ.FinOf prog w A R) (fun e t => R (.error e) t) s := by
  have sub := AutoSeq1.sub_tuple_tuple
  have step0 := step
  have fin0 := fin
  have w00 := w0
  have zl : (xs.toList.zip ys.toList).length = xs.size := by
    rw [List.length_zip, Array.length_toList, Array.length_toList, same, Nat.min_self]
  wp_walk using wpAny_loadPart' at1, wpAny_loadPart' at2, wpAny_forIn_list _ (fun left acc t => acc.1 = none ∧ ∃ i, left = (xs.toList.zip ys.toList).drop i ∧ i ≤ xs.size ∧ W i t) _
  case h => exact ⟨rfl, 0, rfl, Nat.zero_le _, w00⟩
  case turn =>
    rintro ⟨u, v⟩ left acc t ⟨none_, i, el, hi, hw⟩
    have lt : i < xs.size := by
      by_cases h : i < xs.size
      · exact h
      · rw [List.drop_of_length_le (by omega)] at el
        cases el
    have lz : i < (xs.toList.zip ys.toList).length := by omega
    rw [List.drop_eq_getElem_cons lz] at el
    injection el with e1 e2
    rw [List.getElem_zip] at e1
    injection e1 with e3 e4
    have gu : xs[i]? = some u := by
      rw [e3, ← Array.getElem?_toList]
      exact List.getElem?_eq_getElem (by rw [Array.length_toList]; omega)
    have gv : ys[i]? = some v := by
      rw [e4, ← Array.getElem?_toList]
      exact List.getElem?_eq_getElem (by rw [Array.length_toList]; omega)
    refine wpAny_bind (wpAny_mono (step0 i u v t gu gv hw) (fun k t' z => ?_) fun _ _ z => z)
    cases k with
    | false =>
      have z' : R (.ok (.ret (.bool false))) t' := z
      wp_walk
      exact z'
    | true =>
      have z' : W (i + 1) t' := z
      wp_walk
      exact ⟨rfl, i + 1, e2, lt, z'⟩
  case fin =>
    rintro ⟨c1, c2⟩ t ⟨none_, i, el, hi, hw⟩
    simp only at none_
    rw [none_]
    have le : i = xs.size := by
      by_cases h : i < xs.size
      · have lz : i < (xs.toList.zip ys.toList).length := by omega
        rw [List.drop_eq_getElem_cons lz] at el
        cases el
      · omega
    subst le
    have z' := fin0 t hw
    wp_walk
    simpa [Builtin.Tuple.tupleCompareSizes, same] using z'
theorem ne_bodyW {R : Result → Shared → Prop} {dl db : Option Addr} {nl nb : Nat} {sl sb : Array (Option Value)} (at1 : s.heap.get? l = some ⟨.type "tuple", dl, .seq xs nl, sl⟩) (at2 : s.heap.get? b = some ⟨.type "tuple", db, .seq ys nb, sb⟩) (same : xs.size = ys.size)
    (W : Nat → Shared → Prop) (w0 : W 0 s) (step : ∀ i u v t, xs[i]? = some u → ys[i]? = some v → W i t → wpAny (model prog w) A.in1 (eqBool u v) (fun k t' => if k = true then W (i + 1) t' else R (.ok (.ret (.bool true))) t') (fun e t => R (.error e) t) t) (fin : ∀ t, W xs.size t → R (.ok (.ret (.bool false))) t) :
    wpAny (model prog w) A.in1 (Builtin.«tuple.__ne__» ⟨[.ref l, .ref b], []⟩) (GQ.FinOf prog w A R) (fun e t => R (.error e) t) s := by
  have sub := AutoSeq1.sub_tuple_tuple
  have step0 := step
  have fin0 := fin
  have w00 := w0
  have zl : (xs.toList.zip ys.toList).length = xs.size := by
    rw [List.length_zip, Array.length_toList, Array.length_toList, same, Nat.min_self]
  wp_walk using wpAny_loadPart' at1, wpAny_loadPart' at2, wpAny_forIn_list _ (fun left acc t => acc.1 = none ∧ ∃ i, left = (xs.toList.zip ys.toList).drop i ∧ i ≤ xs.size ∧ W i t) _
  case h => exact ⟨rfl, 0, rfl, Nat.zero_le _, w00⟩
  case turn =>
    rintro ⟨u, v⟩ left acc t ⟨none_, i, el, hi, hw⟩
    have lt : i < xs.size := by
      by_cases h : i < xs.size
      · exact h
      · rw [List.drop_of_length_le (by omega)] at el
        cases el
    have lz : i < (xs.toList.zip ys.toList).length := by omega
    rw [List.drop_eq_getElem_cons lz] at el
    injection el with e1 e2
    rw [List.getElem_zip] at e1
    injection e1 with e3 e4
    have gu : xs[i]? = some u := by
      rw [e3, ← Array.getElem?_toList]
      exact List.getElem?_eq_getElem (by rw [Array.length_toList]; omega)
    have gv : ys[i]? = some v := by
      rw [e4, ← Array.getElem?_toList]
      exact List.getElem?_eq_getElem (by rw [Array.length_toList]; omega)
    refine wpAny_bind (wpAny_mono (step0 i u v t gu gv hw) (fun k t' z => ?_) fun _ _ z => z)
    cases k with
    | false =>
      have z' : R (.ok (.ret (.bool true))) t' := z
      wp_walk
      exact z'
    | true =>
      have z' : W (i + 1) t' := z
      wp_walk
      exact ⟨rfl, i + 1, e2, lt, z'⟩
  case fin =>
    rintro ⟨c1, c2⟩ t ⟨none_, i, el, hi, hw⟩
    simp only at none_
    rw [none_]
    have le : i = xs.size := by
      by_cases h : i < xs.size
      · have lz : i < (xs.toList.zip ys.toList).length := by omega
        rw [List.drop_eq_getElem_cons lz] at el
        cases el
      · omega
    subst le
    have z' := fin0 t hw
    wp_walk
    simpa [Builtin.Tuple.tupleCompareSizes, same, bne] using z'
theorem eq_tuplesW {Q : Value → Shared → Prop} (hu : A.units < cLine) (hl : s.heap.IsTuple l xs) (hb : s.heap.IsTuple b ys) (same : xs.size = ys.size) (W : Nat → Shared → Prop) (w0 : W 0 s)
    (step : ∀ i u v t, xs[i]? = some u → ys[i]? = some v → W i t → wpAny (model prog w) A.in1 (eqBool u v) (fun k t' => if k = true then W (i + 1) t' else Q (.bool false) t') E t) (fin : ∀ t, W xs.size t → Q (.bool true) t) : wpAny (model prog w) A (richCompare .Eq (.ref l) (.ref b)) Q E s := by
  obtain ⟨⟨kl, dl, bl, sl⟩, ol, el, nl, fl⟩ := id hl
  obtain ⟨⟨kb, db, bb, sb⟩, ob, eb, nb, fb⟩ := id hb
  simp only at el fl eb fb
  subst el fl eb fb
  refine wpAny_richCompare_same_room (op := .Eq) ⟨_, ol, rfl⟩ ⟨_, ob, rfl⟩ F.slot_tuple_eq (GQ.call_here F.slot_tuple_eq ⟨_, ol, rfl⟩ F.entry_tuple_eq (F.args_tuple_eq_2 _ _) ?_) hu
  refine eq_bodyW (R := wants (fun v t => v ≠ .notImplemented ∧ Q v t) E) ol ob same W w0 (fun i u v t gu gv hw => wpAny_mono (step i u v t gu gv hw) (fun k t' z => ?_) fun _ _ z => z) fun t hw => ⟨(fun x => nomatch x), fin t hw⟩
  cases k with
  | true => exact z
  | false => exact ⟨(fun x => nomatch x), z⟩
theorem ne_tuplesW {Q : Value → Shared → Prop} (hu : A.units < cLine) (hl : s.heap.IsTuple l xs) (hb : s.heap.IsTuple b ys) (same : xs.size = ys.size) (W : Nat → Shared → Prop) (w0 : W 0 s)
    (step : ∀ i u v t, xs[i]? = some u → ys[i]? = some v → W i t → wpAny (model prog w) A.in1 (eqBool u v) (fun k t' => if k = true then W (i + 1) t' else Q (.bool true) t') E t) (fin : ∀ t, W xs.size t → Q (.bool false) t) : wpAny (model prog w) A (compareOp .NotEq (.ref l) (.ref b)) Q E s := by
  obtain ⟨⟨kl, dl, bl, sl⟩, ol, el, nl, fl⟩ := id hl
  obtain ⟨⟨kb, db, bb, sb⟩, ob, eb, nb, fb⟩ := id hb
  simp only at el fl eb fb
  subst el fl eb fb
  refine wpAny_richCompare_same_room (op := .NotEq) ⟨_, ol, rfl⟩ ⟨_, ob, rfl⟩ F.slot_tuple_ne (GQ.call_here F.slot_tuple_ne ⟨_, ol, rfl⟩ F.entry_tuple_ne (F.args_tuple_ne_2 _ _) ?_) hu
  refine ne_bodyW (R := wants (fun v t => v ≠ .notImplemented ∧ Q v t) E) ol ob same W w0 (fun i u v t gu gv hw => wpAny_mono (step i u v t gu gv hw) (fun k t' z => ?_) fun _ _ z => z) fun t hw => ⟨(fun x => nomatch x), fin t hw⟩
  cases k with
  | true => exact z
  | false => exact ⟨(fun x => nomatch x), z⟩
end
end My
set_option Elab.async false
set_option linter.all false
set_option maxRecDepth 100000
set_option maxHeartbeats 4000000
/-! how values compare: data, tuples, dicts by names and by tuples, one in another -/
namespace My
open PySem L2 PySem.Spec PyProof.Rows
/-- the rows of one dict looked up in another one -/
inductive Hits {κ : Type} [DecidableEq κ] (F : V → V → Bool → Prop) (ls : List (κ × V)) : List (κ × V) → Bool → Prop
  | nil : Hits F ls [] true
  | miss {k : κ} {v : V} {r : List (κ × V)} (h : valV ls k = none) : Hits F ls ((k, v) :: r) false
  | hit {k : κ} {v u : V} {r : List (κ × V)} {b c : Bool} (h : valV ls k = some u) (q : F v u b) (t : Hits F ls r c) : Hits F ls ((k, v) :: r) (b && c)
inductive Its (F : V → V → Bool → Prop) : List V → List V → Bool → Prop
  | nil : Its F [] [] true
  | cons {x y : V} {xs ys : List V} {b c : Bool} (h : F x y b) (t : Its F xs ys c) : Its F (x :: xs) (y :: ys) (b && c)
theorem Its.len {F : V → V → Bool → Prop} : ∀ {xs ys : List V} {b : Bool}, Its F xs ys b → xs.length = ys.length
  | _, _, _, .nil => rfl
  | _, _, _, .cons _ t => congrArg (· + 1) t.len
/-- equal or not, of nesting up to n -/
def EqT (K : PySem.W.Frag) (H : Hp) : Nat → V → V → Bool → Prop
  | 0 => fun x y b => ∃ d e, Dp K H x d ∧ Dp K H y e ∧ SeqAt.shaped d = true ∧ SeqAt.shaped e = true ∧ b = PyData.eqv d e
  | n + 1 => fun x y b => EqT K H n x y b ∨ (∃ a : Addr, x = .ref a ∧ y = .ref a ∧ b = true) ∨
      (∃ (a c : Addr) (xs ys : List V), x = .ref a ∧ y = .ref c ∧ a ≠ c ∧ SqT K H a xs ∧ SqT K H c ys ∧ Its (EqT K H n) xs ys b) ∨
      (∃ (a c : Addr) (ks ls : List (Key × V)) (r : Bool), x = .ref a ∧ y = .ref c ∧ a ≠ c ∧ H a = some (.dK ks) ∧ H c = some (.dK ls) ∧ Hits (EqT K H n) ls ks r ∧ b = (ks.length == ls.length && r)) ∨
      (∃ (a c : Addr) (ks ls : List (List Key × V)) (r : Bool), x = .ref a ∧ y = .ref c ∧ a ≠ c ∧ H a = some (.dT ks) ∧ H c = some (.dT ls) ∧ Hits (EqT K H n) ls ks r ∧ b = (ks.length == ls.length && r))
theorem paired_get {α β : Type} {F : α → β → Prop} : ∀ {l : List α} {m : List β} {i : Nat} {y : β}, Paired F l m → m[i]? = some y → ∃ x, l[i]? = some x ∧ F x y
  | _, _, _, _, .nil, h => by simp at h
  | _, _, 0, _, .cons r _, h => ⟨_, rfl, by
    obtain rfl := Option.some.inj h
    exact r⟩
  | _, _, i + 1, _, .cons _ t, h => by
    obtain ⟨x, h1, h2⟩ := paired_get (i := i) t (by simpa using h)
    exact ⟨x, by simpa using h1, h2⟩
section
variable {X : Cx} {pins : List (Addr × Obj)} {σ : L2.St} {H : Hp} {s : Shared} {A : Around}
/-- F, said of what runs -/
def Runs (P : Program) (w : World) (A : Around) (s : Shared) (F : V → V → Bool → Prop) : Prop := ∀ (x y : V) (b : Bool) (u v : Value), F x y b → RelV x u → RelV y v → SeqAt.EqP P w A s u v b
theorem hits_keq {P : Program} {w : World} {F : V → V → Bool → Prop} (run : Runs P w A s F) {ls : List (Key × V)} {vb : List (Key × Value)} (rb : KV ls vb) {ks : List (Key × V)} {r : Bool} (h : Hits F ls ks r) : ∀ {va : List (Key × Value)}, KV ks va → PySem.W.KeqHitsP P w A s vb va r := by
  induction h with
  | nil =>
    intro va ra
    cases ra
    exact .nil
  | @miss k v r0 no =>
    intro va ra
    cases ra with
    | @cons p q ps qs h1 t1 =>
      obtain ⟨key, u⟩ := q
      obtain rfl : k = key := h1.1
      have z := rb.val k
      rw [no] at z
      cases e : valueAt vb k with
      | none => exact .miss e
      | some y =>
        rw [e] at z
        exact z.elim
  | @hit k v u r0 b c yes q t ih =>
    intro va ra
    cases ra with
    | @cons p q' ps qs h1 t1 =>
      obtain ⟨key, u'⟩ := q'
      obtain rfl : k = key := h1.1
      have z := rb.val k
      rw [yes] at z
      obtain ⟨y, hy, ry⟩ := z.some_of
      exact .hit hy (run _ _ _ _ _ q h1.2 ry) (ih t1)
theorem turn_h {P : Program} {w : World} {E : Value → Shared → Prop} {κ : Type} [DecidableEq κ] {knd : HeapKind P w κ} {b ka : Addr} {xs : List (κ × Addr × Value)} {k : κ} {v : Value} {R : Bool → Shared → Prop} (room : knd.room A) (hk : knd.is s.heap k ka) (hb : s.heap.DictOfH knd b xs)
    (miss : atKey xs k = none → R false s) (hit : ∀ p, atKey xs k = some p → wpAny (model P w) A (eqBool v p.2) R E s) : wpAny (model P w) A (turnOf b (entryOfKey knd (k, ka, v))) R E s := by
  obtain ⟨o, es, ep, ho, _, hd, he, his, nd⟩ := hb
  unfold turnOf
  refine wpAny_holding ?_
  show wpAny _ _ (dictFind b (.ref ka) (knd.hash k) >>= _) _ _ s
  refine wpAny_bind (wpAny_dictFind_heap room hk ho hd he his nd (fun no => ?_) fun j p hj => ?_)
  · exact wpAny_pure (miss (atKey_none_of_get no))
  · refine wpAny_bind (wpAny_dictEntries ho hd ?_)
    rw [entry_at he j, hj]
    exact wpAny_holding (hit p (atKey_of_get nd hj))
theorem rcP_dictsH {P : Program} {w : World} {a b : Addr} {F : V → V → Bool → Prop} {ks ls : List (List Key × V)} {xa xb : List (List Key × Addr × Value)} {r : Bool} (na : (a == sysModules) = false) (nb : (b == sysModules) = false) (hu : A.units + 1 < cLine)
    (ra : KT H ks xa) (rb : KT H ls xb) (da : s.heap.DictOfH (tupleKind (mixKind P w)) a xa) (db : s.heap.DictOfH (tupleKind (mixKind P w)) b xb) (run : Runs P w A.in1 s F) (hits : Hits F ls ks r) (E Q : Value → Shared → Prop) (h : Q (.bool (ks.length == ls.length && r)) s) :
    wpAny (model P w) A (richCompare .Eq (.ref a) (.ref b)) Q E s := by
  obtain ⟨oa, es, ep, ha, xa1, hda, hea, hia, nda⟩ := id da
  obtain ⟨ob, es', ep', hb, xb1, hdb, heb, hib, ndb⟩ := id db
  have ta : s.TypeIs (.ref a) "dict" := ⟨oa, ha, xa1.1⟩
  have tb : s.TypeIs (.ref b) "dict" := ⟨ob, hb, xb1.1⟩
  have la : es.size = ks.length := by rw [size_of_entries hea]; exact (Paired.length ra).symm
  have lb : es'.size = ls.length := by rw [size_of_entries heb]; exact (Paired.length rb).symm
  refine wpAny_richCompare_same_room (op := .Eq) ta tb PySem.F.slot_dict_eq (wpAny_call_entry PySem.F.slot_dict_eq ta PySem.F.entry_dict_eq ?_ (PySem.F.args_dict_eq_2 _ _)) (by omega)
  show wpAny _ _ (Builtin.Dict.dictSlotArgs "__eq__" ⟨[.ref a, .ref b], []⟩ >>= _) _ _ s
  refine wpAny_bind ?_
  unfold Builtin.Dict.dictSlotArgs
  refine wpAny_bind (wpAny_notOrdered_dict ta (show wpAny _ _ (pure (Value.ref a, Value.ref b)) _ _ s from wpAny_pure (wpAny_bind (wpAny_isInstance (T := "dict") tb PySem.F.sub_dict_dict ?_))))
  simp only [Bool.not_true, Bool.false_eq_true, if_false]
  refine wpAny_bind (wpAny_pure (wpAny_bind (wpAny_pure (wpAny_bind ?_))))
  refine same_rows (es := es) (es' := es') na nb ⟨oa, ha, hda⟩ ⟨ob, hb, hdb⟩ (fun i t => t = s ∧ ks.length = ls.length ∧ Hits F ls (ks.drop i) r) (fun sz => ⟨rfl, by omega, hits⟩) (fun ne => ?_) (fun i t hw => hw.1 ▸ ⟨oa, ha, hda⟩) (fun i e t ge hw => ?_) fun t hw => ?_
  · refine wpAny_pure ⟨_, rfl, (fun x => nomatch x), ?_⟩
    rw [show (ks.length == ls.length) = false by simp; omega] at h
    exact h
  · obtain ⟨rfl, ll, hh⟩ := hw
    rw [entry_at hea i] at ge
    obtain ⟨q, hq, rfl⟩ := Option.map_eq_some_iff.mp ge
    obtain ⟨k, ka, v⟩ := q
    obtain ⟨p, hp, e1, e2, e3⟩ := paired_get ra hq
    obtain ⟨k', x⟩ := p
    obtain rfl : k' = k := e1
    have lt := (List.getElem?_eq_some_iff.mp hp).1
    have dr : ks.drop i = (k', x) :: ks.drop (i + 1) := by
      rw [List.drop_eq_getElem_cons lt, (List.getElem?_eq_some_iff.mp hp).2]
    rw [dr] at hh
    have rel := rb.val k'
    have hkey := hia _ (List.mem_of_getElem? hq)
    refine turn_h (xs := xb) hu hkey db (fun no => ?_) fun p yes => ?_
    · cases hh with
      | miss z => 
        show (if false = true then _ else _)
        refine wpAny_pure ⟨_, rfl, (fun x => nomatch x), ?_⟩
        rw [Bool.and_false] at h
        exact h
      | hit z _ _ =>
        rw [z, no] at rel
        exact rel.elim
    · cases hh with
      | miss z =>
        rw [z, yes] at rel
        exact rel.elim
      | @hit _ _ u _ b0 c0 z q t =>
        rw [z, yes] at rel
        have ry : RelV u p.2 := rel
        refine run _ _ _ _ _ q e3 ry _ _ ?_
        cases b0 with
        | true => exact ⟨rfl, ll, by simpa using t⟩
        | false =>
          refine wpAny_pure ⟨_, rfl, (fun x => nomatch x), ?_⟩
          rw [Bool.false_and, Bool.and_false] at h
          exact h
  · obtain ⟨rfl, ll, hh⟩ := hw
    rw [List.drop_of_length_le (by omega)] at hh
    cases hh
    refine wpAny_pure ⟨_, rfl, (fun x => nomatch x), ?_⟩
    rw [ll] at h
    simpa using h
theorem eqT_run (I : Inv X pins σ H s) : ∀ (n : Nat) (A : Around), A.units + 2 * n + 66 < cLine → Runs X.prog X.w A s (EqT X.K H n)
  | 0, A, hu, x, y, b, u, v, h, rx, ry => by
    obtain ⟨d, e, h1, h2, s1, s2, rfl⟩ := h
    obtain ⟨as, r1⟩ := Dp.reads I _ _ _ h1 rx
    obtain ⟨bs, r2⟩ := Dp.reads I _ _ _ h2 ry
    exact SeqAt.EqAt.eqP (SeqAt.eqAt_reads _ _ A s u v as bs r1 r2 (SeqAt.canLay_of_shaped s1) (SeqAt.canLay_of_shaped s2) (SeqAt.room_of_shaped s1 (by omega)))
  | n + 1, A, hu, x, y, b, u, v, h, rx, ry => by
    have ih := eqT_run I n A.in1 (by show A.units + 1 + 2 * n + 66 < cLine; omega)
    rcases h with h | ⟨a, rfl, rfl, rfl⟩ | ⟨a, c, xs, ys, rfl, rfl, ne, ha, hc, it⟩ | ⟨a, c, ks, ls, r, rfl, rfl, ne, ha, hc, hits, rfl⟩ | ⟨a, c, ks, ls, r, rfl, rfl, ne, ha, hc, hits, rfl⟩
    · exact eqT_run I n A (by omega) x y b u v h rx ry
    · cases rx
      cases ry
      exact (SeqAt.EqAt.same _).eqP
    · cases rx
      cases ry
      obtain ⟨its, r1, p1, _⟩ := I.tuple ha
      obtain ⟨its2, r2, p2, _⟩ := I.tuple hc
      have ll := it.len
      have l1 := r1.length
      have l2 := r2.length
      refine SeqAt.eqP_refs ne fun E Q q => eq_tuplesW (by omega) p1 p2 (by rw [List.size_toArray, List.size_toArray]; omega) (fun i t => t = s ∧ Its (EqT X.K H n) (xs.drop i) (ys.drop i) b) ⟨rfl, it⟩ (fun i u v t gu gv hw => ?_) fun t hw => ?_
      · obtain ⟨rfl, hh⟩ := hw
        rw [List.getElem?_toArray] at gu gv
        obtain ⟨x, gx, rx⟩ := vals_back r1 gu
        obtain ⟨y, gy, ry⟩ := vals_back r2 gv
        have d1 : xs.drop i = x :: xs.drop (i + 1) := by
          rw [List.drop_eq_getElem_cons (List.getElem?_eq_some_iff.mp gx).1, (List.getElem?_eq_some_iff.mp gx).2]
        have d2 : ys.drop i = y :: ys.drop (i + 1) := by
          rw [List.drop_eq_getElem_cons (List.getElem?_eq_some_iff.mp gy).1, (List.getElem?_eq_some_iff.mp gy).2]
        rw [d1, d2] at hh
        cases hh with
        | @cons _ _ _ _ b0 c0 z tl =>
          refine ih _ _ _ _ _ z rx ry _ _ ?_
          cases b0 with
          | true => exact ⟨rfl, by simpa using tl⟩
          | false =>
            rw [Bool.false_and] at q
            exact q
      · obtain ⟨rfl, hh⟩ := hw
        rw [List.size_toArray, List.drop_of_length_le (by omega), List.drop_of_length_le (by omega)] at hh
        cases hh
        exact q
    · cases rx
      cases ry
      obtain ⟨_, na, va, ra, da⟩ := dk_of I.hok ha
      obtain ⟨_, nc, vb, rb, db⟩ := dk_of I.hok hc
      refine SeqAt.eqP_refs ne fun E Q q => PySem.W.rcP_dicts na nc da db (by omega) (fun _ => hits_keq ih rb hits ra) E Q ?_
      rw [← ra.length, ← rb.length]
      exact q
    · cases rx
      cases ry
      obtain ⟨_, na, va, ra, da⟩ := dt_of I.hok ha
      obtain ⟨_, nc, vb, rb, db⟩ := dt_of I.hok hc
      exact SeqAt.eqP_refs ne fun E Q q => rcP_dictsH na nc (by omega) ra rb da db ih hits E Q q
end
section
variable {X : Cx}
/-- == and != of what compares without a call -/
def rEqT (K : PySem.W.Frag) : R2 := fun x y H Q => ∃ (n : Nat) (b : Bool), n ≤ 20 ∧ EqT K H n x y b ∧ Q (.bl b) H
def rNeTT (K : PySem.W.Frag) : R2 := fun x y H Q => ∃ (a c : Addr) (xs ys : List V) (n : Nat) (b : Bool), x = .ref a ∧ y = .ref c ∧ n ≤ 20 ∧ SqT K H a xs ∧ SqT K H c ys ∧ Its (EqT K H n) xs ys b ∧ Q (.bl (!b)) H
theorem op_neTT (hu : X.A.units + 110 < cLine) : OpR X (compareOp .NotEq) (rNeTT X.K) := by
  intro pins s σ H x y v u Q I rx ry h
  obtain ⟨a, c, xs, ys, n, b, rfl, rfl, hn, ha, hc, it, q⟩ := h
  cases rx
  cases ry
  have ih := eqT_run I n X.A.in1 (by show X.A.units + 1 + 2 * n + 66 < cLine; omega)
  obtain ⟨its, r1, p1, _⟩ := I.tuple ha
  obtain ⟨its2, r2, p2, _⟩ := I.tuple hc
  have ll := it.len
  have l1 := r1.length
  have l2 := r2.length
  refine ne_tuplesW (by omega) p1 p2 (by rw [List.size_toArray, List.size_toArray]; omega) (fun i t => t = s ∧ Its (EqT X.K H n) (xs.drop i) (ys.drop i) b) ⟨rfl, it⟩ (fun i u v t gu gv hw => ?_) fun t hw => ?_
  · obtain ⟨rfl, hh⟩ := hw
    rw [List.getElem?_toArray] at gu gv
    obtain ⟨x, gx, rx⟩ := vals_back r1 gu
    obtain ⟨y, gy, ry⟩ := vals_back r2 gv
    have d1 : xs.drop i = x :: xs.drop (i + 1) := by
      rw [List.drop_eq_getElem_cons (List.getElem?_eq_some_iff.mp gx).1, (List.getElem?_eq_some_iff.mp gx).2]
    have d2 : ys.drop i = y :: ys.drop (i + 1) := by
      rw [List.drop_eq_getElem_cons (List.getElem?_eq_some_iff.mp gy).1, (List.getElem?_eq_some_iff.mp gy).2]
    rw [d1, d2] at hh
    cases hh with
    | @cons _ _ _ _ b0 c0 z tl =>
      refine ih _ _ _ _ _ z rx ry _ _ ?_
      cases b0 with
      | true => exact ⟨rfl, by simpa using tl⟩
      | false =>
        rw [Bool.false_and] at q
        exact ⟨.bl true, H, I, rfl, q⟩
  · obtain ⟨rfl, hh⟩ := hw
    rw [List.size_toArray, List.drop_of_length_le (by omega), List.drop_of_length_le (by omega)] at hh
    cases hh
    exact ⟨.bl false, H, I, rfl, q⟩
end
end My
set_option Elab.async false
set_option linter.all false
set_option maxRecDepth 100000
set_option maxHeartbeats 4000000
/-! == and != with own __eq__ within tuples and dicts -/
namespace My
open PySem L2 PySem.Spec PyProof.Rows
section
variable {X : Cx}
/-- the comparison of x and y at H, run within A, comes to k -/
def CmpM (X : Cx) (A : Around) (x y : V) (H : Hp) (k : Bool → Hp → Prop) : Prop := ∀ (pins : List (Addr × Obj)) (s : Shared) (σ : L2.St) (u v : Value), Inv X pins σ H s → RelV x u → RelV y v →
  wpAny (model X.prog X.w) A (eqBool u v) (fun b s' => ∃ H', Inv X pins σ H' s' ∧ k b H') X.xe s
def itM (X : Cx) (A : Around) : List V → List V → Hp → (Bool → Hp → Prop) → Prop
  | [], [], H, k => k true H
  | x :: xs, y :: ys, H, k => CmpM X A x y H fun b H' => if b = true then itM X A xs ys H' k else k false H'
  | [], _ :: _, _, _ => False
  | _ :: _, [], _, _ => False
theorem itM_len {A : Around} : ∀ {xs ys : List V} {H : Hp} {k : Bool → Hp → Prop}, itM X A xs ys H k → (xs = [] ↔ ys = [])
  | [], [], _, _, _ => ⟨fun _ => rfl, fun _ => rfl⟩
  | _ :: _, _ :: _, _, _, _ => ⟨fun z => (by cases z), fun z => (by cases z)⟩
theorem cmp_pure {A : Around} {x y : V} {H : Hp} {n : Nat} {b : Bool} {k : Bool → Hp → Prop} (h : EqT X.K H n x y b) (hu : A.units + 2 * n + 66 < cLine) (q : k b H) : CmpM X A x y H k := fun pins s σ u v I rx ry =>
  eqT_run I n A hu x y b u v h rx ry _ _ ⟨H, I, q⟩
def rEqTM (X : Cx) : R2 := fun x y H Q => ∃ (a c : Addr) (xs ys : List V), x = .ref a ∧ y = .ref c ∧ xs.length = ys.length ∧ SqT X.K H a xs ∧ SqT X.K H c ys ∧ itM X X.A.in1 xs ys H fun b H' => Q (.bl b) H'
def rNeTM (X : Cx) : R2 := fun x y H Q => ∃ (a c : Addr) (xs ys : List V), x = .ref a ∧ y = .ref c ∧ xs.length = ys.length ∧ SqT X.K H a xs ∧ SqT X.K H c ys ∧ itM X X.A.in1 xs ys H fun b H' => Q (.bl (!b)) H'
theorem drop_at {xs : List V} {i : Nat} {x : V} (h : xs[i]? = some x) : xs.drop i = x :: xs.drop (i + 1) := by
  rw [List.drop_eq_getElem_cons (List.getElem?_eq_some_iff.mp h).1, (List.getElem?_eq_some_iff.mp h).2]
theorem tuplesM {A : Around} {pins : List (Addr × Obj)} {s : Shared} {σ : L2.St} {H : Hp} {xs ys : List V} {k : Bool → Hp → Prop} (I : Inv X pins σ H s) {us vs : List Value} (ru : Vals xs us) (rv : Vals ys vs) (len : xs.length = ys.length) (h : itM X A xs ys H k) :
    ∃ W : Nat → Shared → Prop, W 0 s ∧ (∀ i u v t, us[i]? = some u → vs[i]? = some v → W i t → wpAny (model X.prog X.w) A (eqBool u v) (fun b t' => if b = true then W (i + 1) t' else ∃ H', Inv X pins σ H' t' ∧ k false H') X.xe t) ∧ ∀ t, W us.length t → ∃ H', Inv X pins σ H' t ∧ k true H' := by
  refine ⟨fun i t => ∃ H', Inv X pins σ H' t ∧ itM X A (xs.drop i) (ys.drop i) H' k, ⟨H, I, h⟩, fun i u v t gu gv hw => ?_, fun t hw => ?_⟩
  · obtain ⟨H1, I1, hh⟩ := hw
    obtain ⟨x, gx, rx⟩ := vals_back ru gu
    obtain ⟨y, gy, ry⟩ := vals_back rv gv
    rw [drop_at gx, drop_at gy] at hh
    refine wpAny_mono (hh pins t σ u v I1 rx ry) (fun b t' z => ?_) fun _ _ z => z
    obtain ⟨H2, I2, q⟩ := z
    cases b with
    | true => exact ⟨H2, I2, q⟩
    | false => exact ⟨H2, I2, q⟩
  · obtain ⟨H1, I1, hh⟩ := hw
    have l1 := ru.length
    rw [List.drop_of_length_le (by omega), List.drop_of_length_le (by omega)] at hh
    exact ⟨H1, I1, hh⟩
theorem op_eqTM (hu : X.A.units < cLine) : OpR X (compareOp .Eq) (rEqTM X) := by
  intro pins s σ H x y v u Q I rx ry h
  obtain ⟨a, c, xs, ys, rfl, rfl, len, ha, hc, it⟩ := h
  cases rx
  cases ry
  obtain ⟨its, r1, p1, _⟩ := I.tuple ha
  obtain ⟨its2, r2, p2, _⟩ := I.tuple hc
  obtain ⟨W, w0, step, fin⟩ := tuplesM I r1 r2 len it
  have l1 := r1.length
  have l2 := r2.length
  show wpAny (model X.prog X.w) X.A (richCompare .Eq (.ref a) (.ref c)) (EP X pins σ Q) X.xe s
  refine eq_tuplesW hu p1 p2 (by rw [List.size_toArray, List.size_toArray]; omega) W w0 (fun i u v t gu gv hw => ?_) fun t hw => ?_
  · rw [List.getElem?_toArray] at gu gv
    refine wpAny_mono (step i u v t gu gv hw) (fun b t' z => ?_) fun _ _ z => z
    cases b with
    | true => exact z
    | false =>
      obtain ⟨H', I', q⟩ := z
      exact ⟨.bl false, H', I', rfl, q⟩
  · rw [List.size_toArray] at hw
    obtain ⟨H', I', q⟩ := fin t hw
    exact ⟨.bl true, H', I', rfl, q⟩
theorem op_neTM (hu : X.A.units < cLine) : OpR X (compareOp .NotEq) (rNeTM X) := by
  intro pins s σ H x y v u Q I rx ry h
  obtain ⟨a, c, xs, ys, rfl, rfl, len, ha, hc, it⟩ := h
  cases rx
  cases ry
  obtain ⟨its, r1, p1, _⟩ := I.tuple ha
  obtain ⟨its2, r2, p2, _⟩ := I.tuple hc
  obtain ⟨W, w0, step, fin⟩ := tuplesM I r1 r2 len it
  have l1 := r1.length
  have l2 := r2.length
  refine ne_tuplesW hu p1 p2 (by rw [List.size_toArray, List.size_toArray]; omega) W w0 (fun i u v t gu gv hw => ?_) fun t hw => ?_
  · rw [List.getElem?_toArray] at gu gv
    refine wpAny_mono (step i u v t gu gv hw) (fun b t' z => ?_) fun _ _ z => z
    cases b with
    | true => exact z
    | false =>
      obtain ⟨H', I', q⟩ := z
      exact ⟨.bl true, H', I', rfl, q⟩
  · rw [List.size_toArray] at hw
    obtain ⟨H', I', q⟩ := fin t hw
    exact ⟨.bl false, H', I', rfl, q⟩
/-- two dicts, their values compared without a call -/
def rEqDD (K : PySem.W.Frag) : R2 := fun x y H Q => ∃ (a c : Addr) (n : Nat) (b r : Bool), x = .ref a ∧ y = .ref c ∧ n ≤ 20 ∧ Q (.bl b) H ∧
  ((∃ ks ls : List (Key × V), H a = some (.dK ks) ∧ H c = some (.dK ls) ∧ Hits (EqT K H n) ls ks r ∧ b = (ks.length == ls.length && r)) ∨
   ∃ ks ls : List (List Key × V), H a = some (.dT ks) ∧ H c = some (.dT ls) ∧ Hits (EqT K H n) ls ks r ∧ b = (ks.length == ls.length && r))
theorem op_eqDD (hu : X.A.units + 110 < cLine) : OpR X (compareOp .Eq) (rEqDD X.K) := by
  intro pins s σ H x y v u Q I rx ry h
  obtain ⟨a, c, n, b, r, rfl, rfl, hn, q, h⟩ := h
  cases rx
  cases ry
  have ih := eqT_run I n X.A.in1 (by show X.A.units + 1 + 2 * n + 66 < cLine; omega)
  show wpAny (model X.prog X.w) X.A (richCompare .Eq (.ref a) (.ref c)) (EP X pins σ Q) X.xe s
  rcases h with ⟨ks, ls, ha, hc, hits, rfl⟩ | ⟨ks, ls, ha, hc, hits, rfl⟩
  · obtain ⟨_, na, va, ra, da⟩ := dk_of I.hok ha
    obtain ⟨_, nc, vb, rb, db⟩ := dk_of I.hok hc
    refine PySem.W.rcP_dicts na nc da db (by omega) (fun _ => hits_keq ih rb hits ra) _ _ ?_
    rw [← ra.length, ← rb.length]
    exact ⟨.bl _, H, I, rfl, q⟩
  · obtain ⟨_, na, va, ra, da⟩ := dt_of I.hok ha
    obtain ⟨_, nc, vb, rb, db⟩ := dt_of I.hok hc
    exact rcP_dictsH na nc (by omega) ra rb da db ih hits _ _ ⟨.bl _, H, I, rfl, q⟩
end
end My
set_option Elab.async false
set_option linter.all false
set_option maxRecDepth 100000
set_option maxHeartbeats 4000000
/-! == and != by an own __eq__, the other one of any class; within tuples and dicts -/
namespace My
open PySem L2 PySem.Spec PyProof.Rows
section
variable {X : Cx} {n : Nat} {CX : CXT} {C f : Addr} {fd : FuncData} {ps : List Str} {sp : Sp} {E : XK}
/-- the call of __eq__ from any place with room, the other value any -/
theorem any_call {A : Around} {pins : List (Addr × Obj)} {s : Shared} {σ : L2.St} {H : Hp} {a : Addr} {y : V} {v : Value} {Q : VK} (F : FnOk X.prog X.w X.K X.mg X.base CX n f fd ps sp) (hb : Binds X.K fd ps []) (hx : Passes CX X E) (hr : Room n A) (fr : A.frames = X.A.frames)
    (I : Inv X pins σ H s) (ry : RelV y v) (h : sp [.ref a, y] H Q E) : wpAny (model X.prog X.w) A (call (.ref f) [.ref a, v]) (EP X pins σ Q) X.xe s := by
  have e0 : Env0 X.prog X.w X.K X.mg X.base A X.stack s H := by
    have e := I.env0
    exact ⟨by rw [fr]; exact e.frames, e.mod, e.bs, e.bsz, e.funs, e.frf, e.hok, e.bare⟩
  have hl := F.len _ _ _ _ h
  have both : BindsTo s fd ⟨[.ref a, v], []⟩ (ps.zip [.ref a, v]) := by
    have := hb s [.ref a, v] I.kIn (by simpa using hl)
    simpa using this
  refine wpAny_call (codeAny_mono (F.run A X.stack s H _ _ [.ref a, y] _ E hr e0 both (.cons rfl (.cons ry .nil)) h) fun r s' hq => ?_)
  cases r with
  | error e => exact hx pins σ H s e s' I hq
  | ok fl =>
    cases fl with
    | ret w => exact I.after hq
    | next => exact False.elim hq
    | brk => exact False.elim hq
    | cont => exact False.elim hq
/-- an instance of the class at C and a value of the type tb, which does not go first -/
def rAnyEq (K : PySem.W.Frag) (C : Addr) (sp : Sp) (E : XK) : R2 := fun x y H Q => ∃ (a dx : Addr) (fs : List (Str × V)) (tb : Value), x = .ref a ∧ H a = some (.ins C dx fs) ∧ TyX K H y tb ∧ PySem.W.notFirst K C tb = true ∧ sp [.ref a, y] H (fun v H' => ∃ k, v = .bl k ∧ Q (.bl k) H') E
def rAnyNe (K : PySem.W.Frag) (C : Addr) (sp : Sp) (E : XK) : R2 := fun x y H Q => ∃ (a dx : Addr) (fs : List (Str × V)) (tb : Value), x = .ref a ∧ H a = some (.ins C dx fs) ∧ TyX K H y tb ∧ PySem.W.notFirst K C tb = true ∧ sp [.ref a, y] H (fun v H' => ∃ k, v = .bl k ∧ Q (.bl (!k)) H') E
theorem any_rc {A : Around} {pins : List (Addr × Obj)} {s : Shared} {σ : L2.St} {H : Hp} {a dx : Addr} {fs : List (Str × V)} {y : V} {v tb : Value} {R : Bool → Hp → Prop} (F : FnOk X.prog X.w X.K X.mg X.base CX n f fd ps sp) (hs : PySem.W.findIn X.K (.ref C) "__eq__" = some (some (.ref f))) (hf : PySem.W.isFn X.K (.ref f) = true)
    (hb : Binds X.K fd ps []) (hx : Passes CX X E) (hr : Room n A) (fr : A.frames = X.A.frames) (I : Inv X pins σ H s) (ry : RelV y v) (ha : H a = some (.ins C dx fs)) (ty : TyX X.K H y tb) (nf : PySem.W.notFirst X.K C tb = true) (h : sp [.ref a, y] H (fun v H' => ∃ k, v = .bl k ∧ R k H') E) :
    wpAny (model X.prog X.w) A (richCompare .Eq (.ref a) v) (fun u s' => ∃ k H', u = .bool k ∧ Inv X pins σ H' s' ∧ R k H') X.xe s := by
  obtain ⟨mA, J, _⟩ := ins_get I.hok ha
  obtain ⟨od, J, _⟩ := J.look
  obtain ⟨m, hF⟩ := I.fr
  obtain ⟨P, kx, hp, _⟩ := kit_of I ry ty
  refine PySem.W.cmp_K (op := .Eq) (tb := tb) (by have := hr.un; omega) hF I.ok.mod.kin J (kx.ty _ _ I.kIn hp) nf hs hf ?_
  refine wpAny_mono (any_call F hb hx hr fr I ry h) (fun r s' z => ?_) fun _ _ z => z
  obtain ⟨w, H', I', rw_, k, rfl, q⟩ := z
  cases rw_
  exact ⟨k, H', rfl, I', q⟩
theorem op_anyEq (F : FnOk X.prog X.w X.K X.mg X.base CX n f fd ps sp) (hs : PySem.W.findIn X.K (.ref C) "__eq__" = some (some (.ref f))) (hf : PySem.W.isFn X.K (.ref f) = true) (hb : Binds X.K fd ps []) (hx : Passes CX X E) (hr : Room n X.A) :
    OpR X (compareOp .Eq) (rAnyEq X.K C sp E) := by
  intro pins s σ H x y v u Q I rx ry h
  obtain ⟨a, dx, fs, tb, rfl, ha, ty, nf, h⟩ := h
  cases rx
  show wpAny (model X.prog X.w) X.A (richCompare .Eq (.ref a) u) (EP X pins σ Q) X.xe s
  refine wpAny_mono (any_rc (R := fun k H' => Q (.bl k) H') F hs hf hb hx hr rfl I ry ha ty nf h) (fun r s' z => ?_) fun _ _ z => z
  obtain ⟨k, H', rfl, I', q⟩ := z
  exact ⟨.bl k, H', I', rfl, q⟩
/-- two instances within a tuple or a dict -/
theorem cmp_own {A : Around} {H : Hp} {a b dx dy : Addr} {fs gs : List (Str × V)} {tb : Value} {k : Bool → Hp → Prop} (F : FnOk X.prog X.w X.K X.mg X.base CX n f fd ps sp) (hs : PySem.W.findIn X.K (.ref C) "__eq__" = some (some (.ref f))) (hf : PySem.W.isFn X.K (.ref f) = true)
    (hb : Binds X.K fd ps []) (hx : Passes CX X E) (hr : Room n A) (fr : A.frames = X.A.frames) (ne : a ≠ b) (ha : H a = some (.ins C dx fs)) (ty : TyX X.K H (.ref b) tb) (nf : PySem.W.notFirst X.K C tb = true) (h : sp [.ref a, .ref b] H (fun v H' => ∃ r, v = .bl r ∧ k r H') E) : CmpM X A (.ref a) (.ref b) H k := by
  intro pins s σ u v I rx ry
  cases rx
  cases ry
  refine GQ.eqBool_refG ne (wpAny_mono (any_rc (R := k) F hs hf hb hx hr fr I (show RelV (.ref b) (.ref b) from rfl) ha ty nf h) (fun r s' z => ?_) fun _ _ z => z)
  obtain ⟨r, H', rfl, I', q⟩ := z
  exact ⟨r, rfl, H', I', q⟩
/-- two dicts of one row each -/
theorem dk_one {A : Around} {pins : List (Addr × Obj)} {s : Shared} {σ : L2.St} {H : Hp} {p q : Addr} {κ : Key} {v w : V} {k : Bool → Hp → Prop} (ne : p ≠ q) (hu : A.units < cLine) (I : Inv X pins σ H s) (hp : H p = some (.dK [(κ, v)])) (hq : H q = some (.dK [(κ, w)]))
    (h : ∀ o, CmpM X A.in1 v w (upd H p (.frz o (.dK [(κ, v)]))) fun b H' => H' p = some (.frz o (.dK [(κ, v)])) ∧ k b (upd H' p (.dK [(κ, v)]))) :
    wpAny (model X.prog X.w) A (richCompare .Eq (.ref p) (.ref q)) (fun u s' => ∃ b H', u = .bool b ∧ Inv X pins σ H' s' ∧ k b H') X.xe s := by
  obtain ⟨o, I1⟩ := I.lock hp trivial
  have hp1 : upd H p (.frz o (.dK [(κ, v)])) p = some (.frz o (.dK [(κ, v)])) := upd_same
  have hq1 : upd H p (.frz o (.dK [(κ, v)])) q = some (.dK [(κ, w)]) := by
    rw [upd_ne (Ne.symm ne)]
    exact hq
  have hh := h o
  have nofr := I.nofrz hp trivial
  generalize upd H p (.frz o (.dK [(κ, v)])) = H1 at *
  obtain ⟨ga, ok1⟩ : ObjOk X.prog X.w H1 s.heap p (.frz o (.dK [(κ, v)])) := I1.hok p _ hp1
  obtain ⟨_, na, va, ra, oa, es, ep, goa, xa, hda, hka, hpa, _⟩ := ok1
  obtain ⟨_, nb, vb, rb, ob, es', ep', gob, xb, hdb, hkb, hpb, _⟩ := dk_of I1.hok hq1
  rw [ga] at goa
  cases goa
  have one : ∀ {x : V} {vs : List (Key × Value)} {rows : Array DictEntry}, KV [(κ, x)] vs → Pairs (mixKind X.prog X.w) rows.toList vs → ∃ e0, rows = #[e0] ∧ (mixKind X.prog X.w).is κ e0.key = true ∧ RelV x e0.val := fun {x vs rows} r pr => by
    obtain ⟨l⟩ := rows
    cases r with
    | @cons _ q1 _ qs h1 t1 =>
      cases t1
      obtain ⟨k1, v1⟩ := q1
      obtain ⟨rfl, r1⟩ := h1
      have pr : Pairs (mixKind X.prog X.w) l [(κ, v1)] := pr
      cases pr with
      | @cons e _ es _ i1 i2 i3 =>
        cases i3
        exact ⟨e, rfl, i1, i2 ▸ r1⟩
  obtain ⟨e0, rfl, i1, r1⟩ := one ra hpa
  obtain ⟨f0, rfl, j1, r2⟩ := one rb hpb
  have ta : s.TypeIs (.ref p) "dict" := ⟨o, ga, xa.1⟩
  have tb : s.TypeIs (.ref q) "dict" := ⟨ob, gob, xb.1⟩
  refine wpAny_richCompare_same_room (op := .Eq) ta tb PySem.F.slot_dict_eq (wpAny_call_entry PySem.F.slot_dict_eq ta PySem.F.entry_dict_eq ?_ (PySem.F.args_dict_eq_2 _ _)) hu
  show wpAny _ _ (Builtin.Dict.dictSlotArgs "__eq__" ⟨[.ref p, .ref q], []⟩ >>= _) _ _ s
  refine wpAny_bind ?_
  unfold Builtin.Dict.dictSlotArgs
  refine wpAny_bind (wpAny_notOrdered_dict ta (show wpAny _ _ (pure (Value.ref p, Value.ref q)) _ _ s from wpAny_pure (wpAny_bind (wpAny_isInstance (T := "dict") tb PySem.F.sub_dict_dict ?_))))
  simp only [Bool.not_true, Bool.false_eq_true, if_false]
  refine wpAny_bind (wpAny_pure (wpAny_bind (wpAny_pure (wpAny_bind ?_))))
  have back : ∀ {t : Shared} {b : Bool}, (∃ H', Inv X pins σ H' t ∧ H' p = some (.frz o (.dK [(κ, v)])) ∧ k b (upd H' p (.dK [(κ, v)]))) → ∃ b' H', (Value.bool (b == true)) = .bool b' ∧ Inv X pins σ H' t ∧ k b' H' := fun {t b} z => by
    obtain ⟨H', I', e', q'⟩ := z
    refine ⟨b, _, by cases b <;> rfl, I'.unlock e' nofr, q'⟩
  refine same_rows (es := #[e0]) (es' := #[f0]) na nb ⟨o, ga, hda⟩ ⟨ob, gob, hdb⟩ (fun i t => (i = 0 ∧ t = s) ∨ (i = 1 ∧ ∃ H', Inv X pins σ H' t ∧ H' p = some (.frz o (.dK [(κ, v)])) ∧ k true (upd H' p (.dK [(κ, v)])))) (fun _ => .inl ⟨rfl, rfl⟩) (fun z => absurd rfl z) (fun i t hw => ?_) (fun i e t ge hw => ?_) fun t hw => ?_
  · rcases hw with ⟨_, rfl⟩ | ⟨_, H', I', e', _⟩
    · exact ⟨o, ga, hda⟩
    · obtain ⟨g', _⟩ : ObjOk X.prog X.w H' t.heap p (.frz o (.dK [(κ, v)])) := I'.hok p _ e'
      exact ⟨o, g', hda⟩
  · rcases hw with ⟨rfl, rfl⟩ | ⟨rfl, _⟩
    · obtain rfl : e0 = e := by simpa using ge
      obtain ⟨k', hk', hsh⟩ := hka e0 (by simp)
      obtain rfl : k' = κ := (mixKind X.prog X.w).inj _ _ _ hk' i1
      unfold turnOf
      refine wpAny_holding ?_
      rw [hsh]
      refine wpAny_bind (wpAny_dictFind_of i1 gob hdb hkb ?_)
      rw [show (#[f0].findIdx? fun e => (mixKind X.prog X.w).is k' e.key) = some 0 by simp [j1]]
      refine wpAny_bind (wpAny_dictEntries gob hdb ?_)
      refine wpAny_holding ?_
      refine wpAny_mono (hh pins _ σ _ _ I1 r1 r2) (fun b t' z => ?_) fun _ _ z => z
      cases b with
      | true => exact .inr ⟨rfl, z⟩
      | false => exact wpAny_pure ⟨_, rfl, (fun x => nomatch x), back z⟩
    · simp at ge
  · rcases hw with ⟨z, _⟩ | ⟨_, z⟩
    · simp at z
    · exact wpAny_pure ⟨_, rfl, (fun x => nomatch x), back z⟩
/-- .. as items of a tuple -/
theorem cmp_dk1 {A : Around} {H : Hp} {p q : Addr} {κ : Key} {v w : V} {k : Bool → Hp → Prop} (ne : p ≠ q) (hu : A.units < cLine) (hp : H p = some (.dK [(κ, v)])) (hq : H q = some (.dK [(κ, w)]))
    (h : ∀ o, CmpM X A.in1 v w (upd H p (.frz o (.dK [(κ, v)]))) fun b H' => H' p = some (.frz o (.dK [(κ, v)])) ∧ k b (upd H' p (.dK [(κ, v)]))) : CmpM X A (.ref p) (.ref q) H k := by
  intro pins s σ u v' I rx ry
  cases rx
  cases ry
  refine GQ.eqBool_refG ne (wpAny_mono (dk_one ne hu I hp hq h) (fun r s' z => ?_) fun _ _ z => z)
  obtain ⟨b, H', rfl, I', q'⟩ := z
  exact ⟨b, rfl, H', I', q'⟩
def rEqD1 (X : Cx) : R2 := fun x y H Q => ∃ (p q : Addr) (κ : Key) (v w : V), x = .ref p ∧ y = .ref q ∧ p ≠ q ∧ H p = some (.dK [(κ, v)]) ∧ H q = some (.dK [(κ, w)]) ∧
  ∀ o, CmpM X X.A.in1 v w (upd H p (.frz o (.dK [(κ, v)]))) fun b H' => H' p = some (.frz o (.dK [(κ, v)])) ∧ Q (.bl b) (upd H' p (.dK [(κ, v)]))
theorem op_eqD1 (hu : X.A.units < cLine) : OpR X (compareOp .Eq) (rEqD1 X) := by
  intro pins s σ H x y v u Q I rx ry h
  obtain ⟨p, q, κ, v', w', rfl, rfl, ne, hp, hq, h⟩ := h
  cases rx
  cases ry
  show wpAny (model X.prog X.w) X.A (richCompare .Eq (.ref p) (.ref q)) (EP X pins σ Q) X.xe s
  refine wpAny_mono (dk_one (k := fun b H' => Q (.bl b) H') ne hu I hp hq h) (fun r s' z => ?_) fun _ _ z => z
  obtain ⟨b, H', rfl, I', q'⟩ := z
  exact ⟨.bl b, H', I', rfl, q'⟩
/-- != by the class's own __eq__, any other value -/
theorem op_anyNe (F : FnOk X.prog X.w X.K X.mg X.base CX n f fd ps sp) (hs : PySem.W.findIn X.K (.ref C) "__eq__" = some (some (.ref f))) (hf : PySem.W.isFn X.K (.ref f) = true) (hb : Binds X.K fd ps []) (hx : Passes CX X E) (hr : Room (n + 1) X.A)
    (hn : PySem.W.findIn X.K (.ref C) "__ne__" = some (some (.builtin "object.__ne__"))) (hm : PySem.W.mroIn X.K C (.type "object") = some true) :
    OpR X (compareOp .NotEq) (rAnyNe X.K C sp E) := by
  intro pins s σ H x y v u Q I rx ry h
  obtain ⟨a, dx, fs, tb, rfl, ha, ty, nf, h⟩ := h
  cases rx
  obtain ⟨mA, J, _⟩ := ins_get I.hok ha
  obtain ⟨od, J, _⟩ := J.look
  obtain ⟨P, kx, hp, _⟩ := kit_of I ry ty
  have lk := kx.ty (model X.prog X.w) s.heap I.kIn hp
  have KX := I.kIn
  have un := hr.un
  have inner : wpAny (model X.prog X.w) X.A.in1 (Builtin.«object.__ne__» ⟨[.ref a, u], []⟩) (fun t s' => ∃ k, t = .done (.ret (.bool k)) ∧ EP X pins σ Q (.bool k) s') X.xe s := by
    unfold Builtin.«object.__ne__»
    refine wpAny_bind (m := slotArgs "__ne__" 1 _) (wpAny_pure ?_)
    dsimp only
    refine wpAny_bind (wpAny_cRoomFor (by show X.A.units + 1 < cLine; omega) (wpAny_bind (PySem.W.ifBound_K KX J hs hf (wpAny_mono (any_call F hb hx hr.in1 rfl I ry h) (fun r s' z => ?_) fun _ _ z => z))))
    obtain ⟨w, H', I', rw_, k, rfl, q⟩ := z
    cases rw_
    dsimp only
    refine wpAny_bind (m := truthy (.bool k)) (wpAny_truthy_bool ?_)
    exact wpAny_pure ⟨!k, rfl, .bl (!k), H', I', rfl, q⟩
  have sub : PySem.W.Looks (model X.prog X.w) s.heap (isInstance (.ref a) (.type "object")) true := J.type.andThen (PySem.W.looks_mroIn KX hm)
  have one : wpAny (model X.prog X.w) X.A (tryCompare (.ref a) "__ne__" u) (fun r s' => ∃ k, r = some (.bool k) ∧ EP X pins σ Q (.bool k) s') X.xe s := by
    unfold tryCompare
    refine wpAny_bind (ifBound_slot KX J hn (ne_bind a) (wpAny_call (codeAny_call_builtin PySem.F.cmp_object.ne.plain PySem.F.cmpEntry_ne (PySem.W.check_slot PySem.F.cmpKind_ne PySem.F.cmpSplit_ne sub (PySem.F.cmpArgs_ne _ _) (wpAny_mono inner (fun t s' z => ?_) fun _ _ z => z)))))
    obtain ⟨k, rfl, q⟩ := z
    exact wpAny_pure ⟨k, rfl, q⟩
  show wpAny (model X.prog X.w) X.A (richCompare .NotEq (.ref a) u) (EP X pins σ Q) X.xe s
  unfold richCompare
  simp only [PySem.oneThing_ref]
  refine wpAny_holding (wpAny_bind (wpAny_cRoomFor (by omega) (wpAny_bind (J.type.here (wpAny_bind (lk.here ?_))))))
  have go : wpAny (model X.prog X.w) X.A (tryCompare (.ref a) "__ne__" u) (fun r s' => ∃ k, r = some (.bool k) ∧ EP X pins σ Q (.bool k) s') X.xe s := one
  by_cases same : (Value.ref C != tb) = true
  · rw [if_pos same]
    have e : PySem.W.subIn X.K tb (.ref C) = some false := by
      rcases Bool.or_eq_true_iff.mp nf with z | z
      · rw [beq_iff_eq.mp z] at same
        simp at same
      · exact beq_iff_eq.mp z
    refine wpAny_bind ((PySem.W.looks_subIn KX e).here ?_)
    simp only [Bool.false_eq_true, if_false]
    refine wpAny_bind (wpAny_mono go (fun r s' z => ?_) fun _ _ z => z)
    obtain ⟨k, rfl, q⟩ := z
    exact wpAny_pure q
  · rw [if_neg same]
    refine wpAny_bind (wpAny_pure ?_)
    simp only [Bool.false_eq_true, if_false]
    refine wpAny_bind (wpAny_mono go (fun r s' z => ?_) fun _ _ z => z)
    obtain ⟨k, rfl, q⟩ := z
    exact wpAny_pure q
end
end My
set_option Elab.async false
set_option linter.all false
set_option maxRecDepth 100000
set_option maxHeartbeats 4000000
/-! dict comprehensions whose keys are tuples -/
namespace My
open PySem L2 PySem.Spec PyProof.Rows
section
variable {X : Cx}
theorem dt_dictSet {X : Cx} {pins : List (Addr × Obj)} {σ : L2.St} {H : Hp} {s : Shared} {E : Value → Shared → Prop} {D p : Addr} {kvs : List (List Key × V)} {key : List Key} {v : V} {r : Value} {Q : Unit → Shared → Prop} (hu : X.A.units < cLine) (I : Inv X pins σ H s) (hD : H D = some (.dT kvs)) (hp : H p = some (.tup (key.map L2.kV)))
    (hz : kvs.length < sizeLine) (rv : RelV v r) (h : ∀ s', Inv X pins σ (upd H D (.dT (putK kvs key v))) s' → Q () s') : wpAny (model X.prog X.w) X.A (dictSet D (.ref p) r) Q E s := by
  obtain ⟨z, hd, xs, rel, dd⟩ := dt_of I.hok hD
  have few : xs.length ≤ sizeLine := by rw [← Paired.length rel]; exact z
  have few2 : (putK kvs key v).length ≤ sizeLine := by
    have := length_putK kvs key v
    omega
  refine wpAny_dictSet_heap (hsz := few) hu (key_of I.hok hp) dd fun h' dd' hs => h _ ?_
  obtain ⟨q, es, ep, hq, h2, h3, h4, h5, h6⟩ := dd'
  refine d_write I (by rw [hD]; exact True.intro) hs ⟨q, hq⟩ ⟨few2, hd, _, (rel.put key hp rv).keeps fun c ys ec => ?_, q, es, ep, hq, h2, h3, h4, h6⟩
  rw [upd_ne (ne_of ec hD (fun z => nomatch z))]
  exact ec
/-- {k: v for target in iter if ..}, keys tuples: D the new dict -/
def tDcT (wi : TI) (g : TG) (tt : TT) (tk te : TE) (vs : List Nat) : TE := fun σ H Q => wi σ H fun J H1 => ∀ D, H1 D = none → ∃ W : Nat → Nat → Hp → Prop, (∃ m, W 0 m (upd H1 D (.dT []))) ∧ ∀ i m H, W i m H →
  (J.stop i H ∧ Q (.ref D) H) ∨ (J.go i H ∧ ∃ Nx : Hp → Prop, (∀ H', Nx H' → ∃ m', m' < m ∧ W (i + 1) m' H') ∧ ∀ x H', J.yld i H x H' → g x (wipe σ vs) H' fun σ2 H2 => wipe σ2 vs = wipe σ vs ∧ tt σ2 H2 fun b H3 =>
    if b = true then tk σ2 H3 fun y H4 => te σ2 H4 fun z H5 => ∃ (p : Addr) (key : List Key) (kvs : List (List Key × V)), y = .ref p ∧ H5 p = some (.tup (key.map L2.kV)) ∧ H5 D = some (.dT kvs) ∧ kvs.length < sizeLine ∧ Nx (upd H5 D (.dT (putK kvs key z))) else Nx H3)
theorem pe_dcT {tg iter kx elt : Expr} {ifs : List Expr} {scope : Scope} {own : List (Str × Nat)} {pos : Pos} {wi : TI} {g : TG} {tt : TT} {tk te : TE} (hc : X.calm = true) (hu : X.A.units < cLine) (hN : X.N.Nodup) (hi : PI X tg iter wi) (ok : BlkOk X.N X.env.scope scope own)
    (hg : ∀ (s : Shared) (H : Hp) (C : Addr) (cl : List (Str × Addr)) (fp : List Addr), PG (X.blk s H scope (compEnvC scope cl C X.env) fp) tg g) (ht : ∀ (s : Shared) (H : Hp) (C : Addr) (cl : List (Str × Addr)) (fp : List Addr), PTs (X.blk s H scope (compEnvC scope cl C X.env) fp) ifs tt)
    (hk : ∀ (s : Shared) (H : Hp) (C : Addr) (cl : List (Str × Addr)) (fp : List Addr), PE (X.blk s H scope (compEnvC scope cl C X.env) fp) kx tk)
    (he : ∀ (s : Shared) (H : Hp) (C : Addr) (cl : List (Str × Addr)) (fp : List Addr), PE (X.blk s H scope (compEnvC scope cl C X.env) fp) elt te) (hs : ∀ x, foldedSetIterable iter X.env x = pure x := by intro _; rfl) :
    PE X (.DictComp kx elt [⟨tg, iter, ifs, 0⟩] scope pos) (tDcT wi g tt tk te (own.map (·.2))) := by
  refine ⟨fun pins s σ H Q I want => ?_⟩
  rw [arm_eval_DictComp]
  have caught : ∀ y ∈ scope.names, y.2 = .free → ∃ c, X.env.cells.lookup y.1 = some c := fun y hy e => (ok.free y hy e).elim (fun k => I.ok.has _ (.inl k)) fun k => I.ok.has _ (.inr k)
  refine wpAny_comprehension_free (use := none) rfl hs (closure_ok caught) ok.kind (fun y hy e => by rw [ok.uniq y hy, e])
    (thn (hi.run pins s σ H _ I want) fun xv s1 hx => thn hx fun itv s2 h2 => ?_)
  obtain ⟨it, fp, tn, J, H2, e, I2, T, st2, f2, q⟩ := h2
  subst e
  refine wpAny_newObj_type (newEnv_comp ?_)
  generalize hD : s2.heap.objs.size = D
  have free_ : H2 D = none := I2.hok.fresh (Nat.le_of_eq hD)
  obtain ⟨W, ⟨m0, w0⟩, turn⟩ := q D free_
  generalize hs3 : ({ s2 with heap := s2.heap.push { cls := .type "dict", data := .dict #[] } } : Shared) = s3
  generalize hH3 : upd H2 D (.dT []) = H3
  have at3 : s3.heap = s2.heap.push { cls := .type "dict", data := .dict #[] } := by rw [← hs3]
  have I3 : Inv X pins σ H3 s3 := by
    rw [← hs3, ← hH3]
    refine I2.laid (t' := s2.toks) (fun b o z => Heap.get?_push_of_some _ z) (Nat.le_of_eq hD) ?_
    rw [← hD]
    exact dt_empty s2.heap I2.big
  have low : ∀ b ∈ fp, b < s2.heap.objs.size := fun b hb => by
    obtain ⟨o, z, _⟩ := T.obj _ _ st2 b hb
    exact Heap.lt_size z
  have f3 : ∀ b ∈ fp, FpOk X pins H3 b ∧ b < s3.heap.objs.size := fun b hb => by
    have lt := low b hb
    refine ⟨⟨?_, (f2 b hb).2⟩, by rw [at3, Heap.size_push]; exact Nat.lt_succ_of_lt lt⟩
    rw [← hH3, upd_ne (by rw [← hD]; exact Nat.ne_of_lt lt)]
    exact (f2 b hb).1
  have I4 := block_start I3 ok hN f3
  generalize hcells : cellsFrom (s3.heap.objs.size + 1) scope.names (cloFrom X.env.cells scope.names []) = cells at I4
  have pg := hg s3 H3 s3.heap.objs.size cells fp
  have pt := ht s3 H3 s3.heap.objs.size cells fp
  have pk := hk s3 H3 s3.heap.objs.size cells fp
  have pe := he s3 H3 s3.heap.objs.size cells fp
  have home : (compEnvC scope cells s3.heap.objs.size X.env).locals = s3.heap.objs.size := rfl
  show codeAny _ _ (.compStart (.DictComp kx elt [⟨tg, iter, ifs, 0⟩] scope pos) 0 (.ref it) (.ref D) (compEnvC scope cells s3.heap.objs.size X.env)) (compPost (model X.prog X.w) X.A X.xe none (EP X pins σ Q) (.ref D) s3.heap.objs.size) { s3 with heap := pushCells (s3.heap.push { cls := .type "dict", data := .dict #[] }) scope.names }
  have clear : ∀ b ∈ fp, H3 b = none := fun b hb => (f3 b hb).1.1
  have start : tn 0 (pushCells (s3.heap.push { cls := .type "dict", data := .dict #[] }) scope.names) := T.keep _ _ _ st2 fun b _ o z => pushCells_keeps _ _ _ _ (Heap.get?_push_of_some _ (by rw [at3]; exact Heap.get?_push_of_some _ z))
  generalize hce : compEnvC scope cells s3.heap.objs.size X.env = ce at I4 pg pt pk pe home ⊢
  generalize hs4 : ({ s3 with heap := pushCells (s3.heap.push { cls := .type "dict", data := .dict #[] }) scope.names } : Shared) = s4 at I4 ⊢
  have st4 : tn 0 s4.heap := by
    rw [← hs4]
    exact start
  have footing : ∀ {σ' : L2.St} {H' : Hp} {s' : Shared}, Inv (X.blk s3 H3 scope ce fp) [] σ' H' s' → (∀ b ∈ fp, H' b = none) → ∀ b ∈ fp, FpOk (X.blk s3 H3 scope ce fp) [] H' b := fun {σ' H' s'} I' n b hb =>
    ⟨n b hb, (I'.ok.exf b hb).1, I'.ok.exfs b hb, .inl hb, fun x c z => (I'.ok.exf b hb).2 x c z, fun p hp => absurd (show p ∈ ([] : List (Addr × Obj)) ++ [] from hp) (by simp)⟩
  have loop : codeAny (model X.prog X.w) X.A (.compLoop (.DictComp kx elt [⟨tg, iter, ifs, 0⟩] scope pos) 0 (.ref it) (.ref D) ce) (compPost (model X.prog X.w) X.A X.xe none (EP X pins σ Q) (.ref D) s3.heap.objs.size) s4 := by
    refine compLoop_anyD (fun n s' => ∃ i H', Inv (X.blk s3 H3 scope ce fp) [] (wipe σ (own.map (·.2))) H' s' ∧ tn i s'.heap ∧ (∀ b ∈ fp, H' b = none) ∧ W i n H') ?_ m0 ⟨0, H3, I4, st4, clear, by rw [← hH3]; exact w0⟩
    rintro n s5 ⟨i, H5, I5, st5, n5, w5⟩
    rcases turn i n H5 w5 with ⟨stop, qq⟩ | ⟨go, Nx, hNx, step⟩
    · refine thnF (T.done (X.blk s3 H3 scope ce fp) rfl rfl rfl hc i [] s5 _ H5 (fun _ _ => False) I5 (footing I5 n5) st5 stop) fun r s6 ⟨hr, I6⟩ => ?_
      subst hr
      have I7 : Inv X pins σ H5 s6 := I3.call' (ch := fp) I6.os I6.base I6.hok I6.bare fun b hb => ⟨(f3 b hb).1.2.2.2.1, (f3 b hb).1.2.1, (f3 b hb).1.2.2.2.2.1, (f3 b hb).1.2.2.2.2.2⟩
      have off : H5 s3.heap.objs.size = none := by
        rw [← home]
        exact I6.free
      obtain ⟨m, hn, _⟩ := I6.loc
      have hn : s6.heap.Ns ce.locals m := hn
      rw [home] at hn
      obtain ⟨f0, f1, _, g3, g4, g5⟩ := I3.fpOk (Nat.le_refl _) off
      refine ⟨m, hn, fun h'' only => ?_⟩
      exact ⟨.ref D, H5, I7.turned (t' := s6.toks) (fun b o hb z => (only.2 b hb).trans z) f0 f1 g3 g4 g5, rfl, qq⟩
    · refine thnF (T.item (X.blk s3 H3 scope ce fp) rfl rfl rfl hc i [] s5 _ H5 (fun _ _ => False) I5 (footing I5 n5) st5 go) fun r s6 ⟨u, hr, h6⟩ => ?_
      subst hr
      refine thnF h6 fun _ s7 ⟨x, H7, I7, r7, y7, st7, n7⟩ => ?_
      have I7' := I7.pinned (footing I7 n7) (T.obj _ _ st7)
      refine thnF (pg.run _ s7 _ H7 x u _ I7' r7 (step x H7 y7)) fun _ s8 ⟨σ8, H8, I8, hw8, q8⟩ => ?_
      refine thnF (pt.run _ s8 σ8 H8 _ I8 q8) fun b s9 ⟨H9, I9, q9⟩ => ?_
      have fin : ∀ {s' : Shared} {H' : Hp}, Inv (X.blk s3 H3 scope ce fp) ([] ++ pinsAt fp s7.heap) σ8 H' s' → Nx H' → ∃ m, m < n ∧ ∃ i H', Inv (X.blk s3 H3 scope ce fp) [] (wipe σ (own.map (·.2))) H' s' ∧ tn i s'.heap ∧ (∀ b ∈ fp, H' b = none) ∧ W i m H' := fun {s' H'} I' nx => by
        obtain ⟨m', hm, w'⟩ := hNx H' nx
        have held : ∀ b ∈ fp, ∀ o, s7.heap.get? b = some o → s'.heap.get? b = some o ∧ H' b = none := fun b hb o z =>
          let y := I'.pin (b, o) (List.mem_append_right _ (List.mem_append_right _ (mem_pinsAt hb z)))
          ⟨y.1, y.2.1⟩
        have same_len : (wipe σ (own.map (·.2))).length = σ8.length := by rw [← hw8, wipe_length]
        refine ⟨m', hm, i + 1, H', (I'.unpinned (pins := [])).weak same_len (fun j v z => ?_), T.keep _ _ _ st7 fun b hb o z => (held b hb o z).1, fun b hb => ?_, w'⟩
        · rw [← hw8] at z
          exact (wipe_some z).1
        · obtain ⟨o, z, _⟩ := T.obj _ _ st7 b hb
          exact (held b hb o z).2
      cases b with
      | false =>
        simp only [Bool.false_eq_true, if_false] at q9 ⊢
        exact fin I9 q9
      | true =>
        simp only [if_true] at q9 ⊢
        refine thnF (pk.run _ s9 σ8 H9 _ I9 q9) fun v s10 ⟨y, H10, I10, r10, q10⟩ => ?_
        refine thnF (pe.run _ s10 σ8 H10 _ I10 q10) fun v2 s11 ⟨z, H11, I11, r11, p, key, kvs, ek, kt, hD11, room, nx⟩ => ?_
        subst ek
        cases r10
        exact dt_dictSet (X := X.blk s3 H3 scope ce fp) (Nat.lt_of_le_of_lt (Nat.le_refl _) hu) I11 hD11 kt room r11 fun s12 I12 => fin I12 nx
  exact codeAny_compStart_dict loop (T.self X.A 0 _ _ _ st4 loop)
end
end My
set_option Elab.async false
set_option linter.all false
set_option maxRecDepth 100000
set_option maxHeartbeats 4000000
/-! dict displays whose keys are tuples; a dict of tuples gets a text for a key; bool(x), C() -/
namespace My
open PySem L2 PySem.Spec PyProof.Rows
theorem stored_all {κ : Type} [DecidableEq κ] : ∀ (ps acc : List (κ × Addr × Value)), ((acc ++ ps).map (·.1)).Nodup → storedAllH acc ps = acc ++ ps
  | [], acc, _ => by
    rw [List.append_nil]
    rfl
  | (k, a, v) :: ps, acc, nd => by
    have none_ : atKey acc k = none := by
      refine atKey_none_of_get fun j p hj => ?_
      rw [List.map_append, List.nodup_append] at nd
      exact nd.2.2 k (List.mem_map.mpr ⟨_, List.mem_of_getElem? hj, rfl⟩) k (by simp) rfl
    show storedAllH (storedH acc k a v) ps = _
    rw [storedH_new none_, stored_all ps (acc ++ [(k, a, v)]) (by rw [List.append_assoc]; exact nd), List.append_assoc]
    rfl
def tDispT (trs : List (TE × TE)) : TE := fun σ H Q => ∀ p, H p = none → tPairs trs σ (upd H p (.dT [])) fun ps H2 => H2 p = some (.dT []) ∧ ∃ rows : List (List Key × Addr × V), ps = rows.map (fun r => (V.ref r.2.1, r.2.2)) ∧ (∀ r ∈ rows, H2 r.2.1 = some (.tup (r.1.map L2.kV))) ∧ (rows.map (·.1)).Nodup ∧ rows.length ≤ 15 ∧
  Q (.ref p) (upd H2 p (.dT (rows.map fun r => (r.1, r.2.2))))
theorem rows_carry {P : Program} {w : World} {H : Hp} {h : Heap} (ok : HOk P w H h) : ∀ {rows : List (List Key × Addr × V)} {ws : List (Value × Value)}, VV (rows.map fun r => (V.ref r.2.1, r.2.2)) ws → (∀ r ∈ rows, H r.2.1 = some (.tup (r.1.map L2.kV))) →
    ∃ xs : List (List Key × Addr × Value), CarriesH (tupleKind (mixKind P w)) h ws xs ∧ KT H (rows.map fun r => (r.1, r.2.2)) xs ∧ xs.map (·.1) = rows.map (·.1)
  | [], _, r, _ => by
    rw [List.map_nil] at r
    cases r
    exact ⟨[], True.intro, .nil, rfl⟩
  | (k, a, v) :: rows, _, r, ht => by
    rw [List.map_cons] at r
    cases r with
    | @cons p q ps qs h1 t1 =>
      obtain ⟨u, u2⟩ := q
      obtain ⟨r1, r2⟩ := h1
      cases r1
      obtain ⟨xs, c, kt, ek⟩ := rows_carry ok t1 fun r hr => ht r (List.mem_cons_of_mem _ hr)
      have at_ := ht _ List.mem_cons_self
      exact ⟨(k, a, u2) :: xs, ⟨rfl, rfl, key_of ok at_, c⟩, .cons ⟨rfl, at_, r2⟩ kt, by rw [List.map_cons, ek]; rfl⟩
theorem pe_dispT {X : Cx} {pos : Pos} {keys : List (Option Expr)} {values : List Expr} {trs : List (TE × TE)} (hu : X.A.units < cLine) (h : PPs X pos keys values trs) (hall : keys.all (·.isSome) = true) (hl : keys.length = values.length) (h0 : keys ≠ []) (h15 : keys.length ≤ 15) : PE X (.Dict keys values pos) (tDispT trs) := by
  refine ⟨fun pins s σ H Q I q => ?_⟩
  have hn := I.hok.fresh (Nat.le_refl s.heap.objs.size)
  have I1 := I.laid (a := s.heap.objs.size) (o := .dT []) (h' := s.heap.push { cls := .type "dict", data := .dict #[] }) (t' := s.toks) (fun _ _ q => Heap.get?_push_of_some _ q) (Nat.le_refl _) (dt_empty s.heap I.big)
  have many := pairTrees_length keys values X.env pos hall hl
  have ne : pairTrees keys values X.env pos ≠ [] := fun e => by
    rw [e] at many
    exact h0 (List.length_eq_zero_iff.mp many.symm)
  rw [arm_eval_Dict, zip_pairTrees keys values X.env pos hall hl, dictDisplay_pairs _ ne (by omega)]
  refine wpAny_bind (wpAny_standAt (wpAny_bind (wpAny_subDictH (knd := tupleKind (mixKind X.prog X.w)) hu (by omega) (thn (h.run pins _ σ _ _ I1 (q _ hn)) fun ws s2 ⟨ps, H2, I2, rel, e, rows, ep, at_, nd, l15, q2⟩ => ?_))))
  subst ep
  obtain ⟨xs, c, kt, ek⟩ := rows_carry I2.hok rel at_
  obtain ⟨z, hd, ys, r0, dd⟩ := dt_of I2.hok e
  cases r0
  refine ⟨xs, c, dd, fun h' tk dd' hs => wpAny_pure ⟨.ref s.heap.objs.size, _, ?_, rfl, q2⟩⟩
  rw [stored_all xs [] (by rw [List.nil_append, ek]; exact nd), List.nil_append] at dd'
  obtain ⟨qo, es, ep, hq, h2, h3, h4, h5, h6⟩ := dd'
  have few : (rows.map fun r => (r.1, r.2.2)).length ≤ sizeLine := by
    rw [List.length_map]
    exact Nat.le_of_lt (small1000 (show rows.length ≤ 1000 by omega))
  refine d_write I2 (by rw [e]; exact True.intro) hs ⟨qo, hq⟩ ⟨few, hd, xs, kt.keeps fun d ys ec => ?_, qo, es, ep, hq, h2, h3, h4, h6⟩
  rw [upd_ne (ne_of ec e (fun z => nomatch z))]
  exact ec
section
variable {X : Cx} {n : Nat} {CX : CXT} {C f : Addr} {fd : FuncData} {ps : List Str} {sp : Sp} {E : XK}
/-- bool(x) comes to what asking x comes to -/
theorem meets_boolO (prog : Program) (w : World) (x : Addr) : MeetsIn prog w (Builtin.«bool.__new__» ⟨[.type "bool", .ref x], []⟩) (fun A R s => wpAny (model prog w) A.in1 (truthy (.ref x)) (fun b s' => R (.ok (.ret (.bool b))) s') (fun e s' => R (.error e) s') s) := by
  refine MeetsIn.of_wp fun A R s hs => ?_
  have f1 := F.conv_sub_bool
  obtain ⟨hp, g, d, tk, os⟩ := s
  repeat (any_goals (first | assumption | (with_reducible refine wpAny_mono hs (fun b s' z => ?_) fun _ _ z => z) | wp_step))
  all_goals first | exact ⟨_, rfl, ‹_›⟩ | skip
/-- bool(x), x an instance with its own __bool__ -/
def rOwnBool (C : Addr) (sp : Sp) (E : XK) : List V → Hp → VK → Prop := fun xs H Q => ∃ a dx fs, xs = [.ref a] ∧ H a = some (.ins C dx fs) ∧ sp [.ref a] H (fun v H' => ∃ k, v = .bl k ∧ Q (.bl k) H') E
theorem call_ownBool (F : FnOk X.prog X.w X.K X.mg X.base CX n f fd ps sp) (hs : PySem.W.findIn X.K (.ref C) "__bool__" = some (some (.ref f))) (hf : PySem.W.isFn X.K (.ref f) = true) (hb : Binds X.K fd ps []) (hx : Passes CX X E) (hr : Room (n + 2) X.A) : CallR X (.type "bool") (rOwnBool C sp E) := by
  intro pins s σ H xs us Q I r h
  obtain ⟨a, dx, fs, rfl, ha, h⟩ := h
  rw [Vals.ref1 r]
  obtain ⟨mA, J, _⟩ := ins_get I.hok ha
  obtain ⟨od, J, _⟩ := J.look
  obtain ⟨m, hF⟩ := I.fr
  refine callType_newIn PySem.F.called_bool PySem.F.newNe_bool (PySem.F.typeCall_bool_1 _) (PySem.F.newCall_bool_1 _) (fun obj => PySem.F.args_object_init_2 obj _) PySem.F.entry_bool_new (meets_boolO _ _ a) ?_
  refine PySem.W.truthy_K hF I.ok.mod.kin J hs hf ?_
  have e0 : Env0 X.prog X.w X.K X.mg X.base X.A.in1.in1 X.stack s H := by
    have e := I.env0
    exact ⟨e.frames, e.mod, e.bs, e.bsz, e.funs, e.frf, e.hok, e.bare⟩
  have hl := F.len _ _ _ _ h
  refine wpAny_call (codeAny_mono (F.run X.A.in1.in1 X.stack s H ⟨[.ref a], []⟩ [.ref a] [.ref a] _ E hr.in1.in1 e0 (by
    have := hb s [.ref a] I.kIn (by simpa using hl)
    simpa using this) (.cons rfl .nil) h) fun r s' hq => ?_)
  cases r with
  | error e => exact hx pins σ H s e s' I hq
  | ok fl =>
    cases fl with
    | ret w =>
      obtain ⟨z, H', I', rz, k, rfl, q⟩ := I.after hq
      cases rz
      exact ⟨rfl, .bl k, H', I', rfl, q⟩
    | next => exact False.elim hq
    | brk => exact False.elim hq
    | cont => exact False.elim hq
/-- C(), the class has no __init__ of its own -/
structure Mk0 (K : PySem.W.Frag) (C : Addr) : Prop where
  makes : PySem.W.makesIn K C = true
  init : PySem.W.findIn K (.ref C) "__init__" = some (some (.builtin "object.__init__"))
  obj : PySem.W.mroIn K C (.type "object") = some true
  kp : PySem.W.keepIn K (.ref C) = true
def tMakeN (C : Addr) : TE := fun _ H Q => ∀ x dx, H x = none → H dx = none → dx ≠ x → Q (.ref x) (upd (upd H dx (.own x)) x (.ins C dx []))
theorem pe_makeN {x : Str} {p pos : Pos} (M : Mk0 X.K C) (hg : Gl X x) (hm : X.mg x = some (.ref C)) (hdb : (x == ("__debug__" : Str)) = false := by decide) : PE X (.Call (.Name x p) [] [] pos) (tMakeN C) := by
  refine ⟨fun pins s σ H Q I h => ?_⟩
  refine wpAny_Call_Name_kw (ld_glob I hg hm ?_ hdb)
  refine PySem.W.callWith_K0 I.kIn M.kp ?_
  have hq := h (s.heap.objs.size + 1) s.heap.objs.size (I.hok.fresh (Nat.le_succ _)) (I.hok.fresh (Nat.le_refl _)) (Nat.ne_of_lt (Nat.lt_succ_self _))
  have I2 := Inv.made (C := C) I
  have at_ : upd (upd H s.heap.objs.size (.own (s.heap.objs.size + 1))) (s.heap.objs.size + 1) (.ins C s.heap.objs.size []) (s.heap.objs.size + 1) = some (.ins C s.heap.objs.size []) := upd_same
  obtain ⟨mA, J, _⟩ := ins_get I2.hok at_
  obtain ⟨od, J, _⟩ := J.look
  have sub : PySem.W.Looks (model X.prog X.w) _ (isInstance (.ref (s.heap.objs.size + 1)) (.type "object")) true := J.type.andThen (PySem.W.looks_mroIn I2.kIn M.obj)
  refine wpAny_call (make_map0 I.kIn M.makes M.init (fun self => PySem.W.Looks.of_pure (PySem.W.oi_bind self)) (codeAny_call_builtin PySem.W.oi_plain PySem.W.entry_oi (PySem.W.check_slot PySem.W.oi_kind PySem.W.oi_split sub (PySem.W.oi_args _) ?_)))
  rw [PySem.W.oi_run]
  exact wpAny_pure ⟨rfl, ⟨.ref (s.heap.objs.size + 1), _, I2, rfl, hq⟩⟩
end
end My
set_option Elab.async false
set_option linter.all false
set_option maxRecDepth 100000
set_option maxHeartbeats 4000000
/-! a dict whose keys are tuples gets a text for a key -/
namespace My
open PySem L2 PySem.Spec PyProof.Rows
section
variable {P : Program} {w : World} {κ : Type} [DecidableEq κ] {knd : HeapKind P w κ} {A : Around} {E : Value → Shared → Prop} {s : Shared}
theorem tell_text {z : Str} {t : Tok} {stored : List Value} {Q : Bool → Shared → Prop} (hst : ∀ v ∈ stored, ∃ k b, v = .ref b ∧ knd.is s.heap k b) (q : Q false s) : wpAny (model P w) A (tableMayTell (.str z t) stored) Q E s := by
  unfold tableMayTell
  split
  · exact wpAny_pure q
  · show wpAny _ _ (pure true >>= _) _ _ s
    refine wpAny_bind (wpAny_pure ?_)
    simp only [Bool.not_true, Bool.false_eq_true, if_false]
    refine wpAny_bind ?_
    refine wpAny_forIn_list _ (fun left r s' => s' = s ∧ r = (none, ()) ∧ ∀ v ∈ left, ∃ k b, v = .ref b ∧ knd.is s.heap k b) _ ?_ ?_ _ _ ⟨rfl, rfl, hst⟩
    · rintro x left r s' ⟨rfl, rfl, hr⟩
      obtain ⟨k, b, rfl, hb⟩ := hr x List.mem_cons_self
      refine wpAny_bind (knd.quiet hb ?_)
      simp only [Bool.not_true, Bool.false_eq_true, if_false]
      exact wpAny_pure ⟨rfl, rfl, fun v hv => hr v (List.mem_cons_of_mem _ hv)⟩
    · rintro r s' ⟨rfl, rfl, _⟩
      exact wpAny_pure q
theorem find_text {d : Addr} {o : Obj} {es : Array DictEntry} {ep : Nat} {xs : List (κ × Addr × Value)} {z : Str} {t : Tok} {h : Int} {Q : Option Nat → Shared → Prop} (ho : s.heap.get? d = some o) (hd : o.data = .dict es ep) (he : es.toList = xs.map (entryOfKey knd)) (his : ∀ x ∈ xs, knd.is s.heap x.1 x.2.1) (some_ : xs ≠ [])
    (other : ∀ x ∈ xs, SeqAt.EqAt A s (.ref x.2.1) (.str z t) false) (q : Q none s) : wpAny (model P w) A (dictFind d (.str z t) h) Q E s := by
  have rows : ∀ {i : Nat} {e : DictEntry}, es[i]? = some e → ∃ x ∈ xs, e = entryOfKey knd x := fun {i e} g => by
    rw [entry_at he i] at g
    obtain ⟨x, hx, rfl⟩ := Option.map_eq_some_iff.mp g
    exact ⟨x, List.mem_of_getElem? hx, rfl⟩
  have notAll : ¬ (es.all fun e => isExactStrKey e.key) = true := fun a => by
    rw [← Array.all_toList, he] at a
    cases xs with
    | nil => exact some_ rfl
    | cons x r =>
      rw [List.map_cons, List.all_cons, Bool.and_eq_true] at a
      exact absurd a.1 (by simp [entryOfKey, isExactStrKey])
  unfold dictFind
  refine wpAny_holding (wpAny_bind (wpAny_dictEntries ho hd ?_))
  dsimp only
  rw [if_neg notAll]
  have stored_ : ∀ v ∈ (placesWithHash es.size (fun i => es[i]?.map (·.hash)) h).filterMap (fun i => es[i]?.map (·.key)), ∃ k b, v = .ref b ∧ knd.is s.heap k b := fun v hv => by
    obtain ⟨i, _, hi⟩ := List.mem_filterMap.mp hv
    obtain ⟨e, ge, rfl⟩ := Option.map_eq_some_iff.mp hi
    obtain ⟨x, hx, rfl⟩ := rows ge
    exact ⟨x.1, x.2.1, rfl, his x hx⟩
  have low : ∀ i ∈ placesWithHash es.size (fun i => es[i]?.map (·.hash)) h, i < es.size := fun i hi => by
    unfold placesWithHash at hi
    exact List.mem_range.mp (List.mem_filter.mp hi).1
  generalize placesWithHash es.size (fun i => es[i]?.map (·.hash)) h = places at *
  cases places with
  | nil =>
    have all_ : (((.str z t : Value) :: ([] : List Nat).filterMap fun i => es[i]?.map (·.key)).all carriedByValue) = true := rfl
    rw [if_pos all_]
    unfold dictWalkPlain
    simp only [List.forIn_nil]
    exact wpAny_bind (wpAny_pure (wpAny_pure q))
  | cons i0 left0 =>
    have i0lt := low i0 List.mem_cons_self
    have g0 : es[i0]? = some es[i0] := Array.getElem?_eq_getElem i0lt
    have notV : ¬ (((.str z t : Value) :: (i0 :: left0).filterMap fun i => es[i]?.map (·.key)).all carriedByValue) = true := fun a => by
      obtain ⟨x, hx, e⟩ := rows g0
      rw [List.filterMap_cons, g0, e] at a
      simp [carriedByValue, entryOfKey] at a
    rw [if_neg notV]
    have nostr : ¬ (((i0 :: left0).filterMap fun i => es[i]?.map (·.key)) == [(.str z t : Value)]) = true := fun a => by
      obtain ⟨x, hx, e⟩ := rows g0
      have a' := eq_of_beq a
      rw [List.filterMap_cons, g0, e] at a'
      simp [entryOfKey] at a'
    rw [if_neg nostr]
    refine wpAny_bind (tell_text stored_ ?_)
    rw [if_neg (by simp)]
    refine wpAny_bind ?_
    refine wpAny_forIn_list _ (fun left b s' => s' = s ∧ b = (none, none) ∧ ∀ i ∈ left, i < es.size) _ ?_ ?_ _ _ ⟨rfl, rfl, low⟩
    · rintro i left b s' ⟨rfl, rfl, lw⟩
      have lt := lw i List.mem_cons_self
      have gi : es[i]? = some es[i] := Array.getElem?_eq_getElem lt
      obtain ⟨x, hx, e⟩ := rows gi
      have rest := fun j hj => lw j (List.mem_cons_of_mem _ hj)
      rw [gi]
      dsimp only
      rw [e]
      by_cases hh : ((entryOfKey knd x).hash == h) = true
      · rw [if_pos hh]
        refine wpAny_bind (wpAny_dictEpoch ho hd (wpAny_bind (other x hx P w E _ (wpAny_bind (wpAny_dictEpoch ho hd ?_)))))
        rw [if_neg (by simp)]
        simp only [Bool.false_eq_true, if_false]
        refine wpAny_bind (wpAny_rule ?_)
        rw [if_neg (by simp)]
        exact wpAny_pure ⟨rfl, rfl, rest⟩
      · rw [if_neg hh]
        exact wpAny_pure ⟨rfl, rfl, rest⟩
    · rintro b s' ⟨rfl, rfl, _⟩
      exact wpAny_pure q
end
def keyP : Key → PyData
  | .inl i => .int i
  | .inr s => .str s
theorem dp_keyP {K : PySem.W.Frag} {H : Hp} : ∀ k : Key, Dp K H (L2.kV k) (keyP k)
  | .inl i => .int i
  | .inr s => .str s
theorem dps_keyP {K : PySem.W.Frag} {H : Hp} : ∀ ks : List Key, DpAll K H (ks.map L2.kV) (ks.map keyP)
  | [] => .nil
  | k :: r => .cons (dp_keyP k) (dps_keyP r)
/-- something that is not asked about again -/
def anyO : HO := .ext fun _ => True
def rSetTx : TSet := fun o i v H Q => ∃ (p : Addr) (z : Str) (kvs : List (List Key × V)), o = .ref p ∧ i = .str z ∧ H p = some (.dT kvs) ∧ kvs ≠ [] ∧ kvs.length < sizeLine ∧ SeqAt.shaped (.str z) = true ∧ (∀ kv ∈ kvs, SeqAt.shaped (.tuple (kv.1.map keyP)) = true) ∧ Q (upd H p anyO)
section
variable {X : Cx}
theorem set_text (hu : X.A.units + 70 < cLine) : PSet X rSetTx := by
  intro pins s σ H o i v ov iv u Q I ro ri rv h
  obtain ⟨p, z, kvs, rfl, rfl, hp, some_, few, shz, shk, q⟩ := h
  cases ro
  obtain ⟨t, rfl⟩ := ri
  obtain ⟨lz, np, xs, rel, dd⟩ := dt_of I.hok hp
  have ld := dd
  obtain ⟨ob, es, ep, ho, ex, hd, he, his, nd⟩ := ld
  have ty : s.TypeIs (.ref p) "dict" := ⟨ob, ho, ex.1⟩
  have lx : xs.length = kvs.length := (Paired.length rel).symm
  unfold setItem
  refine wpAny_holding (wpAny_bind (wpAny_sequenceKey ty (by decide) (wpAny_bind (wpAny_callSpecial?_slot (name := Str.ofString "__setitem__") ty PySem.F.slot_dict_setitem (wpAny_call_entry PySem.F.slot_dict_setitem ty PySem.F.entry_dict_setitem ?_ (args_dict_setitem _ _ _))))))
  show wpAny _ _ (Builtin.Dict.notOrdered "__setitem__" ⟨[.ref p, .str z t, u], []⟩ >>= _) _ _ s
  refine wpAny_bind (wpAny_notOrdered_dict ty ?_)
  show wpAny _ _ (dictSet p (.str z t) u >>= _) _ _ s
  refine wpAny_bind ?_
  unfold dictSet
  refine wpAny_holding (wpAny_bind (wpAny_pyHash_str ?_))
  unfold dictSetHashed
  refine wpAny_holding (wpAny_bind (find_text (s := { s with toks := s.toks + 1 }) (knd := tupleKind (mixKind X.prog X.w)) ho hd he his (fun e => ?_) (fun x hx => ?_) ?_))
  · rw [e] at lx
    exact some_ (List.length_eq_zero_iff.mp (by simpa using lx.symm))
  · obtain ⟨j, hj⟩ := List.getElem?_of_mem hx
    obtain ⟨kv, hkv, e1, e2, e3⟩ := paired_get rel hj
    have dkey : Dp X.K H (.ref x.2.1) (.tuple (kv.1.map keyP)) := .tup (SqT.of e2) (dps_keyP _)
    have I' : Inv X pins σ H { s with toks := s.toks + 1 } := I.tok _
    obtain ⟨as, r1⟩ := Dp.reads I' _ _ _ dkey (show RelV (.ref x.2.1) (.ref x.2.1) from rfl)
    obtain ⟨bs, r2⟩ := Dp.reads I' _ _ _ (Dp.str z) (show RelV (.str z) (.str z t) from ⟨t, rfl⟩)
    have s1 := shk kv (List.mem_of_getElem? hkv)
    exact SeqAt.eqAt_reads _ _ X.A.in1 { s with toks := s.toks + 1 } _ _ as bs r1 r2 (SeqAt.canLay_of_shaped s1) (SeqAt.canLay_of_shaped shz) (SeqAt.room_of_shaped s1 (by show X.A.units + 1 + 64 < cLine; omega))
  · have sz := size_of_entries he
    refine wpAny_bind (wpAny_rule ?_)
    refine wpAny_updateDictKeys (hz := by omega) (s := { s with toks := s.toks + 1 }) ho hd ?_
    refine wpAny_pure ⟨.none, rfl, wpAny_pure ⟨_, d_write (ob := anyO) (t' := s.toks + 1) (show Inv X pins σ H { s with toks := s.toks + 1 } from I.tok _) (by rw [hp]; exact True.intro) (Heap.SameBut.update ..) ⟨_, Heap.get?_update_self _ ho (Obj.isFreed_of_dict (Obj.data_mapDictKeys hd _))⟩ ⟨trivial, ⟨_, Heap.get?_update_self _ ho (Obj.isFreed_of_dict (Obj.data_mapDictKeys hd _))⟩, fun _ _ _ _ => trivial⟩, q⟩⟩
end
end My
set_option Elab.async false
set_option linter.all false
set_option maxRecDepth 100000
set_option maxHeartbeats 4000000
/-! sets of tuples of any kind: what set.add does, at the model's level; the kind nestedKind -/
namespace My
open PySem L2 PySem.Spec PyProof.Rows
section
variable {P : Program} {w : World} {κ : Type} [DecidableEq κ]
/-- a kind of tuple keys that a set's table asks about without telling -/
structure Hush (kd : HeapKind P w κ) : Prop where
  cls : ∀ {A : Around} {E : Value → Shared → Prop} {s : Shared} {k : κ} {b : Addr} {Q : Bool → Shared → Prop}, kd.is s.heap k b → Q false s → wpAny (model P w) A (ofAClassStatement 8 (.ref b)) Q E s
  byv : ∀ {A : Around} {E : Value → Shared → Prop} {s : Shared} {k : κ} {b : Addr} {Q : Bool → Shared → Prop}, kd.is s.heap k b → (∀ c, Q c s) → wpAny (model P w) A (hashByValue 8 (.ref b)) Q E s
  stay : kd.Stays
variable {kd : HeapKind P w κ} {A : Around} {E : Value → Shared → Prop} {s : Shared}
theorem unseen (hu : Hush kd) {k : κ} {b : Addr} {Q : Bool → Shared → Prop} (hk : kd.is s.heap k b) {stored : List Value} (hs : ∀ y ∈ stored, ∃ j c, y = Value.ref c ∧ kd.is s.heap j c) (q : Q false s) : wpAny (model P w) A (searchCouldBeSeen (.ref b) stored) Q E s := by
  unfold searchCouldBeSeen
  refine wpAny_bind (wpAny_forIn_list _ (fun left r s' => s' = s ∧ r.1 = none ∧ ∀ y ∈ left, ∃ j c, y = Value.ref c ∧ kd.is s.heap j c) _ ?_ ?_ _ _ ⟨rfl, rfl, hs⟩)
  · rintro y left r s' ⟨rfl, hr, all_⟩
    obtain ⟨j, c, rfl, hc⟩ := all_ y (.head _)
    have more := fun z (hz : z ∈ left) => all_ z (.tail _ hz)
    dsimp only
    split
    · exact wpAny_pure ⟨rfl, rfl, more⟩
    · refine wpAny_bind (kd.quiet hk ?_)
      rw [if_neg (by decide)]
      refine wpAny_bind (kd.quiet hc ?_)
      rw [if_neg (by decide)]
      refine wpAny_bind (hu.cls hk ?_)
      rw [if_neg Bool.false_ne_true]
      refine wpAny_bind (hu.cls hc ?_)
      rw [if_neg Bool.false_ne_true]
      exact wpAny_pure ⟨rfl, rfl, more⟩
  · rintro ⟨r, u⟩ s' ⟨rfl, hr, _⟩
    obtain rfl : r = none := hr
    exact wpAny_pure q
/-! ### the table -/
def entsOf (kd : HeapKind P w κ) (L : List (Addr × κ)) : List (Int × Value) := L.map fun p => (kd.hash p.2, .ref p.1)
structure SetK (kd : HeapKind P w κ) (h : Heap) (a : Addr) (L : List (Addr × κ)) (es : Array (Int × Value)) (ep : Nat) (t : SetTable) : Prop where
  here : ∃ o, h.get? a = some o ∧ o.ExactSet ∧ o.data = .set es ep t
  ents : es.toList = entsOf kd L
  tabl : TabOk t (L.map fun p => kd.hash p.2)
  uniq : (L.map (·.2)).Nodup
  keys : ∀ p ∈ L, kd.is h p.2 p.1
  ledd : w.params.followText "set-order" = true ∨ t.led = true
  wide : L.length * 5 < t.mask * 3
  some_ : L.length < 64
variable {a : Addr} {L : List (Addr × κ)} {es : Array (Int × Value)} {ep : Nat} {t : SetTable}
theorem ents_len (h : es.toList = entsOf kd L) : es.size = L.length := by
  rw [← Array.length_toList, h, entsOf, List.length_map]
theorem SetK.fit (R : SetK kd s.heap a L es ep t) : t.fits es.size = true := by
  have z := R.tabl.sz
  have l := ents_len R.ents
  have := R.wide
  rw [List.length_map] at z
  unfold SetTable.fits SetTable.fill
  rw [R.tabl.dm, Bool.and_eq_true, beq_iff_eq, decide_eq_true_eq]
  exact ⟨by omega, by show t.place.size + 0 ≤ t.mask; omega⟩
theorem SetK.at_ (R : SetK kd s.heap a L es ep t) {i : Nat} {p : Addr × κ} (h : L[i]? = some p) : es[i]? = some (kd.hash p.2, .ref p.1) := by
  rw [← Array.getElem?_toList, R.ents, entsOf, List.getElem?_map, h]
  rfl
/-- the c-th step of the way of the hash h -/
abbrev stepAt (t : SetTable) (h : Int) (c : Nat) : SetTable.Probe := nth t.mask (runAt t.mask (SetTable.bits h % (t.mask + 1)) (SetTable.bits h)) c
theorem step_dummy (t : SetTable) (h : Int) (c : Nat) : (stepAt t h c).dummy = none := by
  have go : ∀ (n : Nat) (p : SetTable.Probe), p.dummy = none → (nth t.mask p n).dummy = none := fun n => by
    induction n with
    | zero => exact fun _ z => z
    | succ n ih =>
      intro p z
      refine ih _ ?_
      unfold adv
      split <;> exact z
  exact go c _ rfl
theorem step_on (t : SetTable) (h : Int) (c q : Nat) : nth t.mask (stepAt t h c) q = stepAt t h (c + q) := (nth_add t.mask c _ q).symm
theorem step_j (t : SetTable) (h : Int) (c q : Nat) : (nth t.mask (stepAt t h c) q).j = way t.mask h (c + q) := congrArg SetTable.Probe.j (step_on t h c q)
/-- what the probe answers from the c-th step on, K the first empty one -/
theorem SetK.probe (R : SetK kd s.heap a L es ep t) {h : Int} {K c : Nat} (lim : K < 10 * SetTable.turns t.mask) (free : way t.mask h K ∉ t.place.toList) (full : ∀ n, n < K → way t.mask h n ∈ t.place.toList) (hc : c ≤ K) :
    (∃ n i p, c ≤ n ∧ n < K ∧ L[i]? = some p ∧ t.place.toList[i]? = some (way t.mask h n) ∧ (∀ (n' i' : Nat) (p' : Addr × κ), c ≤ n' → n' < n → t.place.toList[i']? = some (way t.mask h n') → L[i']? = some p' → kd.hash p'.2 ≠ h) ∧
      t.probe (fun i => (es[i]?.map (·.1)).getD 0) h (stepAt t h c) = some (.candidate (way t.mask h n) i (stepAt t h (n + 1)))) ∨
    ((∀ (n' i' : Nat) (p' : Addr × κ), c ≤ n' → n' < K → t.place.toList[i']? = some (way t.mask h n') → L[i']? = some p' → kd.hash p'.2 ≠ h) ∧ t.probe (fun i => (es[i]?.map (·.1)).getD 0) h (stepAt t h c) = some (.empty (way t.mask h K) none)) := by
  have hashes : ∀ (i : Nat) (p : Addr × κ), L[i]? = some p → (es[i]?.map (·.1)).getD 0 = kd.hash p.2 := fun i p hp => by rw [R.at_ hp]; rfl
  have eK : c + (K - c) = K := by omega
  rcases go_spec t R.tabl.ris R.tabl.dm (fun i => (es[i]?.map (·.1)).getD 0) h (10 * SetTable.turns t.mask) (K - c) (stepAt t h c) (step_dummy t h c) (by omega) (fun q hq => by rw [step_j]; exact full _ (by omega)) (by rw [step_j, eK]; exact free) with ⟨q, i, hq, hi, _, no, e⟩ | ⟨no, e⟩
  · left
    rw [step_j] at hi
    have li : i < L.length := by
      have z := R.tabl.sz
      have l := (List.getElem?_eq_some_iff.mp hi).1
      rw [List.length_map] at z
      rw [Array.length_toList] at l
      omega
    refine ⟨c + q, i, L[i], by omega, by omega, List.getElem?_eq_getElem li, hi, fun n' i' p' l1 l2 at1 at2 eq => no (n' - c) i' (by omega) ?_ ((hashes i' p' at2).trans eq), ?_⟩
    · rw [step_j, show c + (n' - c) = n' by omega]
      exact at1
    · rw [← step_j, show c + q + 1 = c + (q + 1) from rfl, ← step_on]
      exact e
  · right
    refine ⟨fun n' i' p' l1 l2 at1 at2 eq => no (n' - c) i' (by omega) ?_ ((hashes i' p' at2).trans eq), ?_⟩
    · rw [step_j, show c + (n' - c) = n' by omega]
      exact at1
    · have e' := e
      rw [step_j, eK] at e'
      exact e'
theorem SetK.look (R : SetK kd s.heap a L es ep t) (hu : Hush kd) {x : Addr} {k : κ} (hx : kd.is s.heap k x) (rm : kd.room A) {K : Nat} (lim : K < 10 * SetTable.turns t.mask) (free : way t.mask (kd.hash k) K ∉ t.place.toList) (full : ∀ n, n < K → way t.mask (kd.hash k) n ∈ t.place.toList) {Q : SetFound → Shared → Prop}
    (there : k ∈ L.map (·.2) → Q (.there none) s) (not_ : k ∉ L.map (·.2) → Q (.free (way t.mask (kd.hash k) K) false) s) : ∀ (f c : Nat) (from_ : Option SetTable.Probe), from_.getD (t.probeStart (kd.hash k)) = stepAt t (kd.hash k) c → c ≤ K → K < f + c →
      (∀ (i : Nat) (p : Addr × κ), L[i]? = some p → p.2 = k → ∃ n, c ≤ n ∧ n < K ∧ t.place.toList[i]? = some (way t.mask (kd.hash k) n)) → wpAny (model P w) A (setSearchFrom a (.ref x) (kd.hash k) true f from_) Q E s := by
  intro f
  induction f with
  | zero => intro c from_ _ h1 h2 _; omega
  | succ f ih =>
    intro c from_ e0 hc hf ahead
    obtain ⟨o, ho, hex, hd⟩ := id R.here
    rw [setSearchFrom_succ]
    refine wpAny_bind (wpAny_setState_of ho hd R.fit ?_)
    dsimp only
    refine wp_if_neg (by unfold SetTable.gaveWay; rw [mask_odd R.tabl.mok]; decide) ?_
    try refine wpAny_bind (wpAny_pure ?_)
    rw [e0]
    rcases R.probe lim free full hc with ⟨n, i, p, l1, l2, hp, hi, before, e⟩ | ⟨before, e⟩
    · rw [e]
      dsimp only
      have mem := List.mem_of_getElem? hp
      have live := slot_live R.tabl.ris hi
      have one : wpAny (model P w) A (searchRest a (.ref x) (kd.hash k) true f es t (way t.mask (kd.hash k) n) i (stepAt t (kd.hash k) (n + 1))) Q E s := by
        unfold searchRest
        rw [R.at_ hp]
        dsimp only
        refine wpAny_bind (wpAny_holding (kd.eqBool rm (R.keys p mem) hx (wpAny_bind (wpAny_setState_of ho hd R.fit ?_))))
        dsimp only
        by_cases ek : p.2 = k
        · rw [decide_eq_true ek]
          exact wp_if_pos rfl (wpAny_pure (there (List.mem_map.mpr ⟨p, mem, ek⟩)))
        · rw [decide_eq_false ek]
          refine wp_if_neg (by decide) ?_
          try refine wpAny_bind (wpAny_pure ?_)
          rw [sameMem]
          dsimp only
          rw [if_pos rfl, live]
          dsimp only
          rw [R.at_ hp]
          dsimp only
          refine wpAny_bind (wpAny_isSame_ref_self (wpAny_bind (wpAny_pure ?_)))
          rw [if_pos rfl]
          dsimp only
          refine wp_if_neg Bool.false_ne_true ?_
          refine ih (n + 1) (some (stepAt t (kd.hash k) (n + 1))) rfl (by omega) (by omega) fun i' p' hp' ek' => ?_
          obtain ⟨n', m1, m2, m3⟩ := ahead i' p' hp' ek'
          refine ⟨n', ?_, m2, m3⟩
          rcases Nat.lt_trichotomy n' n with z | z | z
          · exact absurd (congrArg kd.hash ek') (before n' i' p' m1 z m3 hp')
          · rw [z] at m3
            have two := slot_live R.tabl.ris m3
            rw [live] at two
            injection two with two
            rw [← two, hp] at hp'
            exact absurd ((congrArg Prod.snd (Option.some.inj hp')).trans ek') ek
          · exact z
      cases hl : t.led with
      | true =>
        refine wp_if_neg (by decide) ?_
        try refine wpAny_bind (wpAny_pure ?_)
        exact one
      | false =>
        refine wp_if_pos (by decide) (wpAny_bind (unseen hu hx (fun y hy => ?_) ?_))
        · obtain ⟨e1, he1, rfl⟩ := List.mem_map.mp hy
          have m1 : e1 ∈ es.toList := by
            have z : e1 ∈ es ∧ e1.1 = kd.hash k := by simpa using he1
            simpa using z.1
          rw [R.ents] at m1
          obtain ⟨p', hp', rfl⟩ := List.mem_map.mp m1
          exact ⟨p'.2, p'.1, rfl, R.keys p' hp'⟩
        · refine wp_if_neg Bool.false_ne_true ?_
          try refine wpAny_bind (wpAny_pure ?_)
          exact one
    · rw [e]
      dsimp only
      refine wpAny_pure (not_ fun m => ?_)
      obtain ⟨p, hp, ek⟩ := List.mem_map.mp m
      obtain ⟨i, hi⟩ := List.getElem?_of_mem hp
      obtain ⟨n, m1, m2, m3⟩ := ahead i p hi ek
      exact before n i p m1 m2 m3 hi (congrArg kd.hash ek)
theorem SetK.search (R : SetK kd s.heap a L es ep t) (hu : Hush kd) {x : Addr} {k : κ} (hx : kd.is s.heap k x) (rm : kd.room A) {Q : SetFound → Shared → Prop} (there : k ∈ L.map (·.2) → Q (.there none) s)
    (not_ : ∀ K, k ∉ L.map (·.2) → way t.mask (kd.hash k) K ∉ t.place.toList → (∀ n, n < K → way t.mask (kd.hash k) n ∈ t.place.toList) → Q (.free (way t.mask (kd.hash k) K) false) s) : wpAny (model P w) A (setSearch a (.ref x) (kd.hash k) true) Q E s := by
  have l := R.wide
  obtain ⟨K, lim, free, full⟩ := R.tabl.first (by rw [List.length_map]; omega) (kd.hash k)
  have small : K < 100000 := by
    have : SetTable.turns t.mask ≤ 142 := by
      unfold SetTable.turns
      rcases R.tabl.mok with e | e | e <;> omega
    omega
  unfold setSearch
  refine R.look hu hx rm lim free full there (fun z => not_ K z free full) 100000 0 none rfl (Nat.zero_le _) (by omega) fun i p hp ek => ?_
  have hh : (L.map fun p => kd.hash p.2)[i]? = some (kd.hash k) := by
    rw [List.getElem?_map, hp, ← ek]
    rfl
  have il : i < t.place.toList.length := by
    have z := R.tabl.sz
    have := (List.getElem?_eq_some_iff.mp hp).1
    rw [List.length_map] at z
    rw [Array.length_toList]
    omega
  obtain ⟨n, hn, e⟩ := R.tabl.before free hh (List.getElem?_eq_getElem il)
  exact ⟨n, Nat.zero_le _, hn, by rw [List.getElem?_eq_getElem il, e]⟩
end
end My
set_option Elab.async false
set_option linter.all false
set_option maxRecDepth 100000
set_option maxHeartbeats 4000000
/-! a tuple put into a set of tuples -/
namespace My
open PySem L2 PySem.Spec PyProof.Rows
section
variable {P : Program} {w : World} {κ : Type} [DecidableEq κ] {kd : HeapKind P w κ} {A : Around} {E : Value → Shared → Prop} {s : Shared}
variable {a : Addr} {L : List (Addr × κ)} {es : Array (Int × Value)} {ep : Nat} {t : SetTable}
theorem pick_all {α : Type} (L : List α) : (List.range L.length).filterMap (fun i => L[i]?) = L := by
  induction L with
  | nil => rfl
  | cons x r ih =>
    rw [List.length_cons, List.range_succ_eq_map, List.filterMap_cons_some (f := fun i => (x :: r)[i]?) (a := 0) (b := x) rfl, List.filterMap_map]
    exact congrArg (x :: ·) ih
/-- rows taken in another order -/
theorem ents_order (he : es.toList = entsOf kd L) {order : Array Nat} (po : order.toList.Perm (List.range L.length)) :
    ∃ L' : List (Addr × κ), (order.filterMap (es[·]?)).toList = entsOf kd L' ∧ L'.Perm L ∧ L'.map (fun p => kd.hash p.2) = order.toList.map fun i => (es.map (·.1)).getD i 0 := by
  have row : ∀ i : Nat, es[i]? = (L[i]?).map fun (p : Addr × κ) => (kd.hash p.2, (.ref p.1 : Value)) := fun i => by
    rw [← Array.getElem?_toList, he, entsOf, List.getElem?_map]
  have f1 : ∀ l : List Nat, l.filterMap (fun i => es[i]?) = entsOf kd (l.filterMap fun i => L[i]?) := fun l => by
    unfold entsOf
    rw [List.map_filterMap]
    exact congrArg (fun g => l.filterMap g) (funext row)
  refine ⟨order.toList.filterMap fun i => L[i]?, by rw [Array.toList_filterMap]; exact f1 _, ?_, ?_⟩
  · have z := po.filterMap fun i => L[i]?
    rw [pick_all] at z
    exact z
  · have low : ∀ i ∈ order.toList, i < L.length := fun i hi => List.mem_range.mp (po.mem_iff.mp hi)
    generalize order.toList = l at low
    induction l with
    | nil => rfl
    | cons i r ih =>
      have li := low i (.head _)
      rw [List.filterMap_cons_some (List.getElem?_eq_getElem li), List.map_cons, List.map_cons, ih fun j hj => low j (.tail _ hj)]
      congr 1
      have z : (es.map (·.1))[i]? = some (kd.hash (L[i]).2) := by
        rw [Array.getElem?_map, row, List.getElem?_eq_getElem li]
        rfl
      rw [Array.getD_eq_getD_getElem?, z]
      rfl
/-- keys are tuples: a change of the set leaves them -/
theorem key_stays (st : kd.Stays) {h h' : Heap} {o : Obj} {k : κ} {b : Addr} (hk : kd.is h k b) (ho : h.get? a = some o) (hd : o.data = .set es ep t) (only : Heap.SameBut a h h') : kd.is h' k b := by
  refine st.stays (fun c u vs n hc hu => (only.2 c fun z => ?_).trans hc) hk
  rw [z, ho] at hc
  rw [← Option.some.inj hc, hd] at hu
  cases hu
/-- what is told of a set that was just stored -/
structure Raw (kd : HeapKind P w κ) (h : Heap) (a : Addr) (L : List (Addr × κ)) (es : Array (Int × Value)) (ep : Nat) (t : SetTable) : Prop where
  here : ∃ o, h.get? a = some o ∧ o.ExactSet ∧ o.data = .set es ep t
  ents : es.toList = entsOf kd L
  tabl : TabOk t (L.map fun p => kd.hash p.2)
  uniq : (L.map (·.2)).Nodup
  keys : ∀ p ∈ L, kd.is h p.2 p.1
  ledd : w.params.followText "set-order" = true ∨ t.led = true
  some_ : L.length < 64
  fits_ : L.length ≤ t.mask
theorem Raw.grow (R : Raw kd s.heap a L es ep t) (st : kd.Stays) {want M : Nat} (hw : SetTable.sizeAbove want - 1 = M) (hM : MaskOk M) (lw : SetTable.sizeAbove want ≤ 128) (wide : L.length * 5 < M * 3) {Q : Unit → Shared → Prop}
    (q : ∀ h' L' es' ep' t', Heap.SameBut a s.heap h' → SetK kd h' a L' es' ep' t' → L'.Perm L → Q () { s with heap := h' }) : wpAny (model P w) A (setRelay a want) Q E s := by
  obtain ⟨o, ho, hex, hd⟩ := id R.here
  have l1 := ents_len R.ents
  have l2 := R.tabl.sz
  have l3 := R.some_
  have l4 := R.fits_
  rw [List.length_map] at l2
  obtain ⟨t', order, e, po, T, em, el, _, _⟩ := relaid_ok t (hs := es.map (·.1)) (wanted := want) hw hM (by rw [Array.size_map, l1]; omega)
  rw [Array.size_map, l1] at po
  obtain ⟨L', r1, r2, r3⟩ := ents_order R.ents po
  rw [← r3] at T
  have l5 : (order.filterMap (es[·]?)).size = es.size := by rw [ents_len r1, r2.length_eq, l1]
  rw [setRelay_eq]
  refine wpAny_bind (wpAny_setState_of ho hd ?_ ?_)
  · unfold SetTable.fits SetTable.fill
    rw [R.tabl.dm, Bool.and_eq_true, beq_iff_eq, decide_eq_true_eq]
    exact ⟨by omega, by show t.place.size + 0 ≤ t.mask; omega⟩
  dsimp only
  refine wp_if_neg (by rw [sizeLine_eq]; omega) ?_
  try refine wpAny_bind (wpAny_pure ?_)
  rw [e]
  dsimp only
  refine wpAny_bind (wp_if_neg (by rw [l5]; simp) ?_)
  try refine wpAny_bind (wpAny_pure ?_)
  refine wpAny_pure ?_
  dsimp only
  have only : Heap.SameBut a s.heap (s.heap.update a (Obj.putSet (order.filterMap (es[·]?)) t')) := Heap.SameBut.update ..
  refine wpAny_storeSet_of ho hd (q _ L' _ (ep + 1) t' only ⟨⟨_, store_at ho hd, ⟨hex.1, hex.2.1, hex.2.2⟩, rfl⟩, r1, T, (r2.map (·.2)).nodup_iff.mpr R.uniq, fun p hp => key_stays st (R.keys p (r2.mem_iff.mp hp)) ho hd only, by rw [el]; exact R.ledd, by rw [r2.length_eq, em]; exact wide, by rw [r2.length_eq]; exact l3⟩ r2) (by rw [l5, l1, sizeLine_eq]; omega)
theorem SetK.add (R : SetK kd s.heap a L es ep t) (hu : Hush kd) {x : Addr} {k : κ} (hx : kd.is s.heap k x) (rm : kd.room A) (few : k ∉ L.map (·.2) → L.length + 1 < 64) {Q : Bool → Shared → Prop}
    (q : ∀ b h' L' es' ep' t', Heap.SameBut a s.heap h' → SetK kd h' a L' es' ep' t' → (k ∈ L.map (·.2) → L' = L) → (k ∉ L.map (·.2) → L'.Perm ((x, k) :: L)) → Q b { s with heap := h' }) : wpAny (model P w) A (setAddHashed a (.ref x) (kd.hash k)) Q E s := by
  obtain ⟨o, ho, hex, hd⟩ := id R.here
  unfold setAddHashed
  refine wpAny_holding ?_
  rw [show (100000 : Nat) = 99999 + 1 from rfl, setAddHashedIn_succ]
  refine wpAny_bind (wpAny_setState_of ho hd R.fit ?_)
  dsimp only
  refine wp_if_neg (by simp [byScan, Value.scannable]) ?_
  try refine wpAny_bind (wpAny_pure ?_)
  refine wpAny_bind (R.search hu hx rm (fun m => ?_) fun K m free full => ?_)
  · exact wpAny_pure (q false s.heap L es ep t (Heap.SameBut.refl a s.heap) R (fun _ => rfl) fun z => absurd m z)
  dsimp only
  refine wpAny_bind (wpAny_setState_of ho hd R.fit ?_)
  dsimp only
  have lim := few m
  have wide := R.wide
  obtain ⟨q1, q2, q3, q4, q5, q6, q7, q8, q9⟩ := R.tabl.put free full
  generalize t.put (way t.mask (kd.hash k) K) = pt at q1 q2 q3 q4 q5 q6 q7 q8 q9 ⊢
  obtain ⟨t1, at1⟩ := pt
  dsimp only at q1 q2 q3 q4 q5 q6 q7 q8 q9 ⊢
  have pm := put_perm L at1 (x, k)
  have row : (SetTable.insertAt es at1 (kd.hash k, .ref x)).toList = entsOf kd (L.take at1 ++ (x, k) :: L.drop at1) := by
    rw [SetTable.toList_insertAt, R.ents]
    unfold entsOf
    rw [List.map_append, List.map_cons, List.map_take, List.map_drop]
  have hashes : (L.take at1 ++ (x, k) :: L.drop at1).map (fun p => kd.hash p.2) = (L.map fun p => kd.hash p.2).take at1 ++ kd.hash k :: (L.map fun p => kd.hash p.2).drop at1 := by rw [List.map_append, List.map_cons, List.map_take, List.map_drop]
  have q3' : TabOk t1 ((L.take at1 ++ (x, k) :: L.drop at1).map fun p => kd.hash p.2) := by
    rw [hashes]
    first | exact q3 | (subst q1; exact q3)
  have ll : (L.take at1 ++ (x, k) :: L.drop at1).length = L.length + 1 := pm.length_eq
  have uniq1 : ((L.take at1 ++ (x, k) :: L.drop at1).map (·.2)).Nodup := (pm.map (·.2)).nodup_iff.mpr (by rw [List.map_cons]; exact List.nodup_cons.mpr ⟨m, R.uniq⟩)
  have le1 : (SetTable.insertAt es at1 (kd.hash k, .ref x)).size = L.length + 1 := (ents_len row).trans ll
  generalize SetTable.insertAt es at1 (kd.hash k, .ref x) = es1 at row le1 ⊢
  generalize L.take at1 ++ (x, k) :: L.drop at1 = L1 at pm row q3' ll uniq1
  -- whether the hash hangs on the value alone does not matter
  have rest : ∀ t2 : SetTable, TabOk t2 (L1.map fun p => kd.hash p.2) → t2.mask = t1.mask → t2.led = t1.led → wpAny (model P w) A (do
      storeSet a es1 t2
      if !false && t2.tooFull then setRelay a (SetTable.grown (es.size + 1))
      return true) Q E s := fun t2 T2 em el => by
    have hm : t1.mask = t.mask := by first | exact q4 | (subst q1; exact q4)
    have hl : t1.led = t.led := by first | exact q5 | (subst q1; exact q5)
    refine wpAny_bind (wpAny_storeSet_of ho hd ?_ (by rw [le1, sizeLine_eq]; omega))
    have only : Heap.SameBut a s.heap (s.heap.update a (Obj.putSet es1 t2)) := Heap.SameBut.update ..
    have ho1 := store_at (es' := es1) (t' := t2) ho hd
    generalize s.heap.update a (Obj.putSet es1 t2) = h1 at only ho1 ⊢
    have keys1 : ∀ p ∈ L1, kd.is h1 p.2 p.1 := fun p hp => by
      rcases List.mem_cons.mp (pm.mem_iff.mp hp) with e | hp
      · rw [e]
        exact key_stays hu.stay hx ho hd only
      · exact key_stays hu.stay (R.keys p hp) ho hd only
    have ledd1 : w.params.followText "set-order" = true ∨ t2.led = true := by
      rw [el, hl]
      exact R.ledd
    have le0 := ents_len R.ents
    cases full2 : t2.tooFull with
    | false =>
      have z := full2
      unfold SetTable.tooFull SetTable.fill at z
      rw [T2.dm, decide_eq_false_iff_not] at z
      have sz := T2.sz
      rw [List.length_map] at sz
      refine wp_if_neg (by decide) ?_
      refine wpAny_pure (q true h1 L1 es1 (ep + 1) t2 only ⟨⟨_, ho1, ⟨hex.1, hex.2.1, hex.2.2⟩, rfl⟩, row, T2, uniq1, keys1, ledd1, ?_, by omega⟩ (fun z => absurd z m) fun _ => pm)
      have z' : ¬ (t2.place.size + 0) * 5 ≥ t2.mask * 3 := z
      omega
    | true =>
      have z := full2
      unfold SetTable.tooFull SetTable.fill at z
      rw [T2.dm, decide_eq_true_eq] at z
      have z' : (t2.place.size + 0) * 5 ≥ t2.mask * 3 := z
      have sz := T2.sz
      rw [List.length_map] at sz
      refine wp_if_pos (by decide) (wpAny_bind ?_)
      have go : ∀ M, SetTable.sizeAbove (SetTable.grown (es.size + 1)) - 1 = M → MaskOk M → SetTable.sizeAbove (SetTable.grown (es.size + 1)) ≤ 128 → L1.length * 5 < M * 3 → wpAny (model P w) A (setRelay a (SetTable.grown (es.size + 1))) (fun _ s' => wpAny (model P w) A (pure true) Q E s') E { s with heap := h1 } := fun M e1 e2 e3 e4 =>
        Raw.grow (s := { s with heap := h1 }) (L := L1) (es := es1) (ep := ep + 1) (t := t2) ⟨⟨_, ho1, ⟨hex.1, hex.2.1, hex.2.2⟩, rfl⟩, row, T2, uniq1, keys1, ledd1, by omega, by rw [em, hm]; rcases R.tabl.mok with e | e | e <;> omega⟩ hu.stay e1 e2 e3 e4 fun h2 L2 es2 ep2 t3 only2 R2 pm2 => wpAny_pure (q true h2 L2 es2 ep2 t3 (only.trans only2) R2 (fun z => absurd z m) fun _ => pm2.trans pm)
      have two : (t.mask = 7 ∧ es.size = 4) ∨ (t.mask = 31 ∧ es.size = 18) := by
        rcases R.tabl.mok with e | e | e
        · exact .inl ⟨e, by omega⟩
        · exact .inr ⟨e, by omega⟩
        · omega
      rcases two with ⟨_, e⟩ | ⟨_, e⟩
      · exact go 31 (by rw [e, size_20]) (.inr (.inl rfl)) (by rw [e, size_20]; decide) (by omega)
      · exact go 127 (by rw [e, size_76]) (.inr (.inr rfl)) (by rw [e, size_76]; decide) (by omega)
  subst q1
  cases hp : t1.plain with
  | true =>
    first
      | refine wpAny_bind (wp_if_pos rfl (hu.byv hx fun c => ?_))
      | refine wp_if_pos rfl (wpAny_bind (hu.byv hx fun c => ?_))
    cases c with
    | true => exact rest t1 q3' rfl rfl
    | false => exact rest { t1 with plain := false } ⟨q3'.ris, q3'.dm, q3'.sz, q3'.mok, q3'.bd, q3'.reach⟩ rfl rfl
  | false =>
    first
      | refine wpAny_bind (wp_if_neg Bool.false_ne_true (wpAny_pure ?_))
      | refine wp_if_neg Bool.false_ne_true (wpAny_bind (wpAny_pure ?_))
    exact rest t1 q3' rfl rfl
end
end My
set_option Elab.async false
set_option linter.all false
set_option maxRecDepth 100000
set_option maxHeartbeats 4000000
/-! tuples of texts, ints and such tuples as members of a set -/
namespace My
open PySem L2 PySem.Spec PyProof.Rows
section
variable {P : Program} {w : World} {A : Around} {E : Value → Shared → Prop} {s : Shared}
theorem nested_mem {h : Heap} : ∀ {ks : List NestedKey} {vs : List Value}, NestedAll h ks vs → ∀ v ∈ vs, ∃ k ∈ ks, NestedIs h k v
  | _, _, .nil, v, m => by cases m
  | _, _, .cons a r, v, m => by
    rcases List.mem_cons.mp m with rfl | m
    · exact ⟨_, .head _, a⟩
    · obtain ⟨k, mk, z⟩ := nested_mem r v m
      exact ⟨k, .tail _ mk, z⟩
theorem depth_mem : ∀ {ks : List NestedKey} {k : NestedKey}, k ∈ ks → k.depth ≤ NestedKey.depthAll ks
  | _, _, .head _ => Nat.le_max_left _ _
  | _, _, .tail _ m => Nat.le_trans (depth_mem m) (Nat.le_max_right _ _)
theorem cls_nested : ∀ (n : Nat) (k : NestedKey) (v : Value) {Q : Bool → Shared → Prop}, NestedIs s.heap k v → k.depth ≤ n → Q false s → wpAny (model P w) A (ofAClassStatement n v) Q E s := by
  intro n
  induction n with
  | zero =>
    intro k v Q x hd q
    cases x with
    | tup h1 h2 h3 h4 => exact absurd hd (by simp [NestedKey.depth])
    | _ => exact wpAny_pure q
  | succ n ih =>
    intro k v Q x hd q
    cases x with
    | @tup b o vs c ks h1 h2 h3 h4 =>
      have ty : s.TypeIs (.ref b) "tuple" := ⟨o, h1, h2⟩
      have hd' : NestedKey.depthAll ks ≤ n := by
        have z : NestedKey.depthAll ks + 1 ≤ n + 1 := hd
        omega
      unfold ofAClassStatement
      refine wpAny_bind (wpAny_typeOf ty ?_)
      dsimp only
      rw [if_pos (show (("tuple" : String) == "tuple") = true by decide)]
      refine wpAny_bind (wpAny_pure ?_)
      rw [if_neg (by decide)]
      refine wpAny_bind (wpAny_seqItems h1 h3 ?_)
      dsimp only
      refine wpAny_bind ?_
      show wpAny _ _ (forIn vs _ _) _ _ s
      rw [← Array.forIn_toList]
      refine wpAny_forIn_list _ (fun left r s' => s' = s ∧ r.1 = none ∧ ∀ u ∈ left, u ∈ vs.toList) _ ?_ ?_ _ _ ⟨rfl, rfl, fun u m => m⟩
      · rintro u left r s' ⟨rfl, hr, sub⟩
        obtain ⟨k', mk, z⟩ := nested_mem h4 u (sub u (.head _))
        refine wpAny_bind (ih k' u z (Nat.le_trans (depth_mem mk) hd') ?_)
        rw [if_neg Bool.false_ne_true]
        exact wpAny_pure ⟨rfl, rfl, fun u m => sub u (.tail _ m)⟩
      · rintro ⟨r, u⟩ s' ⟨rfl, hr, _⟩
        obtain rfl : r = none := hr
        exact wpAny_pure q
    | _ => exact wpAny_pure q
theorem byv_nested : ∀ (n : Nat) (k : NestedKey) (v : Value) {Q : Bool → Shared → Prop}, NestedIs s.heap k v → (∀ c, Q c s) → wpAny (model P w) A (hashByValue n v) Q E s := by
  intro n
  induction n with
  | zero =>
    intro k v Q x q
    cases x with
    | _ => exact wpAny_pure (q _)
  | succ n ih =>
    intro k v Q x q
    cases x with
    | @tup b o vs c ks h1 h2 h3 h4 =>
      have ty : s.TypeIs (.ref b) "tuple" := ⟨o, h1, h2⟩
      unfold hashByValue
      refine wpAny_bind (wpAny_specialOf ty F.slot_tuple_hash.lookup ?_)
      show wpAny _ _ (seqItems? (.ref b) >>= _) _ _ s
      refine wpAny_bind (wpAny_seqItems h1 h3 (wpAny_bind ?_))
      show wpAny _ _ (forIn vs _ _) _ _ s
      rw [← Array.forIn_toList]
      refine wpAny_forIn_list _ (fun left r s' => s' = s ∧ r.1 = none ∧ ∀ u ∈ left, u ∈ vs.toList) _ ?_ ?_ _ _ ⟨rfl, rfl, fun u m => m⟩
      · rintro u left r s' ⟨rfl, hr, sub⟩
        obtain ⟨k', mk, z⟩ := nested_mem h4 u (sub u (.head _))
        refine wpAny_bind (ih k' u z fun c => ?_)
        cases c with
        | true =>
          rw [if_neg (by decide)]
          exact wpAny_pure ⟨rfl, rfl, fun u m => sub u (.tail _ m)⟩
        | false =>
          rw [if_pos (by decide)]
          exact wpAny_pure (wpAny_pure (q _))
      · rintro ⟨r, u⟩ s' ⟨rfl, hr, _⟩
        obtain rfl : r = none := hr
        exact wpAny_pure (q _)
    | _ => exact wpAny_pure (q _)
theorem hush_nested : Hush (nestedKind P w) where
  cls := fun hk q => cls_nested 8 _ _ hk.1 hk.2 q
  byv := fun hk q => byv_nested 8 _ _ hk.1 q
  stay := nestedKind_stays
end
end My
set_option Elab.async false
set_option linter.all false
set_option maxRecDepth 100000
set_option maxHeartbeats 4000000
/-! data as keys; sets of tuples over the layer: set(xs), set.add -/
namespace My
open PySem L2 PySem.Spec PyProof.Rows
/-! ### data that are keys -/
mutual
def keyB : PyData → Bool
  | .int _ => true
  | .str _ => true
  | .tuple ds => keyBs ds
  | .none => false
  | .bool _ => false
  | .list _ => false
  | .dict _ => false
def keyBs : List PyData → Bool
  | [] => true
  | d :: r => keyB d && keyBs r
end
mutual
def keyD : PyData → NestedKey
  | .int i => .num i
  | .str x => .text x
  | .tuple ds => .tup (keyDs ds)
  | .none => .none
  | .bool _ => .none
  | .list _ => .none
  | .dict _ => .none
def keyDs : List PyData → List NestedKey
  | [] => []
  | d :: r => keyD d :: keyDs r
end
mutual
theorem key_back : ∀ d : PyData, keyB d = true → (keyD d).data = d
  | .int _, _ => rfl
  | .str _, _ => rfl
  | .tuple ds, h => congrArg PyData.tuple (keys_back ds h)
  | .none, h => by cases h
  | .bool _, h => by cases h
  | .list _, h => by cases h
  | .dict _, h => by cases h
theorem keys_back : ∀ ds : List PyData, keyBs ds = true → NestedKey.datas (keyDs ds) = ds
  | [], _ => rfl
  | d :: r, h => by
    have h' : (keyB d && keyBs r) = true := h
    rw [Bool.and_eq_true] at h'
    show (keyD d).data :: NestedKey.datas (keyDs r) = d :: r
    rw [key_back d h'.1, keys_back r h'.2]
end
structure KeyOk (d : PyData) : Prop where
  b : keyB d = true
  deep : (keyD d).depth ≤ 8
theorem key_inj {d e : PyData} (hd : KeyOk d) (he : KeyOk e) (h : keyD d = keyD e) : d = e := by rw [← key_back d hd.b, ← key_back e he.b, h]
section
variable {X : Cx} {pins : List (Addr × Obj)} {σ : L2.St} {H : Hp} {s : Shared}
mutual
theorem Inv.nest (I : Inv X pins σ H s) : ∀ (d : PyData) (v : V) (u : Value), keyB d = true → Dp X.K H v d → RelV v u → NestedIs s.heap (keyD d) u
  | .int i, _, _, _, h, r => by
    cases h
    obtain ⟨t, rfl⟩ := r
    exact .int i t
  | .str x, _, _, _, h, r => by
    cases h
    obtain ⟨t, rfl⟩ := r
    exact .text x t
  | .tuple ds, _, _, b, h, r => by
    cases h with
    | tup hs ha =>
      cases r
      obtain ⟨its, rv, ⟨o, ho, hc, n, hd⟩, _⟩ := I.tuple hs
      exact .tup ho hc hd (by simpa using Inv.nests I ds _ its b ha rv)
  | .none, _, _, b, _, _ => by cases b
  | .bool _, _, _, b, _, _ => by cases b
  | .list _, _, _, b, _, _ => by cases b
  | .dict _, _, _, b, _, _ => by cases b
theorem Inv.nests (I : Inv X pins σ H s) : ∀ (ds : List PyData) (vs : List V) (us : List Value), keyBs ds = true → DpAll X.K H vs ds → Vals vs us → NestedAll s.heap (keyDs ds) us
  | [], _, _, _, h, r => by
    cases h
    cases r
    exact .nil
  | d :: ds, _, _, b, h, r => by
    have b' : (keyB d && keyBs ds) = true := b
    rw [Bool.and_eq_true] at b'
    cases h with
    | cons h1 h2 =>
      cases r with
      | cons r1 r2 => exact .cons (Inv.nest I d _ _ b'.1 h1 r1) (Inv.nests I ds _ _ b'.2 h2 r2)
end
theorem Inv.key (I : Inv X pins σ H s) {p : Addr} {d : PyData} (k : KeyOk d) (h : Dp X.K H (.ref p) d) : (nestedKind X.prog X.w).is s.heap (keyD d) p := ⟨Inv.nest I d _ _ k.b h rfl, k.deep⟩
end
/-! ### the set as a thing of the layer -/
def asKeys (L : List (Addr × PyData)) : List (Addr × NestedKey) := L.map fun p => (p.1, keyD p.2)
/-- the set at a without its tuples -/
def SetN0 (P : Program) (w : World) (h : Heap) (a : Addr) (L : List (Addr × PyData)) : Prop :=
  ∃ (es : Array (Int × Value)) (ep : Nat) (t : SetTable), (∃ o, h.get? a = some o ∧ o.ExactSet ∧ o.data = .set es ep t) ∧ es.toList = entsOf (nestedKind P w) (asKeys L) ∧ TabOk t ((asKeys L).map fun p => (nestedKind P w).hash p.2) ∧ ((asKeys L).map (·.2)).Nodup ∧
    (w.params.followText "set-order" = true ∨ t.led = true) ∧ (asKeys L).length * 5 < t.mask * 3 ∧ (asKeys L).length < 64
def SetNO (P : Program) (w : World) (a : Addr) (L : List (Addr × PyData)) : HO := .ext fun h => SetN0 P w h a L
section
variable {P : Program} {w : World} {h : Heap} {a : Addr} {L : List (Addr × PyData)}
theorem SetN0.full (z : SetN0 P w h a L) (keys : ∀ p ∈ L, (nestedKind P w).is h (keyD p.2) p.1) : ∃ es ep t, SetK (nestedKind P w) h a (asKeys L) es ep t := by
  obtain ⟨es, ep, t, h1, h2, h3, h4, h5, h6, h7⟩ := z
  refine ⟨es, ep, t, h1, h2, h3, h4, fun p hp => ?_, h5, h6, h7⟩
  obtain ⟨q, hq, rfl⟩ := List.mem_map.mp hp
  exact keys q hq
theorem SetK.n0 {es : Array (Int × Value)} {ep : Nat} {t : SetTable} (R : SetK (nestedKind P w) h a (asKeys L) es ep t) : SetN0 P w h a L := ⟨es, ep, t, R.here, R.ents, R.tabl, R.uniq, R.ledd, R.wide, R.some_⟩
theorem SetN0.there (z : SetN0 P w h a L) : ∃ o, h.get? a = some o := by
  obtain ⟨_, _, _, ⟨o, ho, _⟩, _⟩ := z
  exact ⟨o, ho⟩
theorem SetN0.at_ {h' : Heap} (z : SetN0 P w h a L) (e : ∀ o, h.get? a = some o → h'.get? a = some o) : SetN0 P w h' a L := by
  obtain ⟨es, ep, t, ⟨o, ho, r⟩, q⟩ := z
  exact ⟨es, ep, t, ⟨o, e o ho, r⟩, q⟩
theorem SetN0.ok {H : Hp} (z : SetN0 P w h a L) : ObjOk P w H h a (SetNO P w a L) := ⟨z, z.there, fun _ _ p k => SetN0.at_ p k⟩
theorem setN0_fresh (e : h.get? a = some (freshSet w)) : SetN0 P w h a [] := by
  refine ⟨#[], 0, _, ⟨_, e, ⟨rfl, rfl, rfl⟩, rfl⟩, rfl, ⟨.nil, rfl, rfl, .inl rfl, fun x hx => (by cases hx), fun i h j hi => (by simp [asKeys] at hi)⟩, .nil, ?_, by show 0 * 5 < 7 * 3; decide, by show 0 < 64; decide⟩
  cases w.params.followText "set-order"
  · exact .inr rfl
  · exact .inl rfl
/-- what is known of the members: all of them are among ks, all that have been put in are there -/
structure GotN (ks : List (Addr × PyData)) (L : List (Addr × PyData)) : Prop where
  sub : ∀ p ∈ L, p ∈ ks
  all_ : ∀ p ∈ ks, p.2 ∈ L.map (·.2)
  uniq : (L.map (·.2)).Nodup
theorem back_list : ∀ (M : List (Addr × NestedKey)) (L : List (Addr × PyData)) (x : Addr) (d : PyData), M.Perm ((x, keyD d) :: asKeys L) → ∃ L' : List (Addr × PyData), M = asKeys L' ∧ L'.Perm ((x, d) :: L) := fun M L x d pm => by
  have e : ((x, keyD d) :: asKeys L) = asKeys ((x, d) :: L) := rfl
  rw [e] at pm
  unfold asKeys at pm
  have go : ∀ (B : List (Addr × PyData)) (M : List (Addr × NestedKey)), (B.map fun p => (p.1, keyD p.2)).Perm M → ∃ L' : List (Addr × PyData), M = L'.map (fun p => (p.1, keyD p.2)) ∧ L'.Perm B := by
    intro B M pm
    generalize hA : (B.map fun p => (p.1, keyD p.2)) = A0 at pm
    induction pm generalizing B with
    | nil => exact ⟨[], rfl, by rw [List.map_eq_nil_iff.mp hA]⟩
    | cons y _ ih =>
      cases B with
      | nil => cases hA
      | cons b B =>
        injection hA with h1 h2
        obtain ⟨L', e1, e2⟩ := ih B h2
        exact ⟨b :: L', by rw [List.map_cons, ← e1]; exact congrArg (· :: _) h1.symm, e2.cons b⟩
    | swap x y l =>
      match B, hA with
      | b :: c :: B, hA =>
        injection hA with h1 hA
        injection hA with h2 h3
        exact ⟨c :: b :: B, by rw [List.map_cons, List.map_cons, h3, ← h1, ← h2], .swap ..⟩
    | trans _ _ ih1 ih2 =>
      obtain ⟨L1, e1, p1⟩ := ih1 B hA
      obtain ⟨L2, e2, p2⟩ := ih2 L1 e1.symm
      exact ⟨L2, e2, p2.trans p1⟩
  obtain ⟨L', e1, e2⟩ := go _ _ pm.symm
  exact ⟨L', e1, e2⟩
theorem keys_of (L : List (Addr × PyData)) : (asKeys L).map (·.2) = (L.map (·.2)).map keyD := by
  unfold asKeys
  rw [List.map_map, List.map_map]
  rfl
theorem mem_keys {L : List (Addr × PyData)} {d : PyData} (hd : KeyOk d) (hL : ∀ p ∈ L, KeyOk p.2) : keyD d ∈ (asKeys L).map (·.2) ↔ d ∈ L.map (·.2) := by
  rw [keys_of]
  refine ⟨fun m => ?_, fun m => List.mem_map.mpr ⟨d, m, rfl⟩⟩
  obtain ⟨e, me, ek⟩ := List.mem_map.mp m
  obtain ⟨p, mp, rfl⟩ := List.mem_map.mp me
  rw [← key_inj (hL p mp) hd ek]
  exact me
end
section
variable {P : Program} {w : World} {A : Around} {E : Value → Shared → Prop} {s : Shared} {a : Addr}
/-- set.add, the key's tuple in the heap -/
theorem setN_put {L : List (Addr × PyData)} {x : Addr} {d : PyData} {Q : Bool → Shared → Prop} (z : SetN0 P w s.heap a L) (keys : ∀ p ∈ L, (nestedKind P w).is s.heap (keyD p.2) p.1 ∧ KeyOk p.2) (hx : (nestedKind P w).is s.heap (keyD d) x) (kd : KeyOk d) (rm : A.units + 8 < cLine) (few : d ∉ L.map (·.2) → L.length + 1 < 64)
    (q : ∀ b h' L', Heap.SameBut a s.heap h' → SetN0 P w h' a L' → (d ∈ L.map (·.2) → L' = L) → (d ∉ L.map (·.2) → L'.Perm ((x, d) :: L)) → Q b { s with heap := h' }) : wpAny (model P w) A (setAddHashed a (.ref x) ((nestedKind P w).hash (keyD d))) Q E s := by
  obtain ⟨es, ep, t, R⟩ := z.full fun p hp => (keys p hp).1
  have mk := mem_keys (L := L) kd fun p hp => (keys p hp).2
  refine R.add hush_nested hx rm (fun m => by have := few fun c => m (mk.mpr c); unfold asKeys; rw [List.length_map]; exact this) fun b h' M es' ep' t' only R' c1 c2 => ?_
  by_cases c : d ∈ L.map (·.2)
  · have e := c1 (mk.mpr c)
    subst e
    exact q b h' L only R'.n0 (fun _ => rfl) fun n => absurd c n
  · obtain ⟨L', rfl, pm⟩ := back_list M L x d (c2 fun m => c (mk.mp m))
    exact q b h' L' only R'.n0 (fun n => absurd n c) fun _ => pm
theorem setN_add {L : List (Addr × PyData)} {x : Addr} {d : PyData} {Q : Value → Shared → Prop} (z : SetN0 P w s.heap a L) (keys : ∀ p ∈ L, (nestedKind P w).is s.heap (keyD p.2) p.1 ∧ KeyOk p.2) (hx : (nestedKind P w).is s.heap (keyD d) x) (kd : KeyOk d) (rm : A.units + 64 < cLine) (few : d ∉ L.map (·.2) → L.length + 1 < 64)
    (q : ∀ h' tk L', Heap.SameBut a s.heap h' → SetN0 P w h' a L' → (d ∈ L.map (·.2) → L' = L) → (d ∉ L.map (·.2) → L'.Perm ((x, d) :: L)) → Q .none { s with heap := h', toks := tk }) : wpAny (model P w) A (call (.builtin "set.add") [.ref a, .ref x]) Q E s := by
  have ty : s.TypeIs (.ref a) "set" := by
    obtain ⟨_, _, _, ⟨o, ho, ex, _⟩, _⟩ := z
    exact ⟨o, ho, ex.1⟩
  refine wpAny_call_entry PySem.F.slot_set_add ty PySem.F.entry_set_add ?_ (PySem.F.args_set_add_2 _ _)
  unfold Builtin.«set.add» Builtin.Frozenset.oneOther
  simp only [List.isEmpty_nil, bind_assoc]
  unfold Builtin.Frozenset.addrOf setAdd
  refine wpAny_bind (wpAny_pure ?_)
  try dsimp only
  refine wpAny_bind (wpAny_pure ?_)
  try dsimp only
  refine wpAny_bind (wpAny_holding (wpAny_bind ((nestedKind P w).pyHash (k := keyD d) ?_ hx ?_)))
  · show A.in1.units + 8 < cLine
    rw [Around.in1_units]
    omega
  refine setN_put (s := { s with toks := s.toks + (nestedKind P w).draws (keyD d) }) z keys hx kd (by rw [Around.in1_units]; omega) few fun b h' L' only z' c1 c2 => ?_
  show wpAny _ _ (ret Value.none) _ _ _
  exact wpAny_pure ⟨_, rfl, q h' _ L' only z' c1 c2⟩
end
end My
set_option Elab.async false
set_option linter.all false
set_option maxRecDepth 100000
set_option maxHeartbeats 4000000
/-! set(x), x a list or a tuple of tuples: as Q3's, with all of the heap kept -/
namespace My
open PySem L2 PySem.Spec PyProof.Rows
section
variable {prog : Program} {w : World} {A : Around} {s : Shared}
/-- set.update's loop, whatever the items: B tells of the first i items what the set has -/
theorem put_all {R : Result → Shared → Prop} {I : Addr} {fp wr : List Addr} {G : Array GenState → Array GenState → Prop} {P : Nat → Value → Prop} {St : Nat → Shared → Prop} {n : Nat}
    (W : WalksS prog w A.in1 I fp wr G n P St) (S : Addr) (out : S ∉ fp) (B : Nat → Heap → Prop) (stays : ∀ i h h', B i h → (∀ b o, b ∉ wr → h.get? b = some o → h'.get? b = some o) → B i h')
    (adds : ∀ i v (s : Shared) (Q : Shared → Prop) (E : Value → Shared → Prop), i < n → P i v → B i s.heap → (∀ h' tk, s.toks ≤ tk → Heap.SameBut S s.heap h' → B (i + 1) h' → Q { s with heap := h', toks := tk }) → wpAny (model prog w) A.in1 (setAdd S v) (fun _ s' => Q s') E s) :
    ∀ (left i : Nat) (s : Shared), i + left = n → St i s → B i s.heap →
      (∀ s', Moved (S :: wr) G s s' → B n s'.heap → R (.ok (.ret .none)) s') →
      codeAny (model prog w) A (.builtin "set.update.loop" ⟨[.ref S, .ref I], []⟩) R s := by
  have moved : ∀ {s s' : Shared} {i : Nat}, Moved wr G s s' → B i s.heap → B i s'.heap := fun m h => stays _ _ _ h fun b o n e => m.heap b o n e
  intro left
  induction left with
  | zero =>
    intro i s e st h k
    obtain rfl : i = n := by omega
    refine codeAny_builtin F.entry_set_update_loop ?_
    rw [Around.under_plainId F.plain_set_update_loop _]
    show wpAny _ A.in1 (do let x ← pyNext (.ref I); _) _ _ s
    exact wpAny_bind (W.done s _ _ st fun s' m => wpAny_pure (k s' (m.mono fun b q => .tail _ q) (moved m h)))
  | succ left ih =>
    intro i s e st h k
    have lt : i < n := by omega
    refine codeAny_builtin F.entry_set_update_loop ?_
    rw [Around.under_plainId F.plain_set_update_loop _]
    show wpAny _ A.in1 (do let x ← pyNext (.ref I); _) _ _ s
    refine wpAny_bind (W.item i s _ _ lt st fun v s1 p st1 m => wpAny_bind (wpAny_holding (adds i v s1 (fun s' => wpAny (model prog w) A.in1 (again (Code.builtin "set.update.loop" ⟨[.ref S, .ref I], []⟩)) _ _ s') _ lt p (moved m h) fun h' tk le only h2 => ?_)))
    refine wpAny_pure ⟨plainId_quiet F.plain_set_update_loop _, ih (i + 1) _ (by omega) (W.frame _ s1 _ _ st1 le fun b q o z => ?_) h2 fun s2 m2 h4 => k s2 ?_ h4⟩
    · rw [only.2 b fun z => out (z ▸ q)]
      exact z
    · refine Moved.trans W.gtrans ((m.mono fun b q => .tail _ q).then_heap le fun b o q z => ?_) m2
      rw [only.2 b fun z => q (z ▸ .head _)]
      exact z
end
section
variable {prog : Program} {w : World} {A : Around} {s : Shared}
theorem setn_of_list {Q : Value → Shared → Prop} {E : Value → Shared → Prop} {l : Addr} {items : Array Value} (calm : A.handled = none) (hl : s.heap.IsList l items) (B : Nat → Heap → Prop) (stays : ∀ i h h', B i h → (∀ b o, b ≠ s.heap.objs.size + 1 → h.get? b = some o → h'.get? b = some o) → B i h')
    (first : ∀ h : Heap, h.get? s.heap.objs.size = some (freshSet w) → (∀ b o, s.heap.get? b = some o → h.get? b = some o) → B 0 h)
    (adds : ∀ (A' : Around), A'.units ≤ A.units + 20 → ∀ i v (t : Shared) (Q : Shared → Prop) (E : Value → Shared → Prop), i < items.size → items[i]? = some v → B i t.heap → (∀ h' tk, t.toks ≤ tk → Heap.SameBut s.heap.objs.size t.heap h' → B (i + 1) h' → Q { t with heap := h', toks := tk }) → wpAny (model prog w) A' (setAdd s.heap.objs.size v) (fun _ s' => Q s') E t)
    (k : ∀ (h' : Heap) (tk : Nat), B items.size h' → (∀ b o, s.heap.get? b = some o → h'.get? b = some o) → Q (.ref s.heap.objs.size) { s with heap := h', toks := tk }) :
    wpAny (model prog w) A (call (.type "set") [.ref l]) Q E s := by
  have born := PySem.F.called_set
  obtain ⟨cls, rest, eqm⟩ := born.mro
  have a1 := born.made
  have a2 := born.sub
  have a3 := born.notType
  have a4 := born.canCreate
  have a5 := PySem.F.typeCall_set_1 (.ref l)
  refine wpAny_call (codeAny_of_tree ?_)
  show wpAny _ _ (callAny (.type "set") _) _ _ _
  refine wpAny_pure ⟨Code.quiet_builtin _ (by decide +kernel), codeAny_builtin PySem.F.entry_type_call ?_⟩
  rw [Around.under_plain (weight_type_call_type "set" [.ref l] []) rfl]
  repeat (any_goals (first | assumption | wp_step))
  refine codeAny_mono (code_set_led1 (.ref l) (E := E) (Q₁ := fun u t => u = .ref s.heap.objs.size ∧ t = { s with heap := s.heap.push (freshSet w) }) ⟨rfl, rfl⟩) fun r t hr => ?_
  rcases r with e | fl
  · exact hr
  cases fl with
  | next => exact hr.elim
  | brk => exact hr.elim
  | cont => exact hr.elim
  | ret u =>
  obtain ⟨rfl, rfl⟩ := hr
  have at_ : (s.heap.push (freshSet w)).get? s.heap.objs.size = some (freshSet w) := Heap.get?_push_size _ rfl
  have a6 : Shared.TypeIs { s with heap := s.heap.push (freshSet w) } (.ref s.heap.objs.size) "set" := ⟨_, at_, rfl⟩
  have a7 := born.init.lookup
  have a8 := born.init.bind (.ref s.heap.objs.size)
  repeat (any_goals (first | assumption | wp_step))
  have ll : l < s.heap.objs.size := by
    obtain ⟨o, ho, _⟩ := id hl
    exact Heap.lt_size ho
  have hl2 : (s.heap.push (freshSet w)).IsList l items := hl.push _
  refine codeAny_mono (codeAny_call_builtin (R := wants (fun u t => u = .none ∧ ∃ h' tk, t = { s with heap := h', toks := tk } ∧ B items.size h' ∧ ∀ b o, s.heap.get? b = some o → h'.get? b = some o) E) born.init.plain PySem.F.entry_set_init (check_set_init_1 a6 ?_)) fun r t hr => ?_
  · obtain ⟨ol, hol, hcl, nl, hdl⟩ := id hl
    obtain ⟨lc, ld_, ldat, lsl⟩ := ol
    dsimp only at hcl hdl
    subst hcl hdl
    have hol2 : (s.heap.push (freshSet w)).get? l = some { cls := .type "list", dict := ld_, data := .seq items nl, slots := lsl } := Heap.get?_push_of_some _ hol
    have b1 := PySem.F.sub_list_set
    have b2 := PySem.F.sub_list_frozenset
    have b3 : (Value.type "list" == Value.type "dict") = false := by decide
    unfold Builtin.«set.__init__» noKeywords Builtin.Frozenset.updateFrom
    generalize hold : pyIter = it
    wp_walk
    subst hold
    refine wpAny_pyIter_list hl2 (wpAny_bind (wpAny_runValue ?_))
    have nI : (s.heap.push (freshSet w)).objs.size = s.heap.objs.size + 1 := Heap.size_push _ _
    have n2 : l ≠ (s.heap.push (freshSet w)).objs.size := by rw [nI]; exact Nat.ne_of_lt (Nat.lt_succ_of_lt ll)
    refine put_all ((Walks.list (by simp [calm]) (s.heap.push (freshSet w)).objs.size l n2 items).toS) s.heap.objs.size ?_ B (fun i h h' z k => stays i h h' z fun b o n e => k b o (fun m => n (by rw [List.mem_singleton.mp m, nI])) e) (fun i v t Q E lt hv h q => adds _ (by simp only [Around.in1_units]; omega) i v t Q E lt hv h q) items.size 0 _ (by omega) ⟨⟨_, Heap.get?_push_size _ rfl, rfl, rfl⟩, hl2.push _⟩ (first _ (Heap.get?_push_of_some _ at_) fun b o e => Heap.get?_push_of_some _ (Heap.get?_push_of_some _ e)) fun t' m z => ?_
    · simp only [List.mem_cons, List.not_mem_nil, or_false, not_or]
      exact ⟨by rw [nI]; exact Nat.ne_of_lt (Nat.lt_succ_self _), Nat.ne_of_gt ll⟩
    · obtain ⟨h', g', d', tk', os'⟩ := t'
      obtain rfl : g' = s.gens := m.gens
      obtain rfl : d' = s.drawn := m.drawn
      obtain rfl : os' = s.os := m.os
      refine wpAny_pure (wpAny_pure ⟨rfl, h', tk', rfl, z, fun c o q => ?_⟩)
      have lc := Heap.lt_size q
      refine m.heap c o (fun q2 => ?_) (Heap.get?_push_of_some _ (Heap.get?_push_of_some _ q))
      simp only [List.mem_cons, List.not_mem_nil, or_false] at q2
      rw [nI] at q2
      rcases q2 with q2 | q2
      · exact absurd lc (by rw [q2]; exact Nat.lt_irrefl _)
      · exact absurd lc (by rw [q2]; exact Nat.not_lt.mpr (Nat.le_succ _))
  · rcases r with e | fl
    · exact hr
    cases fl with
    | next => exact hr.elim
    | brk => exact hr.elim
    | cont => exact hr.elim
    | ret u =>
    obtain ⟨rfl, h', tk, rfl, z, keep⟩ := hr
    repeat (any_goals (first | assumption | wp_step))
    exact k h' tk z keep
theorem setn_of_tuple {Q : Value → Shared → Prop} {E : Value → Shared → Prop} {l : Addr} {items : Array Value} (calm : A.handled = none) (hl : s.heap.IsTuple l items) (B : Nat → Heap → Prop) (stays : ∀ i h h', B i h → (∀ b o, b ≠ s.heap.objs.size + 1 → h.get? b = some o → h'.get? b = some o) → B i h')
    (first : ∀ h : Heap, h.get? s.heap.objs.size = some (freshSet w) → (∀ b o, s.heap.get? b = some o → h.get? b = some o) → B 0 h)
    (adds : ∀ (A' : Around), A'.units ≤ A.units + 20 → ∀ i v (t : Shared) (Q : Shared → Prop) (E : Value → Shared → Prop), i < items.size → items[i]? = some v → B i t.heap → (∀ h' tk, t.toks ≤ tk → Heap.SameBut s.heap.objs.size t.heap h' → B (i + 1) h' → Q { t with heap := h', toks := tk }) → wpAny (model prog w) A' (setAdd s.heap.objs.size v) (fun _ s' => Q s') E t)
    (k : ∀ (h' : Heap) (tk : Nat), B items.size h' → (∀ b o, s.heap.get? b = some o → h'.get? b = some o) → Q (.ref s.heap.objs.size) { s with heap := h', toks := tk }) :
    wpAny (model prog w) A (call (.type "set") [.ref l]) Q E s := by
  have born := PySem.F.called_set
  obtain ⟨cls, rest, eqm⟩ := born.mro
  have a1 := born.made
  have a2 := born.sub
  have a3 := born.notType
  have a4 := born.canCreate
  have a5 := PySem.F.typeCall_set_1 (.ref l)
  refine wpAny_call (codeAny_of_tree ?_)
  show wpAny _ _ (callAny (.type "set") _) _ _ _
  refine wpAny_pure ⟨Code.quiet_builtin _ (by decide +kernel), codeAny_builtin PySem.F.entry_type_call ?_⟩
  rw [Around.under_plain (weight_type_call_type "set" [.ref l] []) rfl]
  repeat (any_goals (first | assumption | wp_step))
  refine codeAny_mono (code_set_led1 (.ref l) (E := E) (Q₁ := fun u t => u = .ref s.heap.objs.size ∧ t = { s with heap := s.heap.push (freshSet w) }) ⟨rfl, rfl⟩) fun r t hr => ?_
  rcases r with e | fl
  · exact hr
  cases fl with
  | next => exact hr.elim
  | brk => exact hr.elim
  | cont => exact hr.elim
  | ret u =>
  obtain ⟨rfl, rfl⟩ := hr
  have at_ : (s.heap.push (freshSet w)).get? s.heap.objs.size = some (freshSet w) := Heap.get?_push_size _ rfl
  have a6 : Shared.TypeIs { s with heap := s.heap.push (freshSet w) } (.ref s.heap.objs.size) "set" := ⟨_, at_, rfl⟩
  have a7 := born.init.lookup
  have a8 := born.init.bind (.ref s.heap.objs.size)
  repeat (any_goals (first | assumption | wp_step))
  have ll : l < s.heap.objs.size := by
    obtain ⟨o, ho, _⟩ := id hl
    exact Heap.lt_size ho
  have hl2 : (s.heap.push (freshSet w)).IsTuple l items := by
    obtain ⟨o, ho, z⟩ := id hl
    exact ⟨o, Heap.get?_push_of_some _ ho, z⟩
  refine codeAny_mono (codeAny_call_builtin (R := wants (fun u t => u = .none ∧ ∃ h' tk, t = { s with heap := h', toks := tk } ∧ B items.size h' ∧ ∀ b o, s.heap.get? b = some o → h'.get? b = some o) E) born.init.plain PySem.F.entry_set_init (check_set_init_1 a6 ?_)) fun r t hr => ?_
  · obtain ⟨ol, hol, hcl, nl, hdl⟩ := id hl
    obtain ⟨lc, ld_, ldat, lsl⟩ := ol
    dsimp only at hcl hdl
    subst hcl hdl
    have hol2 : (s.heap.push (freshSet w)).get? l = some { cls := .type "tuple", dict := ld_, data := .seq items nl, slots := lsl } := Heap.get?_push_of_some _ hol
    have b1 := PySem.F.sub_tuple_set
    have b2 := PySem.F.sub_tuple_frozenset
    have b3 : (Value.type "tuple" == Value.type "dict") = false := by decide
    unfold Builtin.«set.__init__» noKeywords Builtin.Frozenset.updateFrom
    generalize hold : pyIter = it
    wp_walk
    subst hold
    refine wpAny_pyIter_tuple hl2 (wpAny_bind (wpAny_runValue ?_))
    have nI : (s.heap.push (freshSet w)).objs.size = s.heap.objs.size + 1 := Heap.size_push _ _
    have n2 : l ≠ (s.heap.push (freshSet w)).objs.size := by rw [nI]; exact Nat.ne_of_lt (Nat.lt_succ_of_lt ll)
    refine put_all ((Walks.tuple (by simp [calm]) (s.heap.push (freshSet w)).objs.size l n2 items).toS) s.heap.objs.size ?_ B (fun i h h' z k => stays i h h' z fun b o n e => k b o (fun m => n (by rw [List.mem_singleton.mp m, nI])) e) (fun i v t Q E lt hv h q => adds _ (by simp only [Around.in1_units]; omega) i v t Q E lt hv h q) items.size 0 _ (by omega) ⟨⟨_, Heap.get?_push_size _ rfl, rfl, rfl⟩, (by
      obtain ⟨o, ho, z⟩ := id hl2
      exact ⟨o, Heap.get?_push_of_some _ ho, z⟩)⟩ (first _ (Heap.get?_push_of_some _ at_) fun b o e => Heap.get?_push_of_some _ (Heap.get?_push_of_some _ e)) fun t' m z => ?_
    · simp only [List.mem_cons, List.not_mem_nil, or_false, not_or]
      exact ⟨by rw [nI]; exact Nat.ne_of_lt (Nat.lt_succ_self _), Nat.ne_of_gt ll⟩
    · obtain ⟨h', g', d', tk', os'⟩ := t'
      obtain rfl : g' = s.gens := m.gens
      obtain rfl : d' = s.drawn := m.drawn
      obtain rfl : os' = s.os := m.os
      refine wpAny_pure (wpAny_pure ⟨rfl, h', tk', rfl, z, fun c o q => ?_⟩)
      have lc := Heap.lt_size q
      refine m.heap c o (fun q2 => ?_) (Heap.get?_push_of_some _ (Heap.get?_push_of_some _ q))
      simp only [List.mem_cons, List.not_mem_nil, or_false] at q2
      rw [nI] at q2
      rcases q2 with q2 | q2
      · exact absurd lc (by rw [q2]; exact Nat.lt_irrefl _)
      · exact absurd lc (by rw [q2]; exact Nat.not_lt.mpr (Nat.le_succ _))
  · rcases r with e | fl
    · exact hr
    cases fl with
    | next => exact hr.elim
    | brk => exact hr.elim
    | cont => exact hr.elim
    | ret u =>
    obtain ⟨rfl, h', tk, rfl, z, keep⟩ := hr
    repeat (any_goals (first | assumption | wp_step))
    exact k h' tk z keep
end
end My
set_option Elab.async false
set_option linter.all false
set_option maxRecDepth 100000
set_option maxHeartbeats 4000000
/-! set(xs), {elt for target in iter if ..}: tuples -/
namespace My
open PySem L2 PySem.Spec PyProof.Rows
/-- there are fewer than 64 unlike ones -/
def Few (ds : List PyData) : Prop := ∀ l : List PyData, l.Nodup → (∀ d ∈ l, d ∈ ds) → l.length < 64
section
variable {X : Cx}
def Items (K : PySem.W.Frag) (H : Hp) (ks : List (Addr × PyData)) : Prop := ∀ p ∈ ks, Dp K H (.ref p.1) p.2 ∧ KeyOk p.2
/-- one more of the items put in -/
theorem gotN_more {ks L L' : List (Addr × PyData)} {x : Addr} {d : PyData} (g : GotN ks L) (c1 : d ∈ L.map (·.2) → L' = L) (c2 : d ∉ L.map (·.2) → L'.Perm ((x, d) :: L)) : GotN (ks ++ [(x, d)]) L' := by
  by_cases c : d ∈ L.map (·.2)
  · rw [c1 c]
    refine ⟨fun p m => List.mem_append_left _ (g.sub p m), fun p m => ?_, g.uniq⟩
    rcases List.mem_append.mp m with m | m
    · exact g.all_ p m
    · rw [List.mem_singleton.mp m]
      exact c
  · have pm := c2 c
    refine ⟨fun p m => ?_, fun p m => ?_, (pm.map (·.2)).nodup_iff.mpr (List.nodup_cons.mpr ⟨c, g.uniq⟩)⟩
    · rcases List.mem_cons.mp (pm.mem_iff.mp m) with rfl | m
      · exact List.mem_append_right _ (.head _)
      · exact List.mem_append_left _ (g.sub p m)
    · rw [(pm.map (·.2)).mem_iff]
      rcases List.mem_append.mp m with m | m
      · exact .tail _ (g.all_ p m)
      · rw [List.mem_singleton.mp m]
        exact .head _
theorem gotN_few {ks L : List (Addr × PyData)} {d : PyData} (sub : ∀ p ∈ L, p ∈ ks) (uniq : (L.map (·.2)).Nodup) (few : Few (ks.map (·.2))) (m : d ∈ ks.map (·.2)) (n : d ∉ L.map (·.2)) : L.length + 1 < 64 := by
  have z := few (d :: L.map (·.2)) (List.nodup_cons.mpr ⟨n, uniq⟩) fun e me => by
    rcases List.mem_cons.mp me with rfl | me
    · exact m
    · obtain ⟨p, mp, rfl⟩ := List.mem_map.mp me
      exact List.mem_map.mpr ⟨p, sub p mp, rfl⟩
  rw [List.length_cons, List.length_map] at z
  exact z
/-- set(xs), xs a list or a tuple of keys -/
def rSetN (K : PySem.W.Frag) (P : Program) (w : World) : List V → Hp → VK → Prop := fun xs H Q => ∃ (l : Addr) (ks : List (Addr × PyData)), xs = [.ref l] ∧ SqL K H l (ks.map fun p => .ref p.1) ∧ Items K H ks ∧ Few (ks.map (·.2)) ∧
  ∀ (a : Addr) (L : List (Addr × PyData)), H a = none → GotN ks L → L.length < 64 → Q (.ref a) (upd H a (SetNO P w a L))
theorem cr_setN (hc : X.calm = true) (hu : X.A.units + 100 < cLine) : CallR X (.type "set") (rSetN X.K X.prog X.w) := by
  intro pins s σ H xs us Q I r want
  obtain ⟨l, ks, rfl, hq, hk, few, k⟩ := want
  rw [Vals.ref1 r]
  obtain ⟨its, rv, pl, hz⟩ := I.list hq
  have hs : its.toArray.size = ks.length := by rw [List.size_toArray, ← rv.length, List.length_map]
  have none_ : H s.heap.objs.size = none := I.hok.fresh (Nat.le_refl _)
  have is0 : ∀ p ∈ ks, (nestedKind X.prog X.w).is s.heap (keyD p.2) p.1 := fun p m => Inv.key I (hk p m).2 (hk p m).1
  have is1 : ∀ {h : Heap}, (∀ b o, s.heap.get? b = some o → h.get? b = some o) → ∀ p ∈ ks, (nestedKind X.prog X.w).is h (keyD p.2) p.1 := fun kp p m => nestedKind_stays.stays (fun b o _ _ e _ => kp b o e) (is0 p m)
  have low : ∀ b o, s.heap.get? b = some o → b < s.heap.objs.size := fun b o e => Heap.lt_size e
  refine setn_of_list (I.ok.hd hc) pl.isList (fun i h => (∃ L, SetN0 X.prog X.w h s.heap.objs.size L ∧ GotN (ks.take i) L) ∧ ∀ b o, s.heap.get? b = some o → h.get? b = some o) (fun i h h' ⟨⟨L, z, g⟩, kp⟩ m => ⟨⟨L, z.at_ fun o e => m s.heap.objs.size o (Nat.ne_of_lt (Nat.lt_succ_self _)) e, g⟩, fun b o e => m b o (Nat.ne_of_lt (Nat.lt_succ_of_lt (low b o e))) (kp b o e)⟩)
    (fun h at_ kp => ⟨⟨[], setN0_fresh at_, ⟨fun p m => (by cases m), fun p m => (by simp at m), .nil⟩⟩, kp⟩) (fun A' lu i v t Q E lt hv ⟨⟨L, z, g⟩, kp⟩ kk => ?_) fun h' tk ⟨⟨L, z, g⟩, _⟩ keep => ?_
  · rw [hs] at lt
    have hv2 : its[i]? = some v := by simpa using hv
    obtain ⟨p, hp⟩ : ∃ p, ks[i]? = some p := ⟨_, List.getElem?_eq_getElem lt⟩
    obtain ⟨u, hu2, ru⟩ := rv.get (i := i) (x := .ref p.1) (by rw [List.getElem?_map, hp]; rfl)
    rw [hv2] at hu2
    obtain rfl := Option.some.inj hu2
    cases ru
    have mp := List.mem_of_getElem? hp
    have sub : ∀ q ∈ L, q ∈ ks := fun q m => List.mem_of_mem_take (g.sub q m)
    have hx := is1 kp p mp
    unfold setAdd
    refine wpAny_holding (wpAny_bind ((nestedKind X.prog X.w).pyHash (k := keyD p.2) (by show A'.units + 8 < cLine; omega) hx ?_))
    refine setN_put (s := { t with toks := t.toks + (nestedKind X.prog X.w).draws (keyD p.2) }) z (fun q m => ⟨is1 kp q (sub q m), (hk q (sub q m)).2⟩) hx (hk p mp).2 (by omega) (fun n => ?_) fun b h' L' only z' c1 c2 => ?_
    · exact gotN_few sub g.uniq few (List.mem_map.mpr ⟨p, mp, rfl⟩) n
    · refine kk h' _ (Nat.le_add_right _ _) only ⟨⟨L', z', ?_⟩, fun b o e => (only.2 b (Nat.ne_of_lt (low b o e))).trans (kp b o e)⟩
      have e : ks.take (i + 1) = ks.take i ++ [(p.1, p.2)] := by
        rw [List.take_add_one, hp]
        rfl
      rw [e]
      exact gotN_more g c1 c2
  · rw [hs, List.take_length] at g
    refine ⟨.ref s.heap.objs.size, upd H s.heap.objs.size (SetNO X.prog X.w s.heap.objs.size L), I.laid (t' := tk) keep (Nat.le_refl _) z.ok, rfl, k _ L none_ g ?_⟩
    have q := few (L.map (·.2)) g.uniq fun d m => by
      obtain ⟨p, mp, rfl⟩ := List.mem_map.mp m
      exact List.mem_map.mpr ⟨p, g.sub p mp, rfl⟩
    rw [List.length_map] at q
    exact q
/-- found.add(x), x a tuple -/
def rSAddN (K : PySem.W.Frag) (P : Program) (w : World) : V → List V → Hp → VK → Prop := fun x xs H Q => ∃ (a p : Addr) (d : PyData) (L : List (Addr × PyData)), x = .ref a ∧ xs = [.ref p] ∧ Dp K H (.ref p) d ∧ KeyOk d ∧ H a = some (SetNO P w a L) ∧ Items K H L ∧ (d ∉ L.map (·.2) → L.length + 1 < 64) ∧
  ∀ L', (d ∈ L.map (·.2) → L' = L) → (d ∉ L.map (·.2) → L'.Perm ((p, d) :: L)) → Q .non (upd H a (SetNO P w a L'))
theorem mt_saddN (hu : X.A.units + 100 < cLine) : MtR X "set.add" (rSAddN X.K X.prog X.w) := by
  intro pins s σ H x xs v us Q I rx rxs h
  obtain ⟨a, p, d, L, rfl, rfl, dp, kd, ha, itm, few, q⟩ := h
  cases rx
  cases rxs with
  | cons ry rt =>
    cases rt
    cases ry
    have z : SetN0 X.prog X.w s.heap a L := (I.hok a _ ha).1
    refine setN_add z (fun p m => ⟨Inv.key I (itm p m).2 (itm p m).1, (itm p m).2⟩) (Inv.key I kd dp) kd (by omega) few fun h' tk L' only z' c1 c2 => ?_
    exact ⟨.non, upd H a (SetNO X.prog X.w a L'), I.write (e := a) (t' := tk) (by rw [ha]; trivial) (.inl rfl) (fun b u hb hu => (only.2 b hb).trans hu) z'.there z'.ok, rfl, q L' c1 c2⟩
/-- {elt for target in iter if ..}, tuples: D the new set -/
def tScN (K : PySem.W.Frag) (P : Program) (w : World) (wi : TI) (g : TG) (tt : TT) (te : TE) (vs : List Nat) : TE := fun σ H Q => wi σ H fun J H1 => ∀ D, H1 D = none → ∃ W : Nat → Nat → Hp → Prop, (∃ m, W 0 m (upd H1 D (SetNO P w D []))) ∧ ∀ i m H, W i m H →
  (J.stop i H ∧ Q (.ref D) H) ∨ (J.go i H ∧ ∃ Nx : Hp → Prop, (∀ H', Nx H' → ∃ m', m' < m ∧ W (i + 1) m' H') ∧ ∀ x H', J.yld i H x H' → g x (wipe σ vs) H' fun σ2 H2 => wipe σ2 vs = wipe σ vs ∧ tt σ2 H2 fun b H3 =>
    if b = true then te σ2 H3 fun y H4 => ∃ (p : Addr) (d : PyData) (L : List (Addr × PyData)), y = .ref p ∧ Dp K H4 (.ref p) d ∧ KeyOk d ∧ H4 D = some (SetNO P w D L) ∧ Items K H4 L ∧ (d ∉ L.map (·.2) → L.length + 1 < 64) ∧
    ∀ L', (d ∈ L.map (·.2) → L' = L) → (d ∉ L.map (·.2) → L'.Perm ((p, d) :: L)) → Nx (upd H4 D (SetNO P w D L')) else Nx H3)
theorem pe_scN {tg iter elt : Expr} {ifs : List Expr} {scope : Scope} {own : List (Str × Nat)} {pos : Pos} {wi : TI} {g : TG} {tt : TT} {te : TE} (hc : X.calm = true) (hu : X.A.units + 100 < cLine) (hN : X.N.Nodup) (hi : PI X tg iter wi) (ok : BlkOk X.N X.env.scope scope own)
    (hg : ∀ (s : Shared) (H : Hp) (C : Addr) (cl : List (Str × Addr)) (fp : List Addr), PG (X.blk s H scope (compEnvC scope cl C X.env) fp) tg g) (ht : ∀ (s : Shared) (H : Hp) (C : Addr) (cl : List (Str × Addr)) (fp : List Addr), PTs (X.blk s H scope (compEnvC scope cl C X.env) fp) ifs tt)
    (he : ∀ (s : Shared) (H : Hp) (C : Addr) (cl : List (Str × Addr)) (fp : List Addr), PE (X.blk s H scope (compEnvC scope cl C X.env) fp) elt te) (hs : ∀ x, foldedSetIterable iter X.env x = pure x := by intro _; rfl) :
    PE X (.SetComp elt [⟨tg, iter, ifs, 0⟩] scope pos) (tScN X.K X.prog X.w wi g tt te (own.map (·.2))) := by
  refine ⟨fun pins s σ H Q I want => ?_⟩
  rw [arm_eval_SetComp]
  have caught : ∀ y ∈ scope.names, y.2 = .free → ∃ c, X.env.cells.lookup y.1 = some c := fun y hy e => (ok.free y hy e).elim (fun k => I.ok.has _ (.inl k)) fun k => I.ok.has _ (.inr k)
  refine wpAny_comprehension_free (use := none) rfl hs (closure_ok caught) ok.kind (fun y hy e => by rw [ok.uniq y hy, e])
    (thn (hi.run pins s σ H _ I want) fun xv s1 hx => thn hx fun itv s2 h2 => ?_)
  obtain ⟨it, fp, tn, J, H2, e, I2, T, st2, f2, q⟩ := h2
  subst e
  refine wpAny_newSet_raw fun led hled => newEnv_comp ?_
  subst hled
  generalize hD : s2.heap.objs.size = D
  have free_ : H2 D = none := I2.hok.fresh (Nat.le_of_eq hD)
  obtain ⟨W, ⟨m0, w0⟩, turn⟩ := q D free_
  generalize hs3 : ({ s2 with heap := s2.heap.push (freshSet X.w) } : Shared) = s3
  generalize hH3 : upd H2 D (SetNO X.prog X.w D []) = H3
  have at3 : s3.heap = s2.heap.push (freshSet X.w) := by rw [← hs3]
  have I3 : Inv X pins σ H3 s3 := by
    rw [← hs3, ← hH3]
    refine I2.laid (t' := s2.toks) (fun b o z => Heap.get?_push_of_some _ z) (Nat.le_of_eq hD) (SetN0.ok ?_)
    rw [← hD]
    exact setN0_fresh (Heap.get?_push_size _ rfl)
  have low : ∀ b ∈ fp, b < s2.heap.objs.size := fun b hb => by
    obtain ⟨o, z, _⟩ := T.obj _ _ st2 b hb
    exact Heap.lt_size z
  have f3 : ∀ b ∈ fp, FpOk X pins H3 b ∧ b < s3.heap.objs.size := fun b hb => by
    have lt := low b hb
    refine ⟨⟨?_, (f2 b hb).2⟩, by rw [at3, Heap.size_push]; exact Nat.lt_succ_of_lt lt⟩
    rw [← hH3, upd_ne (by rw [← hD]; exact Nat.ne_of_lt lt)]
    exact (f2 b hb).1
  have I4 := block_start I3 ok hN f3
  generalize hcells : cellsFrom (s3.heap.objs.size + 1) scope.names (cloFrom X.env.cells scope.names []) = cells at I4
  have pg := hg s3 H3 s3.heap.objs.size cells fp
  have pt := ht s3 H3 s3.heap.objs.size cells fp
  have pe := he s3 H3 s3.heap.objs.size cells fp
  have home : (compEnvC scope cells s3.heap.objs.size X.env).locals = s3.heap.objs.size := rfl
  show codeAny _ _ (.compStart (.SetComp elt [⟨tg, iter, ifs, 0⟩] scope pos) 0 (.ref it) (.ref D) (compEnvC scope cells s3.heap.objs.size X.env)) (compPost (model X.prog X.w) X.A X.xe none (EP X pins σ Q) (.ref D) s3.heap.objs.size) { s3 with heap := pushCells (s3.heap.push { cls := .type "dict", data := .dict #[] }) scope.names }
  have clear : ∀ b ∈ fp, H3 b = none := fun b hb => (f3 b hb).1.1
  have start : tn 0 (pushCells (s3.heap.push { cls := .type "dict", data := .dict #[] }) scope.names) := T.keep _ _ _ st2 fun b _ o z => pushCells_keeps _ _ _ _ (Heap.get?_push_of_some _ (by rw [at3]; exact Heap.get?_push_of_some _ z))
  generalize hce : compEnvC scope cells s3.heap.objs.size X.env = ce at I4 pg pt pe home ⊢
  generalize hs4 : ({ s3 with heap := pushCells (s3.heap.push { cls := .type "dict", data := .dict #[] }) scope.names } : Shared) = s4 at I4 ⊢
  have st4 : tn 0 s4.heap := by
    rw [← hs4]
    exact start
  have footing : ∀ {σ' : L2.St} {H' : Hp} {s' : Shared}, Inv (X.blk s3 H3 scope ce fp) [] σ' H' s' → (∀ b ∈ fp, H' b = none) → ∀ b ∈ fp, FpOk (X.blk s3 H3 scope ce fp) [] H' b := fun {σ' H' s'} I' n b hb =>
    ⟨n b hb, (I'.ok.exf b hb).1, I'.ok.exfs b hb, .inl hb, fun x c z => (I'.ok.exf b hb).2 x c z, fun p hp => absurd (show p ∈ ([] : List (Addr × Obj)) ++ [] from hp) (by simp)⟩
  have loop : codeAny (model X.prog X.w) X.A (.compLoop (.SetComp elt [⟨tg, iter, ifs, 0⟩] scope pos) 0 (.ref it) (.ref D) ce) (compPost (model X.prog X.w) X.A X.xe none (EP X pins σ Q) (.ref D) s3.heap.objs.size) s4 := by
    refine compLoop_set_any (fun n s' => ∃ i H', Inv (X.blk s3 H3 scope ce fp) [] (wipe σ (own.map (·.2))) H' s' ∧ tn i s'.heap ∧ (∀ b ∈ fp, H' b = none) ∧ W i n H') ?_ m0 ⟨0, H3, I4, st4, clear, by rw [← hH3]; exact w0⟩
    rintro n s5 ⟨i, H5, I5, st5, n5, w5⟩
    rcases turn i n H5 w5 with ⟨stop, qq⟩ | ⟨go, Nx, hNx, step⟩
    · refine thnF (T.done (X.blk s3 H3 scope ce fp) rfl rfl rfl hc i [] s5 _ H5 (fun _ _ => False) I5 (footing I5 n5) st5 stop) fun r s6 ⟨hr, I6⟩ => ?_
      subst hr
      have I7 : Inv X pins σ H5 s6 := I3.call' (ch := fp) I6.os I6.base I6.hok I6.bare fun b hb => ⟨(f3 b hb).1.2.2.2.1, (f3 b hb).1.2.1, (f3 b hb).1.2.2.2.2.1, (f3 b hb).1.2.2.2.2.2⟩
      have off : H5 s3.heap.objs.size = none := by
        rw [← home]
        exact I6.free
      obtain ⟨m, hn, _⟩ := I6.loc
      have hn : s6.heap.Ns ce.locals m := hn
      rw [home] at hn
      obtain ⟨f0, f1, _, g3, g4, g5⟩ := I3.fpOk (Nat.le_refl _) off
      refine ⟨m, hn, fun h'' only => ?_⟩
      exact ⟨.ref D, H5, I7.turned (t' := s6.toks) (fun b o hb z => (only.2 b hb).trans z) f0 f1 g3 g4 g5, rfl, qq⟩
    · refine thnF (T.item (X.blk s3 H3 scope ce fp) rfl rfl rfl hc i [] s5 _ H5 (fun _ _ => False) I5 (footing I5 n5) st5 go) fun r s6 ⟨u, hr, h6⟩ => ?_
      subst hr
      refine thnF h6 fun _ s7 ⟨x, H7, I7, r7, y7, st7, n7⟩ => ?_
      have I7' := I7.pinned (footing I7 n7) (T.obj _ _ st7)
      refine thnF (pg.run _ s7 _ H7 x u _ I7' r7 (step x H7 y7)) fun _ s8 ⟨σ8, H8, I8, hw8, q8⟩ => ?_
      refine thnF (pt.run _ s8 σ8 H8 _ I8 q8) fun b s9 ⟨H9, I9, q9⟩ => ?_
      have fin : ∀ {s' : Shared} {H' : Hp}, Inv (X.blk s3 H3 scope ce fp) ([] ++ pinsAt fp s7.heap) σ8 H' s' → Nx H' → ∃ m, m < n ∧ ∃ i H', Inv (X.blk s3 H3 scope ce fp) [] (wipe σ (own.map (·.2))) H' s' ∧ tn i s'.heap ∧ (∀ b ∈ fp, H' b = none) ∧ W i m H' := fun {s' H'} I' nx => by
        obtain ⟨m', hm, w'⟩ := hNx H' nx
        have held : ∀ b ∈ fp, ∀ o, s7.heap.get? b = some o → s'.heap.get? b = some o ∧ H' b = none := fun b hb o z =>
          let y := I'.pin (b, o) (List.mem_append_right _ (List.mem_append_right _ (mem_pinsAt hb z)))
          ⟨y.1, y.2.1⟩
        have same_len : (wipe σ (own.map (·.2))).length = σ8.length := by rw [← hw8, wipe_length]
        refine ⟨m', hm, i + 1, H', (I'.unpinned (pins := [])).weak same_len (fun j v z => ?_), T.keep _ _ _ st7 fun b hb o z => (held b hb o z).1, fun b hb => ?_, w'⟩
        · rw [← hw8] at z
          exact (wipe_some z).1
        · obtain ⟨o, z, _⟩ := T.obj _ _ st7 b hb
          exact (held b hb o z).2
      cases b with
      | false =>
        simp only [Bool.false_eq_true, if_false] at q9 ⊢
        exact fin I9 q9
      | true =>
        simp only [if_true] at q9 ⊢
        refine thnF (pe.run _ s9 σ8 H9 _ I9 q9) fun v s10 ⟨y, H10, I10, r10, p, d, L, ek, dk, kk, hD10, itm, few, nx⟩ => ?_
        subst ek
        have add := (mt_saddN (X := X.blk s3 H3 scope ce fp) hu) _ s10 σ8 H10 (.ref D) [.ref p] (.ref D) [v] (fun v' H' => v' = .non ∧ Nx H') I10 rfl (.cons r10 .nil) ⟨D, p, d, L, rfl, rfl, dk, kk, hD10, itm, few, fun L' c1 c2 => ⟨rfl, nx L' c1 c2⟩⟩
        refine wpAny_mono add (fun _ s11 z => ?_) fun _ _ z => False.elim z
        obtain ⟨v', H11, I11, _, _, nx⟩ := z
        exact fin I11 nx
  exact codeAny_compStart_set loop (T.self X.A 0 _ _ _ st4 loop)
end
end My
set_option Elab.async false
set_option linter.all false
set_option maxRecDepth 100000
set_option maxHeartbeats 4000000
/-! sorted, of lists and sets of tuples of ints and texts (behind a first item that differs anything may stand) -/
namespace My
open PySem L2 PySem.Spec PyProof.Rows
/-! ### the order, by lists of ints -/
def ltL : List Int → List Int → Bool
  | _, [] => false
  | [], _ :: _ => true
  | a :: r, b :: s => if a = b then ltL r s else decide (a < b)
theorem ltL_self : ∀ x, ltL x x = false
  | [] => rfl
  | a :: r => (if_pos rfl).trans (ltL_self r)
theorem ltL_cons (a : Int) (r s : List Int) : ltL (a :: r) (a :: s) = ltL r s := if_pos rfl
theorem ltL_ne {a b : Int} (h : a ≠ b) (r s : List Int) : ltL (a :: r) (b :: s) = decide (a < b) := if_neg h
theorem ltL_asym : ∀ x y, ltL x y = true → ltL y x = false
  | [], [], h => by cases h
  | _ :: _, [], h => by cases h
  | [], _ :: _, _ => rfl
  | a :: r, b :: s, h => by
    by_cases e : a = b
    · subst e
      rw [ltL_cons] at h ⊢
      exact ltL_asym r s h
    · rw [ltL_ne e, decide_eq_true_eq] at h
      rw [ltL_ne (Ne.symm e), decide_eq_false_iff_not]
      omega
theorem ltL_tr : ∀ x y z, ltL y x = false → ltL z y = false → ltL z x = false
  | [], y, z, _, _ => by cases z <;> rfl
  | a :: r, [], z, h, _ => by cases h
  | a :: r, b :: s, [], _, h => by cases h
  | a :: r, b :: s, c :: t, h1, h2 => by
    by_cases e1 : b = a
    · subst e1
      rw [ltL_cons] at h1
      by_cases e2 : c = b
      · subst e2
        rw [ltL_cons] at h2 ⊢
        exact ltL_tr r s t h1 h2
      · rw [ltL_ne e2] at h2 ⊢
        exact h2
    · rw [ltL_ne e1, decide_eq_false_iff_not] at h1
      by_cases e2 : c = b
      · subst e2
        rw [ltL_ne e1, decide_eq_false_iff_not]
        exact h1
      · rw [ltL_ne e2, decide_eq_false_iff_not] at h2
        rw [ltL_ne (by omega), decide_eq_false_iff_not]
        omega
theorem ltL_total : ∀ x y, ltL x y = false → ltL y x = false → x = y
  | [], [], _, _ => rfl
  | [], _ :: _, h, _ => by cases h
  | _ :: _, [], _, h => by cases h
  | a :: r, b :: s, h1, h2 => by
    by_cases e : a = b
    · subst e
      rw [ltL_cons] at h1 h2
      rw [ltL_total r s h1 h2]
    · rw [ltL_ne e, decide_eq_false_iff_not] at h1
      rw [ltL_ne (Ne.symm e), decide_eq_false_iff_not] at h2
      omega
theorem ltL_app : ∀ (c x y : List Int), ltL (c ++ x) (c ++ y) = ltL x y
  | [], _, _ => rfl
  | a :: c, x, y => (ltL_cons a _ _).trans (ltL_app c x y)
def codN (l : List Nat) : List Int := l.map (fun c : Nat => (c : Int) + 1) ++ [0]
def codI : PyData → List Int
  | .int i => [0, i]
  | .str s => 1 :: codN s.cps.toList
  | _ => [2]
def rowC : List PyData → List Int
  | [] => []
  | x :: r => codI x ++ rowC r
theorem codI_some (x : PyData) : ∃ a l, codI x = a :: l := by cases x <;> exact ⟨_, _, rfl⟩
theorem codN_lt : ∀ (c d : List Nat), c ≠ d → ∀ x y, ltL (codN c ++ x) (codN d ++ y) = decide (c < d)
  | [], [], h, _, _ => absurd rfl h
  | [], b :: d, _, x, y => by
    show ltL (0 :: _) (((b : Int) + 1) :: _) = _
    rw [ltL_ne (by omega), decide_eq_true (by omega), decide_eq_true (List.nil_lt_cons b d)]
  | a :: c, [], _, x, y => by
    show ltL (((a : Int) + 1) :: _) (0 :: _) = _
    rw [ltL_ne (by omega), decide_eq_false (by omega), decide_eq_false (List.not_lt_nil _)]
  | a :: c, b :: d, h, x, y => by
    show ltL (((a : Int) + 1) :: (codN c ++ x)) (((b : Int) + 1) :: (codN d ++ y)) = _
    by_cases e : a = b
    · subst e
      rw [ltL_cons, codN_lt c d (fun z => h (by rw [z])) x y]
      congr 1
      rw [List.cons_lt_cons_iff]
      simp
    · rw [ltL_ne (by omega)]
      congr 1
      rw [List.cons_lt_cons_iff]
      simp only [eq_iff_iff]
      constructor
      · intro z
        exact .inl (by omega)
      · rintro (z | ⟨z, _⟩)
        · omega
        · exact absurd z e
def kin : PyData → PyData → Prop
  | .int _, .int _ => True
  | .str _, .str _ => True
  | _, _ => False
/-- the rows are compared at items of one kind -/
def CmpOk : List PyData → List PyData → Prop
  | x :: xs, y :: ys => (x = y → CmpOk xs ys) ∧ (x ≠ y → kin x y)
  | _, _ => True
section
variable {P : Program} {w : World} {A : Around} {s : Shared}
/-- the value is the datum, an item of a key -/
def ItIs (h : Heap) (d : PyData) (u : Value) : Prop := NestedIs h (keyD d) u ∧ ∀ i, d = .int i → ∃ t, u = .int i t
inductive ItAll (h : Heap) : List PyData → List Value → Prop
  | nil : ItAll h [] []
  | cons {d : PyData} {ds : List PyData} {u : Value} {us : List Value} : ItIs h d u → ItAll h ds us → ItAll h (d :: ds) (u :: us)
theorem item_lt {x y : PyData} {u v : Value} {f : Bool} {r t : List Int} {Q : Bool → Shared → Prop} {E : Value → Shared → Prop} (k : kin x y) (n : x ≠ y) (hx : ItIs s.heap x u) (hy : ItIs s.heap y v) (q : Q (ltL (codI x ++ r) (codI y ++ t)) s) : wpAny (model P w) A (oneLt' f u v) Q E s := by
  match x, y, k with
  | .int i, .int j, _ =>
    obtain ⟨t1, rfl⟩ := hx.2 i rfl
    obtain ⟨t2, rfl⟩ := hy.2 j rfl
    have e : ltL ([0, i] ++ r) ([0, j] ++ t) = decide (i < j) := (ltL_cons 0 _ _).trans (ltL_ne (fun z => n (by rw [z])) _ _)
    rw [show codI (.int i) = [0, i] from rfl, show codI (.int j) = [0, j] from rfl, e] at q
    exact oneLt_any_int q
  | .str i, .str j, _ =>
    cases hx.1 with
    | text _ t1 =>
      cases hy.1 with
      | text _ t2 =>
        have ne : i.cps.toList ≠ j.cps.toList := fun z => n (by
          obtain ⟨ci⟩ := i
          obtain ⟨cj⟩ := j
          rw [show ci = cj from Array.toList_inj.mp z])
        have e : ltL (codI (.str i) ++ r) (codI (.str j) ++ t) = decide (i.cps.toList < j.cps.toList) := (ltL_cons 1 _ _).trans (codN_lt _ _ ne r t)
        rw [e] at q
        exact oneLt_any_str q
theorem row_lex {fin : Bool} {Q : Bool → Shared → Prop} (room : A.units + 8 < cLine) : ∀ (xs ys : List PyData) (us vs : List Value) (i : Nat), ItAll s.heap xs us → ItAll s.heap ys vs → keyBs xs = true → keyBs ys = true → (∀ x ∈ xs, (keyD x).depth ≤ 7) → CmpOk xs ys → fin = decide (xs.length < ys.length) →
    Q (ltL (rowC xs) (rowC ys)) s → PySem.W.KatLex P w A true fin Q (us.zip vs) i s
  | [], ys, _, vs, i, h1, h2, _, _, _, _, ef, q => by
    cases h1
    refine PySem.W.kat_nil ?_
    rw [ef]
    cases ys with
    | nil => exact q
    | cons y ys =>
      have e : ltL (rowC []) (rowC (y :: ys)) = true := by
        obtain ⟨a, l, e⟩ := codI_some y
        show ltL [] (codI y ++ rowC ys) = true
        rw [e]
        rfl
      rw [e] at q
      rw [decide_eq_true (show ([] : List PyData).length < (y :: ys).length from Nat.zero_lt_succ _)]
      exact q
  | x :: xs, [], _, _, i, h1, h2, _, _, _, _, ef, q => by
    cases h1
    cases h2
    refine PySem.W.kat_nil ?_
    have e : ltL (rowC (x :: xs)) (rowC []) = false := by
      obtain ⟨a, l, e⟩ := codI_some x
      show ltL (codI x ++ rowC xs) [] = false
      rw [e]
      rfl
    rw [e] at q
    rw [ef, decide_eq_false (show ¬ (x :: xs).length < ([] : List PyData).length from Nat.not_lt_zero _)]
    exact q
  | x :: xs, y :: ys, _, _, i, h1, h2, k1, k2, dp, c, ef, q => by
    have k1' : (keyB x && keyBs xs) = true := k1
    have k2' : (keyB y && keyBs ys) = true := k2
    rw [Bool.and_eq_true] at k1' k2'
    cases h1 with
    | @cons _ _ u us a1 r1 =>
      cases h2 with
      | @cons _ _ v vs a2 r2 =>
        have dx := dp x (.head _)
        refine PySem.W.kat_cons (eqAt_key _ _ A s _ _ a1.1 a2.1 (by have := Nat.min_le_left (keyD x).depth (keyD y).depth; omega) P w _ _ ?_)
        rw [← NestedKey.decide_eq]
        by_cases e : x = y
        · subst e
          rw [decide_eq_true rfl]
          refine PySem.W.kat_yes (row_lex room xs ys us vs (i + 1) r1 r2 k1'.2 k2'.2 (fun z m => dp z (.tail _ m)) (c.1 rfl) (by rw [ef, List.length_cons, List.length_cons]; congr 1; simp) ?_)
          have e2 : ltL (rowC (x :: xs)) (rowC (x :: ys)) = ltL (rowC xs) (rowC ys) := ltL_app _ _ _
          rw [e2] at q
          exact q
        · have ne : keyD x ≠ keyD y := fun z => e (by rw [← key_back x k1'.1, ← key_back y k2'.1, z])
          rw [decide_eq_false ne]
          exact PySem.W.kat_no (item_lt (c.2 e) e a1 a2 q)
/-- a row of items at an address -/
structure RowAt (h : Heap) (v : Value) (d : List PyData) : Prop where
  ex : ∃ (a : Addr) (o : Obj) (us : List Value) (n : Nat), v = .ref a ∧ h.get? a = some o ∧ o.cls = .type "tuple" ∧ o.data = .seq us.toArray n ∧ ItAll h d us
  key : keyBs d = true
  low : ∀ x ∈ d, (keyD x).depth ≤ 7
theorem ItIs.at_ {h h' : Heap} (k : ∀ a o vs n, h.get? a = some o → o.data = .seq vs n → o.cls = .type "tuple" → h'.get? a = some o) : ∀ {d : PyData} {u : Value}, ItIs h d u → ItIs h' d u := by
  have go : ∀ (x : NestedKey) (v : Value), NestedIs h x v → NestedIs h' x v := by
    intro x v z
    exact NestedIs.rec (motive_1 := fun x v _ => NestedIs h' x v) (motive_2 := fun xs vs _ => NestedAll h' xs vs) .none (fun e => .bool e) (fun i t => .int i t) (fun x t => .text x t) (fun h1 h2 h3 _ ih => .tup (k _ _ _ _ h1 h3 h2) h2 h3 ih) .nil (fun _ _ a b => .cons a b) z
  exact fun {d u} z => ⟨go _ _ z.1, z.2⟩
theorem ItAll.at_ {h h' : Heap} (k : ∀ a o vs n, h.get? a = some o → o.data = .seq vs n → o.cls = .type "tuple" → h'.get? a = some o) : ∀ {d : List PyData} {u : List Value}, ItAll h d u → ItAll h' d u
  | _, _, .nil => .nil
  | _, _, .cons a r => .cons (ItIs.at_ k a) (ItAll.at_ k r)
theorem RowAt.at_ {h h' : Heap} (k : ∀ a o vs n, h.get? a = some o → o.data = .seq vs n → o.cls = .type "tuple" → h'.get? a = some o) {v : Value} {d : List PyData} (z : RowAt h v d) : RowAt h' v d := by
  obtain ⟨a, o, us, n, e, ho, hc, hd, it⟩ := z.ex
  exact ⟨⟨a, o, us, n, e, k _ _ _ _ ho hd hc, hc, hd, ItAll.at_ k it⟩, z.key, z.low⟩
/-- the first items are of one kind -/
def HeadIs (c : Bool) : List PyData → Prop
  | .int _ :: _ => c = true
  | .str _ :: _ => c = false
  | _ => False
theorem head_val {h : Heap} {c : Bool} {d : List PyData} {us : List Value} (hc : HeadIs c d) (it : ItAll h d us) : ∃ f, us[0]? = some f ∧ (c = true → ∃ i t, f = .int i t) ∧ (c = false → ∃ x t, f = .str x t) := by
  cases it with
  | nil => exact hc.elim
  | @cons x r u us a b =>
    refine ⟨u, rfl, fun e => ?_, fun e => ?_⟩
    · cases x with
      | int i =>
        obtain ⟨t, rfl⟩ := a.2 i rfl
        exact ⟨i, t, rfl⟩
      | str i => exact absurd (show c = false from hc) (by rw [e]; decide)
      | _ => exact (show False from hc).elim
    · cases x with
      | str i =>
        cases a.1 with
        | text _ t => exact ⟨i, t, rfl⟩
      | int i => exact absurd (show c = true from hc) (by rw [e]; decide)
      | _ => exact (show False from hc).elim
theorem firsts_kind {h : Heap} {c : Bool} {k : Value → List PyData} : ∀ vs : List Value, (∀ v ∈ vs, RowAt h v (k v) ∧ HeadIs c (k v)) → ∃ fs : List Value, PySem.W.KatTups h vs fs ∧ fs.length = vs.length ∧ ∀ f ∈ fs, (c = true → ∃ i t, f = .int i t) ∧ (c = false → ∃ x t, f = .str x t)
  | [], _ => ⟨[], PySem.W.KatTups.nil, rfl, fun f m => (by cases m)⟩
  | v :: vs, hv => by
    obtain ⟨fs, h1, h2, h3⟩ := firsts_kind vs fun u m => hv u (.tail _ m)
    obtain ⟨z, hc⟩ := hv v (.head _)
    obtain ⟨a, o, us, n, rfl, ho, hcl, hd, it⟩ := z.ex
    obtain ⟨f, hf, p⟩ := head_val hc it
    exact ⟨f :: fs, PySem.W.KatTups.cons ho hcl hd (by simpa using hf) h1, by rw [List.length_cons, List.length_cons, h2], fun g m => (List.mem_cons.mp m).elim (fun e => e ▸ p) (h3 g)⟩
abbrev rowLt (k : Value → List PyData) (v u : Value) : Bool := ltL (rowC (k v)) (rowC (k u))
theorem swo_row (k : Value → List PyData) : SrtO.Swo (rowLt k) := ⟨fun x y => ltL_asym _ _, fun x y z => ltL_tr _ _ _⟩
theorem rows_sortable {a : Addr} {vs : List Value} {k : Value → List PyData} {c : Bool} (room : A.units + 8 < cLine) (two : 0 < vs.length) (hv : ∀ v ∈ vs, RowAt s.heap v (k v) ∧ HeadIs c (k v)) (cmp : ∀ v ∈ vs, ∀ u ∈ vs, CmpOk (k v) (k u)) (ha : ∀ o, s.heap.get? a = some o → o.cls ≠ .type "tuple") :
    SrtO.SortableO P w A s a vs (rowLt k) := by
  intro h' keep
  have hv' : ∀ v ∈ vs, RowAt h' v (k v) ∧ HeadIs c (k v) := fun v m => ⟨(hv v m).1.at_ fun b o _ _ e _ c => keep b o (fun z => by subst z; exact ha o e c) e, (hv v m).2⟩
  obtain ⟨fs, h1, h2, h3⟩ := firsts_kind vs hv'
  refine ⟨PyProof.Rows.tuples' true, fun Q E q => ?_, fun p r hp hr => ?_⟩
  · cases c with
    | true =>
      refine PySem.W.kat_kind (T := .type "int") h1 (by omega) (fun f m => ?_) (by rfl) ?_
      · obtain ⟨x, t, rfl⟩ := (h3 f m).1 rfl
        exact PySem.W.Looks.now
      · rw [show (Value.type "int" != Value.type "tuple") = true by decide +kernel]
        exact q
    | false =>
      refine PySem.W.kat_kind (T := .type "str") h1 (by omega) (fun f m => ?_) (by rfl) ?_
      · obtain ⟨x, t, rfl⟩ := (h3 f m).2 rfl
        exact PySem.W.Looks.now
      · rw [show (Value.type "str" != Value.type "tuple") = true by decide +kernel]
        exact q
  · obtain ⟨⟨⟨a1, o1, us, n1, e1, g1, c1, d1, i1⟩, kb1, lw1⟩, _⟩ := hv' _ hp
    obtain ⟨⟨⟨a2, o2, vs2, n2, e2, g2, c2, d2, i2⟩, kb2, lw2⟩, _⟩ := hv' _ hr
    have cm := cmp _ hp _ hr
    have lens : ∀ {d : List PyData} {us : List Value}, ItAll h' d us → us.length = d.length := fun z => by
      induction z with
      | nil => rfl
      | cons _ _ ih => rw [List.length_cons, List.length_cons, ih]
    show wpAny _ _ (PyProof.Rows.keyLt' _ p.1 r.1) (fun b s' => s' = _ ∧ b = ltL (rowC (k p.1)) (rowC (k r.1))) _ _
    generalize k p.1 = kp at *
    generalize k r.1 = kr at *
    rw [e1, e2]
    refine PySem.W.kat_lt g1 d1 g2 d2 ?_
    have z := row_lex (P := P) (w := w) (A := A) (s := { s with heap := h' }) (fin := decide (us.toArray.size < vs2.toArray.size)) (Q := fun b s' => s' = { s with heap := h' } ∧ b = ltL (rowC kp) (rowC kr)) room kp kr us vs2 0 i1 i2 kb1 kb2 lw1 cm (by rw [List.size_toArray, List.size_toArray, lens i1, lens i2]) ⟨rfl, rfl⟩
    simpa using z
end
end My
set_option Elab.async false
set_option linter.all false
set_option maxRecDepth 100000
set_option maxHeartbeats 4000000
/-! sorted(xs), sorted(set): rules over the layer, tuples -/
namespace My
open PySem L2 PySem.Spec PyProof.Rows
theorem perm_back {α β : Type} {f : α → β} : ∀ {L : List α} {M : List β}, (L.map f).Perm M → ∃ L' : List α, M = L'.map f ∧ L'.Perm L := by
  intro L M pm
  generalize hA : L.map f = A0 at pm
  induction pm generalizing L with
  | nil => exact ⟨[], rfl, by rw [List.map_eq_nil_iff.mp hA]⟩
  | cons y _ ih =>
    match L, hA with
    | b :: B, hA =>
      injection hA with h1 h2
      obtain ⟨L', e1, e2⟩ := ih h2
      exact ⟨b :: L', by rw [List.map_cons, ← e1, h1], e2.cons b⟩
  | swap x y l =>
    match L, hA with
    | b :: c :: B, hA =>
      injection hA with h1 hA
      injection hA with h2 h3
      exact ⟨c :: b :: B, by rw [List.map_cons, List.map_cons, h1, h2, h3], .swap ..⟩
  | trans _ _ ih1 ih2 =>
    obtain ⟨L1, e1, p1⟩ := ih1 hA
    obtain ⟨L2, e2, p2⟩ := ih2 e1.symm
    exact ⟨L2, e2, p2.trans p1⟩
structure RowOk (d : List PyData) : Prop where
  key : keyBs d = true
  low : ∀ x ∈ d, (keyD x).depth ≤ 7
def itemsD : PyData → List PyData
  | .tuple ds => ds
  | _ => []
section
variable {X : Cx} {pins : List (Addr × Obj)} {σ : L2.St} {H : Hp} {s : Shared}
theorem inv_items (I : Inv X pins σ H s) : ∀ {vs : List V} {ds : List PyData} {us : List Value}, DpAll X.K H vs ds → Vals vs us → keyBs ds = true → ItAll s.heap ds us
  | _, _, _, .nil, r, _ => by
    cases r
    exact .nil
  | _, _, _, .cons (d := d) (ds := ds) a b, r, k => by
    have k' : (keyB d && keyBs ds) = true := k
    rw [Bool.and_eq_true] at k'
    cases r with
    | cons r1 r2 =>
      refine .cons ⟨Inv.nest I d _ _ k'.1 a r1, fun i e => ?_⟩ (inv_items I b r2 k'.2)
      subst e
      cases a
      exact r1
theorem inv_row (I : Inv X pins σ H s) {t : Addr} {ds : List PyData} (h : Dp X.K H (.ref t) (.tuple ds)) (k : RowOk ds) : RowAt s.heap (.ref t) ds := by
  cases h with
  | tup hs ha =>
    obtain ⟨its, rv, ⟨o, ho, hc, n, hd⟩, _⟩ := I.tuple hs
    exact ⟨⟨t, o, its, n, rfl, ho, hc, hd, inv_items I ha rv k.key⟩, k.key, k.low⟩
end
section
variable {X : Cx}
/-- sorted(xs), xs a list of tuples: k tells them -/
def rSortRow (K : PySem.W.Frag) : List V → Hp → VK → Prop := fun vs H Q => ∃ (a : Addr) (xs : List V) (k : V → List PyData) (c : Bool), vs = [.ref a] ∧ SqL K H a xs ∧ (∀ x ∈ xs, ∃ t, x = .ref t ∧ Dp K H (.ref t) (.tuple (k x)) ∧ RowOk (k x) ∧ HeadIs c (k x)) ∧ (∀ x ∈ xs, ∀ y ∈ xs, CmpOk (k x) (k y)) ∧
  ∀ (ys : List V) (p : Addr), ys.Perm xs → ys.Pairwise (fun x y => ltL (rowC (k y)) (rowC (k x)) = false) → H p = none → Q (.ref p) (upd H p (.lst ys))
theorem cr_sortRow (hu : X.A.units + 100 < cLine) : CallR X (.builtin "sorted") (rSortRow X.K) := by
  intro pins s σ H vs us Q I r h
  obtain ⟨a, xs, k, c, rfl, hs, hx, cmp, q⟩ := h
  obtain ⟨its, rv, hl, hz⟩ := I.list hs
  obtain ⟨u, rfl, ru⟩ := vals1 r
  obtain rfl : u = Value.ref a := ru
  obtain ⟨e1, e2⟩ := refs_back rv fun x m => by
    obtain ⟨t, e, _⟩ := hx x m
    exact ⟨t, e⟩
  have row : ∀ v ∈ its, RowAt s.heap v (k (backV v)) ∧ HeadIs c (k (backV v)) := fun v hv => by
    obtain ⟨t, rfl⟩ := e2 v hv
    have hm : V.ref t ∈ xs := by rw [e1]; exact List.mem_map.mpr ⟨_, hv, rfl⟩
    obtain ⟨t', e, dt, ok, hd⟩ := hx _ hm
    cases e
    exact ⟨inv_row I dt ok, hd⟩
  have cm : ∀ v ∈ its, ∀ u ∈ its, CmpOk (k (backV v)) (k (backV u)) := fun v hv u hu => cmp _ (by rw [e1]; exact List.mem_map.mpr ⟨_, hv, rfl⟩) _ (by rw [e1]; exact List.mem_map.mpr ⟨_, hu, rfl⟩)
  refine SrtO.sorted_ord (swo_row fun v => k (backV v)) hl.isList (by rw [← rv.length]; exact hz) (fun two h1 a' ha kk => ?_) fun out h1 h2 => ?_
  · refine rows_sortable (s := { s with heap := h1 }) (c := c) (by simp only [Around.in1_units]; omega) (by omega) (fun v hv => ⟨(row v hv).1.at_ fun b o _ _ e _ _ => (kk b o e).2, (row v hv).2⟩) cm fun o e => ?_
    have e' : some o = some (seqObj "list" its.toArray 0) := e.symm.trans ha
    cases e'
    intro z
    exact absurd (Value.type.inj z) (by decide)
  · have h3 : ∀ u ∈ out, ∃ a, u = Value.ref a := fun u hu => e2 u (h2.perm.mem_iff.mp hu)
    obtain ⟨n, hn⟩ := sortedAll_at s.heap its out.toArray
    have pm : (out.map backV).Perm xs := by
      rw [e1]
      exact h2.perm.map backV
    refine ⟨.ref (s.heap.objs.size + 1), upd H (s.heap.objs.size + 1) (.lst (out.map backV)), I.laid (t' := s.toks) (fun b o e => sortedAll_old e) (Nat.le_succ _) ⟨?_, out, n, L2.vals_back h3, hn⟩, rfl, q _ _ pm (List.pairwise_map.mpr h1) (I.hok.fresh (Nat.le_succ _))⟩
    rw [pm.length_eq]
    exact hz
/-- sorted(found), found a set of tuples -/
def rSortSetN (K : PySem.W.Frag) (P : Program) (w : World) : List V → Hp → VK → Prop := fun vs H Q => ∃ (a : Addr) (L : List (Addr × PyData)) (c : Bool), vs = [.ref a] ∧ H a = some (SetNO P w a L) ∧ (∀ p ∈ L, ∃ ds, p.2 = .tuple ds ∧ Dp K H (.ref p.1) p.2 ∧ RowOk ds ∧ HeadIs c ds) ∧ (∀ p ∈ L, ∀ q ∈ L, CmpOk (itemsD p.2) (itemsD q.2)) ∧
  ∀ (L' : List (Addr × PyData)) (p : Addr), L'.Perm L → L'.Pairwise (fun x y => ltL (rowC (itemsD y.2)) (rowC (itemsD x.2)) = false) → H p = none → Q (.ref p) (upd H p (.lst (L'.map fun p => .ref p.1)))
theorem rowOk_deep {ds : List PyData} (k : RowOk ds) : KeyOk (.tuple ds) := by
  refine ⟨k.key, ?_⟩
  have go : ∀ ds : List PyData, (∀ x ∈ ds, (keyD x).depth ≤ 7) → NestedKey.depthAll (keyDs ds) ≤ 7 := fun ds => by
    induction ds with
    | nil => intro _; exact Nat.zero_le _
    | cons x r ih => exact fun h => Nat.max_le.mpr ⟨h x (.head _), ih fun y m => h y (.tail _ m)⟩
  exact Nat.succ_le_succ (go ds k.low)
/-- what stands at an address of the set -/
def keyAt (L : List (Addr × PyData)) : Value → List PyData
  | .ref b => ((L.find? fun p => p.1 == b).map fun p => itemsD p.2).getD []
  | _ => []
theorem keyAt_of {L : List (Addr × PyData)} (one : ∀ p ∈ L, ∀ q ∈ L, p.1 = q.1 → p = q) {p : Addr × PyData} (m : p ∈ L) : keyAt L (.ref p.1) = itemsD p.2 := by
  show ((L.find? fun q => q.1 == p.1).map fun q => itemsD q.2).getD [] = _
  cases e : L.find? fun q => q.1 == p.1 with
  | none => exact absurd (List.find?_eq_none.mp e p m) (by simp)
  | some q =>
    have mq := List.mem_of_find?_eq_some e
    have eq : q.1 = p.1 := by simpa using List.find?_some e
    rw [one q mq p m eq]
    rfl
theorem cr_sortSetN (hc : X.calm = true) (hu : X.A.units + 100 < cLine) : CallR X (.builtin "sorted") (rSortSetN X.K X.prog X.w) := by
  intro pins s σ H vs us Q I r h
  obtain ⟨a, L, c, rfl, ha, hk, cmp, q⟩ := h
  have z : SetN0 X.prog X.w s.heap a L := (I.hok a _ ha).1
  have isK : ∀ p ∈ L, (nestedKind X.prog X.w).is s.heap (keyD p.2) p.1 := fun p m => by
    obtain ⟨ds, e, dp, ok, _⟩ := hk p m
    exact Inv.key I (by rw [e]; exact rowOk_deep ok) dp
  obtain ⟨es, ep, t, R⟩ := z.full isK
  rw [Vals.ref1 r]
  have one : ∀ p ∈ L, ∀ q ∈ L, p.1 = q.1 → p = q := fun p mp q mq e => by
    obtain ⟨ds, e1, _, ok1, _⟩ := hk p mp
    obtain ⟨ds2, e2, _, ok2, _⟩ := hk q mq
    have a1 := isK p mp
    rw [e] at a1
    exact Prod.ext e (key_inj (by rw [e1]; exact rowOk_deep ok1) (by rw [e2]; exact rowOk_deep ok2) ((nestedKind X.prog X.w).inj a1 (isK q mq)))
  obtain ⟨o, ho, hex, hd⟩ := id R.here
  have lenL : L.length < 64 := by
    have q := R.some_
    unfold asKeys at q
    rwa [List.length_map] at q
  have les := ents_len R.ents
  refine Calls.call_function_entry kind_sorted plain_sorted entry_sorted (args_sorted1 _) ?_
  unfold Builtin.«sorted»
  refine wpAny_bind (m := checkCount "sorted" 1 1 _) (wpAny_pure ?_)
  refine wpAny_bind (collect_set (A := X.A.in1) (I.ok.hd hc) ⟨o, ho, hex.1, hd⟩ R.fit (by have := R.some_; unfold scanBound; omega) R.tabl.ris R.ledd fun s1 vs k1 hz g1 o1 pm => ?_)
  have rows : es.toList.map (·.2) = L.map fun p => Value.ref p.1 := by
    rw [R.ents]
    unfold entsOf asKeys
    rw [List.map_map, List.map_map]
    rfl
  rw [rows] at pm
  have lvs : vs.length < 64 := by rw [pm.length_eq, List.length_map]; exact lenL
  refine wpAny_bind (wpAny_newList ?_ (by rw [sizeLine_eq]; omega))
  have hoL : (s1.heap.push (seqObj "list" vs.toArray 0)).get? s1.heap.objs.size = some (seqObj "list" vs.toArray 0) := Heap.get?_push_size _ rfl
  have row : ∀ v ∈ vs, RowAt (s1.heap.push (seqObj "list" vs.toArray 0)) v (keyAt L v) ∧ HeadIs c (keyAt L v) := fun v m => by
    obtain ⟨p, mp, rfl⟩ := List.mem_map.mp (pm.mem_iff.mp m)
    obtain ⟨ds, e, dp, ok, hd⟩ := hk p mp
    rw [keyAt_of one mp, e]
    rw [e] at dp
    exact ⟨(inv_row I dp ok).at_ fun b o _ _ e _ _ => Heap.get?_push_of_some _ (k1 b o e), hd⟩
  have cm : ∀ v ∈ vs, ∀ u ∈ vs, CmpOk (keyAt L v) (keyAt L u) := fun v mv u mu => by
    obtain ⟨p, mp, rfl⟩ := List.mem_map.mp (pm.mem_iff.mp mv)
    obtain ⟨r, mr, rfl⟩ := List.mem_map.mp (pm.mem_iff.mp mu)
    rw [keyAt_of one mp, keyAt_of one mr]
    exact cmp p mp r mr
  refine wpAny_bind (wpAny_holding (wpAny_call_entry slot_list_sort ⟨_, hoL, rfl⟩ entry_list_sort (SrtO.list_sort_ord (s := { s1 with heap := s1.heap.push (seqObj "list" vs.toArray 0) }) (swo_row (keyAt L)) hoL (by rw [sizeLine_eq]; omega) (fun two => rows_sortable (c := c) (by simp only [Around.in1_units]; omega) (by omega) row cm fun o e => ?_) fun out h1 h2 => ⟨_, rfl, ?_⟩) (args_list_sort _)))
  · rw [hoL] at e
    cases e
    intro z
    exact absurd (Value.type.inj z) (by decide)
  obtain ⟨L', e', pL⟩ := perm_back (pm.symm.trans h2.perm.symm)
  obtain ⟨n, hn⟩ := sortedHeap_at (vs := vs) (out := out.toArray) hoL
  have hn0 : H s1.heap.objs.size = none := I.hok.fresh hz
  have keep : ∀ b u, s.heap.get? b = some u → (sortedHeap (s1.heap.push (seqObj "list" vs.toArray 0)) s1.heap.objs.size vs out.toArray).get? b = some u := fun b u e => by
    have q := k1 b u e
    have lt := Heap.lt_size q
    rw [sortedHeap_old (Nat.ne_of_lt lt) (by rw [size_push']; exact Nat.lt_succ_of_lt lt)]
    exact Heap.get?_push_of_some _ q
  have hv : Vals (L'.map fun q => V.ref q.1) out := by
    rw [e']
    have go : ∀ M : List (Addr × PyData), Vals (M.map fun q => V.ref q.1) (M.map fun q => Value.ref q.1) := fun M => by
      induction M with
      | nil => exact .nil
      | cons p r ih => exact .cons rfl ih
    exact go L'
  have pw : L'.Pairwise (fun x y => ltL (rowC (itemsD y.2)) (rowC (itemsD x.2)) = false) := by
    rw [e'] at h1
    refine List.Pairwise.imp_of_mem (fun {x y} mx my hle => ?_) (List.pairwise_map.mp h1)
    have q : ltL (rowC (keyAt L (.ref y.1))) (rowC (keyAt L (.ref x.1))) = false := hle
    rw [keyAt_of one (pL.mem_iff.mp mx), keyAt_of one (pL.mem_iff.mp my)] at q
    exact q
  have J : Inv X pins σ (upd H s1.heap.objs.size (.lst (L'.map fun q => V.ref q.1))) { s with heap := sortedHeap (s1.heap.push (seqObj "list" vs.toArray 0)) s1.heap.objs.size vs out.toArray, gens := s1.gens, drawn := s1.drawn, toks := s1.toks } :=
    I.call (ch := []) (Un.laid keep hz hn0) (I.hok.laid keep hz ⟨by rw [List.length_map, pL.length_eq, sizeLine_eq]; omega, out, n, hv, by simpa using hn⟩) (by rw [g1]; exact I.bare) (fun _ z => nomatch z)
  refine wpAny_pure ⟨_, rfl, ?_⟩
  have e : ({ s1 with heap := sortedHeap (s1.heap.push (seqObj "list" vs.toArray 0)) s1.heap.objs.size vs out.toArray } : Shared) = { s with heap := sortedHeap (s1.heap.push (seqObj "list" vs.toArray 0)) s1.heap.objs.size vs out.toArray, gens := s1.gens, drawn := s1.drawn, toks := s1.toks } := by
    cases s1
    cases s
    cases o1
    rfl
  show EP X pins σ Q _ _
  rw [e]
  exact ⟨.ref s1.heap.objs.size, _, J, rfl, q L' _ pL pw hn0⟩
end
end My
set_option Elab.async false
set_option linter.all false
set_option maxRecDepth 100000
set_option maxHeartbeats 4000000
/-! dicts whose keys are tuples of any depth: {} and d[k] = v, d[k], dict(pairs) -/
namespace My
open PySem L2 PySem.Spec PyProof.Rows
abbrev Ents := List (PyData × Addr × V)
def EntRel (e : PyData × Addr × V) (x : NestedKey × Addr × Value) : Prop := keyD e.1 = x.1 ∧ e.2.1 = x.2.1 ∧ RelV e.2.2 x.2.2
/-- the dict at a without its keys' tuples -/
def DctN0 (P : Program) (w : World) (h : Heap) (a : Addr) (E : Ents) : Prop := E.length ≤ sizeLine ∧ (a == sysModules) = false ∧ ∃ xs : List (NestedKey × Addr × Value), Paired EntRel E xs ∧
  ∃ o es ep, h.get? a = some o ∧ o.ExactDict ∧ o.data = .dict es ep ∧ es.toList = xs.map (entryOfKey (nestedKind P w)) ∧ (xs.map (·.1)).Nodup
def DctNO (P : Program) (w : World) (a : Addr) (E : Ents) : HO := .ext fun h => DctN0 P w h a E
def EntOk (K : PySem.W.Frag) (H : Hp) (E : Ents) : Prop := ∀ e ∈ E, Dp K H (.ref e.2.1) e.1 ∧ KeyOk e.1
section
variable {P : Program} {w : World} {h : Heap} {a : Addr} {E : Ents}
theorem DctN0.there (z : DctN0 P w h a E) : ∃ o, h.get? a = some o := by
  obtain ⟨_, _, _, _, o, _, _, ho, _⟩ := z
  exact ⟨o, ho⟩
theorem DctN0.ok {H : Hp} (z : DctN0 P w h a E) : ObjOk P w H h a (DctNO P w a E) := by
  refine ⟨z, z.there, fun h1 h2 p k => ?_⟩
  obtain ⟨l, m, xs, r, o, es, ep, ho, q⟩ := (show DctN0 P w h1 a E from p)
  exact ⟨l, m, xs, r, o, es, ep, k o ho, q⟩
theorem DctN0.full (z : DctN0 P w h a E) (keys : ∀ e ∈ E, (nestedKind P w).is h (keyD e.1) e.2.1) : ∃ xs, Paired EntRel E xs ∧ h.DictOfH (nestedKind P w) a xs := by
  obtain ⟨_, _, xs, r, o, es, ep, h1, h2, h3, h4, h5⟩ := z
  refine ⟨xs, r, o, es, ep, h1, h2, h3, h4, ?_, h5⟩
  have go : ∀ {E : Ents} {xs : List (NestedKey × Addr × Value)}, Paired EntRel E xs → (∀ e ∈ E, (nestedKind P w).is h (keyD e.1) e.2.1) → ∀ x ∈ xs, (nestedKind P w).is h x.1 x.2.1 := by
    intro E xs r
    induction r with
    | nil => exact fun _ x m => by cases m
    | @cons e x E' xs' er _ ih =>
      intro keys y m
      rcases List.mem_cons.mp m with rfl | m
      · have z := keys e (.head _)
        rw [er.1, er.2.1] at z
        exact z
      · exact ih (fun e m => keys e (.tail _ m)) y m
  exact go r keys
theorem DctN0.of {xs : List (NestedKey × Addr × Value)} (l : E.length ≤ sizeLine) (m : (a == sysModules) = false) (r : Paired EntRel E xs) (d : h.DictOfH (nestedKind P w) a xs) : DctN0 P w h a E := by
  obtain ⟨o, es, ep, h1, h2, h3, h4, _, h5⟩ := d
  exact ⟨l, m, xs, r, o, es, ep, h1, h2, h3, h4, h5⟩
theorem ent_at {xs : List (NestedKey × Addr × Value)} (r : Paired EntRel E xs) (nd : (xs.map (·.1)).Nodup) {d : PyData} {q : Addr} {v : V} (m : (d, q, v) ∈ E) : ∃ u, RelV v u ∧ atKey xs (keyD d) = some (q, u) := by
  obtain ⟨i, hi⟩ := List.getElem?_of_mem m
  have go : ∀ {E : Ents} {xs : List (NestedKey × Addr × Value)}, Paired EntRel E xs → ∀ i : Nat, E[i]? = some (d, q, v) → ∃ u, RelV v u ∧ xs[i]? = some (keyD d, q, u) := by
    intro E xs r
    induction r with
    | nil => intro i e; simp at e
    | @cons e x E' xs' er _ ih =>
      intro i he
      cases i with
      | zero =>
        obtain rfl := Option.some.inj he
        obtain ⟨k, b, u⟩ := x
        obtain ⟨e1, e2, e3⟩ := er
        dsimp only at e1 e2 e3
        subst e1 e2
        exact ⟨u, e3, rfl⟩
      | succ i => exact ih i (by simpa using he)
  obtain ⟨u, ru, e⟩ := go r i hi
  exact ⟨u, ru, atKey_of_get nd e⟩
/-- E' is E with v at d -/
structure StoredN (E : Ents) (d : PyData) (p : Addr) (v : V) (E' : Ents) : Prop where
  old : ∀ e ∈ E', e ∈ E ∧ e.1 ≠ d ∨ e.1 = d ∧ e.2.2 = v ∧ (e.2.1 = p ∨ ∃ u, (d, e.2.1, u) ∈ E)
  keep : ∀ e ∈ E, e.1 ≠ d → e ∈ E'
  new : ∃ q, (d, q, v) ∈ E'
  len : E'.length ≤ E.length + 1
theorem stored_ent {xs : List (NestedKey × Addr × Value)} (r : Paired EntRel E xs) {d : PyData} {p : Addr} {v : V} {u : Value} (ru : RelV v u) (kd : KeyOk d) (ko : ∀ e ∈ E, KeyOk e.1) : ∃ E', StoredN E d p v E' ∧ Paired EntRel E' (storedH xs (keyD d) p u) := by
  have same : ∀ e ∈ E, keyD e.1 = keyD d ↔ e.1 = d := fun e m => ⟨fun z => key_inj (ko e m) kd z, fun z => by rw [z]⟩
  by_cases c : (atKey xs (keyD d)).isSome = true
  · -- there already
    have e1 : storedH xs (keyD d) p u = xs.map (putAt (keyD d) u) := by unfold storedH; rw [if_pos c]
    classical
    refine ⟨E.map fun e => if e.1 = d then (e.1, e.2.1, v) else e, ⟨fun e m => ?_, fun e m n => ?_, ?_, by rw [List.length_map]; omega⟩, ?_⟩
    · obtain ⟨e0, m0, rfl⟩ := List.mem_map.mp m
      by_cases z : e0.1 = d
      · rw [if_pos z]
        exact .inr ⟨z, rfl, .inr ⟨e0.2.2, by rw [← z]; exact m0⟩⟩
      · rw [if_neg z]
        exact .inl ⟨m0, z⟩
    · exact List.mem_map.mpr ⟨e, m, if_neg n⟩
    · have go : ∀ {E : Ents} {xs : List (NestedKey × Addr × Value)}, Paired EntRel E xs → (atKey xs (keyD d)).isSome = true → (∀ e ∈ E, keyD e.1 = keyD d ↔ e.1 = d) → ∃ e ∈ E, e.1 = d := by
        intro E xs r
        induction r with
        | nil => intro z; cases z
        | @cons e x E' xs' er _ ih =>
          intro z sm
          by_cases y : e.1 = d
          · exact ⟨e, .head _, y⟩
          · have nx : ¬ x.1 = keyD d := fun q => y ((sm e (.head _)).mp (er.1.trans q))
            have z' : (atKey xs' (keyD d)).isSome = true := by
              unfold atKey at z ⊢
              rw [List.find?_cons_of_neg (by simpa using nx)] at z
              exact z
            obtain ⟨e', m', q⟩ := ih z' fun e m => sm e (.tail _ m)
            exact ⟨e', .tail _ m', q⟩
      obtain ⟨e, m, z⟩ := go r c same
      exact ⟨e.2.1, List.mem_map.mpr ⟨e, m, by rw [if_pos z, z]⟩⟩
    · rw [e1]
      clear c e1
      induction r with
      | nil => exact .nil
      | @cons e x E' xs' er _ ih =>
        refine .cons ?_ (ih (fun e m => ko e (.tail _ m)) fun e m => same e (.tail _ m))
        unfold putAt
        dsimp only
        by_cases z : e.1 = d
        · rw [if_pos z, if_pos (er.1.symm.trans ((same e (.head _)).mpr z))]
          exact ⟨er.1, er.2.1, ru⟩
        · rw [if_neg z, if_neg (fun q => z ((same e (.head _)).mp (er.1.trans q)))]
          exact er
  · have e1 : storedH xs (keyD d) p u = xs ++ [(keyD d, p, u)] := by unfold storedH; rw [if_neg c]
    refine ⟨E ++ [(d, p, v)], ⟨fun e m => ?_, fun e m _ => List.mem_append_left _ m, ⟨p, List.mem_append_right _ (.head _)⟩, by rw [List.length_append]; exact Nat.le_refl _⟩, by rw [e1]; exact r.snoc ⟨rfl, rfl, ru⟩⟩
    rcases List.mem_append.mp m with m | m
    · refine .inl ⟨m, fun z => c ?_⟩
      have go : ∀ {E : Ents} {xs : List (NestedKey × Addr × Value)}, Paired EntRel E xs → e ∈ E → (atKey xs (keyD d)).isSome = true := by
        intro E xs r
        induction r with
        | nil => intro m; cases m
        | @cons e' x E' xs' er _ ih =>
          intro m
          unfold atKey at ih ⊢
          by_cases y : x.1 = keyD d
          · rw [List.find?_cons_of_pos (by simpa using y)]
            rfl
          · rw [List.find?_cons_of_neg (by simpa using y)]
            rcases List.mem_cons.mp m with rfl | m
            · exact absurd (er.1.symm.trans (by rw [z])) y
            · exact ih m
      exact go r m
    · rw [List.mem_singleton.mp m]
      exact .inr ⟨rfl, rfl, .inl rfl⟩
end
section
variable {X : Cx}
/-- d[k] -/
def tDGetN (K : PySem.W.Frag) (P : Program) (w : World) (td ty : TE) : TE := fun σ H Q => td σ H fun x H1 => ty σ H1 fun y H2 => ∃ (a p : Addr) (d : PyData) (E : Ents) (q : Addr) (v : V), x = .ref a ∧ y = .ref p ∧ Dp K H2 (.ref p) d ∧ KeyOk d ∧ H2 a = some (DctNO P w a E) ∧ EntOk K H2 E ∧ (d, q, v) ∈ E ∧ Q v H2
theorem pe_dgetN {o i : Expr} {pos : Pos} {td ty : TE} (hu : X.A.units + 100 < cLine) (ho : PE X o td) (hi : PE X i ty) (hs : NoSl i) : PE X (.Subscript o i pos) (tDGetN X.K X.prog X.w td ty) := by
  refine ⟨fun pins s σ H Q I h => ?_⟩
  refine subD_of PySem.F.slot_dict_getitem.lookup hs (thn (ho.run pins s σ H _ I h) fun u s1 ⟨x, H1, I1, rx, q1⟩ => thn (hi.run pins s1 σ H1 _ I1 q1) fun iv s2 ⟨y, H2, I2, ry, a, p, d, E, q, v, ex, ey, dp, kd, ha, eo, m, q2⟩ => ?_)
  subst ex ey
  cases rx
  cases ry
  have z : DctN0 X.prog X.w s2.heap a E := (I2.hok a _ ha).1
  obtain ⟨xs, r, dd⟩ := z.full fun e m => Inv.key I2 (eo e m).2 (eo e m).1
  have nd : (xs.map (·.1)).Nodup := by
    obtain ⟨_, _, _, _, _, _, _, _, nd⟩ := dd
    exact nd
  obtain ⟨u, ru, at_⟩ := ent_at r nd m
  refine ⟨dd.typeIs, ?_⟩
  exact wpAny_getItem_heap (by show X.A.in1.units + 8 < cLine; rw [Around.in1_units]; omega) (Inv.key I2 kd dp) dd at_ ⟨v, H2, I2.tok _, ru, q2⟩
/-- d[k] = v; an empty dict is one of these too -/
def rPutN (K : PySem.W.Frag) (P : Program) (w : World) : TSet := fun o i v H Q => ∃ (a p : Addr) (d : PyData) (E : Ents), o = .ref a ∧ i = .ref p ∧ Dp K H (.ref p) d ∧ KeyOk d ∧ (H a = some (DctNO P w a E) ∨ E = [] ∧ H a = some (.dK [])) ∧ EntOk K H E ∧ E.length < sizeLine ∧
  ∀ E', StoredN E d p v E' → Q (upd H a (DctNO P w a E'))
theorem set_dictN (hu : X.A.units + 100 < cLine) : PSet X (rPutN X.K X.prog X.w) := by
  intro pins s σ H o i v ov iv u Q I ro ri rv h
  obtain ⟨a, p, d, E, rfl, rfl, dp, kd, ha, eo, few, q⟩ := h
  cases ro
  cases ri
  have keys : ∀ e ∈ E, (nestedKind X.prog X.w).is s.heap (keyD e.1) e.2.1 := fun e m => Inv.key I (eo e m).2 (eo e m).1
  obtain ⟨xs, r, dd, np⟩ : ∃ xs, Paired EntRel E xs ∧ s.heap.DictOfH (nestedKind X.prog X.w) a xs ∧ (a == sysModules) = false := by
    rcases ha with ha | ⟨rfl, ha⟩
    · have z : DctN0 X.prog X.w s.heap a E := (I.hok a _ ha).1
      obtain ⟨xs, r, dd⟩ := z.full keys
      exact ⟨xs, r, dd, z.2.1⟩
    · obtain ⟨_, np, vs, rel, ob, es, ep, h1, h2, h3, h4, h5⟩ := dk_of I.hok ha
      have ev : vs = [] := List.length_eq_zero_iff.mp (by rw [← rel.length]; rfl)
      subst ev
      exact ⟨[], .nil, ⟨ob, es, ep, h1, h2, h3, (by
        have e := h5.1
        generalize es.toList = l at e ⊢
        cases e
        rfl), fun x m => (by cases m), .nil⟩, np⟩
  obtain ⟨E', st, r'⟩ := stored_ent r (p := p) rv kd fun e m => (eo e m).2
  have l1 : xs.length = E.length := (Paired.length r).symm
  refine wpAny_setItem_heap (hsz := by omega) (by show X.A.in1.units + 8 < cLine; rw [Around.in1_units]; omega) (Inv.key I kd dp) dd fun h' dd' only => ?_
  have z' : DctN0 X.prog X.w h' a E' := DctN0.of (by have := st.len; omega) np r' dd'
  exact ⟨_, d_write (t' := s.toks + (nestedKind X.prog X.w).draws (keyD d)) I (by rcases ha with ha | ⟨_, ha⟩ <;> rw [ha] <;> trivial) only z'.there z'.ok, q E' st⟩
theorem storedAll_new {κ : Type} [DecidableEq κ] : ∀ (ps xs : List (κ × Addr × Value)), ((xs ++ ps).map (·.1)).Nodup → storedAllH xs ps = xs ++ ps
  | [], xs, _ => (List.append_nil xs).symm
  | p :: ps, xs, nd => by
    have n : (atKey xs p.1).isSome ≠ true := fun z => by
      unfold atKey at z
      obtain ⟨y, e⟩ := Option.isSome_iff_exists.mp z
      obtain ⟨x, ex, _⟩ := Option.map_eq_some_iff.mp e
      have mx := List.mem_of_find?_eq_some ex
      have kx : x.1 = p.1 := by simpa using List.find?_some ex
      rw [List.map_append, List.nodup_append] at nd
      exact nd.2.2 _ (List.mem_map.mpr ⟨x, mx, rfl⟩) _ (List.mem_map.mpr ⟨p, .head _, rfl⟩) kx
    have e : storedH xs p.1 p.2.1 p.2.2 = xs ++ [p] := by
      unfold storedH
      rw [if_neg n]
    show storedAllH (storedH xs p.1 p.2.1 p.2.2) ps = _
    rw [e, storedAll_new ps (xs ++ [p]) (by rw [List.append_assoc]; exact nd), List.append_assoc]
    rfl
/-- dict(l), l a list of pairs whose firsts are unlike keys: t tells a pair's address -/
def rDictN (K : PySem.W.Frag) (P : Program) (w : World) : List V → Hp → VK → Prop := fun vs H Q => ∃ (l : Addr) (ts : List Addr) (E : Ents), vs = [.ref l] ∧ SqL K H l (ts.map V.ref) ∧ ts.length = E.length ∧ (∀ (i : Nat) (t : Addr) (e : PyData × Addr × V), ts[i]? = some t → E[i]? = some e → SqT K H t [.ref e.2.1, e.2.2]) ∧ EntOk K H E ∧ (E.map (·.1)).Nodup ∧
  ∀ p, H p = none → Q (.ref p) (upd H p (DctNO P w p E))
theorem cr_dictN (hc : X.calm = true) (hu : X.A.units + 100 < cLine) : CallR X (.type "dict") (rDictN X.K X.prog X.w) := by
  intro pins s σ H vs us Q I r h
  obtain ⟨l, ts, E, rfl, hl, el, hp, eo, nd, q⟩ := h
  rw [Vals.ref1 r]
  obtain ⟨its, rv, ⟨o, n, ho, hcl, hdn, hdt⟩, hz⟩ := I.list hl
  rw [List.length_map] at hz
  -- the values
  have val : ∀ (i : Nat) (e : PyData × Addr × V), E[i]? = some e → ∃ (t : Addr) (u : Value), ts[i]? = some t ∧ RelV e.2.2 u ∧ its[i]? = some (.ref t) ∧ s.heap.IsTuple t #[.ref e.2.1, u] := fun i e he => by
    have li : i < ts.length := by rw [el]; exact (List.getElem?_eq_some_iff.mp he).1
    have ht : ts[i]? = some ts[i] := List.getElem?_eq_getElem li
    obtain ⟨u0, hu0, ru0⟩ := rv.get (i := i) (x := .ref ts[i]) (by rw [List.getElem?_map, ht]; rfl)
    cases ru0
    obtain ⟨its2, rv2, pt, _⟩ := I.tuple (hp i _ e ht he)
    obtain ⟨u1, u2, rfl, r1, r2⟩ := vals2 rv2
    cases r1
    exact ⟨ts[i], u2, ht, r2, hu0, pt⟩
  have ⟨us, lus, hus⟩ : ∃ us : List Value, us.length = E.length ∧ ∀ (i : Nat) (e : PyData × Addr × V), E[i]? = some e → ∃ (t : Addr) (u : Value), us[i]? = some u ∧ ts[i]? = some t ∧ RelV e.2.2 u ∧ its[i]? = some (.ref t) ∧ s.heap.IsTuple t #[.ref e.2.1, u] := by
    have go : ∀ n, n ≤ E.length → ∃ us : List Value, us.length = n ∧ ∀ (i : Nat) (e : PyData × Addr × V), i < n → E[i]? = some e → ∃ (t : Addr) (u : Value), us[i]? = some u ∧ ts[i]? = some t ∧ RelV e.2.2 u ∧ its[i]? = some (.ref t) ∧ s.heap.IsTuple t #[.ref e.2.1, u] := fun n => by
      induction n with
      | zero => exact fun _ => ⟨[], rfl, fun i e z => absurd z (Nat.not_lt_zero _)⟩
      | succ n ih =>
        intro ln
        obtain ⟨us, e1, e2⟩ := ih (by omega)
        have he : E[n]? = some E[n] := List.getElem?_eq_getElem (by omega)
        obtain ⟨t, u, h1, h2, h3, h4⟩ := val n _ he
        refine ⟨us ++ [u], by rw [List.length_append, e1]; rfl, fun i e li hi => ?_⟩
        by_cases c : i < n
        · obtain ⟨t', u', z1, z2⟩ := e2 i e c hi
          exact ⟨t', u', by rw [List.getElem?_append_left (by omega)]; exact z1, z2⟩
        · obtain rfl : i = n := by omega
          rw [he] at hi
          obtain rfl := Option.some.inj hi
          exact ⟨t, u, by rw [List.getElem?_append_right (by omega), e1, Nat.sub_self]; rfl, h1, h2, h3, h4⟩
    obtain ⟨us, e1, e2⟩ := go E.length (Nat.le_refl _)
    exact ⟨us, e1, fun i e he => e2 i e (List.getElem?_eq_some_iff.mp he).1 he⟩
  have lits : its.length = E.length := by rw [← rv.length, List.length_map, el]
  have keys : ∀ e ∈ E, (nestedKind X.prog X.w).is s.heap (keyD e.1) e.2.1 := fun e m => Inv.key I (eo e m).2 (eo e m).1
  generalize hps : (E.zip us).map (fun p => ((.ref p.1.2.1, p.2) : Value × Value)) = ps
  generalize hxs : (E.zip us).map (fun p => ((keyD p.1.1, p.1.2.1, p.2) : NestedKey × Addr × Value)) = xs
  have lps : ps.length = E.length := by rw [← hps, List.length_map, List.length_zip, lus, Nat.min_self]
  have lxs : xs.length = E.length := by rw [← hxs, List.length_map, List.length_zip, lus, Nat.min_self]
  have at_ : ∀ (i : Nat), i < E.length → ∃ e t u, E[i]? = some e ∧ us[i]? = some u ∧ ts[i]? = some t ∧ RelV e.2.2 u ∧ its[i]? = some (.ref t) ∧ s.heap.IsTuple t #[.ref e.2.1, u] ∧ ps[i]? = some (.ref e.2.1, u) ∧ xs[i]? = some (keyD e.1, e.2.1, u) := fun i li => by
    have he : E[i]? = some E[i] := List.getElem?_eq_getElem li
    obtain ⟨t, u, h1, h2, h3, h4, h5⟩ := hus i _ he
    have hz2 : (E.zip us)[i]? = some (E[i], u) := by rw [List.getElem?_zip_eq_some]; exact ⟨he, h1⟩
    refine ⟨_, t, u, he, h1, h2, h3, h4, h5, ?_, ?_⟩
    · rw [← hps, List.getElem?_map, hz2]
      rfl
    · rw [← hxs, List.getElem?_map, hz2]
      rfl
  have rel : Paired EntRel E xs := by
    have go : ∀ (E : Ents) (xs : List (NestedKey × Addr × Value)), xs.length = E.length → (∀ (i : Nat), i < E.length → ∃ e u, E[i]? = some e ∧ RelV e.2.2 u ∧ xs[i]? = some (keyD e.1, e.2.1, u)) → Paired EntRel E xs := fun E => by
      induction E with
      | nil =>
        intro xs lx _
        rw [List.length_eq_zero_iff.mp lx]
        exact .nil
      | cons e E ih =>
        intro xs lx z
        cases xs with
        | nil => cases lx
        | cons x xs =>
          obtain ⟨e', u, h1, h2, h3⟩ := z 0 (Nat.zero_lt_succ _)
          obtain rfl := Option.some.inj h1
          obtain rfl := Option.some.inj h3
          exact .cons ⟨rfl, rfl, h2⟩ (ih xs (Nat.succ.inj lx) fun i li => z (i + 1) (Nat.succ_lt_succ li))
    exact go E xs lxs fun i li => by
      obtain ⟨e, t, u, h1, _, _, h2, _, _, _, h3⟩ := at_ i li
      exact ⟨e, u, h1, h2, h3⟩
  have ndx : ((([] : List (NestedKey × Addr × Value)) ++ xs).map (·.1)).Nodup := by
    rw [List.nil_append]
    have e : xs.map (·.1) = (E.map (·.1)).map keyD := by
      have go : ∀ {E : Ents} {xs : List (NestedKey × Addr × Value)}, Paired EntRel E xs → xs.map (·.1) = (E.map (·.1)).map keyD := by
        intro E xs r
        induction r with
        | nil => rfl
        | cons er _ ih => rw [List.map_cons, List.map_cons, List.map_cons, ih, er.1]
      exact go rel
    rw [e]
    refine List.pairwise_map.mpr (List.Pairwise.imp_of_mem (fun {x y} mx my ne z => ne ?_) nd)
    obtain ⟨e1, m1, rfl⟩ := List.mem_map.mp mx
    obtain ⟨e2, m2, rfl⟩ := List.mem_map.mp my
    exact key_inj (eo e1 m1).2 (eo e2 m2).2 z
  have isx : ∀ x ∈ xs, (nestedKind X.prog X.w).is s.heap x.1 x.2.1 := fun x m => by
    obtain ⟨i, hi⟩ := List.getElem?_of_mem m
    obtain ⟨e, t, u, h1, _, _, _, _, _, _, h3⟩ := at_ i (by rw [← lxs]; exact (List.getElem?_eq_some_iff.mp hi).1)
    rw [h3] at hi
    obtain rfl := Option.some.inj hi
    exact keys e (List.mem_of_getElem? h1)
  refine call_dict_pairsH (knd := nestedKind X.prog X.w) (ps := xs) (PairArg.list l its.toArray (fun j => ts.getD j 0) ps) (I.ok.hd hc) (by show X.A.in1.in1.units + 8 < cLine; simp only [Around.in1_units]; omega) ⟨⟨o, n, ho, hcl, hdn, hdt⟩, by rw [List.size_toArray, lits, lps], fun j k v hj => ?_⟩ ⟨by rw [lxs, lps], fun i key v hi => ?_⟩ (fun h' hk x m => nestedKind_stays.stays (fun b ob vs m e hd => hk b ob ?_ (fun z => nomatch z) e) (isx x m)) (by rw [lps]; omega) fun h' tk dd keep => ?_
  · have lj : j < E.length := by rw [← lps]; exact (List.getElem?_eq_some_iff.mp hj).1
    obtain ⟨e, t, u, h1, h2, h3, h4, h5, h6, h7, h8⟩ := at_ j lj
    rw [h7] at hj
    cases hj
    have et : ts.getD j 0 = t := by rw [List.getD_eq_getElem?_getD, h3]; rfl
    exact ⟨by show its.toArray[j]? = some (.ref (ts.getD j 0)); rw [et]; simpa using h5, .inl (by show s.heap.IsTuple (ts.getD j 0) _; rw [et]; exact h6)⟩
  · have lj : i < E.length := by rw [← lps]; exact (List.getElem?_eq_some_iff.mp hi).1
    obtain ⟨e, t, u, h1, h2, h3, h4, h5, h6, h7, h8⟩ := at_ i lj
    have hi' : ps[i]? = some (key, v) := hi
    rw [h7] at hi'
    cases hi'
    exact ⟨_, _, h8, rfl⟩
  · exact Nat.ne_of_lt (Heap.lt_size e)
  · rw [storedAll_new xs [] ndx, List.nil_append] at dd
    have z : DctN0 X.prog X.w h' s.heap.objs.size E := DctN0.of (by omega) (beq_eq_false_iff_ne.mpr (Ne.symm (Nat.ne_of_lt I.big))) rel dd
    exact ⟨.ref s.heap.objs.size, upd H s.heap.objs.size (DctNO X.prog X.w s.heap.objs.size E), I.laid (t' := tk) (fun b ob e => keep b ob (fun z => nomatch z) e) (Nat.le_refl _) z.ok, rfl, q _ (I.hok.fresh (Nat.le_refl _))⟩
end
end My
set_option Elab.async false
set_option linter.all false
set_option maxRecDepth 100000
set_option maxHeartbeats 4000000
/-! math.lcm; l.index(x), t.index(x) where the items are keys -/
namespace My
open PySem L2 PySem.Spec PyProof.Rows
section
variable {X : Cx}
def rLcm : List V → Hp → VK → Prop := fun vs H Q => ∃ a b : Nat, vs = [.int a, .int b] ∧ a * b < 2 ^ 60 ∧ 0 < a ∧ 0 < b ∧ Q (.int ((Nat.lcm a b : Nat) : Int)) H
theorem cr_lcm : CallR X (.builtin "math.lcm") rLcm := by
  intro pins s σ H vs us Q I r h
  obtain ⟨a, b, rfl, small, a0, b0, q⟩ := h
  obtain ⟨t, u, rfl⟩ := Vals.int2 r
  have la : a ≤ a * b := Nat.le_mul_of_pos_right a b0
  have lb : b ≤ a * b := Nat.le_mul_of_pos_left b a0
  have l1 : Nat.lcm a b ≤ a * b := Nat.le_of_dvd (by omega) (Nat.lcm_dvd_mul a b)
  have e : ((Nat.lcm 1 (a : Int).natAbs).lcm (b : Int).natAbs) = Nat.lcm a b := by
    rw [PySem.W.mc_lcm_one]
    rfl
  refine PySem.W.mg_lcm_v (c := ((Nat.lcm a b : Nat) : Int)) (by show a < _; omega) (by show b < _; omega) (by rw [e]) ?_ ⟨.int _, H, I.tok _, ⟨_, rfl⟩, q⟩
  have : (Nat.lcm a b).log2 ≤ 60 := by
    rcases Nat.eq_zero_or_pos (Nat.lcm a b) with z | z
    · rw [z]
      decide
    · exact Nat.le_of_lt (Nat.lt_of_le_of_lt (Nat.le_refl _) ((Nat.log2_lt (by omega)).mpr (by omega)))
  exact Nat.lt_of_le_of_lt this (by decide)
/-- the first place of d -/
def posD (ds : List PyData) (d : PyData) : Nat := (keyDs ds).idxOf (keyD d)
def rIdxK (K : PySem.W.Frag) (tup : Bool) : V → List V → Hp → VK → Prop := fun x xs H Q => ∃ (a : Addr) (y : V) (vs : List V) (ds : List PyData) (d : PyData), x = .ref a ∧ xs = [y] ∧ (if tup = true then SqT K H a vs else SqL K H a vs) ∧ DpAll K H vs ds ∧ Dp K H y d ∧ keyBs ds = true ∧ keyB d = true ∧ (keyD d).depth ≤ 8 ∧ d ∈ ds ∧ Q (.int (posD ds d)) H
theorem keyDs_len : ∀ ds : List PyData, (keyDs ds).length = ds.length
  | [] => rfl
  | _ :: r => congrArg (· + 1) (keyDs_len r)
theorem keyDs_mem : ∀ {ds : List PyData} {d : PyData}, d ∈ ds → keyD d ∈ keyDs ds
  | _, _, .head _ => .head _
  | _, _, .tail _ m => .tail _ (keyDs_mem m)
theorem nest_get {h : Heap} : ∀ {ks : List NestedKey} {vs : List Value}, NestedAll h ks vs → ∀ (j : Nat) (h1 : j < vs.length) (h2 : j < ks.length), NestedIs h ks[j] vs[j]
  | _, _, .nil, j, h1, _ => absurd h1 (Nat.not_lt_zero _)
  | _, _, .cons a _, 0, _, _ => a
  | _, _, .cons _ r, j + 1, h1, h2 => nest_get r j (Nat.lt_of_succ_lt_succ h1) (Nat.lt_of_succ_lt_succ h2)
theorem items_eq {pins : List (Addr × Obj)} {σ : L2.St} {H : Hp} {s : Shared} {A : Around} {vs : List V} {ds : List PyData} {d : PyData} {y : V} {its : List Value} {u : Value} (I : Inv X pins σ H s) (rv : Vals vs its) (ru : RelV y u) (ha : DpAll X.K H vs ds) (hy : Dp X.K H y d) (k1 : keyBs ds = true) (k2 : keyB d = true) (deep : (keyD d).depth ≤ 8) (room : A.units + 8 < cLine) :
    SeqAt.ItemsEq A s its (keyDs ds) u (keyD d) := by
  have na := Inv.nests I ds vs its k1 ha rv
  have nd := Inv.nest I d y u k2 hy ru
  refine ⟨NestedAll.length _ _ na, fun j h1 h2 => ?_⟩
  have z := nest_get na j h1 h2
  have e := eqAt_key _ _ A s _ _ z nd (by have := Nat.min_le_right (keyDs ds)[j].depth (keyD d).depth; omega)
  rw [NestedKey.decide_eq]
  exact e
theorem dpAll_len {K : PySem.W.Frag} {H : Hp} : ∀ {vs : List V} {ds : List PyData}, DpAll K H vs ds → vs.length = ds.length
  | _, _, .nil => rfl
  | _, _, .cons _ r => congrArg (· + 1) (dpAll_len r)
theorem mt_idxT (hu : X.A.units + 100 < cLine) : MtR X "tuple.index" (rIdxK X.K true) := by
  intro pins s σ H x xs v us Q I rx rxs h
  obtain ⟨a, y, vs, ds, d, rfl, rfl, hs, ha, hy, k1, k2, deep, m, q⟩ := h
  cases rx
  cases rxs with
  | cons ry rt =>
    cases rt
    obtain ⟨its, rv, pt, hz⟩ := I.tuple (show SqT X.K H a vs from hs)
    exact SeqAt.call_tuple_index pt (items_eq I rv ry ha hy k1 k2 deep (by rw [Around.in1_units]; omega)) (keyDs_mem m) ⟨.int _, H, I.tok _, ⟨_, rfl⟩, q⟩
theorem mt_idxL (hu : X.A.units + 100 < cLine) : MtR X "list.index" (rIdxK X.K false) := by
  intro pins s σ H x xs v us Q I rx rxs h
  obtain ⟨a, y, vs, ds, d, rfl, rfl, hs, ha, hy, k1, k2, deep, m, q⟩ := h
  cases rx
  cases rxs with
  | cons ry rt =>
    cases rt
    obtain ⟨its, rv, pl, hz⟩ := I.list (show SqL X.K H a vs from hs)
    exact SeqAt.call_list_index pl.isList (items_eq I rv ry ha hy k1 k2 deep (by rw [Around.in1_units]; omega)) (by rw [keyDs_len, ← dpAll_len ha]; exact hz) (keyDs_mem m) ⟨.int _, H, I.tok _, ⟨_, rfl⟩, q⟩
end
end My
set_option Elab.async false
set_option linter.all false
set_option maxRecDepth 100000
set_option maxHeartbeats 4000000
/-! dict(zip(t, l)), t a tuple of ints and l a list -/
namespace My
open PySem L2 PySem.Spec PyProof.Rows PySem.W
section
variable {P : Program} {w : World} {A : Around} {E : Value → Shared → Prop} {s : Shared} {z TI TO i1 i2 : Addr} {f1 f2 : List Addr} {n1 n2 i : Nat} {P1 P2 : Nat → Value → Prop} {S1 S2 : Nat → Heap → Prop}
/-- next of a zip whose last pair is held elsewhere -/
theorem held_item {T : Addr} {b : Bool} {oT : Obj} {Q : Value → Shared → Prop} (S : ZipSep2 z TI TO i1 i2 f1 f2) (D1 : Draws P w A i1 f1 n1 P1 S1) (D2 : Draws P w A i2 f2 n2 P2 S2) (hz : IsZipHeld s.heap z TI TO T b) (hT : s.heap.get? T = some oT) (hI : IsTupOf2 s.heap TI (.ref i1) (.ref i2)) (st1 : S1 i s.heap) (st2 : S2 i s.heap) (l1 : i < n1) (l2 : i < n2)
    (q : ∀ x y h' tk, P1 i x → P2 i y → IsZipHeld h' z TI TO T true → S1 (i + 1) h' → S2 (i + 1) h' → IsTupOf2 h' s.heap.objs.size x y → (∀ c o, c ≠ z → c ≠ i1 → c ≠ i2 → s.heap.get? c = some o → h'.get? c = some o) → Q (.ref s.heap.objs.size) { s with heap := h', toks := tk }) :
    wpAny (model P w) A (Builtin.«zip.__next__» ⟨[.ref z], []⟩) (fun fin s' => ∃ v, fin = .done (.ret v) ∧ Q v s') E s := by
  obtain ⟨hp, g, d, t0, os⟩ := s
  show wpAny _ _ (field (.ref z) 2 >>= _) _ _ _
  refine wpAny_bind (wpAny_field hz rfl (x := .bool false) rfl ?_)
  show wpAny _ _ (field (.ref z) 3 >>= _) _ _ _
  refine wpAny_bind (wpAny_field hz rfl (x := .ref TI) rfl (wpAny_bind (wpAny_seqItems hI rfl ?_)))
  show wpAny _ _ (Builtin.SmallTypes.ownedTupleIsFree (.ref z) >>= _) _ _ _
  refine wpAny_bind (wpAny_tupleHeld_zip hz hT fun h1 hz1 o1 => ?_)
  replace o1 : Heap.SameBut z hp h1 := o1
  simp only [Bool.false_eq_true, if_false]
  refine wpAny_bind ?_
  rw [← Array.forIn_toList]
  simp only [List.forIn_cons, List.forIn_nil]
  refine wpAny_bind (wpAny_bind (wpAny_holding ?_))
  show wpAny _ _ (Builtin.SmallTypes.nextOf (.ref i1) >>= _) _ _ _
  refine wpAny_bind (D1.item i ⟨h1, g, d, t0, os⟩ _ _ l1 (D1.over st1 o1 S.zf1) fun x h2 t1 px sn1 o2 => wpAny_pure (wpAny_pure ?_))
  replace o2 : Heap.SameBut i1 h1 h2 := o2
  refine wpAny_bind (wpAny_bind (wpAny_holding ?_))
  show wpAny _ _ (Builtin.SmallTypes.nextOf (.ref i2) >>= _) _ _ _
  refine wpAny_bind (D2.item i ⟨h2, g, d, t1, os⟩ _ _ l2 (D2.over (D2.over st2 o1 S.zf2) o2 S.sep1_2) fun y h3 t2 py sn2 o3 => wpAny_pure (wpAny_pure (wpAny_pure ?_)))
  replace o3 : Heap.SameBut i2 h2 h3 := o3
  show wpAny _ _ (newTuple [x, y] >>= _) _ _ ⟨h3, g, d, t2, os⟩
  refine wpAny_bind (wpAny_newTuple ?_)
  have sz : h3.objs.size = hp.objs.size := by rw [o3.1, o2.1, o1.1]
  have z3 : IsZipHeld h3 z TI TO T true := o3.extBut _ _ S.zi2 (o2.extBut _ _ S.zi1 hz1)
  have up : ∀ c o, h3.get? c = some o → (h3.push { cls := .type "tuple", data := .seq #[x, y] }).get? c = some o := fun c o e => Heap.get?_push_of_some _ e
  have born : IsTupOf2 (h3.push { cls := .type "tuple", data := .seq #[x, y] }) hp.objs.size x y := by
    rw [← sz]
    exact Heap.get?_push_size _ rfl
  refine wpAny_pure ⟨_, rfl, ?_⟩
  show Q (.ref h3.objs.size) _
  rw [sz]
  exact q x y _ t2 px py (up _ _ z3) (D1.frame _ _ _ (D1.over sn1 o3 S.sep2_1) fun c _ o e => up c o e) (D2.frame _ _ _ sn2 fun c _ o e => up c o e) born fun c o c1 c2 c3 e => up c o (o3.extBut _ _ c3 (o2.extBut _ _ c2 (o1.extBut _ _ c1 e)))
theorem held_end {T : Addr} {b : Bool} {oT : Obj} {Q : PySem.Fin → Shared → Prop} (S : ZipSep2 z TI TO i1 i2 f1 f2) (D1 : Draws P w A i1 f1 n1 P1 S1) (hz : IsZipHeld s.heap z TI TO T b) (hT : s.heap.get? T = some oT) (hI : IsTupOf2 s.heap TI (.ref i1) (.ref i2)) (st1 : S1 n1 s.heap)
    (q : ∀ h' e, (∀ c o, c ≠ z → c ≠ i1 → s.heap.get? c = some o → h'.get? c = some o) → (∃ o, h'.get? e = some o ∧ o.cls = .type "StopIteration") → E (.ref e) { s with heap := h' }) :
    wpAny (model P w) A (Builtin.«zip.__next__» ⟨[.ref z], []⟩) Q E s := by
  obtain ⟨hp, g, d, t0, os⟩ := s
  show wpAny _ _ (field (.ref z) 2 >>= _) _ _ _
  refine wpAny_bind (wpAny_field hz rfl (x := .bool false) rfl ?_)
  show wpAny _ _ (field (.ref z) 3 >>= _) _ _ _
  refine wpAny_bind (wpAny_field hz rfl (x := .ref TI) rfl (wpAny_bind (wpAny_seqItems hI rfl ?_)))
  show wpAny _ _ (Builtin.SmallTypes.ownedTupleIsFree (.ref z) >>= _) _ _ _
  refine wpAny_bind (wpAny_tupleHeld_zip hz hT fun h1 hz1 o1 => ?_)
  replace o1 : Heap.SameBut z hp h1 := o1
  simp only [Bool.false_eq_true, if_false]
  refine wpAny_bind ?_
  rw [← Array.forIn_toList]
  simp only [List.forIn_cons, List.forIn_nil]
  refine wpAny_bind (wpAny_bind (wpAny_holding ?_))
  show wpAny _ _ (Builtin.SmallTypes.nextOf (.ref i1) >>= _) _ _ _
  exact wpAny_bind (D1.done ⟨h1, g, d, t0, os⟩ _ _ (D1.over st1 o1 S.zf1) fun h2 e o2 he => q h2 e (fun c o c1 c2 x => o2 _ _ c2 (o1.extBut _ _ c1 x)) he)
end
section
variable {P : Program} {w : World}
/-- what stands behind a zip of a tuple and a list at the i-th turn; d the dict that is made -/
def ZipSt (z TI TO i1 i2 a b d : Addr) (xs ys : Array Value) (i : Nat) (h : Heap) : Prop := IsTupOf2 h TI (.ref i1) (.ref i2) ∧ (h.IsTupleIter i1 a i ∧ h.IsTuple a xs) ∧ (h.IsListIter i2 b i ∧ h.IsList b ys) ∧
  ((IsZip h z TI TO .none ∧ ∃ u v, IsTupOf2 h TO u v) ∨ ∃ T f oT, IsZipHeld h z TI TO T f ∧ h.get? T = some oT ∧ T ≠ z ∧ T ≠ i1 ∧ T ≠ i2 ∧ T ≠ d)
theorem zip_src {A : Around} {z TI TO i1 i2 a b : Addr} (calm : A.handled = none) (S : ZipSep2 z TI TO i1 i2 [i1, a] [i2, b]) (nai : a ≠ i1) (nbi : b ≠ i2) (xs ys : Array Value) (same : xs.size = ys.size) (na : a ≠ z) (na2 : a ≠ TO) (na3 : a ≠ i2) (nb : b ≠ z) (nb2 : b ≠ TO) (nb3 : b ≠ i1) {d : Addr} (hd : d ∉ ([z, TI, TO, i1, i2, a, b] : List Addr)) :
    PySem.PairSrc P w A z d [z, TO, i1, i2] xs.size (fun i k v => xs[i]? = some k ∧ ys[i]? = some v) (ZipSt z TI TO i1 i2 a b d xs ys) := by
  have D1 : Draws P w A.in1 i1 _ _ _ _ := Draws.tuple (by simpa using calm) i1 a nai xs
  have D2 : Draws P w A.in1 i2 _ _ _ _ := Draws.list (by simpa using calm) i2 b nbi ys
  simp only [List.mem_cons, List.not_mem_nil, or_false, not_or] at hd
  obtain ⟨d1, d2, d3, d4, d5, d6, d7⟩ := hd
  refine ⟨by simp [d1, d3, d4, d5], ?_, ?_, ?_⟩
  · rintro i h h' ⟨t1, ⟨t2, t3⟩, ⟨t4, t5⟩, t6⟩ k
    refine ⟨k _ _ (Ne.symm d2) t1, ⟨t2.at fun o e => k _ o (Ne.symm d4) e, t3.at fun o e => k _ o (Ne.symm d6) e⟩, ⟨t4.at fun o e => k _ o (Ne.symm d5) e, t5.at fun o e => k _ o (Ne.symm d7) e⟩, ?_⟩
    rcases t6 with ⟨u1, u, v, u2⟩ | ⟨T, f, oT, u1, u2, r1, r2, r3, r4⟩
    · exact .inl ⟨k _ _ (Ne.symm d1) u1, u, v, k _ _ (Ne.symm d3) u2⟩
    · exact .inr ⟨T, f, oT, k _ _ (Ne.symm d1) u1, k _ _ r4 u2, r1, r2, r3, r4⟩
  · rintro i s Q E li ⟨t1, st1, st2, t6⟩ ld q
    have lt : ∀ {c : Addr} {o : Obj}, s.heap.get? c = some o → s.heap.objs.size ≠ c := fun e => Nat.ne_of_gt (Heap.lt_size e)
    have ty : s.TypeIs (.ref z) "zip" := by
      rcases t6 with ⟨u1, _⟩ | ⟨_, _, _, u1, _⟩
      · exact ⟨_, u1, rfl⟩
      · exact ⟨_, u1, rfl⟩
    have m1 : s.heap.objs.size ≠ i1 := by
      obtain ⟨⟨_, e, _⟩, _⟩ := st1
      exact lt e
    have m2 : s.heap.objs.size ≠ i2 := by
      obtain ⟨⟨_, e, _⟩, _⟩ := st2
      exact lt e
    unfold pyNext
    refine wpAny_bind (wpAny_attempt (wpAny_callSpecial?_slot (name := Str.ofString "__next__") ty PySem.F.slot_zip_next (wpAny_call_entry PySem.F.slot_zip_next ty PySem.F.entry_zip_next ?_ (PySem.F.args_zip_next_1 _))))
    rcases t6 with ⟨u1, u, v, u2⟩ | ⟨T, f, oT, u1, u2, r1, r2, r3, r4⟩
    · refine zipD2_next_item S D1 D2 u1 t1 u2 st1 st2 li (by rw [← same]; exact li) fun x y h' tk px py z' _ s1 s2 born sz keep => wpAny_pure (q s.heap.objs.size x y h' tk ⟨px, py⟩ (.inl ⟨_, born, rfl, _, rfl⟩) ⟨keep _ _ S.TIz S.TITO S.TIi1 S.TIi2 t1, s1, s2, .inr ⟨s.heap.objs.size, false, _, z', born, lt u1, m1, m2, Nat.ne_of_gt ld⟩⟩ fun c o hc e => keep c o ?_ ?_ ?_ ?_ e)
      all_goals exact fun x => hc (by simp [x])
    · refine held_item S D1 D2 u1 u2 t1 st1 st2 li (by rw [← same]; exact li) fun x y h' tk px py z' s1 s2 born keep => wpAny_pure (q s.heap.objs.size x y h' tk ⟨px, py⟩ (.inl ⟨_, born, rfl, _, rfl⟩) ⟨keep _ _ S.TIz S.TIi1 S.TIi2 t1, s1, s2, .inr ⟨T, true, oT, z', keep _ _ r1 r2 r3 u2, r1, r2, r3, r4⟩⟩ fun c o hc e => keep c o ?_ ?_ ?_ e)
      all_goals exact fun x => hc (by simp [x])
  · rintro s Q E ⟨t1, st1, st2, t6⟩ q
    have ty : s.TypeIs (.ref z) "zip" := by
      rcases t6 with ⟨u1, _⟩ | ⟨_, _, _, u1, _⟩
      · exact ⟨_, u1, rfl⟩
      · exact ⟨_, u1, rfl⟩
    unfold pyNext
    refine wpAny_bind (wpAny_attempt (wpAny_callSpecial?_slot (name := Str.ofString "__next__") ty PySem.F.slot_zip_next (wpAny_call_entry PySem.F.slot_zip_next ty PySem.F.entry_zip_next ?_ (PySem.F.args_zip_next_1 _))))
    rcases t6 with ⟨u1, u, v, u2⟩ | ⟨T, f, oT, u1, u2, r1, r2, r3, r4⟩
    · refine zipD2_next_end S D1 D2 u1 t1 u2 st1 st2 (Nat.le_refl _) (by rw [same]; exact Nat.le_refl _) (.inl rfl) fun h' tk e keep he => ?_
      obtain ⟨o, ho, hc⟩ := he
      refine wpAny_bind (wpAny_isInstance (s := { s with heap := h', toks := tk }) (T := "StopIteration") (b := true) ⟨o, ho, hc⟩ isSubtype_stop (wpAny_pure (q h' tk fun c o hc x => keep c o ?_ ?_ ?_ ?_ x)))
      all_goals exact fun x => hc (by simp [x])
    · refine held_end S D1 u1 u2 t1 st1 fun h' e keep he => ?_
      obtain ⟨o, ho, hc⟩ := he
      refine wpAny_bind (wpAny_isInstance (s := { s with heap := h' }) (T := "StopIteration") (b := true) ⟨o, ho, hc⟩ isSubtype_stop (wpAny_pure (q h' s.toks fun c o hc x => keep c o ?_ ?_ x)))
      all_goals exact fun x => hc (by simp [x])
theorem zip_arg {z TI TO i1 i2 a b : Addr} (S : ZipSep2 z TI TO i1 i2 [i1, a] [i2, b]) (nai : a ≠ i1) (nbi : b ≠ i2) (xs ys : Array Value) (same : xs.size = ys.size) (na : a ≠ z) (na2 : a ≠ TO) (na3 : a ≠ i2) (nb : b ≠ z) (nb2 : b ≠ TO) (nb3 : b ≠ i1) :
    PySem.PairArg P w "zip" z [z, TI, TO, i1, i2, a, b] [z, TO, i1, i2] xs.size (fun i k v => xs[i]? = some k ∧ ys[i]? = some v) (fun h => IsTupOf2 h TI (.ref i1) (.ref i2) ∧ (h.IsTupleIter i1 a 0 ∧ h.IsTuple a xs) ∧ (h.IsListIter i2 b 0 ∧ h.IsList b ys) ∧ IsZip h z TI TO .none ∧ ∃ u v, IsTupOf2 h TO u v) where
  type := fun s ok => ⟨_, ok.2.2.2.1, rfl⟩
  notDict := by decide
  keep := fun h h' ok k => by
    obtain ⟨t1, ⟨t2, t3⟩, ⟨t4, t5⟩, t6, u, v, t7⟩ := ok
    exact ⟨k _ _ t1, ⟨t2.at fun o e => k _ o e, t3.at fun o e => k _ o e⟩, ⟨t4.at fun o e => k _ o e, t5.at fun o e => k _ o e⟩, k _ _ t6, u, v, k _ _ t7⟩
  there := fun h ok c hc => by
    obtain ⟨t1, ⟨⟨o2, t2, _⟩, ⟨o3, t3, _⟩⟩, ⟨⟨o4, t4, _⟩, ⟨o5, t5, _⟩⟩, t6, u, v, t7⟩ := ok
    simp only [List.mem_cons, List.not_mem_nil, or_false] at hc
    rcases hc with e | e | e | e | e | e | e <;> rw [e]
    all_goals first | exact ⟨_, t6⟩ | exact ⟨_, t1⟩ | exact ⟨_, t7⟩ | exact ⟨_, t2⟩ | exact ⟨_, t4⟩ | exact ⟨_, t3⟩ | exact ⟨_, t5⟩
  sub := fun c hc => by
    simp only [List.mem_cons, List.not_mem_nil, or_false] at hc ⊢
    rcases hc with e | e | e | e <;> simp [e]
  noKeys := fun A s Q E calm ok q => getAttrOr_miss_zip ok.2.2.2.1 rfl rfl rfl zip_no_keys (by decide +kernel) calm q
  iter := fun A s d Q E calm ok ld hd q => by
    obtain ⟨t1, t2, t4, t6, u, v, t7⟩ := ok
    refine wpAny_pyIter_zip t6 (q z [z, TO, i1, i2] (ZipSt z TI TO i1 i2 a b d xs ys) s.heap s.toks (zip_src calm S nai nbi xs ys same na na2 na3 nb nb2 nb3 hd) ⟨t1, t2, t4, .inl ⟨t6, u, v, t7⟩⟩ (fun _ _ e => e) fun c hc => .inl hc)
end
/-- the pairs of the dict -/
def zipK (ns : List Int) (ys : List V) : List (Key × V) := (ns.zip ys).map fun p => (.inl p.1, p.2)
def tDictZip (K : PySem.W.Frag) (ta : TA) : TE := fun σ H Q => ta σ H fun vs H1 => ∃ (a b : Addr) (ns : List Int) (ys : List V), vs = [.ref a, .ref b] ∧ SqT K H1 a (ns.map V.int) ∧ SqL K H1 b ys ∧ ns.length = ys.length ∧ ∀ p, H1 p = none → Q (.ref p) (upd H1 p (.dK (mergeK [] (zipK ns ys))))
theorem pe_dictZip {X : Cx} {e e2 : Expr} {ta : TA} {p p2 q pos : Pos} (hc : X.calm = true) (hu : X.A.units + 100 < cLine) (hg : Gl X "dict") (hm : X.mg "dict" = none) (hg2 : Gl X "zip") (hm2 : X.mg "zip" = none) (ha : PA X [e, e2] ta)
    (hs : starEach [e, e2] X.env = (false, eval e X.env) :: starEach [e2] X.env := by rfl) (hpl : (backTo q (starEach [e2] X.env)).any (·.1) = false := by rfl) :
    PE X (.Call (.Name "dict" p) [.Call (.Name "zip" p2) [e, e2] [] q] [] pos) (tDictZip X.K ta) := by
  refine ⟨fun pins s σ H Q I want => ?_⟩
  refine Call_ (ld_blt I hg hm PyProof.Rows.boot_dict (PyProof.Rows.callWith_type1 (PyProof.Rows.args_cons (Call_ (ld_blt I hg2 hm2 PyProof.Rows.boot_zip (PyProof.Rows.callWith_type1 (thn (ha.run q pins s σ H _ I want) fun us s1 ⟨vs, H1, I1, r1, a, b, ns, ys, ev, ht, hl, el, k⟩ => ?_) hs hpl))) rfl) rfl rfl))
  subst ev
  obtain ⟨u1, u2, rfl, ra, rb⟩ := vals2 r1
  cases ra
  cases rb
  obtain ⟨its, rv, pa, lz⟩ := I1.tuple ht
  obtain ⟨its2, rv2, pb, _⟩ := I1.list hl
  have isT : s1.heap.IsTuple a its.toArray := pa
  have isL : s1.heap.IsList b its2.toArray := pb.isList
  obtain ⟨oa, ea, _⟩ := id isT
  obtain ⟨ob, eb, _⟩ := id isL
  have la := Heap.lt_size ea
  have lb := Heap.lt_size eb
  have s1z : its.length = ns.length := by rw [← rv.length, List.length_map]
  have s2z : its2.length = ys.length := rv2.length.symm
  refine zip_begins2 (begins_tuple a its.toArray) (begins_list b its2.toArray) isT isL fun h' gz gT gO g1 g2 hsz keep => PyProof.Rows.args_nil ?_
  have I2 : Inv X pins σ H1 { s1 with heap := h' } := I1.kept (t' := s1.toks) keep
  have ne : ∀ (j : Nat), a ≠ s1.heap.objs.size + j ∧ b ≠ s1.heap.objs.size + j := fun j => ⟨Nat.ne_of_lt (Nat.lt_of_lt_of_le la (Nat.le_add_right _ _)), Nat.ne_of_lt (Nat.lt_of_lt_of_le lb (Nat.le_add_right _ _))⟩
  have same : its.toArray.size = its2.toArray.size := by rw [List.size_toArray, List.size_toArray, s1z, s2z, el]
  -- the values
  have valA : ∀ i, i < ns.length → ∃ t, its[i]? = some (.int (ns.getD i 0) t) := fun i li => by
    have hn : (ns.map V.int)[i]? = some (V.int (ns.getD i 0)) := by rw [List.getElem?_map, List.getD_eq_getElem?_getD, List.getElem?_eq_getElem li]; rfl
    obtain ⟨u, hu, t, rfl⟩ := rv.get hn
    exact ⟨t, hu⟩
  have rel : ∀ (ns : List Int) (ys : List V) (us : List Value), Vals ys us → ns.length = ys.length → KV (zipK ns ys) ((ns.zip us).map fun p => ((.inl p.1 : Key), p.2)) := fun ns => by
    induction ns with
    | nil => exact fun ys us _ _ => .nil
    | cons n ns ih =>
      intro ys us r e
      cases r with
      | nil => cases e
      | @cons y u ys us ru r => exact .cons ⟨rfl, ru⟩ (ih ys us r (Nat.succ.inj e))
  have r0 := rel ns ys its2 rv2 el
  have few : ns.length ≤ sizeLine := by
    rw [List.length_map] at lz
    exact lz
  refine call_dict_pairs (knd := mixKind X.prog X.w) (kvs := (ns.zip its2).map fun p => ((.inl p.1 : Key), p.2)) (zip_arg (sep_of la lb) (ne 0).1 (ne 1).2 its.toArray its2.toArray same (ne 4).1 (ne 3).1 (ne 1).1 (ne 4).2 (ne 3).2 (ne 0).2) (I1.ok.hd hc) ⟨gT, ⟨⟨_, g1, rfl, rfl⟩, by
      obtain ⟨o, ho, r⟩ := isT
      exact ⟨o, keep _ _ ho, r⟩⟩, ⟨⟨_, g2, rfl, rfl⟩, by
      obtain ⟨o, ho, r⟩ := isL
      exact ⟨o, keep _ _ ho, r⟩⟩, gz, _, _, gO⟩ ⟨by rw [List.length_map, List.length_zip, s2z, List.size_toArray, s1z, ← el, Nat.min_self], fun i key v ⟨h1, h2⟩ => ?_⟩ (by rw [List.size_toArray, s1z]; exact few) fun h2 tk dd keep2 => ?_
  · have li : i < ns.length := by
      have z := (Array.getElem?_eq_some_iff.mp h1).1
      rw [List.size_toArray, s1z] at z
      exact z
    obtain ⟨t, ht2⟩ := valA i li
    have h1' : its[i]? = some key := by simpa using h1
    have h2' : its2[i]? = some v := by simpa using h2
    rw [ht2] at h1'
    refine ⟨.inl (ns.getD i 0), ?_, ?_⟩
    · rw [List.getElem?_map, (List.getElem?_zip_eq_some (l₁ := ns) (l₂ := its2) (i := i) (z := (ns.getD i 0, v))).mpr ⟨by rw [List.getD_eq_getElem?_getD, List.getElem?_eq_getElem li]; rfl, h2'⟩]
      rfl
    · rw [← Option.some.inj h1']
      exact mixKind_int _ _ _ _
  · have big : sysModules < h'.objs.size := by
      have z : ({ s1 with heap := h' } : Shared).heap.objs.size = h'.objs.size := rfl
      exact I2.big
    have np : (h'.objs.size == sysModules) = false := beq_eq_false_iff_ne.mpr (Ne.symm (Nat.ne_of_lt big))
    have ll := length_mergeK (zipK ns ys) []
    have lk : (zipK ns ys).length = ns.length := by unfold zipK; rw [List.length_map, List.length_zip, ← el, Nat.min_self]
    have lt5 : s1.heap.objs.size ≤ h'.objs.size := by rw [hsz]; exact Nat.le_add_right _ _
    refine ⟨.ref h'.objs.size, upd H1 h'.objs.size (.dK (mergeK [] (zipK ns ys))), ?_, rfl, k _ (I1.hok.fresh lt5)⟩
    refine I1.laid (t' := tk) (fun c u e => keep2 c u (fun m => ?_) (keep c u e)) lt5 (dk_new (by rw [List.length_nil] at ll; omega) np (KV.merge r0 .nil) dd)
    have lc := Heap.lt_size e
    simp only [List.mem_cons, List.not_mem_nil, or_false] at m
    rcases m with m | m | m | m
    · exact absurd lc (by rw [m]; exact Nat.not_lt.mpr (Nat.le_add_right _ _))
    · exact absurd lc (by rw [m]; exact Nat.not_lt.mpr (Nat.le_add_right _ _))
    · exact absurd lc (by rw [m]; exact Nat.lt_irrefl _)
    · exact absurd lc (by rw [m]; exact Nat.not_lt.mpr (Nat.le_add_right _ _))
end My
set_option Elab.async false
set_option linter.all false
set_option maxRecDepth 100000
set_option maxHeartbeats 4000000
/-! l.extend(t), t a tuple -/
namespace My
open PySem L2 PySem.Spec PyProof.Rows
section
open AutoSeq1
theorem extend_tup (l b : Addr) (its zs : Array Value) (n m : Nat) (dd : Option Addr) (sl : Array (Option Value)) (long : ¬(!its.isEmpty && Builtin.List.listTooLong (its.size + zs.size)) = true) (few : its.size ≤ sizeLine) (far : its.size + zs.size ≤ sizeLine + 1) :
    Meets (Builtin.«list.extend» ⟨[.ref l, .ref b], []⟩) (fun _ R s => s.heap.get? l = some { cls := .type "list", data := .seq its n } ∧ s.heap.get? b = some { cls := .type "tuple", dict := dd, data := .seq zs m, slots := sl } ∧ R (.ok (.ret Value.none)) { s with heap := s.heap.update l (Obj.mapSeq (· ++ zs)), toks := s.toks }) :=
  .of_wp fun prog w A R s h => by
    obtain ⟨hp, g, d, tk, os⟩ := s
    obtain ⟨hl, hb, q⟩ := h
    have a1 := AutoSeq1.idx_int
    have a2 := AutoSeq1.sub_tuple_tuple
    have a3 := AutoSeq1.sub_list_list
    have a4 := AutoSeq1.sub_tuple_list
    have a5 := AutoSeq1.sub_list_tuple
    have both : (its ++ zs).size ≤ sizeLine + 1 := by rw [Array.size_append]; exact far
    wp_walk using (wpAny_updateSeq hl rfl (hz := few) (_hz' := both)), wpAny_loadPart' hl, wpAny_loadPart' hb
    exact ⟨_, rfl, q⟩
end
section
variable {X : Cx}
def rExtendT (K : PySem.W.Frag) : V → List V → Hp → VK → Prop := fun x vs H Q => ∃ (l b : Addr) (xs zs : List V), x = .ref l ∧ vs = [.ref b] ∧ H l = some (.lst xs) ∧ SqT K H b zs ∧ xs.length + zs.length ≤ sizeLine ∧ Q .non (upd H l (.lst (xs ++ zs)))
theorem mt_extendT : MtR X "list.extend" (rExtendT X.K) := by
  intro pins s σ H x vs v us Q I rx rv h
  obtain ⟨l, b, xs, zs, rfl, rfl, hl, hb, far, q⟩ := h
  cases rx
  cases rv with
  | cons ry rt =>
    cases rt
    cases ry
    obtain ⟨_, its, n, r, len, e⟩ := I.lstM hl
    obtain ⟨its2, r2, ⟨⟨cls, dd, data, sl⟩, e2, hc, m, hd⟩, _⟩ := I.tuple hb
    dsimp only at hc hd
    subst hc hd
    have len2 := r2.length
    have sz : its.toArray.size + its2.toArray.size ≤ sizeLine := by rw [List.size_toArray, List.size_toArray]; omega
    refine call_meets F.slot_list_extend ⟨_, e, rfl⟩ F.entry_list_extend (F.args_list_extend_2 _ _) (extend_tup l b its.toArray its2.toArray n m dd sl (by rw [notLongL sz, Bool.and_false]; decide) (by rw [List.size_toArray]; omega) (by omega)) ⟨e, e2, ?_⟩
    refine ⟨.non, _, I.lset (its' := its ++ its2) hl e (by simp) (r.append r2) ?_, rfl, q⟩
    rw [List.length_append]
    omega
end
end My
set_option Elab.async false
set_option linter.all false
set_option maxRecDepth 100000
set_option maxHeartbeats 4000000
/-! list(d.values()), keys numbers and texts -/
namespace My
open PySem L2 PySem.Spec PyProof.Rows
def ValsO (p a : Addr) : HO := .ext fun h => h.IsValuesView p a
theorem vals_at : ∀ {us : List Value} {kvs : List (Key × V)} {vs : List (Key × Value)}, us.length = vs.length → KV kvs vs → (∀ (j : Nat) (v : Value), us[j]? = some v → ∃ k : Key, vs[j]? = some (k, v)) → Vals (kvs.map (·.2)) us
  | us, [], [], l, _, _ => by
    obtain rfl := List.length_eq_zero_iff.mp l
    exact .nil
  | [], _ :: _, _ :: _, l, _, _ => by cases l
  | us, [], _ :: _, _, r, _ => by cases r
  | us, _ :: _, [], _, r, _ => by cases r
  | u :: us, kv :: kvs, w :: vs, l, r, h => by
    cases r with
    | cons r t =>
      obtain ⟨k, e⟩ := h 0 u rfl
      have e1 : w = (k, u) := Option.some.inj e
      refine .cons ?_ (vals_at (Nat.succ.inj l) t fun j v e => h (j + 1) v e)
      have := r.2
      rw [e1] at this
      exact this
section
variable {X : Cx} {o : Expr} {apos mpos : Pos} {td : TE}
def tVals (td : TE) : TE := fun σ H Q => td σ H fun x H1 => ∃ a kvs, x = V.ref a ∧ H1 a = some (.dK kvs) ∧ ∀ p, H1 p = none → Q (.ref p) (upd H1 p (ValsO p a))
theorem pe_vals (hd : PE X o td) (hbase : attributeBase o "values" X.env (eval o X.env) = eval o X.env := by rfl) (hline : (apos.endLine == mpos.line) = true := by rfl) :
    PE X (.Call (.Attribute o "values" apos) [] [] mpos) (tVals td) := by
  refine ⟨fun pins s σ H Q I h => ?_⟩
  refine wpAny_Call_method0_late hbase hline (thn (hd.run pins s σ H _ I h) fun v s1 ⟨x, H1, I1, r1, a, kvs, ex, ha, q⟩ => ?_)
  subst ex
  obtain rfl : v = Value.ref a := r1
  obtain ⟨_, hsys, vs, rel, dof⟩ := dk_of I1.hok ha
  obtain ⟨ep, dat⟩ := dof.dictAt
  have dat' := dat
  obtain ⟨ob, es, ho, ex, hdat, hko, hpr, hnd⟩ := dat'
  refine ⟨"dict", "dict.values", F.plainAttrs_dict, F.slot_dict_values, F.type_dict_values, ⟨ob, ho, ex.1⟩, fun b e => ?_, Calls.callWith_builtin rfl (PySem.evalArgs_none ?_)⟩
  · cases e
    exact ⟨ob, ho, ex.2.1⟩
  refine call_meetsIn F.slot_dict_values ⟨ob, ho, ex.1⟩ F.entry_dict_values (F.args_dict_values_1 _) (meets_dict_values (mixKind X.prog X.w) a hsys) ⟨⟨vs, dof⟩, ?_⟩
  have view : (s1.heap.push { cls := .type "dict_values", data := .fields #[.ref a] }).IsValuesView s1.heap.objs.size a := ⟨_, Heap.get?_push_size _ rfl, rfl, rfl⟩
  have I2 : Inv X pins σ (upd H1 s1.heap.objs.size (ValsO s1.heap.objs.size a)) { s1 with heap := s1.heap.push { cls := .type "dict_values", data := .fields #[.ref a] } } :=
    I1.laid (t' := s1.toks) (fun b o e => Heap.get?_push_of_some _ e) (Nat.le_refl _) (show ObjOk X.prog X.w _ _ _ (ValsO _ a) from ⟨view, ⟨_, Heap.get?_push_size _ rfl⟩, fun h1 h2 z k => let ⟨o, ho, x⟩ := z; ⟨o, k o ho, x⟩⟩)
  exact ⟨.ref s1.heap.objs.size, _, I2, rfl, q _ (I1.hok.fresh (Nat.le_refl _))⟩
theorem cr_listVals (hc : X.calm = true) : CallR X (.type "list") (fun xs H Q => ∃ (p a : Addr) (kvs : List (Key × V)), xs = [.ref p] ∧ H p = some (ValsO p a) ∧ H a = some (.dK kvs) ∧ ∀ l, H l = none → Q (.ref l) (upd H l (.lst (kvs.map (·.2))))) := by
  intro pins s σ H xs us Q I r q
  obtain ⟨p, a, kvs, rfl, hp, ha, q⟩ := q
  obtain ⟨u, rfl, rx⟩ := vals1 r
  cases rx
  obtain ⟨z, _, vs, rel, dof⟩ := dk_of I.hok ha
  obtain ⟨ep, dat⟩ := dof.dictAt
  have view : s.heap.IsValuesView p a := (I.hok p _ hp).1
  refine PySem.W.kdl_call (PySem.W.kdl_values (knd := mixKind X.prog X.w) (kvs := vs) (ep := ep)) (I.ok.hd hc) ⟨view, dat⟩ (by rw [← rel.length]; exact z) fun h' tk acc c' hk hD hacc => ?_
  have hv : Vals (kvs.map (·.2)) acc.toList := vals_at (by rw [Array.length_toList]; exact hacc.1) rel fun j v e => hacc.2 j v (by rw [← Array.getElem?_toList]; exact e)
  refine ⟨.ref s.heap.objs.size, upd H s.heap.objs.size (.lst (kvs.map (·.2))), I.laid (t' := tk) hk (Nat.le_refl _)
    (show ObjOk X.prog X.w _ _ _ (.lst (kvs.map (·.2))) from ⟨by rw [List.length_map]; exact z, acc.toList, c', hv, by rw [Array.toArray_toList]; exact hD⟩), rfl, q _ (I.hok.fresh (Nat.le_refl _))⟩
end
end My
set_option Elab.async false
set_option linter.all false
set_option maxRecDepth 100000
set_option maxHeartbeats 4000000
namespace My
open PySem L2 PySem.Spec PyProof.Rows
/-! ### rules of my own: a list's item read for `draw[1] += 1`; an item of a list or a tuple; a quotient by any great number -/
theorem get_list {X : Cx} : PGet X (rIxL X.K) := by
  intro pins s σ H o i ov iv Q I ro ri want
  obtain ⟨l, items, at_, got, eo, ei, seq, place, end_⟩ := want
  subst eo ei
  cases ro
  obtain ⟨tok, rfl⟩ := ri
  obtain ⟨own, rel, plain, _⟩ := I.list seq
  obtain ⟨k, ix, gk, kl, lo, up⟩ := atI_get place
  obtain ⟨u, gu, ru⟩ := rel.get gk
  have len := rel.length
  have far := line63
  have done_ : EP X pins σ Q u s := ⟨got, H, I, ru, end_⟩
  rcases Int.lt_or_le at_ 0 with neg | pos
  · have ek : (at_ + (own.toArray.size : Int)).toNat = k := by
      rw [seqIndex_neg neg lo] at ix
      rw [List.size_toArray, ← len]
      exact Option.some.inj ix
    exact wpAny_getItem_list_neg plain.isList neg (by rw [List.size_toArray] <;> omega) (by omega) (by rw [ek]; simpa using gu) done_
  · have ek : at_.toNat = k := by
      rw [seqIndex_of pos up] at ix
      exact Option.some.inj ix
    exact wpAny_getItem_list plain.isList pos (by omega) (by rw [ek]; simpa using gu) done_
theorem ix_lt {X : Cx} : IxR X (fun x y H Q => rIxL X.K x y H Q ∨ rIxT X.K x y H Q) := ix_list.or ix_tup
theorem seq_cut {t u : TS} {D : Ends} {σ : L2.St} {H : Hp} (R : L2.St → Hp → Prop) (h2 : ∀ σ' H', R σ' H' → u D σ' H') (h1 : (∀ σ' H', R σ' H' → u D σ' H') → t { D with nx := u D } σ H) : tSeq t u D σ H := h1 h2
theorem eqv_nil_ints (ns : List Int) (h : ns ≠ []) : PyData.eqv (.list (ns.map PyData.int)) (.list []) = false := by
  cases ns with
  | nil => exact absurd rfl h
  | cons n r => rfl

def CDivA (_ j : Int) : Prop := j ≠ 0 ∧ j.natAbs.log2 < 9000
theorem op_fdivA {X : Cx} : OpR X (binaryOp .FloorDiv) (rI CDivA fun i j => .int (i.fdiv j)) := opI fun i j _ _ _ _ _ hc q =>
  floordiv_int hc.1 q (.inl (PyProof.noPylong_of_log2 hc.2))
theorem hu64 {A : Around} {k : Nat} (hr : Room k A) : A.units + 64 < cLine := by
  have := hr.un
  omega
theorem divA_small {i j : Int} (h : j ≠ 0) (h1 : j.natAbs < 4294967296) : CDivA i j := ⟨h, Nat.lt_trans (PySem.Flt.log2_lt_of (k := 32) (by decide) (by simpa using h1)) (by decide)⟩
theorem hu100 {A : Around} {k : Nat} (hr : Room k A) : A.units + 100 < cLine := by
  have := hr.un
  omega
/-! ### the text by places -/
def top (i : Nat) : Stmt := PySem.Challenge.pw_evensieve_k04_draws.main.body.getD i (.Pass ⟨0, 0, 0, 0⟩)
abbrev s_is_row : Stmt := top 5
theorem sc_is_row : FnScope ["value"] ["value"] (defScope s_is_row) := ⟨rfl, rfl, rfl, by decide +kernel, rfl, by decide +kernel, by decide +kernel⟩
abbrev s_is_name : Stmt := top 6
theorem sc_is_name : FnScope ["value", "sign"] ["value"] (defScope s_is_name) := ⟨rfl, rfl, rfl, by decide +kernel, rfl, by decide +kernel, by decide +kernel⟩
abbrev s_lowest : Stmt := top 10
theorem sc_lowest : FnScope ["above", "below", "shared"] ["above", "below"] (defScope s_lowest) := ⟨rfl, rfl, rfl, by decide +kernel, rfl, by decide +kernel, by decide +kernel⟩
abbrev s_minus : Stmt := top 11
theorem sc_minus : FnScope ["one", "other"] ["one", "other"] (defScope s_minus) := ⟨rfl, rfl, rfl, by decide +kernel, rfl, by decide +kernel, by decide +kernel⟩
abbrev s_common : Stmt := top 12
theorem sc_common : FnScope ["rows", "below", "row"] ["rows"] (defScope s_common) := ⟨rfl, rfl, rfl, by decide +kernel, rfl, by decide +kernel, by decide +kernel⟩
abbrev s_ascending : Stmt := top 13
theorem sc_ascending : FnScope ["rows", "found", "above"] ["rows"] (defScope s_ascending) := ⟨rfl, rfl, rfl, by decide +kernel, rfl, by decide +kernel, by decide +kernel⟩
abbrev s_within : Stmt := top 20
theorem sc_within : FnScope ["formula"] ["formula"] (defScope s_within) := ⟨rfl, rfl, rfl, by decide +kernel, rfl, by decide +kernel, by decide +kernel⟩
abbrev s_formulas_in : Stmt := top 21
theorem sc_formulas_in : FnScope ["plans", "found", "waiting", "formula"] ["plans"] (defScope s_formulas_in) := ⟨rfl, rfl, rfl, by decide +kernel, rfl, by decide +kernel, by decide +kernel⟩
abbrev s_is_true : Stmt := top 22
theorem sc_is_true : FnScope ["plan", "told", "formula"] ["plan", "told"] (defScope s_is_true) := ⟨rfl, rfl, rfl, by decide +kernel, rfl, by decide +kernel, by decide +kernel⟩
abbrev s_Columns_init : Stmt := inClass (top 28) 0
theorem sc_Columns_init : FnScope ["self", "hashed", "asked", "summed", "part", "name"] ["self", "hashed", "asked", "summed"] (defScope s_Columns_init) := ⟨rfl, rfl, rfl, by decide +kernel, rfl, by decide +kernel, by decide +kernel⟩
abbrev s_wrong_part : Stmt := top 29
theorem sc_wrong_part : FnScope ["hashed", "asked", "summed", "names"] ["hashed", "asked", "summed"] (defScope s_wrong_part) := ⟨rfl, rfl, rfl, by decide +kernel, rfl, by decide +kernel, by decide +kernel⟩
abbrev s_are_names : Stmt := top 30
theorem sc_are_names : FnScope ["row", "most", "name"] ["row", "most"] (defScope s_are_names) := ⟨rfl, rfl, rfl, by decide +kernel, rfl, by decide +kernel, by decide +kernel⟩
abbrev s_are_asked : Stmt := top 31
theorem sc_are_asked : FnScope ["asked", "name"] ["asked"] (defScope s_are_asked) := ⟨rfl, rfl, rfl, by decide +kernel, rfl, by decide +kernel, by decide +kernel⟩
abbrev s_tests_in : Stmt := top 33
theorem sc_tests_in : FnScope ["plans", "formula"] ["plans"] (defScope s_tests_in) := ⟨rfl, rfl, rfl, by decide +kernel, rfl, by decide +kernel, by decide +kernel⟩
abbrev s_thresholds : Stmt := top 34
theorem sc_thresholds : FnScope ["plans", "test", "chances", "formula"] ["plans", "test"] (defScope s_thresholds) := ⟨rfl, rfl, rfl, by decide +kernel, rfl, by decide +kernel, by decide +kernel⟩
abbrev s_lengths : Stmt := top 35
theorem sc_lengths : FnScope ["plans", "test", "cuts", "low", "high"] ["plans", "test"] (defScope s_lengths) := ⟨rfl, rfl, rfl, by decide +kernel, rfl, by decide +kernel, by decide +kernel⟩
abbrev s_holds_at : Stmt := top 36
theorem sc_holds_at : FnScope ["plans", "plan", "answers", "parts", "told", "formula", "test", "chance"] ["plans", "plan", "answers", "parts"] (defScope s_holds_at) := ⟨rfl, rfl, rfl, by decide +kernel, rfl, by decide +kernel, by decide +kernel⟩
abbrev s__law_number : Stmt := top 38
theorem sc__law_number : FnScope ["script", "index", "cell", "turn", "rest", "step", "blend"] ["script", "index"] (defScope s__law_number) := ⟨rfl, rfl, rfl, by decide +kernel, rfl, by decide +kernel, by decide +kernel⟩
abbrev s__law_take : Stmt := top 39
theorem sc__law_take : FnScope ["draw", "many"] ["draw", "many"] (defScope s__law_take) := ⟨rfl, rfl, rfl, by decide +kernel, rfl, by decide +kernel, by decide +kernel⟩
abbrev s__law_pick : Stmt := top 40
theorem sc__law_pick : FnScope ["draw", "items"] ["draw", "items"] (defScope s__law_pick) := ⟨rfl, rfl, rfl, by decide +kernel, rfl, by decide +kernel, by decide +kernel⟩
abbrev s__law_low : Stmt := top 41
theorem sc__law_low : FnScope ["above", "below", "one", "other"] ["above", "below"] (defScope s__law_low) := ⟨rfl, rfl, rfl, by decide +kernel, rfl, by decide +kernel, by decide +kernel⟩
abbrev s__law_plus : Stmt := top 42
theorem sc__law_plus : FnScope ["one", "other"] ["one", "other"] (defScope s__law_plus) := ⟨rfl, rfl, rfl, by decide +kernel, rfl, by decide +kernel, by decide +kernel⟩
abbrev s__law_total : Stmt := top 43
theorem sc__law_total : FnScope ["rows", "found", "one"] ["rows"] (defScope s__law_total) := ⟨rfl, rfl, rfl, by decide +kernel, rfl, by decide +kernel, by decide +kernel⟩
abbrev s__law_columns : Stmt := top 44
theorem sc__law_columns : FnScope ["draw", "values"] ["draw"] (defScope s__law_columns) := ⟨rfl, rfl, rfl, by decide +kernel, rfl, by decide +kernel, by decide +kernel⟩
abbrev s__law_test : Stmt := top 45
theorem sc__law_test : FnScope ["draw", "columns", "chance", "word", "salt"] ["draw", "columns"] (defScope s__law_test) := ⟨rfl, rfl, rfl, by decide +kernel, rfl, by decide +kernel, by decide +kernel⟩
abbrev s__law_ask : Stmt := top 46
theorem sc__law_ask : FnScope ["draw", "columns", "name"] ["draw", "columns"] (defScope s__law_ask) := ⟨rfl, rfl, rfl, by decide +kernel, rfl, by decide +kernel, by decide +kernel⟩
abbrev s__law_formula : Stmt := top 47
theorem sc__law_formula : FnScope ["draw", "columns", "deep", "share", "kind", "many", "turn"] ["draw", "columns", "deep", "share"] (defScope s__law_formula) := ⟨rfl, rfl, rfl, by decide +kernel, rfl, by decide +kernel, by decide +kernel⟩
abbrev s__law_leaves : Stmt := top 48
theorem sc__law_leaves : FnScope ["plan", "found", "part"] ["plan"] (defScope s__law_leaves) := ⟨rfl, rfl, rfl, by decide +kernel, rfl, by decide +kernel, by decide +kernel⟩
abbrev s__law_cuts : Stmt := top 49
theorem sc__law_cuts : FnScope ["plans", "test", "found", "plan", "leaf", "rank", "cut"] ["plans", "test"] (defScope s__law_cuts) := ⟨rfl, rfl, rfl, by decide +kernel, rfl, by decide +kernel, by decide +kernel⟩
abbrev s__law_tests : Stmt := top 50
theorem sc__law_tests : FnScope ["plans", "found", "plan", "leaf"] ["plans"] (defScope s__law_tests) := ⟨rfl, rfl, rfl, by decide +kernel, rfl, by decide +kernel, by decide +kernel⟩
abbrev s__law_asks : Stmt := top 51
theorem sc__law_asks : FnScope ["plans", "found", "plan", "leaf"] ["plans"] (defScope s__law_asks) := ⟨rfl, rfl, rfl, by decide +kernel, rfl, by decide +kernel, by decide +kernel⟩
abbrev s__law_cells : Stmt := top 52
theorem sc__law_cells : FnScope ["plans", "found", "test"] ["plans"] (defScope s__law_cells) := ⟨rfl, rfl, rfl, by decide +kernel, rfl, by decide +kernel, by decide +kernel⟩
abbrev s__law_text_states : Stmt := top 53
theorem sc__law_text_states : FnScope ["plans", "found", "ask", "states", "sign"] ["plans"] (defScope s__law_text_states) := ⟨rfl, rfl, rfl, by decide +kernel, rfl, by decide +kernel, by decide +kernel⟩
abbrev s__law_formulas : Stmt := top 54
theorem sc__law_formulas : FnScope ["plan", "part"] ["plan"] (defScope s__law_formulas) := ⟨rfl, rfl, rfl, by decide +kernel, rfl, by decide +kernel, by decide +kernel⟩
abbrev s__law_fits : Stmt := top 55
theorem sc__law_fits : FnScope ["plans", "plan", "cells", "together", "sort"] ["plans"] (defScope s__law_fits) := ⟨rfl, rfl, rfl, by decide +kernel, rfl, by decide +kernel, by decide +kernel⟩
abbrev s__law_plan : Stmt := top 56
theorem sc__law_plan : FnScope ["draw", "columns", "deep", "share", "turn", "plan"] ["draw", "columns", "deep", "share"] (defScope s__law_plan) := ⟨rfl, rfl, rfl, by decide +kernel, rfl, by decide +kernel, by decide +kernel⟩
abbrev s__law_truth : Stmt := top 57
theorem sc__law_truth : FnScope ["plan", "leaves", "part"] ["plan", "leaves"] (defScope s__law_truth) := ⟨rfl, rfl, rfl, by decide +kernel, rfl, by decide +kernel, by decide +kernel⟩
abbrev s_law : Stmt := top 58
theorem sc_law : FnScope ["script", "draw", "columns", "made", "plans", "turn", "test", "cuts", "due", "at", "parts", "answers", "ask", "plan", "leaves", "leaf"] ["script"] (defScope s_law) := ⟨rfl, rfl, rfl, by decide +kernel, rfl, by decide +kernel, by decide +kernel⟩
structure Txt (K : PySem.W.Frag) (mg : Str → Option Value) where
  a_is_row : Addr
  d_is_row : FuncData
  F_is_row : Fun K "is_row" "is_row" s_is_row a_is_row d_is_row
  b_is_row : Binds K d_is_row ["value"] []
  m_is_row : mg "is_row" = some (.ref a_is_row)
  a_is_name : Addr
  d_is_name : FuncData
  F_is_name : Fun K "is_name" "is_name" s_is_name a_is_name d_is_name
  b_is_name : Binds K d_is_name ["value"] []
  m_is_name : mg "is_name" = some (.ref a_is_name)
  a_lowest : Addr
  d_lowest : FuncData
  F_lowest : Fun K "lowest" "lowest" s_lowest a_lowest d_lowest
  b_lowest : Binds K d_lowest ["above", "below"] []
  m_lowest : mg "lowest" = some (.ref a_lowest)
  a_minus : Addr
  d_minus : FuncData
  F_minus : Fun K "minus" "minus" s_minus a_minus d_minus
  b_minus : Binds K d_minus ["one", "other"] []
  m_minus : mg "minus" = some (.ref a_minus)
  a_common : Addr
  d_common : FuncData
  F_common : Fun K "common" "common" s_common a_common d_common
  b_common : Binds K d_common ["rows"] []
  m_common : mg "common" = some (.ref a_common)
  a_ascending : Addr
  d_ascending : FuncData
  F_ascending : Fun K "ascending" "ascending" s_ascending a_ascending d_ascending
  b_ascending : Binds K d_ascending ["rows"] []
  m_ascending : mg "ascending" = some (.ref a_ascending)
  a_within : Addr
  d_within : FuncData
  F_within : Fun K "within" "within" s_within a_within d_within
  b_within : Binds K d_within ["formula"] []
  m_within : mg "within" = some (.ref a_within)
  a_formulas_in : Addr
  d_formulas_in : FuncData
  F_formulas_in : Fun K "formulas_in" "formulas_in" s_formulas_in a_formulas_in d_formulas_in
  b_formulas_in : Binds K d_formulas_in ["plans"] []
  m_formulas_in : mg "formulas_in" = some (.ref a_formulas_in)
  a_is_true : Addr
  d_is_true : FuncData
  F_is_true : Fun K "is_true" "is_true" s_is_true a_is_true d_is_true
  b_is_true : Binds K d_is_true ["plan", "told"] []
  m_is_true : mg "is_true" = some (.ref a_is_true)
  a_Columns_init : Addr
  d_Columns_init : FuncData
  F_Columns_init : Fun K "__init__" "Columns.__init__" s_Columns_init a_Columns_init d_Columns_init
  b_Columns_init : Binds K d_Columns_init ["self", "hashed", "asked", "summed"] []
  a_wrong_part : Addr
  d_wrong_part : FuncData
  F_wrong_part : Fun K "wrong_part" "wrong_part" s_wrong_part a_wrong_part d_wrong_part
  b_wrong_part : Binds K d_wrong_part ["hashed", "asked", "summed"] []
  m_wrong_part : mg "wrong_part" = some (.ref a_wrong_part)
  a_are_names : Addr
  d_are_names : FuncData
  F_are_names : Fun K "are_names" "are_names" s_are_names a_are_names d_are_names
  b_are_names : Binds K d_are_names ["row", "most"] []
  m_are_names : mg "are_names" = some (.ref a_are_names)
  a_are_asked : Addr
  d_are_asked : FuncData
  F_are_asked : Fun K "are_asked" "are_asked" s_are_asked a_are_asked d_are_asked
  b_are_asked : Binds K d_are_asked ["asked"] []
  m_are_asked : mg "are_asked" = some (.ref a_are_asked)
  a_tests_in : Addr
  d_tests_in : FuncData
  F_tests_in : Fun K "tests_in" "tests_in" s_tests_in a_tests_in d_tests_in
  b_tests_in : Binds K d_tests_in ["plans"] []
  m_tests_in : mg "tests_in" = some (.ref a_tests_in)
  a_thresholds : Addr
  d_thresholds : FuncData
  F_thresholds : Fun K "thresholds" "thresholds" s_thresholds a_thresholds d_thresholds
  b_thresholds : Binds K d_thresholds ["plans", "test"] []
  m_thresholds : mg "thresholds" = some (.ref a_thresholds)
  a_lengths : Addr
  d_lengths : FuncData
  F_lengths : Fun K "lengths" "lengths" s_lengths a_lengths d_lengths
  b_lengths : Binds K d_lengths ["plans", "test"] []
  m_lengths : mg "lengths" = some (.ref a_lengths)
  a_holds_at : Addr
  d_holds_at : FuncData
  F_holds_at : Fun K "holds_at" "holds_at" s_holds_at a_holds_at d_holds_at
  b_holds_at : Binds K d_holds_at ["plans", "plan", "answers", "parts"] []
  m_holds_at : mg "holds_at" = some (.ref a_holds_at)
  a__law_number : Addr
  d__law_number : FuncData
  F__law_number : Fun K "_law_number" "_law_number" s__law_number a__law_number d__law_number
  b__law_number : Binds K d__law_number ["script", "index"] []
  m__law_number : mg "_law_number" = some (.ref a__law_number)
  a__law_take : Addr
  d__law_take : FuncData
  F__law_take : Fun K "_law_take" "_law_take" s__law_take a__law_take d__law_take
  b__law_take : Binds K d__law_take ["draw", "many"] []
  m__law_take : mg "_law_take" = some (.ref a__law_take)
  a__law_pick : Addr
  d__law_pick : FuncData
  F__law_pick : Fun K "_law_pick" "_law_pick" s__law_pick a__law_pick d__law_pick
  b__law_pick : Binds K d__law_pick ["draw", "items"] []
  m__law_pick : mg "_law_pick" = some (.ref a__law_pick)
  a__law_low : Addr
  d__law_low : FuncData
  F__law_low : Fun K "_law_low" "_law_low" s__law_low a__law_low d__law_low
  b__law_low : Binds K d__law_low ["above", "below"] []
  m__law_low : mg "_law_low" = some (.ref a__law_low)
  a__law_plus : Addr
  d__law_plus : FuncData
  F__law_plus : Fun K "_law_plus" "_law_plus" s__law_plus a__law_plus d__law_plus
  b__law_plus : Binds K d__law_plus ["one", "other"] []
  m__law_plus : mg "_law_plus" = some (.ref a__law_plus)
  a__law_total : Addr
  d__law_total : FuncData
  F__law_total : Fun K "_law_total" "_law_total" s__law_total a__law_total d__law_total
  b__law_total : Binds K d__law_total ["rows"] []
  m__law_total : mg "_law_total" = some (.ref a__law_total)
  a__law_columns : Addr
  d__law_columns : FuncData
  F__law_columns : Fun K "_law_columns" "_law_columns" s__law_columns a__law_columns d__law_columns
  b__law_columns : Binds K d__law_columns ["draw"] []
  m__law_columns : mg "_law_columns" = some (.ref a__law_columns)
  a__law_test : Addr
  d__law_test : FuncData
  F__law_test : Fun K "_law_test" "_law_test" s__law_test a__law_test d__law_test
  b__law_test : Binds K d__law_test ["draw", "columns"] []
  m__law_test : mg "_law_test" = some (.ref a__law_test)
  a__law_ask : Addr
  d__law_ask : FuncData
  F__law_ask : Fun K "_law_ask" "_law_ask" s__law_ask a__law_ask d__law_ask
  b__law_ask : Binds K d__law_ask ["draw", "columns"] []
  m__law_ask : mg "_law_ask" = some (.ref a__law_ask)
  a__law_formula : Addr
  d__law_formula : FuncData
  F__law_formula : Fun K "_law_formula" "_law_formula" s__law_formula a__law_formula d__law_formula
  b__law_formula : Binds K d__law_formula ["draw", "columns", "deep", "share"] []
  m__law_formula : mg "_law_formula" = some (.ref a__law_formula)
  a__law_leaves : Addr
  d__law_leaves : FuncData
  F__law_leaves : Fun K "_law_leaves" "_law_leaves" s__law_leaves a__law_leaves d__law_leaves
  b__law_leaves : Binds K d__law_leaves ["plan"] []
  m__law_leaves : mg "_law_leaves" = some (.ref a__law_leaves)
  a__law_cuts : Addr
  d__law_cuts : FuncData
  F__law_cuts : Fun K "_law_cuts" "_law_cuts" s__law_cuts a__law_cuts d__law_cuts
  b__law_cuts : Binds K d__law_cuts ["plans", "test"] []
  m__law_cuts : mg "_law_cuts" = some (.ref a__law_cuts)
  a__law_tests : Addr
  d__law_tests : FuncData
  F__law_tests : Fun K "_law_tests" "_law_tests" s__law_tests a__law_tests d__law_tests
  b__law_tests : Binds K d__law_tests ["plans"] []
  m__law_tests : mg "_law_tests" = some (.ref a__law_tests)
  a__law_asks : Addr
  d__law_asks : FuncData
  F__law_asks : Fun K "_law_asks" "_law_asks" s__law_asks a__law_asks d__law_asks
  b__law_asks : Binds K d__law_asks ["plans"] []
  m__law_asks : mg "_law_asks" = some (.ref a__law_asks)
  a__law_cells : Addr
  d__law_cells : FuncData
  F__law_cells : Fun K "_law_cells" "_law_cells" s__law_cells a__law_cells d__law_cells
  b__law_cells : Binds K d__law_cells ["plans"] []
  m__law_cells : mg "_law_cells" = some (.ref a__law_cells)
  a__law_text_states : Addr
  d__law_text_states : FuncData
  F__law_text_states : Fun K "_law_text_states" "_law_text_states" s__law_text_states a__law_text_states d__law_text_states
  b__law_text_states : Binds K d__law_text_states ["plans"] []
  m__law_text_states : mg "_law_text_states" = some (.ref a__law_text_states)
  a__law_formulas : Addr
  d__law_formulas : FuncData
  F__law_formulas : Fun K "_law_formulas" "_law_formulas" s__law_formulas a__law_formulas d__law_formulas
  b__law_formulas : Binds K d__law_formulas ["plan"] []
  m__law_formulas : mg "_law_formulas" = some (.ref a__law_formulas)
  a__law_fits : Addr
  d__law_fits : FuncData
  F__law_fits : Fun K "_law_fits" "_law_fits" s__law_fits a__law_fits d__law_fits
  b__law_fits : Binds K d__law_fits ["plans"] []
  m__law_fits : mg "_law_fits" = some (.ref a__law_fits)
  a__law_plan : Addr
  d__law_plan : FuncData
  F__law_plan : Fun K "_law_plan" "_law_plan" s__law_plan a__law_plan d__law_plan
  b__law_plan : Binds K d__law_plan ["draw", "columns", "deep", "share"] []
  m__law_plan : mg "_law_plan" = some (.ref a__law_plan)
  a__law_truth : Addr
  d__law_truth : FuncData
  F__law_truth : Fun K "_law_truth" "_law_truth" s__law_truth a__law_truth d__law_truth
  b__law_truth : Binds K d__law_truth ["plan", "leaves"] []
  m__law_truth : mg "_law_truth" = some (.ref a__law_truth)
  a_law : Addr
  d_law : FuncData
  F_law : Fun K "law" "law" s_law a_law d_law
  b_law : Binds K d_law ["script"] []
  m_law : mg "law" = some (.ref a_law)
  z_ValueError : mg "ValueError" = none
  z_isinstance : mg "isinstance" = none
  z_dict : mg "dict" = none
  z_tuple : mg "tuple" = none
  z_all : mg "all" = none
  z_range : mg "range" = none
  z_int : mg "int" = none
  z_sorted : mg "sorted" = none
  z_max : mg "max" = none
  z_list : mg "list" = none
  z_zip : mg "zip" = none
  z_any : mg "any" = none
  z_len : mg "len" = none
  z_abs : mg "abs" = none
  z_set : mg "set" = none
  z_str : mg "str" = none
  z_sum : mg "sum" = none
  m_gcd : mg "gcd" = some (.builtin "math.gcd")
  m_lcm : mg "lcm" = some (.builtin "math.lcm")
  t_LETTERS : Tok
  m_LETTERS : mg "LETTERS" = some (.str "abcdefghijklmnopqrstuvwxyz" t_LETTERS)
  a_RESERVED : Addr
  m_RESERVED : mg "RESERVED" = some (.ref a_RESERVED)
  q_RESERVED : ∀ H : Hp, SqT K H a_RESERVED [.str "row", .str "block", .str "hash", .str "not", .str "and", .str "or", .str "all", .str "none", .str "like"]
  t_LONGEST_NAME : Tok
  m_LONGEST_NAME : mg "LONGEST_NAME" = some (.int 8 t_LONGEST_NAME)
  a_ZERO : Addr
  m_ZERO : mg "ZERO" = some (.ref a_ZERO)
  q_ZERO : ∀ H : Hp, SqT K H a_ZERO [.int 0, .int 1]
  a_ONE : Addr
  m_ONE : mg "ONE" = some (.ref a_ONE)
  q_ONE : ∀ H : Hp, SqT K H a_ONE [.int 1, .int 1]
  a_TESTS : Addr
  m_TESTS : mg "TESTS" = some (.ref a_TESTS)
  q_TESTS : ∀ H : Hp, SqT K H a_TESTS [.str "row", .str "block", .str "hash"]
  a_ASKS : Addr
  m_ASKS : mg "ASKS" = some (.ref a_ASKS)
  q_ASKS : ∀ H : Hp, SqT K H a_ASKS [.str "less", .str "is", .str "like"]
  t_MOST_HASHED : Tok
  m_MOST_HASHED : mg "MOST_HASHED" = some (.int 2 t_MOST_HASHED)
  t_MOST_ASKED : Tok
  m_MOST_ASKED : mg "MOST_ASKED" = some (.int 4 t_MOST_ASKED)
  t_MOST_SUMMED : Tok
  m_MOST_SUMMED : mg "MOST_SUMMED" = some (.int 2 t_MOST_SUMMED)
  c_Columns : Addr
  m_Columns : mg "Columns" = some (.ref c_Columns)
  cl_Columns : Cls K c_Columns
  n_Columns_hashed : NoAttr K c_Columns "hashed"
  n_Columns__asked : NoAttr K c_Columns "_asked"
  n_Columns_summed : NoAttr K c_Columns "summed"
  mk_Columns : Mk K c_Columns a_Columns_init
/-! ### drawn numbers -/
/-- the script: a list that is locked, or one of the module's own -/
def SqF (K : PySem.W.Frag) (H : Hp) (a : Addr) (xs : List V) : Prop := (∃ o, H a = some (.frz o (.lst xs))) ∨ ∀ H' : Hp, SqL K H' a xs
theorem SqF.sq {K : PySem.W.Frag} {H : Hp} {a : Addr} {xs : List V} (h : SqF K H a xs) : SqL K H a xs := by
  rcases h with ⟨o, h⟩ | h
  · exact .inl (.inr ⟨o, h⟩)
  · exact h H
theorem SqF.same {K : PySem.W.Frag} {H H' : Hp} {a : Addr} {xs : List V} (h : SqF K H a xs) (e : Same H H') : SqF K H' a xs := by
  rcases h with ⟨o, h⟩ | h
  · exact .inl ⟨o, e _ _ h⟩
  · exact .inr h
theorem SqF.only {K : PySem.W.Frag} {H : Hp} {a : Addr} {xs : List V} (hO : Only H) (h : SqL K H a xs) : SqF K H a xs := by
  rcases h with (h | ⟨o, h⟩) | h
  · rcases hO a with z | ⟨o, ys, z⟩
    · rw [h] at z
      cases z
    · rw [h] at z
      cases z
  · exact .inl ⟨o, h⟩
  · exact .inr fun _ => .inr h
/-- at d stands [the script, how many were drawn] -/
def Drw (K : PySem.W.Frag) (H : Hp) (d : Addr) : Prop := ∃ (a : Addr) (ns : List Int) (i : Int), H d = some (.lst [.ref a, .int i]) ∧ SqF K H a (ns.map V.int) ∧ ns.length ≤ 63
/-- all that was tracked but what stands at d is as it was -/
def But (d : Addr) (H H' : Hp) : Prop := ∀ b o, b ≠ d → H b = some o → H' b = some o
theorem But.refl (d : Addr) (H : Hp) : But d H H := fun _ _ _ h => h
theorem But.trans {d : Addr} {H H1 H2 : Hp} (a : But d H H1) (b : But d H1 H2) : But d H H2 := fun c o n h => b c o n (a c o n h)
theorem But.same {d : Addr} {H H1 H2 : Hp} (a : But d H H1) (b : Same H1 H2) : But d H H2 := fun c o n h => b c o (a c o n h)
theorem Same.but {d : Addr} {H H1 : Hp} (a : Same H H1) : But d H H1 := fun c o _ h => a c o h
theorem same_new {H : Hp} {p : Addr} (h : H p = none) (o : HO) : Same H (upd H p o) := fun b u q => by rw [upd_ne (ne_of_none q h)]; exact q
theorem Drw.same {K : PySem.W.Frag} {H H' : Hp} {d : Addr} (h : Drw K H d) (e : Same H H') : Drw K H' d := by
  obtain ⟨a, ns, i, h1, h2, h3⟩ := h
  exact ⟨a, ns, i, e _ _ h1, h2.same e, h3⟩
/-- a change of a list leaves the script -/
theorem SqF.but {K : PySem.W.Frag} {H H' : Hp} {d a : Addr} {xs ys : List V} (h : SqF K H a xs) (hd : H d = some (.lst ys)) (e : But d H H') : SqF K H' a xs := by
  rcases h with ⟨o, h⟩ | h
  · exact .inl ⟨o, e _ _ (ne_of h hd (by intro z; cases z)) h⟩
  · exact .inr h
theorem Drw.but {K : PySem.W.Frag} {H H' : Hp} {d p : Addr} {ys : List V} (h : Drw K H d) (hp : H p = some (.lst ys)) (n : d ≠ p) (e : But p H H') : Drw K H' d := by
  obtain ⟨a, ns, i, h1, h2, h3⟩ := h
  exact ⟨a, ns, i, e _ _ n h1, h2.but hp e, h3⟩
def sp_number (K : PySem.W.Frag) : Sp := fun vs H Q _ => ∃ (a : Addr) (ns : List Int) (i : Int), vs = [.ref a, .int i] ∧ SqL K H a (ns.map V.int) ∧ ns.length ≤ 63 ∧ ∀ (n : Int) (H' : Hp), Same H H' → Q (.int n) H'
def sp_take (K : PySem.W.Frag) : Sp := fun vs H Q _ => ∃ (d : Addr) (m : Int), vs = [.ref d, .int m] ∧ Drw K H d ∧ 0 < m ∧ ∀ (r : Int) (H' : Hp), 0 ≤ r → r < m → Drw K H' d → But d H H' → Q (.int r) H'
/-- a list that is not the draw's, or a tuple -/
def SqD (K : PySem.W.Frag) (d : Addr) (H : Hp) (p : Addr) (xs : List V) : Prop := (SqL K H p xs ∧ p ≠ d) ∨ SqT K H p xs
def sp_pick (K : PySem.W.Frag) : Sp := fun vs H Q _ => ∃ (d p : Addr) (xs : List V), vs = [.ref d, .ref p] ∧ Drw K H d ∧ SqD K d H p xs ∧ 0 < xs.length ∧ ∀ (j : Nat) (x : V) (H' : Hp), xs[j]? = some x → Drw K H' d → But d H H' → Q x H'
theorem But.seq {K : PySem.W.Frag} {H H' : Hp} {d a : Addr} {xs : List V} (e : But d H H') (n : a ≠ d) (h : SqL K H a xs) : SqL K H' a xs := by
  rcases h with (h | ⟨o, h⟩) | h
  · exact .inl (.inl (e _ _ n h))
  · exact .inl (.inr ⟨o, e _ _ n h⟩)
  · exact .inr h
theorem But.tup {K : PySem.W.Frag} {H H' : Hp} {d a : Addr} {xs ys : List V} (e : But d H H') (hd : H d = some (.lst ys)) (h : SqT K H a xs) : SqT K H' a xs := by
  rcases h with (h | ⟨o, h⟩) | h
  · exact .inl (.inl (e _ _ (ne_of h hd (by intro z; cases z)) h))
  · exact .inl (.inr ⟨o, e _ _ (ne_of h hd (by intro z; cases z)) h⟩)
  · exact .inr h
theorem dp_ints {K : PySem.W.Frag} {H : Hp} : ∀ ns : List Int, DpAll K H (ns.map V.int) (ns.map PyData.int)
  | [] => .nil
  | n :: r => .cons (.int n) (dp_ints r)

end My
set_option Elab.async false
set_option linter.all false
set_option maxRecDepth 100000
set_option maxHeartbeats 400000
namespace My
open PySem L2 PySem.Spec PyProof.Rows
section
variable {P : Program} {w : World} {K : PySem.W.Frag} {mg : Str → Option Value} {base : Heap}
/-! ### data and their types -/
def typN : PyData → String
  | .none => "NoneType"
  | .bool _ => "bool"
  | .int _ => "int"
  | .str _ => "str"
  | .list _ => "list"
  | .tuple _ => "tuple"
  | .dict _ => "dict"
theorem ty_tup {K : PySem.W.Frag} {H : Hp} {a : Addr} {xs : List V} (h : SqT K H a xs) : TyX K H (.ref a) (.type "tuple") := by
  rcases h with (h | ⟨o, h⟩) | ⟨o, _, _, h, c, _⟩
  · exact .base (.tup h)
  · exact .fTuple h
  · exact .kTuple h c
theorem ty_lst {K : PySem.W.Frag} {H : Hp} {a : Addr} {xs : List V} (h : SqL K H a xs) : TyX K H (.ref a) (.type "list") := by
  rcases h with (h | ⟨o, h⟩) | ⟨o, _, _, h, c, _⟩
  · exact .base (.lst h)
  · exact .base (.frz h)
  · exact .kList h c
theorem dp_ty {K : PySem.W.Frag} {H : Hp} {v : V} {d : PyData} (h : Dp K H v d) : TyX K H v (.type (typN d)) := by
  cases h with
  | non => exact .base .non
  | bl b => exact .base (.bl b)
  | int i => exact .base (.int i)
  | str x => exact .base (.str x)
  | lst h _ => exact ty_lst h
  | tup h _ => exact ty_tup h
theorem Same.tup {K : PySem.W.Frag} {H H' : Hp} {a : Addr} {xs : List V} (e : Same H H') (h : SqT K H a xs) : SqT K H' a xs := by
  rcases h with (h | ⟨o, h⟩) | h
  · exact .inl (.inl (e _ _ h))
  · exact .inl (.inr ⟨o, e _ _ h⟩)
  · exact .inr h
mutual
theorem dp_same {K : PySem.W.Frag} {H H' : Hp} (e : Same H H') : ∀ (d : PyData) (v : V), Dp K H v d → Dp K H' v d
  | .none, _, h => by cases h; exact .non
  | .bool b, _, h => by cases h; exact .bl b
  | .int i, _, h => by cases h; exact .int i
  | .str x, _, h => by cases h; exact .str x
  | .list ds, _, h => by
    cases h with
    | lst h a => exact .lst (e.seq h) (dps_same e ds _ a)
  | .tuple ds, _, h => by
    cases h with
    | tup h a => exact .tup (Same.tup e h) (dps_same e ds _ a)
  | .dict _, _, h => by cases h
theorem dps_same {K : PySem.W.Frag} {H H' : Hp} (e : Same H H') : ∀ (ds : List PyData) (vs : List V), DpAll K H vs ds → DpAll K H' vs ds
  | [], _, h => by cases h; exact .nil
  | d :: ds, _, h => by
    cases h with
    | cons a b => exact .cons (dp_same e d _ a) (dps_same e ds _ b)
end
theorem dps_len {K : PySem.W.Frag} {H : Hp} : ∀ {vs : List V} {ds : List PyData}, DpAll K H vs ds → vs.length = ds.length
  | _, _, .nil => rfl
  | _, _, .cons _ b => by rw [List.length_cons, List.length_cons, dps_len b]
theorem dps_get {K : PySem.W.Frag} {H : Hp} : ∀ {vs : List V} {ds : List PyData} {i : Nat} {d : PyData}, DpAll K H vs ds → ds[i]? = some d → ∃ v, vs[i]? = some v ∧ Dp K H v d
  | _, _, _, _, .nil, h => by simp at h
  | _, _, 0, _, .cons a _, h => ⟨_, rfl, by cases h; exact a⟩
  | _, _, i + 1, _, .cons _ b, h => by
    obtain ⟨v, h1, h2⟩ := dps_get (i := i) b (by simpa using h)
    exact ⟨v, by simpa using h1, h2⟩
theorem dp_int {K : PySem.W.Frag} {H : Hp} {v : V} {i : Int} (h : Dp K H v (.int i)) : v = .int i := by cases h; rfl
theorem dp_str {K : PySem.W.Frag} {H : Hp} {v : V} {x : Str} (h : Dp K H v (.str x)) : v = .str x := by cases h; rfl
theorem dp_bl {K : PySem.W.Frag} {H : Hp} {v : V} {x : Bool} (h : Dp K H v (.bool x)) : v = .bl x := by cases h; rfl
theorem dp_non {K : PySem.W.Frag} {H : Hp} {v : V} (h : Dp K H v .none) : v = .non := by cases h; rfl
/-! ### what is a whole number, near, a row, a name, a fraction, a threshold, a short string: by data -/
def resL : List Str := ["row", "block", "hash", "not", "and", "or", "all", "none", "like"]
def letL : Str := "abcdefghijklmnopqrstuvwxyz"
def nameB (s : Str) : Bool := decide (1 ≤ s.length) && decide (s.length ≤ 8) && !resL.contains s && s.cps.toList.all fun c => decide (c ∈ letL.cps.toList)
def nameD : PyData → Bool
  | .str s => nameB s
  | _ => false

end
end My
set_option Elab.async false
set_option linter.all false
set_option maxRecDepth 100000
set_option maxHeartbeats 400000
namespace My
open PySem L2 PySem.Spec PyProof.Rows
section
variable {P : Program} {w : World} {K : PySem.W.Frag} {mg : Str → Option Value} {base : Heap}
theorem str_in {s : Str} : ∀ l : List Str, inV (.str s) (l.map V.str) = l.contains s
  | [] => rfl
  | a :: l => by
    have ih := str_in (s := s) l
    have e : eqV (V.str a) (V.str s) = (s == a) := by
      show (a == s) = (s == a)
      exact BEq.comm
    unfold inV at ih ⊢
    rw [List.map_cons, List.any_cons, List.contains_cons, ih, e]
theorem flat_str : ∀ l : List Str, (l.map V.str).all flatV = true
  | [] => rfl
  | _ :: l => by
    rw [List.map_cons, List.all_cons, flat_str l]
    rfl
theorem res_str : ([.str "row", .str "block", .str "hash", .str "not", .str "and", .str "or", .str "all", .str "none", .str "like"] : List V) = resL.map V.str := rfl
/-- a text, if it is one, is not too long -/
def StrOk (d : PyData) : Prop := ∀ s, d = .str s → s.length ≤ 1000
def sp_name (K : PySem.W.Frag) : Sp := fun vs H Q _ => ∃ (x : V) (d : PyData), vs = [x] ∧ Dp K H x d ∧ StrOk d ∧ ∀ H', Same H H' → Q (.bl (nameD d)) H'
theorem not_str {K : PySem.W.Frag} {H : Hp} {x : V} {d : PyData} (h : Dp K H x d) (n : ∀ s, d ≠ .str s) : TyX K H x (.type (typN d)) ∧ kitB (typN d) "str" = some false := by
  refine ⟨dp_ty h, ?_⟩
  cases d with
  | str s => exact absurd rfl (n s)
  | dict _ => cases h
  | none =>
    show kitB "NoneType" "str" = some false
    decide +kernel
  | bool _ =>
    show kitB "bool" "str" = some false
    decide +kernel
  | int _ =>
    show kitB "int" "str" = some false
    decide +kernel
  | list _ =>
    show kitB "list" "str" = some false
    decide +kernel
  | tuple _ =>
    show kitB "tuple" "str" = some false
    decide +kernel
theorem ok_is_name (T : Txt K mg) : FnOk P w K mg base CX0 1 T.a_is_name T.d_is_name ["value"] (sp_name K) := by
  refine T.F_is_name.ok sc_is_name (fun vs H Q E h => ?_) (fun cdv A outer s H vs Q E hr h => ?_)
  · obtain ⟨x, b, rfl, _⟩ := h
    rfl
  obtain ⟨x, d, rfl, hd, ok, k⟩ := h
  refine ⟨_, (pss_cons (ps_if (PW.pt (pw_or (pt_not (pt_val (pe_callB call_isi (by rfl) T.z_isinstance (by decide +kernel) (pa_cons (pv 0) (pa_cons (pe_bltn (v := .ty "str") (by rfl) T.z_str (by decide +kernel) rfl) pa_nil))))) (pw_or1 (pt_not (pt_chain op_le op_le pe_int (pe_callB call_len_str (by rfl) T.z_len (by decide +kernel) (pa_cons (pv 0) pa_nil)) (pe_glob (v := .int 8) (by rfl) T.m_LONGEST_NAME ⟨_, rfl⟩)))))) (pss_one (ps_ret pe_bl)) pss_nil)
    (pss_one (ps_ret (pe_and (pe_cmpR op_notIn_seq (pv 0) (pe_glob (v := .ref T.a_RESERVED) (by rfl) T.m_RESERVED rfl) (by with_unfolding_all rfl)) (pe_one (pe_callB (cr_all rfl) (by rfl) T.z_all (by decide +kernel) (pa_cons (pe_lc (own := [("sign", 1)]) rfl sc_is_name.nd (pi_str (pv 0)) (blkOk_by (own := [("sign", 1)]) (N := ["value", "sign"]) (sc := defScope s_is_name) (by decide +kernel)) (fun _ _ _ _ _ => (pg_name (i := 1) sc_is_name.nd rfl (by first | exact Or.inl rfl | exact Or.inr rfl))) (fun _ _ _ _ _ => pts_nil) (fun _ _ _ _ _ => (pe_cmpR op_in_sign (pv 1) (pe_glob (v := .str "abcdefghijklmnopqrstuvwxyz") (by rfl) T.m_LETTERS ⟨_, rfl⟩) (by with_unfolding_all rfl)))) pa_nil))))))), ?_⟩
  by_cases hs : ∀ s, d ≠ .str s
  · obtain ⟨ty, kb⟩ := not_str hd hs
    have e : nameD d = false := by
      cases d with
      | str s => exact absurd rfl (hs s)
      | _ => rfl
    have k' := k H (Same.refl _)
    rw [e] at k'
    exact ⟨_, rfl, x, .ty "str", _, .type "str", false, rfl, .ty _, ty, kit_ty kb, _, rfl, iteT k'⟩
  obtain ⟨z, rfl⟩ : ∃ z, d = .str z := by
    cases d with
    | str z => exact ⟨z, rfl⟩
    | _ => exact absurd (fun s q => by cases q) hs
  obtain rfl := dp_str hd
  have hz := ok z rfl
  have hline : z.length ≤ sizeLine := Nat.le_of_lt (small1000 hz)
  have kk : ∀ H', Same H H' → Q (.bl (nameB z)) H' := k
  unfold nameB at kk
  -- the two tests
  refine seq_cut (fun σ' H' => σ' = [some (.str z), none] ∧ H' = H ∧ 1 ≤ z.length ∧ z.length ≤ 8) ?_ (fun tail => ?_)
  rotate_left
  · refine ⟨_, rfl, .str z, .ty "str", .type "str", .type "str", true, rfl, .ty _, .base (.str z), kit_ty (by decide +kernel), _, rfl, ?_⟩
    refine iteF ⟨_, rfl, z, rfl, hline, _, _, rfl, rfl, _, rfl, ?_⟩
    have kH := kk H (Same.refl _)
    by_cases c1 : 1 ≤ z.length
    · rw [decide_eq_true (show (1 : Int) ≤ ((z.length : Nat) : Int) by omega)]
      refine iteT ⟨_, _, rfl, rfl, _, rfl, ?_⟩
      by_cases c2 : z.length ≤ 8
      · rw [decide_eq_true (show ((z.length : Nat) : Int) ≤ 8 by omega)]
        exact iteF (tail _ _ ⟨rfl, rfl, c1, c2⟩)
      · rw [decide_eq_false (show ¬ ((z.length : Nat) : Int) ≤ 8 by omega)]
        rw [decide_eq_false c2, Bool.and_false, Bool.false_and, Bool.false_and] at kH
        exact iteT kH
    · rw [decide_eq_false (show ¬ (1 : Int) ≤ ((z.length : Nat) : Int) by omega)]
      rw [decide_eq_false c1, Bool.false_and, Bool.false_and, Bool.false_and] at kH
      exact iteF ⟨_, rfl, iteT kH⟩
  rintro σ' H' ⟨rfl, rfl, c1, c2⟩
  rw [decide_eq_true c1, decide_eq_true c2, Bool.true_and, Bool.true_and] at kk
  refine ⟨_, rfl, _, _, rfl, .inr (T.q_RESERVED _), rfl, (by rw [res_str]; exact flat_str _), _, rfl, ?_⟩
  rw [res_str, str_in]
  refine ite2 (fun c => ?_) (fun c => ?_)
  rotate_left
  · have c' : resL.contains z = true := by
      have c2 := Bool.eq_false_iff.mpr c
      simpa using c2
    have kH := kk H' (Same.refl _)
    rw [c', Bool.not_true, Bool.false_and] at kH
    exact kH
  have c' : (!resL.contains z) = true := c
  rw [c', Bool.true_and] at kk
  refine ⟨_, rfl, z, rfl, fun D hD => ?_⟩
  have hn : z.cps.size ≤ 1000 := hz
  refine lc_it (walk_str (z := z)) (fun i H2 => (∀ b o, b ≠ D → H' b = some o → H2 b = some o) ∧ H2 D = some (.lst ((z.cps.toList.take i).map fun c => V.bl (decide (c ∈ letL.cps.toList))))) ⟨fun b o n e => by rw [upd_ne n]; exact e, upd_same⟩ (fun _ _ _ _ => trivial) ?_ ?_
  · rintro i x H2 H3 hi ⟨g, e⟩ ⟨rfl, c, hc, rfl⟩
    refine ⟨rfl, _, rfl, c, letL, rfl, rfl, _, e, ?_, ?_, ?_⟩
    · rw [List.length_map, List.length_take]
      exact Nat.lt_of_le_of_lt (Nat.min_le_left _ _) (small1000 (by omega))
    · exact fun b o n e => by rw [upd_ne n]; exact g b o n e
    · have hcl : z.cps.toList[i]? = some c := by simpa using hc
      rw [List.take_add_one, hcl, List.map_append]
      exact upd_same
  · rintro H2 ⟨g, e⟩
    have el : z.cps.toList.take z.cps.size = z.cps.toList := List.take_of_length_le (by simp)
    rw [el] at e
    have em : (z.cps.toList.map fun c => V.bl (decide (c ∈ letL.cps.toList))) = (z.cps.toList.map fun c => decide (c ∈ letL.cps.toList)).map V.bl := by rw [List.map_map]; rfl
    rw [em] at e
    refine ⟨D, _, rfl, SqL.of e, ?_⟩
    have ea : ((z.cps.toList.map fun c => decide (c ∈ letL.cps.toList)).all id) = z.cps.toList.all fun c => decide (c ∈ letL.cps.toList) := by rw [List.all_map]; rfl
    rw [ea]
    exact kk _ fun b o q => g b o (ne_of_none q hD) q

end
end My
set_option Elab.async false
set_option linter.all false
set_option maxRecDepth 100000
set_option maxHeartbeats 400000
namespace My
open PySem L2 PySem.Spec PyProof.Rows
section
variable {P : Program} {w : World} {K : PySem.W.Frag} {mg : Str → Option Value} {base : Heap}
theorem two_of {K : PySem.W.Frag} {H : Hp} : ∀ {xs : List V} {ds : List PyData}, DpAll K H xs ds → xs.length = 2 → ∃ y z e f, xs = [y, z] ∧ ds = [e, f] ∧ Dp K H y e ∧ Dp K H z f
  | _, _, .nil, h => by cases h
  | _, _, .cons _ .nil, h => by cases h
  | _, _, .cons a (.cons b .nil), _ => ⟨_, _, _, _, rfl, rfl, a, b⟩
  | _, _, .cons _ (.cons _ (.cons _ _)), h => by simp at h
theorem dps2 {K : PySem.W.Frag} {H : Hp} {xs : List V} {e f : PyData} (h : DpAll K H xs [e, f]) : ∃ y z, xs = [y, z] ∧ Dp K H y e ∧ Dp K H z f := by
  cases h with
  | cons a t =>
    cases t with
    | cons b t =>
      cases t
      exact ⟨_, _, rfl, a, b⟩

end
end My
set_option Elab.async false
set_option linter.all false
set_option maxRecDepth 100000
set_option maxHeartbeats 400000
namespace My
open PySem L2 PySem.Spec PyProof.Rows
section
variable {P : Program} {w : World} {K : PySem.W.Frag} {mg : Str → Option Value} {base : Heap}
def kindV (b : Bool) : V := .str (if b then "number" else "text")
def isS (d : PyData) (s : Str) : Bool := match d with
  | .str x => decide (x = s)
  | _ => false
def flatD : PyData → Bool
  | .none => true
  | .bool _ => true
  | .int _ => true
  | .str _ => true
  | _ => false
theorem dp_flat {K : PySem.W.Frag} {H : Hp} {x : V} {d : PyData} (h : Dp K H x d) (f : flatD d = true) : flatV x = true := by
  cases h <;> first | rfl | cases f
theorem eqV_is {K : PySem.W.Frag} {H : Hp} {x : V} {d : PyData} (h : Dp K H x d) (f : flatD d = true) (s : Str) : eqV (.str s) x = isS d s := by
  cases h with
  | str z =>
    show (s == z) = decide (z = s)
    by_cases e : z = s
    · subst e
      simp
    · have e2 : ¬ s = z := fun q => e q.symm
      simp [e, e2]
  | lst _ _ => cases f
  | tup _ _ => cases f
  | _ => rfl
theorem dec_is {K : PySem.W.Frag} {H : Hp} {x : V} {d : PyData} (h : Dp K H x d) (f : flatD d = true) (s : Str) : decide (x = V.str s) = isS d s := by
  cases h with
  | str z =>
    show decide (V.str z = V.str s) = decide (z = s)
    by_cases e : z = s
    · subst e
      simp
    · rw [decide_eq_false e, decide_eq_false (fun q => e (by injection q))]
  | lst _ _ => cases f
  | tup _ _ => cases f
  | _ => exact decide_eq_false (fun q => by cases q)
theorem scal_is {K : PySem.W.Frag} {H : Hp} {x : V} {d : PyData} (h : Dp K H x d) (f : flatD d = true) (s : Str) : scal x (V.str s) = true := by
  cases h <;> first | rfl | cases f
theorem in_two {K : PySem.W.Frag} {H : Hp} {x : V} {d : PyData} (h : Dp K H x d) (f : flatD d = true) (s t : Str) : inV x [.str s, .str t] = (isS d s || isS d t) := by
  unfold inV
  rw [List.any_cons, List.any_cons, List.any_nil, eqV_is h f, eqV_is h f, Bool.or_false]
theorem in_pair {K : PySem.W.Frag} {H : Hp} {x : V} {d : PyData} {Q : VK} {q : Addr} (s t : Str) (h : Dp K H x d) (f : flatD d = true) (hq : H q = some (.tup [.str s, .str t])) (k : Q (.bl (isS d s || isS d t)) H) : rIn K false x (.ref q) H Q := by
  refine ⟨q, _, rfl, .inr (SqT.of hq), dp_flat h f, rfl, ?_⟩
  show Q (.bl (inV x [.str s, .str t])) H
  rw [in_two h f]
  exact k
def memD (l : List Str) : PyData → Bool
  | .str s => l.contains s
  | _ => false
theorem len_dec {n m : Nat} : decide (V.int (n : Int) = V.int (m : Int)) = decide (n = m) := by
  by_cases e : n = m
  · subst e
    simp
  · rw [decide_eq_false e, decide_eq_false (fun q => e (by injection q with q; omega))]
theorem in_hs {K : PySem.W.Frag} {H : Hp} {x : V} {d : PyData} (h : Dp K H x d) (f : flatD d = true) (l : List Str) : inV x (l.map V.str) = memD l d := by
  cases h with
  | str z => exact str_in l
  | lst _ _ => cases f
  | tup _ _ => cases f
  | _ =>
    unfold inV
    induction l with
    | nil => rfl
    | cons a l ih =>
      rw [List.map_cons, List.any_cons, ih]
      rfl
def ksD : List PyData → List PyData
  | [.tuple ks] => ks
  | _ => []
theorem one_of {α} {r : List α} (h : r.length = 1) : ∃ d, r = [d] := by
  match r, h with
  | [d], _ => exact ⟨d, rfl⟩
def kidsD : PyData → List PyData
  | .tuple (h :: r) => if isS h "not" = true then r.take 1 else if (isS h "and" || isS h "or") = true then ksD r else []
  | _ => []
def sp_within (K : PySem.W.Frag) : Sp := fun vs H Q _ => ∃ (H0 : Hp) (v : V) (h0 : PyData) (r : List PyData), vs = [v] ∧ Same H0 H ∧ Dp K H0 v (.tuple (h0 :: r)) ∧ flatD h0 = true ∧ (isS h0 "not" = true → r.length = 1) ∧ ((isS h0 "and" || isS h0 "or") = true → ∃ ks, r = [.tuple ks]) ∧
  ∀ q ys H', Same H H' → SqT K H' q ys → DpAll K H0 ys (kidsD (.tuple (h0 :: r))) → Q (.ref q) H'
theorem ok_within (T : Txt K mg) : FnOk P w K mg base CX0 1 T.a_within T.d_within ["formula"] (sp_within K) := by
  refine T.F_within.ok sc_within (fun vs H Q E h => ?_) (fun cdv A outer s H vs Q E hr h => ?_)
  · obtain ⟨H0, v, h0, r, rfl, _⟩ := h
    rfl
  obtain ⟨H0, v, h0, r, rfl, g0, hd, fh, n1, n2, k⟩ := h
  refine ⟨_, (pss_cons (ps_if (pt_cmpR op_eq (pe_ix ix_tup (pv 0) pe_int (fun _ _ => rfl)) pe_str (nomark _)) (pss_one (ps_ret (pe_tup (pa_cons (pe_ix ix_tup (pv 0) pe_int (fun _ _ => rfl)) pa_nil)))) pss_nil)
    (pss_cons (ps_if (pt_cmpR op_in_seq (pe_ix ix_tup (pv 0) pe_int (fun _ _ => rfl)) (pe_tup (pa_cons pe_str (pa_cons pe_str pa_nil))) (by with_unfolding_all rfl)) (pss_one (ps_ret (pe_ix ix_tup (pv 0) pe_int (fun _ _ => rfl)))) pss_nil)
    (pss_one (ps_ret (pe_tup pa_nil))))), ?_⟩
  cases hd with
  | @tup a xs _ hs0 ha =>
  have hs := Same.tup g0 hs0
  obtain ⟨x0, hx0, dx00⟩ := dps_get (i := 0) ha rfl
  have dx0 := dp_same g0 _ _ dx00
  have a0 : atI xs 0 = some x0 := at_of (j := 0) rfl hx0
  have kk : ∀ q ys H', Same H H' → SqT K H' q ys → DpAll K H0 ys (if isS h0 "not" = true then r.take 1 else if (isS h0 "and" || isS h0 "or") = true then ksD r else []) → Q (.ref q) H' := k
  refine seq_cut (fun σ' H' => σ' = [some (.ref a)] ∧ H' = H ∧ isS h0 "not" = false) ?_ (fun tail => ?_)
  rotate_left
  · refine ⟨_, rfl, a, xs, 0, x0, rfl, rfl, hs, a0, scal_is dx0 fh _, _, rfl, ?_⟩
    rw [dec_is dx0 fh]
    refine ite2 (fun c1 => ?_) (fun c1 => ?_)
    rotate_left
    · exact tail _ _ ⟨rfl, rfl, Bool.eq_false_iff.mpr c1⟩
    rw [if_pos c1] at kk
    obtain ⟨d1, rfl⟩ := one_of (n1 c1)
    obtain ⟨x1, hx1, dx1⟩ := dps_get (i := 1) ha rfl
    refine ⟨_, rfl, a, xs, 1, x1, rfl, rfl, hs, at_of (j := 1) rfl hx1, (by show 1 ≤ sizeLine; decide), fun q hq => ?_⟩
    have g := same_new hq (.tup [x1])
    exact kk q _ _ g (SqT.of upd_same) (.cons dx1 .nil)
  rintro σ' H' ⟨rfl, rfl, c1⟩
  rw [c1, if_neg Bool.false_ne_true] at kk
  refine seq_cut (fun σ' H1 => σ' = [some (.ref a)] ∧ Same H' H1 ∧ (isS h0 "and" || isS h0 "or") = false) ?_ (fun tail => ?_)
  rotate_left
  · refine ⟨_, rfl, a, xs, 0, x0, rfl, rfl, hs, a0, (by show 2 ≤ sizeLine; decide), fun q hq => ?_⟩
    have g2 := same_new hq (.tup [.str "and", .str "or"])
    refine in_pair "and" "or" (dp_same g2 _ _ dx0) fh upd_same ⟨_, rfl, ?_⟩
    refine ite2 (fun c3 => ?_) (fun c3 => ?_)
    rotate_left
    · exact tail _ _ ⟨rfl, g2, Bool.eq_false_iff.mpr c3⟩
    rw [if_pos c3] at kk
    obtain ⟨ks, rfl⟩ := n2 c3
    obtain ⟨x1, hx1, dx1⟩ := dps_get (i := 1) ha rfl
    cases dx1 with
    | @tup b ys _ hb hbs =>
      exact ⟨_, rfl, a, xs, 1, _, rfl, rfl, Same.tup g2 hs, at_of (j := 1) rfl hx1, kk b ys _ g2 (Same.tup g2 (Same.tup g0 hb)) hbs⟩
  rintro σ' H1 ⟨rfl, g1, c3⟩
  rw [c3, if_neg Bool.false_ne_true] at kk
  exact ⟨(by show 0 ≤ sizeLine; decide), fun q hq => kk q _ _ (g1.trans (same_new hq _)) (SqT.of upd_same) .nil⟩
theorem dps_rev {K : PySem.W.Frag} {H : Hp} {vs : List V} {ds : List PyData} (h : DpAll K H vs ds) {i : Nat} {x : V} (hx : vs.reverse[i]? = some x) : ∃ d, ds.reverse[i]? = some d ∧ Dp K H x d := by
  have el := dps_len h
  have hi : i < vs.reverse.length := by
    rcases Nat.lt_or_ge i vs.reverse.length with h | h
    · exact h
    · rw [List.getElem?_eq_none h] at hx
      cases hx
  rw [List.length_reverse] at hi
  rw [List.getElem?_reverse hi] at hx
  have hi2 : i < ds.length := by omega
  obtain ⟨d, hd⟩ : ∃ d, ds[ds.length - 1 - i]? = some d := ⟨_, List.getElem?_eq_getElem (by omega)⟩
  obtain ⟨y, hy, dy⟩ := dps_get h hd
  rw [← el, hx] at hy
  cases hy
  exact ⟨d, by rw [List.getElem?_reverse hi2]; exact hd, dy⟩
theorem take_more' {α : Type} {l : List α} {i : Nat} {x : α} (h : l[i]? = some x) : l.take (i + 1) = l.take i ++ [x] := by
  rw [List.take_add_one, h]
  rfl
theorem if_cut {c : TT} {t u : TS} {D : Ends} {σ : L2.St} {H : Hp} (R : Bool → Hp → Prop) (h2 : ∀ b H', R b H' → if b = true then t D σ H' else u D σ H') (h1 : ∀ Q : Bool → Hp → Prop, (∀ b H', R b H' → Q b H') → c σ H Q) : tIfS c t u D σ H := h1 _ h2
theorem ifs_cut {c : TT} {t u v : TS} {D : Ends} {σ : L2.St} {H : Hp} (R : Bool → Hp → Prop) (h2 : ∀ b H', R b H' → if b = true then t { D with nx := v D } σ H' else u { D with nx := v D } σ H') (h1 : ∀ Q : Bool → Hp → Prop, (∀ b H', R b H' → Q b H') → c σ H Q) : tSeq (tIfS c t u) v D σ H := h1 _ h2
theorem last_of {α : Type} {l : List α} {x : α} : (l ++ [x])[(l ++ [x]).length - 1]? = some x := by simp
theorem same_upd {H0 H : Hp} {q : Addr} {o : HO} (g : Same H0 H) (n : H0 q = none) : Same H0 (upd H q o) := fun b u e => by rw [upd_ne (ne_of_none e n)]; exact g b u e

end
end My
set_option Elab.async false
set_option linter.all false
set_option maxRecDepth 100000
set_option maxHeartbeats 400000
namespace My
open PySem L2 PySem.Spec PyProof.Rows
section
variable {P : Program} {w : World} {K : PySem.W.Frag} {mg : Str → Option Value} {base : Heap}
theorem kit_lt {K : PySem.W.Frag} : PySem.W.kitAny K (.type "list") [.type "list", .type "tuple"] = some true := by
  have e : PySem.W.kitOne K (.type "list") (.type "list") = some true := kit_ty (by decide +kernel)
  unfold PySem.W.kitAny
  rw [e]
def sp_isrow (K : PySem.W.Frag) : Sp := fun vs H Q _ => ∃ (a : Addr) (xs : List V), vs = [.ref a] ∧ SqL K H a xs ∧ ∀ H', Same H H' → Q (.bl true) H'
theorem ok_is_row (T : Txt K mg) : FnOk P w K mg base CX0 1 T.a_is_row T.d_is_row ["value"] (sp_isrow K) := by
  refine T.F_is_row.ok sc_is_row (fun vs H Q E h => ?_) (fun cdv A outer s H vs Q E hr h => ?_)
  · obtain ⟨a, xs, rfl, _⟩ := h
    rfl
  obtain ⟨a, xs, rfl, hs, k⟩ := h
  refine ⟨_, (pss_one (ps_ret (pe_callB call_isiT (by rfl) T.z_isinstance (by decide +kernel) (pa_cons (pv 0) (pa_cons (pe_tup (pa_cons (pe_bltn (v := .ty "list") (by rfl) T.z_list (by decide +kernel) rfl) (pa_cons (pe_bltn (v := .ty "tuple") (by rfl) T.z_tuple (by decide +kernel) rfl) pa_nil))) pa_nil))))), ?_⟩
  refine ⟨_, rfl, (by show 2 ≤ sizeLine; decide), fun q hq => ?_⟩
  have g := same_new hq (.tup [.ty "list", .ty "tuple"])
  exact ⟨_, q, _, _, [.type "list", .type "tuple"], true, rfl, upd_same, .cons (.ty _) (.cons (.ty _) .nil), ty_lst (g.seq hs), kit_lt, k _ g⟩
theorem nameB_ok {n : Str} (h : nameB n = true) : StrOk (.str n) := by
  intro s e
  cases e
  unfold nameB at h
  rw [Bool.and_eq_true, Bool.and_eq_true, Bool.and_eq_true] at h
  have := of_decide_eq_true h.1.1.2
  omega
def sp_names (K : PySem.W.Frag) : Sp := fun vs H Q _ => ∃ (a : Addr) (m : Int) (ns : List Str), vs = [.ref a, .int m] ∧ SqL K H a (ns.map V.str) ∧ (∀ n, n ∈ ns → nameB n = true) ∧ ns.Nodup ∧ (ns.length : Int) ≤ m ∧ m ≤ 10 ∧ ∀ H', Same H H' → Q (.bl true) H'
theorem ok_are_names (T : Txt K mg) : FnOk P w K mg base CX0 2 T.a_are_names T.d_are_names ["row", "most"] (sp_names K) := by
  have G_is_row := ok_is_row (P := P) (w := w) (base := base) T
  have G_is_name := ok_is_name (P := P) (w := w) (base := base) T
  refine T.F_are_names.ok sc_are_names (fun vs H Q E h => ?_) (fun cdv A outer s H vs Q E hr h => ?_)
  · obtain ⟨a, m, ns, rfl, _⟩ := h
    rfl
  obtain ⟨a, m, ns, rfl, hs, hn, nd, le, lm, k⟩ := h
  refine ⟨_, (pss_cons (ps_if (PW.pt (pw_or (pt_not (pt_val (pe_call G_is_row (hr.mono (by first | decide | omega)) (by rfl) T.m_is_row T.F_is_row.kp T.b_is_row .nil pass0 (pa_cons (pv 0) pa_nil)))) (pw_or (pt_cmpR op_gt (pe_callB call_len_seq (by rfl) T.z_len (by decide +kernel) (pa_cons (pv 0) pa_nil)) (pv 1) (nomark _)) (pw_or1 (pt_not (pt_val (pe_callB (cr_all rfl) (by rfl) T.z_all (by decide +kernel) (pa_cons (pe_lc (own := [("name", 2)]) rfl sc_are_names.nd (pi_list (pv 0)) (blkOk_by (own := [("name", 2)]) (N := ["row", "most", "name"]) (sc := defScope s_are_names) (by decide +kernel)) (fun _ _ _ _ _ => (pg_name (i := 2) sc_are_names.nd rfl (by first | exact Or.inl rfl | exact Or.inr rfl))) (fun _ _ _ _ _ => pts_nil) (fun _ _ _ _ _ => (pe_call G_is_name (hr.mono (by first | decide | omega)) (by rfl) T.m_is_name T.F_is_name.kp T.b_is_name .nil pass0 (pa_cons (pv 2) pa_nil)))) pa_nil)))))))) (pss_one (ps_ret pe_bl)) pss_nil)
    (pss_one (ps_ret (pe_cmpR op_eq (pe_lenT rfl (by rfl) T.z_len (by rfl) T.z_set (pv 0)) (pe_callB call_len_seq (by rfl) T.z_len (by decide +kernel) (pa_cons (pv 0) pa_nil)) (nomark _))))), ?_⟩
  refine ⟨_, rfl, a, _, rfl, hs, fun H1 g1 => ⟨_, rfl, ?_⟩⟩
  refine iteF ⟨_, rfl, a, _, rfl, .inl (g1.seq hs), _, rfl, _, _, rfl, rfl, _, rfl, ?_⟩
  rw [List.length_map, decide_eq_false (show ¬ m < ((ns.length : Nat) : Int) by omega)]
  refine iteF ⟨_, rfl, a, rfl, ⟨_, g1.seq hs⟩, fun D hD => ?_⟩
  have all_ : ∀ l : Nat, (List.replicate l true).all id = true := fun l => by
    rw [List.all_eq_true]
    intro b hb
    rw [(List.mem_replicate.mp hb).2]
    rfl
  refine lc_list (K := K) (a := a) (xs := ns.map V.str) (fun i H' => Same H1 H' ∧ H' D = some (.lst (List.replicate i (.bl true)))) ⟨same_new hD _, upd_same⟩ (fun i H' _ z => z.1.seq (g1.seq hs)) ?_ ?_
  · rintro i x H' hx ⟨g, e⟩
    rw [List.getElem?_map] at hx
    obtain ⟨n, hi, rfl⟩ := Option.map_eq_some_iff.mp hx
    have hl : i < ns.length := (List.getElem?_eq_some_iff.mp hi).1
    have en : nameD (.str n) = true := hn n (List.mem_of_getElem? hi)
    refine ⟨rfl, _, rfl, _, .str n, rfl, .str n, nameB_ok en, fun H2 g2 => ⟨_, g2 _ _ e, ?_, same_upd (g.trans g2) hD, ?_⟩⟩
    · rw [List.length_replicate]
      exact small1000 (by omega)
    · rw [upd_same, en, ← List.replicate_succ']
  · rintro H' ⟨g, e⟩
    rw [List.length_map] at e
    refine ⟨D, List.replicate ns.length true, rfl, SqL.of (by rw [e, List.map_replicate]), _, rfl, ?_⟩
    rw [all_]
    refine iteF ⟨_, rfl, a, ns, rfl, (g1.trans g).seq hs, nd, by omega, _, rfl, a, _, rfl, .inl ((g1.trans g).seq hs), rfl, ?_⟩
    show Q (.bl (decide (V.int ((ns.length : Nat) : Int) = V.int (((ns.map V.str).length : Nat) : Int)))) H'
    rw [len_dec, List.length_map, decide_eq_true rfl]
    exact k _ (g1.trans g)
/-! ### the dict of what is asked -/
def kvsOf (as : List (Str × Bool)) : List (Key × V) := as.map fun p => (Sum.inr p.1, kindV p.2)
theorem kvsOf_val : ∀ {as : List (Str × Bool)} {n : Str} {b : Bool}, (as.map Prod.fst).Nodup → (n, b) ∈ as → valV (kvsOf as) (Sum.inr n) = some (kindV b)
  | [], _, _, _, h => by cases h
  | (m, c) :: as, n, b, nd, h => by
    rw [List.map_cons, List.nodup_cons] at nd
    rcases List.mem_cons.mp h with h | h
    · cases h
      exact valV_pos rfl
    · have ne : ¬ m = n := fun e => nd.1 (by rw [e]; exact List.mem_map.mpr ⟨_, h, rfl⟩)
      have e : valV (kvsOf ((m, c) :: as)) (Sum.inr n) = valV (kvsOf as) (Sum.inr n) := valV_neg (fun z => ne (Sum.inr.inj z))
      rw [e]
      exact kvsOf_val nd.2 h
theorem kvsOf_none : ∀ {as : List (Str × Bool)} {n : Str}, n ∉ as.map Prod.fst → valV (kvsOf as) (Sum.inr n) = none
  | [], _, _ => rfl
  | (m, c) :: as, n, h => by
    rw [List.map_cons, List.mem_cons, not_or] at h
    have e : valV (kvsOf ((m, c) :: as)) (Sum.inr n) = valV (kvsOf as) (Sum.inr n) := valV_neg (fun z => h.1 (Sum.inr.inj z).symm)
    rw [e]
    exact kvsOf_none h.2
def sp_arasked (K : PySem.W.Frag) : Sp := fun vs H Q _ => ∃ (a : Addr) (as : List (Str × Bool)), vs = [.ref a] ∧ H a = some (.dK (kvsOf as)) ∧ (∀ p, p ∈ as → nameB p.1 = true) ∧ (as.map Prod.fst).Nodup ∧ as.length ≤ 4 ∧ ∀ H', Same H H' → Q (.bl true) H'
theorem ok_are_asked (T : Txt K mg) : FnOk P w K mg base CX0 2 T.a_are_asked T.d_are_asked ["asked"] (sp_arasked K) := by
  have G_is_name := ok_is_name (P := P) (w := w) (base := base) T
  refine T.F_are_asked.ok sc_are_asked (fun vs H Q E h => ?_) (fun cdv A outer s H vs Q E hr h => ?_)
  · obtain ⟨a, as, rfl, _⟩ := h
    rfl
  obtain ⟨a, as, rfl, hs, hn, nd, le, k⟩ := h
  refine ⟨_, (pss_cons (ps_if (PW.pt (pw_or (pt_not (pt_val (pe_callB call_isi (by rfl) T.z_isinstance (by decide +kernel) (pa_cons (pv 0) (pa_cons (pe_bltn (v := .ty "dict") (by rfl) T.z_dict (by decide +kernel) rfl) pa_nil))))) (pw_or1 (pt_cmpR op_gt (pe_callB call_lenD (by rfl) T.z_len (by decide +kernel) (pa_cons (pv 0) pa_nil)) (pe_glob (v := .int 4) (by rfl) T.m_MOST_ASKED ⟨_, rfl⟩) (nomark _))))) (pss_one (ps_ret pe_bl)) pss_nil)
    (pss_one (ps_ret (pe_callB (cr_all rfl) (by rfl) T.z_all (by decide +kernel) (pa_cons (pe_lock (pe_lc (own := [("name", 1)]) rfl sc_are_asked.nd (pi_keys (pv 0)) (blkOk_by (own := [("name", 1)]) (N := ["asked", "name"]) (sc := defScope s_are_asked) (by decide +kernel)) (fun _ _ _ _ _ => (pg_name (i := 1) sc_are_asked.nd rfl (by first | exact Or.inl rfl | exact Or.inr rfl))) (fun _ _ _ _ _ => pts_nil) (fun _ _ _ _ _ => (pe_and (pe_call G_is_name (hr.mono (by first | decide | omega)) (by rfl) T.m_is_name T.F_is_name.kp T.b_is_name .nil pass0 (pa_cons (pv 1) pa_nil)) (pe_one (pe_cmpR (show OpR _ _ (rIn K false) from op_in_seq) (pe_dget (hu_of hr) (pv 0) (pv 1) (fun _ _ => rfl)) (pe_tup (pa_cons pe_str (pa_cons pe_str pa_nil))) (by with_unfolding_all rfl))))))) pa_nil))))), ?_⟩
  have hl : (kvsOf as).length = as.length := List.length_map ..
  have e4 : decide ((4 : Int) < ((kvsOf as).length : Int)) = false := decide_eq_false (by rw [hl]; omega)
  refine ⟨_, rfl, .ref a, .ty "dict", .type "dict", .type "dict", true, rfl, .ty _, .base (.dK hs), kit_ty (by decide +kernel), _, rfl, iteF ⟨_, rfl, a, _, rfl, hs, _, _, rfl, rfl, _, rfl, ?_⟩⟩
  rw [e4]
  have hn0 : ∀ H' : Hp, (∀ b o, b ≠ a → H b = some o → H' b = some o) → H' a = some (.dK (kvsOf as)) → Same H H' := fun H' g1 g2 b o hb => by
    by_cases e : b = a
    · rw [e] at hb ⊢
      rw [hs] at hb
      rw [← hb]
      exact g2
    · exact g1 b o e hb
  have all_ : ∀ l : Nat, (List.replicate l true).all id = true := fun l => by
    rw [List.all_eq_true]
    intro b hb
    rw [(List.mem_replicate.mp hb).2]
    rfl
  refine iteF ⟨a, _, hs, trivial, fun od => ⟨_, rfl, a, od, rfl, .inl ⟨_, upd_same, fun D hD => ?_⟩⟩⟩
  have nD : D ≠ a := fun z => by
    rw [z, upd_same] at hD
    cases hD
  rw [upd_ne nD] at hD
  refine lc_it walk_keys (fun i H' => H' a = some (.frz od (.dK (kvsOf as))) ∧ (∀ b o, b ≠ a → H b = some o → H' b = some o) ∧ H' D = some (.lst (List.replicate i (.bl true)))) ⟨?_, ?_, upd_same⟩ (fun i H' _ z => z.1) ?_ ?_
  · rw [upd_ne (Ne.symm nD), upd_same]
  · intro b o n hb
    rw [upd_ne (ne_of_none hb hD), upd_ne n]
    exact hb
  · rintro i x H1 H' hi ⟨f1, f2, f3⟩ ⟨rfl, key, v, hk, rfl⟩
    have hk' : (as.map fun p => ((Sum.inr p.1 : Key), kindV p.2))[i]? = some (key, v) := hk
    rw [List.getElem?_map] at hk'
    obtain ⟨⟨n, b⟩, hi2, e2⟩ := Option.map_eq_some_iff.mp hk'
    cases e2
    have mem := List.mem_of_getElem? hi2
    have en : nameD (.str n) = true := hn _ mem
    refine ⟨rfl, _, rfl, _, .str n, rfl, .str n, nameB_ok en, fun H2 g2 => ⟨_, rfl, ite2 (fun _ => ?_) (fun c => absurd en c)⟩⟩
    refine ⟨_, rfl, _, rfl, a, kindV b, rfl, .inl ⟨kvsOf as, Sum.inr n, .inr ⟨od, g2 _ _ f1⟩, rfl, (kvsOf_val nd mem).symm⟩, (by show 2 ≤ sizeLine; decide), fun q hq => ?_⟩
    have gq := same_new hq (.tup [.str "number", .str "text"])
    have g3 : ∀ c o, c ≠ a → H c = some o → upd H2 q (.tup [.str "number", .str "text"]) c = some o := fun c o z hc => gq _ _ (g2 _ _ (f2 c o z hc))
    refine in_pair "number" "text" (d := .str (if b then "number" else "text")) (.str _) rfl upd_same ⟨_, gq _ _ (g2 _ _ f3), ?_, ?_, ?_, ?_⟩
    · rw [List.length_replicate]
      have := (List.getElem?_eq_some_iff.mp hi2).1
      exact small1000 (by omega)
    · rw [upd_ne (Ne.symm nD)]
      exact gq _ _ (g2 _ _ f1)
    · exact fun c o z hc => by
        rw [upd_ne (ne_of_none hc hD)]
        exact g3 c o z hc
    · rw [upd_same, List.replicate_succ']
      cases b <;> rfl
  · rintro H' ⟨f1, f2, f3⟩
    refine ⟨f1, D, List.replicate (kvsOf as).length true, rfl, SqL.of (by rw [upd_ne nD, f3, List.map_replicate]), ?_⟩
    rw [all_]
    refine k _ (hn0 _ (fun b o n hb => ?_) upd_same)
    rw [upd_ne n]
    exact f2 b o n hb
def AskOk (as : List (Str × Bool)) : Prop := (∀ p, p ∈ as → nameB p.1 = true) ∧ as.length ≤ 4
/-- good parts of columns -/
structure ColsOk (hs : List Str) (as : List (Str × Bool)) (ss : List Str) : Prop where
  h : ∀ n, n ∈ hs → nameB n = true
  a : ∀ p, p ∈ as → nameB p.1 = true
  s : ∀ n, n ∈ ss → nameB n = true
  nd : (hs ++ as.map Prod.fst ++ ss).Nodup
  lh : hs.length ≤ 2
  la : as.length ≤ 4
  ls : ss.length ≤ 2
def sp_wrong (K : PySem.W.Frag) : Sp := fun vs H Q _ => ∃ (h a s : Addr) (hs : List Str) (as : List (Str × Bool)) (ss : List Str), vs = [.ref h, .ref a, .ref s] ∧ SqL K H h (hs.map V.str) ∧ H a = some (.dK (kvsOf as)) ∧ SqL K H s (ss.map V.str) ∧ ColsOk hs as ss ∧ ∀ H', Same H H' → Q .non H'
theorem ok_wrong_part (T : Txt K mg) : FnOk P w K mg base CX0 3 T.a_wrong_part T.d_wrong_part ["hashed", "asked", "summed"] (sp_wrong K) := by
  have G_are_names := ok_are_names (P := P) (w := w) (base := base) T
  have G_are_asked := ok_are_asked (P := P) (w := w) (base := base) T
  refine T.F_wrong_part.ok sc_wrong_part (fun vs H Q E h => ?_) (fun cdv A outer s H vs Q E hr h => ?_)
  · obtain ⟨h, a, s, hs, as, ss, rfl, _⟩ := h
    rfl
  obtain ⟨h, a, sm, hs, as, ss, rfl, q1, q2, q3, ok, k⟩ := h
  refine ⟨_, (pss_cons (ps_if (pt_not (pt_val (pe_call G_are_names (hr.mono (by first | decide | omega)) (by rfl) T.m_are_names T.F_are_names.kp T.b_are_names .nil pass0 (pa_cons (pv 0) (pa_cons (pe_glob (v := .int 2) (by rfl) T.m_MOST_HASHED ⟨_, rfl⟩) pa_nil))))) (pss_one (ps_ret pe_str)) pss_nil)
    (pss_cons (ps_if (pt_not (pt_val (pe_call G_are_asked (hr.mono (by first | decide | omega)) (by rfl) T.m_are_asked T.F_are_asked.kp T.b_are_asked .nil pass0 (pa_cons (pv 1) pa_nil)))) (pss_one (ps_ret pe_str)) pss_nil)
    (pss_cons (ps_if (pt_not (pt_val (pe_call G_are_names (hr.mono (by first | decide | omega)) (by rfl) T.m_are_names T.F_are_names.kp T.b_are_names .nil pass0 (pa_cons (pv 2) (pa_cons (pe_glob (v := .int 2) (by rfl) T.m_MOST_SUMMED ⟨_, rfl⟩) pa_nil))))) (pss_one (ps_ret pe_str)) pss_nil)
    (pss_cons (ps_set (i := 3) sc_wrong_part.nd rfl (by first | exact Or.inl rfl | exact Or.inr rfl) (pe_op op_cat (pe_op op_cat (pe_callTy call_list_of (by rfl) T.z_list (by decide +kernel) (pa_cons (pv 0) pa_nil)) (pe_callTy (call_listD rfl) (by rfl) T.z_list (by decide +kernel) (pa_cons (pv 1) pa_nil))) (pe_callTy call_list_of (by rfl) T.z_list (by decide +kernel) (pa_cons (pv 2) pa_nil))))
    (pss_cons (ps_if (pt_cmpR op_lt (pe_lenT rfl (by rfl) T.z_len (by rfl) T.z_set (pv 3)) (pe_callB call_len_seq (by rfl) T.z_len (by decide +kernel) (pa_cons (pv 3) pa_nil)) (nomark _)) (pss_one (ps_ret pe_str)) pss_nil)
    (pss_one (ps_ret pe_non))))))), ?_⟩
  have nd1 := (List.nodup_append.mp ok.nd).1
  have ndh := (List.nodup_append.mp nd1).1
  have nda := (List.nodup_append.mp nd1).2.1
  have nds := (List.nodup_append.mp ok.nd).2.1
  have lh := ok.lh
  have la := ok.la
  have ls := ok.ls
  refine ⟨_, rfl, h, 2, hs, rfl, q1, ok.h, ndh, by omega, by omega, fun H1 g1 => ⟨_, rfl, ?_⟩⟩
  refine iteF ?_
  refine ⟨_, rfl, a, as, rfl, g1 _ _ q2, ok.a, nda, la, fun H2 g2 => ⟨_, rfl, ?_⟩⟩
  refine iteF ?_
  have g12 := g1.trans g2
  refine ⟨_, rfl, sm, 2, ss, rfl, g12.seq q3, ok.s, nds, by omega, by omega, fun H3 g3 => ⟨_, rfl, ?_⟩⟩
  refine iteF ?_
  have g13 := g12.trans g3
  refine ⟨_, rfl, h, _, rfl, .inl (g13.seq q1), fun l1 f1 => ?_⟩
  have g4 := g13.trans (same_new f1 (.lst (hs.map V.str)))
  have e1 : upd H3 l1 (.lst (hs.map V.str)) l1 = some (.lst (hs.map V.str)) := upd_same
  generalize upd H3 l1 (.lst (hs.map V.str)) = H4 at *
  refine ⟨_, rfl, a, _, rfl, Rd.of (g4 _ _ q2), fun l2 f2 => ?_⟩
  have g45 := same_new f2 (.lst ((kvsOf as).map fun kv => kV kv.1))
  have g5 := g4.trans g45
  have e2 : upd H4 l2 (.lst ((kvsOf as).map fun kv => kV kv.1)) l2 = some (.lst ((kvsOf as).map fun kv => kV kv.1)) := upd_same
  have e1' := g45 _ _ e1
  generalize upd H4 l2 (.lst ((kvsOf as).map fun kv => kV kv.1)) = H5 at *
  have ek : ((kvsOf as).map fun kv => kV kv.1) = (as.map Prod.fst).map V.str := by
    unfold kvsOf
    rw [List.map_map, List.map_map]
    rfl
  rw [ek] at e2
  refine ⟨l1, l2, _, _, rfl, rfl, e1', e2, ?_, fun l3 f3 => ?_⟩
  · rw [List.length_map, List.length_map, List.length_map]
    exact Nat.le_of_lt (small1000 (by omega))
  have g56 := same_new f3 (.lst (hs.map V.str ++ (as.map Prod.fst).map V.str))
  have g6 := g5.trans g56
  have e3 : upd H5 l3 (.lst (hs.map V.str ++ (as.map Prod.fst).map V.str)) l3 = some (.lst (hs.map V.str ++ (as.map Prod.fst).map V.str)) := upd_same
  generalize upd H5 l3 (.lst (hs.map V.str ++ (as.map Prod.fst).map V.str)) = H6 at *
  refine ⟨_, rfl, sm, _, rfl, .inl (g6.seq q3), fun l4 f4 => ?_⟩
  have g67 := same_new f4 (.lst (ss.map V.str))
  have g7 := g6.trans g67
  have e4 : upd H6 l4 (.lst (ss.map V.str)) l4 = some (.lst (ss.map V.str)) := upd_same
  have e3' := g67 _ _ e3
  generalize upd H6 l4 (.lst (ss.map V.str)) = H7 at *
  refine ⟨l3, l4, _, _, rfl, rfl, e3', e4, ?_, fun l5 f5 => ?_⟩
  · rw [List.length_append, List.length_map, List.length_map, List.length_map, List.length_map]
    exact Nat.le_of_lt (small1000 (by omega))
  rw [← List.map_append, ← List.map_append]
  have g8 := g7.trans (same_new f5 (.lst ((hs ++ as.map Prod.fst ++ ss).map V.str)))
  have e5 : upd H7 l5 (.lst ((hs ++ as.map Prod.fst ++ ss).map V.str)) l5 = some (.lst ((hs ++ as.map Prod.fst ++ ss).map V.str)) := upd_same
  generalize upd H7 l5 (.lst ((hs ++ as.map Prod.fst ++ ss).map V.str)) = H8 at *
  have ll : (hs ++ as.map Prod.fst ++ ss).length < 100 := by
    rw [List.length_append, List.length_append, List.length_map]
    omega
  refine ⟨_, rfl, l5, _, rfl, SqL.of e5, ok.nd, ll, _, rfl, l5, _, rfl, .inl (SqL.of e5), _, _, rfl, rfl, _, rfl, ?_⟩
  rw [List.length_map, decide_eq_false (Int.lt_irrefl _)]
  exact iteF (k _ g8)

end
end My
set_option Elab.async false
set_option linter.all false
set_option maxRecDepth 100000
set_option maxHeartbeats 400000
namespace My
open PySem L2 PySem.Spec PyProof.Rows
section
variable {P : Program} {w : World} {K : PySem.W.Frag} {mg : Str → Option Value} {base : Heap}
def askOf (as : List (Str × Bool)) (n : Str) : Option Bool := (as.find? fun p => decide (p.1 = n)).map Prod.snd
theorem askOf_val (as : List (Str × Bool)) (n : Str) : valV (kvsOf as) (Sum.inr n) = (askOf as n).map kindV := by
  induction as with
  | nil => rfl
  | cons p as ih =>
    unfold askOf at ih ⊢
    by_cases e : p.1 = n
    · have e1 : valV (kvsOf (p :: as)) (Sum.inr n) = some (kindV p.2) := valV_pos (congrArg Sum.inr e)
      rw [e1, List.find?_cons_of_pos (by simpa using e)]
      rfl
    · have e1 : valV (kvsOf (p :: as)) (Sum.inr n) = valV (kvsOf as) (Sum.inr n) := valV_neg (fun z => e (Sum.inr.inj z))
      rw [e1, ih, List.find?_cons_of_neg (by simpa using e)]
theorem dc_list {K : PySem.W.Frag} {a : Addr} {xs : List V} {g : TG} {tt : TT} {tk tv : TE} {vs : List Nat} {σ : L2.St} {H1 : Hp} {D : Addr} {Qd : Hp → Prop} (Pv : Nat → Hp → Prop) (h0 : Pv 0 (upd H1 D (.dK []))) (hl : ∀ i H, Pv i H → SqL K H a xs)
    (hs : ∀ i x H, xs[i]? = some x → Pv i H → g x (wipe σ vs) H fun σ2 H2 => wipe σ2 vs = wipe σ vs ∧ tt σ2 H2 fun b H3 =>
      if b = true then tk σ2 H3 fun y H4 => tv σ2 H4 fun z H5 => ∃ kvs k, y = kV k ∧ H5 D = some (.dK kvs) ∧ kvs.length < sizeLine ∧ Pv (i + 1) (upd H5 D (.dK (putK kvs k z))) else Pv (i + 1) H3) (hd : ∀ H, Pv xs.length H → Qd H) :
    ∃ W : Nat → Nat → Hp → Prop, (∃ m, W 0 m (upd H1 D (.dK []))) ∧ ∀ i m H, W i m H →
      ((Itl K a).stop i H ∧ Qd H) ∨ ((Itl K a).go i H ∧ ∃ Nx : Hp → Prop, (∀ H', Nx H' → ∃ m', m' < m ∧ W (i + 1) m' H') ∧ ∀ x H', (Itl K a).yld i H x H' → g x (wipe σ vs) H' fun σ2 H2 => wipe σ2 vs = wipe σ vs ∧ tt σ2 H2 fun b H3 =>
        if b = true then tk σ2 H3 fun y H4 => tv σ2 H4 fun z H5 => ∃ kvs k, y = kV k ∧ H5 D = some (.dK kvs) ∧ kvs.length < sizeLine ∧ Nx (upd H5 D (.dK (putK kvs k z))) else Nx H3) := by
  refine ⟨fun i m H => i + m = xs.length ∧ Pv i H, ⟨xs.length, by simp, h0⟩, fun i m H w => ?_⟩
  obtain ⟨e, p⟩ := w
  have q := hl i H p
  cases m with
  | zero =>
    obtain rfl : i = xs.length := by omega
    exact .inl ⟨⟨xs, q, Nat.le_refl _⟩, hd H p⟩
  | succ m =>
    have lt : i < xs.length := by omega
    refine .inr ⟨⟨xs, xs[i], q, List.getElem?_eq_getElem lt⟩, Pv (i + 1), fun H' z => ⟨m, Nat.lt_succ_self _, by omega, z⟩, fun x H' y => ?_⟩
    obtain ⟨rfl, y⟩ := y
    exact hs i x _ (y xs q) p
/-- a change of an object leaves a list -/
theorem sql_put {K : PySem.W.Frag} {H : Hp} {p a C dx : Addr} {fs : List (Str × V)} {xs : List V} {o : HO} (hp : H p = some (.ins C dx fs)) (h : SqL K H a xs) : SqL K (upd H p o) a xs := by
  rcases h with (h | ⟨q, h⟩) | h
  · refine .inl (.inl ?_)
    rw [upd_ne (ne_of h hp (by intro z; cases z))]
    exact h
  · refine .inl (.inr ⟨q, ?_⟩)
    rw [upd_ne (ne_of h hp (by intro z; cases z))]
    exact h
  · exact .inr h
theorem but_put {H H' : Hp} {p : Addr} {o : HO} (g : But p H H') : But p H (upd H' p o) := fun b u n e => by
  rw [upd_ne n]
  exact g b u n e
theorem colsF1 (x y : V) : putF "_asked" y (putF "hashed" x []) = [(("hashed" : Str), x), (("_asked" : Str), y)] := (if_neg (by decide +kernel)).trans rfl
theorem colsF2 (x y z : V) : putF "summed" z (putF "_asked" y (putF "hashed" x [])) = [(("hashed" : Str), x), (("_asked" : Str), y), (("summed" : Str), z)] := by
  rw [colsF1]
  exact (if_neg (by decide +kernel)).trans (congrArg _ (if_neg (by decide +kernel)))
theorem look_tail {f g : Str} {v : V} {r : List (Str × V)} (h : (f == g) = false) : List.lookup f ((g, v) :: r) = List.lookup f r := by
  rw [List.lookup_cons, h]
theorem look_head {f : Str} {v : V} {r : List (Str × V)} : List.lookup f ((f, v) :: r) = some v := by
  rw [List.lookup_cons, beq_self_eq_true]
def ColsM (C : Addr) (H : Hp) (p : Addr) (ss : List Str) : Prop := ∃ dx fs u, H p = some (.ins C dx fs) ∧ fs.lookup ("summed" : Str) = some (.ref u) ∧ H u = some (.tup (ss.map V.str))
def sp_cinit (C : Addr) (K : PySem.W.Frag) : Sp := fun vs H Q _ => ∃ (p h a s dx : Addr) (hs : List Str) (as : List (Str × Bool)) (ss : List Str), vs = [.ref p, .ref h, .ref a, .ref s] ∧ H p = some (.ins C dx []) ∧ SqL K H h (hs.map V.str) ∧ H a = some (.dK (kvsOf as)) ∧ SqL K H s (ss.map V.str) ∧ ColsOk hs as ss ∧
  ∀ H', But p H H' → ColsM C H' p ss → Q .non H'
theorem ok_Columns_init (T : Txt K mg) : FnOk P w K mg base CX0 4 T.a_Columns_init T.d_Columns_init ["self", "hashed", "asked", "summed"] (sp_cinit T.c_Columns K) := by
  have G_wrong_part := ok_wrong_part (P := P) (w := w) (base := base) T
  refine T.F_Columns_init.ok sc_Columns_init (fun vs H Q E h => ?_) (fun cdv A outer s H vs Q E hr h => ?_)
  · obtain ⟨p, h, a, s, dx, hs, as, ss, rfl, _⟩ := h
    rfl
  obtain ⟨p, h, a, sm, dx, hs, as, ss, rfl, hp, q1, q2, q3, ok, k⟩ := h
  refine ⟨_, (pss_cons (ps_set (i := 4) sc_Columns_init.nd rfl (by first | exact Or.inl rfl | exact Or.inr rfl) (pe_call G_wrong_part (hr.mono (by first | decide | omega)) (by rfl) T.m_wrong_part T.F_wrong_part.kp T.b_wrong_part .nil pass0 (pa_cons (pv 1) (pa_cons (pv 2) (pa_cons (pv 3) pa_nil)))))
    (pss_cons (ps_if (pt_cmpR op_notN (pv 4) pe_non (nomark _)) (pss_one ps_never) pss_nil)
    (pss_cons (ps_fld (pv 0) (pe_callTy call_tuple_of (by rfl) T.z_tuple (by decide +kernel) (pa_cons (pv 1) pa_nil)) rfl)
    (pss_cons (ps_fld (pv 0) (pe_dc (own := [("name", 5)]) rfl sc_Columns_init.nd (pi_list (pe_callB (call_sortedD rfl) (by rfl) T.z_sorted (by decide +kernel) (pa_cons (pv 2) pa_nil))) (blkOk_by (own := [("name", 5)]) (N := ["self", "hashed", "asked", "summed", "part", "name"]) (sc := defScope s_Columns_init) (by decide +kernel)) (fun _ _ _ _ _ => (pg_name (i := 5) sc_Columns_init.nd rfl (by first | exact Or.inl rfl | exact Or.inr rfl))) (fun _ _ _ _ _ => pts_nil) (fun _ _ _ _ _ => (pv 5)) (fun _ _ _ _ _ => (pe_dget (hu_of hr) (pv 2) (pv 5) (fun _ _ => rfl)))) rfl)
    (pss_one (ps_fld (pv 0) (pe_callTy call_tuple_of (by rfl) T.z_tuple (by decide +kernel) (pa_cons (pv 3) pa_nil)) rfl)))))), ?_⟩
  refine ⟨_, rfl, _, rfl, _, rfl, h, a, sm, hs, as, ss, rfl, q1, q2, q3, ok, fun H1 g1 => ?_⟩
  refine ⟨_, rfl, rfl, _, rfl, ?_⟩
  refine iteF ?_
  have hp1 := g1 _ _ hp
  have hq1 := g1.seq q1
  have hq2 := g1 _ _ q2
  have hq3 := g1.seq q3
  have na : a ≠ p := ne_of q2 hp (by intro z; cases z)
  have nd1 := (List.nodup_append.mp ok.nd).1
  have nda := (List.nodup_append.mp nd1).2.1
  have la := ok.la
  -- self.hashed = tuple(hashed)
  refine ⟨_, rfl, h, _, rfl, .inl ⟨hq1, fun t ht => ⟨_, rfl, p, T.c_Columns, dx, [], rfl, same_new ht _ _ _ hp1, T.cl_Columns, T.n_Columns_hashed, (by decide), ?_⟩⟩⟩
  have b2 : But p H (upd H1 t (.tup (hs.map V.str))) := (Same.but g1).same (same_new ht _)
  have b3 := but_put (o := .ins T.c_Columns dx (putF "hashed" (.ref t) [])) b2
  have t2 : upd H1 t (.tup (hs.map V.str)) t = some (.tup (hs.map V.str)) := upd_same
  have p2 := same_new ht (.tup (hs.map V.str)) _ _ hp1
  have nt : t ≠ p := fun z => by
    rw [z, hp1] at ht
    cases ht
  have t3 : upd (upd H1 t (.tup (hs.map V.str))) p (.ins T.c_Columns dx (putF "hashed" (.ref t) [])) t = some (.tup (hs.map V.str)) := by rw [upd_ne nt]; exact t2
  have p3 : upd (upd H1 t (.tup (hs.map V.str))) p (.ins T.c_Columns dx (putF "hashed" (.ref t) [])) p = some (.ins T.c_Columns dx (putF "hashed" (.ref t) [])) := upd_same
  have a3 := b3 _ _ na q2
  have s3 : SqL K (upd (upd H1 t (.tup (hs.map V.str))) p (.ins T.c_Columns dx (putF "hashed" (.ref t) []))) sm (ss.map V.str) := sql_put p2 ((same_new ht _).seq hq3)
  generalize upd (upd H1 t (.tup (hs.map V.str))) p (.ins T.c_Columns dx (putF "hashed" (.ref t) [])) = H3 at *
  -- self._asked = {name: asked[name] for name in sorted(asked)}
  refine ⟨_, rfl, a, kvsOf as, as.map Prod.fst, rfl, Rd.of a3, (by unfold kvsOf; rw [List.map_map, List.map_map]; rfl), (by rw [List.length_map]; omega), fun ys l pe _ hl => ?_⟩
  refine ⟨l, rfl, ⟨_, SqL.of upd_same⟩, fun D hD => ?_⟩
  have g4 := same_new hl (.lst (ys.map V.str))
  have l4 : SqL K (upd H3 l (.lst (ys.map V.str))) l (ys.map V.str) := SqL.of upd_same
  have b4 := b3.same g4
  have a4 := g4 _ _ a3
  have t4 := g4 _ _ t3
  have p4 := g4 _ _ p3
  have s4 := g4.seq s3
  generalize upd H3 l (.lst (ys.map V.str)) = H4 at *
  have ndy : ys.Nodup := pe.nodup_iff.mpr nda
  have ly : ys.length ≤ 4 := by
    rw [pe.length_eq, List.length_map]
    exact la
  refine dc_list (K := K) (a := l) (xs := ys.map V.str) (fun i H' => Same H4 H' ∧ ∃ kv, H' D = some (.dK kv) ∧ kv.length ≤ i ∧ ∀ n, valV kv (Sum.inr n) = if n ∈ ys.take i then (askOf as n).map kindV else none) ⟨same_new hD _, [], upd_same, Nat.le_refl _, fun n => rfl⟩ (fun i H' z => z.1.seq l4) ?_ ?_
  · rintro i x H' hx ⟨g, kv, e, lk, vals⟩
    rw [List.getElem?_map] at hx
    obtain ⟨n, hi, rfl⟩ := Option.map_eq_some_iff.mp hx
    have mem := pe.mem_iff.mp (List.mem_of_getElem? hi)
    obtain ⟨⟨n', b⟩, hm, rfl⟩ := List.mem_map.mp mem
    have hv := kvsOf_val nda hm
    have hv2 := hv
    rw [askOf_val] at hv2
    have hli : i < ys.length := (List.getElem?_eq_some_iff.mp hi).1
    refine ⟨rfl, _, rfl, _, rfl, _, rfl, a, kindV b, rfl, .inl ⟨kvsOf as, Sum.inr n', Rd.of (g _ _ a4), rfl, hv.symm⟩, kv, Sum.inr n', rfl, e, ?_, same_upd g hD, _, upd_same, ?_, fun m => ?_⟩
    · exact Nat.lt_of_le_of_lt lk (small1000 (by omega))
    · exact Nat.le_trans (length_putK ..) (Nat.succ_le_succ lk)
    · rw [valV_put, take_more' hi]
      by_cases em : m = n'
      · subst em
        rw [if_pos rfl, if_pos (by simp), hv2]
      · rw [if_neg (fun z => em (Sum.inr.inj z)), vals m]
        have : (m ∈ ys.take i ++ [n']) ↔ m ∈ ys.take i := by simp [em]
        simp only [this]
  · rintro H' ⟨g, kv, e, lk, vals⟩
    rw [List.length_map, List.take_of_length_le (Nat.le_refl _)] at vals
    have vals' : ∀ n, valV kv (Sum.inr n) = (askOf as n).map kindV := fun n => by
      rw [vals n]
      by_cases c : n ∈ ys
      · rw [if_pos c]
      · have c2 : n ∉ as.map Prod.fst := fun z => c (pe.mem_iff.mpr z)
        have := kvsOf_none c2
        rw [askOf_val] at this
        rw [if_neg c, this]
    have p5 := g _ _ p4
    refine ⟨_, rfl, p, T.c_Columns, dx, _, rfl, p5, T.cl_Columns, T.n_Columns__asked, (by show (1 : Nat) < 1000; decide), ?_⟩
    have b5 := but_put (o := .ins T.c_Columns dx (putF "_asked" (.ref D) (putF "hashed" (.ref t) []))) (b4.same g)
    have nD : D ≠ p := fun z => by
      rw [z, p4] at hD
      cases hD
    have d5 : upd H' p (.ins T.c_Columns dx (putF "_asked" (.ref D) (putF "hashed" (.ref t) []))) D = some (.dK kv) := by rw [upd_ne nD]; exact e
    have t5 : upd H' p (.ins T.c_Columns dx (putF "_asked" (.ref D) (putF "hashed" (.ref t) []))) t = some (.tup (hs.map V.str)) := by rw [upd_ne nt]; exact g _ _ t4
    have s5 : SqL K (upd H' p (.ins T.c_Columns dx (putF "_asked" (.ref D) (putF "hashed" (.ref t) [])))) sm (ss.map V.str) := sql_put p5 (g.seq s4)
    have p6 : upd H' p (.ins T.c_Columns dx (putF "_asked" (.ref D) (putF "hashed" (.ref t) []))) p = some (.ins T.c_Columns dx (putF "_asked" (.ref D) (putF "hashed" (.ref t) []))) := upd_same
    generalize upd H' p (.ins T.c_Columns dx (putF "_asked" (.ref D) (putF "hashed" (.ref t) []))) = H6 at *
    -- self.summed = tuple(summed)
    refine ⟨_, rfl, sm, _, rfl, .inl ⟨s5, fun u hu => ⟨_, rfl, p, T.c_Columns, dx, _, rfl, same_new hu _ _ _ p6, T.cl_Columns, T.n_Columns_summed, (by rw [colsF1]; show (2 : Nat) < 1000; decide), ?_⟩⟩⟩
    have gu := same_new hu (.tup (ss.map V.str))
    have nu : u ≠ p := fun z => by
      rw [z, p6] at hu
      cases hu
    refine k _ (but_put (b5.same gu)) ⟨dx, _, u, upd_same, ?_, by rw [upd_ne nu]; exact upd_same⟩
    rw [colsF2]
    exact (look_tail (by decide +kernel)).trans ((look_tail (by decide +kernel)).trans look_head)

end
end My
set_option Elab.async false
set_option linter.all false
set_option maxRecDepth 100000
set_option maxHeartbeats 400000
namespace My
open PySem L2 PySem.Spec PyProof.Rows
section
variable {P : Program} {w : World} {K : PySem.W.Frag} {mg : Str → Option Value} {base : Heap}
theorem ok__law_number (T : Txt K mg) : FnOk P w K mg base CX0 1 T.a__law_number T.d__law_number ["script", "index"] (sp_number K) := by

  refine T.F__law_number.ok sc__law_number (fun vs H Q E h => ?_) (fun cdv A outer s H vs Q E hr h => ?_)
  · obtain ⟨a, ns, i, rfl, _⟩ := h
    rfl
  obtain ⟨a, ns, i, rfl, hS, h63, k⟩ := h
  refine ⟨_, (pss_cons (ps_asg (pe_ifExp (pt_cmpR (op_neD (hu64 hr)) (pv 0) (pe_lst pa_nil) (nomark _)) (pe_tup (pa_cons (pe_ix ix_list (pv 0) (pe_op op_mod (pv 1) (pe_callB call_len_seq (by rfl) T.z_len (by decide +kernel) (pa_cons (pv 0) pa_nil))) (fun _ _ => rfl)) (pa_cons (pe_op op_fdivA (pv 1) (pe_callB call_len_seq (by rfl) T.z_len (by decide +kernel) (pa_cons (pv 0) pa_nil))) pa_nil))) (pe_tup (pa_cons pe_int (pa_cons pe_int pa_nil)))) (pg_tup rfl (pgs_cons (pg_name (i := 2) sc__law_number.nd rfl (by first | exact Or.inl rfl | exact Or.inr rfl)) (pgs_cons (pg_name (i := 3) sc__law_number.nd rfl (by first | exact Or.inl rfl | exact Or.inr rfl)) pgs_nil))))
    (pss_cons (ps_set (i := 4) sc__law_number.nd rfl (by first | exact Or.inl rfl | exact Or.inr rfl) (pe_ifExp (pt_cmpR op_lt (pv 3) pe_int (nomark _)) (pe_op op_sub (pv 2) (pe_op op_pow pe_int pe_int)) pe_int))
    (pss_cons (ps_for PassesOwn.never rfl (pi_range1 (by rfl) T.z_range (pa_cons (pe_op op_mod (pe_callTy call_int1 (by rfl) T.z_int (by decide +kernel) (pa_cons (pv 3) pa_nil)) pe_int) pa_nil)) (pg_name (i := 5) sc__law_number.nd rfl (by first | exact Or.inl rfl | exact Or.inr rfl))
    (pss_one (ps_set (i := 4) sc__law_number.nd rfl (by first | exact Or.inl rfl | exact Or.inr rfl) (pe_op op_fdivA (pv 4) pe_int))))
    (pss_cons (ps_if (pt_cmpR op_gt (pv 4) pe_int (nomark _)) (pss_one (ps_ret (pe_op op_mod (pe_callTy call_int1 (by rfl) T.z_int (by decide +kernel) (pa_cons (pv 4) pa_nil)) pe_int))) pss_nil)
    (pss_cons (ps_set (i := 6) sc__law_number.nd rfl (by first | exact Or.inl rfl | exact Or.inr rfl) (pe_op op_mod (pe_op op_add (pe_op op_mul (pe_callTy call_int1 (by rfl) T.z_int (by decide +kernel) (pa_cons (pe_op op_add (pv 2) (pe_op op_mul pe_int (pv 1))) pa_nil)) pe_int) (pe_op op_mul pe_int (pe_callB call_len_seq (by rfl) T.z_len (by decide +kernel) (pa_cons (pv 0) pa_nil)))) pe_int))
    (pss_cons (ps_set (i := 6) sc__law_number.nd rfl (by first | exact Or.inl rfl | exact Or.inr rfl) (pe_op op_mod (pe_op op_add (pe_op op_mul (pv 6) (pv 6)) (pe_op op_mul pe_int (pv 1))) pe_int))
    (pss_one (ps_ret (pe_callTy call_int1 (by rfl) T.z_int (by decide +kernel) (pa_cons (pe_op op_mod (pe_op op_add (pe_op op_mul (pv 6) pe_int) (pe_op op_fdivA (pv 6) pe_int)) pe_int) pa_nil)))))))))), ?_⟩
  -- cell, turn = ..
  refine seq_cut (fun σ' H' => ∃ c t : Int, σ' = [some (.ref a), some (.int i), some (.int c), some (.int t), none, none, none] ∧ Same H H') ?_ (fun tail => ?_)
  · rintro σ' H' ⟨c, t, rfl, g⟩
    have hS' := g.seq hS
    -- rest = ..
    refine seq_cut (fun σ' H' => ∃ r : Int, σ' = [some (.ref a), some (.int i), some (.int c), some (.int t), some (.int r), none, none] ∧ Same H H') ?_ (fun tail => ?_)
    · rintro σ' H' ⟨r, rfl, g⟩
      have hS' := g.seq hS
      -- for step in range(int(turn) % 60)
      refine ⟨_, rfl, .inl ⟨t, rfl, _, _, rfl, rfl, (by show (0 : Int) < 60; decide), ?_⟩⟩
      have m0 : 0 ≤ t % 60 := Int.emod_nonneg _ (by decide)
      have m1 : t % 60 < 60 := Int.emod_lt_of_pos _ (by decide)
      refine ⟨t % 60, rfl, by omega, by omega, for_range (lo := 0) (n := (t % 60).toNat) (fun _ σ' H' => ∃ (r : Int) (z : Option V), σ' = [some (.ref a), some (.int i), some (.int c), some (.int t), some (.int r), z, none] ∧ Same H H') ⟨r, none, rfl, g⟩ ?_ ?_⟩
      · rintro j σ' H' hj ⟨r, z, rfl, g⟩
        exact ⟨_, rfl, _, _, rfl, rfl, divA_small (by decide) (by decide), _, _, rfl, g⟩
      · rintro σ' H' ⟨r, z, rfl, g⟩
        have hS' := g.seq hS
        dsimp only
        refine seq_cut (fun σ' H'' => σ' = [some (.ref a), some (.int i), some (.int c), some (.int t), some (.int r), z, none] ∧ H'' = H') ?_ (fun tail => ?_)
        rotate_left
        · refine ⟨_, rfl, _, _, rfl, rfl, _, rfl, ?_⟩
          refine ite2 (fun _ => ?_) (fun _ => ?_)
          · exact ⟨_, rfl, .inl ⟨_, rfl, _, _, rfl, rfl, (by show (0 : Int) < 1009; decide), k _ _ g⟩⟩
          · exact tail _ _ ⟨rfl, rfl⟩
        · rintro σ' H'' ⟨rfl, rfl⟩
          refine seq_cut (fun σ' H' => ∃ (b : Int) (z : Option V), σ' = [some (.ref a), some (.int i), some (.int c), some (.int t), some (.int r), z, some (.int b)] ∧ 0 ≤ b ∧ b < 2147483647 ∧ Same H H') ?_ (fun tail => ?_)
          · rintro σ' H' ⟨b, z, rfl, b0, b1, g⟩
            refine ⟨_, rfl, _, rfl, _, _, rfl, rfl, .inl ⟨by omega, by omega⟩, _, rfl, _, _, rfl, rfl, .inl ⟨by decide, by decide⟩, _, _, rfl, rfl, _, _, rfl, rfl, (by show (0 : Int) < 2147483629; decide), ?_⟩
            exact ⟨_, rfl, _, _, rfl, rfl, .inr ⟨by decide, by decide⟩, _, rfl, _, _, rfl, rfl, divA_small (by decide) (by decide), _, _, rfl, rfl, _, _, rfl, rfl, (by show (0 : Int) < 2147483587; decide), .inl ⟨_, rfl, k _ _ g⟩⟩
          · refine ⟨_, rfl, _, rfl, _, _, rfl, rfl, .inl ⟨by decide, by decide⟩, _, _, rfl, rfl, .inl ⟨_, rfl, _, _, rfl, rfl, .inr ⟨by decide, by decide⟩, ?_⟩⟩
            refine ⟨_, rfl, a, _, rfl, .inl hS', _, _, rfl, rfl, .inl ⟨by decide, by decide⟩, _, _, rfl, rfl, _, _, rfl, rfl, (by show (0 : Int) < 2147483647; decide), ?_⟩
            exact tail _ _ ⟨_, _, rfl, Int.emod_nonneg _ (by decide), Int.emod_lt_of_pos _ (by decide), g⟩
    · refine ⟨_, rfl, _, _, rfl, rfl, _, rfl, ?_⟩
      refine ite2 (fun _ => ?_) (fun _ => ?_)
      · exact ⟨_, rfl, _, _, rfl, rfl, ⟨by decide, by decide, by decide⟩, _, _, rfl, rfl, tail _ _ ⟨_, rfl, g⟩⟩
      · exact tail _ _ ⟨_, rfl, g⟩
  · refine ⟨_, rfl, (by show 0 ≤ sizeLine; decide), fun p hp => ?_⟩
    have g1 : Same H (upd H p (.lst [])) := same_new hp _
    have hS1 := g1.seq hS
    refine ⟨.list (ns.map .int), .list [], .lst hS1 (dp_ints ns), .lst (SqL.of upd_same) .nil, PySem.W.ke_shaped_ints ns, rfl, _, rfl, ?_⟩
    by_cases e : ns = []
    · subst e
      refine iteF ⟨(by show 2 ≤ sizeLine; decide), fun q hq => ?_⟩
      exact ⟨_, _, rfl, SqT.of upd_same, rfl, _, _, rfl, _, _, rfl, rfl, tail _ _ ⟨_, _, rfl, g1.trans (same_new hq _)⟩⟩
    · rw [eqv_nil_ints ns e]
      have hl : 0 < ns.length := List.length_pos_iff.mpr e
      have em : (ns.map V.int).length = ns.length := List.length_map _
      have j0 : 0 ≤ i % ((ns.map V.int).length : Int) := Int.emod_nonneg _ (by omega)
      have j1 : i % ((ns.map V.int).length : Int) < ((ns.map V.int).length : Int) := Int.emod_lt_of_pos _ (by omega)
      obtain ⟨c, hc⟩ : ∃ c : Int, atI (ns.map V.int) (i % ((ns.map V.int).length : Int)) = some (.int c) := by
        have hj : (i % ((ns.map V.int).length : Int)).toNat < ns.length := by omega
        refine ⟨ns[(i % ((ns.map V.int).length : Int)).toNat], at_of (j := (i % ((ns.map V.int).length : Int)).toNat) (by omega) ?_⟩
        rw [List.getElem?_map, List.getElem?_eq_getElem hj]
        rfl
      refine iteT ?_
      refine ⟨_, rfl, _, rfl, _, rfl, a, _, rfl, .inl hS1, _, _, rfl, rfl, (by show (0 : Int) < ((ns.map V.int).length : Int); omega), a, _, _, _, rfl, rfl, hS1, hc, ?_⟩
      refine ⟨_, rfl, _, rfl, a, _, rfl, .inl hS1, _, _, rfl, rfl, divA_small (by omega) (by omega), (by show 2 ≤ sizeLine; decide), fun q hq => ?_⟩
      exact ⟨_, _, rfl, SqT.of upd_same, rfl, _, _, rfl, _, _, rfl, rfl, tail _ _ ⟨_, _, rfl, g1.trans (same_new hq _)⟩⟩

theorem ok__law_take (T : Txt K mg) : FnOk P w K mg base CX0 2 T.a__law_take T.d__law_take ["draw", "many"] (sp_take K) := by
  have G__law_number := ok__law_number (P := P) (w := w) (base := base) T
  refine T.F__law_take.ok sc__law_take (fun vs H Q E h => ?_) (fun cdv A outer s H vs Q E hr h => ?_)
  · obtain ⟨d, m, rfl, _⟩ := h
    rfl
  obtain ⟨d, m, rfl, ⟨a, ns, i, hd, hS, h63⟩, m0, k⟩ := h
  refine ⟨_, (pss_cons (ps_augS (pv 0) pe_int get_list pe_int ip_add set_list)
    (pss_one (ps_ret (pe_op op_mod (pe_callTy call_int1 (by rfl) T.z_int (by decide +kernel) (pa_cons (pe_call G__law_number (hr.mono (by first | decide | omega)) (by rfl) T.m__law_number T.F__law_number.kp T.b__law_number .nil pass0 (pa_cons (pe_ix ix_list (pv 0) pe_int (fun _ _ => rfl)) (pa_cons (pe_callTy call_int1 (by rfl) T.z_int (by decide +kernel) (pa_cons (pe_ix ix_list (pv 0) pe_int (fun _ _ => rfl)) pa_nil)) pa_nil))) pa_nil)) (pv 1))))), ?_⟩
  have b1 : But d H (upd H d (.lst [.ref a, .int (i + 1)])) := fun b o n e => by rw [upd_ne n]; exact e
  have hS1 := hS.but hd b1
  refine ⟨_, rfl, d, _, _, _, rfl, rfl, SqL.of hd, at_of (j := 1) rfl rfl, i, 1, rfl, rfl, d, _, _, 1, rfl, rfl, hd, rfl, ?_⟩
  have e1 : upd H d (.lst [.ref a, .int (i + 1)]) d = some (.lst [.ref a, .int (i + 1)]) := upd_same
  refine ⟨_, rfl, d, _, _, _, rfl, rfl, SqL.of e1, at_of (j := 0) rfl rfl, ?_⟩
  refine ⟨_, rfl, d, _, _, _, rfl, rfl, SqL.of e1, at_of (j := 1) rfl rfl, .inl ⟨_, rfl, a, ns, i + 1, rfl, hS1.sq, h63, fun n H' g => ?_⟩⟩
  refine .inl ⟨n, rfl, _, rfl, _, _, rfl, rfl, m0, ?_⟩
  exact k _ _ (Int.emod_nonneg _ (by omega)) (Int.emod_lt_of_pos _ m0) ⟨a, ns, i + 1, g _ _ e1, hS1.same g, h63⟩ (b1.same g)
theorem ok__law_pick (T : Txt K mg) : FnOk P w K mg base CX0 3 T.a__law_pick T.d__law_pick ["draw", "items"] (sp_pick K) := by
  have G__law_take := ok__law_take (P := P) (w := w) (base := base) T
  refine T.F__law_pick.ok sc__law_pick (fun vs H Q E h => ?_) (fun cdv A outer s H vs Q E hr h => ?_)
  · obtain ⟨d, p, xs, rfl, _⟩ := h
    rfl
  obtain ⟨d, p, xs, rfl, hd, hx, hl, k⟩ := h
  refine ⟨_, (pss_one (ps_ret (pe_ix ix_lt (pv 1) (pe_call G__law_take (hr.mono (by first | decide | omega)) (by rfl) T.m__law_take T.F__law_take.kp T.b__law_take .nil pass0 (pa_cons (pv 0) (pa_cons (pe_callB call_len_seq (by rfl) T.z_len (by decide +kernel) (pa_cons (pv 1) pa_nil)) pa_nil))) (fun _ _ => rfl)))), ?_⟩
  have hlen : SqL K H p xs ∨ SqT K H p xs := hx.imp (fun z => z.1) fun z => z
  refine ⟨_, rfl, _, rfl, _, rfl, p, xs, rfl, hlen, d, _, rfl, hd, (by show (0 : Int) < (xs.length : Int); omega), fun r H' r0 r1 hd' b => ?_⟩
  have hj : r.toNat < xs.length := by omega
  have ha : atI xs r = some xs[r.toNat] := at_of (j := r.toNat) (by omega) (List.getElem?_eq_getElem hj)
  have fin := k r.toNat _ H' (List.getElem?_eq_getElem hj) hd' b
  obtain ⟨a, ns, i, h1, _⟩ := hd
  rcases hx with ⟨z, n⟩ | z
  · exact .inl ⟨p, xs, r, _, rfl, rfl, b.seq n z, ha, fin⟩
  · exact .inr ⟨p, xs, r, _, rfl, rfl, b.tup h1 z, ha, fin⟩


end
end My
set_option Elab.async false
set_option linter.all false
set_option maxRecDepth 100000
set_option maxHeartbeats 400000
namespace My
open PySem L2 PySem.Spec PyProof.Rows
section
variable {P : Program} {w : World} {K : PySem.W.Frag} {mg : Str → Option Value} {base : Heap}
theorem off_new {d q : Addr} {H : Hp} {o : HO} (h : H q = none) : Same (del H d) (del (upd H q o) d) := fun b u e => by
  by_cases c : b = d
  · rw [c, del_same] at e
    cases e
  · rw [del_ne c] at e ⊢
    exact same_new h o b u e
theorem off_but {d : Addr} {H H' : Hp} (h : But d H H') : Same (del H d) (del H' d) := fun b u e => by
  by_cases c : b = d
  · rw [c, del_same] at e
    cases e
  · rw [del_ne c] at e ⊢
    exact h b u c e
theorem off_same {d : Addr} {H H' : Hp} (h : Same H H') : Same (del H d) (del H' d) := off_but (Same.but h)
theorem off_in {d : Addr} {H : Hp} : Same (del H d) H := fun b u e => by
  by_cases c : b = d
  · rw [c, del_same] at e
    cases e
  · rw [del_ne c] at e
    exact e
theorem off_at {d a : Addr} {H : Hp} {o : HO} (h : H a = some o) (n : a ≠ d) : del H d a = some o := by
  rw [del_ne n]
  exact h
theorem Drw.at {K : PySem.W.Frag} {H : Hp} {d : Addr} (h : Drw K H d) : ∃ ys, H d = some (.lst ys) := by
  obtain ⟨a, ns, i, h1, _⟩ := h
  exact ⟨_, h1⟩
theorem drw_ne {K : PySem.W.Frag} {H : Hp} {d q : Addr} (h : Drw K H d) (n : H q = none) : q ≠ d := fun z => by
  obtain ⟨ys, e⟩ := h.at
  rw [z, e] at n
  cases n
def ClAt (K : PySem.W.Frag) (d : Addr) (H : Hp) (cl : Addr) (hs : List Str) (as : List (Str × Bool)) (ss : List Str) : Prop := ∃ l a s, H cl = some (.tup [.ref l, .ref a, .ref s]) ∧ cl ≠ d ∧ l ≠ d ∧ a ≠ d ∧ s ≠ d ∧ SqL K H l (hs.map V.str) ∧ H a = some (.dK (kvsOf as)) ∧ SqL K H s (ss.map V.str)
theorem ClAt.but {K : PySem.W.Frag} {d : Addr} {H H' : Hp} {cl : Addr} {hs : List Str} {as : List (Str × Bool)} {ss : List Str} (h : ClAt K d H cl hs as ss) (b : But d H H') : ClAt K d H' cl hs as ss := by
  obtain ⟨l, a, s, h1, n0, n1, n2, n3, h2, h3, h4⟩ := h
  exact ⟨l, a, s, b _ _ n0 h1, n0, n1, n2, n3, b.seq n1 h2, b _ _ n2 h3, b.seq n3 h4⟩

end
end My
set_option Elab.async false
set_option linter.all false
set_option maxRecDepth 100000
set_option maxHeartbeats 400000
namespace My
open PySem L2 PySem.Spec PyProof.Rows
section
variable {P : Program} {w : World} {K : PySem.W.Frag} {mg : Str → Option Value} {base : Heap}
mutual
def tDat : PyData → TE
  | .none => tC .non
  | .bool b => tC (.bl b)
  | .int i => tC (.int i)
  | .str s => tC (.str s)
  | .tuple ds => tTup (tDats ds)
  | .list ds => tLst (tDats ds)
  | .dict _ => fun _ _ _ => False
def tDats : List PyData → TA
  | [] => tNil
  | d :: ds => tCons (tDat d) (tDats ds)
end
mutual
def smD : PyData → Bool
  | .tuple ds => decide (ds.length ≤ 1000) && smDs ds
  | .list ds => decide (ds.length ≤ 1000) && smDs ds
  | .dict _ => false
  | .none => true
  | .bool _ => true
  | .int _ => true
  | .str _ => true
def smDs : List PyData → Bool
  | [] => true
  | d :: ds => smD d && smDs ds
end
theorem le_line {n : Nat} (h : n ≤ 1000) : n ≤ sizeLine := Nat.le_of_lt (small1000 h)
mutual
theorem lay_dat {K : PySem.W.Frag} {dd : Addr} : ∀ (d : PyData) (_ : smD d = true) {σ : L2.St} {H : Hp} {Q : VK}, (∃ o, H dd = some o) → (∀ v H', Same H H' → Dp K (del H' dd) v d → Q v H') → tDat d σ H Q
  | .none, _, _, H, _, _, k => k _ H (Same.refl H) .non
  | .bool b, _, _, H, _, _, k => k _ H (Same.refl H) (.bl b)
  | .int i, _, _, H, _, _, k => k _ H (Same.refl H) (.int i)
  | .str s, _, _, H, _, _, k => k _ H (Same.refl H) (.str s)
  | .dict _, h, _, _, _, _, _ => by cases h
  | .tuple ds, h, σ, H, Q, ht, k => by
    have h' : (decide (ds.length ≤ 1000) && smDs ds) = true := h
    rw [Bool.and_eq_true] at h'
    show tTup (tDats ds) σ H Q
    refine lay_dats (K := K) ds h'.2 ht fun vs H1 g dv => ⟨le_line (by rw [dps_len dv]; exact of_decide_eq_true h'.1), fun p hp => k _ _ (g.trans (same_new hp _)) ?_⟩
    obtain ⟨o, ho⟩ := ht
    have np : p ≠ dd := fun z => by
      rw [z, g _ _ ho] at hp
      cases hp
    exact .tup (SqT.of (off_at upd_same np)) (dps_same (off_new hp) _ _ dv)
  | .list ds, h, σ, H, Q, ht, k => by
    have h' : (decide (ds.length ≤ 1000) && smDs ds) = true := h
    rw [Bool.and_eq_true] at h'
    show tLst (tDats ds) σ H Q
    refine lay_dats (K := K) ds h'.2 ht fun vs H1 g dv => ⟨le_line (by rw [dps_len dv]; exact of_decide_eq_true h'.1), fun p hp => k _ _ (g.trans (same_new hp _)) ?_⟩
    obtain ⟨o, ho⟩ := ht
    have np : p ≠ dd := fun z => by
      rw [z, g _ _ ho] at hp
      cases hp
    exact .lst (SqL.of (off_at upd_same np)) (dps_same (off_new hp) _ _ dv)
theorem lay_dats {K : PySem.W.Frag} {dd : Addr} : ∀ (ds : List PyData) (_ : smDs ds = true) {σ : L2.St} {H : Hp} {Q : List V → Hp → Prop}, (∃ o, H dd = some o) → (∀ vs H', Same H H' → DpAll K (del H' dd) vs ds → Q vs H') → tDats ds σ H Q
  | [], _, _, H, _, _, k => k _ H (Same.refl H) .nil
  | d :: ds, h, σ, H, Q, ht, k => by
    have h' : (smD d && smDs ds) = true := h
    rw [Bool.and_eq_true] at h'
    show tCons (tDat d) (tDats ds) σ H Q
    refine lay_dat (K := K) d h'.1 ht fun v H1 g dv => lay_dats (K := K) ds h'.2 ?_ fun vs H2 g2 dvs => k _ _ (g.trans g2) (.cons (dp_same (off_same g2) _ _ dv) dvs)
    obtain ⟨o, ho⟩ := ht
    exact ⟨o, g _ _ ho⟩
end
theorem dps_mem {K : PySem.W.Frag} {H : Hp} {vs : List V} {ds : List PyData} (h : DpAll K H vs ds) {i : Nat} {v : V} (hv : vs[i]? = some v) : ∃ x, x ∈ ds ∧ Dp K H v x := by
  have el := dps_len h
  have hi := (List.getElem?_eq_some_iff.mp hv).1
  obtain ⟨u, hu, du⟩ := dps_get h (List.getElem?_eq_getElem (show i < ds.length by omega))
  rw [hv] at hu
  cases hu
  exact ⟨_, List.getElem_mem _, du⟩
/-- _law_pick(draw, [..]) -/
theorem pick_dats {K : PySem.W.Frag} {d : Addr} (ds : List PyData) (sm : smDs ds = true) (l0 : 0 < ds.length) (l1 : ds.length ≤ 1000) {σ : L2.St} {H : Hp} {Q : VK} (h0 : σ[0]? = some (some (.ref d))) (hD : Drw K H d)
    (k : ∀ v x H', x ∈ ds → Drw K H' d → But d H H' → Dp K (del H' d) v x → Q v H') : tCall (sp_pick K) [] E0 (tCons (tVar 0) (tCons (tLst (tDats ds)) tNil)) σ H Q := by
  obtain ⟨ys, hy⟩ := hD.at
  refine ⟨_, h0, lay_dats (K := K) ds sm ⟨_, hy⟩ fun vs H1 g dv => ⟨le_line (by rw [dps_len dv]; exact l1), fun p hp => ?_⟩⟩
  have g2 := same_new hp (.lst vs)
  have hD2 := (hD.same g).same g2
  refine ⟨d, p, vs, rfl, hD2, .inl ⟨SqL.of upd_same, drw_ne (hD.same g) hp⟩, by rw [dps_len dv]; exact l0, fun j v H' hv hD' b => ?_⟩
  obtain ⟨x, hx, dx⟩ := dps_mem dv hv
  have bb : But d H H' := (Same.but (g.trans g2)).trans b
  exact k v x H' hx hD' bb (dp_same ((off_new hp).trans (off_but b)) _ _ dx)

end
end My
set_option Elab.async false
set_option linter.all false
set_option maxRecDepth 100000
set_option maxHeartbeats 400000
namespace My
open PySem L2 PySem.Spec PyProof.Rows
section
variable {P : Program} {w : World} {K : PySem.W.Frag} {mg : Str → Option Value} {base : Heap}
/-! ### drawn formulas -/
def chanceL : List (Int × Int) := [(1, 2), (1, 2), (1, 3), (2, 3), (1, 4), (0, 1), (1, 1), (997, 1000)]
def pairD (p : Int × Int) : PyData := .tuple [.int p.1, .int p.2]
def saltL : List Str := ["a", "b"]
inductive Leaf (hs : List Str) (as : List (Str × Bool)) : PyData → Prop
  | all {s : Str} : s = "all" ∨ s = "none" → Leaf hs as (.tuple [.str s])
  | test {s t : Str} {p : Int × Int} : s = "row" ∨ s = "block" → t ∈ saltL → p ∈ chanceL → Leaf hs as (.tuple [.str s, .str t, pairD p])
  | hash {s n t : Str} {p : Int × Int} : s = "hash" → n ∈ hs → t ∈ saltL → p ∈ chanceL → Leaf hs as (.tuple [.str s, .str n, .str t, pairD p])
  | num {s n : Str} {i : Int} : s = "less" ∨ s = "is" → (n, true) ∈ as → -1000000 ≤ i → i ≤ 1000000 → Leaf hs as (.tuple [.str s, .str n, .int i])
  | txt {s n t : Str} : s = "is" ∨ s = "like" → (n, false) ∈ as → t.length ≤ 12 → Leaf hs as (.tuple [.str s, .str n, .str t])
inductive Fm (hs : List Str) (as : List (Str × Bool)) : Nat → PyData → Prop
  | leaf {n : Nat} {d : PyData} : Leaf hs as d → Fm hs as (n + 1) d
  | not {n : Nat} {e : PyData} : Fm hs as n e → Fm hs as (n + 1) (.tuple [.str "not", e])
  | kids {n : Nat} {s : Str} {ks : List PyData} : s = "and" ∨ s = "or" → 2 ≤ ks.length → ks.length ≤ 3 → (∀ e, e ∈ ks → Fm hs as n e) → Fm hs as (n + 1) (.tuple [.str s, .tuple ks])
def hdS : PyData → Str
  | .tuple (.str s :: _) => s
  | _ => ""
def isTest (d : PyData) : Bool := decide (hdS d = "row") || decide (hdS d = "block") || decide (hdS d = "hash")
def isAsk (d : PyData) : Bool := decide (hdS d = "less") || decide (hdS d = "is") || decide (hdS d = "like")
/-- a formula and those within it -/
def forms : Nat → PyData → List PyData
  | 0, _ => []
  | n + 1, d => d :: (kidsD d).flatMap (forms n)
def lvB (d : PyData) : Bool := isTest d || isAsk d
theorem kids_not {s : Str} {e : PyData} (h : s = "not") : kidsD (.tuple [.str s, e]) = [e] := (if_pos (by subst h; decide +kernel)).trans rfl
theorem kids_kids {s : Str} {ks : List PyData} (h : s = "and" ∨ s = "or") : kidsD (.tuple [.str s, .tuple ks]) = ks := (if_neg (by rcases h with h | h <;> subst h <;> decide +kernel)).trans ((if_pos (by rcases h with h | h <;> subst h <;> decide +kernel)).trans rfl)
theorem kids_leaf {s : Str} {r : List PyData} (h1 : s ≠ "not") (h2 : s ≠ "and") (h3 : s ≠ "or") : kidsD (.tuple (.str s :: r)) = [] := (if_neg (by show ¬ decide (s = "not") = true; simpa using h1)).trans (if_neg (by show ¬ (decide (s = "and") || decide (s = "or")) = true; simp [h2, h3]))
section
variable {hs : List Str} {as : List (Str × Bool)}
/-- a leaf's head -/
theorem leaf_hd {d : PyData} (h : Leaf hs as d) : ∃ s r, d = .tuple (.str s :: r) ∧ s ≠ "not" ∧ s ≠ "and" ∧ s ≠ "or" := by
  cases h with
  | all h => exact ⟨_, _, rfl, by rcases h with h | h <;> subst h <;> decide +kernel, by rcases h with h | h <;> subst h <;> decide +kernel, by rcases h with h | h <;> subst h <;> decide +kernel⟩
  | test h _ _ => exact ⟨_, _, rfl, by rcases h with h | h <;> subst h <;> decide +kernel, by rcases h with h | h <;> subst h <;> decide +kernel, by rcases h with h | h <;> subst h <;> decide +kernel⟩
  | hash h _ _ _ => exact ⟨_, _, rfl, by subst h; decide +kernel, by subst h; decide +kernel, by subst h; decide +kernel⟩
  | num h _ _ _ => exact ⟨_, _, rfl, by rcases h with h | h <;> subst h <;> decide +kernel, by rcases h with h | h <;> subst h <;> decide +kernel, by rcases h with h | h <;> subst h <;> decide +kernel⟩
  | txt h _ _ => exact ⟨_, _, rfl, by rcases h with h | h <;> subst h <;> decide +kernel, by rcases h with h | h <;> subst h <;> decide +kernel, by rcases h with h | h <;> subst h <;> decide +kernel⟩
theorem leaf_kids {d : PyData} (h : Leaf hs as d) : kidsD d = [] := by
  obtain ⟨s, r, rfl, h1, h2, h3⟩ := leaf_hd h
  exact kids_leaf h1 h2 h3
theorem fm_kids {n : Nat} {d : PyData} (h : Fm hs as (n + 1) d) : ∀ e ∈ kidsD d, Fm hs as n e := by
  cases h with
  | leaf h => rw [leaf_kids h]; exact fun e m => by cases m
  | not h =>
    rw [kids_not rfl]
    intro e m
    rw [List.mem_singleton.mp m]
    exact h
  | kids hs _ _ h =>
    rw [kids_kids hs]
    exact h
theorem fm_up {n : Nat} {d : PyData} (h : Fm hs as n d) : Fm hs as (n + 1) d := by
  induction h with
  | leaf h => exact .leaf h
  | not _ ih => exact .not ih
  | kids a b c _ ih => exact .kids a b c ih
theorem fm_le {n m : Nat} {d : PyData} (h : Fm hs as n d) (l : n ≤ m) : Fm hs as m d := by
  induction l with
  | refl => exact h
  | step _ ih => exact fm_up ih
theorem flat_congr {α β : Type} {f g : α → List β} {l : List α} (h : ∀ x ∈ l, f x = g x) : l.flatMap f = l.flatMap g := by
  induction l with
  | nil => rfl
  | cons x r ih => rw [List.flatMap_cons, List.flatMap_cons, h x (.head _), ih fun y m => h y (.tail _ m)]
theorem forms_up : ∀ (n : Nat) {d : PyData}, Fm hs as n d → forms (n + 1) d = forms n d
  | 0, _, h => by cases h
  | n + 1, d, h => by
    show d :: (kidsD d).flatMap (forms (n + 1)) = d :: (kidsD d).flatMap (forms n)
    rw [flat_congr fun e m => forms_up n (fm_kids h e m)]
theorem forms_le {n m : Nat} {d : PyData} (h : Fm hs as n d) (l : n ≤ m) : forms m d = forms n d := by
  induction l with
  | refl => rfl
  | step l ih => exact (forms_up _ (fm_le h l)).trans ih
/-- all formulas within a formula are formulas -/
theorem forms_fm : ∀ (n : Nat) {d : PyData}, Fm hs as n d → ∀ e ∈ forms n d, Fm hs as n e
  | 0, _, _, e, m => by cases m
  | n + 1, d, h, e, m => by
    rcases List.mem_cons.mp m with rfl | m
    · exact h
    · obtain ⟨k, mk, me⟩ := List.mem_flatMap.mp m
      exact fm_up (forms_fm n (fm_kids h k mk) e me)
theorem hd_not {s : Str} {r : List PyData} (h : s = "not" ∨ s = "and" ∨ s = "or" ∨ s = "all" ∨ s = "none") : lvB (.tuple (.str s :: r)) = false := by
  rcases h with h | h | h | h | h <;> subst h <;> rfl
/-- the tests and asks within a formula -/
def lv (n : Nat) (d : PyData) : List PyData := (forms n d).filter lvB
theorem fm_lv {n : Nat} {d : PyData} (h : Fm hs as n d) (l : lvB d = true) : Leaf hs as d := by
  cases h with
  | leaf h => exact h
  | not _ => exact absurd l (by rw [hd_not (.inl rfl)]; decide)
  | kids a _ _ _ => exact absurd l (by rw [hd_not (by rcases a with a | a; exact .inr (.inl a); exact .inr (.inr (.inl a)))]; decide)
theorem lv_leaf {n : Nat} {d e : PyData} (h : Fm hs as n d) (m : e ∈ lv n d) : Leaf hs as e ∧ lvB e = true := by
  have z := List.mem_filter.mp m
  exact ⟨fm_lv (forms_fm n h e z.1) z.2, z.2⟩
theorem lv_flat {n : Nat} (l : List PyData) : (l.flatMap (forms n)).filter lvB = l.flatMap (lv n) := by
  induction l with
  | nil => rfl
  | cons x r ih => rw [List.flatMap_cons, List.filter_append, ih, List.flatMap_cons]; rfl
theorem lv_step {n : Nat} {d : PyData} : lv (n + 1) d = (if lvB d = true then [d] else []) ++ (kidsD d).flatMap (lv n) := by
  show (d :: (kidsD d).flatMap (forms n)).filter lvB = _
  rw [List.filter_cons, lv_flat]
  split <;> rfl
/-- there are few leaves among the formulas -/
theorem few_leaves : ∀ (n : Nat) {d : PyData}, Fm hs as n d → 3 * (lv n d).length ≤ 2 * (forms n d).length + 1
  | 0, _, h => by cases h
  | n + 1, d, h => by
    cases h with
    | leaf h =>
      rw [lv_step]
      show _ ≤ 2 * (d :: (kidsD d).flatMap (forms n)).length + 1
      rw [leaf_kids h]
      split
      · show 3 * 1 ≤ 2 * 1 + 1
        decide
      · show 3 * 0 ≤ 2 * 1 + 1
        decide
    | @not _ e h =>
      rw [lv_step, hd_not (.inl rfl), if_neg Bool.false_ne_true]
      show _ ≤ 2 * (_ :: (kidsD _).flatMap (forms n)).length + 1
      rw [kids_not rfl]
      have ih := few_leaves n h
      simp only [List.nil_append, List.flatMap_cons, List.flatMap_nil, List.append_nil, List.length_cons]
      omega
    | @kids _ s ks a b c h =>
      rw [lv_step, hd_not (by rcases a with a | a; exact .inr (.inl a); exact .inr (.inr (.inl a))), if_neg Bool.false_ne_true]
      show _ ≤ 2 * (_ :: (kidsD _).flatMap (forms n)).length + 1
      rw [kids_kids a]
      have go : ∀ l : List PyData, (∀ e ∈ l, Fm hs as n e) → 3 * (l.flatMap (lv n)).length ≤ 2 * (l.flatMap (forms n)).length + l.length := fun l => by
        induction l with
        | nil => intro _; exact Nat.le_refl _
        | cons x r ih =>
          intro hl
          have z := few_leaves n (hl x (.head _))
          have y := ih fun e m => hl e (.tail _ m)
          rw [List.flatMap_cons, List.flatMap_cons, List.length_append, List.length_append, List.length_cons]
          omega
      have z := go ks h
      simp only [List.nil_append, List.length_cons]
      omega
end

mutual
def noL : PyData → Bool
  | .tuple ds => noLs ds
  | .list _ => false
  | .dict _ => false
  | .none => true
  | .bool _ => true
  | .int _ => true
  | .str _ => true
def noLs : List PyData → Bool
  | [] => true
  | d :: ds => noL d && noLs ds
end
mutual
/-- data without lists hang on the tuples alone -/
theorem dp_tups {K : PySem.W.Frag} {H H' : Hp} (e : ∀ a xs, SqT K H a xs → SqT K H' a xs) : ∀ (d : PyData) (v : V), noL d = true → Dp K H v d → Dp K H' v d
  | .none, _, _, h => by cases h; exact .non
  | .bool b, _, _, h => by cases h; exact .bl b
  | .int i, _, _, h => by cases h; exact .int i
  | .str s, _, _, h => by cases h; exact .str s
  | .dict _, _, n, _ => by cases n
  | .list _, _, n, _ => by cases n
  | .tuple ds, _, n, h => by
    cases h with
    | tup hs ha => exact .tup (e _ _ hs) (dps_tups e ds _ n ha)
theorem dps_tups {K : PySem.W.Frag} {H H' : Hp} (e : ∀ a xs, SqT K H a xs → SqT K H' a xs) : ∀ (ds : List PyData) (vs : List V), noLs ds = true → DpAll K H vs ds → DpAll K H' vs ds
  | [], _, _, h => by cases h; exact .nil
  | d :: ds, _, n, h => by
    have n' : (noL d && noLs ds) = true := n
    rw [Bool.and_eq_true] at n'
    cases h with
    | cons a b => exact .cons (dp_tups e d _ n'.1 a) (dps_tups e ds _ n'.2 b)
end
theorem noLs_all {l : List PyData} (h : ∀ e, e ∈ l → noL e = true) : noLs l = true := by
  induction l with
  | nil => rfl
  | cons e r ih =>
    show (noL e && noLs r) = true
    rw [h e (.head _), ih fun x m => h x (.tail _ m)]
    rfl
theorem fm_noL {hs : List Str} {as : List (Str × Bool)} {n : Nat} {d : PyData} (h : Fm hs as n d) : noL d = true := by
  induction h with
  | leaf h => cases h <;> rfl
  | @not n e h ih =>
    show (true && (noL e && true)) = true
    rw [ih]
    rfl
  | @kids n s ks _ _ _ h ih =>
    show (true && (noLs ks && true)) = true
    rw [noLs_all ih]
    rfl
/-- leaves are keys -/
theorem leaf_key {hs : List Str} {as : List (Str × Bool)} {d : PyData} (h : Leaf hs as d) : KeyOk d ∧ RowOk (itemsD d) := by
  have dp : ∀ x : PyData, (∃ s, x = .str s) ∨ (∃ i, x = .int i) ∨ (∃ p, x = pairD p) → (keyD x).depth ≤ 7 := fun x hx => by
    rcases hx with ⟨s, rfl⟩ | ⟨i, rfl⟩ | ⟨p, rfl⟩
    · exact Nat.zero_le _
    · exact Nat.zero_le _
    · show NestedKey.depth (.tup [.num p.1, .num p.2]) ≤ 7
      simp [NestedKey.depth, NestedKey.depthAll]
  have row : RowOk (itemsD d) := by
    cases h with
    | all _ => exact ⟨rfl, fun x m => dp x (by simp [itemsD] at m; exact .inl ⟨_, m⟩)⟩
    | test _ _ _ => exact ⟨rfl, fun x m => dp x (by
        rcases List.mem_cons.mp m with rfl | m
        · exact .inl ⟨_, rfl⟩
        rcases List.mem_cons.mp m with rfl | m
        · exact .inl ⟨_, rfl⟩
        exact .inr (.inr ⟨_, List.mem_singleton.mp m⟩))⟩
    | hash _ _ _ _ => exact ⟨rfl, fun x m => dp x (by
        rcases List.mem_cons.mp m with rfl | m
        · exact .inl ⟨_, rfl⟩
        rcases List.mem_cons.mp m with rfl | m
        · exact .inl ⟨_, rfl⟩
        rcases List.mem_cons.mp m with rfl | m
        · exact .inl ⟨_, rfl⟩
        exact .inr (.inr ⟨_, List.mem_singleton.mp m⟩))⟩
    | num _ _ _ _ => exact ⟨rfl, fun x m => dp x (by
        rcases List.mem_cons.mp m with rfl | m
        · exact .inl ⟨_, rfl⟩
        rcases List.mem_cons.mp m with rfl | m
        · exact .inl ⟨_, rfl⟩
        exact .inr (.inl ⟨_, List.mem_singleton.mp m⟩))⟩
    | txt _ _ _ => exact ⟨rfl, fun x m => dp x (by
        rcases List.mem_cons.mp m with rfl | m
        · exact .inl ⟨_, rfl⟩
        rcases List.mem_cons.mp m with rfl | m
        · exact .inl ⟨_, rfl⟩
        exact .inl ⟨_, List.mem_singleton.mp m⟩)⟩
  obtain ⟨s, r, e, _⟩ := leaf_hd h
  have z := rowOk_deep row
  rw [e] at z ⊢
  exact ⟨z, by rw [e] at row; exact row⟩

end
end My
set_option Elab.async false
set_option linter.all false
set_option maxRecDepth 100000
set_option maxHeartbeats 400000
namespace My
open PySem L2 PySem.Spec PyProof.Rows
section
variable {P : Program} {w : World} {K : PySem.W.Frag} {mg : Str → Option Value} {base : Heap}
theorem no_part {σ : L2.St} {H : Hp} {Q : Option Int → Hp → Prop} (h : Q none H) : tNoPart σ H Q := h
theorem dps_app {K : PySem.W.Frag} {H : Hp} {vs us : List V} {ds es : List PyData} (h : DpAll K H vs ds) (k : DpAll K H us es) : DpAll K H (vs ++ us) (ds ++ es) := by
  induction vs generalizing ds with
  | nil => cases h; exact k
  | cons v vs ih =>
    cases h with
    | cons a b => exact .cons a (ih b)
theorem tup_upd0 {K : PySem.W.Frag} {H : Hp} {D : Addr} {ys : List V} {o : HO} (hD : H D = some (.lst ys)) : ∀ a xs, SqT K H a xs → SqT K (upd H D o) a xs := fun a xs h => by
  rcases h with (h | ⟨q, h⟩) | h
  · refine .inl (.inl ?_)
    rw [upd_ne (ne_of h hD (by intro z; cases z))]
    exact h
  · refine .inl (.inr ⟨q, ?_⟩)
    rw [upd_ne (ne_of h hD (by intro z; cases z))]
    exact h
  · exact .inr h

end
end My
set_option Elab.async false
set_option linter.all false
set_option maxRecDepth 100000
set_option maxHeartbeats 400000
namespace My
open PySem L2 PySem.Spec PyProof.Rows
section
variable {P : Program} {w : World} {K : PySem.W.Frag} {mg : Str → Option Value} {base : Heap}
def sp_gives (K : PySem.W.Frag) (n : Nat) : Sp := fun vs H Q _ => ∃ (d cl : Addr) (hs : List Str) (as : List (Str × Bool)) (ss : List Str), vs = [.ref d, .ref cl] ∧ Drw K H d ∧ ClAt K d H cl hs as ss ∧ ColsOk hs as ss ∧
  ∀ (v : V) (x : PyData) (H' : Hp), Drw K H' d → But d H H' → Dp K (del H' d) v x → Fm hs as n x → Q v H'
theorem word_hash {z : Nat} {j : Nat} {v : V} (h : ([V.str "row", V.str "block"] ++ (List.replicate z [V.str "hash", V.str "hash"]).flatten)[j]? = some v) : v = .str "row" ∨ v = .str "block" ∨ (v = .str "hash" ∧ 0 < z) := by
  have m := List.mem_of_getElem? h
  rcases List.mem_append.mp m with m | m
  · rcases List.mem_cons.mp m with m | m
    · exact .inl m
    · exact .inr (.inl (List.mem_singleton.mp m))
  · obtain ⟨l, hl, hv⟩ := List.mem_flatten.mp m
    obtain ⟨nz, rfl⟩ := List.mem_replicate.mp hl
    refine .inr (.inr ⟨?_, Nat.pos_of_ne_zero nz⟩)
    rcases List.mem_cons.mp hv with hv | hv
    · exact hv
    · exact List.mem_singleton.mp hv
theorem ok__law_test (T : Txt K mg) : FnOk P w K mg base CX0 4 T.a__law_test T.d__law_test ["draw", "columns"] (sp_gives K 1) := by
  have G__law_pick := ok__law_pick (P := P) (w := w) (base := base) T
  refine T.F__law_test.ok sc__law_test (fun vs H Q E h => ?_) (fun cdv A outer s H vs Q E hr h => ?_)
  · obtain ⟨d, cl, hs, as, ss, rfl, _⟩ := h
    rfl
  obtain ⟨d, cl, hs, as, ss, rfl, hD, hC, ok, k⟩ := h
  refine ⟨_, (pss_cons (ps_set (i := 2) sc__law_test.nd rfl (by first | exact Or.inl rfl | exact Or.inr rfl) (pe_call G__law_pick (hr.mono (by first | decide | omega)) (by rfl) T.m__law_pick T.F__law_pick.kp T.b__law_pick .nil pass0 (pa_cons (pv 0) (pa_cons (pe_lst (pa_cons (pe_tup (pa_cons pe_int (pa_cons pe_int pa_nil))) (pa_cons (pe_tup (pa_cons pe_int (pa_cons pe_int pa_nil))) (pa_cons (pe_tup (pa_cons pe_int (pa_cons pe_int pa_nil))) (pa_cons (pe_tup (pa_cons pe_int (pa_cons pe_int pa_nil))) (pa_cons (pe_tup (pa_cons pe_int (pa_cons pe_int pa_nil))) (pa_cons (pe_tup (pa_cons pe_int (pa_cons pe_int pa_nil))) (pa_cons (pe_tup (pa_cons pe_int (pa_cons pe_int pa_nil))) (pa_cons (pe_tup (pa_cons pe_int (pa_cons pe_int pa_nil))) pa_nil))))))))) pa_nil))))
    (pss_cons (ps_par (i := 3) (j := 4) rfl sc__law_test.nd rfl rfl (by decide) rfl rfl (pa_cons (pe_call G__law_pick (hr.mono (by first | decide | omega)) (by rfl) T.m__law_pick T.F__law_pick.kp T.b__law_pick .nil pass0 (pa_cons (pv 0) (pa_cons (pe_op op_cat (pe_lst (pa_cons pe_str (pa_cons pe_str pa_nil))) (pe_op op_rep (pe_lst (pa_cons pe_str (pa_cons pe_str pa_nil))) (pe_callB call_len_seq (by rfl) T.z_len (by decide +kernel) (pa_cons (pe_slice sl_list (pe_ix ix_tup (pv 1) pe_int (fun _ _ => rfl)) po_none (po_some pe_int)) pa_nil)))) pa_nil))) (pa_cons (pe_call G__law_pick (hr.mono (by first | decide | omega)) (by rfl) T.m__law_pick T.F__law_pick.kp T.b__law_pick .nil pass0 (pa_cons (pv 0) (pa_cons (pe_lst (pa_cons pe_str (pa_cons pe_str (pa_cons pe_str pa_nil)))) pa_nil))) pa_nil)) (by rfl))
    (pss_one (ps_ret (pe_ifExp (pt_cmpR op_eq (pv 3) pe_str (nomark _)) (pe_tup (pa_cons pe_str (pa_cons (pe_call G__law_pick (hr.mono (by first | decide | omega)) (by rfl) T.m__law_pick T.F__law_pick.kp T.b__law_pick .nil pass0 (pa_cons (pv 0) (pa_cons (pe_ix ix_tup (pv 1) pe_int (fun _ _ => rfl)) pa_nil))) (pa_cons (pv 4) (pa_cons (pv 2) pa_nil))))) (pe_tup (pa_cons (pv 3) (pa_cons (pv 4) (pa_cons (pv 2) pa_nil))))))))), ?_⟩
  refine pick_dats (chanceL.map pairD) (by decide +kernel) (by decide) (by decide) rfl hD fun cv cx H1 hcx hD1 b1 dc1 => ?_
  obtain ⟨l, a, sl, hcl, n0, n1, n2, n3, hl, ha, hsl⟩ := hC.but b1
  refine ⟨_, rfl, (by show 2 ≤ sizeLine; decide), fun p1 f1 => ⟨(by show 2 ≤ sizeLine; decide), fun p2 f2 => ?_⟩⟩
  have g2 := (same_new f1 (.lst [.str "row", .str "block"])).trans (same_new f2 (.lst [.str "hash", .str "hash"]))
  have e1 : upd (upd H1 p1 (.lst [.str "row", .str "block"])) p2 (.lst [.str "hash", .str "hash"]) p1 = some (.lst [.str "row", .str "block"]) := same_new f2 _ _ _ upd_same
  have e2 : upd (upd H1 p1 (.lst [.str "row", .str "block"])) p2 (.lst [.str "hash", .str "hash"]) p2 = some (.lst [.str "hash", .str "hash"]) := upd_same
  generalize upd (upd H1 p1 (.lst [.str "row", .str "block"])) p2 (.lst [.str "hash", .str "hash"]) = H3 at *
  refine ⟨_, rfl, cl, _, 0, _, rfl, rfl, SqT.of (g2 _ _ hcl), at_of (j := 0) rfl rfl, ?_⟩
  refine no_part ⟨1, rfl, l, _, rfl, g2.seq hl, fun p3 f3 => ?_⟩
  have g3 := g2.trans (same_new f3 (.lst (cutV (hs.map V.str) none (some 1))))
  have lz := cutV_length (hs.map V.str) none (some 1)
  rw [List.length_map] at lz
  have lh := ok.lh
  refine ⟨p3, _, rfl, .inl (SqL.of upd_same), p2, _, _, rfl, rfl, same_new f3 _ _ _ e2, by omega, by omega, ?_, fun p4 f4 => ?_⟩
  · exact le_line (show 2 * _ ≤ 1000 by rw [Int.toNat_natCast]; omega)
  generalize hz : (((cutV (hs.map V.str) none (some 1)).length : Nat) : Int).toNat = z at *
  have hz' : z = (cutV (hs.map V.str) none (some 1)).length := by rw [← hz, Int.toNat_natCast]
  have e1b := same_new f3 (.lst (cutV (hs.map V.str) none (some 1))) _ _ e1
  generalize upd H3 p3 (.lst (cutV (hs.map V.str) none (some 1))) = H4 at *
  have g4 := g3.trans (same_new f4 (.lst (List.replicate z [V.str "hash", V.str "hash"]).flatten))
  have e1c := same_new f4 (.lst (List.replicate z [V.str "hash", V.str "hash"]).flatten) _ _ e1b
  have e4 : upd H4 p4 (.lst (List.replicate z [V.str "hash", V.str "hash"]).flatten) p4 = some (.lst (List.replicate z [V.str "hash", V.str "hash"]).flatten) := upd_same
  generalize upd H4 p4 (.lst (List.replicate z [V.str "hash", V.str "hash"]).flatten) = H5 at *
  refine ⟨p1, p4, _, _, rfl, rfl, e1c, e4, ?_, fun p5 f5 => ?_⟩
  · have : (List.replicate z [V.str "hash", V.str "hash"]).flatten.length = z * 2 := by
      rw [List.length_flatten, List.map_replicate, List.sum_replicate_nat]
      rfl
    rw [this]
    exact le_line (show 2 + z * 2 ≤ 1000 by omega)
  have g5 := g4.trans (same_new f5 (.lst ([V.str "row", V.str "block"] ++ (List.replicate z [V.str "hash", V.str "hash"]).flatten)))
  have e5 : upd H5 p5 (.lst ([V.str "row", V.str "block"] ++ (List.replicate z [V.str "hash", V.str "hash"]).flatten)) p5 = some (.lst ([V.str "row", V.str "block"] ++ (List.replicate z [V.str "hash", V.str "hash"]).flatten)) := upd_same
  have np5 : p5 ≠ d := drw_ne (hD1.same g4) f5
  generalize upd H5 p5 (.lst ([V.str "row", V.str "block"] ++ (List.replicate z [V.str "hash", V.str "hash"]).flatten)) = H6 at *
  refine ⟨d, p5, _, rfl, hD1.same g5, .inl ⟨SqL.of e5, np5⟩, (by rw [List.length_append]; exact Nat.lt_of_lt_of_le (by decide) (Nat.le_add_right 2 _)), fun j wv H7 hwv hD7 b7 => ?_⟩
  have word := word_hash hwv
  have b17 : But d H1 H7 := (Same.but g5).trans b7
  refine pick_dats [.str "a", .str "a", .str "b"] (by decide +kernel) (by decide) (by decide) rfl hD7 fun sv sx H8 hsx hD8 b8 dsx => ?_
  obtain ⟨s, rfl, rfl, sok⟩ : ∃ s : Str, sv = .str s ∧ sx = .str s ∧ s ∈ saltL := by
    rcases List.mem_cons.mp hsx with rfl | hsx
    · cases dsx
      exact ⟨_, rfl, rfl, by simp [saltL]⟩
    rcases List.mem_cons.mp hsx with rfl | hsx
    · cases dsx
      exact ⟨_, rfl, rfl, by simp [saltL]⟩
    obtain rfl := List.mem_singleton.mp hsx
    cases dsx
    exact ⟨_, rfl, rfl, by simp [saltL]⟩
  refine ⟨wv, .str s, rfl, ?_⟩
  have b18 := b17.trans b8
  have b08 := b1.trans b18
  have dc8 := dp_same (off_but b18) _ _ dc1
  obtain ⟨pq, hpq, rfl⟩ := List.mem_map.mp hcx
  have plain : ∀ wd : Str, (wd = "row" ∨ wd = "block") → wv = .str wd → tRet (tIf (tTest (tOp rEq (tVar 3) (tC (.str "hash")))) (tTup (tCons (tC (.str "hash")) (tCons (tCall (sp_pick K) [] E0 (tCons (tVar 0) (tCons (tOp (rIxT K) (tVar 1) (tC (.int 0))) tNil))) (tCons (tVar 4) (tCons (tVar 2) tNil))))) (tTup (tCons (tVar 3) (tCons (tVar 4) (tCons (tVar 2) tNil)))))
      { nx := fun x H' => Q V.non H', rt := Q } [some (.ref d), some (.ref cl), some cv, some wv, some (.str s)] H8 := fun wd hwd e => by
    subst e
    refine ⟨_, rfl, rfl, _, rfl, ?_⟩
    rw [decide_eq_false (show ¬ V.str wd = V.str "hash" by rcases hwd with h | h <;> subst h <;> decide +kernel)]
    refine iteF ⟨_, rfl, _, rfl, _, rfl, (by show 3 ≤ sizeLine; decide), fun q hq => ?_⟩
    have nq : q ≠ d := drw_ne hD8 hq
    refine k _ (.tuple [.str wd, .str s, pairD pq]) _ (hD8.same (same_new hq _)) (b08.same (same_new hq _)) (.tup (SqT.of (off_at upd_same nq)) (.cons (.str _) (.cons (.str _) (.cons (dp_same (off_new hq) _ _ dc8) .nil)))) ?_
    exact .leaf (.test hwd sok hpq)
  rcases word with rfl | rfl | ⟨rfl, z0⟩
  · exact plain _ (.inl rfl) rfl
  · exact plain _ (.inr rfl) rfl
  refine ⟨_, rfl, rfl, _, rfl, ?_⟩
  rw [decide_eq_true rfl]
  have hl8 := b18.seq n1 hl
  refine iteT ⟨_, rfl, _, rfl, cl, _, 0, _, rfl, rfl, SqT.of (b18 _ _ n0 hcl), at_of (j := 0) rfl rfl, d, l, _, rfl, hD8, .inl ⟨hl8, n1⟩, ?_, fun j nv H9 hnv hD9 b9 => ?_⟩
  · rw [List.length_map]
    omega
  rw [List.getElem?_map] at hnv
  obtain ⟨nm, hnm, rfl⟩ := Option.map_eq_some_iff.mp hnv
  have mem := List.mem_of_getElem? hnm
  refine ⟨_, rfl, _, rfl, (by show 4 ≤ sizeLine; decide), fun q hq => ?_⟩
  have nq : q ≠ d := drw_ne hD9 hq
  have b09 := b08.trans b9
  refine k _ (.tuple [.str "hash", .str nm, .str s, pairD pq]) _ (hD9.same (same_new hq _)) (b09.same (same_new hq _)) (.tup (SqT.of (off_at upd_same nq)) (.cons (.str _) (.cons (.str _) (.cons (.str _) (.cons (dp_same ((off_but b9).trans (off_new hq)) _ _ dc8) .nil))))) ?_
  exact .leaf (.hash rfl mem sok hpq)

end
end My
set_option Elab.async false
set_option linter.all false
set_option maxRecDepth 100000
set_option maxHeartbeats 400000
namespace My
open PySem L2 PySem.Spec PyProof.Rows
section
variable {P : Program} {w : World} {K : PySem.W.Frag} {mg : Str → Option Value} {base : Heap}
def sp_lask (K : PySem.W.Frag) : Sp := fun vs H Q _ => ∃ (d cl : Addr) (hs : List Str) (as : List (Str × Bool)) (ss : List Str), vs = [.ref d, .ref cl] ∧ Drw K H d ∧ ClAt K d H cl hs as ss ∧ ColsOk hs as ss ∧ as ≠ [] ∧
  ∀ (v : V) (x : PyData) (H' : Hp), Drw K H' d → But d H H' → Dp K (del H' d) v x → Fm hs as 1 x → Q v H'
def shorts1 : List PyData := [.str "", .str "a", .str "ab", .str "za", .str "*", .str "a?", .str "?"]
def shorts2 : List PyData := [.str "*", .str "a*", .str "*a", .str "?", .str "?*", .str "*a*", .str "a?", .str "ab", .str "*b?", .str "ab*ab*ab*ab*", .str "*b*a*b*a*b*", .str "abababababab"]
def strOkB : PyData → Bool
  | .str s => decide (s.length ≤ 12)
  | _ => false
theorem shorts1_ok : ∀ x, x ∈ shorts1 → strOkB x = true := by decide +kernel
theorem shorts2_ok : ∀ x, x ∈ shorts2 → strOkB x = true := by decide +kernel
theorem good_txt {hs : List Str} {as : List (Str × Bool)} {s n : Str} {x : PyData} (h : s = "is" ∨ s = "like") (hm : (n, false) ∈ as) (hx : strOkB x = true) : Fm hs as 1 (.tuple [.str s, .str n, x]) := by
  cases x with
  | str t => exact .leaf (.txt h hm (of_decide_eq_true hx))
  | _ => cases hx
theorem ok__law_ask (T : Txt K mg) : FnOk P w K mg base CX0 4 T.a__law_ask T.d__law_ask ["draw", "columns"] (sp_lask K) := by
  have G__law_pick := ok__law_pick (P := P) (w := w) (base := base) T
  have G__law_take := ok__law_take (P := P) (w := w) (base := base) T
  refine T.F__law_ask.ok sc__law_ask (fun vs H Q E h => ?_) (fun cdv A outer s H vs Q E hr h => ?_)
  · obtain ⟨d, cl, hs, as, ss, rfl, _⟩ := h
    rfl
  obtain ⟨d, cl, hs, as, ss, rfl, hD, hC, ok, nas, k⟩ := h
  refine ⟨_, (pss_cons (ps_set (i := 2) sc__law_ask.nd rfl (by first | exact Or.inl rfl | exact Or.inr rfl) (pe_call G__law_pick (hr.mono (by first | decide | omega)) (by rfl) T.m__law_pick T.F__law_pick.kp T.b__law_pick .nil pass0 (pa_cons (pv 0) (pa_cons (pe_callB (call_sortedD rfl) (by rfl) T.z_sorted (by decide +kernel) (pa_cons (pe_ix ix_tup (pv 1) pe_int (fun _ _ => rfl)) pa_nil)) pa_nil))))
    (pss_cons (ps_if (pt_cmpR op_eq (pe_dget (hu_of hr) (pe_ix ix_tup (pv 1) pe_int (fun _ _ => rfl)) (pv 2) (fun _ _ => rfl)) pe_str (nomark _)) (pss_one (ps_ret (pe_tup (pa_cons (pe_call G__law_pick (hr.mono (by first | decide | omega)) (by rfl) T.m__law_pick T.F__law_pick.kp T.b__law_pick .nil pass0 (pa_cons (pv 0) (pa_cons (pe_lst (pa_cons pe_str (pa_cons pe_str pa_nil))) pa_nil))) (pa_cons (pv 2) (pa_cons (pe_call G__law_pick (hr.mono (by first | decide | omega)) (by rfl) T.m__law_pick T.F__law_pick.kp T.b__law_pick .nil pass0 (pa_cons (pv 0) (pa_cons (pe_op op_cat (pe_op op_rep (pe_lst (pa_cons (pe_op op_sub (pe_call G__law_take (hr.mono (by first | decide | omega)) (by rfl) T.m__law_take T.F__law_take.kp T.b__law_take .nil pass0 (pa_cons (pv 0) (pa_cons pe_int pa_nil))) pe_int) pa_nil)) pe_int) (pe_lst (pa_cons pe_int (pa_cons (pe_un un_neg pe_int) pa_nil)))) pa_nil))) pa_nil)))))) pss_nil)
    (pss_cons (ps_if (pt_cmpR op_eq (pe_call G__law_take (hr.mono (by first | decide | omega)) (by rfl) T.m__law_take T.F__law_take.kp T.b__law_take .nil pass0 (pa_cons (pv 0) (pa_cons pe_int pa_nil))) pe_int (nomark _)) (pss_one (ps_ret (pe_tup (pa_cons pe_str (pa_cons (pv 2) (pa_cons (pe_call G__law_pick (hr.mono (by first | decide | omega)) (by rfl) T.m__law_pick T.F__law_pick.kp T.b__law_pick .nil pass0 (pa_cons (pv 0) (pa_cons (pe_lst (pa_cons pe_str (pa_cons pe_str (pa_cons pe_str (pa_cons pe_str (pa_cons pe_str (pa_cons pe_str (pa_cons pe_str pa_nil)))))))) pa_nil))) pa_nil)))))) pss_nil)
    (pss_one (ps_ret (pe_tup (pa_cons pe_str (pa_cons (pv 2) (pa_cons (pe_call G__law_pick (hr.mono (by first | decide | omega)) (by rfl) T.m__law_pick T.F__law_pick.kp T.b__law_pick .nil pass0 (pa_cons (pv 0) (pa_cons (pe_lst (pa_cons pe_str (pa_cons pe_str (pa_cons pe_str (pa_cons pe_str (pa_cons pe_str (pa_cons pe_str (pa_cons pe_str (pa_cons pe_str (pa_cons pe_str (pa_cons pe_str (pa_cons pe_str (pa_cons pe_str pa_nil))))))))))))) pa_nil))) pa_nil))))))))), ?_⟩
  obtain ⟨l, a, sl, hcl, n0, n1, n2, n3, hl, ha, hsl⟩ := id hC
  have nda := (List.nodup_append.mp (List.nodup_append.mp ok.nd).1).2.1
  have la := ok.la
  refine ⟨_, rfl, _, rfl, cl, _, 1, _, rfl, rfl, SqT.of hcl, at_of (j := 1) rfl rfl, a, kvsOf as, as.map Prod.fst, rfl, Rd.of ha, (by unfold kvsOf; rw [List.map_map, List.map_map]; rfl), (by rw [List.length_map]; omega), fun ys p pe _ hp => ?_⟩
  have l0 : 0 < ys.length := by
    rw [pe.length_eq, List.length_map]
    exact List.length_pos_iff.mpr nas
  refine ⟨d, p, _, rfl, hD.same (same_new hp _), .inl ⟨SqL.of upd_same, drw_ne hD hp⟩, by rw [List.length_map]; exact l0, fun j nv H1 hnv hD1 b1 => ?_⟩
  have b01 : But d H H1 := (Same.but (same_new hp _)).trans b1
  rw [List.getElem?_map] at hnv
  obtain ⟨nm, hnm, rfl⟩ := Option.map_eq_some_iff.mp hnv
  obtain ⟨⟨nm', b⟩, hm, rfl⟩ := List.mem_map.mp (pe.mem_iff.mp (List.mem_of_getElem? hnm))
  have nok := ok.a _ hm
  have hC1 := hC.but b01
  refine ⟨_, rfl, cl, _, 1, _, rfl, rfl, SqT.of (b01 _ _ n0 hcl), at_of (j := 1) rfl rfl, _, rfl, a, kindV b, rfl, .inl ⟨kvsOf as, Sum.inr nm', Rd.of (b01 _ _ n2 ha), rfl, (kvsOf_val nda hm).symm⟩, rfl, _, rfl, ?_⟩
  cases b with
  | true =>
    rw [decide_eq_true (show kindV true = V.str "number" from rfl)]
    refine iteT ?_
    refine pick_dats [.str "less", .str "is"] (by decide +kernel) (by decide) (by decide) rfl hD1 fun sv sx H2 hsx hD2 b2 dsx => ?_
    obtain ⟨s, rfl, rfl, hs2⟩ : ∃ s : Str, sv = .str s ∧ sx = .str s ∧ (s = "less" ∨ s = "is") := by
      rcases List.mem_cons.mp hsx with rfl | hsx
      · cases dsx
        exact ⟨_, rfl, rfl, .inl rfl⟩
      obtain rfl := List.mem_singleton.mp hsx
      cases dsx
      exact ⟨_, rfl, rfl, .inr rfl⟩
    have b02 := b01.trans b2
    refine ⟨_, rfl, _, rfl, _, rfl, d, 5, rfl, hD2, by decide, fun r H3 r0 r5 hD3 b3 => ⟨_, _, rfl, rfl, (by show 1 ≤ sizeLine; decide), fun p1 f1 => ?_⟩⟩
    refine ⟨p1, 5, _, rfl, rfl, upd_same, by decide, by decide, le_line (by show 1 * 5 ≤ 1000; decide), fun p2 f2 => ⟨_, rfl, (by show 2 ≤ sizeLine; decide), fun p3 f3 => ?_⟩⟩
    have b03 := b02.trans b3
    have g1 := (same_new f1 (.lst [.int (r - 2)])).trans (same_new f2 (.lst (List.replicate (5 : Int).toNat [V.int (r - 2)]).flatten))
    have e2 := same_new f3 (.lst [.int 1000000, .int (-1000000)]) _ _ (upd_same (H := upd H3 p1 (.lst [.int (r - 2)])) (a := p2) (o := .lst (List.replicate (5 : Int).toNat [V.int (r - 2)]).flatten))
    have g2 := g1.trans (same_new f3 (.lst [.int 1000000, .int (-1000000)]))
    refine ⟨p2, p3, _, _, rfl, rfl, e2, upd_same, le_line (by show 5 + 2 ≤ 1000; decide), fun p4 f4 => ?_⟩
    have g3 := g2.trans (same_new f4 (.lst ((List.replicate (5 : Int).toNat [V.int (r - 2)]).flatten ++ [.int 1000000, .int (-1000000)])))
    refine ⟨d, p4, _, rfl, hD3.same g3, .inl ⟨SqL.of upd_same, drw_ne (hD3.same g2) f4⟩, (by show 0 < 5 + 2; decide), fun j xv H4 hxv hD4 b4 => ?_⟩
    obtain ⟨i, rfl, hi⟩ : ∃ i : Int, xv = .int i ∧ (-1000000 ≤ i ∧ i ≤ 1000000) := by
      have m := List.mem_of_getElem? hxv
      rcases List.mem_append.mp m with m | m
      · obtain ⟨l', hl', hv⟩ := List.mem_flatten.mp m
        obtain ⟨_, rfl⟩ := List.mem_replicate.mp hl'
        obtain rfl := List.mem_singleton.mp hv
        exact ⟨_, rfl, by omega, by omega⟩
      · rcases List.mem_cons.mp m with rfl | m
        · exact ⟨_, rfl, by decide⟩
        · obtain rfl := List.mem_singleton.mp m
          exact ⟨_, rfl, by decide⟩
    refine ⟨(by show 3 ≤ sizeLine; decide), fun q hq => ?_⟩
    have b04 := (b03.same g3).trans b4
    have nq : q ≠ d := drw_ne hD4 hq
    exact k _ (.tuple [.str s, .str nm', .int i]) _ (hD4.same (same_new hq _)) (b04.same (same_new hq _)) (.tup (SqT.of (off_at upd_same nq)) (.cons (.str _) (.cons (.str _) (.cons (.int _) .nil)))) (Fm.leaf (.num hs2 hm hi.1 hi.2))
  | false =>
    rw [decide_eq_false (show ¬ kindV false = V.str "number" by decide +kernel)]
    refine iteF ?_
    have txt : ∀ (s : Str) (ds : List PyData) (H2 : Hp), s = "is" ∨ s = "like" → (∀ x, x ∈ ds → strOkB x = true) → smDs ds = true → 0 < ds.length → ds.length ≤ 1000 → Drw K H2 d → But d H H2 →
        tRet (tTup (tCons (tC (.str s)) (tCons (tVar 2) (tCons (tCall (sp_pick K) [] E0 (tCons (tVar 0) (tCons (tLst (tDats ds)) tNil))) tNil)))) { nx := fun x H' => Q V.non H', rt := Q } [some (.ref d), some (.ref cl), some (.str nm')] H2 := fun s ds H2 hs2 hds sm l0 l1 hD2 b2 => by
      refine ⟨_, rfl, pick_dats ds sm l0 l1 rfl hD2 fun xv x H3 hx hD3 b3 dx => ⟨(by show 3 ≤ sizeLine; decide), fun q hq => ?_⟩⟩
      have nq : q ≠ d := drw_ne hD3 hq
      exact k _ (.tuple [.str s, .str nm', x]) _ (hD3.same (same_new hq _)) ((b2.trans b3).same (same_new hq _)) (.tup (SqT.of (off_at upd_same nq)) (.cons (.str _) (.cons (.str _) (.cons (dp_same (off_new hq) _ _ dx) .nil)))) (good_txt hs2 hm (hds x hx))
    refine ⟨_, rfl, d, 3, rfl, hD1, by decide, fun r H2 r0 r3 hD2 b2 => ⟨rfl, _, rfl, ?_⟩⟩
    refine ite2 (fun _ => ?_) (fun _ => ?_)
    · exact txt "is" shorts1 H2 (.inl rfl) shorts1_ok (by decide +kernel) (by decide) (by decide) hD2 (b01.trans b2)
    · exact txt "like" shorts2 H2 (.inr rfl) shorts2_ok (by decide +kernel) (by decide) (by decide) hD2 (b01.trans b2)

end
end My
set_option Elab.async false
set_option linter.all false
set_option maxRecDepth 100000
set_option maxHeartbeats 400000
namespace My
open PySem L2 PySem.Spec PyProof.Rows
section
variable {P : Program} {w : World} {K : PySem.W.Frag} {mg : Str → Option Value} {base : Heap}
theorem un_of {A : Around} {k : Nat} (hr : Room k A) : A.units < cLine := by
  have := hr.un
  omega
theorem fin_bool {X : Cx} {pins : List (Addr × Obj)} {σ : L2.St} {H : Hp} {s : Shared} {Q : VK} {b : Bool} (I : Inv X pins σ H s) (q : Q (.bl b) H) : EP X pins σ Q (.bool b) s := ⟨.bl b, H, I, rfl, q⟩
theorem op_ne_d0 {X : Cx} (hu : X.A.units < cLine) : OpR X (compareOp .NotEq) (fun x y H Q => ∃ a b ks, x = .ref a ∧ y = .ref b ∧ H a = some (.dK ks) ∧ H b = some (.dK []) ∧ Q (.bl (!decide (ks.length = 0))) H) := by
  intro pins s σ H x y v u Q I rx ry h
  obtain ⟨a, b, ks, rfl, rfl, ea, eb, q⟩ := h
  obtain rfl : v = Value.ref a := rx
  obtain rfl : u = Value.ref b := ry
  obtain ⟨_, ya, va, ra, da⟩ := (show ObjOk X.prog X.w H s.heap a (.dK ks) from I.hok a _ ea)
  obtain ⟨_, yb, vb, rb, db⟩ := (show ObjOk X.prog X.w H s.heap b (.dK []) from I.hok b _ eb)
  have lb : vb.length = 0 := rb.length.symm
  have la : va.length = ks.length := ra.length.symm
  refine PySem.W.keq_ne (knd := mixKind X.prog X.w) (r := true) ya yb da db hu (fun e => ?_) (fin_bool I ?_)
  · have z : va = [] := List.length_eq_zero_iff.mp (by omega)
    rw [z]
    exact .nil
  · have e : (!(va.length == vb.length && true)) = !decide (ks.length = 0) := by
      rw [lb, la, Bool.and_true]
      rfl
    rw [e]
    exact q
theorem next_of {D : Ends} {σ : L2.St} {H : Hp} (h : D.nx σ H) : tNext D σ H := h
theorem tup_upd {K : PySem.W.Frag} {H : Hp} {D d : Addr} {ys : List V} {o : HO} (hD : H D = some (.lst ys)) : ∀ a xs, SqT K (del H d) a xs → SqT K (del (upd H D o) d) a xs := fun a xs h => by
  have st : ∀ u : HO, (∀ zs, u ≠ .lst zs) → del H d a = some u → del (upd H D o) d a = some u := fun u hu e => by
    have n : a ≠ d := fun z => by
      rw [z, del_same] at e
      cases e
    rw [del_ne n] at e ⊢
    rw [upd_ne (fun z => by rw [z, hD] at e; exact hu _ (Option.some.inj e).symm)]
    exact e
  rcases h with (h | ⟨q, h⟩) | h
  · exact .inl (.inl (st _ (fun zs z => by cases z) h))
  · exact .inl (.inr ⟨q, st _ (fun zs z => by cases z) h⟩)
  · exact .inr h
def sp_lform (K : PySem.W.Frag) (m : Nat) : Sp := fun vs H Q _ => ∃ (d cl : Addr) (deep : Nat) (hs : List Str) (as : List (Str × Bool)) (ss : List Str), vs = [.ref d, .ref cl, .int deep, .int 3] ∧ Drw K H d ∧ ClAt K d H cl hs as ss ∧ ColsOk hs as ss ∧ deep < m ∧
  ∀ (v : V) (x : PyData) (H' : Hp), Drw K H' d → But d H H' → Dp K (del H' d) v x → Fm hs as (deep + 1) x → Q v H'
theorem ok_lform (T : Txt K mg) : ∀ m, FnOk P w K mg base CX0 (m + 5) T.a__law_formula T.d__law_formula ["draw", "columns", "deep", "share"] (sp_lform K m) := by
  have G__law_take := ok__law_take (P := P) (w := w) (base := base) T
  have G__law_pick := ok__law_pick (P := P) (w := w) (base := base) T
  have G__law_ask := ok__law_ask (P := P) (w := w) (base := base) T
  have G__law_test := ok__law_test (P := P) (w := w) (base := base) T
  intro m
  induction m with
  | zero => exact T.F__law_formula.ok sc__law_formula (fun vs H Q E h => by obtain ⟨_, _, _, _, _, _, rfl, _⟩ := h; rfl) (fun cdv A outer s H vs Q E hr h => by obtain ⟨_, _, _, _, _, _, _, _, _, _, z, _⟩ := h; exact absurd z (Nat.not_lt_zero _))
  | succ m G__law_formula =>
    refine T.F__law_formula.ok sc__law_formula (fun vs H Q E h => ?_) (fun cdv A outer s H vs Q E hr h => ?_)
    · obtain ⟨_, _, _, _, _, _, rfl, _⟩ := h
      rfl
    obtain ⟨d, cl, deep, hs, as, ss, rfl, hD, hC, ok, dm, k⟩ := h
    refine ⟨_, (pss_cons (ps_set (i := 4) sc__law_formula.nd rfl (by first | exact Or.inl rfl | exact Or.inr rfl) (pe_call G__law_take (hr.mono (by first | decide | omega)) (by rfl) T.m__law_take T.F__law_take.kp T.b__law_take .nil pass0 (pa_cons (pv 0) (pa_cons pe_int pa_nil))))
    (pss_cons (ps_if (PW.pt (pw_or (pt_cmpR op_eq (pv 2) pe_int (nomark _)) (pw_or1 (pt_cmpR op_lt (pv 4) pe_int (nomark _))))) (pss_cons (ps_if (PW.pt (pw_and (pt_cmpR op_gt (pv 3) pe_int (nomark _)) (pw_and (pt_cmpR (op_ne_d0 (un_of hr)) (pe_ix ix_tup (pv 1) pe_int (fun _ _ => rfl)) pe_dnewK (nomark _)) (pw_and1 (pt_cmpR op_eq (pe_call G__law_take (hr.mono (by first | decide | omega)) (by rfl) T.m__law_take T.F__law_take.kp T.b__law_take .nil pass0 (pa_cons (pv 0) (pa_cons (pv 3) pa_nil))) pe_int (nomark _)))))) (pss_one (ps_ret (pe_call G__law_ask (hr.mono (by first | decide | omega)) (by rfl) T.m__law_ask T.F__law_ask.kp T.b__law_ask .nil pass0 (pa_cons (pv 0) (pa_cons (pv 1) pa_nil))))) pss_nil)
    (pss_one (ps_ret (pe_ifExp (pt_cmpR op_ne (pv 4) pe_int (nomark _)) (pe_call G__law_test (hr.mono (by first | decide | omega)) (by rfl) T.m__law_test T.F__law_test.kp T.b__law_test .nil pass0 (pa_cons (pv 0) (pa_cons (pv 1) pa_nil))) (pe_call G__law_pick (hr.mono (by first | decide | omega)) (by rfl) T.m__law_pick T.F__law_pick.kp T.b__law_pick .nil pass0 (pa_cons (pv 0) (pa_cons (pe_lst (pa_cons (pe_tup (pa_cons pe_str pa_nil)) (pa_cons (pe_tup (pa_cons pe_str pa_nil)) pa_nil))) pa_nil))))))) pss_nil)
    (pss_cons (ps_if (pt_cmpR op_eq (pv 4) pe_int (nomark _)) (pss_one (ps_ret (pe_tup (pa_cons pe_str (pa_cons (pe_call G__law_formula (hr.mono (by first | decide | omega)) (by rfl) T.m__law_formula T.F__law_formula.kp T.b__law_formula .nil pass0 (pa_cons (pv 0) (pa_cons (pv 1) (pa_cons (pe_op op_sub (pv 2) pe_int) (pa_cons (pv 3) pa_nil))))) pa_nil))))) pss_nil)
    (pss_cons (ps_set (i := 5) sc__law_formula.nd rfl (by first | exact Or.inl rfl | exact Or.inr rfl) (pe_ifExp (pt_cmpR op_lt (pv 4) pe_int (nomark _)) pe_int pe_int))
    (pss_one (ps_ret (pe_tup (pa_cons (pe_call G__law_pick (hr.mono (by first | decide | omega)) (by rfl) T.m__law_pick T.F__law_pick.kp T.b__law_pick .nil pass0 (pa_cons (pv 0) (pa_cons (pe_lst (pa_cons pe_str (pa_cons pe_str pa_nil))) pa_nil))) (pa_cons (pe_callTy call_tuple_of (by rfl) T.z_tuple (by decide +kernel) (pa_cons (pe_lc (own := [("turn", 6)]) rfl sc__law_formula.nd (pi_range1 (by rfl) T.z_range (pa_cons (pv 5) pa_nil)) (blkOk_by (own := [("turn", 6)]) (N := ["draw", "columns", "deep", "share", "kind", "many", "turn"]) (sc := defScope s__law_formula) (by decide +kernel)) (fun _ _ _ _ _ => (pg_name (i := 6) sc__law_formula.nd rfl (by first | exact Or.inl rfl | exact Or.inr rfl))) (fun _ _ _ _ _ => pts_nil) (fun _ _ _ _ _ => (pe_call G__law_formula (hr.mono (by first | decide | omega)) (by rfl) T.m__law_formula T.F__law_formula.kp T.b__law_formula .nil pass0 (pa_cons (pv 0) (pa_cons (pv 1) (pa_cons (pe_op op_sub (pv 2) pe_int) (pa_cons (pv 3) pa_nil))))))) pa_nil)) pa_nil))))))))), ?_⟩
    refine ⟨_, rfl, d, 9, rfl, hD, by decide, fun kind H1 k0 k9 hD1 b1 => ?_⟩
    have hC1 := hC.but b1
    dsimp only
    refine ifs_cut (fun b H' => H1 = H' ∧ (b = false → deep ≠ 0)) (fun b H' hb => ?_) (fun Q' fin => ?_)
    rotate_left
    · refine ⟨_, rfl, rfl, _, rfl, ite2 (fun _ => fin _ _ ⟨rfl, fun z => by cases z⟩) (fun c => ⟨_, rfl, _, _, rfl, rfl, _, rfl, fin _ _ ⟨rfl, fun _ z => c ?_⟩⟩)⟩
      subst z
      exact decide_eq_true rfl
    obtain ⟨rfl, hb⟩ := hb
    cases b with
    | true =>
      refine iteT ?_
      refine ifs_cut (fun b H' => Drw K H' d ∧ But d H1 H' ∧ (b = true → as ≠ [])) (fun b H' hb => ?_) (fun Q' fin => ?_)
      rotate_left
      · obtain ⟨l, a, sl, hcl, n0, n1, n2, n3, hl, ha, hsl⟩ := id hC1
        refine ⟨_, rfl, _, _, rfl, rfl, _, rfl, ite2 (fun _ => ?_) (fun c => absurd (by decide) c)⟩
        refine ⟨_, rfl, cl, _, 1, _, rfl, rfl, SqT.of hcl, at_of (j := 1) rfl rfl, fun p hp => ⟨a, p, kvsOf as, rfl, rfl, same_new hp _ _ _ ha, upd_same, _, rfl, ?_⟩⟩
        have g := same_new hp (.dK [])
        refine ite2 (fun c => ?_) (fun c => fin _ _ ⟨hD1.same g, Same.but g, fun z => by cases z⟩)
        have nas : as ≠ [] := fun z => by
          subst z
          cases c
        refine ⟨_, rfl, _, rfl, d, 3, rfl, hD1.same g, by decide, fun r H2 r0 r3 hD2 b2 => ⟨rfl, _, rfl, fin _ _ ⟨hD2, (Same.but g).trans b2, fun _ => nas⟩⟩⟩
      obtain ⟨hD2, b2, nas⟩ := hb
      have b12 := b1.trans b2
      have hC2 := hC.but b12
      cases b with
      | true => exact iteT ⟨_, rfl, _, rfl, d, cl, hs, as, ss, rfl, hD2, hC2, ok, nas rfl, fun v x H3 hD3 b3 dx gx => k v x H3 hD3 (b12.trans b3) dx (fm_le gx (Nat.succ_le_succ (Nat.zero_le _)))⟩
      | false =>
        refine iteF ⟨_, rfl, rfl, _, rfl, ite2 (fun _ => ?_) (fun _ => ?_)⟩
        · exact ⟨_, rfl, _, rfl, d, cl, hs, as, ss, rfl, hD2, hC2, ok, fun v x H3 hD3 b3 dx gx => k v x H3 hD3 (b12.trans b3) dx (fm_le gx (Nat.succ_le_succ (Nat.zero_le _)))⟩
        · refine pick_dats [.tuple [.str "all"], .tuple [.str "none"]] (by decide +kernel) (by decide) (by decide) rfl hD2 fun v x H3 hx hD3 b3 dx => k v x H3 hD3 (b12.trans b3) dx (fm_le (n := 1) (Fm.leaf ?_) (Nat.succ_le_succ (Nat.zero_le _)))
          rcases List.mem_cons.mp hx with rfl | hx
          · exact .all (.inl rfl)
          · obtain rfl := List.mem_singleton.mp hx
            exact .all (.inr rfl)
    | false =>
    refine iteF (next_of ?_)
    dsimp only
    obtain ⟨dp, rfl⟩ : ∃ dp, deep = dp + 1 := ⟨deep - 1, by have := hb rfl; omega⟩
    have e1 : ((dp + 1 : Nat) : Int) - 1 = ((dp : Nat) : Int) := by omega
    refine ifs_cut (fun b H' => H1 = H') (fun b H' hb => ?_) (fun Q' fin => ?_)
    rotate_left
    · exact ⟨_, rfl, rfl, _, rfl, fin _ _ rfl⟩
    subst hb
    cases b with
    | true =>
      refine iteT ⟨_, rfl, _, rfl, _, rfl, _, _, rfl, rfl, _, rfl, d, cl, dp, hs, as, ss, by show [V.ref d, V.ref cl, V.int (((dp + 1 : Nat) : Int) - 1), V.int 3] = _; rw [e1], hD1, hC1, ok, Nat.lt_of_succ_lt_succ dm, fun v x H3 hD3 b3 dx gx => ⟨(by show 2 ≤ sizeLine; decide), fun q hq => ?_⟩⟩
      have nq : q ≠ d := drw_ne hD3 hq
      exact k _ (.tuple [.str "not", x]) _ (hD3.same (same_new hq _)) ((b1.trans b3).same (same_new hq _)) (.tup (SqT.of (off_at upd_same nq)) (.cons (.str _) (.cons (dp_same (off_new hq) _ _ dx) .nil))) (.not gx)
    | false =>
    refine iteF (next_of ?_)
    dsimp only
    -- many = 2 if kind < 8 else 3
    refine seq_cut (fun σ' H' => H1 = H' ∧ ∃ many : Nat, 2 ≤ many ∧ many ≤ 3 ∧ σ' = [some (.ref d), some (.ref cl), some (.int ((dp + 1 : Nat) : Int)), some (.int 3), some (.int kind), some (.int many), none]) (fun σ' H' hm => ?_) (fun tail => ?_)
    rotate_left
    · refine ⟨_, rfl, _, _, rfl, rfl, _, rfl, ite2 (fun _ => ?_) (fun _ => ?_)⟩
      · exact tail _ _ ⟨rfl, 2, by decide, by decide, rfl⟩
      · exact tail _ _ ⟨rfl, 3, by decide, by decide, rfl⟩
    obtain ⟨e, many, m2, m3, rfl⟩ := hm
    subst e
    refine pick_dats [.str "and", .str "or"] (by decide +kernel) (by decide) (by decide) rfl hD1 fun sv sx H2 hsx hD2 b2 dsx => ?_
    obtain ⟨s, rfl, rfl, hs2⟩ : ∃ s : Str, sv = .str s ∧ sx = .str s ∧ (s = "and" ∨ s = "or") := by
      rcases List.mem_cons.mp hsx with rfl | hsx
      · cases dsx
        exact ⟨_, rfl, rfl, .inl rfl⟩
      obtain rfl := List.mem_singleton.mp hsx
      cases dsx
      exact ⟨_, rfl, rfl, .inr rfl⟩
    have b12 := b1.trans b2
    refine ⟨_, rfl, _, rfl, by omega, by omega, fun D hD0 => ?_⟩
    have nD : D ≠ d := drw_ne hD2 hD0
    have slay : PyData.canLay0 (.str s) = true := by rcases hs2 with h | h <;> subst h <;> decide +kernel
    refine lc_range (fun i H' => Drw K H' d ∧ But d H2 H' ∧ ∃ acc xs, H' D = some (.lst acc) ∧ xs.length = i ∧ DpAll K (del H' d) acc xs ∧ ∀ x, x ∈ xs → Fm hs as (dp + 1) x) ⟨hD2.same (same_new hD0 _), Same.but (same_new hD0 _), [], [], upd_same, rfl, .nil, fun x hx => by cases hx⟩ ?_ ?_
    · rintro i H' hi ⟨hD3, b3, acc, xs, hacc, lx, dacc, gxs⟩
      have b13 := b12.trans b3
      refine ⟨rfl, _, rfl, _, rfl, _, rfl, _, _, rfl, rfl, _, rfl, d, cl, dp, hs, as, ss, by show [V.ref d, V.ref cl, V.int (((dp + 1 : Nat) : Int) - 1), V.int 3] = _; rw [e1], hD3, hC.but b13, ok, Nat.lt_of_succ_lt_succ dm, fun v x H4 hD4 b4 dx gx => ⟨acc, b4 _ _ nD hacc, ?_, ?_, ?_, acc ++ [v], xs ++ [x], upd_same, ?_, ?_, ?_⟩⟩
      · rw [dps_len dacc]
        exact small1000 (by omega)
      · exact hD4.but (b4 _ _ nD hacc) (Ne.symm nD) (fun b o n e => by rw [upd_ne n]; exact e)
      · exact fun b o n e => by
          rw [upd_ne (ne_of_none e hD0)]
          exact b4 _ _ n (b3 _ _ n e)
      · rw [List.length_append, lx]
        rfl
      · have tu := tup_upd (K := K) (d := d) (o := .lst (acc ++ [v])) (b4 _ _ nD hacc)
        exact dps_app (dps_tups tu _ _ (noLs_all fun e m => fm_noL (gxs e m)) (dps_same (off_but b4) _ _ dacc)) (.cons (dp_tups tu _ _ (fm_noL gx) dx) .nil)
      · intro y hy
        rcases List.mem_append.mp hy with hy | hy
        · exact gxs y hy
        · obtain rfl := List.mem_singleton.mp hy
          exact gx
    · rintro H' ⟨hD3, b3, acc, xs, hacc, lx, dacc, gxs⟩
      rw [Int.toNat_natCast] at lx
      refine ⟨D, acc, rfl, .inl ⟨SqL.of hacc, fun l hl => ?_⟩⟩
      have g5 := same_new hl (.tup acc)
      have hD5 := hD3.same g5
      refine ⟨(by show 2 ≤ sizeLine; decide), fun q hq => ?_⟩
      have nq : q ≠ d := drw_ne hD5 hq
      have nl : l ≠ d := drw_ne hD3 hl
      have g6 := same_new hq (.tup [.str s, .ref l])
      have el : upd (upd H' l (.tup acc)) q (.tup [.str s, .ref l]) l = some (.tup acc) := g6 _ _ upd_same
      refine k _ (.tuple [.str s, .tuple xs]) _ (hD5.same g6) (((b12.trans b3).same g5).same g6) (.tup (SqT.of (off_at upd_same nq)) (.cons (.str _) (.cons (.tup (SqT.of (off_at el nl)) (dps_same ((off_new hl).trans (off_new hq)) _ _ dacc)) .nil))) (.kids hs2 (by omega) (by omega) gxs)

end
end My
set_option Elab.async false
set_option linter.all false
set_option maxRecDepth 100000
set_option maxHeartbeats 400000
namespace My
open PySem L2 PySem.Spec PyProof.Rows
section
variable {P : Program} {w : World} {K : PySem.W.Frag} {mg : Str → Option Value} {base : Heap}
def hsL : List (List Str) := [[], ["k"], ["k"], ["k", "llllllll"]]
def ssL : List (List Str) := [["x"], ["x"], ["x", "yyyyyyyy"]]
def bigA : List (Str × Bool) := [("v", true), ("w", false), ("vvvvvvvv", true), ("ww", false)]
def asL : List (List (Str × Bool)) := [[], [("v", true)], [("v", true), ("w", false)], [("w", false)]]
def okB (hs : List Str) (as : List (Str × Bool)) (ss : List Str) : Bool := hs.all nameB && as.all (fun p => nameB p.1) && ss.all nameB && decide ((hs ++ as.map Prod.fst ++ ss).Nodup) && decide (hs.length ≤ 2) && decide (as.length ≤ 4) && decide (ss.length ≤ 2)
theorem okB_ok {hs : List Str} {as : List (Str × Bool)} {ss : List Str} (h : okB hs as ss = true) : ColsOk hs as ss := by
  unfold okB at h
  simp only [Bool.and_eq_true, decide_eq_true_eq, List.all_eq_true] at h
  obtain ⟨⟨⟨⟨⟨⟨h1, h2⟩, h3⟩, h4⟩, h5⟩, h6⟩, h7⟩ := h
  exact ⟨h1, h2, h3, h4, h5, h6, h7⟩
theorem all_ok : ∀ hs, hs ∈ hsL → ∀ as, as ∈ bigA :: asL → ∀ ss, ss ∈ ssL → okB hs as ss = true := by decide +kernel
def tStrs : List Str → TA
  | [] => tNil
  | x :: r => tCons (tC (.str x)) (tStrs r)
def tLs : List (List Str) → TA
  | [] => tNil
  | xs :: r => tCons (tLst (tStrs xs)) (tLs r)
theorem lay_strs : ∀ (xs : List Str) {σ : L2.St} {H : Hp} {Q : List V → Hp → Prop}, Q (xs.map V.str) H → tStrs xs σ H Q
  | [], _, _, _, h => h
  | x :: r, σ, H, Q, h => lay_strs r (Q := fun vs H' => Q (.str x :: vs) H') h
theorem lay_lists {d : Addr} : ∀ (xss : List (List Str)) (_ : ∀ xs, xs ∈ xss → xs.length ≤ 1000) {σ : L2.St} {H : Hp} {Q : List V → Hp → Prop}, (∃ o, H d = some o) →
    (∀ (rs : List V) (H' : Hp), Same H H' → rs.length = xss.length → (∀ (i : Nat) (v : V), rs[i]? = some v → ∃ l xs, xs ∈ xss ∧ v = V.ref l ∧ l ≠ d ∧ H' l = some (.lst (xs.map V.str))) → Q rs H') → tLs xss σ H Q
  | [], _, _, H, _, _, k => k [] H (Same.refl H) rfl fun i v h => by simp at h
  | xs :: r, hl, σ, H, Q, ht, k => by
    show tCons (tLst (tStrs xs)) (tLs r) σ H Q
    refine lay_strs xs ⟨le_line (by rw [List.length_map]; exact hl xs (List.mem_cons_self ..)), fun p hp => ?_⟩
    obtain ⟨o, ho⟩ := ht
    have np : p ≠ d := fun z => by
      rw [z, ho] at hp
      cases hp
    refine lay_lists r (fun x hx => hl x (List.mem_cons_of_mem _ hx)) ⟨o, same_new hp _ _ _ ho⟩ fun rs H' g le all_ => k (.ref p :: rs) H' ((same_new hp _).trans g) (by rw [List.length_cons, List.length_cons, le]) fun i v hv => ?_
    cases i with
    | zero =>
      obtain rfl := Option.some.inj hv
      exact ⟨p, xs, List.mem_cons_self .., rfl, np, g _ _ upd_same⟩
    | succ i =>
      obtain ⟨l, ys, h1, h2⟩ := all_ i v hv
      exact ⟨l, ys, List.mem_cons_of_mem _ h1, h2⟩
def prs (as : List (Str × Bool)) : List (TE × TE) := as.map fun p => (tC (.str p.1), tC (kindV p.2))
theorem pairs_as : ∀ (as : List (Str × Bool)) {σ : L2.St} {H : Hp} {Q : List (V × V) → Hp → Prop}, Q (as.map fun p => (V.str p.1, kindV p.2)) H → tPairs (prs as) σ H Q
  | [], _, _, _, h => h
  | p :: r, σ, H, Q, h => pairs_as r (Q := fun ps H' => Q ((.str p.1, kindV p.2) :: ps) H') h
theorem upd_twice {H : Hp} {p : Addr} {o o' : HO} : upd (upd H p o) p o' = upd H p o' := by
  funext b
  by_cases c : b = p
  · rw [c, upd_same, upd_same]
  · rw [upd_ne c, upd_ne c, upd_ne c]
theorem merge_as : ∀ (as bs : List (Str × Bool)), ((bs ++ as).map Prod.fst).Nodup → mergeK (kvsOf bs) (kvsOf as) = kvsOf (bs ++ as)
  | [], bs, _ => by
    rw [List.append_nil]
    rfl
  | p :: r, bs, nd => by
    have n : p.1 ∉ bs.map Prod.fst := fun z => by
      rw [List.map_append, List.nodup_append] at nd
      exact nd.2.2 _ z _ (List.mem_cons_self ..) rfl
    show mergeK (putK (kvsOf bs) (Sum.inr p.1) (kindV p.2)) (kvsOf r) = _
    rw [putK_new _ (kvsOf_none n)]
    have e : kvsOf bs ++ [(Sum.inr p.1, kindV p.2)] = kvsOf (bs ++ [p]) := by
      unfold kvsOf
      rw [List.map_append]
      rfl
    rw [e, merge_as r (bs ++ [p]) (by rw [List.append_assoc]; exact nd), List.append_assoc]
    rfl
theorem disp_as (as : List (Str × Bool)) (nd : (as.map Prod.fst).Nodup) (l : as.length ≤ 15) {σ : L2.St} {H : Hp} {Q : VK} (k : ∀ p, H p = none → Q (.ref p) (upd H p (.dK (kvsOf as)))) : tDisp (prs as) σ H Q := fun p hp => pairs_as as ⟨upd_same, kvsOf as, by unfold kvsOf; rw [List.map_map]; rfl, by unfold kvsOf; rw [List.length_map]; exact l, by
  have e := merge_as as [] nd
  rw [show kvsOf [] = [] from rfl, List.nil_append] at e
  rw [e, upd_twice]
  exact k p hp⟩
def sp_lcols (K : PySem.W.Frag) : Sp := fun vs H Q _ => ∃ (d : Addr), vs = [.ref d] ∧ Drw K H d ∧
  ∀ (cl : Addr) (hs : List Str) (as : List (Str × Bool)) (ss : List Str) (H' : Hp), hs ∈ hsL → as ∈ bigA :: asL → ss ∈ ssL → Drw K H' d → But d H H' → ClAt K d H' cl hs as ss → Q (.ref cl) H'
theorem ok__law_columns (T : Txt K mg) : FnOk P w K mg base CX0 4 T.a__law_columns T.d__law_columns ["draw"] (sp_lcols K) := by
  have G__law_pick := ok__law_pick (P := P) (w := w) (base := base) T
  have G__law_take := ok__law_take (P := P) (w := w) (base := base) T
  refine T.F__law_columns.ok sc__law_columns (fun vs H Q E h => ?_) (fun cdv A outer s H vs Q E hr h => ?_)
  · obtain ⟨d, rfl, _⟩ := h
    rfl
  obtain ⟨d, rfl, hD, k⟩ := h
  refine ⟨_, (pss_cons (ps_set (i := 1) sc__law_columns.nd rfl (by first | exact Or.inl rfl | exact Or.inr rfl) (pe_call G__law_pick (hr.mono (by first | decide | omega)) (by rfl) T.m__law_pick T.F__law_pick.kp T.b__law_pick .nil pass0 (pa_cons (pv 0) (pa_cons (pe_lst (pa_cons pe_dnewK (pa_cons (pe_disp (pps_cons pe_str pe_str pps_nil) rfl rfl (List.cons_ne_nil _ _) (by decide)) (pa_cons (pe_disp (pps_cons pe_str pe_str (pps_cons pe_str pe_str pps_nil)) rfl rfl (List.cons_ne_nil _ _) (by decide)) (pa_cons (pe_disp (pps_cons pe_str pe_str pps_nil) rfl rfl (List.cons_ne_nil _ _) (by decide)) pa_nil))))) pa_nil))))
    (pss_cons (ps_if (pt_cmpR op_eq (pe_call G__law_take (hr.mono (by first | decide | omega)) (by rfl) T.m__law_take T.F__law_take.kp T.b__law_take .nil pass0 (pa_cons (pv 0) (pa_cons pe_int pa_nil))) pe_int (nomark _)) (pss_one (ps_set (i := 1) sc__law_columns.nd rfl (by first | exact Or.inl rfl | exact Or.inr rfl) (pe_disp (pps_cons pe_str pe_str (pps_cons pe_str pe_str (pps_cons pe_str pe_str (pps_cons pe_str pe_str pps_nil)))) rfl rfl (List.cons_ne_nil _ _) (by decide)))) pss_nil)
    (pss_one (ps_ret (pe_tup (pa_cons (pe_call G__law_pick (hr.mono (by first | decide | omega)) (by rfl) T.m__law_pick T.F__law_pick.kp T.b__law_pick .nil pass0 (pa_cons (pv 0) (pa_cons (pe_lst (pa_cons (pe_lst pa_nil) (pa_cons (pe_lst (pa_cons pe_str pa_nil)) (pa_cons (pe_lst (pa_cons pe_str pa_nil)) (pa_cons (pe_lst (pa_cons pe_str (pa_cons pe_str pa_nil))) pa_nil))))) pa_nil))) (pa_cons (pv 1) (pa_cons (pe_call G__law_pick (hr.mono (by first | decide | omega)) (by rfl) T.m__law_pick T.F__law_pick.kp T.b__law_pick .nil pass0 (pa_cons (pv 0) (pa_cons (pe_lst (pa_cons (pe_lst (pa_cons pe_str pa_nil)) (pa_cons (pe_lst (pa_cons pe_str pa_nil)) (pa_cons (pe_lst (pa_cons pe_str (pa_cons pe_str pa_nil))) pa_nil)))) pa_nil))) pa_nil)))))))), ?_⟩
  refine seq_cut (fun σ' H' => Drw K H' d ∧ But d H H' ∧ ∃ (a : Addr) (as : List (Str × Bool)), as ∈ asL ∧ a ≠ d ∧ H' a = some (.dK (kvsOf as)) ∧ σ' = [some (.ref d), some (.ref a)]) (fun σ' H' h => ?_) (fun tail => ?_)
  rotate_left
  · refine ⟨_, rfl, fun p1 f1 => disp_as [("v", true)] (by decide +kernel) (by decide) fun p2 f2 => disp_as [("v", true), ("w", false)] (by decide +kernel) (by decide) fun p3 f3 => disp_as [("w", false)] (by decide +kernel) (by decide) fun p4 f4 => ⟨(by show 4 ≤ sizeLine; decide), fun p5 f5 => ?_⟩⟩
    have e1 : upd H p1 (.dK []) p1 = some (.dK (kvsOf [])) := upd_same
    have g1 := same_new f1 (.dK [])
    generalize upd H p1 (.dK []) = H1 at *
    have e2 : upd H1 p2 (.dK (kvsOf [("v", true)])) p2 = some (.dK (kvsOf [("v", true)])) := upd_same
    have g2 := same_new f2 (.dK (kvsOf [("v", true)]))
    generalize upd H1 p2 (.dK (kvsOf [("v", true)])) = H2 at *
    have e3 : upd H2 p3 (.dK (kvsOf [("v", true), ("w", false)])) p3 = some (.dK (kvsOf [("v", true), ("w", false)])) := upd_same
    have g3 := same_new f3 (.dK (kvsOf [("v", true), ("w", false)]))
    generalize upd H2 p3 (.dK (kvsOf [("v", true), ("w", false)])) = H3 at *
    have e4 : upd H3 p4 (.dK (kvsOf [("w", false)])) p4 = some (.dK (kvsOf [("w", false)])) := upd_same
    have g4 := same_new f4 (.dK (kvsOf [("w", false)]))
    generalize upd H3 p4 (.dK (kvsOf [("w", false)])) = H4 at *
    have g5 := same_new f5 (.lst [.ref p1, .ref p2, .ref p3, .ref p4])
    have hD1 := hD.same g1
    have hD2 := hD1.same g2
    have hD3 := hD2.same g3
    have hD4 := hD3.same g4
    refine ⟨d, p5, _, rfl, hD4.same g5, .inl ⟨SqL.of upd_same, drw_ne hD4 f5⟩, (by show 0 < 4; decide), fun j v H6 hv hD6 b6 => ?_⟩
    have n1 : p1 ≠ d := drw_ne hD f1
    have n2 : p2 ≠ d := drw_ne hD1 f2
    have n3 : p3 ≠ d := drw_ne hD2 f3
    have n4 : p4 ≠ d := drw_ne hD3 f4
    have b0 : But d H H6 := (Same.but ((((g1.trans g2).trans g3).trans g4).trans g5)).trans b6
    obtain ⟨p, as, m, n, e, rfl⟩ : ∃ (p : Addr) (as : List (Str × Bool)), as ∈ asL ∧ p ≠ d ∧ H4 p = some (.dK (kvsOf as)) ∧ v = .ref p := by
      match j, hv with
      | 0, hv => exact ⟨p1, [], by simp [asL], n1, g4 _ _ (g3 _ _ (g2 _ _ e1)), (Option.some.inj hv).symm⟩
      | 1, hv => exact ⟨p2, _, by simp [asL], n2, g4 _ _ (g3 _ _ e2), (Option.some.inj hv).symm⟩
      | 2, hv => exact ⟨p3, _, by simp [asL], n3, g4 _ _ e3, (Option.some.inj hv).symm⟩
      | 3, hv => exact ⟨p4, _, by simp [asL], n4, e4, (Option.some.inj hv).symm⟩
      | j + 4, hv => simp at hv
    exact tail _ _ ⟨hD6, b0, p, as, m, n, b6 _ _ n (g5 _ _ e), rfl⟩
  obtain ⟨hD1, b1, a0, as0, m0, n0, e0, rfl⟩ := h
  refine seq_cut (fun σ' H'' => Drw K H'' d ∧ But d H H'' ∧ ∃ (a : Addr) (as : List (Str × Bool)), as ∈ bigA :: asL ∧ a ≠ d ∧ H'' a = some (.dK (kvsOf as)) ∧ σ' = [some (.ref d), some (.ref a)]) (fun σ' H'' h => ?_) (fun tail => ?_)
  rotate_left
  · refine ⟨_, rfl, d, 6, rfl, hD1, by decide, fun r H2 r0 r6 hD2 b2 => ⟨rfl, _, rfl, ite2 (fun _ => ?_) (fun _ => next_of ?_)⟩⟩
    · refine disp_as bigA (by decide +kernel) (by decide) fun p hp => ?_
      exact tail _ _ ⟨hD2.same (same_new hp _), (b1.trans b2).same (same_new hp _), p, bigA, List.mem_cons_self .., drw_ne hD2 hp, upd_same, rfl⟩
    · exact tail _ _ ⟨hD2, b1.trans b2, a0, as0, List.mem_cons_of_mem _ m0, n0, b2 _ _ n0 e0, rfl⟩
  obtain ⟨hD2, b2, a, as, ma, na, ea, rfl⟩ := h
  have pickL : ∀ (xss : List (List Str)) (H1 : Hp) (Q1 : VK), (∀ xs, xs ∈ xss → xs.length ≤ 1000) → 0 < xss.length → xss.length ≤ 1000 → Drw K H1 d → (∀ l xs H', xs ∈ xss → l ≠ d → Drw K H' d → But d H1 H' → H' l = some (.lst (xs.map V.str)) → Q1 (.ref l) H') →
      tCall (sp_pick K) [] E0 (tCons (tVar 0) (tCons (tLst (tLs xss)) tNil)) [some (.ref d), some (.ref a)] H1 Q1 := fun xss H1 Q1 lx l0 l1 hD1 k1 => by
    obtain ⟨yy, hy⟩ := hD1.at
    refine ⟨_, rfl, lay_lists xss lx ⟨_, hy⟩ fun rs H2 g le all_ => ⟨le_line (by rw [le]; exact l1), fun p hp => ?_⟩⟩
    have g2 := same_new hp (.lst rs)
    refine ⟨d, p, rs, rfl, (hD1.same g).same g2, .inl ⟨SqL.of upd_same, drw_ne (hD1.same g) hp⟩, by rw [le]; exact l0, fun j v H3 hv hD3 b3 => ?_⟩
    obtain ⟨l, xs, m, rfl, nl, el⟩ := all_ j v hv
    exact k1 l xs H3 m nl hD3 ((Same.but (g.trans g2)).trans b3) (b3 _ _ nl (g2 _ _ el))
  refine pickL hsL H'' _ (by decide +kernel) (by decide) (by decide) hD2 fun l hs H3 mh nl hD3 b3 el => ⟨_, rfl, ?_⟩
  refine pickL ssL H3 _ (by decide +kernel) (by decide) (by decide) hD3 fun s2 ss H4 ms ns hD4 b4 es => ⟨(by show 3 ≤ sizeLine; decide), fun q hq => ?_⟩
  have g := same_new hq (.tup [.ref l, .ref a, .ref s2])
  have nq := drw_ne hD4 hq
  exact k q hs as ss _ mh ma ms (hD4.same g) (((b2.trans b3).trans b4).same g) ⟨l, a, s2, upd_same, nq, nl, na, ns, SqL.of (g _ _ (b4 _ _ nl el)), g _ _ (b4 _ _ na (b3 _ _ na ea)), SqL.of (g _ _ es)⟩

end
end My
set_option Elab.async false
set_option linter.all false
set_option maxRecDepth 100000
set_option maxHeartbeats 400000
namespace My
open PySem L2 PySem.Spec PyProof.Rows
section
variable {P : Program} {w : World} {K : PySem.W.Frag} {mg : Str → Option Value} {base : Heap}
def gq (a b : Int) : Int := ((Nat.gcd a.natAbs b.natAbs : Nat) : Int)
def sg (a b : Int) : Int := if b < 0 then -gq a b else gq a b
def low (a b : Int) : Int × Int := (a.fdiv (sg a b), b.fdiv (sg a b))
theorem gq_pos {a b : Int} (h : b ≠ 0) : 0 < gq a b := by
  have : 0 < Nat.gcd a.natAbs b.natAbs := Nat.gcd_pos_of_pos_right _ (by omega)
  unfold gq
  omega
theorem sg_ne {a b : Int} (h : b ≠ 0) : sg a b ≠ 0 := by
  have := gq_pos (a := a) h
  unfold sg
  split <;> omega
theorem gq_le {a b : Int} (h : b ≠ 0) : (gq a b).natAbs ≤ b.natAbs := by
  have : Nat.gcd a.natAbs b.natAbs ≤ b.natAbs := Nat.gcd_le_right _ (by omega)
  unfold gq
  omega
theorem sg_le {a b : Int} (h : b ≠ 0) : (sg a b).natAbs ≤ b.natAbs := by
  have := gq_le (a := a) h
  unfold sg
  split <;> omega
/-- both are multiples of the divisor -/
theorem sg_parts {a b : Int} (h : b ≠ 0) : ∃ x y : Int, a = sg a b * x ∧ b = sg a b * y ∧ 0 < y ∧ Nat.gcd x.natAbs y.natAbs = 1 := by
  have g0 : 0 < Nat.gcd a.natAbs b.natAbs := Nat.gcd_pos_of_pos_right _ (by omega)
  obtain ⟨u, hu⟩ := Nat.gcd_dvd_left a.natAbs b.natAbs
  obtain ⟨v, hv⟩ := Nat.gcd_dvd_right a.natAbs b.natAbs
  have hc : Nat.gcd u v = 1 := by
    have e : Nat.gcd a.natAbs b.natAbs * Nat.gcd u v = Nat.gcd a.natAbs b.natAbs * 1 := by
      rw [← Nat.gcd_mul_left, ← hu, ← hv, Nat.mul_one]
    exact Nat.eq_of_mul_eq_mul_left g0 e
  have hv0 : 0 < v := by
    rcases Nat.eq_zero_or_pos v with z | z
    · rw [z, Nat.mul_zero] at hv
      omega
    · exact z
  have gi : gq a b = ((Nat.gcd a.natAbs b.natAbs : Nat) : Int) := rfl
  generalize Nat.gcd a.natAbs b.natAbs = g at *
  have ua : (a.natAbs : Int) = (g : Int) * (u : Int) := by rw [hu]; simp
  have vb : (b.natAbs : Int) = (g : Int) * (v : Int) := by rw [hv]; simp
  unfold sg
  rw [gi]
  by_cases hb : b < 0
  · rw [if_pos hb]
    by_cases ha : a < 0
    · refine ⟨u, v, ?_, ?_, by omega, by simpa using hc⟩
      · rw [Int.neg_mul]; omega
      · rw [Int.neg_mul]; omega
    · refine ⟨-u, v, ?_, ?_, by omega, by simpa using hc⟩
      · rw [Int.neg_mul_neg]; omega
      · rw [Int.neg_mul]; omega
  · rw [if_neg hb]
    by_cases ha : a < 0
    · refine ⟨-u, v, ?_, ?_, by omega, by simpa using hc⟩
      · rw [Int.mul_neg]; omega
      · omega
    · refine ⟨u, v, by omega, by omega, by omega, by simpa using hc⟩
theorem low_eq {a b x y : Int} (h : b ≠ 0) (ha : a = sg a b * x) (hb : b = sg a b * y) : low a b = (x, y) := by
  have s := sg_ne (a := a) h
  unfold low
  generalize sg a b = g at *
  subst ha hb
  rw [Int.mul_fdiv_cancel_left _ s, Int.mul_fdiv_cancel_left _ s]
/-- p / q in lowest terms -/
structure Lw (p q : Int) : Prop where
  pos : 0 < q
  cop : Nat.gcd p.natAbs q.natAbs = 1
theorem low_spec {a b : Int} (h : b ≠ 0) : Lw (low a b).1 (low a b).2 ∧ (low a b).1 * b = a * (low a b).2 ∧ (low a b).1.natAbs ≤ a.natAbs ∧ (low a b).2.natAbs ≤ b.natAbs := by
  obtain ⟨x, y, ha, hb, y0, hc⟩ := sg_parts (a := a) h
  have s := sg_ne (a := a) h
  rw [low_eq h ha hb]
  refine ⟨⟨y0, hc⟩, ?_, ?_, ?_⟩
  · show x * b = a * y
    rw [hb]
    conv => rhs; rw [ha]
    rw [Int.mul_left_comm, Int.mul_assoc]
  · show x.natAbs ≤ a.natAbs
    conv => rhs; rw [ha]
    rw [Int.natAbs_mul]
    exact Nat.le_mul_of_pos_left _ (by omega)
  · show y.natAbs ≤ b.natAbs
    conv => rhs; rw [hb]
    rw [Int.natAbs_mul]
    exact Nat.le_mul_of_pos_left _ (by omega)
theorem Lw.eq {p q r s : Int} (h : Lw p q) (k : Lw r s) (e : p * s = r * q) : p = r ∧ q = s := by
  have e2 : p.natAbs * s.natAbs = r.natAbs * q.natAbs := by rw [← Int.natAbs_mul, ← Int.natAbs_mul, e]
  have d1 : q.natAbs ∣ s.natAbs := Nat.Coprime.dvd_of_dvd_mul_left (Nat.Coprime.symm h.cop) ⟨r.natAbs, by rw [e2, Nat.mul_comm]⟩
  have d2 : s.natAbs ∣ q.natAbs := Nat.Coprime.dvd_of_dvd_mul_left (Nat.Coprime.symm k.cop) ⟨p.natAbs, by rw [← e2, Nat.mul_comm]⟩
  have e3 : q.natAbs = s.natAbs := Nat.dvd_antisymm d1 d2
  have hp := h.pos
  have kp := k.pos
  have e4 : q = s := by omega
  subst e4
  exact ⟨Int.eq_of_mul_eq_mul_right (by omega) e, rfl⟩
theorem low_of {a b p q : Int} (h : b ≠ 0) (k : Lw p q) (e : p * b = a * q) : low a b = (p, q) := by
  obtain ⟨l, m, _, _⟩ := low_spec (a := a) h
  have hb : (low a b).1 * q = p * (low a b).2 := by
    have z : ((low a b).1 * q - p * (low a b).2) * b = 0 := by grind
    rcases Int.mul_eq_zero.mp z with z | z
    · omega
    · exact absurd z h
  obtain ⟨e1, e2⟩ := l.eq k hb
  exact Prod.ext e1 e2
theorem low_low {a b : Int} (h : Lw a b) : low a b = (a, b) := low_of (by have := h.pos; omega) h rfl
theorem low_neg {a b : Int} (h : b ≠ 0) : low (-a) (-b) = low a b := by
  obtain ⟨l, m, _, _⟩ := low_spec (a := a) h
  refine low_of (by omega) l ?_
  show (low a b).1 * -b = -a * (low a b).2
  rw [Int.mul_neg, Int.neg_mul, m]
/-- (x + y) - y = x -/
theorem low_minus {a b c d p q : Int} (h : Lw a b) (hd : 0 < d) (e : low (a * d + c * b) (b * d) = (p, q)) : low (p * d - c * q) (q * d) = (a, b) := by
  have hb := h.pos
  have hbd : b * d ≠ 0 := Int.ne_of_gt (Int.mul_pos hb hd)
  obtain ⟨l, m, _, _⟩ := low_spec (a := a * d + c * b) hbd
  rw [e] at l m
  have hq := l.pos
  refine low_of (Int.ne_of_gt (Int.mul_pos hq hd)) h ?_
  have m' : p * (b * d) = (a * d + c * b) * q := m
  have z : (a * (q * d) - (p * d - c * q) * b) * d = 0 := by grind
  rcases Int.mul_eq_zero.mp z with z | z
  · omega
  · omega
/-- (x / y) * y = x -/
theorem low_times {a b c d p q : Int} (h : Lw a b) (hd : 0 < d) (hc : c ≠ 0) (e : low (a * d) (b * c) = (p, q)) : low (p * c) (q * d) = (a, b) := by
  have hb := h.pos
  have hbd : b * c ≠ 0 := Int.mul_ne_zero (by omega) hc
  obtain ⟨l, m, _, _⟩ := low_spec (a := a * d) hbd
  rw [e] at l m
  have hq := l.pos
  refine low_of (Int.ne_of_gt (Int.mul_pos hq hd)) h ?_
  have m' : p * (b * c) = (a * d) * q := m
  grind
theorem not_low2 {a b : Int} : Nat.gcd (2 * a).natAbs (2 * b).natAbs ≠ 1 := by
  rw [Int.natAbs_mul, Int.natAbs_mul, Nat.gcd_mul_left]
  intro z
  have e : Int.natAbs 2 = 2 := rfl
  rw [e] at z
  omega
/-! ### fractions: what each def promises -/
/-- at v stands a / b, b above 0, both below 2 ^ n -/
def Fr (K : PySem.W.Frag) (H : Hp) (p : Addr) (a b : Int) (n : Nat) : Prop := SqT K H p [.int a, .int b] ∧ 0 < b ∧ a.natAbs < 2 ^ n ∧ b.natAbs < 2 ^ n ∧ 0 < n
def newF (H : Hp) (Q : VK) (z : Int × Int) : Prop := ∀ r, H r = none → Q (.ref r) (upd H r (.tup [.int z.1, .int z.2]))
def sp_lowest : Sp := fun vs H Q _ => ∃ (a b : Int) (n : Nat), vs = [.int a, .int b] ∧ b ≠ 0 ∧ b.natAbs < 2 ^ n ∧ 0 < n ∧ n ≤ 9000 ∧ newF H Q (low a b)
def sp_arith (K : PySem.W.Frag) (f : Int → Int → Int → Int → Int × Int) : Sp := fun vs H Q _ => ∃ (p q : Addr) (a b c d : Int) (m n : Nat), vs = [.ref p, .ref q] ∧ Fr K H p a b m ∧ Fr K H q c d n ∧ m + n ≤ 4000 ∧ newF H Q (f a b c d)
def fPlus (a b c d : Int) : Int × Int := low (a * d + c * b) (b * d)
def fMinus (a b c d : Int) : Int × Int := low (a * d - c * b) (b * d)
def fTimes (a b c d : Int) : Int × Int := low (a * c) (b * d)
def fOver (a b c d : Int) : Int × Int := low (a * d) (b * c)
def sp_over (K : PySem.W.Frag) : Sp := fun vs H Q _ => ∃ (p q : Addr) (a b c d : Int) (m n : Nat), vs = [.ref p, .ref q] ∧ Fr K H p a b m ∧ Fr K H q c d n ∧ m + n ≤ 4000 ∧ c ≠ 0 ∧ newF H Q (fOver a b c d)
def sp_less (K : PySem.W.Frag) : Sp := fun vs H Q _ => ∃ (p q : Addr) (a b c d : Int) (m n : Nat), vs = [.ref p, .ref q] ∧ Fr K H p a b m ∧ Fr K H q c d n ∧ m + n ≤ 4000 ∧ Q (.bl (decide (a * d < c * b))) H
theorem two_add_le {x y n : Nat} (hx : x < 2 ^ n) (hy : y < 2 ^ n) : x + y < 2 ^ (n + 1) := by
  rw [Nat.pow_succ]
  omega
theorem mulW {i j : Int} {m n : Nat} (hi : i.natAbs < 2 ^ m) (hj : j.natAbs < 2 ^ n) (h0 : 0 < m) (h1 : 0 < n) (h : m + n ≤ 4000) : CMulW i j := wide_mul hi hj h0 h1 (by omega)
theorem add_lt {i j : Int} {n : Nat} (hi : i.natAbs < 2 ^ n) (hj : j.natAbs < 2 ^ n) : (i + j).natAbs < 2 ^ (n + 1) := Nat.lt_of_le_of_lt (Int.natAbs_add_le i j) (two_add_le hi hj)
theorem sub_lt {i j : Int} {n : Nat} (hi : i.natAbs < 2 ^ n) (hj : j.natAbs < 2 ^ n) : (i - j).natAbs < 2 ^ (n + 1) := Nat.lt_of_le_of_lt (Int.natAbs_sub_le i j) (two_add_le hi hj)
theorem pow_le {x m n : Nat} (h : x < 2 ^ m) (k : m ≤ n) : x < 2 ^ n := Nat.lt_of_lt_of_le h (Nat.pow_le_pow_right (by decide) k)
theorem Fr.mul_pos {K : PySem.W.Frag} {H : Hp} {p q : Addr} {a b c d : Int} {m n : Nat} (h : Fr K H p a b m) (k : Fr K H q c d n) : 0 < b * d := Int.mul_pos h.2.1 k.2.1

theorem ok_lowest (T : Txt K mg) : FnOk P w K mg base CX0 1 T.a_lowest T.d_lowest ["above", "below"] sp_lowest := by
  refine T.F_lowest.ok sc_lowest (fun vs H Q E h => ?_) (fun cdv A outer s H vs Q E hr h => ?_)
  · obtain ⟨a, b, n, rfl, _⟩ := h
    rfl
  obtain ⟨a, b, n, rfl, b0, hn, n0, n9, k⟩ := h
  refine ⟨_, (pss_cons (ps_set (i := 2) sc_lowest.nd rfl (by first | exact Or.inl rfl | exact Or.inr rfl) (pe_callBfun cr_gcd (by rfl) T.m_gcd (pa_cons (pv 0) (pa_cons (pv 1) pa_nil))))
    (pss_cons (ps_if (pt_cmpR op_lt (pv 1) pe_int (nomark _)) (pss_one (ps_set (i := 2) sc_lowest.nd rfl (by first | exact Or.inl rfl | exact Or.inr rfl) (pe_un un_neg (pv 2)))) pss_nil)
    (pss_one (ps_ret (pe_tup (pa_cons (pe_op op_fdivA (pv 0) (pv 2)) (pa_cons (pe_op op_fdivA (pv 1) (pv 2)) pa_nil))))))), ?_⟩
  have hs : CDivA a (sg a b) := ⟨sg_ne b0, Nat.lt_of_lt_of_le (PySem.Flt.log2_lt_of n0 (Nat.lt_of_le_of_lt (sg_le b0) hn)) n9⟩
  have tail : ∀ σ' : L2.St, σ' = [some (.int a), some (.int b), some (.int (sg a b))] → newF H Q (low a b) → True := fun _ _ _ => trivial
  refine seq_cut (fun σ' H' => σ' = [some (.int a), some (.int b), some (.int (gq a b))] ∧ H' = H) ?_ (fun tail => ?_)
  rotate_left
  · exact ⟨_, rfl, _, rfl, a, b, rfl, tail _ _ ⟨rfl, rfl⟩⟩
  rintro σ' H' ⟨rfl, rfl⟩
  refine seq_cut (fun σ' H'' => σ' = [some (.int a), some (.int b), some (.int (sg a b))] ∧ H'' = H') ?_ (fun tail => ?_)
  rotate_left
  · refine ⟨_, rfl, _, _, rfl, rfl, _, rfl, ?_⟩
    refine ite2 (fun c => ?_) (fun c => ?_)
    · have c' : b < 0 := of_decide_eq_true c
      exact ⟨_, rfl, _, rfl, tail _ _ ⟨by unfold sg; rw [if_pos c']; rfl, rfl⟩⟩
    · have c' : ¬ b < 0 := of_decide_eq_false (Bool.eq_false_iff.mpr c)
      exact tail _ _ ⟨by unfold sg; rw [if_neg c'], rfl⟩
  rintro σ' H'' ⟨rfl, rfl⟩
  exact ⟨_, rfl, _, rfl, _, _, rfl, rfl, hs, _, rfl, _, rfl, _, _, rfl, rfl, hs, (by show 2 ≤ sizeLine; decide), fun r hr' => k r hr'⟩
theorem ok_minus (T : Txt K mg) : FnOk P w K mg base CX0 2 T.a_minus T.d_minus ["one", "other"] (sp_arith K fMinus) := by
  have G_lowest := ok_lowest (P := P) (w := w) (base := base) T
  refine T.F_minus.ok sc_minus (fun vs H Q E h => ?_) (fun cdv A outer s H vs Q E hr h => ?_)
  · obtain ⟨p, q, a, b, c, d, m, n, rfl, _⟩ := h
    rfl
  obtain ⟨p, q, a, b, c, d, m, n, rfl, hp, hq, hmn, k⟩ := h
  refine ⟨_, (pss_one (ps_ret (pe_call G_lowest (hr.mono (by first | decide | omega)) (by rfl) T.m_lowest T.F_lowest.kp T.b_lowest .nil pass0 (pa_cons (pe_op op_sub (pe_op op_mulW (pe_ix ix_tup (pv 0) pe_int (fun _ _ => rfl)) (pe_ix ix_tup (pv 1) pe_int (fun _ _ => rfl))) (pe_op op_mulW (pe_ix ix_tup (pv 1) pe_int (fun _ _ => rfl)) (pe_ix ix_tup (pv 0) pe_int (fun _ _ => rfl)))) (pa_cons (pe_op op_mulW (pe_ix ix_tup (pv 0) pe_int (fun _ _ => rfl)) (pe_ix ix_tup (pv 1) pe_int (fun _ _ => rfl))) pa_nil))))), ?_⟩
  have bd := hp.mul_pos hq
  obtain ⟨tp, b0, a1, b1, m0⟩ := hp
  obtain ⟨tq, d0, c1, d1, n0⟩ := hq
  refine ⟨_, rfl, p, _, _, _, rfl, rfl, tp, at_of (j := 0) rfl rfl, _, rfl, q, _, _, _, rfl, rfl, tq, at_of (j := 1) rfl rfl, _, _, rfl, rfl, mulW a1 d1 m0 n0 hmn, ?_⟩
  refine ⟨_, rfl, q, _, _, _, rfl, rfl, tq, at_of (j := 0) rfl rfl, _, rfl, p, _, _, _, rfl, rfl, tp, at_of (j := 1) rfl rfl, _, _, rfl, rfl, mulW c1 b1 n0 m0 (by omega), _, _, rfl, rfl, ?_⟩
  refine ⟨_, rfl, p, _, _, _, rfl, rfl, tp, at_of (j := 1) rfl rfl, _, rfl, q, _, _, _, rfl, rfl, tq, at_of (j := 1) rfl rfl, _, _, rfl, rfl, mulW b1 d1 m0 n0 hmn, ?_⟩
  exact ⟨_, _, m + n, rfl, by omega, wide_lt b1 d1, by omega, by omega, k⟩

/-! ### the law's own lowest terms -/
def WLow (a b : Int) (H0 : Hp) (n : Nat) (σ : L2.St) (H : Hp) : Prop := ∃ x : Nat, σ = [some (.int a), some (.int b), some (.int (x : Int)), some (.int (n : Int))] ∧ H = H0 ∧ Nat.gcd x n = Nat.gcd a.natAbs b.natAbs
def sp_llow : Sp := fun vs H Q _ => ∃ (a b : Int) (n : Nat), vs = [.int a, .int b] ∧ 0 < b ∧ a.natAbs < 2 ^ n ∧ b.natAbs < 2 ^ n ∧ 0 < n ∧ n ≤ 1000 ∧ newF H Q (low a b)
theorem ok__law_low (T : Txt K mg) : FnOk P w K mg base CX0 1 T.a__law_low T.d__law_low ["above", "below"] sp_llow := by
  refine T.F__law_low.ok sc__law_low (fun vs H Q E h => ?_) (fun cdv A outer s H vs Q E hr h => ?_)
  · obtain ⟨a, b, n, rfl, _⟩ := h
    rfl
  obtain ⟨a, b, n, rfl, b0, ha, hb, n0, n9, k⟩ := h
  refine ⟨_, (pss_cons (ps_par (i := 2) (j := 3) rfl sc__law_low.nd rfl rfl (by decide) rfl rfl (pa_cons (pe_callB call_abs (by rfl) T.z_abs (by decide +kernel) (pa_cons (pv 0) pa_nil)) (pa_cons (pv 1) pa_nil)) (by rfl))
    (pss_cons (ps_while PassesOwn.never (pt_cmpR op_ne (pv 3) pe_int (nomark _)) (pss_one (ps_par (i := 2) (j := 3) rfl sc__law_low.nd rfl rfl (by decide) rfl rfl (pa_cons (pv 3) (pa_cons (pe_op op_mod (pv 2) (pv 3)) pa_nil)) (by rfl))))
    (pss_one (ps_ret (pe_tup (pa_cons (pe_op op_fdivA (pv 0) (pv 2)) (pa_cons (pe_op op_fdivA (pv 1) (pv 2)) pa_nil))))))), ?_⟩
  have abs_ : ∀ z : Int, (if z < 0 then -z else z) = ((z.natAbs : Nat) : Int) := fun z => by split <;> omega
  have e0 : sg a b = gq a b := by unfold sg; rw [if_neg (by omega)]
  have hd : CDivA a (gq a b) := by
    rw [← e0]
    exact ⟨sg_ne (by omega), Nat.lt_of_lt_of_le (PySem.Flt.log2_lt_of n0 (Nat.lt_of_le_of_lt (sg_le (by omega)) hb)) (by omega)⟩
  have eb : b = ((b.natAbs : Nat) : Int) := by omega
  refine seq_cut (fun σ' H' => WLow a b H b.natAbs σ' H') ?_ (fun tail => ?_)
  rotate_left
  · refine ⟨_, rfl, _, rfl, _, rfl, _, _, rfl, tail _ _ ⟨a.natAbs, ?_, rfl, rfl⟩⟩
    rw [abs_ a, ← eb]
    rfl
  intro σ' H' w0
  refine ⟨WLow a b H, ⟨_, w0⟩, ?_⟩
  rintro m σ'' H'' ⟨x, rfl, rfl, e⟩
  refine ⟨_, rfl, rfl, _, rfl, ?_⟩
  refine ite2 (fun c => ?_) (fun c => ?_)
  · have m0 : m ≠ 0 := fun z => by
      subst z
      exact absurd c (by decide)
    refine ⟨fun σ' H' => ∃ m', m' < m ∧ WLow a b H'' m' σ' H', fun _ _ h => h, ?_⟩
    refine ⟨_, rfl, _, rfl, _, rfl, _, _, rfl, rfl, (show (0 : Int) < (m : Int) by omega), _, _, rfl, x % m, Nat.mod_lt _ (by omega), m, ?_, rfl, ?_⟩
    · rw [Int.natCast_emod]
      rfl
    · rw [← e, Nat.gcd_comm m, ← Nat.gcd_rec, Nat.gcd_comm]
  · have m0 : m = 0 := by
      have c' := Bool.eq_false_iff.mpr c
      have z : V.int (m : Int) = V.int 0 := of_decide_eq_true (by simpa using c')
      injection z with z
      omega
    subst m0
    have ex : (x : Int) = gq a b := by
      rw [Nat.gcd_zero_right] at e
      rw [e]
      rfl
    rw [ex]
    refine ⟨_, rfl, _, rfl, _, _, rfl, rfl, hd, _, rfl, _, rfl, _, _, rfl, rfl, hd, (by show 2 ≤ sizeLine; decide), fun r hr' => ?_⟩
    have q := k r hr'
    unfold low at q
    rw [e0] at q
    exact q

end
end My
set_option Elab.async false
set_option linter.all false
set_option maxRecDepth 100000
set_option maxHeartbeats 400000
namespace My
open PySem L2 PySem.Spec PyProof.Rows
section
variable {P : Program} {w : World} {K : PySem.W.Frag} {mg : Str → Option Value} {base : Heap}
section
variable {hs : List Str} {as : List (Str × Bool)}
theorem fm_head {n : Nat} {d : PyData} (h : Fm hs as n d) : ∃ s r, d = .tuple (.str s :: r) ∧ (isS (.str s) "not" = true → r.length = 1) ∧ ((isS (.str s) "and" || isS (.str s) "or") = true → ∃ ks, r = [.tuple ks]) := by
  cases h with
  | leaf h =>
    obtain ⟨s, r, rfl, h1, h2, h3⟩ := leaf_hd h
    refine ⟨s, r, rfl, fun z => absurd (of_decide_eq_true z) h1, fun z => ?_⟩
    rcases Bool.or_eq_true_iff.mp z with z | z
    · exact absurd (of_decide_eq_true z) h2
    · exact absurd (of_decide_eq_true z) h3
  | not _ => exact ⟨_, _, rfl, fun _ => rfl, fun z => absurd z (by decide +kernel)⟩
  | kids hs _ _ _ => exact ⟨_, _, rfl, fun z => absurd z (by rcases hs with e | e <;> subst e <;> decide +kernel), fun _ => ⟨_, rfl⟩⟩
theorem forms_pos {n : Nat} {d : PyData} (h : Fm hs as n d) : 1 ≤ (forms n d).length := by
  cases h <;> exact Nat.succ_le_succ (Nat.zero_le _)
theorem stack_len {n : Nat} : ∀ l : List PyData, (∀ d ∈ l, Fm hs as n d) → l.length ≤ (l.flatMap (forms n)).length
  | [], _ => Nat.le_refl _
  | d :: r, h => by
    have a := forms_pos (h d (.head _))
    have b := stack_len r fun e m => h e (.tail _ m)
    rw [List.flatMap_cons, List.length_append, List.length_cons]
    omega
theorem fm_step {d : PyData} (h : Fm hs as 4 d) : (∀ e ∈ kidsD d, Fm hs as 4 e) ∧ forms 4 d = d :: (kidsD d).flatMap (forms 4) := by
  have k := fm_kids h
  refine ⟨fun e m => fm_up (k e m), ?_⟩
  show d :: (kidsD d).flatMap (forms 3) = _
  rw [flat_congr fun e m => (forms_up 3 (k e m)).symm]
end
/-- good names -/
structure NmOk (hs : List Str) (as : List (Str × Bool)) : Prop where
  h : ∀ n ∈ hs, PyData.canLay0 (.str n) = true
  a : ∀ p ∈ as, PyData.canLay0 (.str p.1) = true
  nd : (as.map Prod.fst).Nodup
/-- plans: formulas, at l -/
def PlansAt (K : PySem.W.Frag) (hs : List Str) (as : List (Str × Bool)) (H : Hp) (l : Addr) (ds : List PyData) : Prop := ∃ vs, SqL K H l vs ∧ DpAll K H vs ds ∧ (∀ d ∈ ds, Fm hs as 4 d) ∧ ds.length ≤ 3 ∧ (ds.flatMap (forms 4)).length ≤ 900 ∧ (ds.flatMap (lv 4)).length ≤ 57 ∧ NmOk hs as
theorem PlansAt.same {K : PySem.W.Frag} {hs : List Str} {as : List (Str × Bool)} {H H' : Hp} {l : Addr} {ds : List PyData} (h : PlansAt K hs as H l ds) (g : Same H H') : PlansAt K hs as H' l ds := by
  obtain ⟨vs, h1, h2, h3⟩ := h
  exact ⟨vs, g.seq h1, dps_same g _ _ h2, h3⟩
def sp_forms (K : PySem.W.Frag) : Sp := fun vs H Q _ => ∃ (l : Addr) (hs : List Str) (as : List (Str × Bool)) (ds : List PyData), vs = [.ref l] ∧ PlansAt K hs as H l ds ∧ ∀ q ws H', Same H H' → H q = none → H' q = some (.lst ws) → DpAll K H ws (ds.flatMap (forms 4)) → Q (.ref q) H'
def WFin (K : PySem.W.Frag) (hs : List Str) (as : List (Str × Bool)) (l : Addr) (ds : List PyData) (H0 : Hp) (n : Nat) (σ : L2.St) (H : Hp) : Prop := ∃ (f w : Addr) (fs us : List V) (done st : List PyData) (x : Option V),
  σ = [some (.ref l), some (.ref f), some (.ref w), x] ∧ Same H0 H ∧ H0 f = none ∧ H0 w = none ∧ f ≠ w ∧ H f = some (.lst fs) ∧ H w = some (.lst us.reverse) ∧ DpAll K H0 fs done ∧ DpAll K H0 us st ∧ (∀ d ∈ st, Fm hs as 4 d) ∧ done ++ st.flatMap (forms 4) = ds.flatMap (forms 4) ∧ n = (st.flatMap (forms 4)).length
theorem dps_revs {K : PySem.W.Frag} {H : Hp} : ∀ {vs : List V} {ds : List PyData}, DpAll K H vs ds → DpAll K H vs.reverse ds.reverse
  | _, _, .nil => .nil
  | _, _, .cons a r => by
    rw [List.reverse_cons, List.reverse_cons]
    exact dps_app (dps_revs r) (.cons a .nil)
theorem ok_formulas_in (T : Txt K mg) : FnOk P w K mg base CX0 2 T.a_formulas_in T.d_formulas_in ["plans"] (sp_forms K) := by
  have G_within := ok_within (P := P) (w := w) (base := base) T
  refine T.F_formulas_in.ok sc_formulas_in (fun vs H Q E h => ?_) (fun cdv A outer s H0 vs Q E hr h => ?_)
  · obtain ⟨l, hs, as, ds, rfl, _⟩ := h
    rfl
  obtain ⟨l, hs, as, ds, rfl, ⟨vs, hl, hv, fm, l3, few, _⟩, k⟩ := h
  refine ⟨_, (pss_cons (ps_set (i := 1) sc_formulas_in.nd rfl (by first | exact Or.inl rfl | exact Or.inr rfl) (pe_lst pa_nil))
    (pss_cons (ps_set (i := 2) sc_formulas_in.nd rfl (by first | exact Or.inl rfl | exact Or.inr rfl) (pe_revL (pe_callTy call_list_of (by rfl) T.z_list (by decide +kernel) (pa_cons (pv 0) pa_nil))))
    (pss_cons (ps_while PassesOwn.never (pt_truth (pv 2) (by intro _; rfl)) (pss_cons (ps_set (i := 3) sc_formulas_in.nd rfl (by first | exact Or.inl rfl | exact Or.inr rfl) (pe_bm0 PySem.F.plainAttrs_list PySem.F.slot_list_pop PySem.F.type_list_pop mt_pop (pv 2)))
    (pss_cons (ps_expr (pe_bm PySem.F.plainAttrs_list PySem.F.slot_list_append PySem.F.type_list_append mt_append (pv 1) (pa_cons (pv 3) pa_nil)))
    (pss_one (ps_expr (pe_bm PySem.F.plainAttrs_list PySem.F.slot_list_extend PySem.F.type_list_extend mt_extendT (pv 2) (pa_cons (pe_revT (pe_call G_within (hr.mono (by first | decide | omega)) (by rfl) T.m_within T.F_within.kp T.b_within .nil pass0 (pa_cons (pv 3) pa_nil))) pa_nil)))))))
    (pss_one (ps_ret (pv 1)))))), ?_⟩
  refine ⟨(by show 0 ≤ sizeLine; decide), fun f hf => ?_⟩
  have g1 := same_new hf (.lst [])
  refine ⟨_, rfl, l, _, rfl, .inl (g1.seq hl), fun c hc => ⟨c, vs, rfl, SqL.of upd_same, fun w hw => ?_⟩⟩
  have g2 := g1.trans (same_new hc (.lst vs))
  have g3 := g2.trans (same_new hw (.lst vs.reverse))
  have ef : upd (upd (upd H0 f (.lst [])) c (.lst vs)) w (.lst vs.reverse) f = some (.lst []) := same_new hw _ _ _ (same_new hc _ _ _ upd_same)
  have nfw : f ≠ w := ne_of_none (same_new hc _ _ _ (upd_same (H := H0) (a := f) (o := .lst []))) hw
  refine ⟨WFin K hs as l ds H0, ⟨_, f, w, [], vs, [], ds, none, rfl, g3, hf, g2.free hw, nfw, ef, upd_same, .nil, hv, fm, rfl, rfl⟩, ?_⟩
  rintro n σ H ⟨f, w, fs, us, done, st, x, rfl, g, nf, nw, nfw, ef, ew, df, du, fst, tot, en⟩
  have lt := congrArg List.length tot
  rw [List.length_append] at lt
  have ls := stack_len st fst
  have lf := dps_len df
  have lu := dps_len du
  refine ⟨_, rfl, _, .inl ⟨us.reverse, SqL.of ew, rfl⟩, ?_⟩
  cases du with
  | nil => exact iteF ⟨_, rfl, k f fs H g nf ef (by rw [← tot]; simpa using df)⟩
  | @cons u us d st hd du =>
  have emp : (!((u :: us).reverse).isEmpty) = true := by simp
  rw [emp]
  refine iteT ⟨fun σ' H' => ∃ m', m' < n ∧ WFin K hs as l ds H0 m' σ' H', fun _ _ h => h, ?_⟩
  rw [List.reverse_cons] at ew
  have fd := fst d (.head _)
  obtain ⟨kfm, ek⟩ := fm_step fd
  refine ⟨_, rfl, .inl ⟨rfl, _, SqL.of ew⟩, w, _, _, rfl, rfl, ew, last_of, ?_⟩
  rw [List.dropLast_concat]
  have g1 := same_upd (o := .lst us.reverse) g nw
  have ef1 : upd H w (.lst us.reverse) f = some (.lst fs) := by rw [upd_ne nfw]; exact ef
  have ew1 : upd H w (.lst us.reverse) w = some (.lst us.reverse) := upd_same
  generalize upd H w (.lst us.reverse) = H1 at *
  refine ⟨_, rfl, .inl ⟨rfl, _, SqL.of ef1⟩, _, rfl, f, _, _, rfl, rfl, ef1, ?_, ?_⟩
  · exact Nat.lt_of_lt_of_le (show fs.length < 1000 by rw [lf]; simp only [List.length_cons] at ls; omega) (by decide)
  have g2 := same_upd (o := .lst (fs ++ [u])) g1 nf
  have ef2 : upd H1 f (.lst (fs ++ [u])) f = some (.lst (fs ++ [u])) := upd_same
  have ew2 : upd H1 f (.lst (fs ++ [u])) w = some (.lst us.reverse) := by rw [upd_ne (Ne.symm nfw)]; exact ew1
  generalize upd H1 f (.lst (fs ++ [u])) = H2 at *
  obtain ⟨s, r, rfl, n1, n2⟩ := fm_head fd
  refine ⟨_, rfl, .inl ⟨rfl, _, SqL.of ew2⟩, _, rfl, H0, u, .str s, r, rfl, g2, hd, rfl, n1, n2, fun q ys H3 g3 hq dk => ⟨q, ys, rfl, hq, fun p hp => ?_⟩⟩
  have g4 := g3.trans (same_new hp (.tup ys.reverse))
  have ew4 := g4 _ _ ew2
  have ef4 := g4 _ _ ef2
  have lk := dps_len dk
  have few2 := stack_len _ kfm
  rw [List.flatMap_cons, ek, List.length_append, List.length_cons] at lt
  refine ⟨w, p, _, _, rfl, rfl, ew4, SqT.of upd_same, ?_, ?_⟩
  · rw [List.length_reverse, List.length_reverse, lk]
    simp only [List.length_cons] at ls lu
    refine Nat.le_of_lt (Nat.lt_of_lt_of_le (show us.length + _ < 2000 from ?_) (by decide))
    have := stack_len st fun e m => fst e (.tail _ m)
    omega
  refine ⟨_, ?_, f, w, fs ++ [u], ys ++ us, done ++ [_], kidsD _ ++ st, some u, rfl, ?_, nf, nw, nfw, ?_, ?_, dps_app df (.cons hd .nil), dps_app dk du, ?_, ?_, rfl⟩
  · rw [en, List.flatMap_append, List.flatMap_cons, ek, List.length_append, List.length_append, List.length_cons]
    omega
  · exact same_upd (g2.trans g4) nw
  · rw [upd_ne nfw]
    exact ef4
  · rw [upd_same, List.reverse_append]
  · intro e m
    rcases List.mem_append.mp m with m | m
    · exact kfm e m
    · exact fst e (.tail _ m)
  · rw [← tot, List.flatMap_append, List.flatMap_cons, ek]
    simp

end
end My
set_option Elab.async false
set_option linter.all false
set_option maxRecDepth 100000
set_option maxHeartbeats 400000
namespace My
open PySem L2 PySem.Spec PyProof.Rows
section
variable {P : Program} {w : World} {K : PySem.W.Frag} {mg : Str → Option Value} {base : Heap}
/-! ### thresholds: what is drawn, in order -/
def U7 : List (Int × Int) := [(0, 1), (1, 4), (1, 3), (1, 2), (2, 3), (997, 1000), (1, 1)]
def cutsD (zs : List (Int × Int)) : List (Int × Int) := U7.filter fun u => decide (u ∈ zs)
theorem chance_U : ∀ p, p ∈ chanceL → p ∈ U7 := by decide
theorem U7_ok : ∀ z, z ∈ U7 → 0 ≤ z.1 ∧ z.1 ≤ z.2 ∧ 0 < z.2 ∧ z.2 ≤ 1000 ∧ z.2.toNat ∣ 3000 ∧ z.1 ≤ 997 := by decide
theorem U7_up : U7.Pairwise fun z w => z.1 * w.2 < w.1 * z.2 := by decide
theorem mem_cuts {zs : List (Int × Int)} {z : Int × Int} (hz : ∀ z ∈ zs, z ∈ U7) : z ∈ cutsD zs ↔ z ∈ zs := by
  unfold cutsD
  rw [List.mem_filter, decide_eq_true_eq]
  exact ⟨fun h => h.2, fun h => ⟨hz z h, h⟩⟩
/-- the common denominator -/
def lcmL (zs : List (Int × Int)) : Nat := zs.foldl (fun l z => Nat.lcm l z.2.toNat) 1
theorem lcm_fold : ∀ (zs : List (Int × Int)) (l : Nat), (∀ z ∈ zs, z ∈ U7) → l ∣ 3000 → l ∣ zs.foldl (fun l z => Nat.lcm l z.2.toNat) l ∧ zs.foldl (fun l z => Nat.lcm l z.2.toNat) l ∣ 3000 ∧ ∀ z ∈ zs, z.2.toNat ∣ zs.foldl (fun l z => Nat.lcm l z.2.toNat) l
  | [], l, _, h => ⟨Nat.dvd_refl _, h, fun z m => by cases m⟩
  | z :: r, l, hz, h => by
    obtain ⟨a, b, c⟩ := lcm_fold r (Nat.lcm l z.2.toNat) (fun y m => hz y (.tail _ m)) (Nat.lcm_dvd h (U7_ok z (hz z (.head _))).2.2.2.2.1)
    refine ⟨Nat.dvd_trans (Nat.dvd_lcm_left _ _) a, b, fun y m => ?_⟩
    rcases List.mem_cons.mp m with rfl | m
    · exact Nat.dvd_trans (Nat.dvd_lcm_right _ _) a
    · exact c y m
theorem lcmL_ok {zs : List (Int × Int)} (hz : ∀ z ∈ zs, z ∈ U7) : lcmL zs ∣ 3000 ∧ 0 < lcmL zs ∧ lcmL zs ≤ 3000 ∧ ∀ z ∈ zs, z.2.toNat ∣ lcmL zs := by
  obtain ⟨_, b, c⟩ := lcm_fold zs 1 hz (Nat.one_dvd _)
  exact ⟨b, Nat.pos_of_dvd_of_pos b (by decide), Nat.le_of_dvd (by decide) b, c⟩
def vl (l : Nat) (z : Int × Int) : Int := z.1 * ((l : Int) / z.2)
theorem vl_lt {l : Nat} {z w : Int × Int} (hz : z ∈ U7) (hw : w ∈ U7) (l0 : 0 < l) (dz : z.2.toNat ∣ l) (dw : w.2.toNat ∣ l) (h : z.1 * w.2 < w.1 * z.2) : vl l z < vl l w := by
  have z0 := (U7_ok z hz).2.2.1
  have w0 := (U7_ok w hw).2.2.1
  have ez : (l : Int) = z.2 * ((l : Int) / z.2) := by
    have d : z.2 ∣ (l : Int) := by
      obtain ⟨k, e⟩ := dz
      exact ⟨k, by rw [e, Int.natCast_mul, Int.toNat_of_nonneg (by omega)]⟩
    exact (Int.mul_ediv_cancel' d).symm
  have ew : (l : Int) = w.2 * ((l : Int) / w.2) := by
    have d : w.2 ∣ (l : Int) := by
      obtain ⟨k, e⟩ := dw
      exact ⟨k, by rw [e, Int.natCast_mul, Int.toNat_of_nonneg (by omega)]⟩
    exact (Int.mul_ediv_cancel' d).symm
  unfold vl
  generalize (l : Int) / z.2 = q at *
  generalize (l : Int) / w.2 = r at *
  have lp : (0 : Int) < (l : Int) := by omega
  have a : (z.1 * w.2) * (l : Int) < (w.1 * z.2) * (l : Int) := Int.mul_lt_mul_of_pos_right h lp
  have b : (z.1 * q) * (z.2 * w.2) < (w.1 * r) * (z.2 * w.2) := by
    have e1 : (z.1 * q) * (z.2 * w.2) = (z.1 * w.2) * (l : Int) := by rw [ez]; grind
    have e2 : (w.1 * r) * (z.2 * w.2) = (w.1 * z.2) * (l : Int) := by rw [ew]; grind
    rw [e1, e2]
    exact a
  exact Int.lt_of_mul_lt_mul_right b (Int.le_of_lt (Int.mul_pos z0 w0))
/-- sorted lists of ints of the same members are one -/
theorem sorted_one {l m : List Int} (nl : l.Nodup) (sl : l.Pairwise (· ≤ ·)) (sm : m.Pairwise (· < ·)) (h : ∀ x, x ∈ l ↔ x ∈ m) : l = m := by
  have nm : m.Nodup := sm.imp fun h => by omega
  refine List.Perm.eq_of_pairwise (le := fun a b : Int => a ≤ b) (fun a b _ _ h1 h2 => by omega) sl (sm.imp fun h => by omega) ((List.perm_ext_iff_of_nodup nl nm).mpr h)
theorem cuts_up {l : Nat} {zs : List (Int × Int)} (l0 : 0 < l) (hz : ∀ z ∈ zs, z ∈ U7) (hd : ∀ z ∈ zs, z.2.toNat ∣ l) : ((cutsD zs).map (vl l)).Pairwise (· < ·) := by
  refine List.pairwise_map.mpr (List.Pairwise.imp_of_mem (fun {z w} mz mw h => ?_) (U7_up.filter _))
  exact vl_lt (List.mem_filter.mp mz).1 (List.mem_filter.mp mw).1 l0 (hd z ((mem_cuts hz).mp mz)) (hd w ((mem_cuts hz).mp mw)) h
theorem vl_inj {l : Nat} {zs : List (Int × Int)} (l0 : 0 < l) (hz : ∀ z ∈ zs, z ∈ U7) (hd : ∀ z ∈ zs, z.2.toNat ∣ l) {z w : Int × Int} (mz : z ∈ zs) (mw : w ∈ zs) (e : vl l z = vl l w) : z = w := by
  have up := cuts_up l0 hz hd
  have go : ∀ m : List (Int × Int), (m.map (vl l)).Pairwise (· < ·) → z ∈ m → w ∈ m → z = w := fun m => by
    induction m with
    | nil => intro _ h; cases h
    | cons x r ih =>
      intro up h1 h2
      rw [List.map_cons, List.pairwise_cons] at up
      rcases List.mem_cons.mp h1 with e1 | h1
      · rcases List.mem_cons.mp h2 with e2 | h2
        · rw [e1, e2]
        · have := up.1 _ (List.mem_map.mpr ⟨w, h2, rfl⟩)
          rw [← e1] at this
          omega
      · rcases List.mem_cons.mp h2 with e2 | h2
        · have := up.1 _ (List.mem_map.mpr ⟨z, h1, rfl⟩)
          rw [← e2] at this
          omega
        · exact ih up.2 h1 h2
  exact go _ up ((mem_cuts hz).mpr mz) ((mem_cuts hz).mpr mw)
/-! ### the dict of zipped keys -/
theorem keys_any (kvs : List (Key × V)) (k : Key) : (kvs.any fun kv => decide (kv.1 = k)) = true ↔ k ∈ kvs.map (·.1) := by
  rw [List.any_eq_true, List.mem_map]
  constructor
  · rintro ⟨x, m, h⟩
    exact ⟨x, m, of_decide_eq_true h⟩
  · rintro ⟨x, m, h⟩
    exact ⟨x, m, decide_eq_true h⟩
theorem put_old {kvs : List (Key × V)} {k : Key} (v : V) (c : k ∈ kvs.map (·.1)) : (putK kvs k v).map (·.1) = kvs.map (·.1) := by
  unfold putK
  rw [if_pos ((keys_any kvs k).mpr c), List.map_map]
  refine List.map_congr_left fun x _ => ?_
  show (if x.1 = k then (x.1, v) else x).1 = x.1
  split <;> rfl
theorem put_fresh {kvs : List (Key × V)} {k : Key} (v : V) (c : k ∉ kvs.map (·.1)) : (putK kvs k v).map (·.1) = kvs.map (·.1) ++ [k] := by
  unfold putK
  rw [if_neg (fun z => c ((keys_any kvs k).mp z)), List.map_append]
  rfl
theorem merge_keys : ∀ (ns : List Int) (ys : List V) (kvs : List (Key × V)) (ks : List Int), ns.length = ys.length → kvs.map (·.1) = ks.map Sum.inl → ks.Nodup → ∃ ks' : List Int, (mergeK kvs (zipK ns ys)).map (·.1) = ks'.map Sum.inl ∧ ks'.Nodup ∧ ∀ x, x ∈ ks' ↔ x ∈ ks ∨ x ∈ ns
  | [], ys, kvs, ks, _, e, nd => ⟨ks, e, nd, fun x => by simp⟩
  | n :: ns, [], _, _, h, _, _ => by cases h
  | n :: ns, y :: ys, kvs, ks, h, e, nd => by
    have mem : (Sum.inl n : Key) ∈ kvs.map (·.1) ↔ n ∈ ks := by
      rw [e, List.mem_map]
      exact ⟨fun ⟨x, m, z⟩ => by cases z; exact m, fun m => ⟨n, m, rfl⟩⟩
    show ∃ ks' : List Int, (mergeK (putK kvs (.inl n) y) (zipK ns ys)).map (·.1) = ks'.map Sum.inl ∧ _
    by_cases c : n ∈ ks
    · obtain ⟨ks', h1, h2, h3⟩ := merge_keys ns ys (putK kvs (.inl n) y) ks (Nat.succ.inj h) (by rw [put_old y (mem.mpr c)]; exact e) nd
      refine ⟨ks', h1, h2, fun x => ?_⟩
      rw [h3, List.mem_cons]
      constructor
      · rintro (m | m)
        · exact .inl m
        · exact .inr (.inr m)
      · rintro (m | rfl | m)
        · exact .inl m
        · exact .inl c
        · exact .inr m
    · obtain ⟨ks', h1, h2, h3⟩ := merge_keys ns ys (putK kvs (.inl n) y) (ks ++ [n]) (Nat.succ.inj h) (by rw [put_fresh y (fun m => c (mem.mp m)), e, List.map_append]; rfl) (by
        rw [List.nodup_append]
        exact ⟨nd, List.nodup_cons.mpr ⟨(by simp), .nil⟩, fun x m y my z => c (by rw [List.mem_singleton.mp my] at z; rw [← z]; exact m)⟩)
      refine ⟨ks', h1, h2, fun x => ?_⟩
      rw [h3]
      simp only [List.mem_append, List.mem_cons, List.not_mem_nil, or_false, or_assoc]
theorem merge_val : ∀ (ns : List Int) (ys : List V) (kvs : List (Key × V)) (n : Int), ns.length = ys.length → (∃ i : Nat, ∃ y, ns[i]? = some n ∧ ys[i]? = some y ∧ valV (mergeK kvs (zipK ns ys)) (.inl n) = some y) ∨ (n ∉ ns ∧ valV (mergeK kvs (zipK ns ys)) (.inl n) = valV kvs (.inl n))
  | [], ys, kvs, n, _ => .inr ⟨by simp, rfl⟩
  | m :: ns, [], _, _, h => by cases h
  | m :: ns, y :: ys, kvs, n, h => by
    have e : mergeK kvs (zipK (m :: ns) (y :: ys)) = mergeK (putK kvs (.inl m) y) (zipK ns ys) := rfl
    rw [e]
    rcases merge_val ns ys (putK kvs (.inl m) y) n (Nat.succ.inj h) with ⟨i, x, h1, h2, h3⟩ | ⟨h1, h2⟩
    · exact .inl ⟨i + 1, x, h1, h2, h3⟩
    · rw [valV_put] at h2
      by_cases c : n = m
      · subst c
        rw [if_pos rfl] at h2
        exact .inl ⟨0, y, rfl, rfl, h2⟩
      · rw [if_neg (fun z => c (Sum.inl.inj z))] at h2
        exact .inr ⟨fun z => (List.mem_cons.mp z).elim c h1, h2⟩

end
end My
set_option Elab.async false
set_option linter.all false
set_option maxRecDepth 100000
set_option maxHeartbeats 400000
namespace My
open PySem L2 PySem.Spec PyProof.Rows
section
variable {P : Program} {w : World} {K : PySem.W.Frag} {mg : Str → Option Value} {base : Heap}
theorem dp_pair {K : PySem.W.Frag} {H : Hp} {v : V} {z : Int × Int} (h : Dp K H v (pairD z)) : ∃ p, v = .ref p ∧ SqT K H p [.int z.1, .int z.2] := by
  cases h with
  | @tup p xs _ hs ha =>
    obtain ⟨x, y, rfl, dx, dy⟩ := dps2 ha
    rw [dp_int dx, dp_int dy] at hs
    exact ⟨p, rfl, hs⟩
theorem pair_dp {K : PySem.W.Frag} {H : Hp} {p : Addr} {z : Int × Int} (h : SqT K H p [.int z.1, .int z.2]) : Dp K H (.ref p) (pairD z) := .tup h (.cons (.int _) (.cons (.int _) .nil))
theorem lcm_next {zs : List (Int × Int)} {i : Nat} {z : Int × Int} (h : zs[i]? = some z) : lcmL (zs.take (i + 1)) = Nat.lcm (lcmL (zs.take i)) z.2.toNat := by
  rw [take_more' h]
  unfold lcmL
  rw [List.foldl_append]
  rfl
/-- rows of thresholds -/
def CutsAt (K : PySem.W.Frag) (H : Hp) (R : Addr) (zs : List (Int × Int)) : Prop := ∃ ws, SqL K H R ws ∧ DpAll K H ws (zs.map pairD) ∧ (∀ z ∈ zs, z ∈ U7) ∧ zs.length ≤ 1000
def sp_common (K : PySem.W.Frag) : Sp := fun vs H Q _ => ∃ (R : Addr) (zs : List (Int × Int)), vs = [.ref R] ∧ CutsAt K H R zs ∧ ∀ q t H', Same H H' → SqT K H' q [.ref t, .int (lcmL zs)] → SqT K H' t ((zs.map (vl (lcmL zs))).map V.int) → Q (.ref q) H'
theorem rows_get {K : PySem.W.Frag} {H : Hp} {ws : List V} {zs : List (Int × Int)} (h : DpAll K H ws (zs.map pairD)) {i : Nat} {x : V} (hx : ws[i]? = some x) : ∃ z p, zs[i]? = some z ∧ x = .ref p ∧ SqT K H p [.int z.1, .int z.2] := by
  have l := dps_len h
  rw [List.length_map] at l
  have li := (List.getElem?_eq_some_iff.mp hx).1
  have hz : zs[i]? = some zs[i] := List.getElem?_eq_getElem (by omega)
  obtain ⟨y, hy, dy⟩ := dps_get h (i := i) (d := pairD zs[i]) (by rw [List.getElem?_map, hz]; rfl)
  rw [hx] at hy
  cases hy
  obtain ⟨p, e, hp⟩ := dp_pair dy
  exact ⟨_, p, hz, e, hp⟩
theorem ok_common (T : Txt K mg) : FnOk P w K mg base CX0 1 T.a_common T.d_common ["rows"] (sp_common K) := by
  refine T.F_common.ok sc_common (fun vs H Q E h => ?_) (fun cdv A outer s H vs Q E hr h => ?_)
  · obtain ⟨R, zs, rfl, _⟩ := h
    rfl
  obtain ⟨R, zs, rfl, ⟨ws, hR, dz, hz, lz⟩, k⟩ := h
  refine ⟨_, (pss_cons (ps_set (i := 1) sc_common.nd rfl (by first | exact Or.inl rfl | exact Or.inr rfl) pe_int)
    (pss_cons (ps_for PassesOwn.never rfl (pi_list (pv 0)) (pg_name (i := 2) sc_common.nd rfl (by first | exact Or.inl rfl | exact Or.inr rfl))
    (pss_one (ps_set (i := 1) sc_common.nd rfl (by first | exact Or.inl rfl | exact Or.inr rfl) (pe_callBfun cr_lcm (by rfl) T.m_lcm (pa_cons (pv 1) (pa_cons (pe_ix (show IxR _ (rIxT K) from ix_tup) (pv 2) pe_int (fun _ _ => rfl)) pa_nil))))))
    (pss_one (ps_ret (pe_tup (pa_cons (pe_callTy call_tuple_of (by rfl) T.z_tuple (by decide +kernel) (pa_cons (pe_lc (own := [("row", 2)]) rfl sc_common.nd (pi_list (pv 0)) (blkOk_by (own := [("row", 2)]) (N := ["rows", "below", "row"]) (sc := defScope s_common) (by decide +kernel)) (fun _ _ _ _ _ => (pg_name (i := 2) sc_common.nd rfl (by first | exact Or.inl rfl | exact Or.inr rfl))) (fun _ _ _ _ _ => pts_nil) (fun _ _ _ _ _ => (pe_op op_mul (pe_ix (show IxR _ (rIxT K) from ix_tup) (pv 2) pe_int (fun _ _ => rfl)) (pe_op op_fdivA (pv 1) (pe_ix (show IxR _ (rIxT K) from ix_tup) (pv 2) pe_int (fun _ _ => rfl)))))) pa_nil)) (pa_cons (pv 1) pa_nil))))))), ?_⟩
  have el := dps_len dz
  rw [List.length_map] at el
  refine ⟨_, rfl, R, rfl, ⟨_, hR⟩, for_list (K := K) (a := R) (xs := ws) (fun i σ' H' => ∃ v : Option V, σ' = [some (.ref R), some (.int ((lcmL (zs.take i) : Nat) : Int)), v] ∧ H' = H) ⟨none, rfl, rfl⟩ (fun i σ' H' _ ⟨_, _, e⟩ => by rw [e]; exact hR) ?_ ?_⟩
  · rintro i y σ' H' hi ⟨v, rfl, rfl⟩
    obtain ⟨z, p, hzi, rfl, hp⟩ := rows_get dz hi
    have mz := hz z (List.mem_of_getElem? hzi)
    obtain ⟨z0, z1, z2, z3, z4, z5⟩ := U7_ok z mz
    have lk := lcmL_ok (zs := zs.take i) fun y m => hz y (List.mem_of_mem_take m)
    have en : z.2 = ((z.2.toNat : Nat) : Int) := by omega
    refine ⟨_, rfl, _, rfl, p, _, _, _, rfl, rfl, hp, at_of (j := 1) rfl rfl, lcmL (zs.take i), z.2.toNat, by rw [← en], ?_, lk.2.1, by omega, some (.ref p), ?_, rfl⟩
    · have a : lcmL (zs.take i) * z.2.toNat ≤ 3000 * 1000 := Nat.mul_le_mul lk.2.2.1 (by omega)
      exact Nat.lt_of_le_of_lt a (by decide)
    · rw [lcm_next hzi]
      rfl
  · rintro σ' H' ⟨v, rfl, rfl⟩
    rw [List.take_of_length_le (by omega)]
    have lk := lcmL_ok hz
    refine ⟨_, rfl, R, rfl, ⟨_, hR⟩, fun D hD => ?_⟩
    refine lc_list (K := K) (a := R) (xs := ws) (fun i H2 => Same H' H2 ∧ H2 D = some (.lst (((zs.take i).map (vl (lcmL zs))).map V.int))) ⟨same_new hD _, upd_same⟩ (fun i H2 _ z => z.1.seq hR) ?_ ?_
    · rintro i x H2 hx ⟨g, e⟩
      obtain ⟨z, p, hzi, rfl, hp⟩ := rows_get dz hx
      have hp2 := Same.tup g hp
      have mz := hz z (List.mem_of_getElem? hzi)
      obtain ⟨z0, z1, z2, z3, z4, z5⟩ := U7_ok z mz
      have li := (List.getElem?_eq_some_iff.mp hzi).1
      refine ⟨rfl, _, rfl, p, _, _, _, rfl, rfl, hp2, at_of (j := 0) rfl rfl, _, rfl, _, rfl, p, _, _, _, rfl, rfl, hp2, at_of (j := 1) rfl rfl, _, _, rfl, rfl, divA_small (by omega) (by omega), _, _, rfl, rfl, .inl ⟨by omega, by omega⟩, _, e, ?_, same_upd g hD, ?_⟩
      · rw [List.length_map, List.length_map, List.length_take]
        exact small1000 (by omega)
      · rw [upd_same, take_more' hzi, List.map_append, List.map_append]
        have ed : ((lcmL zs : Nat) : Int).fdiv z.2 = ((lcmL zs : Nat) : Int) / z.2 := Int.fdiv_eq_ediv_of_nonneg _ (by omega)
        rw [ed]
        rfl
    · rintro H2 ⟨g, e⟩
      rw [List.take_of_length_le (by omega)] at e
      refine ⟨D, _, rfl, .inl ⟨SqL.of e, fun t ht => ⟨_, rfl, (by show 2 ≤ sizeLine; decide), fun q hq => ?_⟩⟩⟩
      have g2 := same_new ht (.tup ((zs.map (vl (lcmL zs))).map V.int))
      exact k q t _ ((g.trans g2).trans (same_new hq _)) (SqT.of upd_same) (SqT.of (same_new hq _ _ _ upd_same))

/-- the cuts, as they are told -/
def sp_asc (K : PySem.W.Frag) : Sp := fun vs H Q _ => ∃ (R : Addr) (zs : List (Int × Int)), vs = [.ref R] ∧ CutsAt K H R zs ∧ ∀ q ws H', Same H H' → TupN H' q ws → DpAll K H' ws ((cutsD zs).map pairD) → Q (.ref q) H'
theorem dps_of_get {K : PySem.W.Frag} {H : Hp} : ∀ {vs : List V} {ds : List PyData}, vs.length = ds.length → (∀ (i : Nat) (v : V) (d : PyData), vs[i]? = some v → ds[i]? = some d → Dp K H v d) → DpAll K H vs ds
  | [], [], _, _ => .nil
  | [], _ :: _, h, _ => by cases h
  | _ :: _, [], h, _ => by cases h
  | v :: vs, d :: ds, h, k => .cons (k 0 v d rfl rfl) (dps_of_get (Nat.succ.inj h) fun i x y hx hy => k (i + 1) x y hx hy)
theorem ok_ascending (T : Txt K mg) : FnOk P w K mg base CX0 2 T.a_ascending T.d_ascending ["rows"] (sp_asc K) := by
  have G_common := ok_common (P := P) (w := w) (base := base) T
  refine T.F_ascending.ok sc_ascending (fun vs H Q E h => ?_) (fun cdv A outer s H vs Q E hr h => ?_)
  · obtain ⟨R, zs, rfl, _⟩ := h
    rfl
  obtain ⟨R, zs, rfl, hC, k⟩ := h
  refine ⟨_, (pss_cons (ps_set (i := 1) sc_ascending.nd rfl (by first | exact Or.inl rfl | exact Or.inr rfl) (pe_dictZip rfl (hu100 hr) (by rfl) T.z_dict (by rfl) T.z_zip (pa_cons (pe_ix ix_tup (pe_call G_common (hr.mono (by first | decide | omega)) (by rfl) T.m_common T.F_common.kp T.b_common .nil pass0 (pa_cons (pv 0) pa_nil)) pe_int (fun _ _ => rfl)) (pa_cons (pv 0) pa_nil))))
    (pss_one (ps_ret (pe_callTy call_tupN (by rfl) T.z_tuple (by decide +kernel) (pa_cons (pe_lc (own := [("above", 2)]) rfl sc_ascending.nd (pi_list (pe_callB (call_sortedDI rfl) (by rfl) T.z_sorted (by decide +kernel) (pa_cons (pv 1) pa_nil))) (blkOk_by (own := [("above", 2)]) (N := ["rows", "found", "above"]) (sc := defScope s_ascending) (by decide +kernel)) (fun _ _ _ _ _ => (pg_name (i := 2) sc_ascending.nd rfl (by first | exact Or.inl rfl | exact Or.inr rfl))) (fun _ _ _ _ _ => pts_nil) (fun _ _ _ _ _ => (pe_dget (hu_of hr) (pv 1) (pv 2) (fun _ _ => rfl)))) pa_nil))))), ?_⟩
  obtain ⟨ws, hR, dz, hz, lz⟩ := id hC
  have el := dps_len dz
  rw [List.length_map] at el
  obtain ⟨_, l0, _, ld⟩ := lcmL_ok hz
  refine ⟨_, rfl, R, zs, rfl, hC, fun q t H1 g1 hq ht => ⟨q, _, 0, _, rfl, rfl, hq, at_of (j := 0) rfl rfl, _, rfl, t, R, zs.map (vl (lcmL zs)), ws, rfl, ht, g1.seq hR, by rw [List.length_map, el], fun f hf => ?_⟩⟩
  have g2 := g1.trans (same_new hf (.dK (mergeK [] (zipK (zs.map (vl (lcmL zs))) ws))))
  have ef : upd H1 f (.dK (mergeK [] (zipK (zs.map (vl (lcmL zs))) ws))) f = some (.dK (mergeK [] (zipK (zs.map (vl (lcmL zs))) ws))) := upd_same
  generalize upd H1 f (.dK (mergeK [] (zipK (zs.map (vl (lcmL zs))) ws))) = H2 at *
  obtain ⟨ks, ek, nk, mk⟩ := merge_keys (zs.map (vl (lcmL zs))) ws [] [] (by rw [List.length_map, el]) rfl .nil
  have up := cuts_up l0 hz ld
  have mem : ∀ x, x ∈ ks ↔ x ∈ (cutsD zs).map (vl (lcmL zs)) := fun x => by
    rw [mk, List.mem_map, List.mem_map]
    constructor
    · rintro (m | ⟨z, m, e⟩)
      · cases m
      · exact ⟨z, (mem_cuts hz).mpr m, e⟩
    · rintro ⟨z, m, e⟩
      exact .inr ⟨z, (mem_cuts hz).mp m, e⟩
  have few : ks.length ≤ 7 := by
    have e : ks.Perm ((cutsD zs).map (vl (lcmL zs))) := (List.perm_ext_iff_of_nodup nk (up.imp fun h => by omega)).mpr mem
    rw [e.length_eq, List.length_map]
    exact List.length_filter_le _ _
  refine ⟨_, rfl, f, _, ks, rfl, Rd.of ef, ek, by omega, fun ys p pe sy hp => ⟨p, rfl, ⟨_, SqL.of upd_same⟩, fun D hD => ?_⟩⟩
  obtain rfl : ys = (cutsD zs).map (vl (lcmL zs)) := sorted_one (pe.nodup_iff.mpr nk) sy up fun x => by rw [pe.mem_iff, mem]
  have g3 := g2.trans (same_new hp (.lst (((cutsD zs).map (vl (lcmL zs))).map V.int)))
  have ef3 := same_new hp (.lst (((cutsD zs).map (vl (lcmL zs))).map V.int)) _ _ ef
  have ep : SqL K (upd H2 p (.lst (((cutsD zs).map (vl (lcmL zs))).map V.int))) p (((cutsD zs).map (vl (lcmL zs))).map V.int) := SqL.of upd_same
  generalize upd H2 p (.lst (((cutsD zs).map (vl (lcmL zs))).map V.int)) = H3 at *
  refine lc_list (K := K) (a := p) (xs := ((cutsD zs).map (vl (lcmL zs))).map V.int) (fun i H' => Same H3 H' ∧ ∃ acc, H' D = some (.lst acc) ∧ DpAll K H' acc (((cutsD zs).take i).map pairD)) ⟨same_new hD _, [], upd_same, .nil⟩ (fun i H' _ z => z.1.seq ep) ?_ ?_
  · rintro i x H' hx ⟨g, acc, ea, da⟩
    rw [List.getElem?_map, List.getElem?_map] at hx
    obtain ⟨n, hn, rfl⟩ := Option.map_eq_some_iff.mp hx
    obtain ⟨z, hzi, rfl⟩ := Option.map_eq_some_iff.mp hn
    have mz := (mem_cuts hz).mp (List.mem_of_getElem? hzi)
    have gg := g3.trans g
    have el2 : (zs.map (vl (lcmL zs))).length = ws.length := by rw [List.length_map, el]
    rcases merge_val (zs.map (vl (lcmL zs))) ws [] (vl (lcmL zs) z) el2 with ⟨j, y, h1, h2, h3⟩ | ⟨h1, _⟩
    · rw [List.getElem?_map] at h1
      obtain ⟨z', hz', e'⟩ := Option.map_eq_some_iff.mp h1
      have ez : z' = z := vl_inj l0 hz ld (List.mem_of_getElem? hz') mz e'
      subst ez
      obtain ⟨u, hu, du⟩ := dps_get dz (i := j) (d := pairD z') (by rw [List.getElem?_map, hz']; rfl)
      rw [h2] at hu
      obtain rfl := Option.some.inj hu
      have la := dps_len da
      rw [List.length_map, List.length_take] at la
      refine ⟨rfl, _, rfl, _, rfl, f, y, rfl, .inl ⟨_, .inl (vl (lcmL zs) z'), Rd.of (g _ _ ef3), rfl, h3.symm⟩, acc, ea, small1000 (by
        have : (cutsD zs).length ≤ 7 := List.length_filter_le _ _
        omega), same_upd g hD, acc ++ [y], upd_same, ?_⟩
      rw [take_more' hzi, List.map_append]
      have tu := tup_upd0 (K := K) (o := .lst (acc ++ [y])) ea
      have nl : ∀ l : List (Int × Int), noLs (l.map pairD) = true := fun l => noLs_all fun e m => by
        obtain ⟨z, _, rfl⟩ := List.mem_map.mp m
        rfl
      exact dps_app (dps_tups tu _ _ (nl _) da) (.cons (dp_tups tu _ _ rfl (dp_same gg _ _ du)) .nil)
    · exact absurd (List.mem_map.mpr ⟨z, mz, rfl⟩) h1
  · rintro H' ⟨g, acc, ea, da⟩
    rw [List.length_map, List.length_map, List.take_length] at da
    exact ⟨D, acc, rfl, .inl (SqL.of ea), fun r H5 g4 tf => k r acc _ ((g3.trans g).trans g4) tf (dps_same g4 _ _ da)⟩

end
end My
set_option Elab.async false
set_option linter.all false
set_option maxRecDepth 100000
set_option maxHeartbeats 400000
namespace My
open PySem L2 PySem.Spec PyProof.Rows
section
variable {P : Program} {w : World} {K : PySem.W.Frag} {mg : Str → Option Value} {base : Heap}
/-! ### what a test is; sorted lists of tests -/
def initD : PyData → PyData
  | .tuple xs => .tuple xs.dropLast
  | d => d
def lastD : PyData → PyData
  | .tuple xs => xs.getLastD .none
  | _ => .none
def testsOf (ds : List PyData) : List PyData := ((ds.flatMap (forms 4)).filter isTest).map initD
def SortedOf (D ts : List PyData) : Prop := ts.Nodup ∧ (∀ x, x ∈ ts ↔ x ∈ D) ∧ ts.Pairwise fun x y => ltL (rowC (itemsD y)) (rowC (itemsD x)) = false
theorem cut_last (xs : List V) : cutV xs none (some (-1)) = xs.dropLast := by
  unfold cutV
  rw [HT.sIx_none, List.drop_zero, Nat.sub_zero, List.dropLast_eq_take]
  have e : HT.sIx xs.length xs.length (some (-1)) = xs.length - 1 := by
    show (if (-1 : Int) < 0 then ((-1 : Int) + (xs.length : Int)).toNat else min (-1 : Int).toNat xs.length) = xs.length - 1
    rw [if_pos (by decide)]
    omega
  rw [e]
theorem dps_init {K : PySem.W.Frag} {H : Hp} : ∀ {vs : List V} {ds : List PyData}, DpAll K H vs ds → DpAll K H vs.dropLast ds.dropLast
  | _, _, .nil => .nil
  | _, _, .cons _ .nil => .nil
  | _, _, .cons a (.cons b r) => .cons a (dps_init (.cons b r))
/-- t[:-1] -/
theorem init_at {K : PySem.W.Frag} {H : Hp} {v : V} {ds : List PyData} {Q : VK} (h : Dp K H v (.tuple ds)) (n : ds ≠ []) (k : ∀ p H', Same H H' → Dp K H' (.ref p) (.tuple ds.dropLast) → Q (.ref p) H') : rSlA K v none (some (-1)) H Q := by
  cases h with
  | @tup a xs _ hs ha =>
    have l := dps_len ha
    have l0 : 0 < xs.length := by
      rw [l]
      exact List.length_pos_iff.mpr n
    refine ⟨a, xs, rfl, hs, fun z => ?_, fun _ p hp => ?_⟩
    · have e : (if (-1 : Int) < 0 then ((-1 : Int) + (xs.length : Int)).toNat else 0) = xs.length := z.2
      rw [if_pos (by decide)] at e
      omega
    · rw [cut_last]
      have g := same_new hp (.tup xs.dropLast)
      exact k p _ g (.tup (SqT.of upd_same) (dps_same g _ _ (dps_init ha)))
theorem nodup_len {α : Type} : ∀ {l m : List α}, l.Nodup → (∀ x ∈ l, x ∈ m) → l.length ≤ m.length
  | [], _, _, _ => Nat.zero_le _
  | x :: r, m, nd, sub => by
    rw [List.nodup_cons] at nd
    obtain ⟨a, b, rfl⟩ := List.append_of_mem (sub x (.head _))
    have z := nodup_len (l := r) (m := a ++ b) nd.2 fun y my => by
      have h := sub y (.tail _ my)
      rw [List.mem_append, List.mem_cons] at h
      rw [List.mem_append]
      rcases h with h | h | h
      · exact .inl h
      · exact absurd (h ▸ my) nd.1
      · exact .inr h
    rw [List.length_append] at z
    rw [List.length_append, List.length_cons, List.length_cons]
    omega
theorem few_of {ds : List PyData} (h : ds.length < 64) : Few ds := fun _ nd sub => Nat.lt_of_le_of_lt (nodup_len nd sub) h
/-- texts and ints alone -/
def flatRow (d : List PyData) : Prop := ∀ x ∈ d, (∃ s, x = .str s) ∨ ∃ i, x = .int i
theorem codN_inj : ∀ {c d : List Nat} {r s : List Int}, codN c ++ r = codN d ++ s → c = d ∧ r = s
  | [], [], _, _, h => ⟨rfl, (List.cons.inj h).2⟩
  | [], b :: d, _, _, h => by
    have e : (0 : Int) = (b : Int) + 1 := (List.cons.inj h).1
    omega
  | a :: c, [], _, _, h => by
    have e : (a : Int) + 1 = 0 := (List.cons.inj h).1
    omega
  | a :: c, b :: d, r, s, h => by
    have e : (a : Int) + 1 = (b : Int) + 1 := (List.cons.inj h).1
    obtain ⟨e1, e2⟩ := codN_inj (c := c) (d := d) (r := r) (s := s) (List.cons.inj h).2
    exact ⟨by rw [e1, show a = b by omega], e2⟩
theorem row_inj : ∀ {x y : List PyData}, flatRow x → flatRow y → rowC x = rowC y → x = y
  | [], [], _, _, _ => rfl
  | [], b :: y, _, _, h => by
    obtain ⟨a, l, e⟩ := codI_some b
    have h' : ([] : List Int) = codI b ++ rowC y := h
    rw [e] at h'
    cases h'
  | a :: x, [], _, _, h => by
    obtain ⟨b, l, e⟩ := codI_some a
    have h' : codI a ++ rowC x = ([] : List Int) := h
    rw [e] at h'
    cases h'
  | a :: x, b :: y, fx, fy, h => by
    have h' : codI a ++ rowC x = codI b ++ rowC y := h
    have fx' : flatRow x := fun z m => fx z (.tail _ m)
    have fy' : flatRow y := fun z m => fy z (.tail _ m)
    rcases fx a (.head _) with ⟨s, rfl⟩ | ⟨i, rfl⟩
    · rcases fy b (.head _) with ⟨t, rfl⟩ | ⟨j, rfl⟩
      · obtain ⟨e1, e2⟩ := codN_inj (List.cons.inj h').2
        have e : s = t := by
          obtain ⟨cs⟩ := s
          obtain ⟨ct⟩ := t
          rw [show cs = ct from Array.toList_inj.mp e1]
        rw [e, row_inj fx' fy' e2]
      · have e : (1 : Int) = 0 := (List.cons.inj h').1
        omega
    · rcases fy b (.head _) with ⟨t, rfl⟩ | ⟨j, rfl⟩
      · have e : (0 : Int) = 1 := (List.cons.inj h').1
        omega
      · have e := (List.cons.inj (List.cons.inj h').2)
        rw [show i = j from e.1, row_inj fx' fy' e.2]
theorem sorted_uniq {D ts us : List PyData} (h : SortedOf D ts) (k : SortedOf D us) (fl : ∀ x ∈ D, ∃ r, x = .tuple r ∧ flatRow r) : ts = us := by
  refine List.Perm.eq_of_pairwise (le := fun x y => ltL (rowC (itemsD y)) (rowC (itemsD x)) = false) (fun a b ma mb h1 h2 => ?_) h.2.2 k.2.2 ((List.perm_ext_iff_of_nodup h.1 k.1).mpr fun x => by rw [h.2.1, k.2.1])
  obtain ⟨r, rfl, fr⟩ := fl a ((h.2.1 a).mp ma)
  obtain ⟨s, rfl, fs⟩ := fl b ((k.2.1 b).mp mb)
  exact congrArg PyData.tuple (row_inj fr fs (ltL_total _ _ h2 h1))
section
variable {hs : List Str} {as : List (Str × Bool)}
/-- a test: texts, and its chance -/
structure TestIs (d : PyData) : Prop where
  ex : ∃ (ss : List Str) (p : Int × Int), ss ≠ [] ∧ d = .tuple (ss.map .str ++ [pairD p]) ∧ p ∈ U7
theorem leaf_test {d : PyData} (h : Leaf hs as d) (t : isTest d = true) : TestIs d := by
  cases h with
  | all a => exact absurd t (by rcases a with a | a <;> subst a <;> exact Bool.false_ne_true)
  | @test s t' p _ _ c => exact ⟨[s, t'], p, by simp, rfl, chance_U p c⟩
  | @hash s n t' p _ _ _ c => exact ⟨[s, n, t'], p, by simp, rfl, chance_U p c⟩
  | num a _ _ _ => exact absurd t (by rcases a with a | a <;> subst a <;> exact Bool.false_ne_true)
  | txt a _ _ => exact absurd t (by rcases a with a | a <;> subst a <;> exact Bool.false_ne_true)
theorem fm_test {n : Nat} {d : PyData} (h : Fm hs as n d) (t : isTest d = true) : Leaf hs as d ∧ TestIs d := by
  have l : Leaf hs as d := fm_lv h (by unfold lvB; rw [t]; rfl)
  exact ⟨l, leaf_test l t⟩
theorem init_test {d : PyData} (h : TestIs d) : ∃ ss : List Str, ss ≠ [] ∧ initD d = .tuple (ss.map .str) := by
  obtain ⟨ss, p, n, rfl, _⟩ := h.ex
  exact ⟨ss, n, by show PyData.tuple _ = _; rw [List.dropLast_concat]⟩
theorem str_flat (ss : List Str) : flatRow (ss.map .str) := fun x m => by
  obtain ⟨s, _, rfl⟩ := List.mem_map.mp m
  exact .inl ⟨s, rfl⟩
theorem str_row (ss : List Str) : RowOk (ss.map .str) := by
  refine ⟨?_, fun x m => ?_⟩
  · induction ss with
    | nil => rfl
    | cons s r ih => exact ih
  · obtain ⟨s, _, rfl⟩ := List.mem_map.mp m
    exact Nat.zero_le _
theorem str_cmp : ∀ ss ts : List Str, CmpOk (ss.map .str) (ts.map .str)
  | [], _ => by cases ‹List Str› <;> exact trivial
  | s :: ss, [] => trivial
  | s :: ss, t :: ts => ⟨fun _ => str_cmp ss ts, fun _ => trivial⟩
theorem str_head {ss : List Str} (n : ss ≠ []) : HeadIs false (ss.map .str) := by
  cases ss with
  | nil => exact absurd rfl n
  | cons s r => exact (rfl : false = false)
end
/-- a text among three -/
theorem inV3 {K : PySem.W.Frag} {s a b c : Str} : inV (.str s) [.str a, .str b, .str c] = (decide (s = a) || decide (s = b) || decide (s = c)) := by
  have e1 : ∀ t : Str, eqV (.str t) (.str s) = decide (s = t) := fun t => eqV_is (K := K) (H := fun _ => none) (x := .str s) (d := .str s) (.str s) rfl t
  unfold inV
  rw [List.any_cons, List.any_cons, List.any_cons, List.any_nil, e1, e1, e1, Bool.or_false, Bool.or_assoc]
theorem in_three {K : PySem.W.Frag} {H : Hp} {s a b c : Str} {q : Addr} {Q : VK} (hq : SqT K H q [.str a, .str b, .str c]) (k : Q (.bl (decide (s = a) || decide (s = b) || decide (s = c))) H) : rIn K false (.str s) (.ref q) H Q := by
  refine ⟨q, _, rfl, .inr hq, rfl, rfl, ?_⟩
  show Q (.bl (inV (.str s) [.str a, .str b, .str c])) H
  rw [inV3 (K := K)]
  exact k
/-- {.. for x in a list}, tuples -/
theorem sc_list {K : PySem.W.Frag} {P : Program} {w : World} {a : Addr} {xs : List V} {g : TG} {tt : TT} {te : TE} {vs : List Nat} {σ : L2.St} {H1 : Hp} {D : Addr} {Qd : Hp → Prop} (Pv : Nat → Hp → Prop) (h0 : Pv 0 (upd H1 D (SetNO P w D []))) (hl : ∀ i H, Pv i H → SqL K H a xs)
    (hs : ∀ i x H, xs[i]? = some x → Pv i H → g x (wipe σ vs) H fun σ2 H2 => wipe σ2 vs = wipe σ vs ∧ tt σ2 H2 fun b H3 =>
      if b = true then te σ2 H3 fun y H4 => ∃ (p : Addr) (d : PyData) (L : List (Addr × PyData)), y = .ref p ∧ Dp K H4 (.ref p) d ∧ KeyOk d ∧ H4 D = some (SetNO P w D L) ∧ Items K H4 L ∧ (d ∉ L.map (·.2) → L.length + 1 < 64) ∧
        ∀ L', (d ∈ L.map (·.2) → L' = L) → (d ∉ L.map (·.2) → L'.Perm ((p, d) :: L)) → Pv (i + 1) (upd H4 D (SetNO P w D L')) else Pv (i + 1) H3) (hd : ∀ H, Pv xs.length H → Qd H) :
    ∃ W : Nat → Nat → Hp → Prop, (∃ m, W 0 m (upd H1 D (SetNO P w D []))) ∧ ∀ i m H, W i m H →
      ((Itl K a).stop i H ∧ Qd H) ∨ ((Itl K a).go i H ∧ ∃ Nx : Hp → Prop, (∀ H', Nx H' → ∃ m', m' < m ∧ W (i + 1) m' H') ∧ ∀ x H', (Itl K a).yld i H x H' → g x (wipe σ vs) H' fun σ2 H2 => wipe σ2 vs = wipe σ vs ∧ tt σ2 H2 fun b H3 =>
        if b = true then te σ2 H3 fun y H4 => ∃ (p : Addr) (d : PyData) (L : List (Addr × PyData)), y = .ref p ∧ Dp K H4 (.ref p) d ∧ KeyOk d ∧ H4 D = some (SetNO P w D L) ∧ Items K H4 L ∧ (d ∉ L.map (·.2) → L.length + 1 < 64) ∧
          ∀ L', (d ∈ L.map (·.2) → L' = L) → (d ∉ L.map (·.2) → L'.Perm ((p, d) :: L)) → Nx (upd H4 D (SetNO P w D L')) else Nx H3) := by
  refine ⟨fun i m H => i + m = xs.length ∧ Pv i H, ⟨xs.length, by simp, h0⟩, fun i m H w => ?_⟩
  obtain ⟨e, p⟩ := w
  have q := hl i H p
  cases m with
  | zero =>
    obtain rfl : i = xs.length := by omega
    exact .inl ⟨⟨xs, q, Nat.le_refl _⟩, hd H p⟩
  | succ m =>
    have lt : i < xs.length := by omega
    refine .inr ⟨⟨xs, xs[i], q, List.getElem?_eq_getElem lt⟩, Pv (i + 1), fun H' z => ⟨m, Nat.lt_succ_self _, by omega, z⟩, fun x H' y => ?_⟩
    obtain ⟨rfl, y⟩ := y
    exact hs i x _ (y xs q) p

end
end My
set_option Elab.async false
set_option linter.all false
set_option maxRecDepth 100000
set_option maxHeartbeats 400000
namespace My
open PySem L2 PySem.Spec PyProof.Rows
section
variable {P : Program} {w : World} {K : PySem.W.Frag} {mg : Str → Option Value} {base : Heap}
def sp_tests (K : PySem.W.Frag) : Sp := fun vs H Q _ => ∃ (l : Addr) (hs : List Str) (as : List (Str × Bool)) (ds : List PyData), vs = [.ref l] ∧ PlansAt K hs as H l ds ∧ ∀ q ws ts H', Same H H' → SqT K H' q ws → DpAll K H' ws ts → SortedOf (testsOf ds) ts → Q (.ref q) H'
theorem tests_len {hs : List Str} {as : List (Str × Bool)} {ds : List PyData} (h : (ds.flatMap (lv 4)).length ≤ 57) : (testsOf ds).length ≤ 57 := by
  unfold testsOf
  rw [List.length_map]
  refine Nat.le_trans ?_ h
  rw [← lv_flat]
  have go : ∀ l : List PyData, (l.filter isTest).length ≤ (l.filter lvB).length := fun l => by
    induction l with
    | nil => exact Nat.le_refl _
    | cons x r ih =>
      rw [List.filter_cons, List.filter_cons]
      cases e : isTest x with
      | true =>
        have e2 : lvB x = true := by unfold lvB; rw [e]; rfl
        rw [if_pos rfl, if_pos e2]
        exact Nat.succ_le_succ ih
      | false =>
        rw [if_neg Bool.false_ne_true]
        split
        · exact Nat.le_succ_of_le ih
        · exact ih
  exact go _
theorem ok_tests_in (T : Txt K mg) : FnOk P w K mg base CX0 3 T.a_tests_in T.d_tests_in ["plans"] (sp_tests K) := by
  have G_formulas_in := ok_formulas_in (P := P) (w := w) (base := base) T
  refine T.F_tests_in.ok sc_tests_in (fun vs H Q E h => ?_) (fun cdv A outer s H vs Q E hr h => ?_)
  · obtain ⟨l, hs, as, ds, rfl, _⟩ := h
    rfl
  obtain ⟨l, hs, as, ds, rfl, hp, k⟩ := h
  refine ⟨_, (pss_one (ps_ret (pe_callTy call_tuple_of (by rfl) T.z_tuple (by decide +kernel) (pa_cons (pe_callB (cr_sortSetN rfl (hu100 hr)) (by rfl) T.z_sorted (by decide +kernel) (pa_cons (pe_scN (own := [("formula", 1)]) rfl (hu100 hr) sc_tests_in.nd (pi_list (pe_call G_formulas_in (hr.mono (by first | decide | omega)) (by rfl) T.m_formulas_in T.F_formulas_in.kp T.b_formulas_in .nil pass0 (pa_cons (pv 0) pa_nil))) (blkOk_by (own := [("formula", 1)]) (N := ["plans", "formula"]) (sc := defScope s_tests_in) (by decide +kernel)) (fun _ _ _ _ _ => (pg_name (i := 1) sc_tests_in.nd rfl (by first | exact Or.inl rfl | exact Or.inr rfl))) (fun _ _ _ _ _ => (pts_one (pt_cmpR (show OpR _ _ (rIn K false) from op_in_seq) (pe_ix (show IxR _ (rIxT K) from ix_tup) (pv 1) pe_int (fun _ _ => rfl)) (pe_glob (v := .ref T.a_TESTS) (by rfl) T.m_TESTS rfl) (by with_unfolding_all rfl)))) (fun _ _ _ _ _ => (pe_slice (show SlR _ (rSlA K) from sl_tupA) (pv 1) po_none (po_some (pe_un un_neg pe_int))))) pa_nil)) pa_nil)))), ?_⟩
  obtain ⟨_, _, _, fm, _, _, few, _⟩ := id hp
  have lt := tests_len (hs := hs) (as := as) few
  refine ⟨_, rfl, l, hs, as, ds, rfl, hp, fun q ws H1 g1 nq hq dq => ⟨q, rfl, ⟨_, SqL.of hq⟩, fun D hD => ?_⟩⟩
  generalize hfs : ds.flatMap (forms 4) = fs at *
  have ffm : ∀ f ∈ fs, Fm hs as 4 f := fun f m => by
    rw [← hfs] at m
    obtain ⟨d, md, mf⟩ := List.mem_flatMap.mp m
    exact forms_fm 4 (fm d md) f mf
  have dq1 := dps_same g1 _ _ dq
  have lws := dps_len dq
  refine sc_list (K := K) (P := P) (w := w) (a := q) (xs := ws) (fun i H' => Same H1 H' ∧ ∃ L : List (Addr × PyData), H' D = some (SetNO P w D L) ∧ Items K H' L ∧ (∀ p ∈ L, p.2 ∈ ((fs.take i).filter isTest).map initD) ∧ (∀ d ∈ ((fs.take i).filter isTest).map initD, d ∈ L.map (·.2)) ∧ (L.map (·.2)).Nodup)
    ⟨same_new hD _, [], upd_same, fun p m => (by cases m), fun p m => (by cases m), fun d m => (by cases m), .nil⟩ (fun i H' z => z.1.seq (SqL.of hq)) ?_ ?_
  · rintro i x H2 hx ⟨g, L, eD, itm, sub, all_, nd⟩
    have li : i < fs.length := by
      rw [← lws]
      exact (List.getElem?_eq_some_iff.mp hx).1
    have hf : fs[i]? = some fs[i] := List.getElem?_eq_getElem li
    generalize fs[i] = f at hf
    obtain ⟨x', hx', dx⟩ := dps_get dq1 hf
    rw [hx] at hx'
    cases hx'
    have ff := ffm f (List.mem_of_getElem? hf)
    obtain ⟨s, r, rfl, _, _⟩ := fm_head ff
    have dx2 := dp_same g _ _ dx
    have et := take_more' hf
    cases id dx2 with
    | @tup p xs _ hxs ha =>
    obtain ⟨x0, hx0, d0⟩ := dps_get (i := 0) ha rfl
    obtain rfl := dp_str d0
    refine ⟨rfl, _, rfl, p, xs, 0, _, rfl, rfl, hxs, at_of (j := 0) rfl hx0, ?_⟩
    refine ⟨T.a_TESTS, _, rfl, .inr (T.q_TESTS H2), rfl, rfl, _, rfl, ?_⟩
    show if inV (.str s) [.str "row", .str "block", .str "hash"] = true then _ else _
    rw [inV3 (K := K)]
    show if isTest (.tuple (.str s :: r)) = true then _ else _
    cases it : isTest (.tuple (.str s :: r)) with
    | false =>
      rw [if_neg Bool.false_ne_true]
      refine ⟨g, L, eD, itm, ?_, ?_, nd⟩
      · rw [et, List.filter_append, List.filter_cons, it]
        simpa using sub
      · rw [et, List.filter_append, List.filter_cons, it]
        simpa using all_
    | true =>
      rw [if_pos rfl]
      obtain ⟨lf, ti⟩ := fm_test ff it
      obtain ⟨ss, sn, ei⟩ := init_test ti
      have ei' : (PyData.str s :: r).dropLast = ss.map .str := by
        have z : PyData.tuple (PyData.str s :: r).dropLast = PyData.tuple (ss.map .str) := ei
        exact PyData.tuple.inj z
      refine ⟨_, rfl, no_part ⟨_, rfl, _, rfl, init_at dx2 (by simp) fun b H3 g3 db => ?_⟩⟩
      rw [ei'] at db
      have kk : KeyOk (.tuple (ss.map .str)) := rowOk_deep (str_row ss)
      have nl : noL (.tuple (ss.map .str)) = true := noLs_all fun e m => by
        obtain ⟨t, _, rfl⟩ := List.mem_map.mp m
        rfl
      have new : ((fs.take (i + 1)).filter isTest).map initD = ((fs.take i).filter isTest).map initD ++ [.tuple (ss.map .str)] := by
        rw [et, List.filter_append, List.filter_cons, it, List.map_append, if_pos rfl, List.map_cons, ei]
        rfl
      have lall : (((fs.take (i + 1)).filter isTest).map initD).length ≤ 57 := by
        refine Nat.le_trans ?_ lt
        unfold testsOf
        rw [hfs, List.length_map, List.length_map]
        have e9 : fs = fs.take (i + 1) ++ fs.drop (i + 1) := (List.take_append_drop _ _).symm
        conv => rhs; rw [e9, List.filter_append, List.length_append]
        exact Nat.le_add_right _ _
      refine ⟨b, _, L, rfl, db, kk, g3 _ _ eD, fun y my => ⟨dp_same g3 _ _ (itm y my).1, (itm y my).2⟩, fun n => ?_, fun L' c1 c2 => ?_⟩
      · have z := nodup_len (l := L.map (·.2)) (m := ((fs.take (i + 1)).filter isTest).map initD) nd fun y my => by
          obtain ⟨u, mu, rfl⟩ := List.mem_map.mp my
          rw [new]
          exact List.mem_append_left _ (sub u mu)
        rw [List.length_map] at z
        omega
      · have g4 := same_upd (o := SetNO P w D L') (g.trans g3) hD
        have tu := fun a xs (h : SqT K H3 a xs) => show SqT K (upd H3 D (SetNO P w D L')) a xs from by
          have st : ∀ u : HO, (∀ φ, u ≠ .ext φ) → H3 a = some u → upd H3 D (SetNO P w D L') a = some u := fun u hu e => by
            rw [upd_ne (fun z => by rw [z, g3 _ _ eD] at e; exact hu _ (Option.some.inj e).symm)]
            exact e
          rcases h with (h | ⟨q, h⟩) | h
          · exact .inl (.inl (st _ (fun φ z => by cases z) h))
          · exact .inl (.inr ⟨q, st _ (fun φ z => by cases z) h⟩)
          · exact .inr h
        have keep : ∀ y ∈ L, Dp K (upd H3 D (SetNO P w D L')) (.ref y.1) y.2 ∧ KeyOk y.2 := fun y my => by
          refine ⟨dp_tups tu _ _ ?_ (dp_same g3 _ _ (itm y my).1), (itm y my).2⟩
          obtain ⟨z, mz, e⟩ := List.mem_map.mp (sub y my)
          obtain ⟨mz1, mz2⟩ := List.mem_filter.mp mz
          obtain ⟨_, tz⟩ := fm_test (ffm z (List.mem_of_mem_take mz1)) mz2
          obtain ⟨sz, _, ez⟩ := init_test tz
          rw [← e, ez]
          exact noLs_all fun e m => by
            obtain ⟨t, _, rfl⟩ := List.mem_map.mp m
            rfl
        have own := dp_tups tu _ _ nl db
        refine ⟨g4, L', upd_same, ?_, ?_, ?_, ?_⟩
        · by_cases c : PyData.tuple (ss.map .str) ∈ L.map (·.2)
          · rw [c1 c]
            exact c1 c ▸ keep
          · intro y my
            rcases List.mem_cons.mp ((c2 c).mem_iff.mp my) with rfl | my
            · exact ⟨own, kk⟩
            · exact keep y my
        · rw [new]
          by_cases c : PyData.tuple (ss.map .str) ∈ L.map (·.2)
          · rw [c1 c]
            exact fun y my => List.mem_append_left _ (sub y my)
          · intro y my
            rcases List.mem_cons.mp ((c2 c).mem_iff.mp my) with rfl | my
            · exact List.mem_append_right _ (.head _)
            · exact List.mem_append_left _ (sub y my)
        · rw [new]
          intro d md
          by_cases c : PyData.tuple (ss.map .str) ∈ L.map (·.2)
          · rw [c1 c]
            rcases List.mem_append.mp md with md | md
            · exact all_ d md
            · rw [List.mem_singleton.mp md]
              exact c
          · rw [((c2 c).map (·.2)).mem_iff]
            rcases List.mem_append.mp md with md | md
            · exact .tail _ (all_ d md)
            · rw [List.mem_singleton.mp md]
              exact .head _
        · by_cases c : PyData.tuple (ss.map .str) ∈ L.map (·.2)
          · rw [c1 c]
            exact nd
          · exact ((c2 c).map (·.2)).nodup_iff.mpr (List.nodup_cons.mpr ⟨c, nd⟩)
  · rintro H2 ⟨g, L, eD, itm, sub, all_, nd⟩
    rw [lws, List.take_length] at sub all_
    have st : ∀ y ∈ L, ∃ ss : List Str, ss ≠ [] ∧ y.2 = .tuple (ss.map .str) := fun y my => by
      obtain ⟨z, mz, e⟩ := List.mem_map.mp (sub y my)
      obtain ⟨mz1, mz2⟩ := List.mem_filter.mp mz
      obtain ⟨_, tz⟩ := fm_test (ffm z mz1) mz2
      obtain ⟨sz, n, ez⟩ := init_test tz
      exact ⟨sz, n, by rw [← e, ez]⟩
    refine ⟨D, L, false, rfl, eD, fun y my => ?_, fun y my u mu => ?_, fun L' p pL sL hp' => ?_⟩
    · obtain ⟨ss, n, e⟩ := st y my
      exact ⟨_, e, (itm y my).1, str_row ss, str_head n⟩
    · obtain ⟨ss, n, e⟩ := st y my
      obtain ⟨ts, m, e2⟩ := st u mu
      rw [e, e2]
      exact str_cmp ss ts
    · have g5 := same_new hp' (.lst (L'.map fun y => V.ref y.1))
      refine ⟨p, _, rfl, .inl ⟨SqL.of upd_same, fun t ht => ?_⟩⟩
      have g6 := g5.trans (same_new ht (.tup (L'.map fun y => V.ref y.1)))
      refine k t _ (L'.map (·.2)) _ ((g1.trans g).trans g6) (SqT.of upd_same) ?_ ⟨(pL.map (·.2)).nodup_iff.mpr nd, fun x => ?_, List.pairwise_map.mpr sL⟩
      · have go : ∀ M : List (Addr × PyData), (∀ y ∈ M, Dp K H2 (.ref y.1) y.2) → ∀ H' : Hp, Same H2 H' → DpAll K H' (M.map fun y => V.ref y.1) (M.map (·.2)) := fun M => by
          induction M with
          | nil => exact fun _ _ _ => .nil
          | cons y r ih => exact fun h H' g => .cons (dp_same g _ _ (h y (.head _))) (ih (fun z m => h z (.tail _ m)) H' g)
        exact go L' (fun y my => (itm y (pL.mem_iff.mp my)).1) _ g6
      · rw [(pL.map (·.2)).mem_iff]
        unfold testsOf
        rw [hfs]
        constructor
        · intro m
          obtain ⟨y, my, rfl⟩ := List.mem_map.mp m
          exact sub y my
        · exact all_ x

end
end My
set_option Elab.async false
set_option linter.all false
set_option maxRecDepth 100000
set_option maxHeartbeats 400000
namespace My
open PySem L2 PySem.Spec PyProof.Rows
section
variable {P : Program} {w : World} {K : PySem.W.Frag} {mg : Str → Option Value} {base : Heap}
/-! ### thresholds of a test -/
def strsOf : List PyData → List Str
  | [] => []
  | .str s :: r => s :: strsOf r
  | _ :: r => strsOf r
/-- a formula but its last part: texts -/
def strI (d : PyData) : List Str := strsOf (itemsD d).dropLast
def chOf (d : PyData) : Int × Int := match (itemsD d).getLast? with
  | some (.tuple [.int a, .int b]) => (a, b)
  | _ => (0, 1)
theorem strs_map : ∀ ss : List Str, strsOf (ss.map .str) = ss
  | [] => rfl
  | s :: r => congrArg (s :: ·) (strs_map r)
section
variable {hs : List Str} {as : List (Str × Bool)}
theorem init_strs {n : Nat} {d : PyData} (h : Fm hs as n d) (nm : NmOk hs as) : initD d = .tuple ((strI d).map .str) ∧ (∀ s ∈ strI d, PyData.canLay0 (.str s) = true) ∧ (strI d).length ≤ 3 ∧ ∀ s r, strI d = s :: r → hdS d = s := by
  have tell : ∀ (d : PyData) (ss : List Str) (x : PyData), d = PyData.tuple (ss.map PyData.str ++ [x]) → (∀ s ∈ ss, PyData.canLay0 (.str s) = true) → ss.length ≤ 3 → initD d = .tuple ((strI d).map .str) ∧ (∀ s ∈ strI d, PyData.canLay0 (.str s) = true) ∧ (strI d).length ≤ 3 ∧ ∀ s r, strI d = s :: r → hdS d = s := fun d ss x e c l => by
    have e1 : strI d = ss := by
      rw [e]
      show strsOf (ss.map PyData.str ++ [x]).dropLast = ss
      rw [List.dropLast_concat, strs_map]
    have e2 : initD d = .tuple (ss.map PyData.str) := by
      rw [e]
      show PyData.tuple (ss.map PyData.str ++ [x]).dropLast = _
      rw [List.dropLast_concat]
    rw [e1]
    refine ⟨e2, c, l, fun s r z => ?_⟩
    rw [e, z]
    rfl
  have lay : ∀ {s : Str}, s ∈ (["row", "block", "hash", "less", "is", "like", "not", "and", "or", "a", "b"] : List Str) → PyData.canLay0 (.str s) = true := by decide +kernel
  cases h with
  | leaf h =>
    cases h with
    | @all s _ =>
      exact tell _ [] (.str s) rfl (fun s m => by cases m) (by simp)
    | @test s t p a b _ =>
      exact tell _ [s, t] (pairD p) rfl (fun z m => by
        rcases List.mem_cons.mp m with rfl | m
        · exact lay (by rcases a with a | a <;> subst a <;> decide)
        · rw [List.mem_singleton.mp m]
          exact lay (by
            rcases List.mem_cons.mp b with e | b
            · subst e; decide
            · rw [List.mem_singleton.mp b]; decide)) (by simp)
    | @hash s n t p a b c _ =>
      exact tell _ [s, n, t] (pairD p) rfl (fun z m => by
        rcases List.mem_cons.mp m with rfl | m
        · exact lay (by subst a; decide)
        rcases List.mem_cons.mp m with rfl | m
        · exact nm.h _ b
        · rw [List.mem_singleton.mp m]
          exact lay (by
            rcases List.mem_cons.mp c with e | c
            · subst e; decide
            · rw [List.mem_singleton.mp c]; decide)) (by simp)
    | @num s n i a b _ _ =>
      exact tell _ [s, n] (.int i) rfl (fun z m => by
        rcases List.mem_cons.mp m with rfl | m
        · exact lay (by rcases a with a | a <;> subst a <;> decide)
        · rw [List.mem_singleton.mp m]
          exact nm.a _ b) (Nat.le_succ 2)
    | @txt s n t a b _ =>
      exact tell _ [s, n] (.str t) rfl (fun z m => by
        rcases List.mem_cons.mp m with rfl | m
        · exact lay (by rcases a with a | a <;> subst a <;> decide)
        · rw [List.mem_singleton.mp m]
          exact nm.a _ b) (Nat.le_succ 2)
  | @not _ e _ => exact tell _ ["not"] e rfl (fun s m => by rw [List.mem_singleton.mp m]; exact lay (by decide)) (by simp)
  | @kids _ s ks a _ _ _ => exact tell _ [s] (.tuple ks) rfl (fun z m => by rw [List.mem_singleton.mp m]; exact lay (by rcases a with a | a <;> subst a <;> decide)) (by simp)
/-- texts of a test without its chance -/
def TestKey (ss : List Str) : Prop := ∃ s r, ss = s :: r ∧ (s = "row" ∨ s = "block" ∨ s = "hash")
theorem key_test {n : Nat} {d : PyData} {ss : List Str} (h : Fm hs as n d) (nm : NmOk hs as) (k : TestKey ss) (e : strI d = ss) : isTest d = true := by
  obtain ⟨s, r, rfl, z⟩ := k
  have hd := (init_strs h nm).2.2.2 s r e
  unfold isTest
  rw [hd]
  rcases z with z | z | z <;> subst z <;> decide +kernel
theorem ch_test {d : PyData} (h : TestIs d) : ∃ ss p, ss ≠ [] ∧ d = .tuple (ss.map PyData.str ++ [pairD p]) ∧ chOf d = p ∧ p ∈ U7 ∧ strI d = ss := by
  obtain ⟨ss, p, n, rfl, u⟩ := h.ex
  refine ⟨ss, p, n, rfl, ?_, u, ?_⟩
  · unfold chOf
    show (match (ss.map PyData.str ++ [pairD p]).getLast? with | some (.tuple [.int a, .int b]) => (a, b) | _ => (0, 1)) = p
    rw [List.getLast?_concat]
    rfl
  · show strsOf (ss.map PyData.str ++ [pairD p]).dropLast = ss
    rw [List.dropLast_concat, strs_map]
end
theorem eqv_strs : ∀ ss ts : List Str, PyData.eqvAll (ss.map .str) (ts.map .str) = decide (ss = ts)
  | [], [] => rfl
  | [], _ :: _ => rfl
  | _ :: _, [] => rfl
  | s :: ss, t :: ts => by
    show (s == t && PyData.eqvAll (ss.map .str) (ts.map .str)) = decide (s :: ss = t :: ts)
    rw [eqv_strs ss ts]
    by_cases e : s = t
    · subst e
      simp
    · have e2 : (s == t) = false := beq_eq_false_iff_ne.mpr e
      rw [e2, Bool.false_and, decide_eq_false (fun z => e (List.cons.inj z).1)]
theorem lay_strs' : ∀ ss : List Str, (∀ s ∈ ss, PyData.canLay0 (.str s) = true) → PyData.canLayAll0 (ss.map .str) = true
  | [], _ => rfl
  | s :: r, h => by
    show (PyData.canLay0 (.str s) && PyData.canLayAll0 (r.map .str)) = true
    rw [h s (.head _), lay_strs' r fun t m => h t (.tail _ m)]
    rfl
theorem shaped_strs {ss : List Str} (h : ∀ s ∈ ss, PyData.canLay0 (.str s) = true) : SeqAt.shaped (.tuple (ss.map .str)) = true := by
  unfold SeqAt.shaped
  rw [Bool.and_eq_true]
  refine ⟨lay_strs' ss h, decide_eq_true ?_⟩
  have d : PyData.depthAll (ss.map .str) = 0 := by
    induction ss with
    | nil => rfl
    | cons s r ih =>
      show max 0 (PyData.depthAll (r.map .str)) = 0
      rw [ih fun t m => h t (.tail _ m)]
      rfl
  show PyData.depthAll (ss.map .str) + 1 ≤ 64
  rw [d]
  decide
/-- the chances of a test within plans -/
def chancesOf (ds : List PyData) (ss : List Str) : List (Int × Int) := ((ds.flatMap (forms 4)).filter fun f => decide (strI f = ss)).map chOf
def cutsOf (ds : List PyData) (ss : List Str) : List (Int × Int) := cutsD ((0, 1) :: (1, 1) :: chancesOf ds ss)
theorem chances_U {hs : List Str} {as : List (Str × Bool)} {ds : List PyData} {ss : List Str} (fm : ∀ d ∈ ds, Fm hs as 4 d) (nm : NmOk hs as) (k : TestKey ss) : ∀ z ∈ (0, 1) :: (1, 1) :: chancesOf ds ss, z ∈ U7 := by
  intro z m
  rcases List.mem_cons.mp m with rfl | m
  · decide
  rcases List.mem_cons.mp m with rfl | m
  · decide
  obtain ⟨f, mf, rfl⟩ := List.mem_map.mp m
  obtain ⟨m1, m2⟩ := List.mem_filter.mp mf
  obtain ⟨d, md, mf'⟩ := List.mem_flatMap.mp m1
  have ff := forms_fm 4 (fm d md) f mf'
  obtain ⟨_, _, _, _, e, u, _⟩ := ch_test (fm_test ff (key_test ff nm k (of_decide_eq_true m2))).2
  rw [e]
  exact u
def sp_thr (K : PySem.W.Frag) : Sp := fun vs H Q _ => ∃ (l : Addr) (v : V) (hs : List Str) (as : List (Str × Bool)) (ds : List PyData) (ss : List Str), vs = [.ref l, v] ∧ PlansAt K hs as H l ds ∧ Dp K H v (.tuple (ss.map .str)) ∧ TestKey ss ∧ (∀ s ∈ ss, PyData.canLay0 (.str s) = true) ∧ ∀ q ws H', Same H H' → TupN H' q ws → DpAll K H' ws ((cutsOf ds ss).map pairD) → Q (.ref q) H'
theorem ok_thresholds (T : Txt K mg) : FnOk P w K mg base CX0 3 T.a_thresholds T.d_thresholds ["plans", "test"] (sp_thr K) := by
  have G_ascending := ok_ascending (P := P) (w := w) (base := base) T
  have G_formulas_in := ok_formulas_in (P := P) (w := w) (base := base) T
  refine T.F_thresholds.ok sc_thresholds (fun vs H Q E h => ?_) (fun cdv A outer s H vs Q E hr h => ?_)
  · obtain ⟨l, v, hs, as, ds, ss, rfl, _⟩ := h
    rfl
  obtain ⟨l, v, hs, as, ds, ss, rfl, hp, hv, tk, lay, k⟩ := h
  refine ⟨_, (pss_cons (ps_setLc (i := 2) (own := [("formula", 3)]) rfl sc_thresholds.nd rfl rfl (sw_true rfl rfl rfl (by decide +kernel)) (pi_list (pe_call G_formulas_in (hr.mono (by first | decide | omega)) (by rfl) T.m_formulas_in T.F_formulas_in.kp T.b_formulas_in .nil pass0 (pa_cons (pv 0) pa_nil))) (blkOk_by (own := [("formula", 3)]) (N := ["plans", "test", "chances", "formula"]) (sc := defScope s_thresholds) (by decide +kernel)) (fun _ _ _ _ _ => (pg_name (i := 3) sc_thresholds.nd rfl (by first | exact Or.inl rfl | exact Or.inr rfl))) (fun _ _ _ _ _ => (pts_one (pt_cmpR (show OpR _ _ (rEqD K) from op_eqD (hu64 hr)) (pe_slice (show SlR _ (rSlA K) from sl_tupA) (pv 3) po_none (po_some (pe_un un_neg pe_int))) (pv 1) (nomark _)))) (fun _ _ _ _ _ => (pe_ix (show IxR _ (rIxT K) from ix_tup) (pv 3) (pe_un un_neg pe_int) (fun _ _ => rfl))))
    (pss_one (ps_ret (pe_call G_ascending (hr.mono (by first | decide | omega)) (by rfl) T.m_ascending T.F_ascending.kp T.b_ascending .nil pass0 (pa_cons (pe_op op_cat (pe_lst (pa_cons (pe_glob (v := .ref T.a_ZERO) (by rfl) T.m_ZERO rfl) (pa_cons (pe_glob (v := .ref T.a_ONE) (by rfl) T.m_ONE rfl) pa_nil))) (pv 2)) pa_nil))))), ?_⟩
  obtain ⟨_, _, _, fm, _, few, _, nm⟩ := id hp
  have cu := chances_U fm nm tk
  refine ⟨_, rfl, l, hs, as, ds, rfl, hp, fun q ws H1 g1 nq hq dq => ⟨q, rfl, ⟨_, SqL.of hq⟩, fun D hD => ?_⟩⟩
  have dq1 := dps_same g1 _ _ dq
  have lws := dps_len dq
  unfold cutsOf chancesOf at *
  generalize hfs : ds.flatMap (forms 4) = fs at *
  have ffm : ∀ f ∈ fs, Fm hs as 4 f := fun f m => by
    rw [← hfs] at m
    obtain ⟨d, md, mf⟩ := List.mem_flatMap.mp m
    exact forms_fm 4 (fm d md) f mf
  refine lc_list (K := K) (a := q) (xs := ws) (fun i H' => Same H1 H' ∧ ∃ acc, H' D = some (.lst acc) ∧ DpAll K H' acc ((((fs.take i).filter fun f => decide (strI f = ss)).map chOf).map pairD)) ⟨same_new hD _, [], upd_same, .nil⟩ (fun i H' _ z => z.1.seq (SqL.of hq)) ?_ ?_
  · rintro i x H2 hx ⟨g, acc, ea, da⟩
    have li : i < fs.length := by
      rw [← lws]
      exact (List.getElem?_eq_some_iff.mp hx).1
    have hf : fs[i]? = some fs[i] := List.getElem?_eq_getElem li
    generalize fs[i] = f at hf
    obtain ⟨x', hx', dx⟩ := dps_get dq1 hf
    rw [hx] at hx'
    cases hx'
    have ff := ffm f (List.mem_of_getElem? hf)
    obtain ⟨ei, lays, _, _⟩ := init_strs ff nm
    obtain ⟨s, r, rfl, _, _⟩ := fm_head ff
    have dx2 := dp_same g _ _ dx
    have et := take_more' hf
    refine ⟨rfl, _, rfl, no_part ⟨_, rfl, _, rfl, init_at dx2 (by simp) fun b H3 g3 db => ?_⟩⟩
    have ei' : PyData.tuple (PyData.str s :: r).dropLast = .tuple ((strI (.tuple (.str s :: r))).map .str) := ei
    rw [ei'] at db
    refine ⟨_, rfl, _, _, db, dp_same ((g1.trans g).trans g3) _ _ hv, shaped_strs lays, shaped_strs lay, _, rfl, ?_⟩
    show if PyData.eqvAll ((strI (.tuple (.str s :: r))).map .str) (ss.map .str) = true then _ else _
    rw [eqv_strs]
    by_cases c : strI (.tuple (.str s :: r)) = ss
    · rw [if_pos (decide_eq_true c)]
      obtain ⟨us, p, un, ed, ec, pu, _⟩ := ch_test (fm_test ff (key_test ff nm tk c)).2
      have dx3 := dp_same g3 _ _ dx2
      rw [ed] at dx3
      cases dx3 with
      | @tup a xs _ hxs ha =>
      have lx := dps_len ha
      rw [List.length_append, List.length_map, List.length_singleton] at lx
      obtain ⟨y, hy, dy⟩ := dps_get (i := us.length) (d := pairD p) ha (by rw [List.getElem?_append_right (by rw [List.length_map]; exact Nat.le_refl _), List.length_map, Nat.sub_self]; rfl)
      have at_ : atI xs (-1) = some y := by
        have e1 : xs = xs.take us.length ++ [y] := by
          have h2 := List.getElem?_eq_some_iff.mp hy
          obtain ⟨h3, h4⟩ := h2
          have := List.take_append_drop us.length xs
          rw [List.drop_eq_getElem_cons h3, h4, List.drop_of_length_le (by omega)] at this
          exact this.symm
        rw [e1]
        exact atI_last _ _
      have new : (((fs.take (i + 1)).filter fun f => decide (strI f = ss)).map chOf).map pairD = (((fs.take i).filter fun f => decide (strI f = ss)).map chOf).map pairD ++ [pairD p] := by
        rw [et, List.filter_append, List.filter_cons, if_pos (decide_eq_true c), List.map_append, List.map_append]
        show _ ++ [pairD (chOf (.tuple (.str s :: r)))] = _
        rw [ec]
      have la := dps_len da
      refine ⟨_, rfl, 1, rfl, a, xs, -1, y, rfl, rfl, hxs, at_, acc, g3 _ _ ea, ?_, same_upd (g.trans g3) hD, acc ++ [y], upd_same, ?_⟩
      · rw [la, List.length_map, List.length_map]
        have := List.length_filter_le (fun f => decide (strI f = ss)) (fs.take i)
        rw [List.length_take] at this
        exact small1000 (by omega)
      · rw [new]
        have tu := tup_upd0 (K := K) (o := .lst (acc ++ [y])) (g3 _ _ ea)
        have nl : ∀ l : List (Int × Int), noLs (l.map pairD) = true := fun l => noLs_all fun e m => by
          obtain ⟨z, _, rfl⟩ := List.mem_map.mp m
          rfl
        exact dps_app (dps_tups tu _ _ (nl _) (dps_same g3 _ _ da)) (.cons (dp_tups tu _ _ rfl dy) .nil)
    · rw [if_neg (by simpa using c)]
      refine ⟨g.trans g3, acc, g3 _ _ ea, ?_⟩
      rw [et, List.filter_append, List.filter_cons, if_neg (by simpa using c)]
      simpa using dps_same g3 _ _ da
  · rintro H2 ⟨g, acc, ea, da⟩
    rw [lws, List.take_length] at da
    have lf := List.length_filter_le (fun f => decide (strI f = ss)) fs
    have la := dps_len da
    rw [List.length_map, List.length_map] at la
    refine ⟨(by show 2 ≤ sizeLine; decide), fun p hp' => ?_⟩
    have g5 := same_new hp' (.lst [.ref T.a_ZERO, .ref T.a_ONE])
    refine ⟨_, rfl, p, D, _, _, rfl, rfl, upd_same, g5 _ _ ea, ?_, fun r hr' => ?_⟩
    · exact Nat.le_of_lt (small1000 (by show 2 + acc.length ≤ 1000; omega))
    have g6 := same_new hr' (.lst ([.ref T.a_ZERO, .ref T.a_ONE] ++ acc))
    refine ⟨r, _, rfl, ⟨_, SqL.of upd_same, ?_, cu, ?_⟩, fun q2 ws2 H5 g7 h7 d7 => k q2 ws2 H5 (((g1.trans g).trans g5).trans (g6.trans g7)) h7 d7⟩
    · exact .cons (pair_dp (z := (0, 1)) (T.q_ZERO _)) (.cons (pair_dp (z := (1, 1)) (T.q_ONE _)) (dps_same (g5.trans g6) _ _ da))
    · simp only [List.length_cons, List.length_map]
      omega

end
end My
set_option Elab.async false
set_option linter.all false
set_option maxRecDepth 100000
set_option maxHeartbeats 400000
namespace My
open PySem L2 PySem.Spec PyProof.Rows
section
variable {P : Program} {w : World} {K : PySem.W.Frag} {mg : Str → Option Value} {base : Heap}
/-! ### the lengths of the parts -/
theorem walk_zipTT {K : PySem.W.Frag} {a b : Addr} {xs ys : List V} {n : Nat} (hn : n = min xs.length ys.length) : Walk (RZ.ItzT K a b) n (fun H => SqT K H a xs ∧ SqT K H b ys) (YPair (fun i => xs[i]?) (fun i => ys[i]?)) := by
  subst hn
  refine ⟨fun i _ hi q => ?_, fun _ q => ⟨xs, ys, q.1, q.2, by omega⟩, fun i H v H' _ q y => ?_⟩
  · have h1 : i < xs.length := by omega
    have h2 : i < ys.length := by omega
    exact ⟨xs, ys, xs[i], ys[i], q.1, q.2, List.getElem?_eq_getElem h1, List.getElem?_eq_getElem h2⟩
  · obtain ⟨T, x, z, h1, h2, h3, h4, h5⟩ := y
    exact ⟨T, x, z, h1, h2, h3, h4 xs q.1, h5 ys q.2⟩
def lenAt (cs : List (Int × Int)) (i : Nat) : Int × Int := fMinus (cs[i + 1]?.getD (0, 1)).1 (cs[i + 1]?.getD (0, 1)).2 (cs[i]?.getD (0, 1)).1 (cs[i]?.getD (0, 1)).2
def lensL (cs : List (Int × Int)) : List (Int × Int) := (List.range (cs.length - 1)).map (lenAt cs)
theorem lens_at {cs : List (Int × Int)} {i : Nat} (h : i + 1 < cs.length) : (lensL cs)[i]? = some (lenAt cs i) := by
  unfold lensL
  rw [List.getElem?_map, List.getElem?_range (by omega)]
  rfl
theorem U7_fr {K : PySem.W.Frag} {H : Hp} {p : Addr} {z : Int × Int} (h : SqT K H p [.int z.1, .int z.2]) (m : z ∈ U7) : Fr K H p z.1 z.2 10 := by
  obtain ⟨a, b, c, d, _, e⟩ := U7_ok z m
  exact ⟨h, c, by omega, by omega, by omega⟩
theorem cuts_U (zs : List (Int × Int)) : ∀ z ∈ cutsD zs, z ∈ U7 := fun z m => (List.mem_filter.mp m).1
theorem cut_tail (xs : List V) : cutV xs (some 1) none = xs.drop 1 := by
  unfold cutV
  have e : HT.sIx xs.length 0 (some 1) = min 1 xs.length := HT.sIx_nat xs.length 0 1
  rw [e, HT.sIx_none]
  by_cases h : xs.length = 0
  · rw [List.length_eq_zero_iff.mp h]
    rfl
  · rw [show min 1 xs.length = 1 by omega]
    exact List.take_of_length_le (by rw [List.length_drop]; exact Nat.le_refl _)
theorem tail_at {K : PySem.W.Frag} {H : Hp} {p : Addr} {xs : List V} {Q : VK} (h : SqT K H p xs) (k : ∀ q H', Same H H' → SqT K H' q (xs.drop 1) → Q (.ref q) H') : rSlA K (.ref p) (some 1) none H Q := by
  refine ⟨p, xs, rfl, h, fun z => ?_, fun _ q hq => ?_⟩
  · have e : min 1 xs.length = 0 := (HT.sIx_nat xs.length 0 1).symm.trans z.1
    have e0 : xs = [] := List.length_eq_zero_iff.mp (by omega)
    subst e0
    exact k p H (Same.refl _) h
  · rw [cut_tail]
    exact k q _ (same_new hq (.tup (xs.drop 1))) (SqT.of upd_same)
theorem dps_pair_at {K : PySem.W.Frag} {H : Hp} {ws : List V} {cs : List (Int × Int)} (h : DpAll K H ws (cs.map pairD)) {i : Nat} {v : V} (hv : ws[i]? = some v) : ∃ z p, cs[i]? = some z ∧ v = .ref p ∧ SqT K H p [.int z.1, .int z.2] := by
  have l := dps_len h
  rw [List.length_map] at l
  have li := (List.getElem?_eq_some_iff.mp hv).1
  have hc : cs[i]? = some cs[i] := List.getElem?_eq_getElem (by omega)
  obtain ⟨u, hu, du⟩ := dps_get h (i := i) (d := pairD cs[i]) (by rw [List.getElem?_map, hc]; rfl)
  rw [hv] at hu
  obtain rfl := Option.some.inj hu
  obtain ⟨p, e, hp⟩ := dp_pair du
  exact ⟨_, p, hc, e, hp⟩
def sp_len (K : PySem.W.Frag) : Sp := fun vs H Q _ => ∃ (l : Addr) (v : V) (hs : List Str) (as : List (Str × Bool)) (ds : List PyData) (ss : List Str), vs = [.ref l, v] ∧ PlansAt K hs as H l ds ∧ Dp K H v (.tuple (ss.map .str)) ∧ TestKey ss ∧ (∀ s ∈ ss, PyData.canLay0 (.str s) = true) ∧ ∀ q ws H', Same H H' → SqT K H' q ws → DpAll K H' ws ((lensL (cutsOf ds ss)).map pairD) → Q (.ref q) H'
theorem ok_lengths (T : Txt K mg) : FnOk P w K mg base CX0 4 T.a_lengths T.d_lengths ["plans", "test"] (sp_len K) := by
  have G_thresholds := ok_thresholds (P := P) (w := w) (base := base) T
  have G_minus := ok_minus (P := P) (w := w) (base := base) T
  refine T.F_lengths.ok sc_lengths (fun vs H Q E h => ?_) (fun cdv A outer s H vs Q E hr h => ?_)
  · obtain ⟨l, v, hs, as, ds, ss, rfl, _⟩ := h
    rfl
  obtain ⟨l, v, hs, as, ds, ss, rfl, hp, hv, tk, lay, k⟩ := h
  refine ⟨_, (pss_cons (ps_set (i := 2) sc_lengths.nd rfl (by first | exact Or.inl rfl | exact Or.inr rfl) (pe_call G_thresholds (hr.mono (by first | decide | omega)) (by rfl) T.m_thresholds T.F_thresholds.kp T.b_thresholds .nil pass0 (pa_cons (pv 0) (pa_cons (pv 1) pa_nil))))
    (pss_one (ps_ret (pe_callTy call_tuple_of (by rfl) T.z_tuple (by decide +kernel) (pa_cons (pe_lc (own := [("low", 3), ("high", 4)]) rfl sc_lengths.nd (RZ.pi_zipA (by rfl) T.z_zip (pa_cons (pv 2) (pa_cons (pe_slice sl_tupA (pv 2) (po_some pe_int) po_none) pa_nil))) (blkOk_by (own := [("low", 3), ("high", 4)]) (N := ["plans", "test", "cuts", "low", "high"]) (sc := defScope s_lengths) (by decide +kernel)) (fun _ _ _ _ _ => (show PG _ _ (gTup K 2 (gCons (gName 3) (gCons (gName 4) gNil))) from (pg_tup rfl (pgs_cons (pg_name (i := 3) sc_lengths.nd rfl (by first | exact Or.inl rfl | exact Or.inr rfl)) (pgs_cons (pg_name (i := 4) sc_lengths.nd rfl (by first | exact Or.inl rfl | exact Or.inr rfl)) pgs_nil))))) (fun _ _ _ _ _ => pts_nil) (fun _ _ _ _ _ => (pe_call G_minus (hr.mono (by first | decide | omega)) (by rfl) T.m_minus T.F_minus.kp T.b_minus .nil pass0 (pa_cons (pv 4) (pa_cons (pv 3) pa_nil))))) pa_nil))))), ?_⟩
  refine ⟨_, rfl, _, rfl, l, v, hs, as, ds, ss, rfl, hp, hv, tk, lay, fun q ws H1 g1 hf dq => ?_⟩
  have hq : SqT K H1 q ws := hf.sq
  refine ⟨_, rfl, _, rfl, ⟨_, rfl, no_part (tail_at hq fun q2 H2 g2 h2 => ⟨q, q2, ws, ws.drop 1, rfl, .inr ⟨Same.tup g2 hq, h2, fun D hD => ?_⟩⟩)⟩⟩
  have cu : ∀ z ∈ cutsOf ds ss, z ∈ U7 := cuts_U _
  have lc7 : (cutsOf ds ss).length ≤ 7 := List.length_filter_le _ _
  generalize cutsOf ds ss = cs at *
  have lw := dps_len dq
  rw [List.length_map] at lw
  have dq2 := dps_same g2 _ _ dq
  refine lc_it (walk_zipTT (xs := ws) (ys := ws.drop 1) (n := cs.length - 1) (by rw [List.length_drop]; omega)) (fun i H' => Same H2 H' ∧ ∃ acc, H' D = some (.lst acc) ∧ DpAll K H' acc (((lensL cs).take i).map pairD)) ⟨same_new hD _, [], upd_same, .nil⟩ (fun i H' _ z => ⟨Same.tup z.1 (Same.tup g2 hq), Same.tup z.1 h2⟩) ?_ ?_
  · rintro i x H3 H' hi ⟨g, acc, ea, da⟩ ⟨t, y, z, rfl, hT, rfl, hy, hz⟩
    dsimp only at hy hz
    rw [List.getElem?_drop, Nat.add_comm] at hz
    obtain ⟨c1, p1, e1, rfl, s1⟩ := dps_pair_at dq2 hy
    obtain ⟨c2, p2, e2, rfl, s2⟩ := dps_pair_at dq2 hz
    have gT := g.trans (same_new hT (.tup [.ref p1, .ref p2]))
    have f1 := U7_fr (Same.tup gT s1) (cu _ (List.mem_of_getElem? e1))
    have f2 := U7_fr (Same.tup gT s2) (cu _ (List.mem_of_getElem? e2))
    have la := dps_len da
    have ll : (lensL cs).length = cs.length - 1 := by
      unfold lensL
      rw [List.length_map, List.length_range]
    rw [List.length_map, List.length_take, ll] at la
    refine ⟨t, _, rfl, SqT.of upd_same, rfl, _, _, rfl, _, _, rfl, rfl, rfl, _, rfl, _, rfl, p2, p1, _, _, _, _, 10, 10, rfl, f2, f1, by omega, fun r hr' => ?_⟩
    have g4 := same_new hr' (.tup [.int (fMinus c2.1 c2.2 c1.1 c1.2).1, .int (fMinus c2.1 c2.2 c1.1 c1.2).2])
    have e4 := g4 _ _ (same_new hT (.tup [.ref p1, .ref p2]) _ _ ea)
    refine ⟨acc, e4, small1000 (by omega), same_upd (gT.trans g4) hD, acc ++ [.ref r], upd_same, ?_⟩
    have at_ : (lensL cs)[i]? = some (fMinus c2.1 c2.2 c1.1 c1.2) := by
      rw [lens_at (by omega)]
      unfold lenAt
      rw [e1, e2]
      rfl
    rw [take_more' at_, List.map_append]
    have tu := tup_upd0 (K := K) (o := .lst (acc ++ [.ref r])) e4
    have nl : ∀ l : List (Int × Int), noLs (l.map pairD) = true := fun l => noLs_all fun e m => by
      obtain ⟨z, _, rfl⟩ := List.mem_map.mp m
      rfl
    exact dps_app (dps_tups tu _ _ (nl _) (dps_same ((same_new hT _).trans g4) _ _ da)) (.cons (dp_tups tu _ _ rfl (pair_dp (SqT.of upd_same))) .nil)
  · rintro H' ⟨g, acc, ea, da⟩
    rw [List.take_of_length_le (by unfold lensL; rw [List.length_map, List.length_range]; exact Nat.le_refl _)] at da
    refine ⟨D, acc, rfl, .inl ⟨SqL.of ea, fun r hr' => ?_⟩⟩
    have g4 := same_new hr' (.tup acc)
    exact k r acc _ (((g1.trans g2).trans g).trans g4) (SqT.of upd_same) (dps_same g4 _ _ da)

end
end My
set_option Elab.async false
set_option linter.all false
set_option maxRecDepth 100000
set_option maxHeartbeats 400000
namespace My
open PySem L2 PySem.Spec PyProof.Rows
section
variable {P : Program} {w : World} {K : PySem.W.Frag} {mg : Str → Option Value} {base : Heap}
/-! ### whether a formula holds, by its leaves -/
def truthD : Nat → (PyData → Bool) → PyData → Bool
  | 0, _, _ => false
  | n + 1, val, d => if hdS d = "not" then !(kidsD d).all (truthD n val) else if hdS d = "and" then (kidsD d).all (truthD n val) else if hdS d = "or" then (kidsD d).any (truthD n val) else if hdS d = "all" then true else if hdS d = "none" then false else val d
theorem truth_hd {n : Nat} {val : PyData → Bool} {s : Str} {r : List PyData} : truthD (n + 1) val (.tuple (.str s :: r)) = if s = "not" then !(kidsD (.tuple (.str s :: r))).all (truthD n val) else if s = "and" then (kidsD (.tuple (.str s :: r))).all (truthD n val) else if s = "or" then (kidsD (.tuple (.str s :: r))).any (truthD n val) else if s = "all" then true else if s = "none" then false else val (.tuple (.str s :: r)) := rfl
theorem all_map {α : Type} (l : List α) (f : α → Bool) : (l.map f).all id = l.all f := by
  induction l with
  | nil => rfl
  | cons x r ih => rw [List.map_cons, List.all_cons, List.all_cons, ih]; rfl
theorem any_map {α : Type} (l : List α) (f : α → Bool) : (l.map f).any id = l.any f := by
  induction l with
  | nil => rfl
  | cons x r ih => rw [List.map_cons, List.any_cons, List.any_cons, ih]; rfl
theorem test_hd {s : Str} {r : List PyData} (h : s = "row" ∨ s = "block" ∨ s = "hash") : isTest (.tuple (.str s :: r)) = true := by
  show (decide (s = "row") || decide (s = "block") || decide (s = "hash")) = true
  rcases h with h | h | h <;> subst h <;> decide +kernel
theorem ask_hd {s : Str} {r : List PyData} (h : s = "less" ∨ s = "is" ∨ s = "like") : isAsk (.tuple (.str s :: r)) = true := by
  show (decide (s = "less") || decide (s = "is") || decide (s = "like")) = true
  rcases h with h | h | h <;> subst h <;> decide +kernel
section
variable {hs : List Str} {as : List (Str × Bool)}
theorem leaf_of {n : Nat} {s : Str} {r : List PyData} (h : Fm hs as (n + 1) (.tuple (.str s :: r))) (h1 : s ≠ "not") (h2 : s ≠ "and") (h3 : s ≠ "or") : Leaf hs as (.tuple (.str s :: r)) := by
  cases h with
  | leaf h => exact h
  | not _ => exact absurd rfl h1
  | kids h _ _ _ => exact absurd h (by rintro (h | h); exact h2 h; exact h3 h)
theorem leaf_lvB {s : Str} {r : List PyData} (h : Leaf hs as (.tuple (.str s :: r))) (h4 : s ≠ "all") (h5 : s ≠ "none") : lvB (.tuple (.str s :: r)) = true := by
  cases h with
  | all h => exact absurd h (by rintro (h | h); exact h4 h; exact h5 h)
  | test h _ _ => exact Bool.or_eq_true_iff.mpr (.inl (test_hd (by rcases h with h | h; exact .inl h; exact .inr (.inl h))))
  | hash h _ _ _ => exact Bool.or_eq_true_iff.mpr (.inl (test_hd (.inr (.inr h))))
  | num h _ _ _ => exact Bool.or_eq_true_iff.mpr (.inr (ask_hd (by rcases h with h | h; exact .inl h; exact .inr (.inl h))))
  | txt h _ _ => exact Bool.or_eq_true_iff.mpr (.inr (ask_hd (.inr h)))
end
/-- what a dict tells of leaves -/
def TellsAt (P : Program) (w : World) (K : PySem.W.Frag) (H : Hp) (a : Addr) (val : PyData → Bool) (ls : List PyData) : Prop := ∀ f ∈ ls, ∃ E q, H a = some (DctNO P w a E) ∧ EntOk K H E ∧ (f, q, V.bl (val f)) ∈ E
theorem EntOk.same {K : PySem.W.Frag} {H H' : Hp} {E : Ents} (h : EntOk K H E) (g : Same H H') : EntOk K H' E := fun e m => ⟨dp_same g _ _ (h e m).1, (h e m).2⟩
theorem TellsAt.same {P : Program} {w : World} {K : PySem.W.Frag} {H H' : Hp} {a : Addr} {val : PyData → Bool} {ls : List PyData} (h : TellsAt P w K H a val ls) (g : Same H H') : TellsAt P w K H' a val ls := fun f m => by
  obtain ⟨E, q, e1, e2, e3⟩ := h f m
  exact ⟨E, q, g _ _ e1, e2.same g, e3⟩
def sp_truth (P : Program) (w : World) (K : PySem.W.Frag) (m : Nat) : Sp := fun vs H Q _ => ∃ (v : V) (a : Addr) (n : Nat) (hs : List Str) (as : List (Str × Bool)) (d : PyData) (val : PyData → Bool), vs = [v, .ref a] ∧ Fm hs as n d ∧ n ≤ m ∧ Dp K H v d ∧ TellsAt P w K H a val (lv n d) ∧ ∀ H', Same H H' → Q (.bl (truthD n val d)) H'
theorem tells_kid {P : Program} {w : World} {K : PySem.W.Frag} {H : Hp} {a : Addr} {val : PyData → Bool} {n : Nat} {d e : PyData} (h : TellsAt P w K H a val (lv (n + 1) d)) (m : e ∈ kidsD d) : TellsAt P w K H a val (lv n e) := fun f mf => h f (by
  rw [lv_step]
  exact List.mem_append.mpr (.inr (List.mem_flatMap.mpr ⟨e, m, mf⟩)))
theorem ok_truth (T : Txt K mg) : ∀ m, FnOk P w K mg base CX0 (m + 1) T.a_is_true T.d_is_true ["plan", "told"] (sp_truth P w K m) := by

  intro m
  induction m with
  | zero => exact T.F_is_true.ok sc_is_true (fun vs H Q E h => by obtain ⟨_, _, _, _, _, _, _, rfl, _⟩ := h; rfl) (fun cdv A outer s H vs Q E hr h => by
      obtain ⟨_, _, n, _, _, _, _, _, z, l, _⟩ := h
      obtain rfl : n = 0 := by omega
      cases z)
  | succ m G_is_true =>
    refine T.F_is_true.ok sc_is_true (fun vs H Q E h => ?_) (fun cdv A outer s H vs Q E hr h => ?_)
    · obtain ⟨_, _, _, _, _, _, _, rfl, _⟩ := h
      rfl
    obtain ⟨v, a, n, hs, as, d, val, rfl, fm, le, dv, tell, k⟩ := h
    refine ⟨_, (pss_cons (ps_if (pt_cmpR op_in_seq (pe_ix ix_tup (pv 0) pe_int (fun _ _ => rfl)) (pe_tup (pa_cons pe_str (pa_cons pe_str pa_nil))) (by with_unfolding_all rfl)) (pss_one (ps_ret (pe_cmpR op_eq (pe_ix ix_tup (pv 0) pe_int (fun _ _ => rfl)) pe_str (nomark _)))) pss_nil)
    (pss_cons (ps_if (pt_cmpR op_eq (pe_ix ix_tup (pv 0) pe_int (fun _ _ => rfl)) pe_str (nomark _)) (pss_one (ps_ret (pe_not (pe_call G_is_true (hr.mono (by first | decide | omega)) (by rfl) T.m_is_true T.F_is_true.kp T.b_is_true .nil pass0 (pa_cons (pe_ix ix_tup (pv 0) pe_int (fun _ _ => rfl)) (pa_cons (pv 1) pa_nil)))))) pss_nil)
    (pss_cons (ps_if (pt_cmpR op_eq (pe_ix ix_tup (pv 0) pe_int (fun _ _ => rfl)) pe_str (nomark _)) (pss_one (ps_ret (pe_callB (cr_all rfl) (by rfl) T.z_all (by decide +kernel) (pa_cons (pe_lc (own := [("formula", 2)]) rfl sc_is_true.nd (pi_tup (pe_ix ix_tup (pv 0) pe_int (fun _ _ => rfl))) (blkOk_by (own := [("formula", 2)]) (N := ["plan", "told", "formula"]) (sc := defScope s_is_true) (by decide +kernel)) (fun _ _ _ _ _ => (pg_name (i := 2) sc_is_true.nd rfl (by first | exact Or.inl rfl | exact Or.inr rfl))) (fun _ _ _ _ _ => pts_nil) (fun _ _ _ _ _ => (pe_call G_is_true (hr.mono (by first | decide | omega)) (by rfl) T.m_is_true T.F_is_true.kp T.b_is_true .nil pass0 (pa_cons (pv 2) (pa_cons (pv 1) pa_nil))))) pa_nil)))) pss_nil)
    (pss_cons (ps_if (pt_cmpR op_eq (pe_ix ix_tup (pv 0) pe_int (fun _ _ => rfl)) pe_str (nomark _)) (pss_one (ps_ret (pe_callB (cr_any rfl) (by rfl) T.z_any (by decide +kernel) (pa_cons (pe_lc (own := [("formula", 2)]) rfl sc_is_true.nd (pi_tup (pe_ix ix_tup (pv 0) pe_int (fun _ _ => rfl))) (blkOk_by (own := [("formula", 2)]) (N := ["plan", "told", "formula"]) (sc := defScope s_is_true) (by decide +kernel)) (fun _ _ _ _ _ => (pg_name (i := 2) sc_is_true.nd rfl (by first | exact Or.inl rfl | exact Or.inr rfl))) (fun _ _ _ _ _ => pts_nil) (fun _ _ _ _ _ => (pe_call G_is_true (hr.mono (by first | decide | omega)) (by rfl) T.m_is_true T.F_is_true.kp T.b_is_true .nil pass0 (pa_cons (pv 2) (pa_cons (pv 1) pa_nil))))) pa_nil)))) pss_nil)
    (pss_one (ps_ret (pe_dgetN (hu100 hr) (pv 1) (pv 0) (fun _ _ => rfl)))))))), ?_⟩
    obtain ⟨n, rfl⟩ : ∃ n', n = n' + 1 := by
      cases fm <;> exact ⟨_, rfl⟩
    obtain ⟨s, r, rfl, n1, n2⟩ := fm_head fm
    have fk := fm_kids fm
    have key := fm
    cases dv with
    | @tup p xs _ hs0 ha =>
    obtain ⟨x0, hx0, dx0⟩ := dps_get (i := 0) ha rfl
    have fh : flatD (.str s) = true := rfl
    have a0 : atI xs 0 = some x0 := at_of (j := 0) rfl hx0
    rw [truth_hd] at k
    refine seq_cut (fun σ' H' => σ' = [some (.ref p), some (.ref a), none] ∧ Same H H' ∧ s ≠ "all" ∧ s ≠ "none") ?_ (fun tail => ?_)
    rotate_left
    · refine ⟨_, rfl, p, xs, 0, x0, rfl, rfl, hs0, a0, (by show 2 ≤ sizeLine; decide), fun q hq => ?_⟩
      have g2 := same_new hq (.tup [.str "all", .str "none"])
      have dx := dp_same g2 _ _ dx0
      refine in_pair "all" "none" dx fh upd_same ⟨_, rfl, ?_⟩
      refine ite2 (fun c => ?_) (fun c => ?_)
      · refine ⟨_, rfl, p, xs, 0, x0, rfl, rfl, Same.tup g2 hs0, a0, scal_is dx fh _, ?_⟩
        rw [dec_is dx fh]
        have kk := k _ g2
        rcases Bool.or_eq_true_iff.mp c with z | z
        · obtain rfl : s = "all" := of_decide_eq_true z
          rw [if_neg (by decide +kernel), if_neg (by decide +kernel), if_neg (by decide +kernel), if_pos rfl] at kk
          exact kk
        · obtain rfl : s = "none" := of_decide_eq_true z
          rw [if_neg (by decide +kernel), if_neg (by decide +kernel), if_neg (by decide +kernel), if_neg (by decide +kernel), if_pos rfl] at kk
          exact kk
      · have c' := Bool.or_eq_false_iff.mp (Bool.eq_false_iff.mpr c)
        exact tail _ _ ⟨rfl, g2, of_decide_eq_false c'.1, of_decide_eq_false c'.2⟩
    rintro σ' H1 ⟨rfl, g1, m1, m2⟩
    rw [if_neg m1, if_neg m2] at k
    have ha1 := dps_same g1 _ _ ha
    have dx1 := dp_same g1 _ _ dx0
    have hs1 := Same.tup g1 hs0
    refine seq_cut (fun σ' H' => σ' = [some (.ref p), some (.ref a), none] ∧ H1 = H' ∧ s ≠ "not") ?_ (fun tail => ?_)
    rotate_left
    · refine ⟨_, rfl, p, xs, 0, x0, rfl, rfl, hs1, a0, scal_is dx1 fh _, _, rfl, ?_⟩
      rw [dec_is dx1 fh]
      refine ite2 (fun c => ?_) (fun c => tail _ _ ⟨rfl, rfl, of_decide_eq_false (Bool.eq_false_iff.mpr c)⟩)
      obtain rfl : s = "not" := of_decide_eq_true c
      obtain ⟨e, rfl⟩ := one_of (n1 rfl)
      obtain ⟨x1, hx1, d1⟩ := dps_get (i := 1) ha1 rfl
      have ek : kidsD (.tuple [.str "not", e]) = [e] := kids_not rfl
      have me : e ∈ kidsD (.tuple [.str "not", e]) := by
        rw [ek]
        exact .head _
      rw [if_pos rfl, ek] at k
      refine ⟨_, rfl, p, xs, 1, x1, rfl, rfl, hs1, at_of (j := 1) rfl hx1, _, rfl, x1, a, n, hs, as, e, val, rfl, fk e me, by omega, d1, (tells_kid tell me).same g1, fun H2 g2 => ⟨_, rfl, ?_⟩⟩
      have kk := k H2 (g1.trans g2)
      simpa using kk
    rintro σ' H1' ⟨rfl, e1, m3⟩
    subst e1
    rw [if_neg m3] at k
    refine seq_cut (fun σ' H' => σ' = [some (.ref p), some (.ref a), none] ∧ H1 = H' ∧ s ≠ "and") ?_ (fun tail => ?_)
    rotate_left
    · refine ⟨_, rfl, p, xs, 0, x0, rfl, rfl, hs1, a0, scal_is dx1 fh _, _, rfl, ?_⟩
      rw [dec_is dx1 fh]
      refine ite2 (fun c => ?_) (fun c => tail _ _ ⟨rfl, rfl, of_decide_eq_false (Bool.eq_false_iff.mpr c)⟩)
      obtain rfl : s = "and" := of_decide_eq_true c
      obtain ⟨ks, rfl⟩ := n2 (by decide +kernel)
      obtain ⟨x1, hx1, d1⟩ := dps_get (i := 1) ha1 rfl
      have ek : kidsD (.tuple [.str "and", .tuple ks]) = ks := kids_kids (by decide +kernel)
      rw [if_pos rfl, ek] at k
      rw [ek] at fk
      have tk : ∀ e ∈ ks, TellsAt P w K H1 a val (lv n e) := fun e m => (tells_kid tell (by rw [ek]; exact m)).same g1
      have lk : ks.length ≤ 3 := by
        cases fm with
        | leaf h => exact absurd h (by rintro (_ | _))
        | kids _ _ h _ => exact h
      cases d1 with
      | @tup l ys _ hl hys =>
      have ly := dps_len hys
      refine ⟨_, rfl, p, xs, 1, _, rfl, rfl, hs1, at_of (j := 1) rfl hx1, l, rfl, ⟨_, hl⟩, fun D hD => ?_⟩
      refine lc_tup (fun i H' => Same H1 H' ∧ H' D = some (.lst (((ks.take i).map (truthD n val)).map V.bl))) ⟨same_new hD _, upd_same⟩ (fun i H' _ z => Same.tup z.1 hl) ?_ ?_
      · rintro i x H2 hx ⟨g, e⟩
        have li : i < ks.length := by
          rw [← ly]
          exact (List.getElem?_eq_some_iff.mp hx).1
        have hk : ks[i]? = some ks[i] := List.getElem?_eq_getElem li
        obtain ⟨x', hx', dx'⟩ := dps_get hys hk
        rw [hx] at hx'
        obtain rfl := Option.some.inj hx'
        have mk := List.mem_of_getElem? hk
        refine ⟨rfl, _, rfl, _, rfl, x, a, n, hs, as, ks[i], val, rfl, fk _ mk, by omega, dp_same g _ _ dx', (tk _ mk).same g, fun H3 g3 => ⟨_, g3 _ _ e, ?_, same_upd (g.trans g3) hD, ?_⟩⟩
        · rw [List.length_map, List.length_map, List.length_take]
          exact small1000 (by omega)
        · rw [upd_same, take_more' hk, List.map_append, List.map_append]
          rfl
      · rintro H2 ⟨g, e⟩
        rw [ly, List.take_length] at e
        refine ⟨D, _, rfl, SqL.of e, ?_⟩
        rw [all_map]
        exact k H2 (g1.trans g)
    rintro σ' H1' ⟨rfl, e1, m4⟩
    subst e1
    rw [if_neg m4] at k
    refine seq_cut (fun σ' H' => σ' = [some (.ref p), some (.ref a), none] ∧ H1 = H' ∧ s ≠ "or") ?_ (fun tail => ?_)
    rotate_left
    · refine ⟨_, rfl, p, xs, 0, x0, rfl, rfl, hs1, a0, scal_is dx1 fh _, _, rfl, ?_⟩
      rw [dec_is dx1 fh]
      refine ite2 (fun c => ?_) (fun c => tail _ _ ⟨rfl, rfl, of_decide_eq_false (Bool.eq_false_iff.mpr c)⟩)
      obtain rfl : s = "or" := of_decide_eq_true c
      obtain ⟨ks, rfl⟩ := n2 (by decide +kernel)
      obtain ⟨x1, hx1, d1⟩ := dps_get (i := 1) ha1 rfl
      have ek : kidsD (.tuple [.str "or", .tuple ks]) = ks := kids_kids (by decide +kernel)
      rw [if_pos rfl, ek] at k
      rw [ek] at fk
      have tk : ∀ e ∈ ks, TellsAt P w K H1 a val (lv n e) := fun e m => (tells_kid tell (by rw [ek]; exact m)).same g1
      have lk : ks.length ≤ 3 := by
        cases fm with
        | leaf h => exact absurd h (by rintro (_ | _))
        | kids _ _ h _ => exact h
      cases d1 with
      | @tup l ys _ hl hys =>
      have ly := dps_len hys
      refine ⟨_, rfl, p, xs, 1, _, rfl, rfl, hs1, at_of (j := 1) rfl hx1, l, rfl, ⟨_, hl⟩, fun D hD => ?_⟩
      refine lc_tup (fun i H' => Same H1 H' ∧ H' D = some (.lst (((ks.take i).map (truthD n val)).map V.bl))) ⟨same_new hD _, upd_same⟩ (fun i H' _ z => Same.tup z.1 hl) ?_ ?_
      · rintro i x H2 hx ⟨g, e⟩
        have li : i < ks.length := by
          rw [← ly]
          exact (List.getElem?_eq_some_iff.mp hx).1
        have hk : ks[i]? = some ks[i] := List.getElem?_eq_getElem li
        obtain ⟨x', hx', dx'⟩ := dps_get hys hk
        rw [hx] at hx'
        obtain rfl := Option.some.inj hx'
        have mk := List.mem_of_getElem? hk
        refine ⟨rfl, _, rfl, _, rfl, x, a, n, hs, as, ks[i], val, rfl, fk _ mk, by omega, dp_same g _ _ dx', (tk _ mk).same g, fun H3 g3 => ⟨_, g3 _ _ e, ?_, same_upd (g.trans g3) hD, ?_⟩⟩
        · rw [List.length_map, List.length_map, List.length_take]
          exact small1000 (by omega)
        · rw [upd_same, take_more' hk, List.map_append, List.map_append]
          rfl
      · rintro H2 ⟨g, e⟩
        rw [ly, List.take_length] at e
        refine ⟨D, _, rfl, SqL.of e, ?_⟩
        rw [any_map]
        exact k H2 (g1.trans g)
    rintro σ' H1' ⟨rfl, e1, m5⟩
    subst e1
    rw [if_neg m5] at k
    have lf := leaf_of fm m3 m4 m5
    have ml : PyData.tuple (.str s :: r) ∈ lv (n + 1) (.tuple (.str s :: r)) := List.mem_filter.mpr ⟨.head _, leaf_lvB lf m1 m2⟩
    obtain ⟨E', q, t1, t2, t3⟩ := (tell _ ml)
    exact ⟨_, rfl, _, rfl, a, p, _, E', q, _, rfl, rfl, .tup hs1 ha1, (leaf_key lf).1, g1 _ _ t1, t2.same g1, t3, k H1 g1⟩

end
end My
set_option Elab.async false
set_option linter.all false
set_option maxRecDepth 100000
set_option maxHeartbeats 400000
namespace My
open PySem L2 PySem.Spec PyProof.Rows
section
variable {P : Program} {w : World} {K : PySem.W.Frag} {mg : Str → Option Value} {base : Heap}
/-! ### a dict of leaves, filled one by one; holds_at -/
def ToldAt (P : Program) (w : World) (K : PySem.W.Frag) (H : Hp) (t : Addr) (val : PyData → Bool) (done : List PyData) : Prop := ∃ E : Ents, (H t = some (DctNO P w t E) ∨ E = [] ∧ H t = some (.dK [])) ∧ EntOk K H E ∧ (∀ e ∈ E, noL e.1 = true ∧ e.2.2 = .bl (val e.1)) ∧ E.length ≤ done.length ∧ ∀ f ∈ done, lvB f = true → ∃ q, (f, q, V.bl (val f)) ∈ E
theorem ToldAt.same {P : Program} {w : World} {K : PySem.W.Frag} {H H' : Hp} {t : Addr} {val : PyData → Bool} {done : List PyData} (z : ToldAt P w K H t val done) (g : Same H H') : ToldAt P w K H' t val done := by
  obtain ⟨E, h, e, n, l, a⟩ := z
  exact ⟨E, h.imp (g _ _) (And.imp_right (g _ _)), e.same g, n, l, a⟩
theorem ToldAt.tells {P : Program} {w : World} {K : PySem.W.Frag} {H : Hp} {t : Addr} {val : PyData → Bool} {done : List PyData} (z : ToldAt P w K H t val done) : TellsAt P w K H t val (done.filter lvB) := fun f m => by
  obtain ⟨E, h, e, n, l, a⟩ := z
  obtain ⟨q, m2⟩ := a f (List.mem_filter.mp m).1 (List.mem_filter.mp m).2
  rcases h with h | ⟨rfl, _⟩
  · exact ⟨E, q, h, e, m2⟩
  · cases m2
theorem ToldAt.skip {P : Program} {w : World} {K : PySem.W.Frag} {H : Hp} {t : Addr} {val : PyData → Bool} {done : List PyData} {f : PyData} (z : ToldAt P w K H t val done) (n : lvB f = false) : ToldAt P w K H t val (done ++ [f]) := by
  obtain ⟨E, h, e, nl, l, a⟩ := z
  refine ⟨E, h, e, nl, by rw [List.length_append]; omega, fun x m y => ?_⟩
  rcases List.mem_append.mp m with m | m
  · exact a x m y
  · obtain rfl := List.mem_singleton.mp m
    rw [n] at y
    cases y
theorem ToldAt.set {t : Addr} {H : Hp} {P : Program} {w : World} {K : PySem.W.Frag} {val : PyData → Bool} {done : List PyData} {f : PyData} {p : Addr} {Q : Hp → Prop} (z : ToldAt P w K H t val done) (dp : Dp K H (.ref p) f) (kd : KeyOk f) (nl : noL f = true) (len : done.length < 1000)
    (k : ∀ E', (∀ b xs, SqT K H b xs → SqT K (upd H t (DctNO P w t E')) b xs) → ToldAt P w K (upd H t (DctNO P w t E')) t val (done ++ [f]) → Q (upd H t (DctNO P w t E'))) : rPutN K P w (.ref t) (.ref p) (.bl (val f)) H Q := by
  obtain ⟨E, h, e, n, l, a⟩ := z
  refine ⟨t, p, f, E, rfl, rfl, dp, kd, h, e, small1000 (by omega), fun E' st => ?_⟩
  have tu : ∀ b xs, SqT K H b xs → SqT K (upd H t (DctNO P w t E')) b xs := fun b xs s => by
    have ht : H t = some (DctNO P w t E) ∨ H t = some (.dK []) := h.imp id And.right
    have st : ∀ u : HO, (∀ φ, u ≠ .ext φ) → (u ≠ .dK []) → H b = some u → upd H t (DctNO P w t E') b = some u := fun u h1 h2 e => by
      rw [upd_ne (fun z => ?_)]
      · exact e
      · rw [z] at e
        rcases ht with q | q <;> rw [q] at e
        · exact h1 _ (Option.some.inj e).symm
        · exact h2 (Option.some.inj e).symm
    rcases s with (s | ⟨q, s⟩) | s
    · exact .inl (.inl (st _ (fun φ z => by cases z) (fun z => by cases z) s))
    · exact .inl (.inr ⟨q, st _ (fun φ z => by cases z) (fun z => by cases z) s⟩)
    · exact .inr s
  refine k E' tu ⟨E', .inl upd_same, ?_, ?_, ?_, ?_⟩
  · intro x mx
    rcases st.old x mx with ⟨m, _⟩ | ⟨e1, _, m⟩
    · exact ⟨dp_tups tu _ _ (n x m).1 (e x m).1, (e x m).2⟩
    · refine ⟨?_, by rw [e1]; exact kd⟩
      rw [e1]
      rcases m with m | ⟨u, m⟩
      · rw [m]
        exact dp_tups tu _ _ nl dp
      · exact dp_tups tu _ _ nl (e _ m).1
  · intro x mx
    rcases st.old x mx with ⟨m, _⟩ | ⟨e1, e2, _⟩
    · exact n x m
    · rw [e2, e1]
      exact ⟨nl, rfl⟩
  · rw [List.length_append]
    have := st.len
    show E'.length ≤ done.length + 1
    omega
  · intro x mx y
    by_cases c : x = f
    · subst c
      exact st.new
    · rcases List.mem_append.mp mx with m | m
      · obtain ⟨q, m2⟩ := a x m y
        exact ⟨q, st.keep _ m2 c⟩
      · exact absurd (List.mem_singleton.mp m) c
section
variable {hs : List Str} {as : List (Str × Bool)}
theorem test_key {n : Nat} {f : PyData} (h : Fm hs as n f) (nm : NmOk hs as) (it : isTest f = true) : TestKey (strI f) := by
  obtain ⟨ss, p, n0, e, _, _, es⟩ := ch_test (fm_test h it).2
  match ss, n0 with
  | s :: r, _ =>
    refine ⟨s, r, es, ?_⟩
    have hd := (init_strs h nm).2.2.2 s r es
    unfold isTest at it
    rw [hd] at it
    simpa [or_assoc] using it
theorem ch_of {n : Nat} {f : PyData} (h : Fm hs as n f) (it : isTest f = true) : ∃ ss : List Str, f = .tuple (ss.map PyData.str ++ [pairD (chOf f)]) ∧ strI f = ss := by
  obtain ⟨ss, p, _, e, c, _, es⟩ := ch_test (fm_test h it).2
  exact ⟨ss, by rw [c]; exact e, es⟩
end
theorem pairs_key : ∀ cs : List (Int × Int), keyBs (cs.map pairD) = true
  | [] => rfl
  | c :: r => by
    show (keyB (pairD c) && keyBs (r.map pairD)) = true
    rw [pairs_key r]
    rfl
theorem pair_depth (z : Int × Int) : (keyD (pairD z)).depth ≤ 8 := Nat.le_of_ble_eq_true rfl
/-- what holds_at goes by -/
def valD (ds : List PyData) (av : PyData → Bool) (pt : PyData → Int) (f : PyData) : Bool := if isAsk f = true then av f else decide (pt (initD f) < ((posD ((cutsOf ds (strI f)).map pairD) (pairD (chOf f)) : Nat) : Int))
def PartAt (P : Program) (w : World) (K : PySem.W.Frag) (H : Hp) (a : Addr) (pt : PyData → Int) (ts : List PyData) : Prop := ∀ t ∈ ts, ∃ E q, H a = some (DctNO P w a E) ∧ EntOk K H E ∧ (t, q, V.int (pt t)) ∈ E
theorem PartAt.same {P : Program} {w : World} {K : PySem.W.Frag} {H H' : Hp} {a : Addr} {pt : PyData → Int} {ts : List PyData} (h : PartAt P w K H a pt ts) (g : Same H H') : PartAt P w K H' a pt ts := fun f m => by
  obtain ⟨E, q, e1, e2, e3⟩ := h f m
  exact ⟨E, q, g _ _ e1, e2.same g, e3⟩
theorem ch_mem {hs : List Str} {as : List (Str × Bool)} {ds : List PyData} {f : PyData} (fm : ∀ d ∈ ds, Fm hs as 4 d) (nm : NmOk hs as) (m : f ∈ ds.flatMap (forms 4)) (it : isTest f = true) : chOf f ∈ cutsOf ds (strI f) := by
  have ff : Fm hs as 4 f := by
    obtain ⟨d, md, mf⟩ := List.mem_flatMap.mp m
    exact forms_fm 4 (fm d md) f mf
  refine (mem_cuts (chances_U fm nm (test_key ff nm it))).mpr (.tail _ (.tail _ ?_))
  exact List.mem_map.mpr ⟨f, List.mem_filter.mpr ⟨m, decide_eq_true rfl⟩, rfl⟩
def sp_holds (P : Program) (w : World) (K : PySem.W.Frag) : Sp := fun vs H Q _ => ∃ (l an pa : Addr) (v : V) (hs : List Str) (as : List (Str × Bool)) (ds : List PyData) (d : PyData) (av : PyData → Bool) (pt : PyData → Int), vs = [.ref l, v, .ref an, .ref pa] ∧ PlansAt K hs as H l ds ∧ d ∈ ds ∧ Dp K H v d ∧ TellsAt P w K H an av ((ds.flatMap (lv 4)).filter isAsk) ∧ PartAt P w K H pa pt (testsOf ds) ∧ ∀ H', Same H H' → Q (.bl (truthD 4 (valD ds av pt) d)) H'
theorem ok_is_true (T : Txt K mg) : FnOk P w K mg base CX0 10 T.a_is_true T.d_is_true ["plan", "told"] (sp_truth P w K 9) := ok_truth T 9
theorem ok_holds_at (T : Txt K mg) : FnOk P w K mg base CX0 11 T.a_holds_at T.d_holds_at ["plans", "plan", "answers", "parts"] (sp_holds P w K) := by
  have G_formulas_in := ok_formulas_in (P := P) (w := w) (base := base) T
  have G_is_true := ok_is_true (P := P) (w := w) (base := base) T
  have G_thresholds := ok_thresholds (P := P) (w := w) (base := base) T
  refine T.F_holds_at.ok sc_holds_at (fun vs H Q E h => ?_) (fun cdv A outer s H vs Q E hr h => ?_)
  · obtain ⟨l, an, pa, v, hs, as, ds, d, av, pt, rfl, _⟩ := h
    rfl
  obtain ⟨l, an, pa, v, hs, as, ds, d, av, pt, rfl, hp, md, dv, ht, hpt, k⟩ := h
  refine ⟨_, (pss_cons (ps_set (i := 4) sc_holds_at.nd rfl (by first | exact Or.inl rfl | exact Or.inr rfl) pe_dnewK)
    (pss_cons (ps_for PassesOwn.never rfl (pi_list (pe_call G_formulas_in (hr.mono (by first | decide | omega)) (by rfl) T.m_formulas_in T.F_formulas_in.kp T.b_formulas_in .nil pass0 (pa_cons (pe_lst (pa_cons (pv 1) pa_nil)) pa_nil))) (pg_name (i := 5) sc_holds_at.nd rfl (by first | exact Or.inl rfl | exact Or.inr rfl))
    (pss_one (ps_if (pt_cmpR op_in_seq (pe_ix ix_tup (pv 5) pe_int (fun _ _ => rfl)) (pe_glob (v := .ref T.a_ASKS) (by rfl) T.m_ASKS rfl) (by with_unfolding_all rfl)) (pss_one (ps_asg (pe_dgetN (hu100 hr) (pv 2) (pv 5) (fun _ _ => rfl)) (pg_sub (pv 4) (pv 5) (set_dictN (hu100 hr))))) (pss_one (ps_if (pt_cmpR op_in_seq (pe_ix ix_tup (pv 5) pe_int (fun _ _ => rfl)) (pe_glob (v := .ref T.a_TESTS) (by rfl) T.m_TESTS rfl) (by with_unfolding_all rfl)) (pss_cons (ps_par (i := 6) (j := 7) rfl sc_holds_at.nd rfl rfl (by decide) rfl rfl (pa_cons (pe_slice sl_tupA (pv 5) po_none (po_some (pe_un un_neg pe_int))) (pa_cons (pe_ix ix_tup (pv 5) (pe_un un_neg pe_int) (fun _ _ => rfl)) pa_nil)) (by rfl))
    (pss_one (ps_asg (pe_cmpR op_lt (pe_dgetN (hu100 hr) (pv 3) (pv 6) (fun _ _ => rfl)) (pe_bmT PySem.F.plainAttrs_tuple PySem.F.slot_tuple_index PySem.F.type_tuple_index (mt_idxT (hu100 hr)) (pe_call G_thresholds (hr.mono (by first | decide | omega)) (by rfl) T.m_thresholds T.F_thresholds.kp T.b_thresholds .nil pass0 (pa_cons (pv 0) (pa_cons (pv 6) pa_nil))) (pa_cons (pv 7) pa_nil)) (nomark _)) (pg_sub (pv 4) (pv 5) (set_dictN (hu100 hr)))))) pss_nil)))))
    (pss_one (ps_ret (pe_call G_is_true (hr.mono (by first | decide | omega)) (by rfl) T.m_is_true T.F_is_true.kp T.b_is_true .nil pass0 (pa_cons (pv 1) (pa_cons (pv 4) pa_nil))))))), ?_⟩
  obtain ⟨_, _, _, fm, few0, few, few57, nm⟩ := id hp
  have fd := fm d md
  have sub : ∀ {f}, f ∈ forms 4 d → f ∈ ds.flatMap (forms 4) := fun m => List.mem_flatMap.mpr ⟨d, md, m⟩
  have l4 : ([d].flatMap (forms 4)) = forms 4 d := by
    rw [List.flatMap_cons, List.flatMap_nil, List.append_nil]
  have lf : (forms 4 d).length ≤ 900 := by
    refine Nat.le_trans ?_ few
    rw [List.flatMap_def]
    exact (List.sublist_flatten_of_mem (List.mem_map.mpr ⟨d, md, rfl⟩)).length_le
  have lf7 : (lv 4 d).length ≤ 57 := by
    refine Nat.le_trans ?_ few57
    rw [List.flatMap_def]
    exact (List.sublist_flatten_of_mem (List.mem_map.mpr ⟨d, md, rfl⟩)).length_le
  refine fun t ht0 => ?_
  have g0 := same_new ht0 (.dK [])
  have et0 : upd H t (.dK []) t = some (.dK []) := upd_same
  generalize upd H t (.dK []) = H0 at *
  refine ⟨_, rfl, (by show 1 ≤ sizeLine; decide), fun p0 hp0 => ?_⟩
  have g1 := same_new hp0 (.lst [v])
  have e1 : upd H0 p0 (.lst [v]) p0 = some (.lst [v]) := upd_same
  have et1 := g1 _ _ et0
  have g01 := g0.trans g1
  generalize upd H0 p0 (.lst [v]) = H1 at *
  refine ⟨p0, hs, as, [d], rfl, ⟨[v], SqL.of e1, .cons (dp_same g01 _ _ dv) .nil, fun x m => (by obtain rfl := List.mem_singleton.mp m; exact fd), (by simp), by rw [l4]; exact lf, by rw [List.flatMap_cons, List.flatMap_nil, List.append_nil]; exact lf7, nm⟩, fun q ws H2 g2 nq hq dq => ?_⟩
  rw [l4] at dq
  generalize hfs : forms 4 d = fs at *
  have lws := dps_len dq
  have dq2 := dps_same g2 _ _ dq
  have g02 := g01.trans g2
  have et2 := g2 _ _ et1
  have ntq : t ≠ q := fun z => by
    rw [z] at et1
    rw [nq] at et1
    cases et1
  refine ⟨q, rfl, ⟨_, SqL.of hq⟩, for_it (walk_list (xs := ws)) (fun i σ' H' => ∃ x5 x6 x7, σ' = [some (.ref l), some v, some (.ref an), some (.ref pa), some (.ref t), x5, x6, x7] ∧ Same H H' ∧ H' q = some (.lst ws) ∧ DpAll K H' ws fs ∧ ToldAt P w K H' t (valD ds av pt) (fs.take i)) ⟨_, _, _, rfl, g02, hq, dq2, [], .inr ⟨rfl, et2⟩, (fun e m => by cases m), (fun e m => by cases m), Nat.le_refl _, fun e m => by cases m⟩ (fun i σ' H' _ z => ?_) ?_ ?_⟩
  · obtain ⟨_, _, _, _, _, z, _⟩ := z
    exact SqL.of z
  · rintro i x σ' H' H'' hi ⟨x5, x6, x7, rfl, g, hq', dq', tl⟩ ⟨e'', hx⟩
    subst e''
    have li : i < fs.length := by omega
    have hf : fs[i]? = some fs[i] := List.getElem?_eq_getElem li
    generalize fs[i] = f at hf
    obtain ⟨x', hx', dx⟩ := dps_get dq' hf
    rw [hx] at hx'
    obtain rfl := Option.some.inj hx'
    have mf : f ∈ fs := List.mem_of_getElem? hf
    have ff := forms_fm 4 fd f (by rw [hfs]; exact mf)
    have nlf := fm_noL ff
    have lt900 : (fs.take i).length < 1000 := by
      rw [List.length_take]
      omega
    have mds := sub mf
    have et := take_more' hf
    have nofs : noLs fs = true := noLs_all fun e m => fm_noL (forms_fm 4 fd e (by rw [hfs]; exact m))
    -- what follows a set
    have nxt : ∀ (y6 y7 : Option V) (H3 : Hp) E', Same H'' H3 → (∀ b xs, SqT K H3 b xs → SqT K (upd H3 t (DctNO P w t E')) b xs) → ToldAt P w K (upd H3 t (DctNO P w t E')) t (valD ds av pt) (fs.take i ++ [f]) → (∃ x5 x6 x7, [some (.ref l), some v, some (.ref an), some (.ref pa), some (.ref t), some x, y6, y7] = [some (.ref l), some v, some (.ref an), some (.ref pa), some (.ref t), x5, x6, x7] ∧ Same H (upd H3 t (DctNO P w t E')) ∧ upd H3 t (DctNO P w t E') q = some (.lst ws) ∧ DpAll K (upd H3 t (DctNO P w t E')) ws fs ∧ ToldAt P w K (upd H3 t (DctNO P w t E')) t (valD ds av pt) (fs.take (i + 1))) := fun x6 x7 H3 E' g3 tu z => by
      refine ⟨_, x6, x7, rfl, same_upd (g.trans g3) ht0, ?_, dps_tups tu _ _ nofs (dps_same g3 _ _ dq'), ?_⟩
      · rw [upd_ne (Ne.symm ntq)]
        exact g3 _ _ hq'
      · rw [et]
        exact z
    obtain ⟨s0, r, rfl, _, _⟩ := fm_head ff
    cases id dx with
    | @tup p xs _ hxs ha =>
    obtain ⟨x0, hx0, d0⟩ := dps_get (i := 0) ha rfl
    obtain rfl := dp_str d0
    refine ⟨_, rfl, p, xs, 0, _, rfl, rfl, hxs, at_of (j := 0) rfl hx0, ?_⟩
    refine ⟨T.a_ASKS, _, rfl, .inr (T.q_ASKS H''), rfl, rfl, _, rfl, ?_⟩
    rw [inV3 (K := K)]
    refine ite2 (fun c => ?_) (fun c => ?_)
    · have ia : isAsk (.tuple (.str s0 :: r)) = true := c
      have lb : lvB (.tuple (.str s0 :: r)) = true := by
        unfold lvB
        rw [ia, Bool.or_true]
      have lf0 := fm_lv ff lb
      have kf := (leaf_key lf0).1
      have mlv : PyData.tuple (.str s0 :: r) ∈ (ds.flatMap (lv 4)).filter isAsk := List.mem_filter.mpr ⟨by
        rw [← lv_flat]
        exact List.mem_filter.mpr ⟨mds, lb⟩, ia⟩
      obtain ⟨E1, q1, a1, a2, a3⟩ := (ht.same g) _ mlv
      have ev : av (.tuple (.str s0 :: r)) = valD ds av pt (.tuple (.str s0 :: r)) := (if_pos ia).symm
      refine ⟨_, rfl, _, rfl, an, p, _, E1, q1, _, rfl, rfl, dx, kf, a1, a2, a3, _, rfl, _, rfl, ?_⟩
      rw [ev]
      exact tl.set dx kf nlf lt900 fun E' tu z => nxt x6 x7 H'' E' (Same.refl _) tu z
    · refine ⟨_, rfl, p, xs, 0, _, rfl, rfl, hxs, at_of (j := 0) rfl hx0, ?_⟩
      refine ⟨T.a_TESTS, _, rfl, .inr (T.q_TESTS H''), rfl, rfl, _, rfl, ?_⟩
      rw [inV3 (K := K)]
      have na : isAsk (.tuple (.str s0 :: r)) = false := Bool.eq_false_iff.mpr c
      refine ite2 (fun c2 => ?_) (fun c2 => ?_)
      · have it : isTest (.tuple (.str s0 :: r)) = true := c2
        have tk := test_key ff nm it
        obtain ⟨ss, es, ess⟩ := ch_of ff it
        obtain ⟨ei, lays, l3, _⟩ := init_strs ff nm
        have ei' : PyData.tuple (PyData.str s0 :: r).dropLast = .tuple ((strI (.tuple (.str s0 :: r))).map .str) := ei
        have lb : lvB (.tuple (.str s0 :: r)) = true := by
          unfold lvB
          rw [it]
          rfl
        have lf0 := fm_lv ff lb
        have kf := (leaf_key lf0).1
        have lx := dps_len ha
        rw [show PyData.str s0 :: r = ss.map PyData.str ++ [pairD (chOf (.tuple (.str s0 :: r)))] from PyData.tuple.inj es] at ha
        obtain ⟨y, hy, dy⟩ := dps_get (i := ss.length) (d := pairD (chOf (.tuple (.str s0 :: r)))) ha (by rw [List.getElem?_append_right (by rw [List.length_map]; exact Nat.le_refl _), List.length_map, Nat.sub_self]; rfl)
        have lx := dps_len ha
        rw [List.length_append, List.length_map, List.length_singleton] at lx
        have at_ : atI xs (-1) = some y := by
          have e1 : xs = xs.take ss.length ++ [y] := by
            obtain ⟨h3, h4⟩ := List.getElem?_eq_some_iff.mp hy
            have := List.take_append_drop ss.length xs
            rw [List.drop_eq_getElem_cons h3, h4, List.drop_of_length_le (by omega)] at this
            exact this.symm
          rw [e1]
          exact atI_last _ _
        refine ⟨_, rfl, no_part ⟨_, rfl, _, rfl, init_at dx (by simp) fun b H3 g3 db => ?_⟩⟩
        rw [ei'] at db
        refine ⟨_, rfl, 1, rfl, p, xs, -1, y, rfl, rfl, Same.tup g3 hxs, at_, ?_⟩
        have mt : PyData.tuple ((strI (.tuple (.str s0 :: r))).map .str) ∈ testsOf ds := List.mem_map.mpr ⟨_, List.mem_filter.mpr ⟨mds, it⟩, ei⟩
        obtain ⟨E1, q1, a1, a2, a3⟩ := (hpt.same (g.trans g3)) _ mt
        have kt : KeyOk (.tuple ((strI (.tuple (.str s0 :: r))).map .str)) := rowOk_deep (str_row _)
        refine ⟨_, _, rfl, ?_⟩
        refine ⟨_, rfl, _, rfl, pa, b, _, E1, q1, _, rfl, rfl, db, kt, a1, a2, a3, _, rfl, _, rfl, l, .ref b, hs, as, ds, _, rfl, hp.same (g.trans g3), db, tk, lays, fun q2 ws2 H4 g4 h4 d4 => ?_⟩
        have dy4 := dp_same (g3.trans g4) _ _ dy
        have mc := ch_mem fm nm (by rw [← hfs] at mf; exact List.mem_flatMap.mpr ⟨d, md, mf⟩) it
        refine ⟨q2, ws2, rfl, h4, _, rfl, q2, y, ws2, _, _, rfl, rfl, h4.sq, d4, dy4, pairs_key _, rfl, (pair_depth _), List.mem_map.mpr ⟨_, mc, rfl⟩, ?_⟩
        refine ⟨_, _, rfl, rfl, _, rfl, _, rfl, ?_⟩
        have ev : decide (pt (.tuple ((strI (.tuple (.str s0 :: r))).map .str)) < ((posD ((cutsOf ds (strI (.tuple (.str s0 :: r)))).map pairD) (pairD (chOf (.tuple (.str s0 :: r)))) : Nat) : Int)) = valD ds av pt (.tuple (.str s0 :: r)) := by
          unfold valD
          rw [if_neg (by rw [na]; exact Bool.false_ne_true), ei]
        dsimp only
        rw [ev]
        exact (tl.same (g3.trans g4)).set (dp_same (g3.trans g4) _ _ dx) kf nlf lt900 fun E' tu z => nxt _ _ H4 E' (g3.trans g4) tu z
      · have nt : isTest (.tuple (.str s0 :: r)) = false := Bool.eq_false_iff.mpr c2
        have nl : lvB (.tuple (.str s0 :: r)) = false := by
          unfold lvB
          rw [na, nt]
          rfl
        refine ⟨_, x6, x7, rfl, g, hq', dq', ?_⟩
        rw [et]
        exact tl.skip nl
  · rintro σ' H' ⟨x5, x6, x7, rfl, g, hq', dq', tl⟩
    rw [lws, List.take_length] at tl
    refine ⟨_, rfl, _, rfl, v, t, 4, hs, as, d, _, rfl, fd, by omega, dp_same g _ _ dv, ?_, fun H3 g3 => k H3 (g.trans g3)⟩
    have z := tl.tells
    rw [← hfs] at z
    exact z

end
end My
set_option Elab.async false
set_option linter.all false
set_option maxRecDepth 100000
set_option maxHeartbeats 400000
namespace My
open PySem L2 PySem.Spec PyProof.Rows
section
variable {P : Program} {w : World} {K : PySem.W.Frag} {mg : Str → Option Value} {base : Heap}
/-! ### the law's sums -/
theorem U7_sum : ∀ z ∈ U7, ∀ w ∈ U7, fPlus z.1 z.2 (fMinus w.1 w.2 z.1 z.2).1 (fMinus w.1 w.2 z.1 z.2).2 = w ∧ (fMinus w.1 w.2 z.1 z.2).1.natAbs < 2 ^ 20 ∧ (fMinus w.1 w.2 z.1 z.2).2.natAbs < 2 ^ 20 ∧ 0 < (fMinus w.1 w.2 z.1 z.2).2 := by decide +kernel
def sp_plus (K : PySem.W.Frag) : Sp := fun vs H Q _ => ∃ (p q : Addr) (a b c d : Int), vs = [.ref p, .ref q] ∧ SqT K H p [.int a, .int b] ∧ SqT K H q [.int c, .int d] ∧ 0 < b ∧ 0 < d ∧ a.natAbs < 2 ^ 20 ∧ b.natAbs < 2 ^ 20 ∧ c.natAbs < 2 ^ 20 ∧ d.natAbs < 2 ^ 20 ∧ newF H Q (fPlus a b c d)
theorem small_mul {i j : Int} (h : i.natAbs < 2 ^ 20) : CMul i j := .inl ⟨by omega, by omega⟩
theorem ok__law_plus (T : Txt K mg) : FnOk P w K mg base CX0 2 T.a__law_plus T.d__law_plus ["one", "other"] (sp_plus K) := by
  have G__law_low := ok__law_low (P := P) (w := w) (base := base) T
  refine T.F__law_plus.ok sc__law_plus (fun vs H Q E h => ?_) (fun cdv A outer s H vs Q E hr h => ?_)
  · obtain ⟨p, q, a, b, c, d, rfl, _⟩ := h
    rfl
  obtain ⟨p, q, a, b, c, d, rfl, tp, tq, b0, d0, a1, b1, c1, d1, k⟩ := h
  refine ⟨_, (pss_one (ps_ret (pe_call G__law_low (hr.mono (by first | decide | omega)) (by rfl) T.m__law_low T.F__law_low.kp T.b__law_low .nil pass0 (pa_cons (pe_op op_add (pe_op op_mul (pe_ix ix_tup (pv 0) pe_int (fun _ _ => rfl)) (pe_ix ix_tup (pv 1) pe_int (fun _ _ => rfl))) (pe_op op_mul (pe_ix ix_tup (pv 1) pe_int (fun _ _ => rfl)) (pe_ix ix_tup (pv 0) pe_int (fun _ _ => rfl)))) (pa_cons (pe_op op_mul (pe_ix ix_tup (pv 0) pe_int (fun _ _ => rfl)) (pe_ix ix_tup (pv 1) pe_int (fun _ _ => rfl))) pa_nil))))), ?_⟩
  refine ⟨_, rfl, p, _, _, _, rfl, rfl, tp, at_of (j := 0) rfl rfl, _, rfl, q, _, _, _, rfl, rfl, tq, at_of (j := 1) rfl rfl, _, _, rfl, rfl, small_mul a1, ?_⟩
  refine ⟨_, rfl, q, _, _, _, rfl, rfl, tq, at_of (j := 0) rfl rfl, _, rfl, p, _, _, _, rfl, rfl, tp, at_of (j := 1) rfl rfl, _, _, rfl, rfl, small_mul c1, _, _, rfl, rfl, ?_⟩
  refine ⟨_, rfl, p, _, _, _, rfl, rfl, tp, at_of (j := 1) rfl rfl, _, rfl, q, _, _, _, rfl, rfl, tq, at_of (j := 1) rfl rfl, _, _, rfl, rfl, small_mul b1, ?_⟩
  have h1 : (a * d).natAbs < 2 ^ 40 := wide_lt a1 d1
  have h2 : (c * b).natAbs < 2 ^ 40 := wide_lt c1 b1
  exact ⟨_, _, 41, rfl, Int.mul_pos b0 d0, by omega, Nat.lt_of_lt_of_le (wide_lt b1 d1) (by decide), by omega, by omega, k⟩
theorem cuts_ends {zs : List (Int × Int)} (h0 : (0, 1) ∈ zs) (h1 : (1, 1) ∈ zs) : ∃ mid, cutsD zs = (0, 1) :: mid ++ [(1, 1)] := by
  refine ⟨[(1, 4), (1, 3), (1, 2), (2, 3), (997, 1000)].filter fun u => decide (u ∈ zs), ?_⟩
  show (((0, 1) :: [(1, 4), (1, 3), (1, 2), (2, 3), (997, 1000)] ++ [(1, 1)] : List (Int × Int))).filter (fun u => decide (u ∈ zs)) = _
  rw [List.filter_append, List.filter_cons, if_pos (decide_eq_true h0)]
  have e : [((1, 1) : Int × Int)].filter (fun u => decide (u ∈ zs)) = [(1, 1)] := by
    rw [List.filter_cons, if_pos (decide_eq_true h1)]
    rfl
  rw [e]
def sp_total (K : PySem.W.Frag) : Sp := fun vs H Q _ => ∃ (R : Addr) (ws : List V) (zs : List (Int × Int)), vs = [.ref R] ∧ SqL K H R ws ∧ DpAll K H ws ((lensL (cutsD zs)).map pairD) ∧ (0, 1) ∈ zs ∧ (1, 1) ∈ zs ∧ ∀ q H', Same H H' → SqT K H' q [.int 1, .int 1] → Q (.ref q) H'
theorem ok__law_total (T : Txt K mg) : FnOk P w K mg base CX0 3 T.a__law_total T.d__law_total ["rows"] (sp_total K) := by
  have G__law_plus := ok__law_plus (P := P) (w := w) (base := base) T
  refine T.F__law_total.ok sc__law_total (fun vs H Q E h => ?_) (fun cdv A outer s H vs Q E hr h => ?_)
  · obtain ⟨R, ws, zs, rfl, _⟩ := h
    rfl
  obtain ⟨R, ws, zs, rfl, hR, dw, h0, h1, k⟩ := h
  refine ⟨_, (pss_cons (ps_set (i := 1) sc__law_total.nd rfl (by first | exact Or.inl rfl | exact Or.inr rfl) (pe_tup (pa_cons pe_int (pa_cons pe_int pa_nil))))
    (pss_cons (ps_for PassesOwn.never rfl (pi_list (pv 0)) (pg_name (i := 2) sc__law_total.nd rfl (by first | exact Or.inl rfl | exact Or.inr rfl))
    (pss_one (ps_set (i := 1) sc__law_total.nd rfl (by first | exact Or.inl rfl | exact Or.inr rfl) (pe_call G__law_plus (hr.mono (by first | decide | omega)) (by rfl) T.m__law_plus T.F__law_plus.kp T.b__law_plus .nil pass0 (pa_cons (pv 1) (pa_cons (pv 2) pa_nil))))))
    (pss_one (ps_ret (pv 1))))), ?_⟩
  obtain ⟨mid, em⟩ := cuts_ends h0 h1
  have cu := cuts_U zs
  generalize cutsD zs = cs at *
  have lw := dps_len dw
  have ll : (lensL cs).length = cs.length - 1 := by
    unfold lensL
    rw [List.length_map, List.length_range]
  rw [List.length_map, ll] at lw
  have lc : cs.length = mid.length + 2 := by
    rw [em]
    simp
  refine ⟨(by show 2 ≤ sizeLine; decide), fun p hp => ?_⟩
  refine ⟨_, rfl, R, rfl, ⟨_, Same.seq (same_new hp _) hR⟩, ?_⟩
  refine for_it (walk_list (xs := ws)) (fun i σ' H' => ∃ x q z, σ' = [some (.ref R), some (.ref q), x] ∧ Same H H' ∧ cs[i]? = some z ∧ SqT K H' q [.int z.1, .int z.2]) ⟨_, p, (0, 1), rfl, same_new hp _, by rw [em]; rfl, SqT.of upd_same⟩ (fun i σ' H' _ z => ?_) ?_ ?_
  · obtain ⟨_, _, _, _, g, _⟩ := z
    exact Same.seq g hR
  · rintro i x σ' H' H'' hi ⟨x2, q, z, rfl, g, hz, tq⟩ ⟨e'', hx⟩
    subst e''
    have hl : (lensL cs)[i]? = some (lenAt cs i) := lens_at (by omega)
    obtain ⟨y, hy, dy⟩ := dps_get dw (i := i) (d := pairD (lenAt cs i)) (by rw [List.getElem?_map, hl]; rfl)
    rw [hx] at hy
    obtain rfl := Option.some.inj hy
    obtain ⟨q2, rfl, t2⟩ := dp_pair (dp_same g _ _ dy)
    have hw : cs[i + 1]? = some cs[i + 1] := List.getElem?_eq_getElem (by omega)
    generalize cs[i + 1] = w at hw
    have el : lenAt cs i = fMinus w.1 w.2 z.1 z.2 := by
      unfold lenAt
      rw [hz, hw]
      rfl
    rw [el] at t2
    obtain ⟨s1, s2, s3, s4⟩ := U7_sum z (cu _ (List.mem_of_getElem? hz)) w (cu _ (List.mem_of_getElem? hw))
    obtain ⟨_, _, z2, z3, _, z4⟩ := U7_ok z (cu _ (List.mem_of_getElem? hz))
    obtain ⟨z1, _⟩ := U7_ok z (cu _ (List.mem_of_getElem? hz))
    refine ⟨_, rfl, _, rfl, q, q2, _, _, _, _, rfl, tq, t2, z2, s4, by omega, by omega, s2, s3, fun r hr' => ?_⟩
    rw [s1]
    exact ⟨_, r, w, rfl, g.trans (same_new hr' _), hw, SqT.of upd_same⟩
  · rintro σ' H' ⟨x2, q, z, rfl, g, hz, tq⟩
    have e : z = (1, 1) := by
      rw [em, lw, lc] at hz
      simpa using hz.symm
    subst e
    exact ⟨_, rfl, k q H' g tq⟩

end
end My
set_option Elab.async false
set_option linter.all false
set_option maxRecDepth 100000
set_option maxHeartbeats 400000
namespace My
open PySem L2 PySem.Spec PyProof.Rows
section
variable {P : Program} {w : World} {K : PySem.W.Frag} {mg : Str → Option Value} {base : Heap}
/-! ### the law's own leaves and truth -/
theorem inV4 {K : PySem.W.Frag} {s a b c d : Str} : inV (.str s) [.str a, .str b, .str c, .str d] = (decide (s = a) || decide (s = b) || decide (s = c) || decide (s = d)) := by
  have e1 : ∀ t : Str, eqV (.str t) (.str s) = decide (s = t) := fun t => eqV_is (K := K) (H := fun _ => none) (x := .str s) (d := .str s) (.str s) rfl t
  unfold inV
  rw [List.any_cons, List.any_cons, List.any_cons, List.any_cons, List.any_nil, e1, e1, e1, e1, Bool.or_false, Bool.or_assoc, Bool.or_assoc]
theorem flat_one {α β : Type} (f : α → List β) {l : List α} {i : Nat} {x : α} (h : l[i]? = some x) : (l.take (i + 1)).flatMap f = (l.take i).flatMap f ++ f x := by
  rw [take_more' h, List.flatMap_append, List.flatMap_cons, List.flatMap_nil, List.append_nil]
theorem same_none {H H' : Hp} {r : Addr} (g : Same H H') (h : H' r = none) : H r = none := by
  cases e : H r with
  | none => rfl
  | some o =>
    rw [g r o e] at h
    cases h
def sp_leaves (K : PySem.W.Frag) (m : Nat) : Sp := fun vs H Q _ => ∃ (v : V) (n : Nat) (hs : List Str) (as : List (Str × Bool)) (d : PyData), vs = [v] ∧ Fm hs as n d ∧ n ≤ m ∧ (lv n d).length ≤ 900 ∧ Dp K H v d ∧ ∀ q ws H', Same H H' → H q = none → H' q = some (.lst ws) → DpAll K H' ws (lv n d) → Q (.ref q) H'
theorem ok_leaves (T : Txt K mg) : ∀ m, FnOk P w K mg base CX0 (m + 1) T.a__law_leaves T.d__law_leaves ["plan"] (sp_leaves K m) := by

  intro m
  induction m with
  | zero => exact T.F__law_leaves.ok sc__law_leaves (fun vs H Q E h => by obtain ⟨_, _, _, _, _, rfl, _⟩ := h; rfl) (fun cdv A outer s H vs Q E hr h => by
      obtain ⟨_, n, _, _, _, _, z, l, _⟩ := h
      obtain rfl : n = 0 := by omega
      cases z)
  | succ m G__law_leaves =>
    refine T.F__law_leaves.ok sc__law_leaves (fun vs H Q E h => ?_) (fun cdv A outer s H vs Q E hr h => ?_)
    · obtain ⟨_, _, _, _, _, rfl, _⟩ := h
      rfl
    obtain ⟨v, n, hs, as, d, rfl, fm, le, few, dv, k⟩ := h
    refine ⟨_, (pss_cons (ps_if (pt_cmpR op_eq (pe_ix ix_tup (pv 0) pe_int (fun _ _ => rfl)) pe_str (nomark _)) (pss_one (ps_ret (pe_call G__law_leaves (hr.mono (by first | decide | omega)) (by rfl) T.m__law_leaves T.F__law_leaves.kp T.b__law_leaves .nil pass0 (pa_cons (pe_ix ix_tup (pv 0) pe_int (fun _ _ => rfl)) pa_nil)))) pss_nil)
    (pss_cons (ps_set (i := 1) sc__law_leaves.nd rfl (by first | exact Or.inl rfl | exact Or.inr rfl) (pe_lst pa_nil))
    (pss_cons (ps_for PassesOwn.never rfl (pi_tup (pe_ifExp (pt_cmpR op_in_seq (pe_ix ix_tup (pv 0) pe_int (fun _ _ => rfl)) (pe_tup (pa_cons pe_str (pa_cons pe_str pa_nil))) (by with_unfolding_all rfl)) (pe_ix ix_tup (pv 0) pe_int (fun _ _ => rfl)) (pe_tup pa_nil))) (pg_name (i := 2) sc__law_leaves.nd rfl (by first | exact Or.inl rfl | exact Or.inr rfl))
    (pss_one (ps_set (i := 1) sc__law_leaves.nd rfl (by first | exact Or.inl rfl | exact Or.inr rfl) (pe_op op_cat (pv 1) (pe_call G__law_leaves (hr.mono (by first | decide | omega)) (by rfl) T.m__law_leaves T.F__law_leaves.kp T.b__law_leaves .nil pass0 (pa_cons (pv 2) pa_nil))))))
    (pss_one (ps_ret (pe_op op_cat (pv 1) (pe_ifExp (pt_cmpR op_notIn_seq (pe_ix ix_tup (pv 0) pe_int (fun _ _ => rfl)) (pe_tup (pa_cons pe_str (pa_cons pe_str (pa_cons pe_str (pa_cons pe_str pa_nil))))) (by with_unfolding_all rfl)) (pe_lst (pa_cons (pv 0) pa_nil)) (pe_lst pa_nil)))))))), ?_⟩
    obtain ⟨n, rfl⟩ : ∃ n', n = n' + 1 := by
      cases fm <;> exact ⟨_, rfl⟩
    obtain ⟨s, r, rfl, n1, n2⟩ := fm_head fm
    have fk := fm_kids fm
    cases id dv with
    | @tup p xs _ hs0 ha =>
    obtain ⟨x0, hx0, dx0⟩ := dps_get (i := 0) ha rfl
    have fh : flatD (.str s) = true := rfl
    have a0 : atI xs 0 = some x0 := at_of (j := 0) rfl hx0
    refine seq_cut (fun σ' H' => σ' = [some (.ref p), none, none] ∧ H = H' ∧ s ≠ "not") ?_ (fun tail => ?_)
    rotate_left
    · refine ⟨_, rfl, p, xs, 0, x0, rfl, rfl, hs0, a0, scal_is dx0 fh _, _, rfl, ?_⟩
      rw [dec_is dx0 fh]
      refine ite2 (fun c => ?_) (fun c => tail _ _ ⟨rfl, rfl, of_decide_eq_false (Bool.eq_false_iff.mpr c)⟩)
      obtain rfl : s = "not" := of_decide_eq_true c
      obtain ⟨e, rfl⟩ := one_of (n1 rfl)
      obtain ⟨x1, hx1, d1⟩ := dps_get (i := 1) ha rfl
      have ek : kidsD (.tuple [.str "not", e]) = [e] := kids_not rfl
      have me : e ∈ kidsD (.tuple [.str "not", e]) := by
        rw [ek]
        exact .head _
      have el : lv (n + 1) (.tuple [.str "not", e]) = lv n e := by
        rw [lv_step, ek, if_neg (by rw [hd_not (.inl rfl)]; exact Bool.false_ne_true)]
        simp
      rw [el] at k few
      exact ⟨_, rfl, p, xs, 1, x1, rfl, rfl, hs0, at_of (j := 1) rfl hx1, x1, n, hs, as, e, rfl, fk e me, by omega, few, d1, k⟩
    rintro σ' H' ⟨rfl, e0, m1⟩
    subst e0
    refine ⟨(by show 0 ≤ sizeLine; decide), fun f hf => ?_⟩
    have g1 := same_new hf (.lst [])
    have e1 : upd H f (.lst []) f = some (.lst []) := upd_same
    generalize upd H f (.lst []) = H1 at *
    have lve : ∀ e ∈ kidsD (.tuple (.str s :: r)), (lv n e).length ≤ 900 := fun e m => by
      refine Nat.le_trans ?_ few
      rw [lv_step, List.length_append, List.flatMap_def]
      exact Nat.le_trans (List.sublist_flatten_of_mem (List.mem_map.mpr ⟨e, m, rfl⟩)).length_le (Nat.le_add_left _ _)
    have lvk : ((kidsD (.tuple (.str s :: r))).flatMap (lv n)).length ≤ 900 := by
      refine Nat.le_trans ?_ few
      rw [lv_step, List.length_append]
      exact Nat.le_add_left _ _
    dsimp only
    refine seq_cut (fun σ' H' => ∃ x f' ws, σ' = [some (.ref p), some (.ref f'), x] ∧ Same H H' ∧ H' f' = some (.lst ws) ∧ DpAll K H' ws ((kidsD (.tuple (.str s :: r))).flatMap (lv n))) ?_ (fun tail => ?_)
    rotate_left
    · refine ⟨_, rfl, p, xs, 0, x0, rfl, rfl, Same.tup g1 hs0, a0, (by show 2 ≤ sizeLine; decide), fun q hq => ?_⟩
      have g2 := same_new hq (.tup [.str "and", .str "or"])
      refine in_pair "and" "or" (dp_same (g1.trans g2) _ _ dx0) fh upd_same ⟨_, rfl, ?_⟩
      have e2 := g2 _ _ e1
      have g12 := g1.trans g2
      generalize upd H1 q (.tup [.str "and", .str "or"]) = H2 at *
      refine ite2 (fun c => ?_) (fun c => ?_)
      · obtain ⟨ks, rfl⟩ := n2 c
        have ha2 := dps_same g12 _ _ ha
        obtain ⟨x1, hx1, d1⟩ := dps_get (i := 1) ha2 rfl
        have ek : kidsD (.tuple [.str s, .tuple ks]) = ks := kids_kids (by
          rcases Bool.or_eq_true_iff.mp c with z | z
          · exact .inl (of_decide_eq_true z)
          · exact .inr (of_decide_eq_true z))
        rw [ek] at fk lve lvk tail
        cases d1 with
        | @tup l ys _ hl hys =>
        have ly := dps_len hys
        refine ⟨_, rfl, p, xs, 1, _, rfl, rfl, Same.tup g12 hs0, at_of (j := 1) rfl hx1, l, rfl, ⟨_, hl⟩, ?_⟩
        refine for_it (walk_tup (xs := ys)) (fun i σ' H' => ∃ x f' ws, σ' = [some (.ref p), some (.ref f'), x] ∧ Same H2 H' ∧ H' f' = some (.lst ws) ∧ DpAll K H' ws ((ks.take i).flatMap (lv n))) ⟨_, f, [], rfl, Same.refl _, e2, .nil⟩ (fun i σ' H' _ z => ?_) ?_ ?_
        · obtain ⟨_, _, _, _, g, _⟩ := z
          exact Same.tup g hl
        · rintro i x σ' H' H'' hi ⟨x2, f', ws, rfl, g, ef, dw⟩ ⟨e'', hx⟩
          subst e''
          have li : i < ks.length := by omega
          have hk : ks[i]? = some ks[i] := List.getElem?_eq_getElem li
          generalize ks[i] = e at hk
          obtain ⟨x', hx', dx'⟩ := dps_get hys hk
          rw [hx] at hx'
          obtain rfl := Option.some.inj hx'
          have me := List.mem_of_getElem? hk
          refine ⟨_, rfl, _, rfl, x, n, hs, as, e, rfl, fk e me, by omega, lve e me, dp_same g _ _ dx', fun q1 ws1 H3 g3 nq hq1 dq => ⟨f', q1, _, _, rfl, rfl, g3 _ _ ef, hq1, ?_, fun r1 hr1 => ?_⟩⟩
          · rw [dps_len (dps_same g3 _ _ dw), dps_len dq, ← List.length_append, ← flat_one (lv n) hk]
            have : ((ks.take (i + 1)).flatMap (lv n)).length ≤ (ks.flatMap (lv n)).length := by
              have e9 : ks = ks.take (i + 1) ++ ks.drop (i + 1) := (List.take_append_drop _ _).symm
              conv => rhs; rw [e9, List.flatMap_append, List.length_append]
              exact Nat.le_add_right _ _
            exact Nat.le_of_lt (small1000 (by omega))
          · have g4 := same_new hr1 (.lst (ws ++ ws1))
            refine ⟨_, r1, _, rfl, (g.trans g3).trans g4, upd_same, ?_⟩
            rw [flat_one (lv n) hk]
            exact dps_app (dps_same (g3.trans g4) _ _ dw) (dps_same g4 _ _ dq)
        · rintro σ' H' ⟨x2, f', ws, rfl, g, ef, dw⟩
          rw [ly, List.take_length] at dw
          exact tail _ _ ⟨_, _, _, rfl, g12.trans g, ef, dw⟩
      · have c' := Bool.or_eq_false_iff.mp (Bool.eq_false_iff.mpr c)
        have m2 : s ≠ "and" := of_decide_eq_false c'.1
        have m3 : s ≠ "or" := of_decide_eq_false c'.2
        have ek := kids_leaf (r := r) m1 m2 m3
        refine ⟨(by show 0 ≤ sizeLine; decide), fun q2 hq2 => ⟨q2, rfl, ⟨[], SqT.of upd_same⟩, ?_⟩⟩
        have g3 := same_new hq2 (.tup [])
        refine for_it (walk_tup (xs := [])) (fun i σ' H' => σ' = [some (.ref p), some (.ref f), none] ∧ Same H2 H' ∧ SqT K H' q2 []) ⟨rfl, g3, SqT.of upd_same⟩ (fun i σ' H' _ z => z.2.2) (fun i x σ' H' H'' hi => absurd hi (Nat.not_lt_zero _)) ?_
        rintro σ' H' ⟨rfl, g, _⟩
        refine tail _ _ ⟨_, f, [], rfl, g12.trans g, g _ _ e2, ?_⟩
        rw [ek]
        exact .nil
    rintro σ' H' ⟨x2, f', ws, rfl, g, ef, dw⟩
    have lw := dps_len dw
    obtain rfl := dp_str dx0
    refine ⟨_, rfl, _, rfl, p, xs, 0, _, rfl, rfl, Same.tup g hs0, a0, (by show 4 ≤ sizeLine; decide), fun q hq => ⟨q, _, rfl, .inr (SqT.of upd_same), rfl, rfl, _, rfl, ?_⟩⟩
    have g5 := same_new hq (.tup [.str "and", .str "or", .str "all", .str "none"])
    have e5 := g5 _ _ ef
    have d5 := dps_same g5 _ _ dw
    have g05 := g.trans g5
    generalize upd H' q (.tup [.str "and", .str "or", .str "all", .str "none"]) = H5 at *
    show if (!inV (.str s) [.str "and", .str "or", .str "all", .str "none"]) = true then _ else _
    rw [inV4 (K := K)]
    have lk : ws.length ≤ 900 := by
      rw [lw]
      exact lvk
    cases c : (decide (s = "and") || decide (s = "or") || decide (s = "all") || decide (s = "none")) with
    | true =>
      rw [if_neg (by decide)]
      refine ⟨(by show 0 ≤ sizeLine; decide), fun q2 hq2 => ?_⟩
      have g6 := same_new hq2 (.lst [])
      have e6 : upd H5 q2 (.lst []) q2 = some (.lst []) := upd_same
      refine ⟨f', q2, _, _, rfl, rfl, g6 _ _ e5, e6, Nat.le_of_lt (small1000 (by show ws.length + 0 ≤ 1000; omega)), fun r1 hr1 => ?_⟩
      have g7 := same_new hr1 (.lst (ws ++ []))
      have el : lvB (.tuple (.str s :: r)) = false := hd_not (by
        rcases Bool.or_eq_true_iff.mp c with c | c
        · rcases Bool.or_eq_true_iff.mp c with c | c
          · rcases Bool.or_eq_true_iff.mp c with c | c
            · exact .inr (.inl (of_decide_eq_true c))
            · exact .inr (.inr (.inl (of_decide_eq_true c)))
          · exact .inr (.inr (.inr (.inl (of_decide_eq_true c))))
        · exact .inr (.inr (.inr (.inr (of_decide_eq_true c)))))
      rw [lv_step, el, if_neg Bool.false_ne_true, List.nil_append] at k
      refine k r1 (ws ++ []) _ (g05.trans (g6.trans g7)) ?_ upd_same ?_
      · exact same_none (g05.trans g6) hr1
      · rw [List.append_nil] at g7 ⊢
        exact dps_same (g6.trans g7) _ _ d5
    | false =>
      rw [if_pos (by decide)]
      obtain ⟨c, c4⟩ := Bool.or_eq_false_iff.mp c
      obtain ⟨c, c3⟩ := Bool.or_eq_false_iff.mp c
      obtain ⟨c1, c2⟩ := Bool.or_eq_false_iff.mp c
      have m2 : s ≠ "and" := of_decide_eq_false c1
      have m3 : s ≠ "or" := of_decide_eq_false c2
      have m4 : s ≠ "all" := of_decide_eq_false c3
      have m5 : s ≠ "none" := of_decide_eq_false c4
      have lf := leaf_of fm m1 m2 m3
      have el := leaf_lvB lf m4 m5
      have ek := kids_leaf (r := r) m1 m2 m3
      rw [ek] at d5
      refine ⟨_, rfl, (by show 1 ≤ sizeLine; decide), fun q2 hq2 => ?_⟩
      have g6 := same_new hq2 (.lst [.ref p])
      have e6 : upd H5 q2 (.lst [.ref p]) q2 = some (.lst [.ref p]) := upd_same
      refine ⟨f', q2, _, _, rfl, rfl, g6 _ _ e5, e6, Nat.le_of_lt (small1000 (by show ws.length + 1 ≤ 1000; omega)), fun r1 hr1 => ?_⟩
      have g7 := same_new hr1 (.lst (ws ++ [.ref p]))
      rw [lv_step, el, if_pos rfl, ek, List.flatMap_nil, List.append_nil] at k
      refine k r1 (ws ++ [.ref p]) _ (g05.trans (g6.trans g7)) ?_ upd_same ?_
      · exact same_none (g05.trans g6) hr1
      · exact dps_app (ds := []) (dps_same (g6.trans g7) _ _ d5) (.cons (dp_same (g05.trans (g6.trans g7)) _ _ dv) .nil)
theorem ok__law_leaves (T : Txt K mg) : FnOk P w K mg base CX0 10 T.a__law_leaves T.d__law_leaves ["plan"] (sp_leaves K 9) := ok_leaves T 9
def sp_ltruth (P : Program) (w : World) (K : PySem.W.Frag) (m : Nat) : Sp := fun vs H Q _ => ∃ (v : V) (a : Addr) (n : Nat) (hs : List Str) (as : List (Str × Bool)) (d : PyData) (val : PyData → Bool), vs = [v, .ref a] ∧ Fm hs as n d ∧ n ≤ m ∧ Dp K H v d ∧ TellsAt P w K H a val (lv n d) ∧ ∀ H', Same H H' → Q (.bl (truthD n val d)) H'
theorem ok_ltruth (T : Txt K mg) : ∀ m, FnOk P w K mg base CX0 (m + 1) T.a__law_truth T.d__law_truth ["plan", "leaves"] (sp_ltruth P w K m) := by

  intro m
  induction m with
  | zero => exact T.F__law_truth.ok sc__law_truth (fun vs H Q E h => by obtain ⟨_, _, _, _, _, _, _, rfl, _⟩ := h; rfl) (fun cdv A outer s H vs Q E hr h => by
      obtain ⟨_, _, n, _, _, _, _, _, z, l, _⟩ := h
      obtain rfl : n = 0 := by omega
      cases z)
  | succ m G__law_truth =>
    refine T.F__law_truth.ok sc__law_truth (fun vs H Q E h => ?_) (fun cdv A outer s H vs Q E hr h => ?_)
    · obtain ⟨_, _, _, _, _, _, _, rfl, _⟩ := h
      rfl
    obtain ⟨v, a, n, hs, as, d, val, rfl, fm, le, dv, tell, k⟩ := h
    refine ⟨_, (pss_cons (ps_if (pt_cmpR op_eq (pe_ix ix_tup (pv 0) pe_int (fun _ _ => rfl)) pe_str (nomark _)) (pss_one (ps_ret (pe_not (pe_call G__law_truth (hr.mono (by first | decide | omega)) (by rfl) T.m__law_truth T.F__law_truth.kp T.b__law_truth .nil pass0 (pa_cons (pe_ix ix_tup (pv 0) pe_int (fun _ _ => rfl)) (pa_cons (pv 1) pa_nil)))))) pss_nil)
    (pss_cons (ps_if (pt_cmpR op_eq (pe_ix ix_tup (pv 0) pe_int (fun _ _ => rfl)) pe_str (nomark _)) (pss_one (ps_ret (pe_callB (cr_all rfl) (by rfl) T.z_all (by decide +kernel) (pa_cons (pe_lc (own := [("part", 2)]) rfl sc__law_truth.nd (pi_tup (pe_ix ix_tup (pv 0) pe_int (fun _ _ => rfl))) (blkOk_by (own := [("part", 2)]) (N := ["plan", "leaves", "part"]) (sc := defScope s__law_truth) (by decide +kernel)) (fun _ _ _ _ _ => (pg_name (i := 2) sc__law_truth.nd rfl (by first | exact Or.inl rfl | exact Or.inr rfl))) (fun _ _ _ _ _ => pts_nil) (fun _ _ _ _ _ => (pe_call G__law_truth (hr.mono (by first | decide | omega)) (by rfl) T.m__law_truth T.F__law_truth.kp T.b__law_truth .nil pass0 (pa_cons (pv 2) (pa_cons (pv 1) pa_nil))))) pa_nil)))) pss_nil)
    (pss_cons (ps_if (pt_cmpR op_eq (pe_ix ix_tup (pv 0) pe_int (fun _ _ => rfl)) pe_str (nomark _)) (pss_one (ps_ret (pe_callB (cr_any rfl) (by rfl) T.z_any (by decide +kernel) (pa_cons (pe_lc (own := [("part", 2)]) rfl sc__law_truth.nd (pi_tup (pe_ix ix_tup (pv 0) pe_int (fun _ _ => rfl))) (blkOk_by (own := [("part", 2)]) (N := ["plan", "leaves", "part"]) (sc := defScope s__law_truth) (by decide +kernel)) (fun _ _ _ _ _ => (pg_name (i := 2) sc__law_truth.nd rfl (by first | exact Or.inl rfl | exact Or.inr rfl))) (fun _ _ _ _ _ => pts_nil) (fun _ _ _ _ _ => (pe_call G__law_truth (hr.mono (by first | decide | omega)) (by rfl) T.m__law_truth T.F__law_truth.kp T.b__law_truth .nil pass0 (pa_cons (pv 2) (pa_cons (pv 1) pa_nil))))) pa_nil)))) pss_nil)
    (pss_one (ps_ret (pe_ifExp (pt_cmpR op_in_seq (pe_ix ix_tup (pv 0) pe_int (fun _ _ => rfl)) (pe_tup (pa_cons pe_str (pa_cons pe_str pa_nil))) (by with_unfolding_all rfl)) (pe_cmpR op_eq (pe_ix ix_tup (pv 0) pe_int (fun _ _ => rfl)) pe_str (nomark _)) (pe_dgetN (hu100 hr) (pv 1) (pv 0) (fun _ _ => rfl)))))))), ?_⟩
    obtain ⟨n, rfl⟩ : ∃ n', n = n' + 1 := by
      cases fm <;> exact ⟨_, rfl⟩
    obtain ⟨s, r, rfl, n1, n2⟩ := fm_head fm
    have fk := fm_kids fm
    have key := fm
    cases dv with
    | @tup p xs _ hs0 ha =>
    obtain ⟨x0, hx0, dx0⟩ := dps_get (i := 0) ha rfl
    have fh : flatD (.str s) = true := rfl
    have a0 : atI xs 0 = some x0 := at_of (j := 0) rfl hx0
    rw [truth_hd] at k
    have g1 := Same.refl H
    have ha1 := ha
    have dx1 := dx0
    have hs1 := hs0
    refine seq_cut (fun σ' H' => σ' = [some (.ref p), some (.ref a), none] ∧ H = H' ∧ s ≠ "not") ?_ (fun tail => ?_)
    rotate_left
    · refine ⟨_, rfl, p, xs, 0, x0, rfl, rfl, hs1, a0, scal_is dx1 fh _, _, rfl, ?_⟩
      rw [dec_is dx1 fh]
      refine ite2 (fun c => ?_) (fun c => tail _ _ ⟨rfl, rfl, of_decide_eq_false (Bool.eq_false_iff.mpr c)⟩)
      obtain rfl : s = "not" := of_decide_eq_true c
      obtain ⟨e, rfl⟩ := one_of (n1 rfl)
      obtain ⟨x1, hx1, d1⟩ := dps_get (i := 1) ha1 rfl
      have ek : kidsD (.tuple [.str "not", e]) = [e] := kids_not rfl
      have me : e ∈ kidsD (.tuple [.str "not", e]) := by
        rw [ek]
        exact .head _
      rw [if_pos rfl, ek] at k
      refine ⟨_, rfl, p, xs, 1, x1, rfl, rfl, hs1, at_of (j := 1) rfl hx1, _, rfl, x1, a, n, hs, as, e, val, rfl, fk e me, by omega, d1, (tells_kid tell me).same g1, fun H2 g2 => ⟨_, rfl, ?_⟩⟩
      have kk := k H2 (g1.trans g2)
      simpa using kk
    rintro σ' H' ⟨rfl, e1, m3⟩
    subst e1
    rw [if_neg m3] at k
    refine seq_cut (fun σ' H' => σ' = [some (.ref p), some (.ref a), none] ∧ H = H' ∧ s ≠ "and") ?_ (fun tail => ?_)
    rotate_left
    · refine ⟨_, rfl, p, xs, 0, x0, rfl, rfl, hs1, a0, scal_is dx1 fh _, _, rfl, ?_⟩
      rw [dec_is dx1 fh]
      refine ite2 (fun c => ?_) (fun c => tail _ _ ⟨rfl, rfl, of_decide_eq_false (Bool.eq_false_iff.mpr c)⟩)
      obtain rfl : s = "and" := of_decide_eq_true c
      obtain ⟨ks, rfl⟩ := n2 (by decide +kernel)
      obtain ⟨x1, hx1, d1⟩ := dps_get (i := 1) ha1 rfl
      have ek : kidsD (.tuple [.str "and", .tuple ks]) = ks := kids_kids (by decide +kernel)
      rw [if_pos rfl, ek] at k
      rw [ek] at fk
      have tk : ∀ e ∈ ks, TellsAt P w K H a val (lv n e) := fun e m => (tells_kid tell (by rw [ek]; exact m)).same g1
      have lk : ks.length ≤ 3 := by
        cases fm with
        | leaf h => exact absurd h (by rintro (_ | _))
        | kids _ _ h _ => exact h
      cases d1 with
      | @tup l ys _ hl hys =>
      have ly := dps_len hys
      refine ⟨_, rfl, p, xs, 1, _, rfl, rfl, hs1, at_of (j := 1) rfl hx1, l, rfl, ⟨_, hl⟩, fun D hD => ?_⟩
      refine lc_tup (fun i H' => Same H H' ∧ H' D = some (.lst (((ks.take i).map (truthD n val)).map V.bl))) ⟨same_new hD _, upd_same⟩ (fun i H' _ z => Same.tup z.1 hl) ?_ ?_
      · rintro i x H2 hx ⟨g, e⟩
        have li : i < ks.length := by
          rw [← ly]
          exact (List.getElem?_eq_some_iff.mp hx).1
        have hk : ks[i]? = some ks[i] := List.getElem?_eq_getElem li
        obtain ⟨x', hx', dx'⟩ := dps_get hys hk
        rw [hx] at hx'
        obtain rfl := Option.some.inj hx'
        have mk := List.mem_of_getElem? hk
        refine ⟨rfl, _, rfl, _, rfl, x, a, n, hs, as, ks[i], val, rfl, fk _ mk, by omega, dp_same g _ _ dx', (tk _ mk).same g, fun H3 g3 => ⟨_, g3 _ _ e, ?_, same_upd (g.trans g3) hD, ?_⟩⟩
        · rw [List.length_map, List.length_map, List.length_take]
          exact small1000 (by omega)
        · rw [upd_same, take_more' hk, List.map_append, List.map_append]
          rfl
      · rintro H2 ⟨g, e⟩
        rw [ly, List.take_length] at e
        refine ⟨D, _, rfl, SqL.of e, ?_⟩
        rw [all_map]
        exact k H2 (g1.trans g)
    rintro σ' H' ⟨rfl, e1, m4⟩
    subst e1
    rw [if_neg m4] at k
    refine seq_cut (fun σ' H' => σ' = [some (.ref p), some (.ref a), none] ∧ H = H' ∧ s ≠ "or") ?_ (fun tail => ?_)
    rotate_left
    · refine ⟨_, rfl, p, xs, 0, x0, rfl, rfl, hs1, a0, scal_is dx1 fh _, _, rfl, ?_⟩
      rw [dec_is dx1 fh]
      refine ite2 (fun c => ?_) (fun c => tail _ _ ⟨rfl, rfl, of_decide_eq_false (Bool.eq_false_iff.mpr c)⟩)
      obtain rfl : s = "or" := of_decide_eq_true c
      obtain ⟨ks, rfl⟩ := n2 (by decide +kernel)
      obtain ⟨x1, hx1, d1⟩ := dps_get (i := 1) ha1 rfl
      have ek : kidsD (.tuple [.str "or", .tuple ks]) = ks := kids_kids (by decide +kernel)
      rw [if_pos rfl, ek] at k
      rw [ek] at fk
      have tk : ∀ e ∈ ks, TellsAt P w K H a val (lv n e) := fun e m => (tells_kid tell (by rw [ek]; exact m)).same g1
      have lk : ks.length ≤ 3 := by
        cases fm with
        | leaf h => exact absurd h (by rintro (_ | _))
        | kids _ _ h _ => exact h
      cases d1 with
      | @tup l ys _ hl hys =>
      have ly := dps_len hys
      refine ⟨_, rfl, p, xs, 1, _, rfl, rfl, hs1, at_of (j := 1) rfl hx1, l, rfl, ⟨_, hl⟩, fun D hD => ?_⟩
      refine lc_tup (fun i H' => Same H H' ∧ H' D = some (.lst (((ks.take i).map (truthD n val)).map V.bl))) ⟨same_new hD _, upd_same⟩ (fun i H' _ z => Same.tup z.1 hl) ?_ ?_
      · rintro i x H2 hx ⟨g, e⟩
        have li : i < ks.length := by
          rw [← ly]
          exact (List.getElem?_eq_some_iff.mp hx).1
        have hk : ks[i]? = some ks[i] := List.getElem?_eq_getElem li
        obtain ⟨x', hx', dx'⟩ := dps_get hys hk
        rw [hx] at hx'
        obtain rfl := Option.some.inj hx'
        have mk := List.mem_of_getElem? hk
        refine ⟨rfl, _, rfl, _, rfl, x, a, n, hs, as, ks[i], val, rfl, fk _ mk, by omega, dp_same g _ _ dx', (tk _ mk).same g, fun H3 g3 => ⟨_, g3 _ _ e, ?_, same_upd (g.trans g3) hD, ?_⟩⟩
        · rw [List.length_map, List.length_map, List.length_take]
          exact small1000 (by omega)
        · rw [upd_same, take_more' hk, List.map_append, List.map_append]
          rfl
      · rintro H2 ⟨g, e⟩
        rw [ly, List.take_length] at e
        refine ⟨D, _, rfl, SqL.of e, ?_⟩
        rw [any_map]
        exact k H2 (g1.trans g)
    rintro σ' H' ⟨rfl, e1, m5⟩
    subst e1
    rw [if_neg m5] at k
    have lf := leaf_of fm m3 m4 m5
    refine ⟨_, rfl, p, xs, 0, x0, rfl, rfl, hs0, a0, (by show 2 ≤ sizeLine; decide), fun q hq => ?_⟩
    have g2 := same_new hq (.tup [.str "all", .str "none"])
    have dx := dp_same g2 _ _ dx0
    refine in_pair "all" "none" dx fh upd_same ⟨_, rfl, ?_⟩
    refine ite2 (fun c => ?_) (fun c => ?_)
    · refine ⟨_, rfl, p, xs, 0, x0, rfl, rfl, Same.tup g2 hs0, a0, scal_is dx fh _, ?_⟩
      rw [dec_is dx fh]
      have kk := k _ g2
      rcases Bool.or_eq_true_iff.mp c with z | z
      · obtain rfl : s = "all" := of_decide_eq_true z
        rw [if_pos rfl] at kk
        exact kk
      · obtain rfl : s = "none" := of_decide_eq_true z
        rw [if_neg (by decide +kernel), if_pos rfl] at kk
        exact kk
    · have c' := Bool.or_eq_false_iff.mp (Bool.eq_false_iff.mpr c)
      have m1 : s ≠ "all" := of_decide_eq_false c'.1
      have m2 : s ≠ "none" := of_decide_eq_false c'.2
      rw [if_neg m1, if_neg m2] at k
      have ml : PyData.tuple (.str s :: r) ∈ lv (n + 1) (.tuple (.str s :: r)) := List.mem_filter.mpr ⟨.head _, leaf_lvB lf m1 m2⟩
      obtain ⟨E', q, t1, t2, t3⟩ := (tell _ ml)
      exact ⟨_, rfl, _, rfl, a, p, _, E', q, _, rfl, rfl, dp_same g2 _ _ (.tup hs0 ha), (leaf_key lf).1, g2 _ _ t1, t2.same g2, t3, k _ g2⟩
theorem ok__law_truth (T : Txt K mg) : FnOk P w K mg base CX0 10 T.a__law_truth T.d__law_truth ["plan", "leaves"] (sp_ltruth P w K 9) := ok_ltruth T 9

end
end My
set_option Elab.async false
set_option linter.all false
set_option maxRecDepth 100000
set_option maxHeartbeats 400000
namespace My
open PySem L2 PySem.Spec PyProof.Rows
section
variable {P : Program} {w : World} {K : PySem.W.Frag} {mg : Str → Option Value} {base : Heap}
/-! ### the law's thresholds: mathematics -/
def rkZ (z : Int × Int) : Int := (z.1 * 1000000000).fdiv z.2
def cutRow (z : Int × Int) : List PyData := [.int (rkZ z), pairD z]
theorem U7_rk : (U7.map rkZ).Pairwise (· < ·) := by decide +kernel
theorem U7_inj : ∀ z ∈ U7, ∀ w ∈ U7, rkZ z = rkZ w → z = w := by decide +kernel
theorem map_inj_on {α β : Type} {f : α → β} : ∀ {l m : List α}, (∀ x ∈ l, ∀ y ∈ m, f x = f y → x = y) → l.map f = m.map f → l = m
  | [], [], _, _ => rfl
  | [], _ :: _, _, h => by cases h
  | _ :: _, [], _, h => by cases h
  | x :: l, y :: m, h, e => by
    rw [List.map_cons, List.map_cons, List.cons.injEq] at e
    rw [h x (.head _) y (.head _) e.1, map_inj_on (fun a ma b mb => h a (.tail _ ma) b (.tail _ mb)) e.2]
theorem cut_lt {z w : Int × Int} (h : ltL (rowC (cutRow w)) (rowC (cutRow z)) = false) : rkZ z ≤ rkZ w := by
  by_cases c : rkZ w < rkZ z
  · have e : ltL (rowC (cutRow w)) (rowC (cutRow z)) = true := by
      show ltL (0 :: rkZ w :: (codI (pairD w) ++ [])) (0 :: rkZ z :: (codI (pairD z) ++ [])) = true
      rw [ltL_cons, ltL_ne (by omega)]
      exact decide_eq_true c
    rw [e] at h
    cases h
  · omega
theorem cuts_sorted {zs xs : List (Int × Int)} (hz : ∀ z ∈ zs, z ∈ U7) (nd : zs.Nodup) (pm : xs.Perm zs) (so : xs.Pairwise fun z w => ltL (rowC (cutRow w)) (rowC (cutRow z)) = false) : xs = cutsD zs := by
  have hx : ∀ z ∈ xs, z ∈ U7 := fun z m => hz z (pm.mem_iff.mp m)
  have ndx : xs.Nodup := pm.nodup_iff.mpr nd
  refine map_inj_on (f := rkZ) (fun z mz w mw => U7_inj z (hx z mz) w (cuts_U _ w mw)) (sorted_one ?_ ?_ ?_ fun x => ?_)
  · refine List.pairwise_map.mpr (ndx.imp_of_mem fun {z w} mz mw n e => n (U7_inj z (hx z mz) w (hx w mw) e))
  · exact List.pairwise_map.mpr (so.imp cut_lt)
  · exact List.Pairwise.sublist ((List.filter_sublist).map rkZ) U7_rk
  · rw [List.mem_map, List.mem_map]
    constructor
    · rintro ⟨z, m, e⟩
      exact ⟨z, (mem_cuts hz).mpr (pm.mem_iff.mp m), e⟩
    · rintro ⟨z, m, e⟩
      exact ⟨z, pm.mem_iff.mpr ((mem_cuts hz).mp m), e⟩
/-- thresholds found so far -/
structure CutInv (ss : List Str) (zs : List (Int × Int)) (done : List PyData) : Prop where
  mem : ∀ z, z ∈ zs ↔ z = (0, 1) ∨ z = (1, 1) ∨ ∃ f ∈ done, strI f = ss ∧ chOf f = z
  nd : zs.Nodup
  u : ∀ z ∈ zs, z ∈ U7
theorem CutInv.start (ss : List Str) : CutInv ss [(0, 1), (1, 1)] [] := by
  refine ⟨fun z => ?_, by decide, by decide⟩
  simp
theorem CutInv.len {ss : List Str} {zs : List (Int × Int)} {done : List PyData} (h : CutInv ss zs done) : zs.length ≤ 7 := nodup_len h.nd h.u
theorem CutInv.skip {ss : List Str} {zs : List (Int × Int)} {done : List PyData} {f : PyData} (h : CutInv ss zs done) (n : strI f ≠ ss ∨ chOf f ∈ zs) : CutInv ss zs (done ++ [f]) := by
  refine ⟨fun z => ?_, h.nd, h.u⟩
  rw [h.mem]
  constructor
  · rintro (e | e | ⟨g, m, e⟩)
    · exact .inl e
    · exact .inr (.inl e)
    · exact .inr (.inr ⟨g, List.mem_append_left _ m, e⟩)
  · rintro (e | e | ⟨g, m, e1, e2⟩)
    · exact .inl e
    · exact .inr (.inl e)
    · rcases List.mem_append.mp m with m | m
      · exact .inr (.inr ⟨g, m, e1, e2⟩)
      · obtain rfl := List.mem_singleton.mp m
        rcases n with n | n
        · exact absurd e1 n
        · rw [← e2]
          exact (h.mem _).mp n
theorem CutInv.add {ss : List Str} {zs : List (Int × Int)} {done : List PyData} {f : PyData} (h : CutInv ss zs done) (e : strI f = ss) (n : chOf f ∉ zs) (u : chOf f ∈ U7) : CutInv ss (zs ++ [chOf f]) (done ++ [f]) := by
  refine ⟨fun z => ?_, List.nodup_append.mpr ⟨h.nd, List.nodup_cons.mpr ⟨by simp, List.nodup_nil⟩, fun a ma b mb q => ?_⟩, fun z m => ?_⟩
  · rw [List.mem_append, h.mem, List.mem_singleton]
    constructor
    · rintro ((q | q | ⟨g, m, q⟩) | q)
      · exact .inl q
      · exact .inr (.inl q)
      · exact .inr (.inr ⟨g, List.mem_append_left _ m, q⟩)
      · exact .inr (.inr ⟨f, List.mem_append_right _ (.head _), e, q.symm⟩)
    · rintro (q | q | ⟨g, m, e1, e2⟩)
      · exact .inl (.inl q)
      · exact .inl (.inr (.inl q))
      · rcases List.mem_append.mp m with m | m
        · exact .inl (.inr (.inr ⟨g, m, e1, e2⟩))
        · obtain rfl := List.mem_singleton.mp m
          exact .inr e2.symm
  · rw [List.mem_singleton.mp mb] at q
    exact n (q ▸ ma)
  · rcases List.mem_append.mp m with m | m
    · exact h.u z m
    · rw [List.mem_singleton.mp m]
      exact u
theorem cuts_done {hs : List Str} {as : List (Str × Bool)} {ds : List PyData} {ss : List Str} {zs : List (Int × Int)} (fm : ∀ d ∈ ds, Fm hs as 4 d) (nm : NmOk hs as) (k : TestKey ss) (h : CutInv ss zs (ds.flatMap (lv 4))) : cutsD zs = cutsOf ds ss := by
  unfold cutsOf cutsD
  refine List.filter_congr fun u _ => ?_
  have e : u ∈ zs ↔ u ∈ (0, 1) :: (1, 1) :: chancesOf ds ss := by
    rw [h.mem, List.mem_cons, List.mem_cons]
    unfold chancesOf
    rw [List.mem_map]
    constructor
    · rintro (q | q | ⟨g, m, e1, e2⟩)
      · exact .inl q
      · exact .inr (.inl q)
      · rw [← lv_flat] at m
        exact .inr (.inr ⟨g, List.mem_filter.mpr ⟨(List.mem_filter.mp m).1, decide_eq_true e1⟩, e2⟩)
    · rintro (q | q | ⟨g, m, e2⟩)
      · exact .inl q
      · exact .inr (.inl q)
      · obtain ⟨m1, m2⟩ := List.mem_filter.mp m
        have e1 := of_decide_eq_true m2
        obtain ⟨d, md, mg⟩ := List.mem_flatMap.mp m1
        have it := key_test (forms_fm 4 (fm d md) g mg) nm k e1
        refine .inr (.inr ⟨g, ?_, e1, e2⟩)
        rw [← lv_flat]
        exact List.mem_filter.mpr ⟨m1, by unfold lvB; rw [it]; rfl⟩
  by_cases c : u ∈ zs
  · rw [decide_eq_true c, decide_eq_true (e.mp c)]
  · rw [decide_eq_false c, decide_eq_false fun z => c (e.mpr z)]
theorem pair_eqv (z w : Int × Int) : PyData.eqv (pairD z) (pairD w) = decide (z = w) := by
  show ((z.1 == w.1) && ((z.2 == w.2) && true)) = decide (z = w)
  by_cases c : z = w
  · subst c
    simp
  · rw [decide_eq_false c]
    obtain ⟨a, b⟩ := z
    obtain ⟨c1, d⟩ := w
    simp at c ⊢
    exact c
theorem any_pairs (zs : List (Int × Int)) (w : Int × Int) : ((zs.map pairD).any fun z => PyData.eqv z (pairD w)) = decide (w ∈ zs) := by
  induction zs with
  | nil => rfl
  | cons z r ih =>
    rw [List.map_cons, List.any_cons, ih, pair_eqv]
    by_cases c : z = w
    · subst c
      simp
    · have c' : ¬ w = z := fun e => c e.symm
      rw [decide_eq_false c, Bool.false_or]
      by_cases d : w ∈ r <;> simp [d, c']
theorem U7_lay : ∀ z ∈ U7, PyData.canLay0 (pairD z) = true := by decide +kernel
theorem pairs_lay : ∀ {zs : List (Int × Int)}, (∀ z ∈ zs, z ∈ U7) → PyData.canLayAll0 (zs.map pairD) = true
  | [], _ => rfl
  | z :: r, h => by
    show (PyData.canLay0 (pairD z) && PyData.canLayAll0 (r.map pairD)) = true
    rw [U7_lay z (h z (.head _)), pairs_lay fun w m => h w (.tail _ m)]
    rfl
theorem pairs_deep : ∀ zs : List (Int × Int), PyData.depthAll (zs.map pairD) ≤ 1
  | [] => Nat.zero_le _
  | z :: r => Nat.max_le.mpr ⟨Nat.le_refl _, pairs_deep r⟩
theorem pair_shaped {z : Int × Int} (h : z ∈ U7) : SeqAt.shaped (pairD z) = true := by
  unfold SeqAt.shaped
  rw [Bool.and_eq_true]
  exact ⟨U7_lay z h, decide_eq_true (show 1 ≤ 64 by decide)⟩
theorem pairs_shaped {zs : List (Int × Int)} (h : ∀ z ∈ zs, z ∈ U7) : SeqAt.shaped (.list (zs.map pairD)) = true := by
  unfold SeqAt.shaped
  rw [Bool.and_eq_true]
  refine ⟨pairs_lay h, decide_eq_true ?_⟩
  have := pairs_deep zs
  show PyData.depthAll (zs.map pairD) + 1 ≤ 64
  omega

end
end My
set_option Elab.async false
set_option linter.all false
set_option maxRecDepth 100000
set_option maxHeartbeats 400000
namespace My
open PySem L2 PySem.Spec PyProof.Rows
section
variable {P : Program} {w : World} {K : PySem.W.Frag} {mg : Str → Option Value} {base : Heap}
/-! ### the law's thresholds -/
theorem last_at {K : PySem.W.Frag} {H : Hp} {us : List Str} {z : PyData} {xs : List V} (ha : DpAll K H xs (us.map PyData.str ++ [z])) : ∃ u, Dp K H u z ∧ atI xs (-1) = some u := by
  have lx := dps_len ha
  rw [List.length_append, List.length_map, List.length_singleton] at lx
  obtain ⟨y, hy, dy⟩ := dps_get (i := us.length) (d := z) ha (by rw [List.getElem?_append_right (by rw [List.length_map]; exact Nat.le_refl _), List.length_map, Nat.sub_self]; rfl)
  refine ⟨y, dy, ?_⟩
  have e1 : xs = xs.take us.length ++ [y] := by
    obtain ⟨h3, h4⟩ := List.getElem?_eq_some_iff.mp hy
    have := List.take_append_drop us.length xs
    rw [List.drop_eq_getElem_cons h3, h4, List.drop_of_length_le (by omega)] at this
    exact this.symm
  rw [e1]
  exact atI_last _ _
/-- the row of an item of a list without twins -/
def kOf : List V → List (List PyData) → V → List PyData
  | x :: xs, r :: rs, y => if y = x then r else kOf xs rs y
  | _, _, _ => []
theorem kOf_map : ∀ {xs : List V} {rs : List (List PyData)}, xs.Nodup → xs.length = rs.length → xs.map (kOf xs rs) = rs
  | [], [], _, _ => rfl
  | [], _ :: _, _, h => by cases h
  | _ :: _, [], _, h => by cases h
  | x :: xs, r :: rs, nd, h => by
    rw [List.nodup_cons] at nd
    have ih := kOf_map (rs := rs) nd.2 (Nat.succ.inj h)
    rw [List.map_cons]
    have e1 : kOf (x :: xs) (r :: rs) x = r := if_pos rfl
    have e2 : xs.map (kOf (x :: xs) (r :: rs)) = xs.map (kOf xs rs) := List.map_congr_left fun y m => if_neg fun (z : y = x) => nd.1 (z ▸ m)
    rw [e1, e2, ih]
theorem kOf_at {xs : List V} {rs : List (List PyData)} (nd : xs.Nodup) (l : xs.length = rs.length) {x : V} {i : Nat} (h : xs[i]? = some x) : rs[i]? = some (kOf xs rs x) := by
  have e : (xs.map (kOf xs rs))[i]? = rs[i]? := by rw [kOf_map nd l]
  rw [← e, List.getElem?_map, h]
  rfl
theorem U7_rkb : ∀ z ∈ U7, z.1.natAbs < 2 ^ 20 ∧ z.2 ≠ 0 ∧ z.2.natAbs.log2 < 9000 := by decide +kernel
theorem row_ok (z : Int × Int) : RowOk (cutRow z) := ⟨rfl, fun x m => by
  rcases List.mem_cons.mp m with rfl | m
  · exact Nat.le_of_ble_eq_true rfl
  · rw [List.mem_singleton.mp m]
    exact Nat.le_of_ble_eq_true rfl⟩
theorem row_cmp {z w : Int × Int} (hz : z ∈ U7) (hw : w ∈ U7) : CmpOk (cutRow z) (cutRow w) := by
  refine ⟨fun e => ?_, fun _ => trivial⟩
  obtain rfl := U7_inj z hz w hw (PyData.int.inj e)
  exact ⟨fun _ => trivial, fun n => absurd rfl n⟩
def sp_cuts (K : PySem.W.Frag) : Sp := fun vs H Q _ => ∃ (l : Addr) (v : V) (hs : List Str) (as : List (Str × Bool)) (ds : List PyData) (ss : List Str), vs = [.ref l, v] ∧ PlansAt K hs as H l ds ∧ Dp K H v (.tuple (ss.map .str)) ∧ TestKey ss ∧ (∀ s ∈ ss, PyData.canLay0 (.str s) = true) ∧ ∀ q ws H', Same H H' → H q = none → H' q = some (.lst ws) → DpAll K H' ws ((cutsOf ds ss).map pairD) → Q (.ref q) H'
theorem pairs_nl (l : List (Int × Int)) : noLs (l.map pairD) = true := noLs_all fun e m => by
  obtain ⟨z, _, rfl⟩ := List.mem_map.mp m
  rfl
theorem ok__law_cuts (T : Txt K mg) : FnOk P w K mg base CX0 11 T.a__law_cuts T.d__law_cuts ["plans", "test"] (sp_cuts K) := by
  have G__law_leaves := ok__law_leaves (P := P) (w := w) (base := base) T
  refine T.F__law_cuts.ok sc__law_cuts (fun vs H Q E h => ?_) (fun cdv A outer s H vs Q E hr h => ?_)
  · obtain ⟨l, v, hs, as, ds, ss, rfl, _⟩ := h
    rfl
  obtain ⟨l, v, hs, as, ds, ss, rfl, hp, hv, tk, lay, k⟩ := h
  refine ⟨_, (pss_cons (ps_set (i := 2) sc__law_cuts.nd rfl (by first | exact Or.inl rfl | exact Or.inr rfl) (pe_lst (pa_cons (pe_tup (pa_cons pe_int (pa_cons pe_int pa_nil))) (pa_cons (pe_tup (pa_cons pe_int (pa_cons pe_int pa_nil))) pa_nil))))
    (pss_cons (ps_for PassesOwn.never rfl (pi_list (pv 0)) (pg_name (i := 3) sc__law_cuts.nd rfl (by first | exact Or.inl rfl | exact Or.inr rfl))
    (pss_one (ps_for PassesOwn.never rfl (pi_list (pe_call G__law_leaves (hr.mono (by first | decide | omega)) (by rfl) T.m__law_leaves T.F__law_leaves.kp T.b__law_leaves .nil pass0 (pa_cons (pv 3) pa_nil))) (pg_name (i := 4) sc__law_cuts.nd rfl (by first | exact Or.inl rfl | exact Or.inr rfl))
    (pss_one (ps_if (PW.pt (pw_and (pt_cmpR (op_eqD (hu64 hr)) (pe_slice sl_tupA (pv 4) po_none (po_some (pe_un un_neg pe_int))) (pv 1) (nomark _)) (pw_and (pt_cmpR op_in_seq (pe_ix ix_tup (pv 4) pe_int (fun _ _ => rfl)) (pe_tup (pa_cons pe_str (pa_cons pe_str (pa_cons pe_str pa_nil)))) (by with_unfolding_all rfl)) (pw_and1 (pt_cmpR (op_notInD (Nat.lt_of_le_of_lt (Nat.add_le_add_left (by decide) _) (hu100 hr))) (pe_ix ix_tup (pv 4) (pe_un un_neg pe_int) (fun _ _ => rfl)) (pv 2) (by with_unfolding_all rfl)))))) (pss_one (ps_expr (pe_bm PySem.F.plainAttrs_list PySem.F.slot_list_append PySem.F.type_list_append mt_append (pv 2) (pa_cons (pe_ix ix_tup (pv 4) (pe_un un_neg pe_int) (fun _ _ => rfl)) pa_nil)))) pss_nil)))))
    (pss_one (ps_ret (pe_lc (own := [("rank", 5), ("cut", 6)]) rfl sc__law_cuts.nd (pi_list (pe_callB (cr_sortRow (hu100 hr)) (by rfl) T.z_sorted (by decide +kernel) (pa_cons (pe_lc (own := [("cut", 6)]) rfl sc__law_cuts.nd (pi_list (pv 2)) (blkOk_by (own := [("cut", 6)]) (N := ["plans", "test", "found", "plan", "leaf", "rank", "cut"]) (sc := defScope s__law_cuts) (by decide +kernel)) (fun _ _ _ _ _ => (pg_name (i := 6) sc__law_cuts.nd rfl (by first | exact Or.inl rfl | exact Or.inr rfl))) (fun _ _ _ _ _ => pts_nil) (fun _ _ _ _ _ => (pe_tup (pa_cons (pe_op op_fdivA (pe_op op_mul (pe_ix (show IxR _ (rIxT K) from ix_tup) (pv 6) pe_int (fun _ _ => rfl)) pe_int) (pe_ix (show IxR _ (rIxT K) from ix_tup) (pv 6) pe_int (fun _ _ => rfl))) (pa_cons (pv 6) pa_nil))))) pa_nil))) (blkOk_by (own := [("rank", 5), ("cut", 6)]) (N := ["plans", "test", "found", "plan", "leaf", "rank", "cut"]) (sc := defScope s__law_cuts) (by decide +kernel)) (fun _ _ _ _ _ => (show PG _ _ (gTup K 2 (gCons (gName 5) (gCons (gName 6) gNil))) from (pg_tup rfl (pgs_cons (pg_name (i := 5) sc__law_cuts.nd rfl (by first | exact Or.inl rfl | exact Or.inr rfl)) (pgs_cons (pg_name (i := 6) sc__law_cuts.nd rfl (by first | exact Or.inl rfl | exact Or.inr rfl)) pgs_nil))))) (fun _ _ _ _ _ => pts_nil) (fun _ _ _ _ _ => (pv 6))))))), ?_⟩
  obtain ⟨vs, hl, dvs, fm, l3, few, few7, nm⟩ := id hp
  refine ⟨(by show 2 ≤ sizeLine; decide), fun p1 hp1 => ⟨(by show 2 ≤ sizeLine; decide), fun p2 hp2 => ⟨(by show 2 ≤ sizeLine; decide), fun f hf => ?_⟩⟩⟩
  have g1 := same_new hp1 (.tup [.int 0, .int 1])
  have g2 := same_new hp2 (.tup [.int 1, .int 1])
  have g3 := same_new hf (.lst [.ref p1, .ref p2])
  have d1 : Dp K (upd (upd (upd H p1 (.tup [.int 0, .int 1])) p2 (.tup [.int 1, .int 1])) f (.lst [.ref p1, .ref p2])) (.ref p1) (pairD (0, 1)) := pair_dp (SqT.of (g3 _ _ (g2 _ _ upd_same)))
  have d2 : Dp K (upd (upd (upd H p1 (.tup [.int 0, .int 1])) p2 (.tup [.int 1, .int 1])) f (.lst [.ref p1, .ref p2])) (.ref p2) (pairD (1, 1)) := pair_dp (SqT.of (g3 _ _ upd_same))
  have e1 : upd (upd (upd H p1 (.tup [.int 0, .int 1])) p2 (.tup [.int 1, .int 1])) f (.lst [.ref p1, .ref p2]) f = some (.lst [.ref p1, .ref p2]) := upd_same
  have g := (g1.trans g2).trans g3
  have nf := same_none (g1.trans g2) hf
  generalize upd (upd (upd H p1 (.tup [.int 0, .int 1])) p2 (.tup [.int 1, .int 1])) f (.lst [.ref p1, .ref p2]) = H1 at *
  dsimp only
  refine seq_cut (fun σ' H' => ∃ x3 x4 fs zs, σ' = [some (.ref l), some v, some (.ref f), x3, x4, none, none] ∧ Same H H' ∧ H' f = some (.lst fs) ∧ DpAll K H' fs (zs.map pairD) ∧ CutInv ss zs (ds.flatMap (lv 4))) ?_ (fun tail => ?_)
  rotate_left
  · refine ⟨_, rfl, l, rfl, ⟨_, Same.seq g hl⟩, ?_⟩
    have lvs := dps_len dvs
    refine for_it (walk_list (xs := vs)) (fun i σ' H' => ∃ x3 x4 fs zs, σ' = [some (.ref l), some v, some (.ref f), x3, x4, none, none] ∧ Same H H' ∧ H' f = some (.lst fs) ∧ DpAll K H' fs (zs.map pairD) ∧ CutInv ss zs ((ds.take i).flatMap (lv 4))) ⟨_, _, _, [(0, 1), (1, 1)], rfl, g, e1, .cons d1 (.cons d2 .nil), CutInv.start ss⟩ (fun i σ' H' _ z => ?_) ?_ ?_
    · obtain ⟨_, _, _, _, _, gg, _⟩ := z
      exact Same.seq gg hl
    · rintro i x σ' H' H'' hi ⟨x3, x4, fs, zs, rfl, gg, ef, df, inv⟩ ⟨e'', hx⟩
      subst e''
      have li : i < ds.length := by omega
      have hd : ds[i]? = some ds[i] := List.getElem?_eq_getElem li
      generalize ds[i] = d at hd
      obtain ⟨x', hx', dx⟩ := dps_get dvs hd
      rw [hx] at hx'
      obtain rfl := Option.some.inj hx'
      have md := List.mem_of_getElem? hd
      have fd := fm d md
      rw [flat_one (lv 4) hd]
      have ld : (lv 4 d).length ≤ 57 := by
        refine Nat.le_trans ?_ few7
        rw [List.flatMap_def]
        exact (List.sublist_flatten_of_mem (List.mem_map.mpr ⟨d, md, rfl⟩)).length_le
      refine ⟨_, rfl, x, 4, hs, as, d, rfl, fd, by omega, by omega, dp_same gg _ _ dx, fun q ws H2 g2 nq hq dq => ⟨q, rfl, ⟨_, SqL.of hq⟩, ?_⟩⟩
      have fq : f ≠ q := fun z => by
        rw [z] at ef
        rw [nq] at ef
        cases ef
      have gg2 := gg.trans g2
      have ef2 := g2 _ _ ef
      have df2 := dps_same g2 _ _ df
      have lws := dps_len dq
      have lvf : ∀ e ∈ lv 4 d, Fm hs as 4 e := fun e m => forms_fm 4 fd e (List.mem_filter.mp m).1
      have nlv : noLs (lv 4 d) = true := noLs_all fun e m => fm_noL (lvf e m)
      have lvb : ∀ e ∈ lv 4 d, lvB e = true := fun e m => (List.mem_filter.mp m).2
      generalize lv 4 d = es at *
      refine for_it (walk_list (xs := ws)) (fun j σ' H' => ∃ x4 fs zs, σ' = [some (.ref l), some v, some (.ref f), some x, x4, none, none] ∧ Same H H' ∧ But f H2 H' ∧ H' f = some (.lst fs) ∧ DpAll K H' fs (zs.map pairD) ∧ CutInv ss zs ((ds.take i).flatMap (lv 4) ++ es.take j)) ⟨_, fs, zs, rfl, gg2, But.refl _ _, ef2, df2, by rw [List.take_zero, List.append_nil]; exact inv⟩ (fun j σ' H' _ z => ?_) ?_ ?_
      · obtain ⟨_, _, _, _, _, bt, _⟩ := z
        exact SqL.of (bt _ _ (Ne.symm fq) hq)
      · rintro j y σ' H' H'' hj ⟨x4, fs, zs, rfl, gg3, bt, ef, df, inv⟩ ⟨e'', hy⟩
        subst e''
        have lj : j < es.length := by omega
        have he : es[j]? = some es[j] := List.getElem?_eq_getElem lj
        generalize es[j] = e at he
        obtain ⟨y', hy', dy⟩ := dps_get dq he
        rw [hy] at hy'
        obtain rfl := Option.some.inj hy'
        have me := List.mem_of_getElem? he
        have fe := lvf e me
        have dy2 := dp_tups (fun a xs h => But.tup bt ef2 h) _ _ (fm_noL fe) dy
        obtain ⟨ei, lays, _, _⟩ := init_strs fe nm
        obtain ⟨s0, r, rfl, _, _⟩ := fm_head fe
        have ei' : PyData.tuple (PyData.str s0 :: r).dropLast = .tuple ((strI (.tuple (.str s0 :: r))).map .str) := ei
        have et := take_more' he
        rw [et, ← List.append_assoc]
        have fin : ∀ (x4 : Option V) H5 fs zs, Same H'' H5 ∨ (Same H H5 ∧ But f H'' H5) → H5 f = some (.lst fs) → DpAll K H5 fs (zs.map pairD) → CutInv ss zs ((ds.take i).flatMap (lv 4) ++ es.take j ++ [.tuple (.str s0 :: r)]) → ∃ x5 fs zs, [some (.ref l), some v, some (.ref f), some x, x4, none, none] = [some (.ref l), some v, some (.ref f), some x, x5, none, none] ∧ Same H H5 ∧ But f H2 H5 ∧ H5 f = some (.lst fs) ∧ DpAll K H5 fs (zs.map pairD) ∧ CutInv ss zs ((ds.take i).flatMap (lv 4) ++ es.take j ++ [.tuple (.str s0 :: r)]) := fun x4 H5 fs zs h1 h2 h3 h4 => ⟨x4, fs, zs, rfl, h1.elim (fun z => gg3.trans z) And.left, h1.elim (fun z => bt.same z) (fun z => bt.trans z.2), h2, h3, h4⟩
        refine if_cut (fun b H5 => Same H'' H5 ∧ (b = true → strI (.tuple (.str s0 :: r)) = ss ∧ chOf (.tuple (.str s0 :: r)) ∉ zs) ∧ (b = false → strI (.tuple (.str s0 :: r)) ≠ ss ∨ chOf (.tuple (.str s0 :: r)) ∈ zs)) (fun b H5 hb => ?_) (fun Q' fin2 => ?_)
        · obtain ⟨g5, ht, hf5⟩ := hb
          cases b with
          | false =>
            exact fin _ _ fs zs (.inl g5) (g5 _ _ ef) (dps_same g5 _ _ df) (inv.skip (hf5 rfl))
          | true =>
            obtain ⟨es, ne⟩ := ht rfl
            have it := key_test fe nm tk es
            obtain ⟨us, ed, _⟩ := ch_of fe it
            have u7 : chOf (.tuple (.str s0 :: r)) ∈ U7 := by
              obtain ⟨_, _, _, _, c, u, _⟩ := ch_test (fm_test fe it).2
              rw [c]
              exact u
            have dy5 := dp_same g5 _ _ dy2
            rw [ed] at dy5
            cases dy5 with
            | @tup p xs _ hxs ha =>
            obtain ⟨u, du, at_⟩ := last_at ha
            have ef5 := g5 _ _ ef
            have df5 := dps_same g5 _ _ df
            have lf := dps_len df
            rw [List.length_map] at lf
            have l7 := inv.len
            refine ⟨_, rfl, .inl ⟨rfl, _, SqL.of ef5⟩, _, rfl, 1, rfl, p, xs, -1, u, rfl, rfl, hxs, at_, f, _, _, rfl, rfl, ef5, small1000 (by omega), ?_⟩
            have tu := tup_upd0 (K := K) (o := .lst (fs ++ [u])) ef5
            refine fin _ _ (fs ++ [u]) (zs ++ [chOf (.tuple (.str s0 :: r))]) (.inr ⟨same_upd (gg3.trans g5) nf, fun b o n e => by rw [upd_ne n]; exact g5 _ _ e⟩) upd_same ?_ (inv.add es ne u7)
            rw [List.map_append]
            exact dps_app (dps_tups tu _ _ (pairs_nl _) df5) (.cons (dp_tups tu _ _ rfl du) .nil)
        · refine ⟨_, rfl, no_part ⟨_, rfl, _, rfl, init_at dy2 (by simp) fun b H3 g3 db => ?_⟩⟩
          rw [ei'] at db
          refine ⟨_, rfl, _, _, db, dp_same (gg3.trans g3) _ _ hv, shaped_strs lays, shaped_strs lay, _, rfl, ?_⟩
          have eq1 : (PyData.tuple (List.map PyData.str (strI (PyData.tuple (PyData.str s0 :: r))))).eqv (PyData.tuple (List.map PyData.str ss)) = decide (strI (PyData.tuple (PyData.str s0 :: r)) = ss) := eqv_strs _ _
          rw [eq1]
          refine ite2 (fun c => ?_) (fun c => fin2 _ _ ⟨g3, fun z => (by cases z), fun _ => .inl (fun z => c (decide_eq_true z))⟩)
          have es := of_decide_eq_true c
          have it := key_test fe nm tk es
          obtain ⟨us, ed, _⟩ := ch_of fe it
          have u7 : chOf (.tuple (.str s0 :: r)) ∈ U7 := by
            obtain ⟨_, _, _, _, c, u, _⟩ := ch_test (fm_test fe it).2
            rw [c]
            exact u
          cases id dy2 with
          | @tup p xs _ hxs ha =>
          obtain ⟨z0, hz0, dz0⟩ := dps_get (i := 0) ha rfl
          obtain rfl := dp_str dz0
          refine ⟨_, rfl, p, xs, 0, _, rfl, rfl, Same.tup g3 hxs, at_of (j := 0) rfl hz0, (by show 3 ≤ sizeLine; decide), fun q2 hq2 => ⟨q2, _, rfl, .inr (SqT.of upd_same), rfl, rfl, _, rfl, ?_⟩⟩
          have g4 := same_new hq2 (.tup [.str "row", .str "block", .str "hash"])
          have e3 := g3 _ _ ef
          have e4 := g4 _ _ e3
          have g34 := g3.trans g4
          generalize upd H3 q2 (.tup [.str "row", .str "block", .str "hash"]) = H4 at *
          rw [inV3 (K := K)]
          refine ite2 (fun _ => ?_) (fun c2 => absurd (show (decide (s0 = "row") || decide (s0 = "block") || decide (s0 = "hash")) = true from it) c2)
          rw [show PyData.str s0 :: r = us.map PyData.str ++ [pairD (chOf (.tuple (.str s0 :: r)))] from PyData.tuple.inj ed] at ha
          obtain ⟨u, hu, at_⟩ := last_at ha
          have du := dp_same g34 _ _ hu
          have df4 := dps_same g34 _ _ df
          refine ⟨_, rfl, 1, rfl, p, xs, -1, u, rfl, rfl, Same.tup g34 hxs, at_, _, rfl, _, _, du, .lst (SqL.of e4) df4, pair_shaped u7, pairs_shaped inv.u, _, rfl, ?_⟩
          refine fin2 _ _ ⟨g34, fun z => ⟨es, fun m => ?_⟩, fun z => .inr ?_⟩
          · rw [any_pairs, decide_eq_true m] at z
            cases z
          · rw [any_pairs] at z
            exact of_decide_eq_true (by simpa using z)
      · rintro σ' H' ⟨x4, fs, zs, rfl, gg3, bt, ef, df, inv⟩
        rw [lws, List.take_length] at inv
        exact ⟨_, _, fs, zs, rfl, gg3, ef, df, inv⟩
    · rintro σ' H' ⟨x3, x4, fs, zs, rfl, gg, ef, df, inv⟩
      rw [lvs, List.take_length] at inv
      exact tail _ _ ⟨_, _, fs, zs, rfl, gg, ef, df, inv⟩
  rintro σ' H' ⟨x3, x4, fs, zs, rfl, gg, ef, df, inv⟩
  have ce := cuts_done fm nm tk inv
  have l7 := inv.len
  have hz := inv.u
  have lf := dps_len df
  rw [List.length_map] at lf
  refine ⟨_, rfl, f, rfl, ⟨_, SqL.of ef⟩, fun D hD => ?_⟩
  refine lc_list (K := K) (a := f) (xs := fs) (fun i H5 => Same H' H5 ∧ ∃ as' : List Addr, H5 D = some (.lst (as'.map V.ref)) ∧ as'.Nodup ∧ (∀ a ∈ as', H5 a ≠ none) ∧ DpAll K H5 (as'.map V.ref) (((zs.take i).map cutRow).map PyData.tuple)) ⟨same_new hD _, [], upd_same, .nil, (fun a m => by cases m), .nil⟩ (fun i H5 _ z => z.1.seq (SqL.of ef)) ?_ ?_
  · rintro i x H5 hx ⟨g5, as', eD, nd, al, da⟩
    obtain ⟨z, q, hzi, rfl, sq⟩ := dps_pair_at df hx
    obtain ⟨r1, r2, r3⟩ := U7_rkb z (hz z (List.mem_of_getElem? hzi))
    have sq5 := Same.tup g5 sq
    have la := dps_len da
    rw [List.length_map, List.length_map, List.length_map, List.length_take] at la
    refine ⟨rfl, _, rfl, q, _, _, _, rfl, rfl, sq5, at_of (j := 0) rfl rfl, _, _, rfl, rfl, small_mul r1, _, rfl, q, _, _, _, rfl, rfl, sq5, at_of (j := 1) rfl rfl, _, _, rfl, rfl, ⟨r2, r3⟩, _, rfl, (by show 2 ≤ sizeLine; decide), fun t ht => ?_⟩
    have g6 := same_new ht (.tup [.int (rkZ z), .ref q])
    have e6 : upd H5 t (.tup [.int (rkZ z), .ref q]) D = some (.lst (as'.map V.ref)) := g6 _ _ eD
    have st : SqT K (upd H5 t (.tup [.int (rkZ z), .ref q])) t [.int (rkZ z), .ref q] := SqT.of upd_same
    have nt : t ∉ as' := fun m => al t m ht
    refine ⟨as'.map V.ref, e6, small1000 (by rw [List.length_map]; omega), same_upd (g5.trans g6) hD, as' ++ [t], ?_, ?_, ?_, ?_⟩
    · rw [List.map_append]
      exact upd_same
    · refine List.nodup_append.mpr ⟨nd, List.nodup_cons.mpr ⟨by simp, List.nodup_nil⟩, fun a ma b mb e => ?_⟩
      rw [List.mem_singleton.mp mb] at e
      exact nt (e ▸ ma)
    · intro a m
      by_cases c : a = D
      · rw [c]
        show upd _ D _ D ≠ none
        rw [upd_same]
        exact fun z => by cases z
      · rw [upd_ne c]
        rcases List.mem_append.mp m with m | m
        · cases e9 : H5 a with
          | none => exact absurd e9 (al a m)
          | some o =>
            exact fun z => by
              have := (g6 _ _ e9).symm.trans z
              cases this
        · rw [List.mem_singleton.mp m]
          exact fun y => by
            have := (upd_same (H := H5) (a := t) (o := .tup [.int (rkZ z), .ref q])).symm.trans y
            cases this
    · rw [List.map_append, take_more' hzi, List.map_append, List.map_append]
      have tu := tup_upd0 (K := K) (o := .lst ((as' ++ [t]).map V.ref)) e6
      have nl : ∀ l : List (Int × Int), noLs ((l.map cutRow).map PyData.tuple) = true := fun l => noLs_all fun e m => by
        obtain ⟨y, m, ey⟩ := List.mem_map.mp m
        obtain ⟨z, _, ez⟩ := List.mem_map.mp m
        rw [← ey, ← ez]
        rfl
      rw [List.map_append] at tu
      exact dps_app (dps_tups tu _ _ (nl _) (dps_same g6 _ _ da)) (.cons (dp_tups tu _ _ rfl (.tup st (.cons (.int _) (.cons (pair_dp (Same.tup g6 sq5)) .nil)))) .nil)
  · rintro H5 ⟨g5, as', eD, nd, al, da⟩
    rw [lf, List.take_length] at da
    have la := dps_len da
    rw [List.length_map, List.length_map] at la
    have ndv : (as'.map V.ref).Nodup := by
      refine List.pairwise_map.mpr (nd.imp fun n e => n (V.ref.inj e))
    have lk : (as'.map V.ref).length = (zs.map cutRow).length := by rw [List.length_map, la]
    have kat := fun {x : V} {i : Nat} (h : (as'.map V.ref)[i]? = some x) => kOf_at (rs := zs.map cutRow) ndv lk h
    have kmap := kOf_map (rs := zs.map cutRow) ndv lk
    generalize hk : kOf (as'.map V.ref) (zs.map cutRow) = kk at *
    have kz : ∀ x ∈ as'.map V.ref, ∃ z ∈ zs, kk x = cutRow z ∧ Dp K H5 x (.tuple (cutRow z)) := fun x m => by
      obtain ⟨i, hi, e⟩ := List.mem_iff_getElem.mp m
      have hx : (as'.map V.ref)[i]? = some x := by rw [List.getElem?_eq_getElem hi, e]
      have h1 := kat hx
      rw [List.getElem?_map] at h1
      obtain ⟨z, hz1, e1⟩ := Option.map_eq_some_iff.mp h1
      obtain ⟨y, hy, dy⟩ := dps_get da (i := i) (d := .tuple (cutRow z)) (by rw [List.getElem?_map, List.getElem?_map, hz1]; rfl)
      rw [hx] at hy
      cases hy
      exact ⟨z, List.mem_of_getElem? hz1, e1.symm, dy⟩
    refine ⟨D, as'.map V.ref, kk, true, rfl, SqL.of eD, fun x m => ?_, fun x mx y my => ?_, fun ys p pm so hp => ?_⟩
    · obtain ⟨z, mz, e, dx⟩ := kz x m
      obtain ⟨t, _, rfl⟩ := List.mem_map.mp m
      refine ⟨t, rfl, by rw [e]; exact dx, by rw [e]; exact row_ok z, by rw [e]; rfl⟩
    · obtain ⟨z, mz, e, _⟩ := kz x mx
      obtain ⟨u, mu, e2, _⟩ := kz y my
      rw [e, e2]
      exact row_cmp (hz z mz) (hz u mu)
    have pmk : (zs.map cutRow).Perm (ys.map kk) := by
      rw [← kmap]
      exact (pm.map kk).symm
    obtain ⟨cs, ecs, pcs⟩ := perm_back pmk
    have soc : cs.Pairwise fun z w => ltL (rowC (cutRow w)) (rowC (cutRow z)) = false := by
      have s1 : (ys.map kk).Pairwise fun a b => ltL (rowC b) (rowC a) = false := List.pairwise_map.mpr so
      rw [ecs] at s1
      exact List.pairwise_map.mp s1
    obtain rfl := cuts_sorted hz inv.nd pcs soc
    have g6 := same_new hp (.lst ys)
    have e6 : upd H5 p (.lst ys) p = some (.lst ys) := upd_same
    generalize upd H5 p (.lst ys) = H6 at *
    have ly : ys.length = (cutsD zs).length := by
      have := congrArg List.length ecs
      rwa [List.length_map, List.length_map] at this
    have gg6 := gg.trans (g5.trans g6)
    have g56 := g6
    refine ⟨p, rfl, ⟨_, SqL.of e6⟩, fun D2 hD2 => ?_⟩
    have kat2 : ∀ {x : V} {i : Nat}, ys[i]? = some x → ∃ z, (cutsD zs)[i]? = some z ∧ Dp K H6 x (.tuple (cutRow z)) := fun {x i} h => by
      have h1 : (ys.map kk)[i]? = some (kk x) := by rw [List.getElem?_map, h]; rfl
      rw [ecs, List.getElem?_map] at h1
      obtain ⟨z, hz1, e1⟩ := Option.map_eq_some_iff.mp h1
      obtain ⟨u, mu, e2, du⟩ := kz x (pm.mem_iff.mp (List.mem_of_getElem? h))
      refine ⟨z, hz1, ?_⟩
      rw [e1, e2]
      exact dp_same g6 _ _ du
    have l7c : (cutsD zs).length ≤ 7 := List.length_filter_le _ _
    rw [← ce] at k
    generalize cutsD zs = cs at *
    refine lc_list (K := K) (a := p) (xs := ys) (fun i H7 => Same H6 H7 ∧ ∃ acc, H7 D2 = some (.lst acc) ∧ DpAll K H7 acc ((cs.take i).map pairD)) ⟨same_new hD2 _, [], upd_same, .nil⟩ (fun i H7 _ z => z.1.seq (SqL.of e6)) ?_ ?_
    · rintro i x H7 hx ⟨g7, acc, eD2, da2⟩
      obtain ⟨z, hzi, dx⟩ := kat2 hx
      have dx7 := dp_same g7 _ _ dx
      cases dx7 with
      | @tup t xs _ hxs ha =>
      obtain ⟨u, y, rfl, du, dy⟩ := dps2 ha
      have la2 := dps_len da2
      rw [List.length_map, List.length_take] at la2
      refine ⟨t, _, rfl, hxs, rfl, _, _, rfl, _, _, rfl, rfl, rfl, _, rfl, acc, eD2, small1000 (by omega), same_upd g7 hD2, acc ++ [y], upd_same, ?_⟩
      rw [take_more' hzi, List.map_append]
      have tu := tup_upd0 (K := K) (o := .lst (acc ++ [y])) eD2
      exact dps_app (dps_tups tu _ _ (pairs_nl _) da2) (.cons (dp_tups tu _ _ rfl dy) .nil)
    · rintro H7 ⟨g7, acc, eD2, da2⟩
      rw [ly, List.take_length] at da2
      exact k D2 acc H7 (gg6.trans g7) (same_none gg6 hD2) eD2 da2

end
end My
set_option Elab.async false
set_option linter.all false
set_option maxRecDepth 100000
set_option maxHeartbeats 400000
namespace My
open PySem L2 PySem.Spec PyProof.Rows
section
variable {P : Program} {w : World} {K : PySem.W.Frag} {mg : Str → Option Value} {base : Heap}
/-! ### the law's tests and asks: sorted(set(found)) -/
theorem keys_of_dps {K : PySem.W.Frag} {H : Hp} : ∀ {ws : List V} {es : List PyData}, DpAll K H ws es → (∀ e ∈ es, ∃ d, e = .tuple d) → ∃ ks : List (Addr × PyData), ks.map (fun p => V.ref p.1) = ws ∧ ks.map (·.2) = es ∧ ∀ p ∈ ks, Dp K H (.ref p.1) p.2
  | _, _, .nil, _ => ⟨[], rfl, rfl, fun p m => by cases m⟩
  | _, _, @DpAll.cons _ _ v vs e es h r, ok => by
    obtain ⟨ks, e1, e2, e3⟩ := keys_of_dps r fun x m => ok x (.tail _ m)
    obtain ⟨d, rfl⟩ := ok e (.head _)
    cases h with
    | @tup a xs _ hs ha =>
      refine ⟨(a, .tuple d) :: ks, by rw [List.map_cons, e1], by rw [List.map_cons, e2], fun p m => ?_⟩
      rcases List.mem_cons.mp m with rfl | m
      · exact .tup hs ha
      · exact e3 p m
theorem dps_of_keys {K : PySem.W.Frag} {H : Hp} : ∀ {M : List (Addr × PyData)}, (∀ y ∈ M, Dp K H (.ref y.1) y.2) → DpAll K H (M.map fun y => V.ref y.1) (M.map (·.2))
  | [], _ => .nil
  | y :: r, h => .cons (h y (.head _)) (dps_of_keys fun z m => h z (.tail _ m))
theorem sets_at {P : Program} {w : World} {K : PySem.W.Frag} {H : Hp} {f : Addr} {ws : List V} {es : List PyData} {Q : VK} (ef : H f = some (.lst ws)) (d : DpAll K H ws es) (ok : ∀ e ∈ es, ∃ r, e = .tuple r ∧ RowOk r ∧ HeadIs false r) (cmp : ∀ e ∈ es, ∀ x ∈ es, CmpOk (itemsD e) (itemsD x)) (len : es.length < 64)
    (k : ∀ q ws' ts H', Same H H' → H q = none → H' q = some (.lst ws') → DpAll K H' ws' ts → SortedOf es ts → Q (.ref q) H') : rSetN K P w [.ref f] H fun x H1 => rSortSetN K P w [x] H1 Q := by
  obtain ⟨ks, e1, e2, e3⟩ := keys_of_dps d fun e m => by
    obtain ⟨r, e, _⟩ := ok e m
    exact ⟨r, e⟩
  have rowof : ∀ p ∈ ks, ∃ r, p.2 = .tuple r ∧ RowOk r ∧ HeadIs false r := fun p m => ok p.2 (by rw [← e2]; exact List.mem_map.mpr ⟨p, m, rfl⟩)
  refine ⟨f, ks, rfl, by rw [e1]; exact SqL.of ef, fun p m => ⟨e3 p m, ?_⟩, by rw [e2]; exact few_of len, fun a L ha got _ => ?_⟩
  · obtain ⟨r, e, ro, _⟩ := rowof p m
    rw [e]
    exact rowOk_deep ro
  have g1 := same_new ha (SetNO P w a L)
  refine ⟨a, L, false, rfl, upd_same, fun p m => ?_, fun p m q n => ?_, fun L' p pm so hp => ?_⟩
  · obtain ⟨r, e, ro, hd⟩ := rowof p (got.sub p m)
    exact ⟨r, e, dp_same g1 _ _ (e3 p (got.sub p m)), ro, hd⟩
  · exact cmp _ (by rw [← e2]; exact List.mem_map.mpr ⟨p, got.sub p m, rfl⟩) _ (by rw [← e2]; exact List.mem_map.mpr ⟨q, got.sub q n, rfl⟩)
  · have g2 := same_new hp (.lst (L'.map fun p => V.ref p.1))
    refine k p _ (L'.map (·.2)) _ (g1.trans g2) (same_none g1 hp) upd_same (dps_of_keys fun y m => dp_same (g1.trans g2) _ _ (e3 y (got.sub y (pm.mem_iff.mp m)))) ⟨(pm.map (·.2)).nodup_iff.mpr got.uniq, fun x => ?_, List.pairwise_map.mpr so⟩
    rw [(pm.map (·.2)).mem_iff, ← e2]
    constructor
    · intro m
      obtain ⟨y, my, rfl⟩ := List.mem_map.mp m
      exact List.mem_map.mpr ⟨y, got.sub y my, rfl⟩
    · intro m
      obtain ⟨y, my, rfl⟩ := List.mem_map.mp m
      exact got.all_ y my
def asksOf (ds : List PyData) : List PyData := (ds.flatMap (lv 4)).filter isAsk
theorem tests_lv (ds : List PyData) : testsOf ds = ((ds.flatMap (lv 4)).filter isTest).map initD := by
  unfold testsOf
  rw [← lv_flat, List.filter_filter]
  congr 1
  refine List.filter_congr fun x _ => ?_
  cases e : isTest x with
  | true =>
    have e2 : lvB x = true := by unfold lvB; rw [e]; rfl
    rw [e2]
    rfl
  | false => rfl
def sp_lset (K : PySem.W.Frag) (S : List PyData → List PyData) : Sp := fun vs H Q _ => ∃ (l : Addr) (hs : List Str) (as : List (Str × Bool)) (ds : List PyData), vs = [.ref l] ∧ PlansAt K hs as H l ds ∧ ∀ q ws ts H', Same H H' → H q = none → H' q = some (.lst ws) → DpAll K H' ws ts → SortedOf (S ds) ts → Q (.ref q) H'
section
variable {hs : List Str} {as : List (Str × Bool)}
theorem test_rows {ds : List PyData} (fm : ∀ d ∈ ds, Fm hs as 4 d) : ∀ e ∈ testsOf ds, ∃ ss : List Str, ss ≠ [] ∧ e = .tuple (ss.map .str) := fun e m => by
  obtain ⟨z, mz, rfl⟩ := List.mem_map.mp m
  obtain ⟨m1, m2⟩ := List.mem_filter.mp mz
  obtain ⟨d, md, mf⟩ := List.mem_flatMap.mp m1
  obtain ⟨_, tz⟩ := fm_test (forms_fm 4 (fm d md) z mf) m2
  obtain ⟨sz, n, ez⟩ := init_test tz
  exact ⟨sz, n, ez⟩
theorem ask_leaf {ds : List PyData} (fm : ∀ d ∈ ds, Fm hs as 4 d) : ∀ e ∈ asksOf ds, Leaf hs as e ∧ isAsk e = true := fun e m => by
  obtain ⟨m1, m2⟩ := List.mem_filter.mp m
  obtain ⟨d, md, mf⟩ := List.mem_flatMap.mp m1
  exact ⟨(lv_leaf (fm d md) mf).1, m2⟩
theorem ask_no {s : Str} {r : List PyData} (h : s = "row" ∨ s = "block" ∨ s = "hash" ∨ s = "all" ∨ s = "none") : isAsk (.tuple (.str s :: r)) = false := by
  show (decide (s = "less") || decide (s = "is") || decide (s = "like")) = false
  rcases h with h | h | h | h | h <;> subst h <;> decide +kernel
/-- what an ask is made of -/
theorem ask_parts {d : PyData} (h : Leaf hs as d) (a : isAsk d = true) : ∃ s n x, d = .tuple [.str s, .str n, x] ∧ (s = "less" ∨ s = "is" ∨ s = "like") ∧ ((∃ i : Int, x = .int i ∧ (n, true) ∈ as ∧ (s = "less" ∨ s = "is")) ∨ ∃ t : Str, x = .str t ∧ (n, false) ∈ as ∧ t.length ≤ 12 ∧ (s = "is" ∨ s = "like")) := by
  cases h with
  | all h => exact absurd a (by rw [ask_no (by rcases h with h | h; exact .inr (.inr (.inr (.inl h))); exact .inr (.inr (.inr (.inr h))))]; decide)
  | test h _ _ => exact absurd a (by rw [ask_no (by rcases h with h | h; exact .inl h; exact .inr (.inl h))]; decide)
  | hash h _ _ _ => exact absurd a (by rw [ask_no (.inr (.inr (.inl h)))]; decide)
  | @num s n i h m _ _ => exact ⟨s, n, .int i, rfl, h.imp id .inl, .inl ⟨i, rfl, m, h⟩⟩
  | @txt s n t h m l => exact ⟨s, n, .str t, rfl, .inr h, .inr ⟨t, rfl, m, l, h⟩⟩
theorem nd_key {as : List (Str × Bool)} (nd : (as.map Prod.fst).Nodup) {n : Str} (h1 : (n, true) ∈ as) (h2 : (n, false) ∈ as) : False := by
  induction as with
  | nil => cases h1
  | cons x r ih =>
    rw [List.map_cons, List.nodup_cons] at nd
    rcases List.mem_cons.mp h1 with e | h1
    · rcases List.mem_cons.mp h2 with e2 | h2
      · rw [← e] at e2
        cases e2
      · exact nd.1 (List.mem_map.mpr ⟨_, h2, by rw [← e]⟩)
    · rcases List.mem_cons.mp h2 with e2 | h2
      · exact nd.1 (List.mem_map.mpr ⟨_, h1, by rw [← e2]⟩)
      · exact ih nd.2 h1 h2
theorem ask_cmp {d e : PyData} (nm : NmOk hs as) (hd : Leaf hs as d) (ad : isAsk d = true) (he : Leaf hs as e) (ae : isAsk e = true) : CmpOk (itemsD d) (itemsD e) := by
  obtain ⟨s, n, x, rfl, _, kx⟩ := ask_parts hd ad
  obtain ⟨t, m, y, rfl, _, ky⟩ := ask_parts he ae
  refine ⟨fun e1 => ⟨fun e2 => ⟨fun _ => trivial, fun _ => ?_⟩, fun _ => trivial⟩, fun _ => trivial⟩
  cases e2
  rcases kx with ⟨i, rfl, m1, _⟩ | ⟨a, rfl, m1, _⟩ <;> rcases ky with ⟨j, rfl, m2, _⟩ | ⟨b, rfl, m2, _⟩
  · trivial
  · exact (nd_key nm.nd m1 m2).elim
  · exact (nd_key nm.nd m2 m1).elim
  · trivial
end

end
end My
set_option Elab.async false
set_option linter.all false
set_option maxRecDepth 100000
set_option maxHeartbeats 400000
namespace My
open PySem L2 PySem.Spec PyProof.Rows
section
variable {P : Program} {w : World} {K : PySem.W.Frag} {mg : Str → Option Value} {base : Heap}
theorem lv_le {ds : List PyData} {d : PyData} (m : d ∈ ds) : (lv 4 d).length ≤ (ds.flatMap (lv 4)).length := by
  rw [List.flatMap_def]
  exact (List.sublist_flatten_of_mem (List.mem_map.mpr ⟨d, m, rfl⟩)).length_le
theorem flat_take_le {ds : List PyData} {i : Nat} : ((ds.take i).flatMap (lv 4)).length ≤ (ds.flatMap (lv 4)).length := by
  have e9 : ds = ds.take i ++ ds.drop i := (List.take_append_drop _ _).symm
  conv => rhs; rw [e9, List.flatMap_append, List.length_append]
  exact Nat.le_add_right _ _
theorem ok__law_tests (T : Txt K mg) : FnOk P w K mg base CX0 11 T.a__law_tests T.d__law_tests ["plans"] (sp_lset K testsOf) := by
  have G__law_leaves := ok__law_leaves (P := P) (w := w) (base := base) T
  refine T.F__law_tests.ok sc__law_tests (fun vs H Q E h => ?_) (fun cdv A outer s H vs Q E hr h => ?_)
  · obtain ⟨l, hs, as, ds, rfl, _⟩ := h
    rfl
  obtain ⟨l, hs, as, ds, rfl, hp, k⟩ := h
  refine ⟨_, (pss_cons (ps_set (i := 1) sc__law_tests.nd rfl (by first | exact Or.inl rfl | exact Or.inr rfl) (pe_lst pa_nil))
    (pss_cons (ps_for PassesOwn.never rfl (pi_list (pv 0)) (pg_name (i := 2) sc__law_tests.nd rfl (by first | exact Or.inl rfl | exact Or.inr rfl))
    (pss_one (ps_set (i := 1) sc__law_tests.nd rfl (by first | exact Or.inl rfl | exact Or.inr rfl) (pe_op op_cat (pv 1) (pe_lc (own := [("leaf", 3)]) rfl sc__law_tests.nd (pi_list (pe_call G__law_leaves (hr.mono (by first | decide | omega)) (by rfl) T.m__law_leaves T.F__law_leaves.kp T.b__law_leaves .nil pass0 (pa_cons (pv 2) pa_nil))) (blkOk_by (own := [("leaf", 3)]) (N := ["plans", "found", "plan", "leaf"]) (sc := defScope s__law_tests) (by decide +kernel)) (fun _ _ _ _ _ => (pg_name (i := 3) sc__law_tests.nd rfl (by first | exact Or.inl rfl | exact Or.inr rfl))) (fun _ _ _ _ _ => (pts_one (pt_cmpR (show OpR _ _ (rIn K false) from op_in_seq) (pe_ix (show IxR _ (rIxT K) from ix_tup) (pv 3) pe_int (fun _ _ => rfl)) (pe_tup (pa_cons pe_str (pa_cons pe_str (pa_cons pe_str pa_nil)))) (by with_unfolding_all rfl)))) (fun _ _ _ _ _ => (pe_slice (show SlR _ (rSlA K) from sl_tupA) (pv 3) po_none (po_some (pe_un un_neg pe_int)))))))))
    (pss_one (ps_ret (pe_callB (cr_sortSetN rfl (hu100 hr)) (by rfl) T.z_sorted (by decide +kernel) (pa_cons (pe_callTy (cr_setN rfl (hu100 hr)) (by rfl) T.z_set (by decide +kernel) (pa_cons (pv 1) pa_nil)) pa_nil)))))), ?_⟩
  obtain ⟨vs, hl, dvs, fm, l3, few, few7, nm⟩ := id hp
  refine ⟨(by show 0 ≤ sizeLine; decide), fun f hf => ?_⟩
  have g1 := same_new hf (.lst [])
  have e1 : upd H f (.lst []) f = some (.lst []) := upd_same
  generalize upd H f (.lst []) = H1 at *
  dsimp only
  refine seq_cut (fun σ' H' => ∃ x3 x4 f' fs, σ' = [some (.ref l), some (.ref f'), x3, x4] ∧ Same H H' ∧ H' f' = some (.lst fs) ∧ DpAll K H' fs (testsOf ds)) ?_ (fun tail => ?_)
  rotate_left
  · refine ⟨_, rfl, l, rfl, ⟨_, Same.seq g1 hl⟩, ?_⟩
    have lvs := dps_len dvs
    rw [tests_lv] at tail
    refine for_it (walk_list (xs := vs)) (fun i σ' H' => ∃ x3 f' fs, σ' = [some (.ref l), some (.ref f'), x3, none] ∧ Same H H' ∧ H' f' = some (.lst fs) ∧ DpAll K H' fs ((((ds.take i).flatMap (lv 4)).filter isTest).map initD)) ⟨_, f, [], rfl, g1, e1, .nil⟩ (fun i σ' H' _ z => ?_) ?_ ?_
    · obtain ⟨_, _, _, _, gg, _⟩ := z
      exact Same.seq gg hl
    · rintro i x σ' H' H'' hi ⟨x3, f', fs, rfl, gg, ef, df⟩ ⟨e'', hx⟩
      subst e''
      have li : i < ds.length := by omega
      have hd : ds[i]? = some ds[i] := List.getElem?_eq_getElem li
      generalize ds[i] = d at hd
      obtain ⟨x', hx', dx⟩ := dps_get dvs hd
      rw [hx] at hx'
      obtain rfl := Option.some.inj hx'
      have md := List.mem_of_getElem? hd
      have fd := fm d md
      have ld := lv_le md
      have lt := flat_take_le (ds := ds) (i := i)
      have lt2 := flat_take_le (ds := ds) (i := i + 1)
      rw [flat_one (lv 4) hd] at lt2 ⊢
      rw [List.length_append] at lt2
      have lf := dps_len df
      rw [List.length_map] at lf
      have lf2 := List.length_filter_le isTest ((ds.take i).flatMap (lv 4))
      refine ⟨_, rfl, _, rfl, x, 4, hs, as, d, rfl, fd, by omega, by omega, dp_same gg _ _ dx, fun q ws H2 g2 nq hq dq => ⟨q, rfl, ⟨_, SqL.of hq⟩, fun D hD => ?_⟩⟩
      have lws := dps_len dq
      have lvf : ∀ e ∈ lv 4 d, Fm hs as 4 e := fun e m => forms_fm 4 fd e (List.mem_filter.mp m).1
      generalize lv 4 d = es at *
      refine lc_list (K := K) (a := q) (xs := ws) (fun j H' => Same H2 H' ∧ ∃ acc, H' D = some (.lst acc) ∧ DpAll K H' acc (((es.take j).filter isTest).map initD)) ⟨same_new hD _, [], upd_same, .nil⟩ (fun j H' _ z => z.1.seq (SqL.of hq)) ?_ ?_
      · rintro j y H3 hy ⟨g3, acc, eD, da⟩
        have lj : j < es.length := by
          rw [← lws]
          exact (List.getElem?_eq_some_iff.mp hy).1
        have he : es[j]? = some es[j] := List.getElem?_eq_getElem lj
        generalize es[j] = e at he
        obtain ⟨y', hy', dy⟩ := dps_get dq he
        rw [hy] at hy'
        obtain rfl := Option.some.inj hy'
        have fe := lvf e (List.mem_of_getElem? he)
        obtain ⟨ei, _, _, _⟩ := init_strs fe nm
        obtain ⟨s0, r, rfl, _, _⟩ := fm_head fe
        have ei' : PyData.tuple (PyData.str s0 :: r).dropLast = .tuple ((strI (.tuple (.str s0 :: r))).map .str) := ei
        have et := take_more' he
        have dy3 := dp_same g3 _ _ dy
        cases id dy3 with
        | @tup p xs _ hxs ha =>
        obtain ⟨z0, hz0, dz0⟩ := dps_get (i := 0) ha rfl
        obtain rfl := dp_str dz0
        refine ⟨rfl, _, rfl, p, xs, 0, _, rfl, rfl, hxs, at_of (j := 0) rfl hz0, (by show 3 ≤ sizeLine; decide), fun q2 hq2 => ⟨q2, _, rfl, .inr (SqT.of upd_same), rfl, rfl, _, rfl, ?_⟩⟩
        have g4 := same_new hq2 (.tup [.str "row", .str "block", .str "hash"])
        have eD4 := g4 _ _ eD
        have da4 := dps_same g4 _ _ da
        have dy4 := dp_same g4 _ _ dy3
        have g34 := g3.trans g4
        generalize upd H3 q2 (.tup [.str "row", .str "block", .str "hash"]) = H4 at *
        show if inV (.str s0) [.str "row", .str "block", .str "hash"] = true then _ else _
        rw [inV3 (K := K)]
        show if isTest (.tuple (.str s0 :: r)) = true then _ else _
        rw [et, List.filter_append, List.filter_cons]
        cases it : isTest (.tuple (.str s0 :: r)) with
        | false =>
          rw [if_neg Bool.false_ne_true, if_neg Bool.false_ne_true]
          refine ⟨g34, acc, eD4, ?_⟩
          simpa using da4
        | true =>
          rw [if_pos rfl, if_pos rfl, List.map_append]
          refine ⟨_, rfl, no_part ⟨_, rfl, _, rfl, init_at dy4 (by simp) fun b H5 g5 db => ?_⟩⟩
          rw [ei'] at db
          have la := dps_len da
          rw [List.length_map] at la
          have la2 := List.length_filter_le isTest (es.take j)
          rw [List.length_take] at la2
          refine ⟨acc, g5 _ _ eD4, small1000 (by omega), same_upd (g34.trans g5) hD, acc ++ [.ref b], upd_same, ?_⟩
          have tu := tup_upd0 (K := K) (o := .lst (acc ++ [.ref b])) (g5 _ _ eD4)
          have nl1 : noLs (((es.take j).filter isTest).map initD) = true := noLs_all fun x m => by
            obtain ⟨z, mz, rfl⟩ := List.mem_map.mp m
            obtain ⟨m1, m2⟩ := List.mem_filter.mp mz
            obtain ⟨_, tz⟩ := fm_test (lvf z (List.mem_of_mem_take m1)) m2
            obtain ⟨sz, _, ez⟩ := init_test tz
            rw [ez]
            exact noLs_all fun e m => by
              obtain ⟨t, _, rfl⟩ := List.mem_map.mp m
              rfl
          have nl2 : noL (.tuple ((strI (.tuple (.str s0 :: r))).map .str)) = true := noLs_all fun e m => by
            obtain ⟨t, _, rfl⟩ := List.mem_map.mp m
            rfl
          refine dps_app (dps_tups tu _ _ nl1 (dps_same g5 _ _ da4)) (.cons ?_ .nil)
          rw [ei]
          exact dp_tups tu _ _ nl2 db
      · rintro H3 ⟨g3, acc, eD, da⟩
        rw [lws, List.take_length] at da
        have la := dps_len da
        rw [List.length_map] at la
        have la2 := List.length_filter_le isTest es
        refine ⟨f', D, _, _, rfl, rfl, g3 _ _ (g2 _ _ ef), eD, Nat.le_of_lt (small1000 (by omega)), fun r1 hr1 => ?_⟩
        have g4 := same_new hr1 (.lst (fs ++ acc))
        refine ⟨_, r1, _, rfl, ((gg.trans g2).trans g3).trans g4, upd_same, ?_⟩
        rw [List.filter_append, List.map_append]
        exact dps_app (dps_same ((g2.trans g3).trans g4) _ _ df) (dps_same g4 _ _ da)
    · rintro σ' H' ⟨x3, f', fs, rfl, gg, ef, df⟩
      rw [lvs, List.take_length] at df
      exact tail _ _ ⟨_, _, _, _, rfl, gg, ef, df⟩
  rintro σ' H' ⟨x3, x4, f', fs, rfl, gg, ef, df⟩
  have rows := test_rows fm
  refine ⟨_, rfl, sets_at ef df (fun e m => ?_) (fun e m x n => ?_) (Nat.lt_of_le_of_lt (tests_len (hs := hs) (as := as) few7) (by decide)) fun q ws' ts H2 g2 nq hq dq so => k q ws' ts H2 (gg.trans g2) (same_none gg nq) hq dq so⟩
  · obtain ⟨ss, n, rfl⟩ := rows e m
    exact ⟨_, rfl, str_row ss, str_head n⟩
  · obtain ⟨ss, _, rfl⟩ := rows e m
    obtain ⟨ts, _, rfl⟩ := rows x n
    exact str_cmp ss ts

end
end My
set_option Elab.async false
set_option linter.all false
set_option maxRecDepth 100000
set_option maxHeartbeats 400000
namespace My
open PySem L2 PySem.Spec PyProof.Rows
section
variable {P : Program} {w : World} {K : PySem.W.Frag} {mg : Str → Option Value} {base : Heap}
theorem ok__law_asks (T : Txt K mg) : FnOk P w K mg base CX0 11 T.a__law_asks T.d__law_asks ["plans"] (sp_lset K asksOf) := by
  have G__law_leaves := ok__law_leaves (P := P) (w := w) (base := base) T
  refine T.F__law_asks.ok sc__law_asks (fun vs H Q E h => ?_) (fun cdv A outer s H vs Q E hr h => ?_)
  · obtain ⟨l, hs, as, ds, rfl, _⟩ := h
    rfl
  obtain ⟨l, hs, as, ds, rfl, hp, k⟩ := h
  refine ⟨_, (pss_cons (ps_set (i := 1) sc__law_asks.nd rfl (by first | exact Or.inl rfl | exact Or.inr rfl) (pe_lst pa_nil))
    (pss_cons (ps_for PassesOwn.never rfl (pi_list (pv 0)) (pg_name (i := 2) sc__law_asks.nd rfl (by first | exact Or.inl rfl | exact Or.inr rfl))
    (pss_one (ps_set (i := 1) sc__law_asks.nd rfl (by first | exact Or.inl rfl | exact Or.inr rfl) (pe_op op_cat (pv 1) (pe_lc (own := [("leaf", 3)]) rfl sc__law_asks.nd (pi_list (pe_call G__law_leaves (hr.mono (by first | decide | omega)) (by rfl) T.m__law_leaves T.F__law_leaves.kp T.b__law_leaves .nil pass0 (pa_cons (pv 2) pa_nil))) (blkOk_by (own := [("leaf", 3)]) (N := ["plans", "found", "plan", "leaf"]) (sc := defScope s__law_asks) (by decide +kernel)) (fun _ _ _ _ _ => (pg_name (i := 3) sc__law_asks.nd rfl (by first | exact Or.inl rfl | exact Or.inr rfl))) (fun _ _ _ _ _ => (pts_one (pt_cmpR (show OpR _ _ (rIn K false) from op_in_seq) (pe_ix (show IxR _ (rIxT K) from ix_tup) (pv 3) pe_int (fun _ _ => rfl)) (pe_tup (pa_cons pe_str (pa_cons pe_str (pa_cons pe_str pa_nil)))) (by with_unfolding_all rfl)))) (fun _ _ _ _ _ => (pv 3)))))))
    (pss_one (ps_ret (pe_callB (cr_sortSetN rfl (hu100 hr)) (by rfl) T.z_sorted (by decide +kernel) (pa_cons (pe_callTy (cr_setN rfl (hu100 hr)) (by rfl) T.z_set (by decide +kernel) (pa_cons (pv 1) pa_nil)) pa_nil)))))), ?_⟩
  obtain ⟨vs, hl, dvs, fm, l3, few, few7, nm⟩ := id hp
  refine ⟨(by show 0 ≤ sizeLine; decide), fun f hf => ?_⟩
  have g1 := same_new hf (.lst [])
  have e1 : upd H f (.lst []) f = some (.lst []) := upd_same
  generalize upd H f (.lst []) = H1 at *
  dsimp only
  refine seq_cut (fun σ' H' => ∃ x3 x4 f' fs, σ' = [some (.ref l), some (.ref f'), x3, x4] ∧ Same H H' ∧ H' f' = some (.lst fs) ∧ DpAll K H' fs (asksOf ds)) ?_ (fun tail => ?_)
  rotate_left
  · refine ⟨_, rfl, l, rfl, ⟨_, Same.seq g1 hl⟩, ?_⟩
    have lvs := dps_len dvs
    unfold asksOf at tail
    refine for_it (walk_list (xs := vs)) (fun i σ' H' => ∃ x3 f' fs, σ' = [some (.ref l), some (.ref f'), x3, none] ∧ Same H H' ∧ H' f' = some (.lst fs) ∧ DpAll K H' fs (((ds.take i).flatMap (lv 4)).filter isAsk)) ⟨_, f, [], rfl, g1, e1, .nil⟩ (fun i σ' H' _ z => ?_) ?_ ?_
    · obtain ⟨_, _, _, _, gg, _⟩ := z
      exact Same.seq gg hl
    · rintro i x σ' H' H'' hi ⟨x3, f', fs, rfl, gg, ef, df⟩ ⟨e'', hx⟩
      subst e''
      have li : i < ds.length := by omega
      have hd : ds[i]? = some ds[i] := List.getElem?_eq_getElem li
      generalize ds[i] = d at hd
      obtain ⟨x', hx', dx⟩ := dps_get dvs hd
      rw [hx] at hx'
      obtain rfl := Option.some.inj hx'
      have md := List.mem_of_getElem? hd
      have fd := fm d md
      have ld := lv_le md
      have lt := flat_take_le (ds := ds) (i := i)
      have lt2 := flat_take_le (ds := ds) (i := i + 1)
      rw [flat_one (lv 4) hd] at lt2 ⊢
      rw [List.length_append] at lt2
      have lf := dps_len df
      have lf2 := List.length_filter_le isAsk ((ds.take i).flatMap (lv 4))
      refine ⟨_, rfl, _, rfl, x, 4, hs, as, d, rfl, fd, by omega, by omega, dp_same gg _ _ dx, fun q ws H2 g2 nq hq dq => ⟨q, rfl, ⟨_, SqL.of hq⟩, fun D hD => ?_⟩⟩
      have lws := dps_len dq
      have lvf : ∀ e ∈ lv 4 d, Fm hs as 4 e := fun e m => forms_fm 4 fd e (List.mem_filter.mp m).1
      generalize lv 4 d = es at *
      refine lc_list (K := K) (a := q) (xs := ws) (fun j H' => Same H2 H' ∧ ∃ acc, H' D = some (.lst acc) ∧ DpAll K H' acc ((es.take j).filter isAsk)) ⟨same_new hD _, [], upd_same, .nil⟩ (fun j H' _ z => z.1.seq (SqL.of hq)) ?_ ?_
      · rintro j y H3 hy ⟨g3, acc, eD, da⟩
        have lj : j < es.length := by
          rw [← lws]
          exact (List.getElem?_eq_some_iff.mp hy).1
        have he : es[j]? = some es[j] := List.getElem?_eq_getElem lj
        generalize es[j] = e at he
        obtain ⟨y', hy', dy⟩ := dps_get dq he
        rw [hy] at hy'
        obtain rfl := Option.some.inj hy'
        have fe := lvf e (List.mem_of_getElem? he)
        obtain ⟨s0, r, rfl, _, _⟩ := fm_head fe
        have et := take_more' he
        have dy3 := dp_same g3 _ _ dy
        cases id dy3 with
        | @tup p xs _ hxs ha =>
        obtain ⟨z0, hz0, dz0⟩ := dps_get (i := 0) ha rfl
        obtain rfl := dp_str dz0
        refine ⟨rfl, _, rfl, p, xs, 0, _, rfl, rfl, hxs, at_of (j := 0) rfl hz0, (by show 3 ≤ sizeLine; decide), fun q2 hq2 => ⟨q2, _, rfl, .inr (SqT.of upd_same), rfl, rfl, _, rfl, ?_⟩⟩
        have g4 := same_new hq2 (.tup [.str "less", .str "is", .str "like"])
        have eD4 := g4 _ _ eD
        have da4 := dps_same g4 _ _ da
        have dy4 := dp_same g4 _ _ dy3
        have g34 := g3.trans g4
        generalize upd H3 q2 (.tup [.str "less", .str "is", .str "like"]) = H4 at *
        show if inV (.str s0) [.str "less", .str "is", .str "like"] = true then _ else _
        rw [inV3 (K := K)]
        show if isAsk (.tuple (.str s0 :: r)) = true then _ else _
        rw [et, List.filter_append, List.filter_cons]
        cases it : isAsk (.tuple (.str s0 :: r)) with
        | false =>
          rw [if_neg Bool.false_ne_true, if_neg Bool.false_ne_true]
          refine ⟨g34, acc, eD4, ?_⟩
          simpa using da4
        | true =>
          rw [if_pos rfl, if_pos rfl]
          have la := dps_len da
          have la2 := List.length_filter_le isAsk (es.take j)
          rw [List.length_take] at la2
          refine ⟨_, rfl, acc, eD4, small1000 (by omega), same_upd g34 hD, acc ++ [.ref p], upd_same, ?_⟩
          have tu := tup_upd0 (K := K) (o := .lst (acc ++ [.ref p])) eD4
          have nl1 : noLs ((es.take j).filter isAsk) = true := noLs_all fun x m => fm_noL (lvf x (List.mem_of_mem_take (List.mem_filter.mp m).1))
          exact dps_app (dps_tups tu _ _ nl1 da4) (.cons (dp_tups tu _ _ (fm_noL fe) dy4) .nil)
      · rintro H3 ⟨g3, acc, eD, da⟩
        rw [lws, List.take_length] at da
        have la := dps_len da
        have la2 := List.length_filter_le isAsk es
        refine ⟨f', D, _, _, rfl, rfl, g3 _ _ (g2 _ _ ef), eD, Nat.le_of_lt (small1000 (by omega)), fun r1 hr1 => ?_⟩
        have g4 := same_new hr1 (.lst (fs ++ acc))
        refine ⟨_, r1, _, rfl, ((gg.trans g2).trans g3).trans g4, upd_same, ?_⟩
        rw [List.filter_append]
        exact dps_app (dps_same ((g2.trans g3).trans g4) _ _ df) (dps_same g4 _ _ da)
    · rintro σ' H' ⟨x3, f', fs, rfl, gg, ef, df⟩
      rw [lvs, List.take_length] at df
      exact tail _ _ ⟨_, _, _, _, rfl, gg, ef, df⟩
  rintro σ' H' ⟨x3, x4, f', fs, rfl, gg, ef, df⟩
  have rows := ask_leaf fm
  have la : (asksOf ds).length ≤ 57 := Nat.le_trans (List.length_filter_le _ _) few7
  refine ⟨_, rfl, sets_at ef df (fun e m => ?_) (fun e m x n => ask_cmp nm (rows e m).1 (rows e m).2 (rows x n).1 (rows x n).2) (by omega) fun q ws' ts H2 g2 nq hq dq so => k q ws' ts H2 (gg.trans g2) (same_none gg nq) hq dq so⟩
  obtain ⟨lf, ia⟩ := rows e m
  have lk := (leaf_key lf).2
  obtain ⟨s, n, x, rfl, _, _⟩ := ask_parts lf ia
  exact ⟨_, rfl, lk, rfl⟩

end
end My
set_option Elab.async false
set_option linter.all false
set_option maxRecDepth 100000
set_option maxHeartbeats 400000
namespace My
open PySem L2 PySem.Spec PyProof.Rows
section
variable {P : Program} {w : World} {K : PySem.W.Frag} {mg : Str → Option Value} {base : Heap}
/-! ### the number of formulas -/
def sp_lfs (K : PySem.W.Frag) (m : Nat) : Sp := fun vs H Q _ => ∃ (v : V) (n : Nat) (hs : List Str) (as : List (Str × Bool)) (d : PyData), vs = [v] ∧ Fm hs as n d ∧ n ≤ m ∧ Dp K H v d ∧ ∀ H', Same H H' → Q (.int ((forms n d).length : Nat)) H'
theorem sum_forms {n : Nat} (ks : List PyData) : ((ks.map fun e => (((forms n e).length : Nat) : Int))).sum = (((ks.flatMap (forms n)).length : Nat) : Int) := by
  induction ks with
  | nil => rfl
  | cons e r ih =>
    rw [List.map_cons, List.sum_cons, ih, List.flatMap_cons, List.length_append]
    omega
theorem ok_lfs (T : Txt K mg) : ∀ m, FnOk P w K mg base CX0 (m + 1) T.a__law_formulas T.d__law_formulas ["plan"] (sp_lfs K m) := by

  intro m
  induction m with
  | zero => exact T.F__law_formulas.ok sc__law_formulas (fun vs H Q E h => by obtain ⟨_, _, _, _, _, rfl, _⟩ := h; rfl) (fun cdv A outer s H vs Q E hr h => by
      obtain ⟨_, n, _, _, _, _, z, l, _⟩ := h
      obtain rfl : n = 0 := by omega
      cases z)
  | succ m G__law_formulas =>
    refine T.F__law_formulas.ok sc__law_formulas (fun vs H Q E h => ?_) (fun cdv A outer s H vs Q E hr h => ?_)
    · obtain ⟨_, _, _, _, _, rfl, _⟩ := h
      rfl
    obtain ⟨v, n, hs, as, d, rfl, fm, le, dv, k⟩ := h
    refine ⟨_, (pss_cons (ps_if (pt_cmpR op_eq (pe_ix ix_tup (pv 0) pe_int (fun _ _ => rfl)) pe_str (nomark _)) (pss_one (ps_ret (pe_op op_add pe_int (pe_call G__law_formulas (hr.mono (by first | decide | omega)) (by rfl) T.m__law_formulas T.F__law_formulas.kp T.b__law_formulas .nil pass0 (pa_cons (pe_ix ix_tup (pv 0) pe_int (fun _ _ => rfl)) pa_nil))))) pss_nil)
    (pss_one (ps_ret (pe_ifExp (pt_cmpR op_in_seq (pe_ix ix_tup (pv 0) pe_int (fun _ _ => rfl)) (pe_tup (pa_cons pe_str (pa_cons pe_str pa_nil))) (by with_unfolding_all rfl)) (pe_op op_add pe_int (pe_callB (cr_sum rfl) (by rfl) T.z_sum (by decide +kernel) (pa_cons (pe_lc (own := [("part", 1)]) rfl sc__law_formulas.nd (pi_tup (pe_ix ix_tup (pv 0) pe_int (fun _ _ => rfl))) (blkOk_by (own := [("part", 1)]) (N := ["plan", "part"]) (sc := defScope s__law_formulas) (by decide +kernel)) (fun _ _ _ _ _ => (pg_name (i := 1) sc__law_formulas.nd rfl (by first | exact Or.inl rfl | exact Or.inr rfl))) (fun _ _ _ _ _ => pts_nil) (fun _ _ _ _ _ => (pe_call G__law_formulas (hr.mono (by first | decide | omega)) (by rfl) T.m__law_formulas T.F__law_formulas.kp T.b__law_formulas .nil pass0 (pa_cons (pv 1) pa_nil)))) pa_nil))) pe_int)))), ?_⟩
    obtain ⟨n, rfl⟩ : ∃ n', n = n' + 1 := by
      cases fm <;> exact ⟨_, rfl⟩
    obtain ⟨s, r, rfl, n1, n2⟩ := fm_head fm
    have fk := fm_kids fm
    have ef : (forms (n + 1) (.tuple (.str s :: r))).length = 1 + ((kidsD (.tuple (.str s :: r))).flatMap (forms n)).length := Nat.add_comm _ _
    rw [ef] at k
    cases id dv with
    | @tup p xs _ hs0 ha =>
    obtain ⟨x0, hx0, dx0⟩ := dps_get (i := 0) ha rfl
    have fh : flatD (.str s) = true := rfl
    have a0 : atI xs 0 = some x0 := at_of (j := 0) rfl hx0
    refine seq_cut (fun σ' H' => σ' = [some (.ref p), none] ∧ H = H' ∧ s ≠ "not") ?_ (fun tail => ?_)
    rotate_left
    · refine ⟨_, rfl, p, xs, 0, x0, rfl, rfl, hs0, a0, scal_is dx0 fh _, _, rfl, ?_⟩
      rw [dec_is dx0 fh]
      refine ite2 (fun c => ?_) (fun c => tail _ _ ⟨rfl, rfl, of_decide_eq_false (Bool.eq_false_iff.mpr c)⟩)
      obtain rfl : s = "not" := of_decide_eq_true c
      obtain ⟨e, rfl⟩ := one_of (n1 rfl)
      obtain ⟨x1, hx1, d1⟩ := dps_get (i := 1) ha rfl
      have ek : kidsD (.tuple [.str "not", e]) = [e] := kids_not rfl
      have me : e ∈ kidsD (.tuple [.str "not", e]) := by
        rw [ek]
        exact .head _
      rw [ek] at k
      refine ⟨_, rfl, p, xs, 1, x1, rfl, rfl, hs0, at_of (j := 1) rfl hx1, x1, n, hs, as, e, rfl, fk e me, by omega, d1, fun H' g => ⟨_, _, rfl, rfl, ?_⟩⟩
      have kk := k H' g
      rw [List.flatMap_cons, List.flatMap_nil, List.append_nil] at kk
      exact kk
    rintro σ' H' ⟨rfl, e0, m1⟩
    subst e0
    refine ⟨_, rfl, p, xs, 0, x0, rfl, rfl, hs0, a0, (by show 2 ≤ sizeLine; decide), fun q hq => ?_⟩
    have g2 := same_new hq (.tup [.str "and", .str "or"])
    refine in_pair "and" "or" (dp_same g2 _ _ dx0) fh upd_same ⟨_, rfl, ?_⟩
    generalize upd H q (.tup [.str "and", .str "or"]) = H2 at *
    refine ite2 (fun c => ?_) (fun c => ?_)
    · obtain ⟨ks, rfl⟩ := n2 c
      have ha2 := dps_same g2 _ _ ha
      obtain ⟨x1, hx1, d1⟩ := dps_get (i := 1) ha2 rfl
      have ek : kidsD (.tuple [.str s, .tuple ks]) = ks := kids_kids (by
        rcases Bool.or_eq_true_iff.mp c with z | z
        · exact .inl (of_decide_eq_true z)
        · exact .inr (of_decide_eq_true z))
      rw [ek] at fk k
      have lk : ks.length ≤ 3 := by
        cases fm with
        | leaf h => exact absurd h (by rintro (_ | _))
        | not _ => exact absurd c (by decide +kernel)
        | kids _ _ h _ => exact h
      cases d1 with
      | @tup l ys _ hl hys =>
      have ly := dps_len hys
      refine ⟨_, rfl, p, xs, 1, _, rfl, rfl, Same.tup g2 hs0, at_of (j := 1) rfl hx1, l, rfl, ⟨_, hl⟩, fun D hD => ?_⟩
      refine lc_tup (fun i H' => Same H2 H' ∧ H' D = some (.lst (((ks.take i).map fun e => (((forms n e).length : Nat) : Int)).map V.int))) ⟨same_new hD _, upd_same⟩ (fun i H' _ z => Same.tup z.1 hl) ?_ ?_
      · rintro i x H3 hx ⟨g, e⟩
        have li : i < ks.length := by
          rw [← ly]
          exact (List.getElem?_eq_some_iff.mp hx).1
        have hk : ks[i]? = some ks[i] := List.getElem?_eq_getElem li
        obtain ⟨x', hx', dx'⟩ := dps_get hys hk
        rw [hx] at hx'
        obtain rfl := Option.some.inj hx'
        have mk := List.mem_of_getElem? hk
        refine ⟨rfl, _, rfl, x, n, hs, as, ks[i], rfl, fk _ mk, by omega, dp_same g _ _ dx', fun H4 g4 => ⟨_, g4 _ _ e, ?_, same_upd (g.trans g4) hD, ?_⟩⟩
        · rw [List.length_map, List.length_map, List.length_take]
          exact small1000 (by omega)
        · rw [upd_same, take_more' hk, List.map_append, List.map_append]
          rfl
      · rintro H3 ⟨g, e⟩
        rw [ly, List.take_length] at e
        refine ⟨D, _, rfl, SqL.of e, _, _, rfl, rfl, ?_⟩
        rw [sum_forms]
        exact k H3 (g2.trans g)
    · have c' := Bool.or_eq_false_iff.mp (Bool.eq_false_iff.mpr c)
      have ek := kids_leaf (r := r) m1 (of_decide_eq_false c'.1) (of_decide_eq_false c'.2)
      rw [ek] at k
      exact k H2 g2
theorem ok__law_formulas (T : Txt K mg) : FnOk P w K mg base CX0 10 T.a__law_formulas T.d__law_formulas ["plan"] (sp_lfs K 9) := ok_lfs T 9

end
end My
set_option Elab.async false
set_option linter.all false
set_option maxRecDepth 100000
set_option maxHeartbeats 400000
namespace My
open PySem L2 PySem.Spec PyProof.Rows
section
variable {P : Program} {w : World} {K : PySem.W.Frag} {mg : Str → Option Value} {base : Heap}
/-! ### cells: dicts with keys of texts -/
theorem mem_put {κ : Type} [DecidableEq κ] {kvs : List (κ × V)} {k : κ} {v : V} {e : κ × V} (m : e ∈ putK kvs k v) : e ∈ kvs ∨ e = (k, v) := by
  unfold putK at m
  by_cases c : (kvs.any fun kv => decide (kv.1 = k)) = true
  · rw [if_pos c] at m
    obtain ⟨x, mx, rfl⟩ := List.mem_map.mp m
    by_cases d : x.1 = k
    · rw [if_pos d, d]
      exact .inr rfl
    · rw [if_neg d]
      exact .inl mx
  · rw [if_neg c] at m
    rcases List.mem_append.mp m with m | m
    · exact .inl m
    · exact .inr (List.mem_singleton.mp m)
theorem put_len {κ : Type} [DecidableEq κ] (kvs : List (κ × V)) (k : κ) (v : V) : (putK kvs k v).length ≤ kvs.length + 1 := by
  unfold putK
  split
  · rw [List.length_map]
    omega
  · rw [List.length_append]
    exact Nat.le_refl _
theorem val_mem {κ : Type} [DecidableEq κ] {kvs : List (κ × V)} {k : κ} {v : V} (h : valV kvs k = some v) : (k, v) ∈ kvs := by
  unfold valV at h
  obtain ⟨x, hx, rfl⟩ := Option.map_eq_some_iff.mp h
  have e := of_decide_eq_true (List.find?_some (p := fun kv : κ × V => decide (kv.1 = k)) hx)
  rw [← e]
  exact List.mem_of_find?_eq_some hx
theorem dps_strs {K : PySem.W.Frag} {H : Hp} : ∀ {xs : List V} {ss : List Str}, DpAll K H xs (ss.map PyData.str) → xs = ss.map V.str
  | [], [], _ => rfl
  | [], _ :: _, h => by cases h
  | _ :: _, [], h => by cases h
  | x :: xs, s :: ss, h => by
    cases h with
    | cons a b =>
      rw [dp_str a, dps_strs b]
      rfl
/-- t[:-1] of texts, a new tuple -/
theorem init_new {K : PySem.W.Frag} {H : Hp} {v : V} {ss : List Str} {Q : VK} (h : Dp K H v (.tuple (ss.map .str))) (n : ss ≠ []) (k : ∀ p, H p = none → Q (.ref p) (upd H p (.tup ((ss.dropLast.map (Sum.inr : Str → Key)).map kV)))) : rSlA K v none (some (-1)) H Q := by
  cases h with
  | @tup a xs _ hs ha =>
    have e := dps_strs ha
    subst e
    have l0 : 0 < (ss.map V.str).length := by
      rw [List.length_map]
      exact List.length_pos_iff.mpr n
    refine ⟨a, _, rfl, hs, fun z => ?_, fun _ p hp => ?_⟩
    · have e : (if (-1 : Int) < 0 then ((-1 : Int) + ((ss.map V.str).length : Int)).toNat else 0) = (ss.map V.str).length := z.2
      rw [if_pos (by decide)] at e
      omega
    · rw [cut_last]
      have e : (ss.map V.str).dropLast = (ss.dropLast.map (Sum.inr : Str → Key)).map kV := by
        rw [List.map_map, List.map_dropLast]
        rfl
      rw [e]
      exact k p hp
def CellsOk (n : Nat) (kvs : List (List Key × V)) : Prop := ∀ e ∈ kvs, ∃ (ss : List Str) (m : Int), e.1 = ss.map (Sum.inr : Str → Key) ∧ e.2 = .int m ∧ m.natAbs < 2 ^ n ∧ ∀ s ∈ ss, PyData.canLay0 (.str s) = true
theorem CellsOk.mono {n m : Nat} {kvs : List (List Key × V)} (h : CellsOk n kvs) (l : n ≤ m) : CellsOk m kvs := fun e me => by
  obtain ⟨ss, z, e1, e2, e3, e4⟩ := h e me
  exact ⟨ss, z, e1, e2, pow_le e3 l, e4⟩
theorem tup_updT {K : PySem.W.Frag} {H : Hp} {D : Addr} {u o : HO} (hD : H D = some u) (n1 : ∀ xs, HO.tup xs ≠ u) (n2 : ∀ q xs, HO.frz q (.tup xs) ≠ u) : ∀ a xs, SqT K H a xs → SqT K (upd H D o) a xs := fun a xs h => by
  have ne : ∀ w : HO, w ≠ u → H a = some w → upd H D o a = some w := fun w hw e => by
    rw [upd_ne (fun z => by rw [z, hD] at e; exact hw (Option.some.inj e).symm)]
    exact e
  rcases h with (h | ⟨q, h⟩) | h
  · exact .inl (.inl (ne _ (n1 _) h))
  · exact .inl (.inr ⟨q, ne _ (n2 _ _) h⟩)
  · exact .inr h
theorem strs_nl (ss : List Str) : noL (.tuple (ss.map .str)) = true := noLs_all fun e m => by
  obtain ⟨t, _, rfl⟩ := List.mem_map.mp m
  rfl
def sp_cells (K : PySem.W.Frag) : Sp := fun vs H Q _ => ∃ (l : Addr) (hs : List Str) (as : List (Str × Bool)) (ds : List PyData), vs = [.ref l] ∧ PlansAt K hs as H l ds ∧ ∀ q kvs H', Same H H' → H q = none → H' q = some (.dT kvs) → kvs.length ≤ 57 → CellsOk 200 kvs → Q (.ref q) H'
theorem test_str {hs : List Str} {as : List (Str × Bool)} {ds : List PyData} (fm : ∀ d ∈ ds, Fm hs as 4 d) (nm : NmOk hs as) : ∀ e ∈ testsOf ds, ∃ ss : List Str, e = .tuple (ss.map .str) ∧ TestKey ss ∧ ∀ s ∈ ss, PyData.canLay0 (.str s) = true := fun e m => by
  obtain ⟨z, mz, rfl⟩ := List.mem_map.mp m
  obtain ⟨m1, m2⟩ := List.mem_filter.mp mz
  obtain ⟨d, md, mf⟩ := List.mem_flatMap.mp m1
  have fz := forms_fm 4 (fm d md) z mf
  obtain ⟨e1, lays, _, _⟩ := init_strs fz nm
  exact ⟨strI z, e1, test_key fz nm m2, lays⟩
theorem SortedOf.len {D ts : List PyData} (h : SortedOf D ts) : ts.length ≤ D.length := nodup_len h.1 fun x m => (h.2.1 x).mp m
theorem ok__law_cells (T : Txt K mg) : FnOk P w K mg base CX0 12 T.a__law_cells T.d__law_cells ["plans"] (sp_cells K) := by
  have G__law_tests := ok__law_tests (P := P) (w := w) (base := base) T
  have G__law_cuts := ok__law_cuts (P := P) (w := w) (base := base) T
  refine T.F__law_cells.ok sc__law_cells (fun vs H Q E h => ?_) (fun cdv A outer s H vs Q E hr h => ?_)
  · obtain ⟨l, hs, as, ds, rfl, _⟩ := h
    rfl
  obtain ⟨l, hs, as, ds, rfl, hp, k⟩ := h
  refine ⟨_, (pss_cons (ps_set (i := 1) sc__law_cells.nd rfl (by first | exact Or.inl rfl | exact Or.inr rfl) pe_dnewT)
    (pss_cons (ps_for PassesOwn.never rfl (pi_list (pe_call G__law_tests (hr.mono (by first | decide | omega)) (by rfl) T.m__law_tests T.F__law_tests.kp T.b__law_tests .nil pass0 (pa_cons (pv 0) pa_nil))) (pg_name (i := 2) sc__law_cells.nd rfl (by first | exact Or.inl rfl | exact Or.inr rfl))
    (pss_one (ps_asg (pe_op op_mul (pe_dget2 (hu_of hr) (pv 1) (pe_slice sl_tupA (pv 2) po_none (po_some (pe_un un_neg pe_int))) pe_int (by first | exact ⟨rfl, rfl, rfl, rfl⟩ | exact ⟨rfl, rfl, rfl, rfl, rfl⟩)) (pe_op op_sub (pe_callB call_len_seq (by rfl) T.z_len (by decide +kernel) (pa_cons (pe_call G__law_cuts (hr.mono (by first | decide | omega)) (by rfl) T.m__law_cuts T.F__law_cuts.kp T.b__law_cuts .nil pass0 (pa_cons (pv 0) (pa_cons (pv 2) pa_nil))) pa_nil)) pe_int)) (pg_sub (pv 1) (pe_slice sl_tupA (pv 2) po_none (po_some (pe_un un_neg pe_int))) (set_dict (hu_of hr))))))
    (pss_one (ps_ret (pv 1))))), ?_⟩
  obtain ⟨vs, hl, dvs, fm, l3, few, few7, nm⟩ := id hp
  refine fun f hf => ?_
  have g1 := same_new hf (.dT [])
  have e1 : upd H f (.dT []) f = some (.dT []) := upd_same
  generalize upd H f (.dT []) = H1 at *
  refine ⟨_, rfl, l, hs, as, ds, rfl, hp.same g1, fun q ws ts H2 g2 nq hq dq so => ⟨q, rfl, ⟨_, SqL.of hq⟩, ?_⟩⟩
  have lt : ts.length ≤ 57 := Nat.le_trans so.len (tests_len (hs := hs) (as := as) few7)
  have lws := dps_len dq
  have rows := fun x (m : x ∈ ts) => test_str fm nm x ((so.2.1 x).mp m)
  have fq : f ≠ q := fun z => by
    rw [z, nq] at e1
    cases e1
  refine for_it (walk_list (xs := ws)) (fun i σ' H' => ∃ x2 kvs, σ' = [some (.ref l), some (.ref f), x2] ∧ Same H H' ∧ H' q = some (.lst ws) ∧ DpAll K H' ws ts ∧ H' f = some (.dT kvs) ∧ kvs.length ≤ i ∧ CellsOk (3 * i + 1) kvs) ⟨_, [], rfl, g1.trans g2, hq, dq, g2 _ _ e1, Nat.le_refl _, fun e m => by cases m⟩ (fun i σ' H' _ z => ?_) ?_ ?_
  · obtain ⟨_, _, _, _, z, _⟩ := z
    exact SqL.of z
  · rintro i x σ' H' H'' hi ⟨x2, kvs, rfl, g, hq', dq', ef, lk, ck⟩ ⟨e'', hx⟩
    subst e''
    have li : i < ts.length := by omega
    have ht : ts[i]? = some ts[i] := List.getElem?_eq_getElem li
    generalize ts[i] = t at ht
    obtain ⟨x', hx', dx⟩ := dps_get dq' ht
    rw [hx] at hx'
    obtain rfl := Option.some.inj hx'
    obtain ⟨ss, rfl, tk, lays⟩ := rows t (List.mem_of_getElem? ht)
    have n0 : ss ≠ [] := by
      obtain ⟨s, r, e, _⟩ := tk
      rw [e]
      exact List.cons_ne_nil _ _
    have lay2 : ∀ s ∈ ss.dropLast, PyData.canLay0 (.str s) = true := fun s m => lays s ((List.dropLast_sublist ss).subset m)
    refine ⟨_, rfl, f, rfl, .inr ⟨kvs, Rd.of ef⟩, _, rfl, no_part ⟨_, rfl, _, rfl, init_new dx n0 fun p hp1 => ?_⟩⟩
    have g3 := same_new hp1 (.tup ((ss.dropLast.map (Sum.inr : Str → Key)).map kV))
    have e3 : upd H'' p (.tup ((ss.dropLast.map (Sum.inr : Str → Key)).map kV)) p = some (.tup ((ss.dropLast.map (Sum.inr : Str → Key)).map kV)) := upd_same
    generalize upd H'' p (.tup ((ss.dropLast.map (Sum.inr : Str → Key)).map kV)) = H3 at *
    have ef3 := g3 _ _ ef
    obtain ⟨m0, em0, bm0⟩ : ∃ m : Int, (valV kvs (ss.dropLast.map (Sum.inr : Str → Key))).getD (.int 1) = .int m ∧ m.natAbs < 2 ^ (3 * i + 1) := by
      cases c : valV kvs (ss.dropLast.map (Sum.inr : Str → Key)) with
      | none => exact ⟨1, rfl, Nat.lt_of_lt_of_le (by decide : 1 < 2 ^ 1) (Nat.pow_le_pow_right (by decide) (by omega))⟩
      | some v =>
        obtain ⟨_, m, _, e2, b, _⟩ := ck _ (val_mem c)
        exact ⟨m, e2, b⟩
    refine ⟨_, .inr ⟨kvs, _, p, Rd.of ef3, rfl, e3, rfl⟩, ?_⟩
    rw [em0]
    have gg3 := g.trans g3
    refine ⟨_, rfl, _, rfl, l, x, hs, as, ds, ss, rfl, hp.same gg3, dp_same g3 _ _ dx, tk, lays, fun q2 ws2 H4 g4 nq2 hq2 dq2 => ?_⟩
    have l2 := dps_len dq2
    rw [List.length_map] at l2
    have l7 : (cutsOf ds ss).length ≤ 7 := List.length_filter_le _ _
    refine ⟨q2, ws2, rfl, .inl (SqL.of hq2), _, _, rfl, rfl, _, _, rfl, rfl, .inr ⟨by omega, by omega⟩, ?_⟩
    have gg4 := gg3.trans g4
    refine ⟨_, rfl, _, rfl, no_part ⟨_, rfl, _, rfl, init_new (dp_same (g3.trans g4) _ _ dx) n0 fun p2 hp2 => ?_⟩⟩
    have g5 := same_new hp2 (.tup ((ss.dropLast.map (Sum.inr : Str → Key)).map kV))
    have e5 : upd H4 p2 (.tup ((ss.dropLast.map (Sum.inr : Str → Key)).map kV)) p2 = some (.tup ((ss.dropLast.map (Sum.inr : Str → Key)).map kV)) := upd_same
    generalize upd H4 p2 (.tup ((ss.dropLast.map (Sum.inr : Str → Key)).map kV)) = H5 at *
    have ef5 := g5 _ _ (g4 _ _ ef3)
    have g35 := g3.trans (g4.trans g5)
    refine ⟨f, _, rfl, DPut.t ef5 e5 (small1000 (by omega)), ?_⟩
    have tu := tup_updT (K := K) (o := .dT (putK kvs (ss.dropLast.map (Sum.inr : Str → Key)) (.int (m0 * ((ws2.length : Int) - 1))))) ef5 (fun _ z => by cases z) (fun _ _ z => by cases z)
    refine ⟨_, _, rfl, same_upd (gg4.trans g5) hf, ?_, dps_tups tu _ _ (noLs_all fun e m => ?_) (dps_same g35 _ _ dq'), upd_same, Nat.le_trans (put_len _ _ _) (by omega), fun e m => ?_⟩
    · rw [upd_ne (Ne.symm fq)]
      exact g35 _ _ hq'
    · obtain ⟨ss, rfl, _⟩ := rows e m
      exact strs_nl ss
    · rcases mem_put m with m | m
      · exact ck.mono (by omega) e m
      · rw [m]
        refine ⟨_, _, rfl, rfl, ?_, lay2⟩
        have e9 : 3 * (i + 1) + 1 = (3 * i + 1) + 3 := by omega
        rw [e9]
        exact wide_lt bm0 (show ((ws2.length : Int) - 1).natAbs < 2 ^ 3 by omega)
  · rintro σ' H' ⟨x2, kvs, rfl, g, hq', dq', ef, lk, ck⟩
    refine ⟨_, rfl, k f kvs H' g (same_none (Same.refl H) hf) ef (by omega) (ck.mono (by omega))⟩

end
end My
set_option Elab.async false
set_option linter.all false
set_option maxRecDepth 100000
set_option maxHeartbeats 400000
namespace My
open PySem L2 PySem.Spec PyProof.Rows
section
variable {P : Program} {w : World} {K : PySem.W.Frag} {mg : Str → Option Value} {base : Heap}
/-! ### states of texts -/
def isTxt : PyData → Bool
  | .tuple [_, _, .str _] => true
  | _ => false
def sp_states (K : PySem.W.Frag) : Sp := fun vs H Q _ => ∃ (l : Addr) (hs : List Str) (as : List (Str × Bool)) (ds : List PyData), vs = [.ref l] ∧ PlansAt K hs as H l ds ∧ ∀ (m : Int) H', Same H H' → Q (.int m) H'
theorem ok__law_text_states (T : Txt K mg) : FnOk P w K mg base CX0 12 T.a__law_text_states T.d__law_text_states ["plans"] (sp_states K) := by
  have G__law_asks := ok__law_asks (P := P) (w := w) (base := base) T
  refine T.F__law_text_states.ok sc__law_text_states (fun vs H Q E h => ?_) (fun cdv A outer s H vs Q E hr h => ?_)
  · obtain ⟨l, hs, as, ds, rfl, _⟩ := h
    rfl
  obtain ⟨l, hs, as, ds, rfl, hp, k⟩ := h
  refine ⟨_, (pss_cons (ps_set (i := 1) sc__law_text_states.nd rfl (by first | exact Or.inl rfl | exact Or.inr rfl) pe_dnewK)
    (pss_cons (ps_for PassesOwn.never rfl (pi_list (pe_lc (own := [("ask", 2)]) rfl sc__law_text_states.nd (pi_list (pe_call G__law_asks (hr.mono (by first | decide | omega)) (by rfl) T.m__law_asks T.F__law_asks.kp T.b__law_asks .nil pass0 (pa_cons (pv 0) pa_nil))) (blkOk_by (own := [("ask", 2)]) (N := ["plans", "found", "ask", "states", "sign"]) (sc := defScope s__law_text_states) (by decide +kernel)) (fun _ _ _ _ _ => (pg_name (i := 2) sc__law_text_states.nd rfl (by first | exact Or.inl rfl | exact Or.inr rfl))) (fun _ _ _ _ _ => (pts_one (pt_val (pe_callB (show CallR _ (.builtin "isinstance") (rIsi K) from call_isi) (by rfl) T.z_isinstance (by decide +kernel) (pa_cons (pe_ix (show IxR _ (rIxT K) from ix_tup) (pv 2) pe_int (fun _ _ => rfl)) (pa_cons (pe_bltn (v := .ty "str") (by rfl) T.z_str (by decide +kernel) rfl) pa_nil)))))) (fun _ _ _ _ _ => (pv 2)))) (pg_name (i := 2) sc__law_text_states.nd rfl (by first | exact Or.inl rfl | exact Or.inr rfl))
    (pss_cons (ps_set (i := 3) sc__law_text_states.nd rfl (by first | exact Or.inl rfl | exact Or.inr rfl) (pe_op op_add (pe_callB call_len_str (by rfl) T.z_len (by decide +kernel) (pa_cons (pe_ix (show IxR _ (rIxT K) from ix_tup) (pv 2) pe_int (fun _ _ => rfl)) pa_nil)) pe_int))
    (pss_cons (ps_for PassesOwn.never rfl (pi_str (pe_ix ix_tup (pv 2) pe_int (fun _ _ => rfl))) (pg_name (i := 4) sc__law_text_states.nd rfl (by first | exact Or.inl rfl | exact Or.inr rfl))
    (pss_one (ps_set (i := 3) sc__law_text_states.nd rfl (by first | exact Or.inl rfl | exact Or.inr rfl) (pe_op op_mul (pv 3) (pe_ifExp (PW.pt (pw_and (pt_cmpR op_eq (pe_ix ix_tup (pv 2) pe_int (fun _ _ => rfl)) pe_str (nomark _)) (pw_and1 (pt_cmpR op_eq (pv 4) pe_str (nomark _))))) pe_int pe_int)))))
    (pss_one (ps_asg (pe_op op_mul (pe_dget2 (hu_of hr) (pv 1) (pe_ix ix_tup (pv 2) pe_int (fun _ _ => rfl)) pe_int (by first | exact ⟨rfl, rfl, rfl, rfl⟩ | exact ⟨rfl, rfl, rfl, rfl, rfl⟩)) (pv 3)) (pg_sub (pv 1) (pe_ix ix_tup (pv 2) pe_int (fun _ _ => rfl)) (set_dict (hu_of hr))))))))
    (pss_one (ps_ret (pe_callB (cr_max rfl) (by rfl) T.z_max (by decide +kernel) (pa_cons (pe_op op_cat (pe_lst (pa_cons pe_int pa_nil)) (pe_callTy (cr_listVals rfl) (by rfl) T.z_list (by decide +kernel) (pa_cons (pe_vals (pv 1)) pa_nil))) pa_nil)))))), ?_⟩
  obtain ⟨vs, hl, dvs, fm, l3, few, few7, nm⟩ := id hp
  refine fun f hf => ?_
  have g1 := same_new hf (.dK [])
  have e1 : upd H f (.dK []) f = some (.dK []) := upd_same
  generalize upd H f (.dK []) = H1 at *
  dsimp only
  refine seq_cut (fun σ' H' => ∃ x2 x3 x4 kvs, σ' = [some (.ref l), some (.ref f), x2, x3, x4] ∧ Same H H' ∧ H' f = some (.dK kvs) ∧ kvs.length ≤ 57 ∧ ∀ e ∈ kvs, ∃ m : Int, e.2 = V.int m) ?_ (fun tail => ?_)
  rotate_left
  · refine ⟨_, rfl, l, hs, as, ds, rfl, hp.same g1, fun q ws ts H2 g2 nq hq dq so => ⟨q, rfl, ⟨_, SqL.of hq⟩, fun D hD => ?_⟩⟩
    have lt : ts.length ≤ 57 := Nat.le_trans so.len (Nat.le_trans (List.length_filter_le _ _) few7)
    have lws := dps_len dq
    have rows : ∀ x ∈ ts, ∃ s n y, x = .tuple [.str s, .str n, y] ∧ ((∃ i : Int, y = .int i) ∨ ∃ t : Str, y = .str t ∧ t.length ≤ 12) := fun x m => by
      obtain ⟨lf, ia⟩ := ask_leaf fm x ((so.2.1 x).mp m)
      obtain ⟨s, n, y, e, _, h⟩ := ask_parts lf ia
      exact ⟨s, n, y, e, h.imp (fun ⟨i, e, _⟩ => ⟨i, e⟩) (fun ⟨t, e, _, l, _⟩ => ⟨t, e, l⟩)⟩
    have e2 := g2 _ _ e1
    have fq : f ≠ q := fun z => by
      rw [z, nq] at e1
      cases e1
    refine lc_list (K := K) (a := q) (xs := ws) (fun i H' => Same H2 H' ∧ ∃ acc, H' D = some (.lst acc) ∧ DpAll K H' acc ((ts.take i).filter isTxt)) ⟨same_new hD _, [], upd_same, .nil⟩ (fun i H' _ z => z.1.seq (SqL.of hq)) ?_ ?_
    · rintro i x H3 hx ⟨g, acc, eD, da⟩
      have li : i < ts.length := by
        rw [← lws]
        exact (List.getElem?_eq_some_iff.mp hx).1
      have ht : ts[i]? = some ts[i] := List.getElem?_eq_getElem li
      generalize ts[i] = t at ht
      obtain ⟨x', hx', dx⟩ := dps_get dq ht
      rw [hx] at hx'
      obtain rfl := Option.some.inj hx'
      obtain ⟨s0, n0, y0, rfl, yk⟩ := rows t (List.mem_of_getElem? ht)
      have dx3 := dp_same g _ _ dx
      have et := take_more' ht
      cases id dx3 with
      | @tup p xs _ hxs ha =>
      obtain ⟨z2, hz2, dz2⟩ := dps_get (i := 2) ha rfl
      refine ⟨rfl, _, rfl, p, xs, 2, z2, rfl, rfl, hxs, at_of (j := 2) rfl hz2, ?_⟩
      rcases yk with ⟨iv, rfl⟩ | ⟨tv, rfl, _⟩
      · cases dz2
        refine ⟨.int iv, .ty "str", .type "int", .type "str", false, rfl, .ty _, .base (.int iv), kit_ty (by decide +kernel), _, rfl, ?_⟩
        show if false = true then _ else _
        rw [if_neg Bool.false_ne_true]
        refine ⟨g, acc, eD, ?_⟩
        rw [et, List.filter_append]
        have ef : [PyData.tuple [.str s0, .str n0, .int iv]].filter isTxt = [] := rfl
        rw [ef, List.append_nil]
        exact da
      · cases dz2
        refine ⟨.str tv, .ty "str", .type "str", .type "str", true, rfl, .ty _, .base (.str tv), kit_ty (by decide +kernel), _, rfl, ?_⟩
        show if true = true then _ else _
        rw [if_pos rfl]
        have la := dps_len da
        have la2 := List.length_filter_le isTxt (ts.take i)
        rw [List.length_take] at la2
        refine ⟨_, rfl, acc, eD, small1000 (by omega), same_upd g hD, acc ++ [.ref p], upd_same, ?_⟩
        rw [et, List.filter_append]
        have ef : [PyData.tuple [.str s0, .str n0, .str tv]].filter isTxt = [PyData.tuple [.str s0, .str n0, .str tv]] := rfl
        rw [ef]
        have tu := tup_upd0 (K := K) (o := .lst (acc ++ [.ref p])) eD
        have nl1 : noLs ((ts.take i).filter isTxt) = true := noLs_all fun x m => by
          obtain ⟨s, n, y, rfl, h⟩ := rows x (List.mem_of_mem_take (List.mem_filter.mp m).1)
          rcases h with ⟨_, rfl⟩ | ⟨_, rfl, _⟩ <;> rfl
        exact dps_app (dps_tups tu _ _ nl1 da) (.cons (dp_tups tu _ _ rfl dx3) .nil)
    · rintro H3 ⟨g3, acc, eD, da⟩
      rw [lws, List.take_length] at da
      have rows2 : ∀ x ∈ ts.filter isTxt, ∃ (s n t : Str), x = .tuple [.str s, .str n, .str t] ∧ t.length ≤ 12 := fun x m => by
        obtain ⟨m1, m2⟩ := List.mem_filter.mp m
        obtain ⟨s, n, y, rfl, h⟩ := rows x m1
        rcases h with ⟨_, rfl⟩ | ⟨t, rfl, lt⟩
        · cases m2
        · exact ⟨s, n, t, rfl, lt⟩
      have lu := List.length_filter_le isTxt ts
      generalize ts.filter isTxt = us at *
      have lac := dps_len da
      have fD : f ≠ D := fun z => by
        have := g2 _ _ e1
        rw [z, hD] at this
        cases this
      refine ⟨D, rfl, ⟨_, SqL.of eD⟩, ?_⟩
      refine for_it (walk_list (xs := acc)) (fun i σ' H' => ∃ x2 x3 x4 kvs, σ' = [some (.ref l), some (.ref f), x2, x3, x4] ∧ Same H H' ∧ H' D = some (.lst acc) ∧ DpAll K H' acc us ∧ H' f = some (.dK kvs) ∧ kvs.length ≤ i ∧ ∀ e ∈ kvs, ∃ m : Int, e.2 = V.int m) ⟨_, _, _, [], rfl, (g1.trans g2).trans g3, eD, da, g3 _ _ e2, Nat.le_refl _, fun e m => by cases m⟩ (fun i σ' H' _ z => ?_) ?_ ?_
      · obtain ⟨_, _, _, _, _, _, z, _⟩ := z
        exact SqL.of z
      · rintro i x σ' H' H'' hi ⟨x2, x3, x4, kvs, rfl, g, eD', da', ef, lk, vi⟩ ⟨e'', hx⟩
        subst e''
        have li : i < us.length := by omega
        have ht : us[i]? = some us[i] := List.getElem?_eq_getElem li
        generalize us[i] = t at ht
        obtain ⟨x', hx', dx⟩ := dps_get da' ht
        rw [hx] at hx'
        obtain rfl := Option.some.inj hx'
        obtain ⟨s0, n0, t0, rfl, l12⟩ := rows2 t (List.mem_of_getElem? ht)
        cases id dx with
        | @tup p xs _ hxs ha =>
        obtain ⟨z0, hz0, dz0⟩ := dps_get (i := 0) ha rfl
        obtain ⟨z1, hz1, dz1⟩ := dps_get (i := 1) ha rfl
        obtain ⟨z2, hz2, dz2⟩ := dps_get (i := 2) ha rfl
        cases dz0
        cases dz1
        cases dz2
        refine ⟨_, rfl, p, xs, 2, _, rfl, rfl, hxs, at_of (j := 2) rfl hz2, t0, rfl, le_line (by omega), _, _, rfl, rfl, ?_⟩
        dsimp only
        refine seq_cut (fun σ' H5 => ∃ (x4 : Option V) (m : Int), σ' = [some (.ref l), some (.ref f), some (.ref p), some (.int m), x4] ∧ H5 = H'' ∧ m.natAbs < 2 ^ 20) ?_ (fun tail2 => ?_)
        rotate_left
        · refine ⟨_, rfl, p, xs, 2, _, rfl, rfl, hxs, at_of (j := 2) rfl hz2, t0, rfl, ?_⟩
          refine for_it (walk_str (z := t0)) (fun j σ' H5 => ∃ (x4 : Option V) (m : Int), σ' = [some (.ref l), some (.ref f), some (.ref p), some (.int m), x4] ∧ H5 = H'' ∧ m.natAbs < 2 ^ (4 + j)) ⟨_, _, rfl, rfl, by
            have : t0.length ≤ 12 := l12
            show ((t0.length : Int) + 2).natAbs < 16
            omega⟩ (fun _ _ _ _ _ => trivial) ?_ ?_
          · rintro j y σ' H5 H6 hj ⟨x4, m, rfl, rfl, bm⟩ ⟨e6, c, hc, rfl⟩
            subst e6
            have step : ∀ (b : Int), b = 1 ∨ b = 2 → (m * b).natAbs < 2 ^ (4 + (j + 1)) := fun b hb => by
              have e9 : 2 ^ (4 + (j + 1)) = 2 ^ (4 + j) * 2 := by rw [← Nat.add_assoc, Nat.pow_succ]
              rcases hb with rfl | rfl
              · rw [Int.natAbs_mul, e9]
                show m.natAbs * 1 < _
                omega
              · rw [Int.natAbs_mul, e9]
                show m.natAbs * 2 < _
                omega
            refine ⟨_, rfl, _, rfl, p, xs, 0, _, rfl, rfl, hxs, at_of (j := 0) rfl hz0, rfl, _, rfl, ?_⟩
            refine ite2 (fun _ => ?_) (fun _ => ?_)
            · refine ⟨_, rfl, rfl, _, rfl, ite2 (fun _ => ?_) (fun _ => ?_)⟩
              · exact ⟨_, _, rfl, rfl, .inr ⟨by decide, by decide⟩, _, _, rfl, rfl, step 2 (.inr rfl)⟩
              · exact ⟨_, _, rfl, rfl, .inr ⟨by decide, by decide⟩, _, _, rfl, rfl, step 1 (.inl rfl)⟩
            · exact ⟨_, _, rfl, rfl, .inr ⟨by decide, by decide⟩, _, _, rfl, rfl, step 1 (.inl rfl)⟩
          · rintro σ' H5 ⟨x4, m, rfl, rfl, bm⟩
            exact tail2 _ _ ⟨_, m, rfl, rfl, pow_le bm (by have : t0.cps.size ≤ 12 := l12; omega)⟩
        rintro σ' H5 ⟨x4, m, rfl, rfl, bm⟩
        obtain ⟨m0, em0⟩ : ∃ m : Int, (valV kvs (Sum.inr n0 : Key)).getD (.int 1) = .int m := by
          cases c : valV kvs (Sum.inr n0 : Key) with
          | none => exact ⟨1, rfl⟩
          | some v => exact vi _ (val_mem c)
        refine ⟨_, rfl, f, rfl, .inl ⟨kvs, Rd.of ef⟩, _, rfl, p, xs, 1, _, rfl, rfl, hxs, at_of (j := 1) rfl hz1, _, .inl ⟨kvs, .inr n0, Rd.of ef, rfl, rfl⟩, ?_⟩
        rw [em0]
        refine ⟨_, rfl, _, _, rfl, rfl, .inr ⟨by omega, by omega⟩, _, rfl, _, rfl, p, xs, 1, _, rfl, rfl, hxs, at_of (j := 1) rfl hz1, f, _, rfl, DPut.k (k := Sum.inr n0) ef (small1000 (by omega)), ?_⟩
        have tu := tup_updT (K := K) (o := .dK (putK kvs (Sum.inr n0) (.int (m0 * m)))) ef (fun _ z => by cases z) (fun _ _ z => by cases z)
        refine ⟨_, _, _, _, rfl, same_upd g hf, ?_, dps_tups tu _ _ (noLs_all fun e m => ?_) da', upd_same, Nat.le_trans (put_len _ _ _) (by omega), fun e m => ?_⟩
        · rw [upd_ne (Ne.symm fD)]
          exact eD'
        · obtain ⟨_, _, _, rfl, _⟩ := rows2 e m
          rfl
        · rcases mem_put m with m | m
          · exact vi e m
          · rw [m]
            exact ⟨_, rfl⟩
      · rintro σ' H' ⟨x2, x3, x4, kvs, rfl, g, eD', da', ef, lk, vi⟩
        exact tail _ _ ⟨_, _, _, kvs, rfl, g, ef, by omega, vi⟩
  rintro σ' H' ⟨x2, x3, x4, kvs, rfl, g, ef, lk, vi⟩
  obtain ⟨ms, hm⟩ : ∃ ms : List Int, kvs.map (·.2) = ms.map V.int := by
    clear lk ef
    induction kvs with
    | nil => exact ⟨[], rfl⟩
    | cons e r ih =>
      obtain ⟨m, hm⟩ := vi e (.head _)
      obtain ⟨ms, hms⟩ := ih fun x mx => vi x (.tail _ mx)
      exact ⟨m :: ms, by rw [List.map_cons, hm, hms]; rfl⟩
  refine ⟨(by show 1 ≤ sizeLine; decide), fun p1 hp1 => ?_⟩
  have g2 := same_new hp1 (.lst [.int 1])
  have e2 : upd H' p1 (.lst [.int 1]) p1 = some (.lst [.int 1]) := upd_same
  generalize upd H' p1 (.lst [.int 1]) = H2 at *
  have ef2 := g2 _ _ ef
  refine ⟨_, rfl, f, kvs, rfl, ef2, fun p2 hp2 => ?_⟩
  have g3 := same_new hp2 (ValsO p2 f)
  refine ⟨p2, f, kvs, rfl, upd_same, g3 _ _ ef2, fun p3 hp3 => ?_⟩
  have g4 := same_new hp3 (.lst (kvs.map (·.2)))
  refine ⟨p1, p3, _, _, rfl, rfl, g4 _ _ (g3 _ _ e2), upd_same, Nat.le_of_lt (small1000 (by rw [List.length_map]; show 1 + kvs.length ≤ 1000; omega)), fun p4 hp4 => ?_⟩
  have g5 := same_new hp4 (.lst ([.int 1] ++ kvs.map (·.2)))
  refine ⟨p4, 1 :: ms, rfl, SqL.of (by rw [upd_same, hm]; rfl), Nat.succ_pos _, fun m _ _ => k m _ (g.trans (g2.trans (g3.trans (g4.trans g5))))⟩

end
end My
set_option Elab.async false
set_option linter.all false
set_option maxRecDepth 100000
set_option maxHeartbeats 400000
namespace My
open PySem L2 PySem.Spec PyProof.Rows
section
variable {P : Program} {w : World} {K : PySem.W.Frag} {mg : Str → Option Value} {base : Heap}
/-! ### whether plans are small -/
def sp_fits (K : PySem.W.Frag) : Sp := fun vs H Q _ => ∃ (l : Addr) (hs : List Str) (as : List (Str × Bool)) (ds : List PyData), vs = [.ref l] ∧ PlansAt K hs as H l ds ∧ ds ≠ [] ∧ ∀ (b : Bool) H', Same H H' → (b = true → ∀ d ∈ ds, (forms 4 d).length ≤ 28) → Q (.bl b) H'
theorem row_shaped : SeqAt.shaped (.tuple [.str "row"]) = true := by decide +kernel
theorem keys_dp {K : PySem.W.Frag} {H : Hp} {p : Addr} {ss : List Str} (h : H p = some (.tup ((ss.map (Sum.inr : Str → Key)).map kV))) : Dp K H (.ref p) (.tuple (ss.map .str)) := by
  have e : (ss.map (Sum.inr : Str → Key)).map kV = ss.map V.str := by
    rw [List.map_map]
    rfl
  rw [e] at h
  refine .tup (SqT.of h) ?_
  clear e h
  induction ss with
  | nil => exact .nil
  | cons s r ih => exact .cons (.str s) ih
theorem val_of {κ : Type} [DecidableEq κ] {kvs : List (κ × V)} {k : κ} {v : V} (m : (k, v) ∈ kvs) : ∃ u, valV kvs k = some u ∧ (k, u) ∈ kvs := by
  cases c : valV kvs k with
  | none => exact absurd (List.mem_map.mpr ⟨_, m, rfl⟩) (valV_not c)
  | some u => exact ⟨u, rfl, val_mem c⟩
theorem ok__law_fits (T : Txt K mg) : FnOk P w K mg base CX0 13 T.a__law_fits T.d__law_fits ["plans"] (sp_fits K) := by
  have G__law_cells := ok__law_cells (P := P) (w := w) (base := base) T
  have G__law_text_states := ok__law_text_states (P := P) (w := w) (base := base) T
  have G__law_formulas := ok__law_formulas (P := P) (w := w) (base := base) T
  have G__law_asks := ok__law_asks (P := P) (w := w) (base := base) T
  refine T.F__law_fits.ok sc__law_fits (fun vs H Q E h => ?_) (fun cdv A outer s H vs Q E hr h => ?_)
  · obtain ⟨l, hs, as, ds, rfl, _⟩ := h
    rfl
  obtain ⟨l, hs, as, ds, rfl, hp, dn, k⟩ := h
  refine ⟨_, (pss_cons (ps_if (pt_cmpR op_gt (pe_callB (cr_max rfl) (by rfl) T.z_max (by decide +kernel) (pa_cons (pe_lc (own := [("plan", 1)]) rfl sc__law_fits.nd (pi_list (pv 0)) (blkOk_by (own := [("plan", 1)]) (N := ["plans", "plan", "cells", "together", "sort"]) (sc := defScope s__law_fits) (by decide +kernel)) (fun _ _ _ _ _ => (pg_name (i := 1) sc__law_fits.nd rfl (by first | exact Or.inl rfl | exact Or.inr rfl))) (fun _ _ _ _ _ => pts_nil) (fun _ _ _ _ _ => (pe_call G__law_formulas (hr.mono (by first | decide | omega)) (by rfl) T.m__law_formulas T.F__law_formulas.kp T.b__law_formulas .nil pass0 (pa_cons (pv 1) pa_nil)))) pa_nil)) pe_int (nomark _)) (pss_one (ps_ret pe_bl)) pss_nil)
    (pss_cons (ps_asg (pe_tup (pa_cons (pe_call G__law_cells (hr.mono (by first | decide | omega)) (by rfl) T.m__law_cells T.F__law_cells.kp T.b__law_cells .nil pass0 (pa_cons (pv 0) pa_nil)) (pa_cons pe_int pa_nil))) (pg_tup rfl (pgs_cons (pg_name (i := 2) sc__law_fits.nd rfl (by first | exact Or.inl rfl | exact Or.inr rfl)) (pgs_cons (pg_name (i := 3) sc__law_fits.nd rfl (by first | exact Or.inl rfl | exact Or.inr rfl)) pgs_nil))))
    (pss_cons (ps_lock (ps_for PassesOwn.never rfl (pi_keys (pv 2)) (pg_name (i := 4) sc__law_fits.nd rfl (by first | exact Or.inl rfl | exact Or.inr rfl))
    (pss_one (ps_set (i := 3) sc__law_fits.nd rfl (by first | exact Or.inl rfl | exact Or.inr rfl) (pe_op op_mulW (pv 3) (pe_ifExp (pt_cmpR (show OpR _ _ (rNeD K) from op_neD (hu64 hr)) (pv 4) (pe_tup (pa_cons pe_str pa_nil)) (nomark _)) (pe_dget (hu_of hr) (pv 2) (pv 4) (fun _ _ => rfl)) pe_int))))))
    (pss_cons (ps_if (PW.pt (pw_or (pt_cmpR op_gt (pv 3) pe_int (nomark _)) (pw_or (pt_cmpR op_gt (pe_dget2 (hu_of hr) (pv 2) (pe_tup (pa_cons pe_str pa_nil)) pe_int (by first | exact ⟨rfl, rfl, rfl, rfl⟩ | exact ⟨rfl, rfl, rfl, rfl, rfl⟩)) pe_int (nomark _)) (pw_or (pt_cmpR op_gt (pe_callB call_len_seq (by rfl) T.z_len (by decide +kernel) (pa_cons (pe_call G__law_asks (hr.mono (by first | decide | omega)) (by rfl) T.m__law_asks T.F__law_asks.kp T.b__law_asks .nil pass0 (pa_cons (pv 0) pa_nil)) pa_nil)) pe_int (nomark _)) (pw_or1 (pt_cmpR op_gt (pe_call G__law_text_states (hr.mono (by first | decide | omega)) (by rfl) T.m__law_text_states T.F__law_text_states.kp T.b__law_text_states .nil pass0 (pa_cons (pv 0) pa_nil)) pe_int (nomark _))))))) (pss_one (ps_ret pe_bl)) pss_nil)
    (pss_one (ps_ret (pe_callB (cr_all rfl) (by rfl) T.z_all (by decide +kernel) (pa_cons (pe_lock (pe_lc (own := [("sort", 4)]) rfl sc__law_fits.nd (pi_keys (pv 2)) (blkOk_by (own := [("sort", 4)]) (N := ["plans", "plan", "cells", "together", "sort"]) (sc := defScope s__law_fits) (by decide +kernel)) (fun _ _ _ _ _ => (pg_name (i := 4) sc__law_fits.nd rfl (by first | exact Or.inl rfl | exact Or.inr rfl))) (fun _ _ _ _ _ => (pts_one (pt_cmpR (show OpR _ _ (rNeD K) from op_neD (hu64 hr)) (pv 4) (pe_tup (pa_cons pe_str pa_nil)) (nomark _)))) (fun _ _ _ _ _ => (pe_cmpR op_le (pe_dget (hu_of hr) (pv 2) (pv 4) (fun _ _ => rfl)) pe_int (nomark _))))) pa_nil)))))))), ?_⟩
  obtain ⟨vs, hl, dvs, fm, l3, few, few7, nm⟩ := id hp
  have lvs := dps_len dvs
  refine ifs_cut (fun b H' => Same H H' ∧ (b = false → ∀ d ∈ ds, (forms 4 d).length ≤ 28)) (fun b H1 hb => ?_) (fun Q' fin => ?_)
  rotate_left
  · refine ⟨_, rfl, l, rfl, ⟨_, hl⟩, fun D hD => ?_⟩
    refine lc_list (K := K) (a := l) (xs := vs) (fun i H' => Same H H' ∧ H' D = some (.lst (((ds.take i).map fun d => (((forms 4 d).length : Nat) : Int)).map V.int))) ⟨same_new hD _, upd_same⟩ (fun i H' _ z => z.1.seq hl) ?_ ?_
    · rintro i x H2 hx ⟨g, e⟩
      have li : i < ds.length := by
        rw [← lvs]
        exact (List.getElem?_eq_some_iff.mp hx).1
      have hd : ds[i]? = some ds[i] := List.getElem?_eq_getElem li
      obtain ⟨x', hx', dx⟩ := dps_get dvs hd
      rw [hx] at hx'
      obtain rfl := Option.some.inj hx'
      refine ⟨rfl, _, rfl, x, 4, hs, as, ds[i], rfl, fm _ (List.mem_of_getElem? hd), by omega, dp_same g _ _ dx, fun H3 g3 => ⟨_, g3 _ _ e, ?_, same_upd (g.trans g3) hD, ?_⟩⟩
      · rw [List.length_map, List.length_map, List.length_take]
        exact small1000 (by omega)
      · rw [upd_same, take_more' hd, List.map_append, List.map_append]
        rfl
    · rintro H2 ⟨g, e⟩
      rw [lvs, List.take_length] at e
      refine ⟨D, _, rfl, SqL.of e, ?_, fun m mm mx => ⟨_, _, rfl, rfl, _, rfl, fin _ _ ⟨g, fun z d md => ?_⟩⟩⟩
      · rw [List.length_map]
        exact List.length_pos_iff.mpr dn
      · have h1 := mx _ (List.mem_map.mpr ⟨d, md, rfl⟩)
        have h2 : ¬ (28 : Int) < m := of_decide_eq_false z
        omega
  obtain ⟨g1, h28⟩ := hb
  cases b with
  | true => exact iteT (k false H1 g1 fun z => by cases z)
  | false =>
  refine iteF (next_of ?_)
  have all28 := h28 rfl
  refine ⟨_, rfl, l, hs, as, ds, rfl, hp.same g1, fun q kvs H2 g2 nq hq lk ck => ⟨(by show 2 ≤ sizeLine; decide), fun p0 hp0 => ⟨p0, _, rfl, SqT.of upd_same, rfl, _, _, rfl, _, _, rfl, rfl, ?_⟩⟩⟩
  have hq := same_new hp0 (.tup [.ref q, .int 1]) _ _ hq
  have g2 := g2.trans (same_new hp0 (.tup [.ref q, .int 1]))
  generalize upd H2 p0 (.tup [.ref q, .int 1]) = H2 at *
  have nqH := same_none g1 nq
  have g12 := g1.trans g2
  -- the product
  have keyrow : ∀ {e : List Key × V}, e ∈ kvs → ∃ ss : List Str, e.1 = ss.map (Sum.inr : Str → Key) ∧ (∀ s ∈ ss, PyData.canLay0 (.str s) = true) ∧ ∃ m : Int, valV kvs e.1 = some (.int m) ∧ m.natAbs < 2 ^ 200 := fun {e} me => by
    obtain ⟨ss, _, e1, _, _, lay⟩ := ck e me
    obtain ⟨u, hu, mu⟩ := val_of (k := e.1) (v := e.2) me
    obtain ⟨_, m, _, e2, b, _⟩ := ck _ mu
    exact ⟨ss, e1, lay, m, by rw [hu]; exact congrArg some e2, b⟩
  dsimp only
  refine seq_cut (fun σ' H' => ∃ (x1 x4 : Option V) (t : Int), σ' = [some (.ref l), x1, some (.ref q), some (.int t), x4] ∧ Same H2 H') ?_ (fun tail => ?_)
  rotate_left
  · refine ⟨q, .dT kvs, hq, trivial, fun od => ?_⟩
    have eL : upd H2 q (.frz od (.dT kvs)) q = some (.frz od (.dT kvs)) := upd_same
    have back : ∀ H', Same (upd H2 q (.frz od (.dT kvs))) H' → Same H2 (upd H' q (.dT kvs)) := fun H' g b o e => by
      by_cases c : b = q
      · rw [c] at e ⊢
        rw [hq] at e
        rw [upd_same, Option.some.inj e]
      · rw [upd_ne c]
        exact g b o (by rw [upd_ne c]; exact e)
    generalize upd H2 q (.frz od (.dT kvs)) = HL at *
    refine ⟨_, rfl, q, od, rfl, .inr ⟨kvs, eL, ?_⟩⟩
    refine for_it (walk_keysT (kvs := kvs)) (fun i σ' H' => ∃ (x1 x4 : Option V) (t : Int), σ' = [some (.ref l), x1, some (.ref q), some (.int t), x4] ∧ Same HL H' ∧ t.natAbs < 2 ^ (200 * i + 1)) ⟨_, _, 1, rfl, Same.refl _, by decide⟩ (fun i σ' H' _ z => ?_) ?_ ?_
    · obtain ⟨_, _, _, _, g, _⟩ := z
      exact g _ _ eL
    · rintro i x σ' H' H'' hi ⟨x1, x4, t, rfl, g, bt⟩ ⟨e'', kk, v, qk, hk, rfl, ek⟩
      subst e''
      obtain ⟨ss, e1, lay, m, em, bm⟩ := keyrow (List.mem_of_getElem? hk)
      dsimp only at e1 em
      subst e1
      have dk := keys_dp (K := K) ek
      refine ⟨_, rfl, _, rfl, (by show 1 ≤ sizeLine; decide), fun p hp1 => ?_⟩
      have g3 := same_new hp1 (.tup [.str "row"])
      refine ⟨_, _, dp_same g3 _ _ dk, .tup (SqT.of upd_same) (.cons (.str _) .nil), shaped_strs lay, row_shaped, _, rfl, ?_⟩
      have e9 : 200 * (i + 1) + 1 = (200 * i + 1) + 200 := by omega
      refine ite2 (fun _ => ?_) (fun _ => ?_)
      · refine ⟨_, rfl, _, rfl, q, _, rfl, .inr ⟨kvs, _, qk, .inr ⟨od, g3 _ _ (g _ _ eL)⟩, rfl, g3 _ _ ek, em.symm⟩, _, _, rfl, rfl, wide_mul bt bm (by omega) (by omega) (by omega), ?_⟩
        exact ⟨_, _, _, rfl, g.trans g3, by rw [e9]; exact wide_lt bt bm⟩
      · refine ⟨_, _, rfl, rfl, wide_mul bt (b := 200) (show (1 : Int).natAbs < 2 ^ 200 by decide) (by omega) (by omega) (by omega), ?_⟩
        exact ⟨_, _, _, rfl, g.trans g3, by rw [e9]; exact wide_lt bt (show (1 : Int).natAbs < 2 ^ 200 by decide)⟩
    · rintro σ' H' ⟨x1, x4, t, rfl, g, bt⟩
      exact ⟨g _ _ eL, tail _ _ ⟨_, _, t, rfl, back _ g⟩⟩
  rintro σ' H3 ⟨x1, x4, t, rfl, g3⟩
  have g13 := g12.trans g3
  have rowkey : ∃ m : Int, (valV kvs [(Sum.inr "row" : Key)]).getD (.int 1) = .int m := by
    cases c : valV kvs [(Sum.inr "row" : Key)] with
    | none => exact ⟨1, rfl⟩
    | some v =>
      obtain ⟨_, m, _, e, _⟩ := ck _ (val_mem c)
      exact ⟨m, e⟩
  obtain ⟨mr, emr⟩ := rowkey
  have hq3 := g3 _ _ hq
  refine ifs_cut (fun _ H' => Same H3 H') (fun b H4 g4 => ?_) (fun Q' fin => ?_)
  rotate_left
  · refine ⟨_, rfl, _, _, rfl, rfl, _, rfl, ite2 (fun _ => fin _ _ (Same.refl _)) (fun _ => ?_)⟩
    refine ⟨_, rfl, q, rfl, .inr ⟨kvs, Rd.of hq3⟩, (by show 1 ≤ sizeLine; decide), fun p hp1 => ?_⟩
    have g5 := same_new hp1 (.tup [.str "row"])
    refine ⟨_, .inr ⟨kvs, [(Sum.inr "row" : Key)], p, Rd.of (g5 _ _ hq3), rfl, upd_same, rfl⟩, ?_⟩
    rw [emr]
    refine ⟨_, _, rfl, rfl, _, rfl, ite2 (fun _ => fin _ _ g5) (fun _ => ?_)⟩
    refine ⟨_, rfl, l, hs, as, ds, rfl, hp.same (g13.trans g5), fun q6 ws6 ts6 H6 g6 nq6 hq6 _ _ => ⟨q6, ws6, rfl, .inl (SqL.of hq6), _, _, rfl, rfl, _, rfl, ite2 (fun _ => fin _ _ (g5.trans g6)) (fun _ => ?_)⟩⟩
    exact ⟨_, rfl, l, hs, as, ds, rfl, hp.same ((g13.trans g5).trans g6), fun m H7 g7 => ⟨_, _, rfl, rfl, _, rfl, fin _ _ ((g5.trans g6).trans g7)⟩⟩
  have g14 := g13.trans g4
  cases b with
  | true => exact iteT (k false H4 g14 fun z => by cases z)
  | false =>
  refine iteF (next_of ?_)
  have hq4 := g4 _ _ hq3
  refine ⟨q, .dT kvs, hq4, trivial, fun od => ?_⟩
  have eL : upd H4 q (.frz od (.dT kvs)) q = some (.frz od (.dT kvs)) := upd_same
  have back : ∀ H', Same (upd H4 q (.frz od (.dT kvs))) H' → Same H4 (upd H' q (.dT kvs)) := fun H' g b o e => by
    by_cases c : b = q
    · rw [c] at e ⊢
      rw [hq4] at e
      rw [upd_same, Option.some.inj e]
    · rw [upd_ne c]
      exact g b o (by rw [upd_ne c]; exact e)
  generalize upd H4 q (.frz od (.dT kvs)) = HL at *
  refine ⟨_, rfl, q, od, rfl, .inr ⟨kvs, eL, fun D hD => ?_⟩⟩
  have nD : D ≠ q := fun z => by
    rw [z, eL] at hD
    cases hD
  refine lc_it (walk_keysT (kvs := kvs)) (fun i H' => Same HL H' ∧ ∃ bs : List Bool, H' D = some (.lst (bs.map V.bl)) ∧ bs.length ≤ i) ⟨same_new hD _, [], upd_same, Nat.le_refl _⟩ (fun i H' _ z => z.1 _ _ eL) ?_ ?_
  · rintro i x H' H'' hi ⟨g, bs, eD, lb⟩ ⟨e'', kk, v, qk, hk, rfl, ek⟩
    subst e''
    obtain ⟨ss, e1, lay, m, em, bm⟩ := keyrow (List.mem_of_getElem? hk)
    dsimp only at e1 em
    subst e1
    have dk := keys_dp (K := K) ek
    refine ⟨rfl, _, rfl, (by show 1 ≤ sizeLine; decide), fun p hp1 => ?_⟩
    have g5 := same_new hp1 (.tup [.str "row"])
    refine ⟨_, _, dp_same g5 _ _ dk, .tup (SqT.of upd_same) (.cons (.str _) .nil), shaped_strs lay, row_shaped, _, rfl, ?_⟩
    refine ite2 (fun _ => ?_) (fun _ => ?_)
    · refine ⟨_, rfl, _, rfl, q, _, rfl, .inr ⟨kvs, _, qk, .inr ⟨od, g5 _ _ (g _ _ eL)⟩, rfl, g5 _ _ ek, em.symm⟩, _, _, rfl, rfl, bs.map V.bl, g5 _ _ eD, ?_, same_upd (g.trans g5) hD, bs ++ [decide (m ≤ 6)], ?_, ?_⟩
      · rw [List.length_map]
        exact small1000 (by omega)
      · rw [upd_same, List.map_append]
        rfl
      · rw [List.length_append]
        exact Nat.succ_le_succ lb
    · exact ⟨g.trans g5, bs, g5 _ _ eD, by omega⟩
  · rintro H' ⟨g, bs, eD, lb⟩
    refine ⟨g _ _ eL, D, bs, rfl, SqL.of (by rw [upd_ne nD]; exact eD), k _ _ (g14.trans (back _ g)) fun _ => all28⟩

end
end My
set_option Elab.async false
set_option linter.all false
set_option maxRecDepth 100000
set_option maxHeartbeats 400000
namespace My
open PySem L2 PySem.Spec PyProof.Rows
section
variable {P : Program} {w : World} {K : PySem.W.Frag} {mg : Str → Option Value} {base : Heap}
/-! ### one plan -/
theorem forms_len {hs : List Str} {as : List (Str × Bool)} : ∀ (n : Nat) {d : PyData}, Fm hs as n d → 2 * (forms n d).length + 1 ≤ 3 ^ n
  | 0, _, h => by cases h
  | n + 1, d, h => by
    have fk := fm_kids h
    have lk : (kidsD d).length ≤ 3 := by
      cases h with
      | leaf h => rw [leaf_kids h]; exact Nat.zero_le _
      | not _ => rw [kids_not rfl]; exact (by simp)
      | kids s _ l _ => rw [kids_kids s]; exact l
    have go : ∀ l : List PyData, (∀ e ∈ l, Fm hs as n e) → 2 * (l.flatMap (forms n)).length + l.length ≤ l.length * 3 ^ n := fun l => by
      induction l with
      | nil => intro _; simp
      | cons e r ih =>
        intro hh
        have a := forms_len n (hh e (.head _))
        have b := ih fun x m => hh x (.tail _ m)
        rw [List.flatMap_cons, List.length_append, List.length_cons]
        show _ ≤ (r.length + 1) * 3 ^ n
        rw [Nat.add_mul, Nat.one_mul]
        omega
    have g := go _ fk
    have m := Nat.mul_le_mul_right (3 ^ n) lk
    have p : 1 ≤ 3 ^ n := Nat.pow_pos (by decide)
    show 2 * ((kidsD d).flatMap (forms n)).length.succ + 1 ≤ 3 ^ (n + 1)
    have e9 : 3 ^ (n + 1) = 3 * 3 ^ n := by rw [Nat.pow_succ, Nat.mul_comm]
    rw [e9]
    have q : (kidsD d).length * (3 ^ n) ≤ 3 * 3 ^ n := m
    have z : (kidsD d).length = 3 ∨ (kidsD d).length = 2 ∨ (kidsD d).length = 1 ∨ (kidsD d).length = 0 := by omega
    rcases z with z | z | z | z <;> rw [z] at g <;> omega
theorem one_plan {K : PySem.W.Frag} {hs : List Str} {as : List (Str × Bool)} {H : Hp} {l : Addr} {v : V} {d : PyData} (h : SqL K H l [v]) (dv : Dp K H v d) (fd : Fm hs as 4 d) (nm : NmOk hs as) : PlansAt K hs as H l [d] := by
  have f := forms_len 4 fd
  have g := few_leaves 4 fd
  refine ⟨[v], h, .cons dv .nil, fun x m => (by rw [List.mem_singleton.mp m]; exact fd), by simp, ?_, ?_, nm⟩
  · rw [List.flatMap_cons, List.flatMap_nil, List.append_nil]
    have : 3 ^ 4 = 81 := rfl
    omega
  · rw [List.flatMap_cons, List.flatMap_nil, List.append_nil]
    have : 3 ^ 4 = 81 := rfl
    omega
theorem name_set {i : Nat} {x : V} {σ : L2.St} {H : Hp} {k : L2.St → Hp → Prop} (h : k (σ.set i (some x)) H) : gName i x σ H k := h
def sp_lplan (K : PySem.W.Frag) : Sp := fun vs H Q _ => ∃ (d cl : Addr) (hs : List Str) (as : List (Str × Bool)) (ss : List Str), vs = [.ref d, .ref cl, .int 3, .int 3] ∧ Drw K H d ∧ ClAt K d H cl hs as ss ∧ ColsOk hs as ss ∧ NmOk hs as ∧
  ∀ (v : V) (x : PyData) (H' : Hp), Drw K H' d → But d H H' → Dp K (del H' d) v x → Fm hs as 4 x → (forms 4 x).length ≤ 28 → Q v H'
theorem ok__law_formula (T : Txt K mg) : FnOk P w K mg base CX0 14 T.a__law_formula T.d__law_formula ["draw", "columns", "deep", "share"] (sp_lform K 9) := ok_lform T 9
theorem ok__law_plan (T : Txt K mg) : FnOk P w K mg base CX0 15 T.a__law_plan T.d__law_plan ["draw", "columns", "deep", "share"] (sp_lplan K) := by
  have G__law_formula := ok__law_formula (P := P) (w := w) (base := base) T
  have G__law_fits := ok__law_fits (P := P) (w := w) (base := base) T
  refine T.F__law_plan.ok sc__law_plan (fun vs H Q E h => ?_) (fun cdv A outer s H vs Q E hr h => ?_)
  · obtain ⟨d, cl, hs, as, ss, rfl, _⟩ := h
    rfl
  obtain ⟨d, cl, hs, as, ss, rfl, hD, hC, ok, nm, k⟩ := h
  refine ⟨_, (pss_cons (ps_for PassesOwn.never rfl (pi_range1 (by rfl) T.z_range (pa_cons pe_int pa_nil)) (pg_name (i := 4) sc__law_plan.nd rfl (by first | exact Or.inl rfl | exact Or.inr rfl))
    (pss_cons (ps_set (i := 5) sc__law_plan.nd rfl (by first | exact Or.inl rfl | exact Or.inr rfl) (pe_call G__law_formula (hr.mono (by first | decide | omega)) (by rfl) T.m__law_formula T.F__law_formula.kp T.b__law_formula .nil pass0 (pa_cons (pv 0) (pa_cons (pv 1) (pa_cons (pv 2) (pa_cons (pv 3) pa_nil))))))
    (pss_one (ps_if (pt_val (pe_call G__law_fits (hr.mono (by first | decide | omega)) (by rfl) T.m__law_fits T.F__law_fits.kp T.b__law_fits .nil pass0 (pa_cons (pe_lst (pa_cons (pv 5) pa_nil)) pa_nil))) (pss_one (ps_ret (pv 5))) pss_nil))))
    (pss_one (ps_ret (pe_tup (pa_cons pe_str (pa_cons pe_str (pa_cons (pe_tup (pa_cons pe_int (pa_cons pe_int pa_nil))) pa_nil))))))), ?_⟩
  refine ⟨6, rfl, by decide, by decide, ?_⟩
  refine for_it walk_range (fun i σ' H' => ∃ x4 x5 : Option V, σ' = [some (.ref d), some (.ref cl), some (.int 3), some (.int 3), x4, x5] ∧ Drw K H' d ∧ But d H H') ⟨_, _, rfl, hD, But.refl _ _⟩ (fun _ _ _ _ _ => trivial) ?_ ?_
  · rintro i x σ' H' H'' hi ⟨x4, x5, rfl, hD', bt⟩ ⟨e'', rfl⟩
    subst e''
    refine ⟨_, rfl, _, rfl, _, rfl, _, rfl, d, cl, 3, hs, as, ss, rfl, hD', hC.but bt, ok, by decide, fun v x H2 hD2 b2 dx fx => ?_⟩
    refine name_set ?_
    dsimp only
    refine if_cut (fun b H' => Same H2 H' ∧ (b = true → (forms 4 x).length ≤ 28)) (fun b H3 hb => ?_) (fun Q' fin => ?_)
    · obtain ⟨g3, h28⟩ := hb
      cases b with
      | true => exact iteT ⟨_, rfl, k v x H3 (hD2.same g3) ((bt.trans b2).same g3) (dp_same (off_same g3) _ _ dx) fx (h28 rfl)⟩
      | false => exact iteF ⟨_, _, rfl, hD2.same g3, (bt.trans b2).same g3⟩
    · refine ⟨_, rfl, (by show 1 ≤ sizeLine; decide), fun p hp1 => ?_⟩
      have g3 := same_new hp1 (.lst [v])
      have dx2 : Dp K H2 v x := dp_same off_in _ _ dx
      refine ⟨p, hs, as, [x], rfl, one_plan (SqL.of upd_same) (dp_same g3 _ _ dx2) fx nm, by simp, fun b H4 g4 h => ⟨_, rfl, fin _ _ ⟨g3.trans g4, fun z => h z x (.head _)⟩⟩⟩
  · rintro σ' H' ⟨x4, x5, rfl, hD', bt⟩
    refine ⟨(by show 2 ≤ sizeLine; decide), fun p1 hp1 => ⟨(by show 3 ≤ sizeLine; decide), fun p2 hp2 => ?_⟩⟩
    have g1 := same_new hp1 (.tup [.int 1, .int 2])
    have g2 := same_new hp2 (.tup [.str "row", .str "a", .ref p1])
    have hD1 := hD'.same g1
    have n1 : p1 ≠ d := drw_ne hD' hp1
    have n2 : p2 ≠ d := drw_ne hD1 hp2
    refine k (.ref p2) (.tuple [.str "row", .str "a", pairD (1, 2)]) _ (hD1.same g2) ((bt.same g1).same g2) (.tup (SqT.of (off_at upd_same n2)) (.cons (.str _) (.cons (.str _) (.cons (.tup (SqT.of (off_at (g2 _ _ upd_same) n1)) (.cons (.int _) (.cons (.int _) .nil))) .nil)))) (.leaf (.test (.inl rfl) (by decide) (by decide))) (by decide +kernel)

end
end My
set_option Elab.async false
set_option linter.all false
set_option maxRecDepth 100000
set_option maxHeartbeats 400000
namespace My
open PySem L2 PySem.Spec PyProof.Rows
section
variable {P : Program} {w : World} {K : PySem.W.Frag} {mg : Str → Option Value} {base : Heap}
/-! ### the law: plans drawn -/
def nmB (hs : List Str) (as : List (Str × Bool)) : Bool := hs.all (fun n => PyData.canLay0 (.str n)) && as.all (fun p => PyData.canLay0 (.str p.1)) && decide ((as.map Prod.fst).Nodup)
theorem nmB_ok {hs : List Str} {as : List (Str × Bool)} (h : nmB hs as = true) : NmOk hs as := by
  unfold nmB at h
  simp only [Bool.and_eq_true, decide_eq_true_eq, List.all_eq_true] at h
  obtain ⟨⟨h1, h2⟩, h3⟩ := h
  exact ⟨h1, h2, h3⟩
theorem all_nm : ∀ hs, hs ∈ hsL → ∀ as, as ∈ bigA :: asL → nmB hs as = true := by decide +kernel
/-- plans off the draw -/
def PlansOff (K : PySem.W.Frag) (d : Addr) (hs : List Str) (as : List (Str × Bool)) (H : Hp) (l : Addr) (ds : List PyData) : Prop := ∃ vs, H l = some (.lst vs) ∧ l ≠ d ∧ DpAll K (del H d) vs ds ∧ (∀ x ∈ ds, Fm hs as 4 x) ∧ (∀ x ∈ ds, (forms 4 x).length ≤ 28) ∧ ds.length ≤ 3 ∧ NmOk hs as
theorem PlansOff.but {K : PySem.W.Frag} {d : Addr} {hs : List Str} {as : List (Str × Bool)} {H H' : Hp} {l : Addr} {ds : List PyData} (h : PlansOff K d hs as H l ds) (b : But d H H') : PlansOff K d hs as H' l ds := by
  obtain ⟨vs, h1, h2, h3, h4⟩ := h
  exact ⟨vs, b _ _ h2 h1, h2, dps_same (off_but b) _ _ h3, h4⟩
theorem flat_le {α β : Type} {f : α → List β} {m : Nat} : ∀ {l : List α}, (∀ x ∈ l, (f x).length ≤ m) → (l.flatMap f).length ≤ l.length * m
  | [], _ => by simp
  | x :: r, h => by
    have a := h x (.head _)
    have b := flat_le fun y m => h y (.tail _ m)
    rw [List.flatMap_cons, List.length_append, List.length_cons, Nat.add_mul, Nat.one_mul]
    omega
theorem PlansOff.at_ {K : PySem.W.Frag} {d : Addr} {hs : List Str} {as : List (Str × Bool)} {H : Hp} {l : Addr} {ds : List PyData} (h : PlansOff K d hs as H l ds) : PlansAt K hs as H l ds := by
  obtain ⟨vs, h1, h2, h3, h4, h5, h6, nm⟩ := h
  have a := flat_le h5
  have b := flat_le (f := lv 4) (m := 19) (l := ds) fun x m => by
    have c := few_leaves 4 (h4 x m)
    have e := h5 x m
    omega
  exact ⟨vs, SqL.of h1, dps_same off_in _ _ h3, h4, h6, by omega, by omega, nm⟩

end
end My
set_option Elab.async false
set_option linter.all false
set_option maxRecDepth 100000
set_option maxHeartbeats 400000
namespace My
open PySem L2 PySem.Spec PyProof.Rows
section
variable {P : Program} {w : World} {K : PySem.W.Frag} {mg : Str → Option Value} {base : Heap}
/-! ### a dict of drawn values -/
def rowsV (ts vals : List PyData) : List PyData := List.zipWith (fun t v => PyData.tuple [t, v]) ts vals
def valOf : PyData → V
  | .int i => .int i
  | .bool b => .bl b
  | _ => .non
def flatV2 (v : PyData) : Prop := (∃ i, v = .int i) ∨ ∃ b, v = .bool b
theorem dp_val {K : PySem.W.Frag} {H : Hp} {x : V} {v : PyData} (h : Dp K H x v) (f : flatV2 v) : x = valOf v := by
  rcases f with ⟨i, rfl⟩ | ⟨b, rfl⟩ <;> cases h <;> rfl
theorem ents_of {K : PySem.W.Frag} {H : Hp} : ∀ {acc : List V} {ts vals : List PyData}, DpAll K H acc (rowsV ts vals) → ts.length = vals.length → (∀ t ∈ ts, ∃ r, t = .tuple r) → (∀ v ∈ vals, flatV2 v) → ∃ (tps : List Addr) (E : Ents), acc = tps.map V.ref ∧ tps.length = E.length ∧ (∀ (i : Nat) (t : Addr) (e : PyData × Addr × V), tps[i]? = some t → E[i]? = some e → SqT K H t [.ref e.2.1, e.2.2]) ∧ E.map (·.1) = ts ∧ (∀ e ∈ E, Dp K H (.ref e.2.1) e.1) ∧ ∀ e ∈ E, ∃ v ∈ vals, e.2.2 = valOf v
  | [], [], _, _, _, _, _ => ⟨[], [], rfl, rfl, fun i t e h => (by simp at h), rfl, fun e m => (by cases m), fun e m => by cases m⟩
  | _ :: _, [], _, h, _, _, _ => by cases h
  | _, _ :: _, [], _, l, _, _ => by cases l
  | [], _ :: _, _ :: _, h, _, _, _ => by cases h
  | x :: acc, t :: ts, v :: vals, h, l, ht, hv => by
    cases h with
    | cons a b =>
      obtain ⟨tps, E, e1, e2, e3, e4, e5, e6⟩ := ents_of (ts := ts) (vals := vals) b (Nat.succ.inj l) (fun y m => ht y (.tail _ m)) (fun y m => hv y (.tail _ m))
      cases a with
      | @tup p xs _ hs ha =>
        obtain ⟨y, z, rfl, dy, dz⟩ := dps2 ha
        obtain ⟨r, rfl⟩ := ht t (.head _)
        have ez := dp_val dz (hv v (.head _))
        cases dy with
        | @tup kq ys _ hq hy =>
          refine ⟨p :: tps, (.tuple r, kq, z) :: E, by rw [e1]; rfl, by rw [List.length_cons, List.length_cons, e2], fun i t e h1 h2 => ?_, by rw [List.map_cons, e4], fun e m => ?_, fun e m => ?_⟩
          · cases i with
            | zero =>
              obtain rfl := Option.some.inj h1
              obtain rfl := Option.some.inj h2
              exact hs
            | succ i => exact e3 i t e h1 h2
          · rcases List.mem_cons.mp m with rfl | m
            · exact .tup hq hy
            · exact e5 e m
          · rcases List.mem_cons.mp m with rfl | m
            · exact ⟨v, .head _, ez⟩
            · obtain ⟨u, mu, eu⟩ := e6 e m
              exact ⟨u, .tail _ mu, eu⟩
theorem rows_more {ts vals : List PyData} {i : Nat} {t v : PyData} (ht : ts[i]? = some t) (l : vals.length = i) : rowsV (ts.take (i + 1)) (vals ++ [v]) = rowsV (ts.take i) vals ++ [.tuple [t, v]] := by
  unfold rowsV
  have li := (List.getElem?_eq_some_iff.mp ht).1
  rw [take_more' ht, List.zipWith_append (by rw [List.length_take]; omega)]
  rfl
theorem noLs_mem : ∀ {l : List PyData}, noLs l = true → ∀ {e}, e ∈ l → noL e = true
  | x :: r, h, e, m => by
    obtain ⟨a, b⟩ := Bool.and_eq_true_iff.mp (show (noL x && noLs r) = true from h)
    rcases List.mem_cons.mp m with rfl | m
    · exact a
    · exact noLs_mem b m
theorem rows_nl {ts vals : List PyData} (h1 : ∀ t ∈ ts, noL t = true) (h2 : ∀ v ∈ vals, flatV2 v) : noLs (rowsV ts vals) = true := by
  unfold rowsV
  induction ts generalizing vals with
  | nil => rfl
  | cons t r ih =>
    cases vals with
    | nil => rfl
    | cons v vs =>
      have a := ih (fun x m => h1 x (.tail _ m)) (vals := vs) fun x m => h2 x (.tail _ m)
      have b := h1 t (.head _)
      have c : noL v = true := by
        rcases h2 v (.head _) with ⟨i, rfl⟩ | ⟨i, rfl⟩ <;> rfl
      refine noLs_all fun e m => ?_
      rcases List.mem_cons.mp m with rfl | m
      · exact noLs_all fun e m => by
          rcases List.mem_cons.mp m with rfl | m
          · exact b
          · rw [List.mem_singleton.mp m]
            exact c
      · exact noLs_mem a m
/-- what a dict of entries says of whole numbers -/
theorem pick_int {E : Ents} {ts : List PyData} (h : E.map (·.1) = ts) (iv : ∀ e ∈ E, ∃ i : Int, e.2.2 = .int i) : ∃ pt : PyData → Int, ∀ t ∈ ts, ∃ q, (t, q, V.int (pt t)) ∈ E := by
  classical
  have ex : ∀ t ∈ ts, ∃ (i : Int) (q : Addr), (t, q, V.int i) ∈ E := fun t m => by
    rw [← h] at m
    obtain ⟨e, me, rfl⟩ := List.mem_map.mp m
    obtain ⟨i, ei⟩ := iv e me
    exact ⟨i, e.2.1, by rw [← ei]; exact me⟩
  refine ⟨fun t => if c : ∃ (i : Int) (q : Addr), (t, q, V.int i) ∈ E then c.choose else 0, fun t m => ?_⟩
  have c := ex t m
  dsimp only
  rw [dif_pos c]
  exact c.choose_spec
theorem pick_bool {E : Ents} {ts : List PyData} (h : E.map (·.1) = ts) (iv : ∀ e ∈ E, ∃ b : Bool, e.2.2 = .bl b) : ∃ av : PyData → Bool, ∀ t ∈ ts, ∃ q, (t, q, V.bl (av t)) ∈ E := by
  classical
  have ex : ∀ t ∈ ts, ∃ (b : Bool) (q : Addr), (t, q, V.bl b) ∈ E := fun t m => by
    rw [← h] at m
    obtain ⟨e, me, rfl⟩ := List.mem_map.mp m
    obtain ⟨i, ei⟩ := iv e me
    exact ⟨i, e.2.1, by rw [← ei]; exact me⟩
  refine ⟨fun t => if c : ∃ (b : Bool) (q : Addr), (t, q, V.bl b) ∈ E then c.choose else false, fun t m => ?_⟩
  have c := ex t m
  dsimp only
  rw [dif_pos c]
  exact c.choose_spec
theorem dictN_at {P : Program} {w : World} {K : PySem.W.Frag} {l : Addr} {tps : List Addr} {E : Ents} {H : Hp} {Q : VK} (h : SqL K H l (tps.map V.ref)) (len : tps.length = E.length) (sq : ∀ (i : Nat) (t : Addr) (e : PyData × Addr × V), tps[i]? = some t → E[i]? = some e → SqT K H t [.ref e.2.1, e.2.2]) (eo : EntOk K H E) (nd : (E.map (·.1)).Nodup)
    (k : ∀ p H', H p = none → Same H H' → H' p = some (DctNO P w p E) → Q (.ref p) H') : rDictN K P w [.ref l] H Q := ⟨l, tps, E, rfl, h, len, sq, eo, nd, fun p hp => k p _ hp (same_new hp _) upd_same⟩
theorem nil_at {σ : L2.St} {H : Hp} {Q : List V → Hp → Prop} (h : Q [] H) : tNil σ H Q := h

end
end My
set_option Elab.async false
set_option linter.all false
set_option maxRecDepth 100000
set_option maxHeartbeats 400000
namespace My
open PySem L2 PySem.Spec PyProof.Rows
section
variable {P : Program} {w : World} {K : PySem.W.Frag} {mg : Str → Option Value} {base : Heap}
theorem ColsM.but {K : PySem.W.Frag} {C d : Addr} {H H' : Hp} {p : Addr} {ss : List Str} (h : ColsM C H p ss) (hD : Drw K H d) (b : But d H H') : ColsM C H' p ss := by
  obtain ⟨dx, fs, u, h1, h2, h3⟩ := h
  obtain ⟨a, ns, i, hd, _⟩ := hD
  have n1 : p ≠ d := fun z => by
    rw [z, hd] at h1
    cases h1
  have n2 : u ≠ d := fun z => by
    rw [z, hd] at h3
    cases h3
  exact ⟨dx, fs, u, b _ _ n1 h1, h2, b _ _ n2 h3⟩
theorem str_tup_lay {ss : List Str} (h : ∀ s ∈ ss, PyData.canLay0 (.str s) = true) : PyData.canLay0 (.tuple (ss.map .str)) = true := lay_strs' ss h
theorem strs_depth (ss : List Str) : PyData.depthAll (ss.map .str) = 0 := by
  induction ss with
  | nil => rfl
  | cons s r ih =>
    show max 0 (PyData.depthAll (r.map .str)) = 0
    rw [ih]
    rfl
theorem tups_shaped {ts : List PyData} (h : ∀ t ∈ ts, ∃ ss : List Str, t = .tuple (ss.map .str) ∧ ∀ s ∈ ss, PyData.canLay0 (.str s) = true) : SeqAt.shaped (.tuple ts) = true := by
  unfold SeqAt.shaped
  rw [Bool.and_eq_true]
  have go : PyData.canLayAll0 ts = true ∧ PyData.depthAll ts ≤ 1 := by
    induction ts with
    | nil => exact ⟨rfl, Nat.zero_le _⟩
    | cons t r ih =>
      obtain ⟨a, b⟩ := ih fun x m => h x (.tail _ m)
      obtain ⟨ss, rfl, l⟩ := h t (.head _)
      refine ⟨?_, Nat.max_le.mpr ⟨?_, b⟩⟩
      · show (PyData.canLay0 (.tuple (ss.map .str)) && PyData.canLayAll0 r) = true
        rw [str_tup_lay l, a]
        rfl
      · show PyData.depthAll (ss.map .str) + 1 ≤ 1
        rw [strs_depth]
        exact Nat.le_refl _
  refine ⟨go.1, decide_eq_true ?_⟩
  have := go.2
  show PyData.depthAll ts + 1 ≤ 64
  omega
theorem shaped_lay {d : PyData} (h : SeqAt.shaped d = true) : PyData.canLay0 d = true := by
  unfold SeqAt.shaped at h
  exact (Bool.and_eq_true_iff.mp h).1
theorem eqv_self {d : PyData} (h : SeqAt.shaped d = true) : PyData.eqv d d = true := PySem.SeqAt.eqv_refl d (shaped_lay h)
theorem all_ss : ∀ ss, ss ∈ ssL → ∀ s ∈ ss, PyData.canLay0 (.str s) = true := by decide +kernel
theorem dps_of_strs {K : PySem.W.Frag} {H : Hp} : ∀ ss : List Str, DpAll K H (ss.map V.str) (ss.map PyData.str)
  | [] => .nil
  | s :: r => .cons (.str s) (dps_of_strs r)
theorem pairsT_shaped {zs : List (Int × Int)} (h : ∀ z ∈ zs, PyData.canLay0 (pairD z) = true) : SeqAt.shaped (.tuple (zs.map pairD)) = true := by
  unfold SeqAt.shaped
  rw [Bool.and_eq_true]
  have go : PyData.canLayAll0 (zs.map pairD) = true := by
    induction zs with
    | nil => rfl
    | cons z r ih =>
      show (PyData.canLay0 (pairD z) && PyData.canLayAll0 (r.map pairD)) = true
      rw [h z (.head _), ih fun w m => h w (.tail _ m)]
      rfl
  refine ⟨go, decide_eq_true ?_⟩
  have := pairs_deep zs
  show PyData.depthAll (zs.map pairD) + 1 ≤ 64
  omega
theorem len_lay : ∀ z ∈ U7, ∀ w ∈ U7, PyData.canLay0 (pairD (fMinus w.1 w.2 z.1 z.2)) = true := by decide +kernel
theorem lens_lay {cs : List (Int × Int)} (h : ∀ z ∈ cs, z ∈ U7) : ∀ z ∈ lensL cs, PyData.canLay0 (pairD z) = true := fun z m => by
  unfold lensL at m
  obtain ⟨i, mi, rfl⟩ := List.mem_map.mp m
  have li := List.mem_range.mp mi
  have h1 : cs[i]? = some cs[i] := List.getElem?_eq_getElem (by omega)
  have h2 : cs[i + 1]? = some cs[i + 1] := List.getElem?_eq_getElem (by omega)
  unfold lenAt
  rw [h1, h2]
  exact len_lay _ (h _ (List.getElem_mem _)) _ (h _ (List.getElem_mem _))
def lawSt (a d cl x l : Addr) (r : List (Option V)) : L2.St := some (.ref a) :: some (.ref d) :: some (.ref cl) :: some (.ref x) :: some (.ref l) :: r
def sp_law (K : PySem.W.Frag) : Sp := fun vs H Q _ => ∃ (a : Addr) (ns : List Int), vs = [.ref a] ∧ SqF K H a (ns.map V.int) ∧ ns.length ≤ 63 ∧ ∀ H', Q (.bl true) H'
theorem ok_law (T : Txt K mg) : FnOk P w K mg base CX0 16 T.a_law T.d_law ["script"] (sp_law K) := by
  have G__law_columns := ok__law_columns (P := P) (w := w) (base := base) T
  have G_Columns_init := ok_Columns_init (P := P) (w := w) (base := base) T
  have G_tests_in := ok_tests_in (P := P) (w := w) (base := base) T
  have G__law_plan := ok__law_plan (P := P) (w := w) (base := base) T
  have G__law_cuts := ok__law_cuts (P := P) (w := w) (base := base) T
  have G__law_low := ok__law_low (P := P) (w := w) (base := base) T
  have G__law_leaves := ok__law_leaves (P := P) (w := w) (base := base) T
  have G__law_tests := ok__law_tests (P := P) (w := w) (base := base) T
  have G_thresholds := ok_thresholds (P := P) (w := w) (base := base) T
  have G_lengths := ok_lengths (P := P) (w := w) (base := base) T
  have G__law_total := ok__law_total (P := P) (w := w) (base := base) T
  have G_holds_at := ok_holds_at (P := P) (w := w) (base := base) T
  have G__law_truth := ok__law_truth (P := P) (w := w) (base := base) T
  have G__law_take := ok__law_take (P := P) (w := w) (base := base) T
  have G__law_asks := ok__law_asks (P := P) (w := w) (base := base) T
  refine T.F_law.ok sc_law (fun vs H Q E h => ?_) (fun cdv A outer s H vs Q E hr h => ?_)
  · obtain ⟨a, ns, rfl, _⟩ := h
    rfl
  obtain ⟨a, ns, rfl, hs, hl, k⟩ := h
  refine ⟨_, (pss_cons (ps_set (i := 1) sc_law.nd rfl (by first | exact Or.inl rfl | exact Or.inr rfl) (pe_lst (pa_cons (pv 0) (pa_cons pe_int pa_nil))))
    (pss_cons (ps_set (i := 2) sc_law.nd rfl (by first | exact Or.inl rfl | exact Or.inr rfl) (pe_call G__law_columns (hr.mono (by first | decide | omega)) (by rfl) T.m__law_columns T.F__law_columns.kp T.b__law_columns .nil pass0 (pa_cons (pv 1) pa_nil)))
    (pss_cons (ps_set (i := 3) sc_law.nd rfl (by first | exact Or.inl rfl | exact Or.inr rfl) (pe_make T.mk_Columns G_Columns_init (hr.mono (by first | decide | omega)) (by rfl) T.m_Columns T.b_Columns_init .nil pass0 (pa_cons (pe_ix ix_tup (pv 2) pe_int (fun _ _ => rfl)) (pa_cons (pe_ix ix_tup (pv 2) pe_int (fun _ _ => rfl)) (pa_cons (pe_ix ix_tup (pv 2) pe_int (fun _ _ => rfl)) pa_nil)))))
    (pss_cons (ps_set (i := 4) sc_law.nd rfl (by first | exact Or.inl rfl | exact Or.inr rfl) (pe_lc (own := [("turn", 5)]) rfl sc_law.nd (pi_range1 (by rfl) T.z_range (pa_cons (pe_op op_add pe_int (pe_call G__law_take (hr.mono (by first | decide | omega)) (by rfl) T.m__law_take T.F__law_take.kp T.b__law_take .nil pass0 (pa_cons (pv 1) (pa_cons pe_int pa_nil)))) pa_nil)) (blkOk_by (own := [("turn", 5)]) (N := ["script", "draw", "columns", "made", "plans", "turn", "test", "cuts", "due", "at", "parts", "answers", "ask", "plan", "leaves", "leaf"]) (sc := defScope s_law) (by decide +kernel)) (fun _ _ _ _ _ => (pg_name (i := 5) sc_law.nd rfl (by first | exact Or.inl rfl | exact Or.inr rfl))) (fun _ _ _ _ _ => pts_nil) (fun _ _ _ _ _ => (pe_call G__law_plan (hr.mono (by first | decide | omega)) (by rfl) T.m__law_plan T.F__law_plan.kp T.b__law_plan .nil pass0 (pa_cons (pv 1) (pa_cons (pv 2) (pa_cons pe_int (pa_cons pe_int pa_nil))))))))
    (pss_cons (ps_if (PW.pt (pw_or (pt_cmpR (op_neD (hu64 hr)) (pe_call G_tests_in (hr.mono (by first | decide | omega)) (by rfl) T.m_tests_in T.F_tests_in.kp T.b_tests_in .nil pass0 (pa_cons (pv 4) pa_nil)) (pe_callTy call_tuple_of (by rfl) T.z_tuple (by decide +kernel) (pa_cons (pe_call G__law_tests (hr.mono (by first | decide | omega)) (by rfl) T.m__law_tests T.F__law_tests.kp T.b__law_tests .nil pass0 (pa_cons (pv 4) pa_nil)) pa_nil)) (nomark _)) (pw_or1 (pt_cmpR (op_eqD (hu64 hr)) (pe_fld (pv 3) rfl) (pe_tup pa_nil) (nomark _))))) (pss_one (ps_ret pe_bl)) pss_nil)
    (pss_cons (ps_for PassesOwn.never rfl (pi_tup (pe_call G_tests_in (hr.mono (by first | decide | omega)) (by rfl) T.m_tests_in T.F_tests_in.kp T.b_tests_in .nil pass0 (pa_cons (pv 4) pa_nil))) (pg_name (i := 6) sc_law.nd rfl (by first | exact Or.inl rfl | exact Or.inr rfl))
    (pss_cons (ps_set (i := 7) sc_law.nd rfl (by first | exact Or.inl rfl | exact Or.inr rfl) (pe_call G__law_cuts (hr.mono (by first | decide | omega)) (by rfl) T.m__law_cuts T.F__law_cuts.kp T.b__law_cuts .nil pass0 (pa_cons (pv 4) (pa_cons (pv 6) pa_nil))))
    (pss_cons (ps_setLc (i := 8) (own := [("at", 9)]) rfl sc_law.nd rfl rfl (sw_true rfl rfl rfl (by decide +kernel)) (pi_range1 (by rfl) T.z_range (pa_cons (pe_op op_sub (pe_callB call_len_seq (by rfl) T.z_len (by decide +kernel) (pa_cons (pv 7) pa_nil)) pe_int) pa_nil)) (blkOk_by (own := [("at", 9)]) (N := ["script", "draw", "columns", "made", "plans", "turn", "test", "cuts", "due", "at", "parts", "answers", "ask", "plan", "leaves", "leaf"]) (sc := defScope s_law) (by decide +kernel)) (fun _ _ _ _ _ => (pg_name (i := 9) sc_law.nd rfl (by first | exact Or.inl rfl | exact Or.inr rfl))) (fun _ _ _ _ _ => pts_nil) (fun _ _ _ _ _ => (pe_call G__law_low (hr.mono (by first | decide | omega)) (by rfl) T.m__law_low T.F__law_low.kp T.b__law_low .nil pass0 (pa_cons (pe_op op_sub (pe_op op_mul (pe_ix (show IxR _ (rIxT K) from ix_tup) (pe_ix (show IxR _ (rIxL K) from ix_list) (pv 7) (pe_op op_add (pv 9) pe_int) (fun _ _ => rfl)) pe_int (fun _ _ => rfl)) (pe_ix (show IxR _ (rIxT K) from ix_tup) (pe_ix (show IxR _ (rIxL K) from ix_list) (pv 7) (pv 9) (fun _ _ => rfl)) pe_int (fun _ _ => rfl))) (pe_op op_mul (pe_ix (show IxR _ (rIxT K) from ix_tup) (pe_ix (show IxR _ (rIxL K) from ix_list) (pv 7) (pv 9) (fun _ _ => rfl)) pe_int (fun _ _ => rfl)) (pe_ix (show IxR _ (rIxT K) from ix_tup) (pe_ix (show IxR _ (rIxL K) from ix_list) (pv 7) (pe_op op_add (pv 9) pe_int) (fun _ _ => rfl)) pe_int (fun _ _ => rfl)))) (pa_cons (pe_op op_mul (pe_ix (show IxR _ (rIxT K) from ix_tup) (pe_ix (show IxR _ (rIxL K) from ix_list) (pv 7) (pe_op op_add (pv 9) pe_int) (fun _ _ => rfl)) pe_int (fun _ _ => rfl)) (pe_ix (show IxR _ (rIxT K) from ix_tup) (pe_ix (show IxR _ (rIxL K) from ix_list) (pv 7) (pv 9) (fun _ _ => rfl)) pe_int (fun _ _ => rfl))) pa_nil)))))
    (pss_one (ps_if (PW.pt (pw_or (pt_cmpR (op_neD (hu64 hr)) (pe_call G_thresholds (hr.mono (by first | decide | omega)) (by rfl) T.m_thresholds T.F_thresholds.kp T.b_thresholds .nil pass0 (pa_cons (pv 4) (pa_cons (pv 6) pa_nil))) (pe_callTy call_tuple_of (by rfl) T.z_tuple (by decide +kernel) (pa_cons (pv 7) pa_nil)) (nomark _)) (pw_or (pt_cmpR (op_neD (hu64 hr)) (pe_call G_lengths (hr.mono (by first | decide | omega)) (by rfl) T.m_lengths T.F_lengths.kp T.b_lengths .nil pass0 (pa_cons (pv 4) (pa_cons (pv 6) pa_nil))) (pe_callTy call_tuple_of (by rfl) T.z_tuple (by decide +kernel) (pa_cons (pv 8) pa_nil)) (nomark _)) (pw_or1 (pt_cmpR (op_neD (hu64 hr)) (pe_call G__law_total (hr.mono (by first | decide | omega)) (by rfl) T.m__law_total T.F__law_total.kp T.b__law_total .nil pass0 (pa_cons (pv 8) pa_nil)) (pe_tup (pa_cons pe_int (pa_cons pe_int pa_nil))) (nomark _)))))) (pss_one (ps_ret pe_bl)) pss_nil)))))
    (pss_cons (ps_for PassesOwn.never rfl (pi_range1 (by rfl) T.z_range (pa_cons pe_int pa_nil)) (pg_name (i := 5) sc_law.nd rfl (by first | exact Or.inl rfl | exact Or.inr rfl))
    (pss_cons (ps_set (i := 10) sc_law.nd rfl (by first | exact Or.inl rfl | exact Or.inr rfl) (pe_callTy (cr_dictN rfl (hu100 hr)) (by rfl) T.z_dict (by decide +kernel) (pa_cons (pe_lc (own := [("test", 6)]) rfl sc_law.nd (pi_list (pe_call G__law_tests (hr.mono (by first | decide | omega)) (by rfl) T.m__law_tests T.F__law_tests.kp T.b__law_tests .nil pass0 (pa_cons (pv 4) pa_nil))) (blkOk_by (own := [("test", 6)]) (N := ["script", "draw", "columns", "made", "plans", "turn", "test", "cuts", "due", "at", "parts", "answers", "ask", "plan", "leaves", "leaf"]) (sc := defScope s_law) (by decide +kernel)) (fun _ _ _ _ _ => (pg_name (i := 6) sc_law.nd rfl (by first | exact Or.inl rfl | exact Or.inr rfl))) (fun _ _ _ _ _ => pts_nil) (fun _ _ _ _ _ => (pe_tup (pa_cons (pv 6) (pa_cons (pe_call G__law_take (hr.mono (by first | decide | omega)) (by rfl) T.m__law_take T.F__law_take.kp T.b__law_take .nil pass0 (pa_cons (pv 1) (pa_cons (pe_op op_sub (pe_callB (show CallR _ (.builtin "len") (fun xs H Q => ∃ p ys, xs = [.ref p] ∧ (SqL K H p ys ∨ SqT K H p ys) ∧ Q (.int ys.length) H) from call_len_seq) (by rfl) T.z_len (by decide +kernel) (pa_cons (pe_call G__law_cuts (hr.mono (by first | decide | omega)) (by rfl) T.m__law_cuts T.F__law_cuts.kp T.b__law_cuts .nil pass0 (pa_cons (pv 4) (pa_cons (pv 6) pa_nil))) pa_nil)) pe_int) pa_nil))) pa_nil))))) pa_nil)))
    (pss_cons (ps_set (i := 11) sc_law.nd rfl (by first | exact Or.inl rfl | exact Or.inr rfl) (pe_callTy (cr_dictN rfl (hu100 hr)) (by rfl) T.z_dict (by decide +kernel) (pa_cons (pe_lc (own := [("ask", 12)]) rfl sc_law.nd (pi_list (pe_call G__law_asks (hr.mono (by first | decide | omega)) (by rfl) T.m__law_asks T.F__law_asks.kp T.b__law_asks .nil pass0 (pa_cons (pv 4) pa_nil))) (blkOk_by (own := [("ask", 12)]) (N := ["script", "draw", "columns", "made", "plans", "turn", "test", "cuts", "due", "at", "parts", "answers", "ask", "plan", "leaves", "leaf"]) (sc := defScope s_law) (by decide +kernel)) (fun _ _ _ _ _ => (pg_name (i := 12) sc_law.nd rfl (by first | exact Or.inl rfl | exact Or.inr rfl))) (fun _ _ _ _ _ => pts_nil) (fun _ _ _ _ _ => (pe_tup (pa_cons (pv 12) (pa_cons (pe_cmpR op_eq (pe_call G__law_take (hr.mono (by first | decide | omega)) (by rfl) T.m__law_take T.F__law_take.kp T.b__law_take .nil pass0 (pa_cons (pv 1) (pa_cons pe_int pa_nil))) pe_int (nomark _)) pa_nil))))) pa_nil)))
    (pss_one (ps_for PassesOwn.never rfl (pi_list (pv 4)) (pg_name (i := 13) sc_law.nd rfl (by first | exact Or.inl rfl | exact Or.inr rfl))
    (pss_cons (ps_set (i := 14) sc_law.nd rfl (by first | exact Or.inl rfl | exact Or.inr rfl) pe_dnewK)
    (pss_cons (ps_for PassesOwn.never rfl (pi_list (pe_call G__law_leaves (hr.mono (by first | decide | omega)) (by rfl) T.m__law_leaves T.F__law_leaves.kp T.b__law_leaves .nil pass0 (pa_cons (pv 13) pa_nil))) (pg_name (i := 15) sc_law.nd rfl (by first | exact Or.inl rfl | exact Or.inr rfl))
    (pss_one (ps_if (pt_cmpR op_in_seq (pe_ix ix_tup (pv 15) pe_int (fun _ _ => rfl)) (pe_tup (pa_cons pe_str (pa_cons pe_str (pa_cons pe_str pa_nil)))) (by with_unfolding_all rfl)) (pss_one (ps_asg (pe_cmpR op_lt (pe_dgetN (hu100 hr) (pv 10) (pe_slice sl_tupA (pv 15) po_none (po_some (pe_un un_neg pe_int))) (fun _ _ => rfl)) (pe_bm PySem.F.plainAttrs_list PySem.F.slot_list_index PySem.F.type_list_index (mt_idxL (hu100 hr)) (pe_call G__law_cuts (hr.mono (by first | decide | omega)) (by rfl) T.m__law_cuts T.F__law_cuts.kp T.b__law_cuts .nil pass0 (pa_cons (pv 4) (pa_cons (pe_slice sl_tupA (pv 15) po_none (po_some (pe_un un_neg pe_int))) pa_nil))) (pa_cons (pe_ix ix_tup (pv 15) (pe_un un_neg pe_int) (fun _ _ => rfl)) pa_nil)) (nomark _)) (pg_sub (pv 14) (pv 15) (set_dictN (hu100 hr))))) (pss_one (ps_asg (pe_dgetN (hu100 hr) (pv 11) (pv 15) (fun _ _ => rfl)) (pg_sub (pv 14) (pv 15) (set_dictN (hu100 hr))))))))
    (pss_one (ps_if (pt_cmpR op_ne (pe_call G_holds_at (hr.mono (by first | decide | omega)) (by rfl) T.m_holds_at T.F_holds_at.kp T.b_holds_at .nil pass0 (pa_cons (pv 4) (pa_cons (pv 13) (pa_cons (pv 11) (pa_cons (pv 10) pa_nil))))) (pe_call G__law_truth (hr.mono (by first | decide | omega)) (by rfl) T.m__law_truth T.F__law_truth.kp T.b__law_truth .nil pass0 (pa_cons (pv 13) (pa_cons (pv 14) pa_nil))) (nomark _)) (pss_one (ps_ret pe_bl)) pss_nil)))))))))
    (pss_one (ps_ret pe_bl))))))))), ?_⟩
  refine ⟨_, rfl, (by show 2 ≤ sizeLine; decide), fun d hd => ?_⟩
  have hD : Drw K (upd H d (.lst [.ref a, .int 0])) d := ⟨a, ns, 0, upd_same, hs.same (same_new hd _), hl⟩
  generalize upd H d (.lst [.ref a, .int 0]) = H1 at *
  refine ⟨_, rfl, d, rfl, hD, fun cl hs as ss H2 mh ma ms hD2 b2 hC => ?_⟩
  have cok := okB_ok (all_ok hs mh as ma ss ms)
  have nm := nmB_ok (all_nm hs mh as ma)
  have ssn : ss ≠ [] := by
    rcases List.mem_cons.mp ms with rfl | ms
    · exact List.cons_ne_nil _ _
    rcases List.mem_cons.mp ms with rfl | ms
    · exact List.cons_ne_nil _ _
    rw [List.mem_singleton.mp ms]
    exact List.cons_ne_nil _ _
  obtain ⟨l, al, sl, hcl, n0, n1, n2, n3, hl2, ha2, hs2⟩ := id hC
  refine ⟨_, rfl, cl, _, 0, _, rfl, rfl, SqT.of hcl, at_of (j := 0) rfl rfl, _, rfl, cl, _, 1, _, rfl, rfl, SqT.of hcl, at_of (j := 1) rfl rfl, _, rfl, cl, _, 2, _, rfl, rfl, SqT.of hcl, at_of (j := 2) rfl rfl, ?_⟩
  intro x dx hx hdx nx
  have ux : ∀ (b : Addr) (o : HO), H2 b = some o → upd (upd H2 dx (.own x)) x (.ins T.c_Columns dx []) b = some o := fun b o e => by
    rw [upd_ne (ne_of_none e hx), upd_ne (ne_of_none e hdx)]
    exact e
  have gx : Same H2 (upd (upd H2 dx (.own x)) x (.ins T.c_Columns dx [])) := ux
  refine ⟨x, l, al, sl, dx, hs, as, ss, rfl, upd_same, gx.seq hl2, gx _ _ ha2, gx.seq hs2, cok, fun H3 b3 hc3 => ⟨rfl, ?_⟩⟩
  have g3 : Same H2 H3 := fun b o e => b3 b o (ne_of_none e hx) (gx _ _ e)
  have hD3 := hD2.same g3
  have hC3 := hC.but (Same.but g3)
  dsimp only
  -- the plans
  refine seq_cut (fun σ' H' => ∃ pl ds, σ' = lawSt a d cl x pl [none, none, none, none, none, none, none, none, none, none, none] ∧ Drw K H' d ∧ ColsM T.c_Columns H' x ss ∧ PlansOff K d hs as H' pl ds) (fun σ' H4 h => ?_) (fun tail => ?_)
  rotate_left
  · refine ⟨_, rfl, d, 3, rfl, hD3, by decide, fun r H4 r0 r3 hD4 b4 => ⟨_, _, rfl, rfl, _, rfl, by omega, by omega, fun D hDn => ?_⟩⟩
    have nD : D ≠ d := drw_ne hD4 hDn
    have hm4 := hc3.but hD3 b4
    have hC4 := hC3.but b4
    refine lc_range (fun i H' => Drw K H' d ∧ But d H4 H' ∧ ∃ acc xs, H' D = some (.lst acc) ∧ xs.length = i ∧ DpAll K (del H' d) acc xs ∧ (∀ x, x ∈ xs → Fm hs as 4 x) ∧ ∀ x, x ∈ xs → (forms 4 x).length ≤ 28) ⟨hD4.same (same_new hDn _), Same.but (same_new hDn _), [], [], upd_same, rfl, .nil, fun x hx => (by cases hx), fun x hx => by cases hx⟩ ?_ ?_
    · rintro i H' hi ⟨hD5, b5, acc, xs, hacc, lx, dacc, fxs, lxs⟩
      refine ⟨rfl, _, rfl, _, rfl, d, cl, hs, as, ss, rfl, hD5, hC4.but b5, cok, nm, fun v z H6 hD6 b6 dz fz lz => ⟨acc, b6 _ _ nD hacc, ?_, ?_, ?_, acc ++ [v], xs ++ [z], upd_same, ?_, ?_, ?_, ?_⟩⟩
      · rw [dps_len dacc]
        exact small1000 (by omega)
      · exact hD6.but (b6 _ _ nD hacc) (Ne.symm nD) (fun b o n e => by rw [upd_ne n]; exact e)
      · exact fun b o n e => by
          rw [upd_ne (ne_of_none e hDn)]
          exact b6 _ _ n (b5 _ _ n e)
      · rw [List.length_append, lx]
        rfl
      · have tu := tup_upd (K := K) (d := d) (o := .lst (acc ++ [v])) (b6 _ _ nD hacc)
        exact dps_app (dps_tups tu _ _ (noLs_all fun e m => fm_noL (fxs e m)) (dps_same (off_but b6) _ _ dacc)) (.cons (dp_tups tu _ _ (fm_noL fz) dz) .nil)
      · intro y hy
        rcases List.mem_append.mp hy with hy | hy
        · exact fxs y hy
        · obtain rfl := List.mem_singleton.mp hy
          exact fz
      · intro y hy
        rcases List.mem_append.mp hy with hy | hy
        · exact lxs y hy
        · obtain rfl := List.mem_singleton.mp hy
          exact lz
    · rintro H' ⟨hD5, b5, acc, xs, hacc, lx, dacc, fxs, lxs⟩
      exact tail _ _ ⟨D, xs, rfl, hD5, hm4.but hD4 b5, acc, hacc, nD, dacc, fxs, lxs, by omega, nm⟩
  obtain ⟨pl, ds, rfl, hD4, hm4, off4⟩ := h
  obtain ⟨dx5, fs5, u5, c1, c2, c3⟩ := hm4
  have at4 := off4.at_
  obtain ⟨_, _, _, fm, _, few, few7, _⟩ := id at4
  have trow : ∀ ts, SortedOf (testsOf ds) ts → ∀ t ∈ ts, ∃ ss : List Str, t = .tuple (ss.map .str) ∧ ∀ s ∈ ss, PyData.canLay0 (.str s) = true := fun ts so t m => by
    obtain ⟨ss, e, _, lay⟩ := test_str fm nm t ((so.2.1 t).mp m)
    exact ⟨ss, e, lay⟩
  have tflat : ∀ x ∈ testsOf ds, ∃ r, x = .tuple r ∧ flatRow r := fun x m => by
    obtain ⟨ss, e, _⟩ := test_str fm nm x m
    exact ⟨_, e, str_flat ss⟩
  -- the tests
  refine ifs_cut (fun b H' => Same H4 H' ∧ b = false) (fun b H5 hb => ?_) (fun Q' fin => ?_)
  rotate_left
  · refine ⟨_, rfl, pl, hs, as, ds, rfl, at4, fun q ws ts H6 g6 hq dq so => ?_⟩
    refine ⟨_, rfl, pl, hs, as, ds, rfl, at4.same g6, fun q2 ws2 ts2 H7 g7 nq2 hq2 dq2 so2 => ⟨q2, ws2, rfl, .inl ⟨SqL.of hq2, fun p hp1 => ?_⟩⟩⟩
    have g8 := same_new hp1 (.tup ws2)
    obtain rfl := sorted_uniq so so2 tflat
    have sh := tups_shaped (trow _ so)
    refine ⟨_, _, .tup (Same.tup (g7.trans g8) hq) (dps_same (g7.trans g8) _ _ dq), .tup (SqT.of upd_same) (dps_same g8 _ _ dq2), sh, sh, _, rfl, ?_⟩
    rw [eqv_self sh]
    have gg := (g6.trans g7).trans g8
    refine ite2 (fun z => by cases z) (fun _ => ?_)
    have h1 := (gg _ _ c1)
    have h3 := (gg _ _ c3)
    refine ⟨_, rfl, x, _, _, _, _, rfl, h1, T.cl_Columns, T.n_Columns_summed, c2, (by show 0 ≤ sizeLine; decide), fun p0 hp0 => ?_⟩
    have g9 := same_new hp0 (.tup [])
    have lss : SeqAt.shaped (.tuple (ss.map .str)) = true := shaped_strs (all_ss ss ms)
    refine ⟨_, _, .tup (SqT.of (g9 _ _ h3)) (dps_of_strs ss), .tup (SqT.of upd_same) .nil, lss, by decide +kernel, _, rfl, ?_⟩
    have ne : PyData.eqv (.tuple (ss.map .str)) (.tuple []) = false := by
      cases ss with
      | nil => exact absurd rfl ssn
      | cons s r => rfl
    rw [ne]
    exact fin _ _ ⟨gg.trans g9, rfl⟩
  obtain ⟨g5, rfl⟩ := hb
  refine iteF (next_of ?_)
  have at5 := at4.same g5
  dsimp only
  refine seq_cut (fun σ' H' => ∃ x6 x7 x8, σ' = lawSt a d cl x pl [none, x6, x7, x8, none, none, none, none, none, none, none] ∧ Same H5 H') (fun σ' H6 h => ?_) (fun tail => ?_)
  rotate_left
  · refine ⟨_, rfl, pl, hs, as, ds, rfl, at5, fun q ws ts H6 g6 hq dq so => ⟨q, rfl, ⟨_, hq⟩, ?_⟩⟩
    have lws := dps_len dq
    refine for_it (walk_tup (xs := ws)) (fun i σ' H' => ∃ x6 x7 x8, σ' = lawSt a d cl x pl [none, x6, x7, x8, none, none, none, none, none, none, none] ∧ Same H6 H') ⟨_, _, _, rfl, Same.refl _⟩ (fun i σ' H' _ z => ?_) ?_ ?_
    · obtain ⟨_, _, _, _, g⟩ := z
      exact Same.tup g hq
    · rintro i v σ' H' H'' hi ⟨x6, x7, x8, rfl, g⟩ ⟨e'', hx⟩
      subst e''
      have li : i < ts.length := by omega
      have ht : ts[i]? = some ts[i] := List.getElem?_eq_getElem li
      generalize ts[i] = t at ht
      obtain ⟨v', hv', dv⟩ := dps_get dq ht
      rw [hx] at hv'
      obtain rfl := Option.some.inj hv'
      obtain ⟨st, rfl, tk, lays⟩ := test_str fm nm t ((so.2.1 t).mp (List.mem_of_getElem? ht))
      have gg := g6.trans g
      have dv2 := dp_same g _ _ dv
      refine ⟨_, rfl, _, rfl, pl, v, hs, as, ds, st, rfl, at5.same gg, dv2, tk, lays, fun q2 ws2 H7 g7 nq2 hq2 dq2 => ?_⟩
      have cu : ∀ z ∈ cutsOf ds st, z ∈ U7 := cuts_U _
      have c0 : cutsOf ds st = cutsD ((0, 1) :: (1, 1) :: chancesOf ds st) := rfl
      have l7 : (cutsOf ds st).length ≤ 7 := List.length_filter_le _ _
      have l2 := dps_len dq2
      rw [List.length_map] at l2
      have ll : (lensL (cutsOf ds st)).length = (cutsOf ds st).length - 1 := by
        unfold lensL
        rw [List.length_map, List.length_range]
      have l1 : 1 ≤ (cutsOf ds st).length := by
        obtain ⟨mid, e⟩ := cuts_ends (zs := (0, 1) :: (1, 1) :: chancesOf ds st) (.head _) (.tail _ (.head _))
        rw [c0, e]
        simp
      refine ⟨_, rfl, q2, ws2, rfl, .inl (SqL.of hq2), _, _, rfl, rfl, _, rfl, by omega, by omega, fun D hD => ?_⟩
      refine lc_range (fun j H' => Same H7 H' ∧ ∃ acc, H' D = some (.lst acc) ∧ DpAll K H' acc (((lensL (cutsOf ds st)).take j).map pairD)) ⟨same_new hD _, [], upd_same, .nil⟩ ?_ ?_
      · rintro j H8 hj ⟨g8, acc, eD, da⟩
        have hj2 : j + 1 < (cutsOf ds st).length := by omega
        have hw1 : ws2[j]? = some ws2[j] := List.getElem?_eq_getElem (by omega)
        have hw2 : ws2[j + 1]? = some ws2[j + 1] := List.getElem?_eq_getElem (by omega)
        obtain ⟨c1, p1, e1, w1, s1⟩ := dps_pair_at dq2 hw1
        obtain ⟨c2, p2, e2, w2, s2⟩ := dps_pair_at dq2 hw2
        rw [w1] at hw1
        rw [w2] at hw2
        have S1 := Same.tup g8 s1
        have S2 := Same.tup g8 s2
        have L8 : SqL K H8 q2 ws2 := Same.seq g8 (SqL.of hq2)
        obtain ⟨a1, _, b1, d1, _, a2⟩ := U7_ok c1 (cu _ (List.mem_of_getElem? e1))
        obtain ⟨a3, _, b3, d3, _, a4⟩ := U7_ok c2 (cu _ (List.mem_of_getElem? e2))
        have ix1 : atI ws2 (0 + ((j : Nat) : Int)) = some (.ref p1) := at_of (j := j) (by omega) hw1
        have ix2 : atI ws2 (0 + ((j : Nat) : Int) + 1) = some (.ref p2) := at_of (j := j + 1) (by omega) hw2
        refine ⟨rfl, ?_⟩
        refine ⟨_, rfl, _, rfl, _, _, rfl, rfl, q2, ws2, _, _, rfl, rfl, L8, ix2, p2, _, _, _, rfl, rfl, S2, at_of (j := 0) rfl rfl, ?_⟩
        refine ⟨_, rfl, _, rfl, q2, ws2, _, _, rfl, rfl, L8, ix1, p1, _, _, _, rfl, rfl, S1, at_of (j := 1) rfl rfl, _, _, rfl, rfl, small_mul (by omega), ?_⟩
        refine ⟨_, rfl, _, rfl, q2, ws2, _, _, rfl, rfl, L8, ix1, p1, _, _, _, rfl, rfl, S1, at_of (j := 0) rfl rfl, ?_⟩
        refine ⟨_, rfl, _, rfl, _, _, rfl, rfl, q2, ws2, _, _, rfl, rfl, L8, ix2, p2, _, _, _, rfl, rfl, S2, at_of (j := 1) rfl rfl, _, _, rfl, rfl, small_mul (by omega), _, _, rfl, rfl, ?_⟩
        refine ⟨_, rfl, _, rfl, _, _, rfl, rfl, q2, ws2, _, _, rfl, rfl, L8, ix2, p2, _, _, _, rfl, rfl, S2, at_of (j := 1) rfl rfl, ?_⟩
        refine ⟨_, rfl, _, rfl, q2, ws2, _, _, rfl, rfl, L8, ix1, p1, _, _, _, rfl, rfl, S1, at_of (j := 1) rfl rfl, _, _, rfl, rfl, small_mul (by omega), ?_⟩
        have m1 : (c2.1 * c1.2).natAbs < 2 ^ 40 := wide_lt (a := 20) (b := 20) (by omega) (by omega)
        have m2 : (c1.1 * c2.2).natAbs < 2 ^ 40 := wide_lt (a := 20) (b := 20) (by omega) (by omega)
        have m3 : (c2.2 * c1.2).natAbs < 2 ^ 40 := wide_lt (a := 20) (b := 20) (by omega) (by omega)
        refine ⟨_, _, 41, rfl, Int.mul_pos b3 b1, by omega, by omega, by omega, by omega, fun r2 hr2 => ?_⟩
        have g9 := same_new hr2 (.tup [.int (fMinus c2.1 c2.2 c1.1 c1.2).1, .int (fMinus c2.1 c2.2 c1.1 c1.2).2])
        have la := dps_len da
        rw [List.length_map, List.length_take] at la
        refine ⟨acc, g9 _ _ eD, small1000 (by omega), same_upd (g8.trans g9) hD, acc ++ [.ref r2], upd_same, ?_⟩
        have at_ : (lensL (cutsOf ds st))[j]? = some (fMinus c2.1 c2.2 c1.1 c1.2) := by
          rw [lens_at hj2]
          unfold lenAt
          rw [e1, e2]
          rfl
        rw [take_more' at_, List.map_append]
        have tu := tup_upd0 (K := K) (o := .lst (acc ++ [.ref r2])) (g9 _ _ eD)
        exact dps_app (dps_tups tu _ _ (pairs_nl _) (dps_same g9 _ _ da)) (.cons (dp_tups tu _ _ rfl (pair_dp (SqT.of upd_same))) .nil)
      · rintro H8 ⟨g8, acc, eD, da⟩
        rw [List.take_of_length_le (by omega)] at da
        have g78 := g7.trans g8
        have ggA := gg.trans g78
        have hq8 := g8 _ _ hq2
        have dq8 := dps_same g8 _ _ dq2
        have dv8 := dp_same g78 _ _ dv2
        have shc : SeqAt.shaped (.tuple ((cutsOf ds st).map pairD)) = true := pairsT_shaped fun z m => U7_lay z (cu z m)
        have shl : SeqAt.shaped (.tuple ((lensL (cutsOf ds st)).map pairD)) = true := pairsT_shaped (lens_lay cu)
        have sh1 : SeqAt.shaped (pairD (1, 1)) = true := by decide +kernel
        refine name_set ?_
        dsimp only
        refine if_cut (fun b H' => Same H8 H' ∧ b = false) (fun b H9 hb => ?_) (fun Q' fin => ?_)
        · obtain ⟨g9, rfl⟩ := hb
          exact iteF ⟨_, _, _, rfl, (g.trans g78).trans g9⟩
        refine ⟨_, rfl, _, rfl, pl, v, hs, as, ds, st, rfl, at5.same ggA, dv8, tk, lays, fun q3 ws3 H9 g9 hq3 dq3 => ?_⟩
        refine ⟨_, rfl, q2, ws2, rfl, .inl ⟨SqL.of (g9 _ _ hq8), fun p3 hp3 => ?_⟩⟩
        have g10 := same_new hp3 (.tup ws2)
        refine ⟨_, _, .tup (Same.tup g10 hq3.sq) (dps_same g10 _ _ dq3), .tup (SqT.of upd_same) (dps_same (g9.trans g10) _ _ dq8), shc, shc, _, rfl, ?_⟩
        rw [eqv_self shc]
        refine ite2 (fun z => by cases z) (fun _ => ?_)
        have gB := g9.trans g10
        refine ⟨_, rfl, _, rfl, pl, v, hs, as, ds, st, rfl, at5.same (ggA.trans gB), dp_same gB _ _ dv8, tk, lays, fun q4 ws4 H11 g11 hq4 dq4 => ?_⟩
        have gC := gB.trans g11
        refine ⟨_, rfl, D, acc, rfl, .inl ⟨SqL.of (gC _ _ eD), fun p5 hp5 => ?_⟩⟩
        have g12 := same_new hp5 (.tup acc)
        refine ⟨_, _, .tup (Same.tup g12 hq4) (dps_same g12 _ _ dq4), .tup (SqT.of upd_same) (dps_same (gC.trans g12) _ _ da), shl, shl, _, rfl, ?_⟩
        rw [eqv_self shl]
        refine ite2 (fun z => by cases z) (fun _ => ?_)
        have gD := gC.trans g12
        refine ⟨_, rfl, D, acc, (0, 1) :: (1, 1) :: chancesOf ds st, rfl, SqL.of (gD _ _ eD), dps_same gD _ _ da, .head _, .tail _ (.head _), fun q6 H13 g13 hq6 => ?_⟩
        refine ⟨(by show 2 ≤ sizeLine; decide), fun p7 hp7 => ?_⟩
        have g14 := same_new hp7 (.tup [.int 1, .int 1])
        refine ⟨pairD (1, 1), pairD (1, 1), pair_dp (Same.tup g14 hq6), pair_dp (SqT.of upd_same), sh1, sh1, _, rfl, ?_⟩
        rw [eqv_self sh1]
        exact fin _ _ ⟨(gD.trans g13).trans g14, rfl⟩
    · rintro σ' H' ⟨x6, x7, x8, rfl, g⟩
      exact tail _ _ ⟨_, _, _, rfl, g6.trans g⟩
  obtain ⟨x6, x7, x8, rfl, g6⟩ := h
  -- five turns
  have gA := g5.trans g6
  have hD6 := hD4.same gA
  have off6 := off4.but (Same.but gA)
  refine seq_cut (fun σ' H' => True) (fun σ' H' _ => k H') (fun tail => ?_)
  refine ⟨5, rfl, by decide, by decide, ?_⟩
  refine for_it walk_range (fun i σ' H' => (∃ x5 x6 x7 x8 x10 x11 x13 x14 x15, σ' = lawSt a d cl x pl [x5, x6, x7, x8, none, x10, x11, none, x13, x14, x15]) ∧ Drw K H' d ∧ PlansOff K d hs as H' pl ds) ⟨⟨_, _, _, _, _, _, _, _, _, rfl⟩, hD6, off6⟩ (fun _ _ _ _ _ => trivial) ?_ (fun σ' H' _ => tail σ' H' trivial)
  rintro i y σ' H7 H7' hi ⟨⟨x5, x6, x7, x8, x10, x11, x13, x14, x15, rfl⟩, hD7, off7⟩ ⟨e7, rfl⟩
  subst e7
  have at7 := off7.at_
  -- the parts
  refine ⟨_, rfl, pl, hs, as, ds, rfl, at7, fun q ws ts H8 g8 nq hq dq so => ⟨q, rfl, ⟨_, SqL.of hq⟩, fun D hD => ?_⟩⟩
  have hD8 := hD7.same g8
  have nqd : q ≠ d := drw_ne hD7 nq
  have nDd : D ≠ d := drw_ne hD8 hD
  have off8 := off7.but (Same.but g8)
  have lws := dps_len dq
  have tkey : ∀ t ∈ ts, ∃ r, t = .tuple r := fun t m => by
    obtain ⟨ss, e, _⟩ := trow _ so t m
    exact ⟨_, e⟩
  have tnl : ∀ t ∈ ts, noL t = true := fun t m => by
    obtain ⟨ss, rfl, _⟩ := trow _ so t m
    exact strs_nl ss
  refine lc_list (K := K) (a := q) (xs := ws) (fun j H' => Drw K H' d ∧ But d H8 H' ∧ ∃ acc vals, H' D = some (.lst acc) ∧ vals.length = j ∧ DpAll K H' acc (rowsV (ts.take j) vals) ∧ ∀ v ∈ vals, ∃ n : Int, v = PyData.int n) ⟨hD8.same (same_new hD _), Same.but (same_new hD _), [], [], upd_same, rfl, .nil, fun v m => by cases m⟩ (fun j H' _ z => SqL.of (z.2.1 _ _ nqd hq)) ?_ ?_
  · rintro j v H9 hv ⟨hD9, b9, acc, vals, eD, lv_, da, iv⟩
    have lj : j < ts.length := by
      rw [← lws]
      exact (List.getElem?_eq_some_iff.mp hv).1
    have ht : ts[j]? = some ts[j] := List.getElem?_eq_getElem lj
    generalize ts[j] = t at ht
    obtain ⟨v', hv', dv⟩ := dps_get dq ht
    rw [hv] at hv'
    obtain rfl := Option.some.inj hv'
    have mt := List.mem_of_getElem? ht
    obtain ⟨st, et, tk, lays⟩ := test_str fm nm t ((so.2.1 t).mp mt)
    have off9 := off8.but b9
    have tu9 : ∀ b xs, SqT K H8 b xs → SqT K H9 b xs := fun b xs h => by
      obtain ⟨_, _, _, hd8, _⟩ := hD8
      exact But.tup b9 hd8 h
    have dv9 := dp_tups tu9 _ _ (tnl t mt) dv
    have dv9' := dv9
    rw [et] at dv9'
    refine ⟨rfl, _, rfl, _, rfl, _, rfl, _, rfl, pl, v, hs, as, ds, st, rfl, off9.at_, dv9', tk, lays, fun q2 ws2 H10 g10 nq2 hq2 dq2 => ?_⟩
    have l2 := dps_len dq2
    rw [List.length_map] at l2
    have l7 : (cutsOf ds st).length ≤ 7 := List.length_filter_le _ _
    have lc2 : 2 ≤ (cutsOf ds st).length := by
      obtain ⟨mid, e⟩ := cuts_ends (zs := (0, 1) :: (1, 1) :: chancesOf ds st) (.head _) (.tail _ (.head _))
      show 2 ≤ (cutsD ((0, 1) :: (1, 1) :: chancesOf ds st)).length
      rw [e]
      simp
    have hD10 := hD9.same g10
    refine ⟨q2, ws2, rfl, .inl (SqL.of hq2), _, _, rfl, rfl, d, _, rfl, hD10, by omega, fun r1 H11 r0 rm hD11 b11 => ⟨(by show 2 ≤ sizeLine; decide), fun p hp1 => ?_⟩⟩
    have g12 := same_new hp1 (.tup [v, .int r1])
    have b912 : But d H9 (upd H11 p (.tup [v, .int r1])) := ((Same.but g10).trans b11).same g12
    have eD12 : upd H11 p (.tup [v, .int r1]) D = some (.lst acc) := b912 _ _ nDd eD
    have hD12 := hD11.same g12
    have tu12 : ∀ b xs, SqT K H9 b xs → SqT K (upd H11 p (.tup [v, .int r1])) b xs := fun b xs h => by
      obtain ⟨_, _, _, hd9, _⟩ := hD9
      exact But.tup b912 hd9 h
    have la := dps_len da
    have ln9 := rows_nl (ts := ts.take j) (vals := vals) (fun t m => tnl t (List.mem_of_mem_take m)) (fun v m => .inl (iv v m))
    have da12 := dps_tups tu12 _ _ ln9 da
    have dv12 := dp_tups tu12 _ _ (tnl t mt) dv9
    have st12 : SqT K (upd H11 p (.tup [v, .int r1])) p [v, .int r1] := SqT.of upd_same
    generalize upd H11 p (.tup [v, .int r1]) = H12 at *
    have lt57 : ts.length ≤ 57 := Nat.le_trans so.len (tests_len (hs := hs) (as := as) few7)
    refine ⟨acc, eD12, ?_, hD12.but eD12 (Ne.symm nDd) (fun b o n e => by rw [upd_ne n]; exact e), ?_, acc ++ [.ref p], vals ++ [.int r1], upd_same, by rw [List.length_append, lv_]; rfl, ?_, fun u m => ?_⟩
    · rw [la]
      unfold rowsV
      rw [List.length_zipWith]
      exact small1000 (by omega)
    · exact fun b o n e => by
        rw [upd_ne (ne_of_none e hD)]
        exact b912 _ _ n (b9 _ _ n e)
    · rw [rows_more ht lv_]
      have tu := tup_upd0 (K := K) (o := .lst (acc ++ [.ref p])) eD12
      have nlt : noL (.tuple [t, .int r1]) = true := noLs_all fun e m => by
        rcases List.mem_cons.mp m with rfl | m
        · exact tnl _ mt
        · rw [List.mem_singleton.mp m]
          rfl
      exact dps_app (dps_tups tu _ _ ln9 da12) (.cons (dp_tups tu _ _ nlt (.tup st12 (.cons dv12 (.cons (.int _) .nil)))) .nil)
    · rcases List.mem_append.mp m with m | m
      · exact iv u m
      · rw [List.mem_singleton.mp m]
        exact ⟨r1, rfl⟩
  rintro H9 ⟨hD9, b9, acc, vals, eD, lvl, da, iv⟩
  rw [lws] at lvl
  rw [lws, List.take_length] at da
  have tkok : ∀ t ∈ ts, KeyOk t := fun t m => by
    obtain ⟨ss, rfl, _⟩ := trow _ so t m
    exact rowOk_deep (str_row ss)
  obtain ⟨tps, E, rfl, elen, esq, ekeys, edp, eval_⟩ := ents_of da (by omega) tkey (fun v m => .inl (iv v m))
  obtain ⟨pt, hpt⟩ := pick_int ekeys fun e m => by
    obtain ⟨u, mu, eu⟩ := eval_ e m
    obtain ⟨n, rfl⟩ := iv u mu
    exact ⟨n, eu⟩
  have enl : ∀ e ∈ E, noL e.1 = true ∧ KeyOk e.1 := fun e m => by
    have : e.1 ∈ ts := by
      rw [← ekeys]
      exact List.mem_map.mpr ⟨e, m, rfl⟩
    exact ⟨tnl _ this, tkok _ this⟩
  refine nil_at ?_
  dsimp only
  refine dictN_at (P := P) (w := w) (K := K) (SqL.of eD) elen esq (fun e m => ⟨edp e m, (enl e m).2⟩) (by rw [ekeys]; exact so.1) fun pp H10 hpp g10 ep => ?_
  have npd : pp ≠ d := drw_ne hD9 hpp
  have ee : EntOk K H10 E := fun e m => ⟨dp_same g10 _ _ (edp e m), (enl e m).2⟩
  have hD10 := hD9.same g10
  have off10 := (off8.but b9).but (Same.but g10)
  have at10 := off10.at_
  -- the answers
  refine ⟨_, rfl, pl, hs, as, ds, rfl, at10, fun q2 ws2 us H11 g11 nq2 hq2 dq2 so2 => ⟨q2, rfl, ⟨_, SqL.of hq2⟩, fun D2 hD2n => ?_⟩⟩
  have hD11 := hD10.same g11
  have nqd2 : q2 ≠ d := drw_ne hD10 nq2
  have nDd2 : D2 ≠ d := drw_ne hD11 hD2n
  have lws2 := dps_len dq2
  have aleaf := fun u (m : u ∈ us) => ask_leaf fm u ((so2.2.1 u).mp m)
  have ukey : ∀ t ∈ us, ∃ r, t = .tuple r := fun t m => by
    obtain ⟨s, n, x, e, _⟩ := ask_parts (aleaf t m).1 (aleaf t m).2
    exact ⟨_, e⟩
  have unl : ∀ t ∈ us, noL t = true := fun t m => fm_noL (.leaf (n := 0) (aleaf t m).1)
  have ukok : ∀ t ∈ us, KeyOk t := fun t m => (leaf_key (aleaf t m).1).1
  refine lc_list (K := K) (a := q2) (xs := ws2) (fun j H' => Drw K H' d ∧ But d H11 H' ∧ ∃ acc vals, H' D2 = some (.lst acc) ∧ vals.length = j ∧ DpAll K H' acc (rowsV (us.take j) vals) ∧ ∀ v ∈ vals, ∃ n : Bool, v = PyData.bool n) ⟨hD11.same (same_new hD2n _), Same.but (same_new hD2n _), [], [], upd_same, rfl, .nil, fun v m => by cases m⟩ (fun j H' _ z => SqL.of (z.2.1 _ _ nqd2 hq2)) ?_ ?_
  · rintro j v H12 hv ⟨hD12, b12, acc, vals, eD, lv_, da, iv⟩
    have lj : j < us.length := by
      rw [← lws2]
      exact (List.getElem?_eq_some_iff.mp hv).1
    have ht : us[j]? = some us[j] := List.getElem?_eq_getElem lj
    generalize us[j] = t at ht
    obtain ⟨v', hv', dv⟩ := dps_get dq2 ht
    rw [hv] at hv'
    obtain rfl := Option.some.inj hv'
    have mt := List.mem_of_getElem? ht
    have tu9 : ∀ b xs, SqT K H11 b xs → SqT K H12 b xs := fun b xs h => by
      obtain ⟨_, _, _, hd8, _⟩ := hD11
      exact But.tup b12 hd8 h
    have dv9 := dp_tups tu9 _ _ (unl t mt) dv
    refine ⟨rfl, _, rfl, _, rfl, d, 2, rfl, hD12, by decide, fun r1 H13 r0 rm hD13 b13 => ⟨rfl, (by show 2 ≤ sizeLine; decide), fun p hp1 => ?_⟩⟩
    generalize hbb : decide (V.int r1 = V.int 0) = bb
    have g14 := same_new hp1 (.tup [v, .bl bb])
    have b14 : But d H12 (upd H13 p (.tup [v, .bl bb])) := b13.same g14
    have eD14 : upd H13 p (.tup [v, .bl bb]) D2 = some (.lst acc) := b14 _ _ nDd2 eD
    have hD14 := hD13.same g14
    have tu14 : ∀ b xs, SqT K H12 b xs → SqT K (upd H13 p (.tup [v, .bl bb])) b xs := fun b xs h => by
      obtain ⟨_, _, _, hd9, _⟩ := hD12
      exact But.tup b14 hd9 h
    have la := dps_len da
    have ln9 := rows_nl (ts := us.take j) (vals := vals) (fun t m => unl t (List.mem_of_mem_take m)) (fun v m => .inr (iv v m))
    have da14 := dps_tups tu14 _ _ ln9 da
    have dv14 := dp_tups tu14 _ _ (unl t mt) dv9
    have st14 : SqT K (upd H13 p (.tup [v, .bl bb])) p [v, .bl bb] := SqT.of upd_same
    generalize upd H13 p (.tup [v, .bl bb]) = H14 at *
    have lt57 : us.length ≤ 57 := Nat.le_trans so2.len (Nat.le_trans (List.length_filter_le _ _) few7)
    refine ⟨acc, eD14, ?_, hD14.but eD14 (Ne.symm nDd2) (fun b o n e => by rw [upd_ne n]; exact e), ?_, acc ++ [.ref p], vals ++ [.bool bb], upd_same, by rw [List.length_append, lv_]; rfl, ?_, fun u m => ?_⟩
    · rw [la]
      unfold rowsV
      rw [List.length_zipWith]
      exact small1000 (by omega)
    · exact fun b o n e => by
        rw [upd_ne (ne_of_none e hD2n)]
        exact b14 _ _ n (b12 _ _ n e)
    · rw [rows_more ht lv_]
      have tu := tup_upd0 (K := K) (o := .lst (acc ++ [.ref p])) eD14
      have nlt : noL (.tuple [t, .bool bb]) = true := noLs_all fun e m => by
        rcases List.mem_cons.mp m with rfl | m
        · exact unl _ mt
        · rw [List.mem_singleton.mp m]
          rfl
      exact dps_app (dps_tups tu _ _ ln9 da14) (.cons (dp_tups tu _ _ nlt (.tup st14 (.cons dv14 (.cons (.bl _) .nil)))) .nil)
    · rcases List.mem_append.mp m with m | m
      · exact iv u m
      · rw [List.mem_singleton.mp m]
        exact ⟨bb, rfl⟩
  rintro H12 ⟨hD12, b12, acc2, vals2, eD2, lvl2, da2, iv2⟩
  rw [lws2] at lvl2
  rw [lws2, List.take_length] at da2
  obtain ⟨tps2, E2, rfl, elen2, esq2, ekeys2, edp2, eval2⟩ := ents_of da2 (by omega) ukey (fun v m => .inr (iv2 v m))
  obtain ⟨av, hav⟩ := pick_bool ekeys2 fun e m => by
    obtain ⟨u, mu, eu⟩ := eval2 e m
    obtain ⟨n, rfl⟩ := iv2 u mu
    exact ⟨n, eu⟩
  have enl2 : ∀ e ∈ E2, KeyOk e.1 := fun e m => ukok _ (by
    rw [← ekeys2]
    exact List.mem_map.mpr ⟨e, m, rfl⟩)
  refine nil_at ?_
  dsimp only
  refine dictN_at (P := P) (w := w) (K := K) (SqL.of eD2) elen2 esq2 (fun e m => ⟨edp2 e m, enl2 e m⟩) (by rw [ekeys2]; exact so2.1) fun an H13 han g13 ean => ?_
  have ee2 : EntOk K H13 E2 := fun e m => ⟨dp_same g13 _ _ (edp2 e m), enl2 e m⟩
  have hD13 := hD12.same g13
  have b1013 : But d H10 H13 := ((Same.but g11).trans b12).same g13
  have off13 := off10.but b1013
  have tu13 : ∀ b xs, SqT K H10 b xs → SqT K H13 b xs := fun b xs h => by
    obtain ⟨_, _, _, hd9, _⟩ := hD10
    exact But.tup b1013 hd9 h
  have ep13 := b1013 _ _ npd ep
  have ee13 : EntOk K H13 E := fun e m => ⟨dp_tups tu13 _ _ (enl e m).1 (ee e m).1, (enl e m).2⟩
  have at13 := off13.at_
  have part : PartAt P w K H13 pp pt (testsOf ds) := fun t m => by
    obtain ⟨q, mq⟩ := hpt t ((so.2.1 t).mpr m)
    exact ⟨E, q, ep13, ee13, mq⟩
  have answ : TellsAt P w K H13 an av ((ds.flatMap (lv 4)).filter isAsk) := fun t m => by
    obtain ⟨q, mq⟩ := hav t ((so2.2.1 t).mpr m)
    exact ⟨E2, q, ean, ee2, mq⟩
  clear da da2 iv iv2 eval_ eval2 esq esq2 edp edp2
  -- the plans, one by one
  obtain ⟨pvs, epl, npl, dpl0, fm2, l28, l3, _⟩ := id off13
  have dpl := dps_same off_in _ _ dpl0
  have lpv := dps_len dpl
  refine ⟨_, rfl, pl, rfl, ⟨_, SqL.of epl⟩, ?_⟩
  refine for_it (walk_list (xs := pvs)) (fun i2 σ' H' => (∃ x13 x14 x15, σ' = lawSt a d cl x pl [some (.int (0 + (i : Nat))), x6, x7, x8, none, some (.ref pp), some (.ref an), none, x13, x14, x15]) ∧ Same H13 H') ⟨⟨_, _, _, rfl⟩, Same.refl _⟩ (fun i2 σ' H' _ z => SqL.of (z.2 _ _ epl)) ?_ (fun σ' H' z => ?_)
  rotate_left
  · obtain ⟨⟨x13, x14, x15, rfl⟩, g⟩ := z
    exact ⟨⟨_, _, _, _, _, _, _, _, _, rfl⟩, hD13.same g, off13.but (Same.but g)⟩
  rintro i2 v σ' H14o H14 hi2 ⟨⟨x13, x14, x15, rfl⟩, g14⟩ ⟨e14, hv⟩
  subst e14
  have li2 : i2 < ds.length := by omega
  have hpd : ds[i2]? = some ds[i2] := List.getElem?_eq_getElem li2
  generalize ds[i2] = pd at hpd
  obtain ⟨v', hv', dv⟩ := dps_get dpl hpd
  rw [hv] at hv'
  obtain rfl := Option.some.inj hv'
  have mpd := List.mem_of_getElem? hpd
  have fd := fm pd mpd
  refine fun t ht0 => ?_
  have g15 := same_new ht0 (.dK [])
  have et15 : upd H14 t (.dK []) t = some (.dK []) := upd_same
  have gg15 := g14.trans g15
  have nt13 : H13 t = none := same_none g14 ht0
  generalize upd H14 t (.dK []) = H15 at *
  have lvle := lv_le mpd
  have lvf : ∀ e ∈ lv 4 pd, Fm hs as 4 e ∧ lvB e = true ∧ e ∈ ds.flatMap (forms 4) := fun e m => by
    obtain ⟨m1, m2⟩ := List.mem_filter.mp m
    exact ⟨forms_fm 4 fd e m1, m2, List.mem_flatMap.mpr ⟨pd, mpd, m1⟩⟩
  have nofs : noLs (lv 4 pd) = true := noLs_all fun e m => fm_noL (lvf e m).1
  have lvp : (lv 4 pd).filter lvB = lv 4 pd := by
    unfold lv
    rw [List.filter_filter]
    simp
  dsimp only
  refine seq_cut (fun σ' H' => (∃ x15, σ' = lawSt a d cl x pl [some (.int (0 + (i : Nat))), x6, x7, x8, none, some (.ref pp), some (.ref an), none, some v, some (.ref t), x15]) ∧ Same H13 H' ∧ ToldAt P w K H' t (valD ds av pt) (lv 4 pd)) ?_ (fun tail2 => ?_)
  rotate_left
  · refine ⟨_, rfl, v, 4, hs, as, pd, rfl, fd, by omega, by omega, dp_same gg15 _ _ dv, fun q3 ws3 H16 g16 nq3 hq3 dq3 => ⟨q3, rfl, ⟨_, SqL.of hq3⟩, ?_⟩⟩
    have gg16 := gg15.trans g16
    have et16 := g16 _ _ et15
    have ntq : t ≠ q3 := fun z => by
      rw [z, nq3] at et15
      cases et15
    have lws3 := dps_len dq3
    generalize lv 4 pd = es at *
    refine for_it (walk_list (xs := ws3)) (fun j σ' H' => (∃ x15, σ' = lawSt a d cl x pl [some (.int (0 + (i : Nat))), x6, x7, x8, none, some (.ref pp), some (.ref an), none, some v, some (.ref t), x15]) ∧ Same H13 H' ∧ H' q3 = some (.lst ws3) ∧ DpAll K H' ws3 es ∧ ToldAt P w K H' t (valD ds av pt) (es.take j)) ⟨⟨_, rfl⟩, gg16, hq3, dq3, [], .inr ⟨rfl, et16⟩, (fun e m => by cases m), (fun e m => by cases m), Nat.le_refl _, fun e m => by cases m⟩ (fun j σ' H' _ z => SqL.of z.2.2.1) ?_ (fun σ' H' z => ?_)
    rotate_left
    · obtain ⟨⟨x15, rfl⟩, g, _, _, tl⟩ := z
      rw [lws3, List.take_length] at tl
      exact tail2 _ _ ⟨⟨_, rfl⟩, g, tl⟩
    rintro j y σ' H17o H' hj ⟨⟨x15, rfl⟩, g, hq', dq', tl⟩ ⟨e17, hy⟩
    subst e17
    have lj : j < es.length := by omega
    have hf : es[j]? = some es[j] := List.getElem?_eq_getElem lj
    generalize es[j] = f at hf
    obtain ⟨y', hy', dx⟩ := dps_get dq' hf
    rw [hy] at hy'
    obtain rfl := Option.some.inj hy'
    obtain ⟨ff, lb, mds⟩ := lvf f (List.mem_of_getElem? hf)
    have nlf := fm_noL ff
    have ltd : (es.take j).length < 1000 := by
      rw [List.length_take]
      omega
    have et := take_more' hf
    have nxt : ∀ (H3 : Hp) E', Same H' H3 → (∀ b xs, SqT K H3 b xs → SqT K (upd H3 t (DctNO P w t E')) b xs) → ToldAt P w K (upd H3 t (DctNO P w t E')) t (valD ds av pt) (es.take j ++ [f]) → ((∃ x15, lawSt a d cl x pl [some (.int (0 + (i : Nat))), x6, x7, x8, none, some (.ref pp), some (.ref an), none, some v, some (.ref t), some y] = lawSt a d cl x pl [some (.int (0 + (i : Nat))), x6, x7, x8, none, some (.ref pp), some (.ref an), none, some v, some (.ref t), x15]) ∧ Same H13 (upd H3 t (DctNO P w t E')) ∧ upd H3 t (DctNO P w t E') q3 = some (.lst ws3) ∧ DpAll K (upd H3 t (DctNO P w t E')) ws3 es ∧ ToldAt P w K (upd H3 t (DctNO P w t E')) t (valD ds av pt) (es.take (j + 1))) := fun H3 E' g3 tu z => by
      refine ⟨⟨_, rfl⟩, same_upd (g.trans g3) nt13, ?_, dps_tups tu _ _ nofs (dps_same g3 _ _ dq'), ?_⟩
      · rw [upd_ne (Ne.symm ntq)]
        exact g3 _ _ hq'
      · rw [et]
        exact z
    obtain ⟨s0, r, rfl, _, _⟩ := fm_head ff
    have lf0 := fm_lv ff lb
    have kf := (leaf_key lf0).1
    cases id dx with
    | @tup p xs _ hxs ha =>
    obtain ⟨z0, hz0, d0⟩ := dps_get (i := 0) ha rfl
    obtain rfl := dp_str d0
    refine ⟨_, rfl, p, xs, 0, _, rfl, rfl, hxs, at_of (j := 0) rfl hz0, (by show 3 ≤ sizeLine; decide), fun qd hqd => ⟨qd, _, rfl, .inr (SqT.of upd_same), rfl, rfl, _, rfl, ?_⟩⟩
    have g20 := same_new hqd (.tup [.str "row", .str "block", .str "hash"])
    have hxs2 := Same.tup g20 hxs
    have dx2 := dp_same g20 _ _ dx
    have tl2 := tl.same g20
    generalize upd H' qd (.tup [.str "row", .str "block", .str "hash"]) = H20 at *
    have gg20 := g.trans g20
    rw [inV3 (K := K)]
    refine ite2 (fun c => ?_) (fun c => ?_)
    · have it : isTest (.tuple (.str s0 :: r)) = true := c
      have na : isAsk (.tuple (.str s0 :: r)) = false := by
        obtain ⟨u, ru, eu, hu⟩ := test_key ff nm it
        have hd9 := (init_strs ff nm).2.2.2 u ru eu
        have e0 : s0 = u := hd9
        subst e0
        exact ask_no (by rcases hu with h | h | h; exact .inl h; exact .inr (.inl h); exact .inr (.inr (.inl h)))
      have tk := test_key ff nm it
      obtain ⟨us2, ed, _⟩ := ch_of ff it
      obtain ⟨ei, lays, _, _⟩ := init_strs ff nm
      have ei' : PyData.tuple (PyData.str s0 :: r).dropLast = .tuple ((strI (.tuple (.str s0 :: r))).map .str) := ei
      have mt : PyData.tuple ((strI (.tuple (.str s0 :: r))).map .str) ∈ testsOf ds := List.mem_map.mpr ⟨_, List.mem_filter.mpr ⟨mds, it⟩, ei⟩
      have ha2 := ha
      rw [show PyData.str s0 :: r = us2.map PyData.str ++ [pairD (chOf (.tuple (.str s0 :: r)))] from PyData.tuple.inj ed] at ha2
      obtain ⟨u, du0, at_⟩ := last_at ha2
      have du := dp_same g20 _ _ du0
      have mc := ch_mem fm nm mds it
      have kt : KeyOk (.tuple ((strI (.tuple (.str s0 :: r))).map .str)) := rowOk_deep (str_row _)
      refine ⟨_, rfl, _, rfl, no_part ⟨_, rfl, _, rfl, init_at dx2 (by simp) fun b H21 g21 db => ?_⟩⟩
      rw [ei'] at db
      obtain ⟨E1, q1, a1, a2, a3⟩ := (part.same (gg20.trans g21)) _ mt
      refine ⟨pp, b, _, E1, q1, _, rfl, rfl, db, kt, a1, a2, a3, _, rfl, _, rfl, no_part ⟨_, rfl, _, rfl, init_at (dp_same g21 _ _ dx2) (by simp) fun b2 H22 g22 db2 => ?_⟩⟩
      rw [ei'] at db2
      refine ⟨pl, .ref b2, hs, as, ds, _, rfl, at13.same ((gg20.trans g21).trans g22), db2, tk, lays, fun q4 ws4 H23 g23 nq4 hq4 dq4 => ?_⟩
      have gE := (g21.trans g22).trans g23
      refine ⟨.inl ⟨rfl, _, SqL.of hq4⟩, _, rfl, 1, rfl, p, xs, -1, u, rfl, rfl, Same.tup gE hxs2, at_, q4, u, ws4, _, _, rfl, rfl, SqL.of hq4, dq4, dp_same gE _ _ du, pairs_key _, rfl, pair_depth _, List.mem_map.mpr ⟨_, mc, rfl⟩, ?_⟩
      refine ⟨_, _, rfl, rfl, _, rfl, _, rfl, ?_⟩
      have ev : decide (pt (.tuple ((strI (.tuple (.str s0 :: r))).map .str)) < ((posD ((cutsOf ds (strI (.tuple (.str s0 :: r)))).map pairD) (pairD (chOf (.tuple (.str s0 :: r)))) : Nat) : Int)) = valD ds av pt (.tuple (.str s0 :: r)) := by
        unfold valD
        rw [if_neg (by rw [na]; exact Bool.false_ne_true), ei]
      dsimp only
      rw [ev]
      exact (tl2.same gE).set (dp_same gE _ _ dx2) kf nlf ltd fun E' tu z => nxt H23 E' (g20.trans gE) tu z
    · have nt : isTest (.tuple (.str s0 :: r)) = false := Bool.eq_false_iff.mpr c
      have ia : isAsk (.tuple (.str s0 :: r)) = true := by
        unfold lvB at lb
        rw [nt, Bool.false_or] at lb
        exact lb
      have mlv : PyData.tuple (.str s0 :: r) ∈ (ds.flatMap (lv 4)).filter isAsk := List.mem_filter.mpr ⟨by
        rw [← lv_flat]
        exact List.mem_filter.mpr ⟨mds, lb⟩, ia⟩
      obtain ⟨E1, q1, a1, a2, a3⟩ := (answ.same gg20) _ mlv
      have ev : av (.tuple (.str s0 :: r)) = valD ds av pt (.tuple (.str s0 :: r)) := (if_pos ia).symm
      refine ⟨_, rfl, _, rfl, an, p, _, E1, q1, _, rfl, rfl, dx2, kf, a1, a2, a3, _, rfl, _, rfl, ?_⟩
      rw [ev]
      exact tl2.set dx2 kf nlf ltd fun E' tu z => nxt H20 E' g20 tu z
  rintro σ' H17 ⟨⟨x15, rfl⟩, g17, told⟩
  have tells := told.tells
  rw [lvp] at tells
  have dv17 := dp_same g17 _ _ dv
  refine if_cut (fun b H' => Same H17 H' ∧ b = false) (fun b H18 hb => ?_) (fun Q' fin => ?_)
  · obtain ⟨g18, rfl⟩ := hb
    exact iteF ⟨⟨_, _, _, rfl⟩, g17.trans g18⟩
  refine ⟨_, rfl, _, rfl, _, rfl, _, rfl, pl, an, pp, v, hs, as, ds, pd, av, pt, rfl, at13.same g17, mpd, dv17, answ.same g17, part.same g17, fun H18 g18 => ?_⟩
  refine ⟨_, rfl, _, rfl, v, t, 4, hs, as, pd, valD ds av pt, rfl, fd, by omega, dp_same g18 _ _ dv17, tells.same g18, fun H19 g19 => ?_⟩
  refine ⟨rfl, _, rfl, ?_⟩
  have en : (!decide (V.bl (truthD 4 (valD ds av pt) pd) = V.bl (truthD 4 (valD ds av pt) pd))) = false := by
    rw [decide_eq_true rfl]
    rfl
  first
    | (rw [en]; exact fin _ _ ⟨g18.trans g19, rfl⟩)
    | exact fin _ _ ⟨g18.trans g19, by simp⟩

end
end My
namespace My
open PySem L2 PySem.Spec PyProof.Rows
theorem all_mk {l : PySem.W.OpenLaw} {w : World} {K : PySem.W.Frag} {h : Heap} {mg : Str → Option Value} {fa f0 f1 f2 f3 f4 f5 f6 f7 f8 f9 f10 f11 f12 f13 f14 f15 f16 f17 f18 f19 f20 f21 f22 f23 f24 f25 f26 f27 f28 f29 f30 f31 f32 f33 f34 f35 f36 f37 : Addr} (X : K.In h) (G : h.Ns mainGlobals mg) (hfa : mg "law" = some (.ref fa))
    {od0 an0 : Option Addr} {sl0 : Array (Option Value)} {oc0 kV0 dc0 pm0 cd0 ct0 : Value}
    {od1 an1 : Option Addr} {sl1 : Array (Option Value)} {oc1 kV1 dc1 pm1 cd1 ct1 : Value}
    {od2 an2 : Option Addr} {sl2 : Array (Option Value)} {oc2 kV2 dc2 pm2 cd2 ct2 : Value}
    {od3 an3 : Option Addr} {sl3 : Array (Option Value)} {oc3 kV3 dc3 pm3 cd3 ct3 : Value}
    {od4 an4 : Option Addr} {sl4 : Array (Option Value)} {oc4 kV4 dc4 pm4 cd4 ct4 : Value}
    {od5 an5 : Option Addr} {sl5 : Array (Option Value)} {oc5 kV5 dc5 pm5 cd5 ct5 : Value}
    {od6 an6 : Option Addr} {sl6 : Array (Option Value)} {oc6 kV6 dc6 pm6 cd6 ct6 : Value}
    {od7 an7 : Option Addr} {sl7 : Array (Option Value)} {oc7 kV7 dc7 pm7 cd7 ct7 : Value}
    {od8 an8 : Option Addr} {sl8 : Array (Option Value)} {oc8 kV8 dc8 pm8 cd8 ct8 : Value}
    {od9 an9 : Option Addr} {sl9 : Array (Option Value)} {oc9 kV9 dc9 pm9 cd9 ct9 : Value}
    {od10 an10 : Option Addr} {sl10 : Array (Option Value)} {oc10 kV10 dc10 pm10 cd10 ct10 : Value}
    {od11 an11 : Option Addr} {sl11 : Array (Option Value)} {oc11 kV11 dc11 pm11 cd11 ct11 : Value}
    {od12 an12 : Option Addr} {sl12 : Array (Option Value)} {oc12 kV12 dc12 pm12 cd12 ct12 : Value}
    {od13 an13 : Option Addr} {sl13 : Array (Option Value)} {oc13 kV13 dc13 pm13 cd13 ct13 : Value}
    {od14 an14 : Option Addr} {sl14 : Array (Option Value)} {oc14 kV14 dc14 pm14 cd14 ct14 : Value}
    {od15 an15 : Option Addr} {sl15 : Array (Option Value)} {oc15 kV15 dc15 pm15 cd15 ct15 : Value}
    {od16 an16 : Option Addr} {sl16 : Array (Option Value)} {oc16 kV16 dc16 pm16 cd16 ct16 : Value}
    {od17 an17 : Option Addr} {sl17 : Array (Option Value)} {oc17 kV17 dc17 pm17 cd17 ct17 : Value}
    {od18 an18 : Option Addr} {sl18 : Array (Option Value)} {oc18 kV18 dc18 pm18 cd18 ct18 : Value}
    {od19 an19 : Option Addr} {sl19 : Array (Option Value)} {oc19 kV19 dc19 pm19 cd19 ct19 : Value}
    {od20 an20 : Option Addr} {sl20 : Array (Option Value)} {oc20 kV20 dc20 pm20 cd20 ct20 : Value}
    {od21 an21 : Option Addr} {sl21 : Array (Option Value)} {oc21 kV21 dc21 pm21 cd21 ct21 : Value}
    {od22 an22 : Option Addr} {sl22 : Array (Option Value)} {oc22 kV22 dc22 pm22 cd22 ct22 : Value}
    {od23 an23 : Option Addr} {sl23 : Array (Option Value)} {oc23 kV23 dc23 pm23 cd23 ct23 : Value}
    {od24 an24 : Option Addr} {sl24 : Array (Option Value)} {oc24 kV24 dc24 pm24 cd24 ct24 : Value}
    {od25 an25 : Option Addr} {sl25 : Array (Option Value)} {oc25 kV25 dc25 pm25 cd25 ct25 : Value}
    {od26 an26 : Option Addr} {sl26 : Array (Option Value)} {oc26 kV26 dc26 pm26 cd26 ct26 : Value}
    {od27 an27 : Option Addr} {sl27 : Array (Option Value)} {oc27 kV27 dc27 pm27 cd27 ct27 : Value}
    {od28 an28 : Option Addr} {sl28 : Array (Option Value)} {oc28 kV28 dc28 pm28 cd28 ct28 : Value}
    {od29 an29 : Option Addr} {sl29 : Array (Option Value)} {oc29 kV29 dc29 pm29 cd29 ct29 : Value}
    {od30 an30 : Option Addr} {sl30 : Array (Option Value)} {oc30 kV30 dc30 pm30 cd30 ct30 : Value}
    {od31 an31 : Option Addr} {sl31 : Array (Option Value)} {oc31 kV31 dc31 pm31 cd31 ct31 : Value}
    {od32 an32 : Option Addr} {sl32 : Array (Option Value)} {oc32 kV32 dc32 pm32 cd32 ct32 : Value}
    {od33 an33 : Option Addr} {sl33 : Array (Option Value)} {oc33 kV33 dc33 pm33 cd33 ct33 : Value}
    {od34 an34 : Option Addr} {sl34 : Array (Option Value)} {oc34 kV34 dc34 pm34 cd34 ct34 : Value}
    {od35 an35 : Option Addr} {sl35 : Array (Option Value)} {oc35 kV35 dc35 pm35 cd35 ct35 : Value}
    {od36 an36 : Option Addr} {sl36 : Array (Option Value)} {oc36 kV36 dc36 pm36 cd36 ct36 : Value}
    {od37 an37 : Option Addr} {sl37 : Array (Option Value)} {oc37 kV37 dc37 pm37 cd37 ct37 : Value}
    {c_Columns : Addr}
    {t_LETTERS : Tok}
    {t_LONGEST_NAME : Tok}
    {t_MOST_HASHED : Tok}
    {t_MOST_ASKED : Tok}
    {t_MOST_SUMMED : Tok}
    {dd_RESERVED : Option Addr} {n_RESERVED : Nat} {sl_RESERVED : Array (Option Value)} {t_RESERVED_0 t_RESERVED_1 t_RESERVED_2 t_RESERVED_3 t_RESERVED_4 t_RESERVED_5 t_RESERVED_6 t_RESERVED_7 t_RESERVED_8 : Tok} {g_RESERVED : Addr}
    {dd_ZERO : Option Addr} {n_ZERO : Nat} {sl_ZERO : Array (Option Value)} {t_ZERO_0 t_ZERO_1 : Tok} {g_ZERO : Addr}
    {dd_ONE : Option Addr} {n_ONE : Nat} {sl_ONE : Array (Option Value)} {t_ONE_0 t_ONE_1 : Tok} {g_ONE : Addr}
    {dd_TESTS : Option Addr} {n_TESTS : Nat} {sl_TESTS : Array (Option Value)} {t_TESTS_0 t_TESTS_1 t_TESTS_2 : Tok} {g_TESTS : Addr}
    {dd_ASKS : Option Addr} {n_ASKS : Nat} {sl_ASKS : Array (Option Value)} {t_ASKS_0 t_ASKS_1 t_ASKS_2 : Tok} {g_ASKS : Addr}
    (ac_Columns : PySem.W.nsIn K mainGlobals "Columns" = some (some (.ref c_Columns)))
    (a0 : PySem.W.nsIn K mainGlobals "is_row" = some (some (.ref f0)))
    (l0 : K.lookup f0 = some ⟨oc0, od0, .func (PySem.W.fnOf "is_row" "is_row" (defArgs s_is_row) (defBody s_is_row) (defScope s_is_row) .none kV0 dc0 pm0 an0 cd0 ct0), sl0⟩)
    (c0 : PySem.W.codeIn K cd0 "is_row" = true) (k0 : PySem.W.keepIn K (.ref f0) = true)
    (a1 : PySem.W.nsIn K mainGlobals "is_name" = some (some (.ref f1)))
    (l1 : K.lookup f1 = some ⟨oc1, od1, .func (PySem.W.fnOf "is_name" "is_name" (defArgs s_is_name) (defBody s_is_name) (defScope s_is_name) .none kV1 dc1 pm1 an1 cd1 ct1), sl1⟩)
    (c1 : PySem.W.codeIn K cd1 "is_name" = true) (k1 : PySem.W.keepIn K (.ref f1) = true)
    (a2 : PySem.W.nsIn K mainGlobals "lowest" = some (some (.ref f2)))
    (l2 : K.lookup f2 = some ⟨oc2, od2, .func (PySem.W.fnOf "lowest" "lowest" (defArgs s_lowest) (defBody s_lowest) (defScope s_lowest) .none kV2 dc2 pm2 an2 cd2 ct2), sl2⟩)
    (c2 : PySem.W.codeIn K cd2 "lowest" = true) (k2 : PySem.W.keepIn K (.ref f2) = true)
    (a3 : PySem.W.nsIn K mainGlobals "minus" = some (some (.ref f3)))
    (l3 : K.lookup f3 = some ⟨oc3, od3, .func (PySem.W.fnOf "minus" "minus" (defArgs s_minus) (defBody s_minus) (defScope s_minus) .none kV3 dc3 pm3 an3 cd3 ct3), sl3⟩)
    (c3 : PySem.W.codeIn K cd3 "minus" = true) (k3 : PySem.W.keepIn K (.ref f3) = true)
    (a4 : PySem.W.nsIn K mainGlobals "common" = some (some (.ref f4)))
    (l4 : K.lookup f4 = some ⟨oc4, od4, .func (PySem.W.fnOf "common" "common" (defArgs s_common) (defBody s_common) (defScope s_common) .none kV4 dc4 pm4 an4 cd4 ct4), sl4⟩)
    (c4 : PySem.W.codeIn K cd4 "common" = true) (k4 : PySem.W.keepIn K (.ref f4) = true)
    (a5 : PySem.W.nsIn K mainGlobals "ascending" = some (some (.ref f5)))
    (l5 : K.lookup f5 = some ⟨oc5, od5, .func (PySem.W.fnOf "ascending" "ascending" (defArgs s_ascending) (defBody s_ascending) (defScope s_ascending) .none kV5 dc5 pm5 an5 cd5 ct5), sl5⟩)
    (c5 : PySem.W.codeIn K cd5 "ascending" = true) (k5 : PySem.W.keepIn K (.ref f5) = true)
    (a6 : PySem.W.nsIn K mainGlobals "within" = some (some (.ref f6)))
    (l6 : K.lookup f6 = some ⟨oc6, od6, .func (PySem.W.fnOf "within" "within" (defArgs s_within) (defBody s_within) (defScope s_within) .none kV6 dc6 pm6 an6 cd6 ct6), sl6⟩)
    (c6 : PySem.W.codeIn K cd6 "within" = true) (k6 : PySem.W.keepIn K (.ref f6) = true)
    (a7 : PySem.W.nsIn K mainGlobals "formulas_in" = some (some (.ref f7)))
    (l7 : K.lookup f7 = some ⟨oc7, od7, .func (PySem.W.fnOf "formulas_in" "formulas_in" (defArgs s_formulas_in) (defBody s_formulas_in) (defScope s_formulas_in) .none kV7 dc7 pm7 an7 cd7 ct7), sl7⟩)
    (c7 : PySem.W.codeIn K cd7 "formulas_in" = true) (k7 : PySem.W.keepIn K (.ref f7) = true)
    (a8 : PySem.W.nsIn K mainGlobals "is_true" = some (some (.ref f8)))
    (l8 : K.lookup f8 = some ⟨oc8, od8, .func (PySem.W.fnOf "is_true" "is_true" (defArgs s_is_true) (defBody s_is_true) (defScope s_is_true) .none kV8 dc8 pm8 an8 cd8 ct8), sl8⟩)
    (c8 : PySem.W.codeIn K cd8 "is_true" = true) (k8 : PySem.W.keepIn K (.ref f8) = true)
    (a9 : PySem.W.findIn K (.ref c_Columns) "__init__" = some (some (.ref f9)))
    (l9 : K.lookup f9 = some ⟨oc9, od9, .func (PySem.W.fnOf "__init__" "Columns.__init__" (defArgs s_Columns_init) (defBody s_Columns_init) (defScope s_Columns_init) .none kV9 dc9 pm9 an9 cd9 ct9), sl9⟩)
    (c9 : PySem.W.codeIn K cd9 "Columns.__init__" = true) (k9 : PySem.W.keepIn K (.ref f9) = true)
    (a10 : PySem.W.nsIn K mainGlobals "wrong_part" = some (some (.ref f10)))
    (l10 : K.lookup f10 = some ⟨oc10, od10, .func (PySem.W.fnOf "wrong_part" "wrong_part" (defArgs s_wrong_part) (defBody s_wrong_part) (defScope s_wrong_part) .none kV10 dc10 pm10 an10 cd10 ct10), sl10⟩)
    (c10 : PySem.W.codeIn K cd10 "wrong_part" = true) (k10 : PySem.W.keepIn K (.ref f10) = true)
    (a11 : PySem.W.nsIn K mainGlobals "are_names" = some (some (.ref f11)))
    (l11 : K.lookup f11 = some ⟨oc11, od11, .func (PySem.W.fnOf "are_names" "are_names" (defArgs s_are_names) (defBody s_are_names) (defScope s_are_names) .none kV11 dc11 pm11 an11 cd11 ct11), sl11⟩)
    (c11 : PySem.W.codeIn K cd11 "are_names" = true) (k11 : PySem.W.keepIn K (.ref f11) = true)
    (a12 : PySem.W.nsIn K mainGlobals "are_asked" = some (some (.ref f12)))
    (l12 : K.lookup f12 = some ⟨oc12, od12, .func (PySem.W.fnOf "are_asked" "are_asked" (defArgs s_are_asked) (defBody s_are_asked) (defScope s_are_asked) .none kV12 dc12 pm12 an12 cd12 ct12), sl12⟩)
    (c12 : PySem.W.codeIn K cd12 "are_asked" = true) (k12 : PySem.W.keepIn K (.ref f12) = true)
    (a13 : PySem.W.nsIn K mainGlobals "tests_in" = some (some (.ref f13)))
    (l13 : K.lookup f13 = some ⟨oc13, od13, .func (PySem.W.fnOf "tests_in" "tests_in" (defArgs s_tests_in) (defBody s_tests_in) (defScope s_tests_in) .none kV13 dc13 pm13 an13 cd13 ct13), sl13⟩)
    (c13 : PySem.W.codeIn K cd13 "tests_in" = true) (k13 : PySem.W.keepIn K (.ref f13) = true)
    (a14 : PySem.W.nsIn K mainGlobals "thresholds" = some (some (.ref f14)))
    (l14 : K.lookup f14 = some ⟨oc14, od14, .func (PySem.W.fnOf "thresholds" "thresholds" (defArgs s_thresholds) (defBody s_thresholds) (defScope s_thresholds) .none kV14 dc14 pm14 an14 cd14 ct14), sl14⟩)
    (c14 : PySem.W.codeIn K cd14 "thresholds" = true) (k14 : PySem.W.keepIn K (.ref f14) = true)
    (a15 : PySem.W.nsIn K mainGlobals "lengths" = some (some (.ref f15)))
    (l15 : K.lookup f15 = some ⟨oc15, od15, .func (PySem.W.fnOf "lengths" "lengths" (defArgs s_lengths) (defBody s_lengths) (defScope s_lengths) .none kV15 dc15 pm15 an15 cd15 ct15), sl15⟩)
    (c15 : PySem.W.codeIn K cd15 "lengths" = true) (k15 : PySem.W.keepIn K (.ref f15) = true)
    (a16 : PySem.W.nsIn K mainGlobals "holds_at" = some (some (.ref f16)))
    (l16 : K.lookup f16 = some ⟨oc16, od16, .func (PySem.W.fnOf "holds_at" "holds_at" (defArgs s_holds_at) (defBody s_holds_at) (defScope s_holds_at) .none kV16 dc16 pm16 an16 cd16 ct16), sl16⟩)
    (c16 : PySem.W.codeIn K cd16 "holds_at" = true) (k16 : PySem.W.keepIn K (.ref f16) = true)
    (a17 : PySem.W.nsIn K mainGlobals "_law_number" = some (some (.ref f17)))
    (l17 : K.lookup f17 = some ⟨oc17, od17, .func (PySem.W.fnOf "_law_number" "_law_number" (defArgs s__law_number) (defBody s__law_number) (defScope s__law_number) .none kV17 dc17 pm17 an17 cd17 ct17), sl17⟩)
    (c17 : PySem.W.codeIn K cd17 "_law_number" = true) (k17 : PySem.W.keepIn K (.ref f17) = true)
    (a18 : PySem.W.nsIn K mainGlobals "_law_take" = some (some (.ref f18)))
    (l18 : K.lookup f18 = some ⟨oc18, od18, .func (PySem.W.fnOf "_law_take" "_law_take" (defArgs s__law_take) (defBody s__law_take) (defScope s__law_take) .none kV18 dc18 pm18 an18 cd18 ct18), sl18⟩)
    (c18 : PySem.W.codeIn K cd18 "_law_take" = true) (k18 : PySem.W.keepIn K (.ref f18) = true)
    (a19 : PySem.W.nsIn K mainGlobals "_law_pick" = some (some (.ref f19)))
    (l19 : K.lookup f19 = some ⟨oc19, od19, .func (PySem.W.fnOf "_law_pick" "_law_pick" (defArgs s__law_pick) (defBody s__law_pick) (defScope s__law_pick) .none kV19 dc19 pm19 an19 cd19 ct19), sl19⟩)
    (c19 : PySem.W.codeIn K cd19 "_law_pick" = true) (k19 : PySem.W.keepIn K (.ref f19) = true)
    (a20 : PySem.W.nsIn K mainGlobals "_law_low" = some (some (.ref f20)))
    (l20 : K.lookup f20 = some ⟨oc20, od20, .func (PySem.W.fnOf "_law_low" "_law_low" (defArgs s__law_low) (defBody s__law_low) (defScope s__law_low) .none kV20 dc20 pm20 an20 cd20 ct20), sl20⟩)
    (c20 : PySem.W.codeIn K cd20 "_law_low" = true) (k20 : PySem.W.keepIn K (.ref f20) = true)
    (a21 : PySem.W.nsIn K mainGlobals "_law_plus" = some (some (.ref f21)))
    (l21 : K.lookup f21 = some ⟨oc21, od21, .func (PySem.W.fnOf "_law_plus" "_law_plus" (defArgs s__law_plus) (defBody s__law_plus) (defScope s__law_plus) .none kV21 dc21 pm21 an21 cd21 ct21), sl21⟩)
    (c21 : PySem.W.codeIn K cd21 "_law_plus" = true) (k21 : PySem.W.keepIn K (.ref f21) = true)
    (a22 : PySem.W.nsIn K mainGlobals "_law_total" = some (some (.ref f22)))
    (l22 : K.lookup f22 = some ⟨oc22, od22, .func (PySem.W.fnOf "_law_total" "_law_total" (defArgs s__law_total) (defBody s__law_total) (defScope s__law_total) .none kV22 dc22 pm22 an22 cd22 ct22), sl22⟩)
    (c22 : PySem.W.codeIn K cd22 "_law_total" = true) (k22 : PySem.W.keepIn K (.ref f22) = true)
    (a23 : PySem.W.nsIn K mainGlobals "_law_columns" = some (some (.ref f23)))
    (l23 : K.lookup f23 = some ⟨oc23, od23, .func (PySem.W.fnOf "_law_columns" "_law_columns" (defArgs s__law_columns) (defBody s__law_columns) (defScope s__law_columns) .none kV23 dc23 pm23 an23 cd23 ct23), sl23⟩)
    (c23 : PySem.W.codeIn K cd23 "_law_columns" = true) (k23 : PySem.W.keepIn K (.ref f23) = true)
    (a24 : PySem.W.nsIn K mainGlobals "_law_test" = some (some (.ref f24)))
    (l24 : K.lookup f24 = some ⟨oc24, od24, .func (PySem.W.fnOf "_law_test" "_law_test" (defArgs s__law_test) (defBody s__law_test) (defScope s__law_test) .none kV24 dc24 pm24 an24 cd24 ct24), sl24⟩)
    (c24 : PySem.W.codeIn K cd24 "_law_test" = true) (k24 : PySem.W.keepIn K (.ref f24) = true)
    (a25 : PySem.W.nsIn K mainGlobals "_law_ask" = some (some (.ref f25)))
    (l25 : K.lookup f25 = some ⟨oc25, od25, .func (PySem.W.fnOf "_law_ask" "_law_ask" (defArgs s__law_ask) (defBody s__law_ask) (defScope s__law_ask) .none kV25 dc25 pm25 an25 cd25 ct25), sl25⟩)
    (c25 : PySem.W.codeIn K cd25 "_law_ask" = true) (k25 : PySem.W.keepIn K (.ref f25) = true)
    (a26 : PySem.W.nsIn K mainGlobals "_law_formula" = some (some (.ref f26)))
    (l26 : K.lookup f26 = some ⟨oc26, od26, .func (PySem.W.fnOf "_law_formula" "_law_formula" (defArgs s__law_formula) (defBody s__law_formula) (defScope s__law_formula) .none kV26 dc26 pm26 an26 cd26 ct26), sl26⟩)
    (c26 : PySem.W.codeIn K cd26 "_law_formula" = true) (k26 : PySem.W.keepIn K (.ref f26) = true)
    (a27 : PySem.W.nsIn K mainGlobals "_law_leaves" = some (some (.ref f27)))
    (l27 : K.lookup f27 = some ⟨oc27, od27, .func (PySem.W.fnOf "_law_leaves" "_law_leaves" (defArgs s__law_leaves) (defBody s__law_leaves) (defScope s__law_leaves) .none kV27 dc27 pm27 an27 cd27 ct27), sl27⟩)
    (c27 : PySem.W.codeIn K cd27 "_law_leaves" = true) (k27 : PySem.W.keepIn K (.ref f27) = true)
    (a28 : PySem.W.nsIn K mainGlobals "_law_cuts" = some (some (.ref f28)))
    (l28 : K.lookup f28 = some ⟨oc28, od28, .func (PySem.W.fnOf "_law_cuts" "_law_cuts" (defArgs s__law_cuts) (defBody s__law_cuts) (defScope s__law_cuts) .none kV28 dc28 pm28 an28 cd28 ct28), sl28⟩)
    (c28 : PySem.W.codeIn K cd28 "_law_cuts" = true) (k28 : PySem.W.keepIn K (.ref f28) = true)
    (a29 : PySem.W.nsIn K mainGlobals "_law_tests" = some (some (.ref f29)))
    (l29 : K.lookup f29 = some ⟨oc29, od29, .func (PySem.W.fnOf "_law_tests" "_law_tests" (defArgs s__law_tests) (defBody s__law_tests) (defScope s__law_tests) .none kV29 dc29 pm29 an29 cd29 ct29), sl29⟩)
    (c29 : PySem.W.codeIn K cd29 "_law_tests" = true) (k29 : PySem.W.keepIn K (.ref f29) = true)
    (a30 : PySem.W.nsIn K mainGlobals "_law_asks" = some (some (.ref f30)))
    (l30 : K.lookup f30 = some ⟨oc30, od30, .func (PySem.W.fnOf "_law_asks" "_law_asks" (defArgs s__law_asks) (defBody s__law_asks) (defScope s__law_asks) .none kV30 dc30 pm30 an30 cd30 ct30), sl30⟩)
    (c30 : PySem.W.codeIn K cd30 "_law_asks" = true) (k30 : PySem.W.keepIn K (.ref f30) = true)
    (a31 : PySem.W.nsIn K mainGlobals "_law_cells" = some (some (.ref f31)))
    (l31 : K.lookup f31 = some ⟨oc31, od31, .func (PySem.W.fnOf "_law_cells" "_law_cells" (defArgs s__law_cells) (defBody s__law_cells) (defScope s__law_cells) .none kV31 dc31 pm31 an31 cd31 ct31), sl31⟩)
    (c31 : PySem.W.codeIn K cd31 "_law_cells" = true) (k31 : PySem.W.keepIn K (.ref f31) = true)
    (a32 : PySem.W.nsIn K mainGlobals "_law_text_states" = some (some (.ref f32)))
    (l32 : K.lookup f32 = some ⟨oc32, od32, .func (PySem.W.fnOf "_law_text_states" "_law_text_states" (defArgs s__law_text_states) (defBody s__law_text_states) (defScope s__law_text_states) .none kV32 dc32 pm32 an32 cd32 ct32), sl32⟩)
    (c32 : PySem.W.codeIn K cd32 "_law_text_states" = true) (k32 : PySem.W.keepIn K (.ref f32) = true)
    (a33 : PySem.W.nsIn K mainGlobals "_law_formulas" = some (some (.ref f33)))
    (l33 : K.lookup f33 = some ⟨oc33, od33, .func (PySem.W.fnOf "_law_formulas" "_law_formulas" (defArgs s__law_formulas) (defBody s__law_formulas) (defScope s__law_formulas) .none kV33 dc33 pm33 an33 cd33 ct33), sl33⟩)
    (c33 : PySem.W.codeIn K cd33 "_law_formulas" = true) (k33 : PySem.W.keepIn K (.ref f33) = true)
    (a34 : PySem.W.nsIn K mainGlobals "_law_fits" = some (some (.ref f34)))
    (l34 : K.lookup f34 = some ⟨oc34, od34, .func (PySem.W.fnOf "_law_fits" "_law_fits" (defArgs s__law_fits) (defBody s__law_fits) (defScope s__law_fits) .none kV34 dc34 pm34 an34 cd34 ct34), sl34⟩)
    (c34 : PySem.W.codeIn K cd34 "_law_fits" = true) (k34 : PySem.W.keepIn K (.ref f34) = true)
    (a35 : PySem.W.nsIn K mainGlobals "_law_plan" = some (some (.ref f35)))
    (l35 : K.lookup f35 = some ⟨oc35, od35, .func (PySem.W.fnOf "_law_plan" "_law_plan" (defArgs s__law_plan) (defBody s__law_plan) (defScope s__law_plan) .none kV35 dc35 pm35 an35 cd35 ct35), sl35⟩)
    (c35 : PySem.W.codeIn K cd35 "_law_plan" = true) (k35 : PySem.W.keepIn K (.ref f35) = true)
    (a36 : PySem.W.nsIn K mainGlobals "_law_truth" = some (some (.ref f36)))
    (l36 : K.lookup f36 = some ⟨oc36, od36, .func (PySem.W.fnOf "_law_truth" "_law_truth" (defArgs s__law_truth) (defBody s__law_truth) (defScope s__law_truth) .none kV36 dc36 pm36 an36 cd36 ct36), sl36⟩)
    (c36 : PySem.W.codeIn K cd36 "_law_truth" = true) (k36 : PySem.W.keepIn K (.ref f36) = true)
    (a37 : PySem.W.nsIn K mainGlobals "law" = some (some (.ref f37)))
    (l37 : K.lookup f37 = some ⟨oc37, od37, .func (PySem.W.fnOf "law" "law" (defArgs s_law) (defBody s_law) (defScope s_law) .none kV37 dc37 pm37 an37 cd37 ct37), sl37⟩)
    (c37 : PySem.W.codeIn K cd37 "law" = true) (k37 : PySem.W.keepIn K (.ref f37) = true)
    (pg_Columns : PySem.W.plainGet K c_Columns Str.empty = true) (hd_Columns : PySem.W.hasDictIn K c_Columns = true) (po_Columns : PySem.W.plainOver K c_Columns = true) (sa_Columns : PySem.W.findIn K (.ref c_Columns) "__setattr__" = some (some (.builtin "object.__setattr__"))) (mk_Columns : PySem.W.makesIn K c_Columns = true) (kc_Columns : PySem.W.keepIn K (.ref c_Columns) = true)
    (fn_Columns : PySem.W.isFn K (.ref f9) = true)
    (n_Columns_hashed : PySem.W.findIn K (.ref c_Columns) "hashed" = some none)
    (n_Columns__asked : PySem.W.findIn K (.ref c_Columns) "_asked" = some none)
    (n_Columns_summed : PySem.W.findIn K (.ref c_Columns) "summed" = some none)
    (g_LETTERS : PySem.W.nsIn K mainGlobals "LETTERS" = some (some (.str "abcdefghijklmnopqrstuvwxyz" t_LETTERS)))
    (g_LONGEST_NAME : PySem.W.nsIn K mainGlobals "LONGEST_NAME" = some (some (.int 8 t_LONGEST_NAME)))
    (g_MOST_HASHED : PySem.W.nsIn K mainGlobals "MOST_HASHED" = some (some (.int 2 t_MOST_HASHED)))
    (g_MOST_ASKED : PySem.W.nsIn K mainGlobals "MOST_ASKED" = some (some (.int 4 t_MOST_ASKED)))
    (g_MOST_SUMMED : PySem.W.nsIn K mainGlobals "MOST_SUMMED" = some (some (.int 2 t_MOST_SUMMED)))
    (z_ValueError : PySem.W.nsIn K mainGlobals "ValueError" = some none)
    (z_isinstance : PySem.W.nsIn K mainGlobals "isinstance" = some none)
    (z_dict : PySem.W.nsIn K mainGlobals "dict" = some none)
    (z_tuple : PySem.W.nsIn K mainGlobals "tuple" = some none)
    (z_all : PySem.W.nsIn K mainGlobals "all" = some none)
    (z_range : PySem.W.nsIn K mainGlobals "range" = some none)
    (z_int : PySem.W.nsIn K mainGlobals "int" = some none)
    (z_sorted : PySem.W.nsIn K mainGlobals "sorted" = some none)
    (z_max : PySem.W.nsIn K mainGlobals "max" = some none)
    (z_list : PySem.W.nsIn K mainGlobals "list" = some none)
    (z_zip : PySem.W.nsIn K mainGlobals "zip" = some none)
    (z_any : PySem.W.nsIn K mainGlobals "any" = some none)
    (z_len : PySem.W.nsIn K mainGlobals "len" = some none)
    (z_abs : PySem.W.nsIn K mainGlobals "abs" = some none)
    (z_set : PySem.W.nsIn K mainGlobals "set" = some none)
    (z_str : PySem.W.nsIn K mainGlobals "str" = some none)
    (z_sum : PySem.W.nsIn K mainGlobals "sum" = some none)
    (e_gcd : PySem.W.nsIn K mainGlobals "gcd" = some (some (.builtin "math.gcd")))
    (e_lcm : PySem.W.nsIn K mainGlobals "lcm" = some (some (.builtin "math.lcm")))
    (a_RESERVED : PySem.W.nsIn K mainGlobals "RESERVED" = some (some (.ref g_RESERVED)))
    (l_RESERVED : K.lookup g_RESERVED = some ⟨.type "tuple", dd_RESERVED, .seq #[.str "row" t_RESERVED_0, .str "block" t_RESERVED_1, .str "hash" t_RESERVED_2, .str "not" t_RESERVED_3, .str "and" t_RESERVED_4, .str "or" t_RESERVED_5, .str "all" t_RESERVED_6, .str "none" t_RESERVED_7, .str "like" t_RESERVED_8] n_RESERVED, sl_RESERVED⟩)
    (a_ZERO : PySem.W.nsIn K mainGlobals "ZERO" = some (some (.ref g_ZERO)))
    (l_ZERO : K.lookup g_ZERO = some ⟨.type "tuple", dd_ZERO, .seq #[.int 0 t_ZERO_0, .int 1 t_ZERO_1] n_ZERO, sl_ZERO⟩)
    (a_ONE : PySem.W.nsIn K mainGlobals "ONE" = some (some (.ref g_ONE)))
    (l_ONE : K.lookup g_ONE = some ⟨.type "tuple", dd_ONE, .seq #[.int 1 t_ONE_0, .int 1 t_ONE_1] n_ONE, sl_ONE⟩)
    (a_TESTS : PySem.W.nsIn K mainGlobals "TESTS" = some (some (.ref g_TESTS)))
    (l_TESTS : K.lookup g_TESTS = some ⟨.type "tuple", dd_TESTS, .seq #[.str "row" t_TESTS_0, .str "block" t_TESTS_1, .str "hash" t_TESTS_2] n_TESTS, sl_TESTS⟩)
    (a_ASKS : PySem.W.nsIn K mainGlobals "ASKS" = some (some (.ref g_ASKS)))
    (l_ASKS : K.lookup g_ASKS = some ⟨.type "tuple", dd_ASKS, .seq #[.str "less" t_ASKS_0, .str "is" t_ASKS_1, .str "like" t_ASKS_2] n_ASKS, sl_ASKS⟩) :
    ∃ fd : FuncData, (∀ (s : Shared) (v : Value), BindsTo s fd ⟨[v], []⟩ [("script", v)]) ∧ ∀ base : Heap, K.In base → base.Ns mainGlobals mg → FnOk l.prog w K mg base CX0 16 fa fd ["script"] (sp_law K) := by
  have e : fa = f37 := by
    have z := hfa.symm.trans (PySem.W.mg_of X G a37)
    injection z with z
    injection z
  let T : Txt K mg := {
    a_is_row := f0
    d_is_row := PySem.W.fnOf "is_row" "is_row" (defArgs s_is_row) (defBody s_is_row) (defScope s_is_row) .none kV0 dc0 pm0 an0 cd0 ct0
    F_is_row := fun_mk (st := s_is_row) l0 c0 k0
    b_is_row := (fun_mk (st := s_is_row) l0 c0 k0).binds (ps := ["value"]) fun _ _ _ _ _ _ us hl => match us, hl with | [_], _ => rfl
    m_is_row := PySem.W.mg_of X G a0
    a_is_name := f1
    d_is_name := PySem.W.fnOf "is_name" "is_name" (defArgs s_is_name) (defBody s_is_name) (defScope s_is_name) .none kV1 dc1 pm1 an1 cd1 ct1
    F_is_name := fun_mk (st := s_is_name) l1 c1 k1
    b_is_name := (fun_mk (st := s_is_name) l1 c1 k1).binds (ps := ["value"]) fun _ _ _ _ _ _ us hl => match us, hl with | [_], _ => rfl
    m_is_name := PySem.W.mg_of X G a1
    a_lowest := f2
    d_lowest := PySem.W.fnOf "lowest" "lowest" (defArgs s_lowest) (defBody s_lowest) (defScope s_lowest) .none kV2 dc2 pm2 an2 cd2 ct2
    F_lowest := fun_mk (st := s_lowest) l2 c2 k2
    b_lowest := (fun_mk (st := s_lowest) l2 c2 k2).binds (ps := ["above", "below"]) fun _ _ _ _ _ _ us hl => match us, hl with | [_, _], _ => rfl
    m_lowest := PySem.W.mg_of X G a2
    a_minus := f3
    d_minus := PySem.W.fnOf "minus" "minus" (defArgs s_minus) (defBody s_minus) (defScope s_minus) .none kV3 dc3 pm3 an3 cd3 ct3
    F_minus := fun_mk (st := s_minus) l3 c3 k3
    b_minus := (fun_mk (st := s_minus) l3 c3 k3).binds (ps := ["one", "other"]) fun _ _ _ _ _ _ us hl => match us, hl with | [_, _], _ => rfl
    m_minus := PySem.W.mg_of X G a3
    a_common := f4
    d_common := PySem.W.fnOf "common" "common" (defArgs s_common) (defBody s_common) (defScope s_common) .none kV4 dc4 pm4 an4 cd4 ct4
    F_common := fun_mk (st := s_common) l4 c4 k4
    b_common := (fun_mk (st := s_common) l4 c4 k4).binds (ps := ["rows"]) fun _ _ _ _ _ _ us hl => match us, hl with | [_], _ => rfl
    m_common := PySem.W.mg_of X G a4
    a_ascending := f5
    d_ascending := PySem.W.fnOf "ascending" "ascending" (defArgs s_ascending) (defBody s_ascending) (defScope s_ascending) .none kV5 dc5 pm5 an5 cd5 ct5
    F_ascending := fun_mk (st := s_ascending) l5 c5 k5
    b_ascending := (fun_mk (st := s_ascending) l5 c5 k5).binds (ps := ["rows"]) fun _ _ _ _ _ _ us hl => match us, hl with | [_], _ => rfl
    m_ascending := PySem.W.mg_of X G a5
    a_within := f6
    d_within := PySem.W.fnOf "within" "within" (defArgs s_within) (defBody s_within) (defScope s_within) .none kV6 dc6 pm6 an6 cd6 ct6
    F_within := fun_mk (st := s_within) l6 c6 k6
    b_within := (fun_mk (st := s_within) l6 c6 k6).binds (ps := ["formula"]) fun _ _ _ _ _ _ us hl => match us, hl with | [_], _ => rfl
    m_within := PySem.W.mg_of X G a6
    a_formulas_in := f7
    d_formulas_in := PySem.W.fnOf "formulas_in" "formulas_in" (defArgs s_formulas_in) (defBody s_formulas_in) (defScope s_formulas_in) .none kV7 dc7 pm7 an7 cd7 ct7
    F_formulas_in := fun_mk (st := s_formulas_in) l7 c7 k7
    b_formulas_in := (fun_mk (st := s_formulas_in) l7 c7 k7).binds (ps := ["plans"]) fun _ _ _ _ _ _ us hl => match us, hl with | [_], _ => rfl
    m_formulas_in := PySem.W.mg_of X G a7
    a_is_true := f8
    d_is_true := PySem.W.fnOf "is_true" "is_true" (defArgs s_is_true) (defBody s_is_true) (defScope s_is_true) .none kV8 dc8 pm8 an8 cd8 ct8
    F_is_true := fun_mk (st := s_is_true) l8 c8 k8
    b_is_true := (fun_mk (st := s_is_true) l8 c8 k8).binds (ps := ["plan", "told"]) fun _ _ _ _ _ _ us hl => match us, hl with | [_, _], _ => rfl
    m_is_true := PySem.W.mg_of X G a8
    a_Columns_init := f9
    d_Columns_init := PySem.W.fnOf "__init__" "Columns.__init__" (defArgs s_Columns_init) (defBody s_Columns_init) (defScope s_Columns_init) .none kV9 dc9 pm9 an9 cd9 ct9
    F_Columns_init := fun_mk (st := s_Columns_init) l9 c9 k9
    b_Columns_init := (fun_mk (st := s_Columns_init) l9 c9 k9).binds (ps := ["self", "hashed", "asked", "summed"]) fun _ _ _ _ _ _ us hl => match us, hl with | [_, _, _, _], _ => rfl
    a_wrong_part := f10
    d_wrong_part := PySem.W.fnOf "wrong_part" "wrong_part" (defArgs s_wrong_part) (defBody s_wrong_part) (defScope s_wrong_part) .none kV10 dc10 pm10 an10 cd10 ct10
    F_wrong_part := fun_mk (st := s_wrong_part) l10 c10 k10
    b_wrong_part := (fun_mk (st := s_wrong_part) l10 c10 k10).binds (ps := ["hashed", "asked", "summed"]) fun _ _ _ _ _ _ us hl => match us, hl with | [_, _, _], _ => rfl
    m_wrong_part := PySem.W.mg_of X G a10
    a_are_names := f11
    d_are_names := PySem.W.fnOf "are_names" "are_names" (defArgs s_are_names) (defBody s_are_names) (defScope s_are_names) .none kV11 dc11 pm11 an11 cd11 ct11
    F_are_names := fun_mk (st := s_are_names) l11 c11 k11
    b_are_names := (fun_mk (st := s_are_names) l11 c11 k11).binds (ps := ["row", "most"]) fun _ _ _ _ _ _ us hl => match us, hl with | [_, _], _ => rfl
    m_are_names := PySem.W.mg_of X G a11
    a_are_asked := f12
    d_are_asked := PySem.W.fnOf "are_asked" "are_asked" (defArgs s_are_asked) (defBody s_are_asked) (defScope s_are_asked) .none kV12 dc12 pm12 an12 cd12 ct12
    F_are_asked := fun_mk (st := s_are_asked) l12 c12 k12
    b_are_asked := (fun_mk (st := s_are_asked) l12 c12 k12).binds (ps := ["asked"]) fun _ _ _ _ _ _ us hl => match us, hl with | [_], _ => rfl
    m_are_asked := PySem.W.mg_of X G a12
    a_tests_in := f13
    d_tests_in := PySem.W.fnOf "tests_in" "tests_in" (defArgs s_tests_in) (defBody s_tests_in) (defScope s_tests_in) .none kV13 dc13 pm13 an13 cd13 ct13
    F_tests_in := fun_mk (st := s_tests_in) l13 c13 k13
    b_tests_in := (fun_mk (st := s_tests_in) l13 c13 k13).binds (ps := ["plans"]) fun _ _ _ _ _ _ us hl => match us, hl with | [_], _ => rfl
    m_tests_in := PySem.W.mg_of X G a13
    a_thresholds := f14
    d_thresholds := PySem.W.fnOf "thresholds" "thresholds" (defArgs s_thresholds) (defBody s_thresholds) (defScope s_thresholds) .none kV14 dc14 pm14 an14 cd14 ct14
    F_thresholds := fun_mk (st := s_thresholds) l14 c14 k14
    b_thresholds := (fun_mk (st := s_thresholds) l14 c14 k14).binds (ps := ["plans", "test"]) fun _ _ _ _ _ _ us hl => match us, hl with | [_, _], _ => rfl
    m_thresholds := PySem.W.mg_of X G a14
    a_lengths := f15
    d_lengths := PySem.W.fnOf "lengths" "lengths" (defArgs s_lengths) (defBody s_lengths) (defScope s_lengths) .none kV15 dc15 pm15 an15 cd15 ct15
    F_lengths := fun_mk (st := s_lengths) l15 c15 k15
    b_lengths := (fun_mk (st := s_lengths) l15 c15 k15).binds (ps := ["plans", "test"]) fun _ _ _ _ _ _ us hl => match us, hl with | [_, _], _ => rfl
    m_lengths := PySem.W.mg_of X G a15
    a_holds_at := f16
    d_holds_at := PySem.W.fnOf "holds_at" "holds_at" (defArgs s_holds_at) (defBody s_holds_at) (defScope s_holds_at) .none kV16 dc16 pm16 an16 cd16 ct16
    F_holds_at := fun_mk (st := s_holds_at) l16 c16 k16
    b_holds_at := (fun_mk (st := s_holds_at) l16 c16 k16).binds (ps := ["plans", "plan", "answers", "parts"]) fun _ _ _ _ _ _ us hl => match us, hl with | [_, _, _, _], _ => rfl
    m_holds_at := PySem.W.mg_of X G a16
    a__law_number := f17
    d__law_number := PySem.W.fnOf "_law_number" "_law_number" (defArgs s__law_number) (defBody s__law_number) (defScope s__law_number) .none kV17 dc17 pm17 an17 cd17 ct17
    F__law_number := fun_mk (st := s__law_number) l17 c17 k17
    b__law_number := (fun_mk (st := s__law_number) l17 c17 k17).binds (ps := ["script", "index"]) fun _ _ _ _ _ _ us hl => match us, hl with | [_, _], _ => rfl
    m__law_number := PySem.W.mg_of X G a17
    a__law_take := f18
    d__law_take := PySem.W.fnOf "_law_take" "_law_take" (defArgs s__law_take) (defBody s__law_take) (defScope s__law_take) .none kV18 dc18 pm18 an18 cd18 ct18
    F__law_take := fun_mk (st := s__law_take) l18 c18 k18
    b__law_take := (fun_mk (st := s__law_take) l18 c18 k18).binds (ps := ["draw", "many"]) fun _ _ _ _ _ _ us hl => match us, hl with | [_, _], _ => rfl
    m__law_take := PySem.W.mg_of X G a18
    a__law_pick := f19
    d__law_pick := PySem.W.fnOf "_law_pick" "_law_pick" (defArgs s__law_pick) (defBody s__law_pick) (defScope s__law_pick) .none kV19 dc19 pm19 an19 cd19 ct19
    F__law_pick := fun_mk (st := s__law_pick) l19 c19 k19
    b__law_pick := (fun_mk (st := s__law_pick) l19 c19 k19).binds (ps := ["draw", "items"]) fun _ _ _ _ _ _ us hl => match us, hl with | [_, _], _ => rfl
    m__law_pick := PySem.W.mg_of X G a19
    a__law_low := f20
    d__law_low := PySem.W.fnOf "_law_low" "_law_low" (defArgs s__law_low) (defBody s__law_low) (defScope s__law_low) .none kV20 dc20 pm20 an20 cd20 ct20
    F__law_low := fun_mk (st := s__law_low) l20 c20 k20
    b__law_low := (fun_mk (st := s__law_low) l20 c20 k20).binds (ps := ["above", "below"]) fun _ _ _ _ _ _ us hl => match us, hl with | [_, _], _ => rfl
    m__law_low := PySem.W.mg_of X G a20
    a__law_plus := f21
    d__law_plus := PySem.W.fnOf "_law_plus" "_law_plus" (defArgs s__law_plus) (defBody s__law_plus) (defScope s__law_plus) .none kV21 dc21 pm21 an21 cd21 ct21
    F__law_plus := fun_mk (st := s__law_plus) l21 c21 k21
    b__law_plus := (fun_mk (st := s__law_plus) l21 c21 k21).binds (ps := ["one", "other"]) fun _ _ _ _ _ _ us hl => match us, hl with | [_, _], _ => rfl
    m__law_plus := PySem.W.mg_of X G a21
    a__law_total := f22
    d__law_total := PySem.W.fnOf "_law_total" "_law_total" (defArgs s__law_total) (defBody s__law_total) (defScope s__law_total) .none kV22 dc22 pm22 an22 cd22 ct22
    F__law_total := fun_mk (st := s__law_total) l22 c22 k22
    b__law_total := (fun_mk (st := s__law_total) l22 c22 k22).binds (ps := ["rows"]) fun _ _ _ _ _ _ us hl => match us, hl with | [_], _ => rfl
    m__law_total := PySem.W.mg_of X G a22
    a__law_columns := f23
    d__law_columns := PySem.W.fnOf "_law_columns" "_law_columns" (defArgs s__law_columns) (defBody s__law_columns) (defScope s__law_columns) .none kV23 dc23 pm23 an23 cd23 ct23
    F__law_columns := fun_mk (st := s__law_columns) l23 c23 k23
    b__law_columns := (fun_mk (st := s__law_columns) l23 c23 k23).binds (ps := ["draw"]) fun _ _ _ _ _ _ us hl => match us, hl with | [_], _ => rfl
    m__law_columns := PySem.W.mg_of X G a23
    a__law_test := f24
    d__law_test := PySem.W.fnOf "_law_test" "_law_test" (defArgs s__law_test) (defBody s__law_test) (defScope s__law_test) .none kV24 dc24 pm24 an24 cd24 ct24
    F__law_test := fun_mk (st := s__law_test) l24 c24 k24
    b__law_test := (fun_mk (st := s__law_test) l24 c24 k24).binds (ps := ["draw", "columns"]) fun _ _ _ _ _ _ us hl => match us, hl with | [_, _], _ => rfl
    m__law_test := PySem.W.mg_of X G a24
    a__law_ask := f25
    d__law_ask := PySem.W.fnOf "_law_ask" "_law_ask" (defArgs s__law_ask) (defBody s__law_ask) (defScope s__law_ask) .none kV25 dc25 pm25 an25 cd25 ct25
    F__law_ask := fun_mk (st := s__law_ask) l25 c25 k25
    b__law_ask := (fun_mk (st := s__law_ask) l25 c25 k25).binds (ps := ["draw", "columns"]) fun _ _ _ _ _ _ us hl => match us, hl with | [_, _], _ => rfl
    m__law_ask := PySem.W.mg_of X G a25
    a__law_formula := f26
    d__law_formula := PySem.W.fnOf "_law_formula" "_law_formula" (defArgs s__law_formula) (defBody s__law_formula) (defScope s__law_formula) .none kV26 dc26 pm26 an26 cd26 ct26
    F__law_formula := fun_mk (st := s__law_formula) l26 c26 k26
    b__law_formula := (fun_mk (st := s__law_formula) l26 c26 k26).binds (ps := ["draw", "columns", "deep", "share"]) fun _ _ _ _ _ _ us hl => match us, hl with | [_, _, _, _], _ => rfl
    m__law_formula := PySem.W.mg_of X G a26
    a__law_leaves := f27
    d__law_leaves := PySem.W.fnOf "_law_leaves" "_law_leaves" (defArgs s__law_leaves) (defBody s__law_leaves) (defScope s__law_leaves) .none kV27 dc27 pm27 an27 cd27 ct27
    F__law_leaves := fun_mk (st := s__law_leaves) l27 c27 k27
    b__law_leaves := (fun_mk (st := s__law_leaves) l27 c27 k27).binds (ps := ["plan"]) fun _ _ _ _ _ _ us hl => match us, hl with | [_], _ => rfl
    m__law_leaves := PySem.W.mg_of X G a27
    a__law_cuts := f28
    d__law_cuts := PySem.W.fnOf "_law_cuts" "_law_cuts" (defArgs s__law_cuts) (defBody s__law_cuts) (defScope s__law_cuts) .none kV28 dc28 pm28 an28 cd28 ct28
    F__law_cuts := fun_mk (st := s__law_cuts) l28 c28 k28
    b__law_cuts := (fun_mk (st := s__law_cuts) l28 c28 k28).binds (ps := ["plans", "test"]) fun _ _ _ _ _ _ us hl => match us, hl with | [_, _], _ => rfl
    m__law_cuts := PySem.W.mg_of X G a28
    a__law_tests := f29
    d__law_tests := PySem.W.fnOf "_law_tests" "_law_tests" (defArgs s__law_tests) (defBody s__law_tests) (defScope s__law_tests) .none kV29 dc29 pm29 an29 cd29 ct29
    F__law_tests := fun_mk (st := s__law_tests) l29 c29 k29
    b__law_tests := (fun_mk (st := s__law_tests) l29 c29 k29).binds (ps := ["plans"]) fun _ _ _ _ _ _ us hl => match us, hl with | [_], _ => rfl
    m__law_tests := PySem.W.mg_of X G a29
    a__law_asks := f30
    d__law_asks := PySem.W.fnOf "_law_asks" "_law_asks" (defArgs s__law_asks) (defBody s__law_asks) (defScope s__law_asks) .none kV30 dc30 pm30 an30 cd30 ct30
    F__law_asks := fun_mk (st := s__law_asks) l30 c30 k30
    b__law_asks := (fun_mk (st := s__law_asks) l30 c30 k30).binds (ps := ["plans"]) fun _ _ _ _ _ _ us hl => match us, hl with | [_], _ => rfl
    m__law_asks := PySem.W.mg_of X G a30
    a__law_cells := f31
    d__law_cells := PySem.W.fnOf "_law_cells" "_law_cells" (defArgs s__law_cells) (defBody s__law_cells) (defScope s__law_cells) .none kV31 dc31 pm31 an31 cd31 ct31
    F__law_cells := fun_mk (st := s__law_cells) l31 c31 k31
    b__law_cells := (fun_mk (st := s__law_cells) l31 c31 k31).binds (ps := ["plans"]) fun _ _ _ _ _ _ us hl => match us, hl with | [_], _ => rfl
    m__law_cells := PySem.W.mg_of X G a31
    a__law_text_states := f32
    d__law_text_states := PySem.W.fnOf "_law_text_states" "_law_text_states" (defArgs s__law_text_states) (defBody s__law_text_states) (defScope s__law_text_states) .none kV32 dc32 pm32 an32 cd32 ct32
    F__law_text_states := fun_mk (st := s__law_text_states) l32 c32 k32
    b__law_text_states := (fun_mk (st := s__law_text_states) l32 c32 k32).binds (ps := ["plans"]) fun _ _ _ _ _ _ us hl => match us, hl with | [_], _ => rfl
    m__law_text_states := PySem.W.mg_of X G a32
    a__law_formulas := f33
    d__law_formulas := PySem.W.fnOf "_law_formulas" "_law_formulas" (defArgs s__law_formulas) (defBody s__law_formulas) (defScope s__law_formulas) .none kV33 dc33 pm33 an33 cd33 ct33
    F__law_formulas := fun_mk (st := s__law_formulas) l33 c33 k33
    b__law_formulas := (fun_mk (st := s__law_formulas) l33 c33 k33).binds (ps := ["plan"]) fun _ _ _ _ _ _ us hl => match us, hl with | [_], _ => rfl
    m__law_formulas := PySem.W.mg_of X G a33
    a__law_fits := f34
    d__law_fits := PySem.W.fnOf "_law_fits" "_law_fits" (defArgs s__law_fits) (defBody s__law_fits) (defScope s__law_fits) .none kV34 dc34 pm34 an34 cd34 ct34
    F__law_fits := fun_mk (st := s__law_fits) l34 c34 k34
    b__law_fits := (fun_mk (st := s__law_fits) l34 c34 k34).binds (ps := ["plans"]) fun _ _ _ _ _ _ us hl => match us, hl with | [_], _ => rfl
    m__law_fits := PySem.W.mg_of X G a34
    a__law_plan := f35
    d__law_plan := PySem.W.fnOf "_law_plan" "_law_plan" (defArgs s__law_plan) (defBody s__law_plan) (defScope s__law_plan) .none kV35 dc35 pm35 an35 cd35 ct35
    F__law_plan := fun_mk (st := s__law_plan) l35 c35 k35
    b__law_plan := (fun_mk (st := s__law_plan) l35 c35 k35).binds (ps := ["draw", "columns", "deep", "share"]) fun _ _ _ _ _ _ us hl => match us, hl with | [_, _, _, _], _ => rfl
    m__law_plan := PySem.W.mg_of X G a35
    a__law_truth := f36
    d__law_truth := PySem.W.fnOf "_law_truth" "_law_truth" (defArgs s__law_truth) (defBody s__law_truth) (defScope s__law_truth) .none kV36 dc36 pm36 an36 cd36 ct36
    F__law_truth := fun_mk (st := s__law_truth) l36 c36 k36
    b__law_truth := (fun_mk (st := s__law_truth) l36 c36 k36).binds (ps := ["plan", "leaves"]) fun _ _ _ _ _ _ us hl => match us, hl with | [_, _], _ => rfl
    m__law_truth := PySem.W.mg_of X G a36
    a_law := f37
    d_law := PySem.W.fnOf "law" "law" (defArgs s_law) (defBody s_law) (defScope s_law) .none kV37 dc37 pm37 an37 cd37 ct37
    F_law := fun_mk (st := s_law) l37 c37 k37
    b_law := (fun_mk (st := s_law) l37 c37 k37).binds (ps := ["script"]) fun _ _ _ _ _ _ us hl => match us, hl with | [_], _ => rfl
    m_law := PySem.W.mg_of X G a37
    c_Columns := c_Columns
    m_Columns := PySem.W.mg_of X G ac_Columns
    cl_Columns := ⟨pg_Columns, hd_Columns, po_Columns, sa_Columns⟩
    mk_Columns := ⟨mk_Columns, a9, fn_Columns, kc_Columns⟩
    n_Columns_hashed := n_Columns_hashed
    n_Columns__asked := n_Columns__asked
    n_Columns_summed := n_Columns_summed
    t_LETTERS := t_LETTERS
    m_LETTERS := PySem.W.mg_of X G g_LETTERS
    t_LONGEST_NAME := t_LONGEST_NAME
    m_LONGEST_NAME := PySem.W.mg_of X G g_LONGEST_NAME
    t_MOST_HASHED := t_MOST_HASHED
    m_MOST_HASHED := PySem.W.mg_of X G g_MOST_HASHED
    t_MOST_ASKED := t_MOST_ASKED
    m_MOST_ASKED := PySem.W.mg_of X G g_MOST_ASKED
    t_MOST_SUMMED := t_MOST_SUMMED
    m_MOST_SUMMED := PySem.W.mg_of X G g_MOST_SUMMED
    z_ValueError := PySem.W.mg_none_of X G z_ValueError
    z_isinstance := PySem.W.mg_none_of X G z_isinstance
    z_dict := PySem.W.mg_none_of X G z_dict
    z_tuple := PySem.W.mg_none_of X G z_tuple
    z_all := PySem.W.mg_none_of X G z_all
    z_range := PySem.W.mg_none_of X G z_range
    z_int := PySem.W.mg_none_of X G z_int
    z_sorted := PySem.W.mg_none_of X G z_sorted
    z_max := PySem.W.mg_none_of X G z_max
    z_list := PySem.W.mg_none_of X G z_list
    z_zip := PySem.W.mg_none_of X G z_zip
    z_any := PySem.W.mg_none_of X G z_any
    z_len := PySem.W.mg_none_of X G z_len
    z_abs := PySem.W.mg_none_of X G z_abs
    z_set := PySem.W.mg_none_of X G z_set
    z_str := PySem.W.mg_none_of X G z_str
    z_sum := PySem.W.mg_none_of X G z_sum
    m_gcd := PySem.W.mg_of X G e_gcd
    m_lcm := PySem.W.mg_of X G e_lcm
    a_RESERVED := g_RESERVED
    m_RESERVED := PySem.W.mg_of X G a_RESERVED
    q_RESERVED := fun H => .inr ⟨_, _, _, l_RESERVED, rfl, rfl, (by show 9 ≤ sizeLine; decide), (.cons ⟨_, rfl⟩ (.cons ⟨_, rfl⟩ (.cons ⟨_, rfl⟩ (.cons ⟨_, rfl⟩ (.cons ⟨_, rfl⟩ (.cons ⟨_, rfl⟩ (.cons ⟨_, rfl⟩ (.cons ⟨_, rfl⟩ (.cons ⟨_, rfl⟩ .nil)))))))))⟩
    a_ZERO := g_ZERO
    m_ZERO := PySem.W.mg_of X G a_ZERO
    q_ZERO := fun H => .inr ⟨_, _, _, l_ZERO, rfl, rfl, (by show 2 ≤ sizeLine; decide), (.cons ⟨_, rfl⟩ (.cons ⟨_, rfl⟩ .nil))⟩
    a_ONE := g_ONE
    m_ONE := PySem.W.mg_of X G a_ONE
    q_ONE := fun H => .inr ⟨_, _, _, l_ONE, rfl, rfl, (by show 2 ≤ sizeLine; decide), (.cons ⟨_, rfl⟩ (.cons ⟨_, rfl⟩ .nil))⟩
    a_TESTS := g_TESTS
    m_TESTS := PySem.W.mg_of X G a_TESTS
    q_TESTS := fun H => .inr ⟨_, _, _, l_TESTS, rfl, rfl, (by show 3 ≤ sizeLine; decide), (.cons ⟨_, rfl⟩ (.cons ⟨_, rfl⟩ (.cons ⟨_, rfl⟩ .nil)))⟩
    a_ASKS := g_ASKS
    m_ASKS := PySem.W.mg_of X G a_ASKS
    q_ASKS := fun H => .inr ⟨_, _, _, l_ASKS, rfl, rfl, (by show 3 ≤ sizeLine; decide), (.cons ⟨_, rfl⟩ (.cons ⟨_, rfl⟩ (.cons ⟨_, rfl⟩ .nil)))⟩ }
  rw [e]
  exact ⟨T.d_law, fun s v => .of_eq rfl, fun base _ _ => ok_law (P := l.prog) (w := w) (base := base) T⟩
theorem walk {l : PySem.W.OpenLaw} {q : Program} {loose : List Str} {XP : (Str → Option Value) → Heap → Prop} {YP : World → Heap → Prop} {d : DefRec} {K : Params → PySem.W.Frag} (hn : l.most = some 63) (hdf : d.params.defaults = [])
    (hY : ∀ (w : World) (h : Heap), YP w h → (K w.params).In h)
    (F : ∀ (w : World) (mg : Str → Option Value) (fa : Addr) (h : Heap), (K w.params).In h → h.Ns mainGlobals mg → mg d.name = some (.ref fa) →
      ∃ fd : FuncData, (∀ (s : Shared) (u : Value), BindsTo s fd ⟨[u], []⟩ [("script", u)]) ∧ ∀ base : Heap, (K w.params).In base → base.Ns mainGlobals mg → FnOk l.prog w (K w.params) mg base CX0 16 fa fd ["script"] (sp_law (K w.params))) :
    PySem.W.WalkO q loose XP YP l.row.toRowW d [] (fun f vs => PySem.call f vs) :=
  L2.walk_of (n := 63) (k := 16) (x := "script") (CX := fun _ => CX0) (sp := fun w => sp_law (K w.params)) hn (by decide) hdf ⟨rfl, by decide, by decide⟩ hY F (fun _ _ a ns hl hO hS => ⟨a, ns, rfl, SqF.only hO hS, hl, fun _ => rfl⟩) fun _ _ _ _ _ z => z
end My
open PySem PySem.W PyProof.Rows in
set_option maxRecDepth 100000 in
set_option maxHeartbeats 0 in
theorem PySem.Challenge.cw_evensieve_k04_draws_holds : PySem.Challenge.rw_evensieve_k04_draws.Holds := by
  w_on; o_law; k_head; (case hw => w_witness2)
  k_fill
  refine My.walk (l := PySem.Challenge.rw_evensieve_k04_draws) rfl rfl (fun w h Y => PySem.W.kIn_of Y) ?F
  case F =>
    intro w mg fa h KX G hmg
    refine' My.all_mk KX G hmg ?ac_Columns ?a0 ?l0 ?c0 ?k0 ?a1 ?l1 ?c1 ?k1 ?a2 ?l2 ?c2 ?k2 ?a3 ?l3 ?c3 ?k3 ?a4 ?l4 ?c4 ?k4 ?a5 ?l5 ?c5 ?k5 ?a6 ?l6 ?c6 ?k6 ?a7 ?l7 ?c7 ?k7 ?a8 ?l8 ?c8 ?k8 ?a9 ?l9 ?c9 ?k9 ?a10 ?l10 ?c10 ?k10 ?a11 ?l11 ?c11 ?k11 ?a12 ?l12 ?c12 ?k12 ?a13 ?l13 ?c13 ?k13 ?a14 ?l14 ?c14 ?k14 ?a15 ?l15 ?c15 ?k15 ?a16 ?l16 ?c16 ?k16 ?a17 ?l17 ?c17 ?k17 ?a18 ?l18 ?c18 ?k18 ?a19 ?l19 ?c19 ?k19 ?a20 ?l20 ?c20 ?k20 ?a21 ?l21 ?c21 ?k21 ?a22 ?l22 ?c22 ?k22 ?a23 ?l23 ?c23 ?k23 ?a24 ?l24 ?c24 ?k24 ?a25 ?l25 ?c25 ?k25 ?a26 ?l26 ?c26 ?k26 ?a27 ?l27 ?c27 ?k27 ?a28 ?l28 ?c28 ?k28 ?a29 ?l29 ?c29 ?k29 ?a30 ?l30 ?c30 ?k30 ?a31 ?l31 ?c31 ?k31 ?a32 ?l32 ?c32 ?k32 ?a33 ?l33 ?c33 ?k33 ?a34 ?l34 ?c34 ?k34 ?a35 ?l35 ?c35 ?k35 ?a36 ?l36 ?c36 ?k36 ?a37 ?l37 ?c37 ?k37 ?pg_Columns ?hd_Columns ?po_Columns ?sa_Columns ?mk_Columns ?kc_Columns ?fn_Columns ?n_Columns_hashed ?n_Columns__asked ?n_Columns_summed ?g_LETTERS ?g_LONGEST_NAME ?g_MOST_HASHED ?g_MOST_ASKED ?g_MOST_SUMMED ?z_ValueError ?z_isinstance ?z_dict ?z_tuple ?z_all ?z_range ?z_int ?z_sorted ?z_max ?z_list ?z_zip ?z_any ?z_len ?z_abs ?z_set ?z_str ?z_sum ?e_gcd ?e_lcm ?a_RESERVED ?l_RESERVED ?a_ZERO ?l_ZERO ?a_ONE ?l_ONE ?a_TESTS ?l_TESTS ?a_ASKS ?l_ASKS
    (case ac_Columns => k_is)
    (case a0 => k_is)
    (case l0 => k_is)
    (case c0 => k_is)
    (case k0 => k_is)
    (case a1 => k_is)
    (case l1 => k_is)
    (case c1 => k_is)
    (case k1 => k_is)
    (case a2 => k_is)
    (case l2 => k_is)
    (case c2 => k_is)
    (case k2 => k_is)
    (case a3 => k_is)
    (case l3 => k_is)
    (case c3 => k_is)
    (case k3 => k_is)
    (case a4 => k_is)
    (case l4 => k_is)
    (case c4 => k_is)
    (case k4 => k_is)
    (case a5 => k_is)
    (case l5 => k_is)
    (case c5 => k_is)
    (case k5 => k_is)
    (case a6 => k_is)
    (case l6 => k_is)
    (case c6 => k_is)
    (case k6 => k_is)
    (case a7 => k_is)
    (case l7 => k_is)
    (case c7 => k_is)
    (case k7 => k_is)
    (case a8 => k_is)
    (case l8 => k_is)
    (case c8 => k_is)
    (case k8 => k_is)
    (case a9 => k_is)
    (case l9 => k_is)
    (case c9 => k_is)
    (case k9 => k_is)
    (case a10 => k_is)
    (case l10 => k_is)
    (case c10 => k_is)
    (case k10 => k_is)
    (case a11 => k_is)
    (case l11 => k_is)
    (case c11 => k_is)
    (case k11 => k_is)
    (case a12 => k_is)
    (case l12 => k_is)
    (case c12 => k_is)
    (case k12 => k_is)
    (case a13 => k_is)
    (case l13 => k_is)
    (case c13 => k_is)
    (case k13 => k_is)
    (case a14 => k_is)
    (case l14 => k_is)
    (case c14 => k_is)
    (case k14 => k_is)
    (case a15 => k_is)
    (case l15 => k_is)
    (case c15 => k_is)
    (case k15 => k_is)
    (case a16 => k_is)
    (case l16 => k_is)
    (case c16 => k_is)
    (case k16 => k_is)
    (case a17 => k_is)
    (case l17 => k_is)
    (case c17 => k_is)
    (case k17 => k_is)
    (case a18 => k_is)
    (case l18 => k_is)
    (case c18 => k_is)
    (case k18 => k_is)
    (case a19 => k_is)
    (case l19 => k_is)
    (case c19 => k_is)
    (case k19 => k_is)
    (case a20 => k_is)
    (case l20 => k_is)
    (case c20 => k_is)
    (case k20 => k_is)
    (case a21 => k_is)
    (case l21 => k_is)
    (case c21 => k_is)
    (case k21 => k_is)
    (case a22 => k_is)
    (case l22 => k_is)
    (case c22 => k_is)
    (case k22 => k_is)
    (case a23 => k_is)
    (case l23 => k_is)
    (case c23 => k_is)
    (case k23 => k_is)
    (case a24 => k_is)
    (case l24 => k_is)
    (case c24 => k_is)
    (case k24 => k_is)
    (case a25 => k_is)
    (case l25 => k_is)
    (case c25 => k_is)
    (case k25 => k_is)
    (case a26 => k_is)
    (case l26 => k_is)
    (case c26 => k_is)
    (case k26 => k_is)
    (case a27 => k_is)
    (case l27 => k_is)
    (case c27 => k_is)
    (case k27 => k_is)
    (case a28 => k_is)
    (case l28 => k_is)
    (case c28 => k_is)
    (case k28 => k_is)
    (case a29 => k_is)
    (case l29 => k_is)
    (case c29 => k_is)
    (case k29 => k_is)
    (case a30 => k_is)
    (case l30 => k_is)
    (case c30 => k_is)
    (case k30 => k_is)
    (case a31 => k_is)
    (case l31 => k_is)
    (case c31 => k_is)
    (case k31 => k_is)
    (case a32 => k_is)
    (case l32 => k_is)
    (case c32 => k_is)
    (case k32 => k_is)
    (case a33 => k_is)
    (case l33 => k_is)
    (case c33 => k_is)
    (case k33 => k_is)
    (case a34 => k_is)
    (case l34 => k_is)
    (case c34 => k_is)
    (case k34 => k_is)
    (case a35 => k_is)
    (case l35 => k_is)
    (case c35 => k_is)
    (case k35 => k_is)
    (case a36 => k_is)
    (case l36 => k_is)
    (case c36 => k_is)
    (case k36 => k_is)
    (case a37 => k_is)
    (case l37 => k_is)
    (case c37 => k_is)
    (case k37 => k_is)
    (case pg_Columns => k_is)
    (case hd_Columns => k_is)
    (case po_Columns => k_is)
    (case sa_Columns => k_is)
    (case mk_Columns => k_is)
    (case kc_Columns => k_is)
    (case fn_Columns => k_is)
    (case n_Columns_hashed => k_is)
    (case n_Columns__asked => k_is)
    (case n_Columns_summed => k_is)
    (case g_LETTERS => k_is)
    (case g_LONGEST_NAME => k_is)
    (case g_MOST_HASHED => k_is)
    (case g_MOST_ASKED => k_is)
    (case g_MOST_SUMMED => k_is)
    (case z_ValueError => k_is)
    (case z_isinstance => k_is)
    (case z_dict => k_is)
    (case z_tuple => k_is)
    (case z_all => k_is)
    (case z_range => k_is)
    (case z_int => k_is)
    (case z_sorted => k_is)
    (case z_max => k_is)
    (case z_list => k_is)
    (case z_zip => k_is)
    (case z_any => k_is)
    (case z_len => k_is)
    (case z_abs => k_is)
    (case z_set => k_is)
    (case z_str => k_is)
    (case z_sum => k_is)
    (case e_gcd => k_is)
    (case e_lcm => k_is)
    (case a_RESERVED => k_is)
    (case l_RESERVED => k_is)
    (case a_ZERO => k_is)
    (case l_ZERO => k_is)
    (case a_ONE => k_is)
    (case l_ONE => k_is)
    (case a_TESTS => k_is)
    (case l_TESTS => k_is)
    (case a_ASKS => k_is)
    (case l_ASKS => k_is)
