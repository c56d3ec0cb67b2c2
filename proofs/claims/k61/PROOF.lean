import PyProof.Rows.All
import Wide.All
import OpenK.AllK
import Wide.FinOn
import HandS.ForMost
import HandS.ForExc
import HandS.Wide
import HandS.Gcd
import HandS.IsInst
import HandS.ExcInit
import HandS.ExcField
import HandS.ExcIs
import HandS.Property
import HandS.DictComp
import HandS.ClsMeth
import HandS.Zip
import HandS.Walk
import HandS.Style
import HandS.TupAny
import HandS.More
import HandS.Strs
import KE.GoesEnum
import HandS.OwnEq
import PyProof.InstEq
import HandS.FStr
import HandS.TryMany
import HandS.TupSets
import KE.GoesSet
import HandS.Lambda
import HandS.EndTab
import KE.KDictList
import PyProof.DictValues
import KE.GoesZip
import KE.GoesMore
import HandS.DictEq
import HandS.DictTup
import PyProof.DictFindH
import KE.KDictDisplayH
import PyProof.Rows.Range3
import HandS.Small
import PySem.Challenge.RW_evensieve_k61_whole_evidence_as_objects
set_option Elab.async false
set_option linter.all false
set_option maxRecDepth 100000
set_option maxHeartbeats 4000000
namespace My
open PySem L2 PySem.Spec PyProof.Rows
section
variable {X : Cx}
/-! ### Base.__init__(self, ..), Base an own class over ValueError without one of its own -/
def tBaseI (K : PySem.W.Frag) (ta : TA) : TE := fun σ H Q => ta σ H fun vs H1 => ∃ (a C : Addr) (ws : List V), vs = .ref a :: ws ∧ ws.length ≤ 1000 ∧ OexC K C ∧ H1 a = some (exo a C none) ∧ Q .non H1
theorem pe_baseinit {x : Str} {S : Addr} {mc : Value} {e : Expr} {es : List Expr} {ta : TA} {p1 p2 pos : Pos} {pl : Sem Bool} (hg : Gl X x) (hm : X.mg x = some (.ref S)) (r : ClX.CRead X.K S mc) (at_ : PySem.W.findCls X.K (.ref S) mc "__init__" = some (.val (.builtin "ValueError.__init__"))) (ha : PA X (e :: es) ta)
    (hd : (x == ("__debug__" : Str)) = false := by decide)
    (hc : eval (.Call (.Attribute (.Name x p1) "__init__" p2) (e :: es) [] pos) X.env = (do
      let ov ← eval (.Name x p1) X.env
      standAt p2.atName
      let (f, first) ← holding [ov] (getMethod ov "__init__" pl)
      callWith pos f first (backTo pos (starEach (e :: es) X.env)) (backToKw pos (keywordEach [] X.env))) := by rfl)
    (he : starEach (e :: es) X.env = (false, eval e X.env) :: starEach es X.env := by rfl) (hpl : (backTo pos (starEach es X.env)).any (·.1) = false := by rfl) :
    PE X (.Call (.Attribute (.Name x p1) "__init__" p2) (e :: es) [] pos) (tBaseI X.K ta) := by
  refine ⟨fun pins s σ H Q I want => ?_⟩
  refine PySem.W.methodCall_KW (ld_glob I hg hm ?_ hd) hc
  refine PySem.W.method_cls I.kIn r.ga ?_
  refine PySem.W.cls_value I.kIn r.rd at_ (by decide +kernel) ?_
  refine PyProof.Rows.callWith_method1 (thn (ha.run pos pins _ σ H _ (I.tok _) want) fun us s1 ⟨vs, H1, I1, r1, a, C, ws, ev, hl, T, ea, q⟩ => ?_) he hpl
  subst ev
  cases r1 with
  | @cons _ u0 _ ur ra rest =>
    obtain rfl : u0 = Value.ref a := ra
    exact oinit_ok T I1 ea (by rw [← Paired.length rest, sizeLine_eq]; omega) fun s' J => ⟨.non, H1, J, rfl, q⟩
end
end My
set_option Elab.async false
set_option linter.all false
set_option maxRecDepth 100000
set_option maxHeartbeats 4000000
namespace My
open PySem L2 PySem.Spec PyProof.Rows HT
section
variable {prog : Program} {w : World} {A : Around} {E : Value → Shared → Prop} {s : Shared}
theorem back_take {α : Type} (l : List α) : ∀ m : Nat, m ≤ l.length → (List.range m).filterMap (fun k => l[l.length - 1 - k]?) = l.reverse.take m
  | 0, _ => by simp
  | m + 1, h => by
    have ih := back_take l m (by omega)
    rw [List.range_succ, List.filterMap_append, ih, List.take_add_one, List.getElem?_reverse (by omega)]
    cases e : l[l.length - 1 - m]? <;> simp [List.filterMap, e]
theorem fm_same {α β : Type} {f g : α → Option β} : ∀ l : List α, (∀ k, k ∈ l → f k = g k) → l.filterMap f = l.filterMap g
  | [], _ => rfl
  | a :: l, h => by
    rw [List.filterMap_cons, List.filterMap_cons, h a List.mem_cons_self, fm_same l fun k m => h k (List.mem_cons_of_mem _ m)]
theorem back_pick (items : Array Value) : (List.filterMap (fun k : Nat => items[((items.size : Int) - 1 + (k : Int) * -1).toNat]?) (List.range items.size)).toArray = items.toList.reverse.toArray := by
  have h := back_take items.toList items.toList.length (Nat.le_refl _)
  rw [List.take_of_length_le (by simp)] at h
  rw [← h]
  congr 1
  have e : items.toList.length = items.size := by simp
  rw [e]
  refine fm_same _ fun k hk => ?_
  have hk' := List.mem_range.mp hk
  rw [show ((items.size : Int) - 1 + (k : Int) * -1).toNat = items.size - 1 - k by omega]
  simp
theorem applied_back {sl : Addr} {vs : Value} {n : Nat} {Q : Int × Int × Nat → Shared → Prop} (hs : s.heap.IsSliceOf sl .none .none vs) (ps : IsPart vs (some (-1))) (h : Q ((n : Int) - 1, -1, n) s) :
    wpAny (model prog w) A (Builtin.Slice.sliceApplied (.ref sl) (pure (n : Int))) Q E s := by
  obtain ⟨rec, at_, _, data⟩ := id hs
  unfold Builtin.Slice.sliceApplied Builtin.Slice.sliceFields
  refine wpAny_bind (wpAny_bind (wpAny_field at_ data (x := .none) rfl (wpAny_bind (wpAny_field at_ data (x := .none) rfl (wpAny_bind (wpAny_field at_ data (x := vs) rfl (wpAny_pure ?_)))))))
  refine wpAny_bind (slicePart_ ps ?_)
  show wpAny _ _ (if ((-1 : Int) == 0) = true then _ else _) _ _ s
  rw [if_neg (by decide)]
  refine wpAny_bind (slicePart_none (wpAny_bind (slicePart_none (wpAny_bind (wpAny_pure ?_)))))
  show wpAny _ _ (match Builtin.Slice.sliceAdjust none none (-1) (n : Int) with | (lo, hi) => pure (lo, (-1 : Int), Builtin.Slice.slicePlaces lo hi (-1))) _ _ s
  have e : Builtin.Slice.sliceAdjust none none (-1) (n : Int) = ((n : Int) - 1, -1) := by simp [Builtin.Slice.sliceAdjust]
  rw [e]
  show wpAny _ _ (pure ((n : Int) - 1, (-1 : Int), Builtin.Slice.slicePlaces ((n : Int) - 1) (-1) (-1))) _ _ s
  have e2 : Builtin.Slice.slicePlaces ((n : Int) - 1) (-1) (-1) = n := by
    simp [Builtin.Slice.slicePlaces]
    try omega
  rw [e2]
  exact wpAny_pure h
theorem tuple_back {t sl : Addr} {items : Array Value} {vs : Value} {Q : Value → Shared → Prop} (ht : IsTup s.heap t items) (hs : s.heap.IsSliceOf sl .none .none vs) (ps : IsPart vs (some (-1)))
    (h : Q (.ref s.heap.objs.size) { s with heap := s.heap.push { cls := .type "tuple", data := .seq items.toList.reverse.toArray } }) (hsz : items.size ≤ sizeLine) : wpAny (model prog w) A (getItem (.ref t) (.ref sl)) Q E s := by
  have room : sizeOk (.seq items.toList.reverse.toArray) := by
    show items.toList.reverse.toArray.size ≤ sizeLine
    simpa using hsz
  obtain ⟨rec, at_, cls_, data⟩ := id hs
  have kind : s.TypeIs (.ref sl) "slice" := ⟨rec, at_, cls_⟩
  unfold getItem
  try with_reducible refine wpAny_holding ?_
  first | refine wpAny_bind (wpAny_pure ?_) | skip
  refine wpAny_bind (wpAny_sequenceKey ht.typeIs (by decide) ?_)
  refine wpAny_bind (wpAny_callSpecial?_slot (name := Str.ofString "__getitem__") ht.typeIs PyProof.Rows.slot_tuple_getitem
    (wpAny_call_entry PyProof.Rows.slot_tuple_getitem ht.typeIs entry_tuple_getitem ?_ (args_tuple_getitem _ _)))
  show wpAny _ _ (Builtin.Tuple.tupleItemsOf (.ref t) >>= _) _ _ s
  refine wpAny_bind (tupleItemsOf_ ht ?_)
  refine wpAny_bind (wpAny_typeOf kind ?_)
  rw [if_pos (by decide)]
  refine wpAny_bind (applied_back hs ps ?_)
  have no : ¬ (((items.size : Int) - 1 == 0 && (-1 : Int) == 1 && items.size == items.size) = true) := by simp
  dsimp only
  rw [if_neg no, back_pick]
  first
    | exact wpAny_bind (m := Builtin.Tuple.tupleExact _) (wpAny_newObj_type (wpAny_pure ⟨_, rfl, wpAny_pure h⟩) room)
    | exact wpAny_bind (m := Builtin.Tuple.tupleExact _) (wpAny_newObj_type (wpAny_bind (wpAny_pure (wpAny_pure ⟨_, rfl, wpAny_pure h⟩))) room)
    | exact wpAny_bind (wpAny_bind (m := Builtin.Tuple.tupleExact _) (wpAny_newObj_type (wpAny_pure ⟨_, rfl, wpAny_pure h⟩) room))
end
/-! ### t[::-1] of a tuple, x in a chain of three comparisons -/
section
variable {X : Cx}
def tRevT (K : PySem.W.Frag) (te : TE) : TE := fun σ H Q => te σ H fun x H1 => ∃ a xs, x = .ref a ∧ SqT K H1 a xs ∧ ∀ p, H1 p = none → Q (.ref p) (upd H1 p (.tup xs.reverse))
theorem pe_revT {e : Expr} {te : TE} {k : Nat} {p1 p2 p3 pos : Pos} (he : PE X e te) : PE X (.Subscript e (.Slice none none (some (.UnaryOp .USub (.Constant (.int 1) k p1) p2)) p3) pos) (tRevT X.K te) := by
  refine ⟨fun pins s σ H Q I want => ?_⟩
  refine Subscript_ (thn (he.run pins s σ H _ I want) fun v s1 ⟨x, H1, I1, rx, a, xs, ex, hx, q⟩ => ?_)
  subst ex
  cases rx
  refine wpAny_Slice (thn (po_none.run pins s1 σ H1 (fun o H2 => o = none ∧ H2 = H1) I1 ⟨rfl, rfl⟩) fun vl s2 ⟨l, H2, I2, pl, el, e2⟩ => ?_)
  subst el e2
  refine thn (po_none.run pins s2 σ H2 (fun o H3 => o = none ∧ H3 = H2) I2 ⟨rfl, rfl⟩) fun vu s3 ⟨u, H3, I3, pu, eu, e3⟩ => ?_
  subst eu e3
  have minus : PO X (some (.UnaryOp .USub (.Constant (.int 1) k p1) p2)) (tPart (tUn (rU fun i => .int (-i)) (tC (.int 1)))) := po_some (pe_un un_neg pe_int)
  refine thn (minus.run pins s3 σ H3 (fun o H4 => o = some (-1) ∧ H4 = H3) I3 ⟨1, rfl, -1, rfl, rfl, rfl⟩) fun vs s4 ⟨o, H4, I4, ps, eo, e4⟩ => ?_
  subst eo e4
  have I5 : Inv X pins σ H4 { s4 with heap := s4.heap.push { cls := .type "slice", data := .fields #[vl, vu, vs] } } := I4.kept (t' := s4.toks) fun b ob q => Heap.get?_push_of_some _ q
  obtain ⟨its, r, ht, hz⟩ := I5.tuple hx
  have hlen := r.length
  cases pl
  cases pu
  show wpAny (model X.prog X.w) X.A (subscriptTail e (.Slice none none (some (.UnaryOp .USub (.Constant (.int 1) k p1) p2)) p3) (.ref a) (.ref s4.heap.objs.size)) (EP X pins σ Q) X.xe { s4 with heap := s4.heap.push { cls := .type "slice", data := .fields #[.none, .none, vs] } }
  refine tail_any (ops := [.ref a, .ref s4.heap.objs.size]) ht.typeIs (PyProof.Rows.slot_tuple_getitem.lookup) ?_ (by with_unfolding_all rfl)
  refine tuple_back ht (Heap.IsSliceOf.new _ .none .none vs) ps ?_ (by rw [List.size_toArray]; omega)
  refine ⟨.ref _, _, I5.laid (t' := s4.toks) (o := .tup xs.reverse) (fun b ob q => Heap.get?_push_of_some _ q) (Nat.le_refl _) ?_, rfl, q _ (I5.hok.fresh (Nat.le_refl _))⟩
  have hz2 : xs.reverse.length ≤ sizeLine := by rw [List.length_reverse]; exact hz
  refine ⟨hz2, its.reverse, r.reverse, ?_⟩
  exact IsTup.new _ its.reverse.toArray
def tChain3 (r r' r'' : R2) (ta tb tc td : TE) : TE := fun σ H Q => ta σ H fun x H1 => tb σ H1 fun y H2 => r x y H2 fun z H3 => ∃ k, z = .bl k ∧
  (if k = true then tc σ H3 fun y' H4 => r' y y' H4 fun z' H5 => ∃ k', z' = .bl k' ∧ (if k' = true then td σ H5 fun y'' H6 => r'' y' y'' H6 Q else Q (.bl false) H5) else Q (.bl false) H3)
theorem pe_chain3 {op op' op'' : CmpOp} {r r' r'' : R2} {a b c d : Expr} {ta tb tc td : TE} {pos : Pos} (ho : OpR X (compareOp op) r) (ho' : OpR X (compareOp op') r') (ho'' : OpR X (compareOp op'') r'') (ha : PE X a ta) (hb : PE X b tb) (hc : PE X c tc) (hd : PE X d td)
    (hm : lastMarks [op, op', op''] [b, c, d] = false := by with_unfolding_all rfl) : PE X (.Compare a [op, op', op''] [b, c, d] pos) (tChain3 r r' r'' ta tb tc td) := by
  refine ⟨fun pins s σ H Q I want => ?_⟩
  refine Compare_chain (thn (ha.run pins s σ H _ I want) fun v s1 ⟨x, H1, I1, r1, q1⟩ => chain_link (thn (hb.run pins s1 σ H1 _ I1 q1) fun u s2 ⟨y, H2, I2, r2, q2⟩ => thn (ho pins s2 σ H2 x y v u _ I2 r1 r2 q2) fun t s3 ⟨z, H3, I3, r3, k, e, q3⟩ => ?_)) hm
  subst e
  cases r3
  refine wpAny_truthy_bool ?_
  cases k with
  | false => exact ite_ff ⟨.bl false, H3, I3, rfl, q3⟩
  | true =>
    refine ite_tt (chain_link (thn (hc.run pins s3 σ H3 _ I3 q3) fun u' s4 ⟨y', H4, I4, r4, q4⟩ => thn (ho' pins s4 σ H4 y y' u u' _ I4 r2 r4 q4) fun t' s5 ⟨z', H5, I5, r5, k', e', q5⟩ => ?_))
    subst e'
    cases r5
    refine wpAny_truthy_bool ?_
    cases k' with
    | false => exact ite_ff ⟨.bl false, H5, I5, rfl, q5⟩
    | true => exact ite_tt (chain_last (thn (hd.run pins s5 σ H5 _ I5 q5) fun w' s6 ⟨y'', H6, I6, r6, q6⟩ => ho'' pins s6 σ H6 y' y'' u' w' Q I6 r4 r6 q6))
end
end My
set_option Elab.async false
set_option linter.all false
set_option maxRecDepth 100000
set_option maxHeartbeats 4000000
/-! isinstance(e, Base) in the suite, e a caught error that has its dict -/
namespace My
open PySem L2 PySem.Spec PyProof.Rows PySem.W
section
variable {prog : Program} {w : World} {A : Around} {E : Value → Shared → Prop} {s : Shared} {K : Frag} {x D : Addr} {ox od : Obj}
theorem exc_class {Q : Option Value → Shared → Prop} (C : ExcC K D) (X : K.In s.heap) (I : InstAt s.heap x ox D (some od)) (h : Q (some (.ref D)) { s with toks := s.toks + 1 }) :
    wpAny (model prog w) A (getAttr? (.ref x) "__class__") Q E s := by
  have found : findObj K D (some od) "__class__" = some (.bind (.builtin "getset_descriptor.__get__") (.builtin "object.__class__")) := by
    obtain ⟨cd, hc, _⟩ := any_some C.hd
    exact findObj_data (by rw [hc]; rfl) C.ha C.hn C.ht
  obtain ⟨heap, gens, drawn, n, os⟩ := s
  have T0 := I.type (M := model prog w)
  have T1 := looks_findIn (M := model prog w) X C.hg
  have T2 := looks_findIn (M := model prog w) X C.hk
  have T3 := looks_find (M := model prog w) X I found
  have isB : Looks (model prog w) heap (isInstance (.ref x) (.type "BaseException")) true := T0.andThen (looks_subIn X C.hs)
  have unlike : (Value.builtin "BaseException.__getattribute__" == Value.builtin "object.__getattribute__") = false := by decide +kernel
  have c1 : (onTheHeap (Value.ref D) && Value.builtin "BaseException.__getattribute__" == Value.builtin "object.__getattribute__") = false := by rw [unlike]; rfl
  have c2 : (false && onTheHeap (Value.builtin "BaseException.__getattribute__")) = false := rfl
  unfold getAttr? getAttrBy? getAttrBy
  refine wpAny_bind (wpAny_mkText (wpAny_bind (wpAny_attempt (wpAny_holding (wpAny_bind (T0.at (wpAny_bind (T1.at ?_))))))))
  show wpAny _ _ (if (onTheHeap (Value.ref D) && Value.builtin "BaseException.__getattribute__" == Value.builtin "object.__getattribute__") = true then _ else _) _ _ _
  rw [c1, if_neg Bool.false_ne_true]
  unfold getAttrByItsOwn hookBefore
  refine wpAny_bind ?_
  rw [if_pos (show onTheHeap (Value.ref D) = true from rfl)]
  refine T2.at ?_
  refine wpAny_bind (wpAny_attempt (wpAny_holding ?_))
  unfold callGetattribute
  rw [c2, if_neg Bool.false_ne_true]
  unfold boundAndCalled
  rw [PySem.F.excAttr_ValueError.ga.bind (.ref x)]
  refine wpAny_bind (wpAny_pure ?_)
  show wpAny _ _ (call (.builtin "BaseException.__getattribute__") [.ref x, .str "__class__" n]) _ _ _
  refine wpAny_call (codeAny_call_builtin PySem.F.excAttr_ValueError.ga.plain PySem.F.entry_bexc_ga ?_)
  refine @check_slot (model prog w) _ _ ⟨heap, gens, drawn, n + 1, os⟩ "BaseException.__getattribute__" "BaseException" "__getattribute__" (.ref x) [.str "__class__" n] [] _ (by decide +kernel) (by decide +kernel) isB (PySem.F.args_bexc_ga (.ref x) (.str "__class__" n)) ?_
  unfold Builtin.«object.__getattribute__»
  refine wpAny_bind (wpAny_of_eq (a := ((Value.ref x : Value), [Value.str "__class__" n])) (by first | rfl | (simp only [slotArgs]; rfl)) ?_)
  refine wpAny_bind (wpAny_pure (wpAny_bind (T0.at (wpAny_bind (T3.at ?_)))))
  show wpAny _ _ (holding [Value.builtin "object.__class__"] (call (.builtin "getset_descriptor.__get__") [.builtin "object.__class__", .ref x, .ref D]) >>= ret) _ _ _
  refine wpAny_bind (wpAny_holding (wpAny_call (class_get (s := ⟨heap, gens, drawn, n + 1, os⟩) (ox := ox) (od := some od) X I C.hm ?_)))
  refine wpAny_pure ?_
  show wpAny _ _ (handedOut (.ref D)) _ _ _
  rw [handedOut_of (v := .ref D) rfl]
  first
    | exact wpAny_pure (wpAny_pure h)
    | exact wpAny_pure h
    | exact wpAny_pure (wpAny_bind (wpAny_pure (wpAny_pure h)))
theorem kit_caught (C : ExcC K D) : KitX K (.ref x) (.ref D) (fun h => InstAt h x ox D (some od)) where
  ty := fun _ _ _ I => I.type
  it := fun M h X _ => by
    obtain ⟨cd, hc, _⟩ := any_some C.hd
    unfold clsIn at hc
    split at hc
    · rename_i _ _ _ _ found
      intro A' Q' E' s' keep q
      unfold isType loadHead
      exact wpAny_bind (wpAny_loadPart (keep _ _ (X _ _ found)) (wpAny_pure q))
    · cases hc
  ne := fun h tp dd its n sl X htp => by
    obtain ⟨cd, hc, _⟩ := any_some C.hd
    refine Bool.eq_false_iff.mpr fun q => ?_
    obtain rfl : D = tp := Value.ref.inj (beq_iff_eq.mp q)
    unfold clsIn at hc
    split at hc
    · rename_i _ _ _ _ found
      cases (X _ _ found).symm.trans htp
    · cases hc
  ca := fun X I k => exc_class C X I k
end
theorem kit_of_exm {K : Frag} {t c : Value} (h : exmOne K t c = some true) : kitOne K t c = some true := by
  unfold exmOne at h
  split at h
  · unfold kitOne
    split
    · rfl
    · exact h
  · cases h
/-- isinstance(e, S), e the error that the suite holds, with its dict at dd -/
def rIsC (K : Frag) (D a dd : Addr) : List V → Hp → VK → Prop := fun xs H Q => ∃ (S : Addr) (b : Bool) (fs : List (Str × V)), xs = [.ref a, .ref S] ∧ H dd = some (.xd fs) ∧ kitOne K (.ref D) (.ref S) = some b ∧ Q (.bl b) H
theorem call_isC {X : Cx} {a D dd : Addr} {oe : Obj} {pn : List (Addr × Obj)} (C : ExcC X.K D) (hz : Zc (.ref D) (some dd) oe) (hf : ∃ vs, oe.data = .fields vs) : CallR (X.suite a ((a, oe) :: pn)) (.builtin "isinstance") (rIsC X.K D a dd) := by
  intro pins s σ H xs us Q I r want
  obtain ⟨S, b, fs, rfl, hd, e, q⟩ := want
  obtain ⟨u1, u2, rfl, r1, r2⟩ := vals2 r
  obtain rfl : u1 = Value.ref a := r1
  obtain rfl : u2 = Value.ref S := r2
  obtain ⟨at_, _⟩ := I.pin (a, oe) (List.mem_append_left _ List.mem_cons_self)
  obtain ⟨vs, hv⟩ := hf
  have held : ObjOk X.prog X.w H s.heap dd (.xd fs) := I.hok dd _ hd
  obtain ⟨mA, hns, _⟩ := held
  obtain ⟨od, ho, _⟩ := lookIn_ns hns
  have J : InstAt s.heap a oe D (some od) := ⟨at_, hz.1, by unfold notCls; rw [hv] <;> rfl, by rw [hz.2]; exact ho⟩
  exact kia_one (kit_caught C) I.kIn J e (fun z => nomatch z) fun tk => ⟨.bl b, H, I.kept (t' := tk) fun _ _ z => z, rfl, q⟩
end My
set_option Elab.async false
set_option linter.all false
set_option maxRecDepth 100000
set_option maxHeartbeats 4000000
/-! len(set(xs)), xs a list of texts no two of which are one -/
namespace My
open PySem L2 PySem.Spec PyProof.Rows
def hasT (xs : List Str) (i : Nat) : Str → Bool := fun y => (xs.take i).any fun z => z == y
theorem hasT_more {xs : List Str} {i : Nat} (h : i < xs.length) (y : Str) : (hasT xs i y || decide (y = xs.getD i Str.empty)) = hasT xs (i + 1) y := by
  have e : xs.take (i + 1) = xs.take i ++ [xs[i]] := by rw [List.take_add_one, List.getElem?_eq_getElem h]; rfl
  have d : xs.getD i Str.empty = xs[i] := by rw [List.getD_eq_getElem?_getD, List.getElem?_eq_getElem h]; rfl
  unfold hasT
  rw [e, d, List.any_append]
  congr 1
  rw [List.any_cons, List.any_nil, Bool.or_false]
  by_cases q : y = xs[i]
  · rw [decide_eq_true q, q, beq_self_eq_true]
  · rw [decide_eq_false q]
    exact (beq_eq_false_iff_ne.mpr fun z => q z.symm).symm
theorem hasT_not {xs : List Str} (nd : xs.Nodup) {i : Nat} (h : i < xs.length) : hasT xs i (xs.getD i Str.empty) = false := by
  unfold hasT
  rw [List.getD_eq_getElem?_getD, List.getElem?_eq_getElem h]
  refine Bool.eq_false_iff.mpr fun z => ?_
  obtain ⟨y, hy, e⟩ := List.any_eq_true.mp z
  obtain rfl := beq_iff_eq.mp e
  obtain ⟨j, hj, ej⟩ := List.mem_iff_getElem.mp hy
  rw [List.length_take] at hj
  rw [List.getElem_take] at ej
  have := (List.getElem_inj nd).mp ej
  omega
section
variable {prog : Program} {w : World} {A : Around} {s : Shared}
/-- the loop that puts them in -/
theorem put_texts {R : Result → Shared → Prop} {I : Addr} {fp wr : List Addr} {G : Array GenState → Array GenState → Prop} {P : Nat → Value → Prop} {St : Nat → Shared → Prop} {xs : List Str}
    (W : WalksS prog w A.in1 I fp wr G xs.length P St) (S : Addr) (out : S ∉ fp) (nd : xs.Nodup) (few : xs.length < 100) (tells : ∀ i v, P i v → ∃ t, v = .str (xs.getD i Str.empty) t) :
    ∀ (left i : Nat) (s : Shared), i + left = xs.length → St i s → s.heap.SetOf (PySem.strKind prog w) S (hasT xs i) i →
      (∀ s', Moved (S :: wr) G s s' → s'.heap.SetOf (PySem.strKind prog w) S (hasT xs xs.length) xs.length → R (.ok (.ret .none)) s') →
      codeAny (model prog w) A (.builtin "set.update.loop" ⟨[.ref S, .ref I], []⟩) R s := by
  have stays : ∀ {s s' : Shared} {i : Nat}, Moved wr G s s' → s.heap.SetOf (PySem.strKind prog w) S (hasT xs i) i → s'.heap.SetOf (PySem.strKind prog w) S (hasT xs i) i := fun m h => by
    obtain ⟨o, es, ep, t, ho, z⟩ := h
    exact ⟨o, es, ep, t, m.heap S _ (fun q => out (W.sub _ q)) ho, z⟩
  intro left
  induction left with
  | zero =>
    intro i s e st h k
    obtain rfl : i = xs.length := by omega
    refine codeAny_builtin F.entry_set_update_loop ?_
    rw [Around.under_plainId F.plain_set_update_loop _]
    show wpAny _ A.in1 (do let x ← pyNext (.ref I); _) _ _ s
    exact wpAny_bind (W.done s _ _ st fun s' m => wpAny_pure (k s' (m.mono fun b q => .tail _ q) (stays m h)))
  | succ left ih =>
    intro i s e st h k
    have lt : i < xs.length := by omega
    refine codeAny_builtin F.entry_set_update_loop ?_
    rw [Around.under_plainId F.plain_set_update_loop _]
    show wpAny _ A.in1 (do let x ← pyNext (.ref I); _) _ _ s
    refine wpAny_bind (W.item i s _ _ lt st fun v s1 p st1 m => ?_)
    obtain ⟨t, rfl⟩ := tells i v p
    have h1 := stays m h
    refine wpAny_bind (wpAny_holding ?_)
    unfold setAdd
    refine wpAny_holding (wpAny_bind ((PySem.strKind prog w).pyHash (k := xs.getD i Str.empty) (strKind_is _ _ _ _) ?_))
    refine wpAny_setAddHashed_of (knd := PySem.strKind prog w) (s := { s1 with toks := s1.toks + 1 }) (strKind_is _ _ _ _) rfl h1 (by unfold scanBound; omega) fun h' only h2 => ?_
    have h3 : h'.SetOf (PySem.strKind prog w) S (hasT xs (i + 1)) (i + 1) := SetOf_congr h2 (hasT_more lt) (by rw [hasT_not nd lt]; rfl)
    refine wpAny_pure ⟨plainId_quiet F.plain_set_update_loop _, ih (i + 1) _ (by omega) (W.frame _ s1 _ _ st1 (Nat.le_succ _) fun b q o z => ?_) h3 fun s2 m2 h4 => k s2 ?_ h4⟩
    · rw [only.2 b fun z => out (z ▸ q)]
      exact z
    · refine Moved.trans W.gtrans ((m.mono fun b q => .tail _ q).then_heap (Nat.le_succ _) fun b o q z => ?_) m2
      rw [only.2 b fun z => q (z ▸ .head _)]
      exact z
/-- set(l), by its loop -/
theorem set_of_list {Q : Value → Shared → Prop} {E : Value → Shared → Prop} {l : Addr} {items : Array Value} (calm : A.handled = none) (hl : s.heap.IsList l items) (Z : Heap → Addr → Prop)
    (loop : ∀ (B : Around) (R : Result → Shared → Prop) (I : Addr) (t : Shared), B.handled = none → s.heap.objs.size ≠ I → l ≠ I → s.heap.objs.size ≠ l → t.heap.IsListIter I l 0 → t.heap.IsList l items → t.heap.SetOf (PySem.strKind prog w) s.heap.objs.size (fun _ => false) 0 →
      (∀ t', Moved [s.heap.objs.size, I] (fun a b => b = a) t t' → Z t'.heap s.heap.objs.size → R (.ok (.ret .none)) t') →
      codeAny (model prog w) B (.builtin "set.update.loop" ⟨[.ref s.heap.objs.size, .ref I], []⟩) R t)
    (k : ∀ (h' : Heap) (tk : Nat), Z h' s.heap.objs.size → (∀ b o, s.heap.get? b = some o → h'.get? b = some o) → Q (.ref s.heap.objs.size) { s with heap := h', toks := tk }) :
    wpAny (model prog w) A (call (.type "set") [.ref l]) Q E s := by
  have born := PySem.F.called_set
  obtain ⟨cls, rest, eqm⟩ := born.mro
  have a1 := born.made
  have a2 := born.sub
  have a3 := born.notType
  have a4 := born.canCreate
  have a5 := PySem.F.typeCall_set_1 (.ref l)
  refine wpAny_call (codeAny_of_tree ?_)
  show wpAny _ _ (callAny (.type "set") _) _ _ _
  refine wpAny_pure ⟨Code.quiet_builtin _ (by decide +kernel), codeAny_builtin PySem.F.entry_type_call ?_⟩
  rw [Around.under_plain (weight_type_call_type "set" [.ref l] []) rfl]
  repeat (any_goals (first | assumption | wp_step))
  let fresh : Bool → Obj := fun b => { cls := .type "set", dict := none, data := .set #[] 0 (.fresh 0 0 b) }
  refine codeAny_mono (code_set_new_1 (.ref l) (E := E) (Q₁ := fun u t => ∃ b, u = .ref s.heap.objs.size ∧ t = { s with heap := s.heap.push (fresh b) }) fun b => ⟨b, rfl, rfl⟩) fun r t hr => ?_
  rcases r with e | fl
  · exact hr
  cases fl with
  | next => exact hr.elim
  | brk => exact hr.elim
  | cont => exact hr.elim
  | ret u =>
  obtain ⟨b, rfl, rfl⟩ := hr
  have at_ : (s.heap.push (fresh b)).get? s.heap.objs.size = some (fresh b) := Heap.get?_push_size _ rfl
  have a6 : Shared.TypeIs { s with heap := s.heap.push (fresh b) } (.ref s.heap.objs.size) "set" := ⟨_, at_, rfl⟩
  have a7 := born.init.lookup
  have a8 := born.init.bind (.ref s.heap.objs.size)
  repeat (any_goals (first | assumption | wp_step))
  have ll : l < s.heap.objs.size := by
    obtain ⟨o, ho, _⟩ := id hl
    exact Heap.lt_size ho
  have hl2 : (s.heap.push (fresh b)).IsList l items := hl.push _
  refine codeAny_mono (codeAny_call_builtin (R := wants (fun u t => u = .none ∧ ∃ h' tk, t = { s with heap := h', toks := tk } ∧ Z h' s.heap.objs.size ∧ ∀ b o, s.heap.get? b = some o → h'.get? b = some o) E) born.init.plain PySem.F.entry_set_init (check_set_init_1 a6 ?_)) fun r t hr => ?_
  · obtain ⟨ol, hol, hcl, nl, hdl⟩ := id hl
    obtain ⟨lc, ld_, ldat, lsl⟩ := ol
    dsimp only at hcl hdl
    subst hcl hdl
    have hol2 : (s.heap.push (fresh b)).get? l = some { cls := .type "list", dict := ld_, data := .seq items nl, slots := lsl } := Heap.get?_push_of_some _ hol
    have b1 := PySem.F.sub_list_set
    have b2 := PySem.F.sub_list_frozenset
    have b3 : (Value.type "list" == Value.type "dict") = false := by decide
    unfold Builtin.«set.__init__» noKeywords Builtin.Frozenset.updateFrom
    generalize hold : pyIter = it
    wp_walk
    subst hold
    refine wpAny_pyIter_list hl2 (wpAny_bind (wpAny_runValue ?_))
    have nI : (s.heap.push (fresh b)).objs.size = s.heap.objs.size + 1 := Heap.size_push _ _
    refine loop _ _ _ _ (by simp [calm]) (by rw [nI]; exact Nat.ne_of_lt (Nat.lt_succ_self _)) (by rw [nI]; exact Nat.ne_of_lt (Nat.lt_succ_of_lt ll)) (Nat.ne_of_gt ll) ?_ ?_ ?_ fun t' m z => ?_
    · exact ⟨_, Heap.get?_push_size _ rfl, rfl, rfl⟩
    · exact hl2.push _
    · exact SetOf_congr ((setObjOf_fresh (knd := PySem.strKind prog w) b).setOf (Heap.get?_push_of_some _ at_) (by unfold scanBound; omega)) (fun _ => rfl) rfl
    · obtain ⟨h', g', d', tk', os'⟩ := t'
      obtain rfl : g' = s.gens := m.gens
      obtain rfl : d' = s.drawn := m.drawn
      obtain rfl : os' = s.os := m.os
      refine wpAny_pure (wpAny_pure ⟨rfl, h', tk', rfl, z, fun c o q => ?_⟩)
      have lc := Heap.lt_size q
      refine m.heap c o (fun q2 => ?_) (Heap.get?_push_of_some _ (Heap.get?_push_of_some _ q))
      simp only [List.mem_cons, List.not_mem_nil, or_false] at q2
      rw [nI] at q2
      rcases q2 with q2 | q2
      · exact absurd lc (by rw [q2]; exact Nat.lt_irrefl _)
      · exact absurd lc (by rw [q2]; exact Nat.not_lt.mpr (Nat.le_succ _))
  · rcases r with e | fl
    · exact hr
    cases fl with
    | next => exact hr.elim
    | brk => exact hr.elim
    | cont => exact hr.elim
    | ret u =>
    obtain ⟨rfl, h', tk, rfl, z, keep⟩ := hr
    repeat (any_goals (first | assumption | wp_step))
    exact k h' tk z keep
end
section
variable {X : Cx}
/-- len(set(xs)), xs a list of texts -/
def tLenT (K : PySem.W.Frag) (ta : TE) : TE := fun σ H Q => ta σ H fun x H1 => ∃ (l : Addr) (xs : List Str), x = .ref l ∧ SqL K H1 l (xs.map V.str) ∧ xs.Nodup ∧ xs.length < 100 ∧ Q (.int xs.length) H1
theorem pe_lenT {a : Expr} {ta : TE} {p p2 q pos : Pos} (hc : X.calm = true) (hg : Gl X "len") (hm : X.mg "len" = none) (hg2 : Gl X "set") (hm2 : X.mg "set" = none) (ha : PE X a ta)
    (na : starEach [a] X.env = (false, eval a X.env) :: starEach [] X.env := by rfl) : PE X (.Call (.Name "len" p) [.Call (.Name "set" p2) [a] [] q] [] pos) (tLenT X.K ta) := by
  refine ⟨fun pins s σ H Q I want => ?_⟩
  refine Call_ (ld_blt I hg hm boot_len (PyProof.Rows.callWith_builtin1 (PyProof.Rows.args_cons (Call_ (ld_blt I hg2 hm2 boot_set ?_)) rfl) rfl rfl))
  refine PyProof.Rows.callWith_type1 (PyProof.Rows.args_cons (thn (ha.run pins s σ H _ I want) fun v s1 ⟨x, H1, I1, r1, l, xs, ex, hq, nd, few, q1⟩ => PyProof.Rows.args_nil ?_) na) na rfl
  subst ex
  cases r1
  obtain ⟨its, r, pl, hz⟩ := I1.list hq
  have he : its.length = xs.length := by rw [← r.length, List.length_map]
  have hs : its.toArray.size = xs.length := by rw [List.size_toArray, he]
  refine set_of_list (I1.ok.hd hc) pl.isList (fun h a => h.SetOf (PySem.strKind X.prog X.w) a (hasT xs xs.length) xs.length) (fun B R J t hh n1 n2 n3 i1 i2 i3 fin => ?_) fun h' tk hS keep => ?_
  · have W := (Walks.list (prog := X.prog) (w := X.w) (A := B.in1) (by simp [hh]) J l n2 its.toArray).toS
    rw [hs] at W
    refine put_texts W _ ?_ nd few (fun i v hv => SS.strs_at (L2.strsAre_of r) i v ?_) xs.length 0 t (by omega) ⟨i1, i2⟩ (SetOf_congr i3 (fun _ => rfl) rfl) fin
    · simp only [List.mem_cons, List.not_mem_nil, or_false, not_or]
      exact ⟨n1, n3⟩
    · rw [Array.getElem?_toList]
      exact hv
  · refine PyProof.Rows.args_nil ?_
    obtain ⟨o, es, ep, t, ho, hex, hd, _, _, _, hf, hn⟩ := hS
    have I2 : Inv X pins σ H1 { s1 with heap := h', toks := tk } := I1.kept fun b o e => keep b o e
    exact call_len_set ho hex hd hf (by rw [hn] <;> omega) ⟨.int xs.length, H1, I2.tok _, ⟨_, by rw [hn]⟩, q1⟩
end
end My
set_option Elab.async false
set_option linter.all false
set_option maxRecDepth 100000
set_option maxHeartbeats 4000000
/-! for i, x in enumerate(t), t a tuple -/
namespace My
open PySem L2 PySem.Spec PyProof.Rows PySem.W
abbrev walker (t : Addr) : Obj := { cls := .type "tuple_iterator", data := .fields #[.ref t, .int 0 0] }
abbrev counter (it : Addr) : Obj := { cls := .type "enumerate", data := .fields #[.none, .bool false, .ref it, rawInt 0, .none, .none] }
theorem born_enum (t : Addr) (items : Array Value) : Meets (Builtin.«enumerate.__new__» ⟨[.type "enumerate", .ref t], []⟩) (fun _ R s => s.heap.IsTuple t items ∧
      R (.ok (.ret (.ref (s.heap.push (walker t)).objs.size))) { s with heap := (s.heap.push (walker t)).push (counter s.heap.objs.size) }) := .of_wp fun prog w A R s want => by
  obtain ⟨hp, g, d, tk, os⟩ := s
  obtain ⟨is_, want⟩ := want
  have a1 := sub_enumerate
  have walks : ∀ {B : Around} {E : Value → Shared → Prop} {Q : Value → Shared → Prop}, Q (.ref hp.objs.size) ⟨hp.push (walker t), g, d, tk, os⟩ → wpAny (model prog w) B (pyIter (.ref t)) Q E ⟨hp, g, d, tk, os⟩ := fun q =>
    (begins_tuple t items).iter prog w _ _ ⟨hp, g, d, tk, os⟩ _ is_ q
  obtain ⟨ot, hot, hct, nt, hdt⟩ := id is_
  obtain ⟨c0, d0, dt0, s0⟩ := ot
  dsimp only at hct hdt
  subst hct hdt
  wp_walk using wpAny_loadPart' hot
  refine wpAny_stack_any fun st => wpAny_pure ?_
  split
  · rename_i c _ _ _ _ _
    cases (c == Value.type "enumerate") <;> (wp_walk using wpAny_loadPart' hot, walks; exact ⟨_, rfl, want⟩)
  · wp_walk using wpAny_loadPart' hot, walks
    exact ⟨_, rfl, want⟩
theorem call_enumT {prog : Program} {w : World} {A : Around} {E : Value → Shared → Prop} {s : Shared} {t : Addr} {items : Array Value} {Q : Value → Shared → Prop} (is_ : s.heap.IsTuple t items)
    (k : ∀ h', IsEnum h' (s.heap.objs.size + 1) s.heap.objs.size 0 .none → h'.IsTupleIter s.heap.objs.size t 0 → (∀ b o, s.heap.get? b = some o → h'.get? b = some o) → Q (.ref (s.heap.objs.size + 1)) { s with heap := h' }) :
    wpAny (model prog w) A (call (.type "enumerate") [.ref t]) Q E s := by
  have z1 : (s.heap.push (walker t)).objs.size = s.heap.objs.size + 1 := Heap.size_push ..
  have here : IsEnum ((s.heap.push (walker t)).push (counter s.heap.objs.size)) (s.heap.objs.size + 1) s.heap.objs.size 0 .none := by
    have q := Heap.get?_push_size (s.heap.push (walker t)) (o := counter s.heap.objs.size) rfl
    rw [z1] at q
    exact q
  refine callType_new F.called_enumerate (by decide) (F.typeCall_enumerate_1 _) (F.newCall_enumerate_1 _) (fun obj => F.args_object_init_2 obj _) F.entry_enumerate_new (born_enum t items) ⟨is_, ?_⟩
  show _ ∧ _
  rw [z1]
  exact ⟨⟨_, here, rfl⟩, k _ here ⟨_, Heap.get?_push_of_some _ (Heap.get?_push_size _ rfl), rfl, rfl⟩ fun b o x => Heap.get?_push_of_some _ (Heap.get?_push_of_some _ x)⟩
def IteT (K : PySem.W.Frag) (a : Addr) : It where
  go := fun i H => ∃ (xs : List V) (x : V), SqT K H a xs ∧ xs[i]? = some x
  yld := fun i H v H' => ∃ T x, v = .ref T ∧ H T = none ∧ H' = upd H T (.tup [.int (i : Nat), x]) ∧ ∀ xs, SqT K H a xs → xs[i]? = some x
  stop := fun i H => ∃ xs : List V, SqT K H a xs ∧ xs.length = i
theorem turn_enumT {P : Program} {w : World} {K : PySem.W.Frag} {elts : List Expr} {kk : Nat} {tpos : Pos} (a e it : Addr) :
    Turn P w K (.Tuple elts kk tpos) (IteT K a) [e, it] e (fun i h => (∃ old, IsEnum h e it ((i : Nat) : Int) old) ∧ h.IsTupleIter it a i ∧ e ≠ it) where
  mem := by simp
  obj := fun i h st b hb => by
    obtain ⟨⟨old, he⟩, ⟨o, ho, hc, hd⟩, _⟩ := st
    rcases (show b = e ∨ b = it by simpa using hb) with rfl | rfl
    · exact ⟨_, he, fun v q => nomatch q⟩
    · exact ⟨o, ho, fun v q => by rw [hd] at q; cases q⟩
  keep := fun i h h' st k => ⟨st.1.imp fun old he => k e (by simp) _ he, st.2.1.at fun o q => k it (by simp) o q, st.2.2⟩
  item := by
    intro X hP hw hK hc i pins s σ H E I hf st hg
    subst hP hw hK
    obtain ⟨⟨old, he⟩, hit, hne⟩ := st
    obtain ⟨xs, x, hq, hx⟩ := hg
    obtain ⟨its, rv, p, hz⟩ := I.tuple hq
    have isT : s.heap.IsTuple a its.toArray := p
    obtain ⟨u, hu, ru⟩ := rv.get hx
    have hel : e < s.heap.objs.size := Heap.lt_size he
    have hil : it < s.heap.objs.size := by obtain ⟨_, q, _⟩ := hit; exact Heap.lt_size q
    have nai : a ≠ it := fun z => by
      obtain ⟨o1, h1, c1, _⟩ := id isT
      obtain ⟨o2, h2, c2, _⟩ := id hit
      rw [z, h2] at h1
      cases h1
      rw [c2] at c1
      exact absurd c1 (by decide)
    have nea : e ≠ a := fun z => by
      obtain ⟨o1, h1, c1, _⟩ := id isT
      rw [← z, he] at h1
      cases h1
      exact absurd (show ("enumerate" : String) = "tuple" from Value.type.inj c1) (by decide)
    have li : i < its.toArray.size := by
      rw [List.size_toArray, ← rv.length]
      exact (List.getElem?_eq_some_iff.mp hx).1
    refine wpAny_pyNext_enum_itemD (Draws.tuple (by simpa using I.ok.hd hc) it a nai its.toArray) he ⟨hit, isT⟩ li hne (by simp [hne, nea]) fun x' h' tk hx' ho st' hT hsz hk => ?_
    obtain rfl : x' = u := by
      have e2 : its.toArray[i]? = some u := by simpa using hu
      rw [e2] at hx'
      exact (Option.some.inj hx').symm
    refine ⟨_, rfl, wpAny_letOwnedTupleGo_enum (s := { s with heap := h', toks := tk + 1 }) ho fun h'' he' sb => ?_⟩
    have hT2 : h''.get? s.heap.objs.size = some { cls := .type "tuple", data := .seq #[.int i tk, x'] } := (sb.2 _ (Nat.ne_of_gt hel)).trans hT
    have new : ObjOk X.prog X.w (upd H s.heap.objs.size (.tup [.int (i : Nat), x])) h'' s.heap.objs.size (.tup [.int (i : Nat), x]) :=
      ⟨by show 2 ≤ sizeLine; decide, [.int i tk, x'], .cons ⟨_, rfl⟩ (.cons ru .nil), ⟨_, hT2, rfl, _, rfl⟩⟩
    have I1 : Inv X pins σ (upd H s.heap.objs.size (.tup [.int (i : Nat), x])) { s with heap := h'', toks := tk + 1 } :=
      I.turnedNew (ch := [e, it]) (fun b ob hb q => (sb.2 b (fun z => hb (by simp [z]))).trans (hk b ob (fun z => hb (by simp [z])) (fun z => hb (by simp [z])) q)) hf (Nat.le_refl _) new
    refine ⟨.ref s.heap.objs.size, _, I1, rfl, ⟨_, x, rfl, I.hok.fresh (Nat.le_refl _), rfl, fun ys hy => by rw [I.tuple_inj hy hq]; exact hx⟩, ⟨⟨x', ?_⟩, st'.1.at fun o q => (sb.2 it (Ne.symm hne)).trans q, hne⟩, fun b hb => ?_⟩
    · rw [show ((i + 1 : Nat) : Int) = (i : Int) + 1 by omega]
      exact he'
    · have hb' : b < s.heap.objs.size := by
        rcases (show b = e ∨ b = it by simpa using hb) with rfl | rfl
        · exact hel
        · exact hil
      rw [upd_ne (Nat.ne_of_lt hb')]
      exact (hf b hb).1
  done := by
    intro X hP hw hK hc i pins s σ H E I hf st hg
    subst hP hw hK
    obtain ⟨⟨old, he⟩, hit, hne⟩ := st
    obtain ⟨xs, hq, hx⟩ := hg
    obtain ⟨its, rv, p, hz⟩ := I.tuple hq
    have isT : s.heap.IsTuple a its.toArray := p
    obtain ⟨f0, f1, f2, f3, f4, f5⟩ := hf it (by simp)
    have nai : a ≠ it := fun z => by
      obtain ⟨o1, h1, c1, _⟩ := id isT
      obtain ⟨o2, h2, c2, _⟩ := id hit
      rw [z, h2] at h1
      cases h1
      rw [c2] at c1
      exact absurd c1 (by decide)
    have hl : its.toArray.size = i := by rw [List.size_toArray, ← rv.length, hx]
    have D := Draws.tuple (prog := X.prog) (w := X.w) (A := X.A.in1) (by simpa using I.ok.hd hc) it a nai its.toArray
    rw [hl] at D
    exact wpAny_pyNext_enum_endD D he ⟨hit, isT⟩ fun h' eb => ⟨rfl, I.turned (t' := s.toks) (fun b o hb q => eb b o hb q) f0 f1 f3 f4 f5⟩
  self := fun A i s Q E st h => by
    obtain ⟨⟨_, he⟩, _⟩ := st
    exact wpAny_pyIter_enum he h
def iEnumT (K : PySem.W.Frag) (ta : TA) : TI := fun σ H R => ta σ H fun vs H1 => ∃ a xs, vs = [.ref a] ∧ SqT K H1 a xs ∧ R (IteT K a) H1
theorem pi_enumT {X : Cx} {e : Expr} {ta : TA} {p pos tpos : Pos} {elts : List Expr} {kk : Nat} (hg : Gl X "enumerate") (hm : X.mg "enumerate" = none) (ha : PA X [e] ta) (hs : starEach [e] X.env = [(false, eval e X.env)] := by rfl) :
    PI X (.Tuple elts kk tpos) (.Call (.Name "enumerate" p) [e] [] pos) (iEnumT X.K ta) := by
  refine ⟨fun pins s σ H R I want => ?_⟩
  refine Call_ (ld_blt I hg hm boot_enumerate (PyProof.Rows.callWith_type1 (thn (ha.run pos pins s σ H _ I want) fun us s1 ⟨vs, H1, I1, r1, a, xs, ev, hq, q⟩ => ?_) hs rfl))
  subst ev
  cases r1 with
  | @cons _ u0 _ ur ra rest =>
    cases rest
    obtain rfl : u0 = Value.ref a := ra
    obtain ⟨its, rv, p', hz⟩ := I1.tuple hq
    refine call_enumT (show s1.heap.IsTuple a its.toArray from p') fun h' he hit keep => wpAny_pyIter_enum he ?_
    have I2 : Inv X pins σ H1 { s1 with heap := h' } := I1.kept (t' := s1.toks) keep
    refine ⟨s1.heap.objs.size + 1, [s1.heap.objs.size + 1, s1.heap.objs.size], _, _, H1, rfl, I2, turn_enumT a (s1.heap.objs.size + 1) s1.heap.objs.size, ⟨⟨.none, he⟩, hit, Nat.succ_ne_self _⟩, fun b hb => ?_, q⟩
    have big : s1.heap.objs.size ≤ b := by
      rcases (show b = s1.heap.objs.size + 1 ∨ b = s1.heap.objs.size by simpa using hb) with rfl | rfl
      · exact Nat.le_add_right _ _
      · exact Nat.le_refl _
    exact I1.fpOk big (I1.hok.fresh big)
theorem walk_enumT {K : PySem.W.Frag} {a : Addr} {xs : List V} : Walk (IteT K a) xs.length (fun H => SqT K H a xs) (YPair (fun i => some (.int (i : Nat))) (fun i => xs[i]?)) := by
  refine ⟨fun i _ hi q => ⟨xs, xs[i], q, List.getElem?_eq_getElem hi⟩, fun _ q => ⟨xs, q, rfl⟩, fun i H v H' _ q y => ?_⟩
  obtain ⟨T, x, h1, h2, h3, h4⟩ := y
  exact ⟨T, _, x, h1, h2, h3, rfl, h4 xs q⟩
end My
set_option Elab.async false
set_option linter.all false
set_option maxRecDepth 100000
set_option maxHeartbeats 4000000
/-! a text times a number -/
namespace My
open PySem L2 PySem.Spec PyProof.Rows
def timesS (s : Str) (n : Nat) : Str := ⟨(List.replicate n s.cps).foldl (· ++ ·) #[]⟩
theorem times_size (a : Array Nat) : ∀ (n : Nat) (acc : Array Nat), ((List.replicate n a).foldl (· ++ ·) acc).size = acc.size + a.size * n
  | 0, acc => by simp
  | n + 1, acc => by
    rw [List.replicate_succ, List.foldl_cons, times_size a n, Array.size_append, Nat.mul_succ]
    omega
theorem op_mulS {X : Cx} : OpR X (binaryOp .Mult) (fun x y H Q => ∃ (s : Str) (n : Nat), x = .str s ∧ y = .int (n : Int) ∧ s.length ≤ 1000 ∧ s.length ≠ 0 ∧ 1 ≤ n ∧ n ≤ 1000 ∧ Q (.str (timesS s n)) H) := by
  intro pins st σ H x y v u Q I rx ry want
  obtain ⟨s, n, rfl, rfl, ls, l0, n1, n2, q⟩ := want
  obtain ⟨t, rfl⟩ := rx
  obtain ⟨t', rfl⟩ := ry
  refine P.mul_str ?_ (fun _ _ => ?_) (fun _ _ => ?_) ?_
  · rw [decide_eq_false (show ¬ (n : Int) < -(2 ^ 63) by omega), decide_eq_false (show ¬ (n : Int) ≥ 2 ^ 63 by omega)]
    rfl
  · intro z
    have h0 : s.length * n ≤ 1000 * 1000 := Nat.mul_le_mul ls n2
    have h1 : ((s.length : Nat) : Int) * (n : Int) ≤ 2 ^ 63 - 1 := by
      have : ((s.length * n : Nat) : Int) ≤ ((1000 * 1000 : Nat) : Int) := Int.ofNat_le.mpr h0
      rw [Int.natCast_mul] at this
      omega
    have h2 := Int.le_ediv_of_mul_le (show (0 : Int) < (n : Int) by omega) h1
    omega
  · refine decide_eq_false ?_
    have h1 : s.length * (n : Int).toNat ≤ 1000 * 1000 := by
      rw [Int.toNat_natCast]
      exact Nat.mul_le_mul ls n2
    exact Nat.not_lt.mpr (Nat.le_trans h1 (by decide))
  · rw [if_neg (show ¬ (n : Int) < 1 by omega)]
    by_cases c : n = 1
    · subst c
      rw [if_pos (by simp)]
      have e : timesS s 1 = s := by
        show (⟨#[] ++ s.cps⟩ : Str) = s
        rw [Array.empty_append]
      rw [e] at q
      exact ⟨.str s, H, I, ⟨_, rfl⟩, q⟩
    · rw [if_neg (by simp; omega)]
      refine ⟨?_, ⟨.str (timesS s n), H, I.tok _, ⟨_, by rw [Int.toNat_natCast]; rfl⟩, q⟩⟩
      rw [Int.toNat_natCast]
      have h0 : s.length * n ≤ 1000 * 1000 := Nat.mul_le_mul ls n2
      have e : (timesS s n).cps.size = s.length * n := by
        have z := times_size s.cps n #[]
        rw [Array.size_empty, Nat.zero_add] at z
        exact z
      exact Nat.le_trans (Nat.le_of_eq e) (Nat.le_trans h0 (by decide))
end My
set_option Elab.async false
set_option linter.all false
set_option maxRecDepth 100000
set_option maxHeartbeats 4000000
/-! == and != by an own __eq__ whose answer is whatever its promise says -/
namespace My
open PySem L2 PySem.Spec PyProof.Rows
section
variable {X : Cx} {n : Nat} {CX : CXT} {C f : Addr} {fd : FuncData} {ps : List Str} {sp : Sp} {E : XK}
/-- two instances of the class at C; the answer by the promise of __eq__ -/
def rOwnEq (C : Addr) (sp : Sp) (E : XK) : R2 := fun x y H Q => ∃ a b dx dy fs gs, x = .ref a ∧ y = .ref b ∧ H a = some (.ins C dx fs) ∧ H b = some (.ins C dy gs) ∧ sp [.ref a, .ref b] H (fun v H' => ∃ k, v = .bl k ∧ Q (.bl k) H') E
def rOwnNe (C : Addr) (sp : Sp) (E : XK) : R2 := fun x y H Q => ∃ a b dx dy fs gs, x = .ref a ∧ y = .ref b ∧ H a = some (.ins C dx fs) ∧ H b = some (.ins C dy gs) ∧ sp [.ref a, .ref b] H (fun v H' => ∃ k, v = .bl k ∧ Q (.bl (!k)) H') E
/-- the call of __eq__ itself, from any place with room -/
theorem own_call {A : Around} {pins : List (Addr × Obj)} {s : Shared} {σ : L2.St} {H : Hp} {a b : Addr} {Q : VK} (F : FnOk X.prog X.w X.K X.mg X.base CX n f fd ps sp) (hb : Binds X.K fd ps []) (hx : Passes CX X E) (hr : Room n A) (fr : A.frames = X.A.frames)
    (I : Inv X pins σ H s) (h : sp [.ref a, .ref b] H Q E) : wpAny (model X.prog X.w) A (call (.ref f) [.ref a, .ref b]) (EP X pins σ Q) X.xe s := by
  have e0 : Env0 X.prog X.w X.K X.mg X.base A X.stack s H := by
    have e := I.env0
    exact ⟨by rw [fr]; exact e.frames, e.mod, e.bs, e.bsz, e.funs, e.frf, e.hok, e.bare⟩
  have hl := F.len _ _ _ _ h
  refine wpAny_call (codeAny_mono (F.run A X.stack s H ⟨[.ref a, .ref b], []⟩ [.ref a, .ref b] [.ref a, .ref b] _ E hr e0 (by
    have := hb s [.ref a, .ref b] I.kIn (by simpa using hl)
    simpa using this) (.cons rfl (.cons rfl .nil)) h) fun r s' hq => ?_)
  cases r with
  | error e => exact hx pins σ H s e s' I hq
  | ok fl =>
    cases fl with
    | ret w => exact I.after hq
    | next => exact False.elim hq
    | brk => exact False.elim hq
    | cont => exact False.elim hq
theorem op_ownEq (F : FnOk X.prog X.w X.K X.mg X.base CX n f fd ps sp) (hs : PySem.W.findIn X.K (.ref C) "__eq__" = some (some (.ref f))) (hf : PySem.W.isFn X.K (.ref f) = true) (hb : Binds X.K fd ps []) (hx : Passes CX X E) (hr : Room n X.A) :
    OpR X (compareOp .Eq) (rOwnEq C sp E) := by
  intro pins s σ H x y v u Q I rx ry h
  obtain ⟨a, b, dx, dy, fs, gs, rfl, rfl, ha, hb', h⟩ := h
  cases rx
  cases ry
  obtain ⟨mA, J, _⟩ := ins_get I.hok ha
  obtain ⟨mB, J', _⟩ := ins_get I.hok hb'
  obtain ⟨od, J, _⟩ := J.look
  obtain ⟨od', J', _⟩ := J'.look
  obtain ⟨m, hF⟩ := I.fr
  show wpAny (model X.prog X.w) X.A (richCompare .Eq (.ref a) (.ref b)) (EP X pins σ Q) X.xe s
  refine PySem.W.cmp_K (op := .Eq) (tb := .ref C) (by have := hr.un; omega) hF I.ok.mod.kin J J'.type (by simp [PySem.W.notFirst]) hs hf ?_
  refine wpAny_mono (own_call F hb hx hr rfl I h) (fun r s' z => ?_) fun _ _ z => z
  obtain ⟨w, H', I', rw_, k, rfl, q⟩ := z
  cases rw_
  exact ⟨.bl k, H', I', rfl, q⟩
/-- a slot of object, bound and called -/
theorem ifBound_slot {M : Model} {A : Around} {E : Value → Shared → Prop} {K : PySem.W.Frag} {s : Shared} {x C : Addr} {ox : Obj} {od : Option Obj} {name : Str} {id : String} {args : List Value} {Q : Option Value → Shared → Prop} (KX : K.In s.heap) (I : PySem.W.InstAt s.heap x ox C od)
    (hs : PySem.W.findIn K (.ref C) name = some (some (.builtin id))) (bd : bindSpecial (.builtin id) (.ref x) = pure (.builtin id, [.ref x])) (h : wpAny M A (call (.builtin id) (.ref x :: args)) (fun v => Q (some v)) E s) :
    wpAny M A (callSpecialIfBound? (.ref x) name args) Q E s := by
  have told : wpAny M A (call (.builtin id) ([.ref x] ++ args) >>= fun v => pure (some v)) Q E s := wpAny_bind (wpAny_mono h (fun v s' z => wpAny_pure z) fun _ _ z => z)
  simp only [callSpecialIfBound?, bindSpecialIfBound?]
  refine wpAny_holding (wpAny_bind (wpAny_bind (wpAny_bind (I.type.here ((PySem.W.looks_findIn KX hs).here ?_)))))
  simp only [bd]
  refine wpAny_bind (wpAny_askSetting (wpAny_ite ?_))
  split
  · exact wpAny_bind (wpAny_pure (wpAny_pure told))
  · exact wpAny_tryCatch (wpAny_bind (wpAny_pure (wpAny_pure told)))
theorem ne_bind (x : Addr) : bindSpecial (.builtin "object.__ne__") (.ref x) = pure (.builtin "object.__ne__", [.ref x]) := F.cmp_object.ne.bind (.ref x)
theorem op_ownNe (F : FnOk X.prog X.w X.K X.mg X.base CX n f fd ps sp) (hs : PySem.W.findIn X.K (.ref C) "__eq__" = some (some (.ref f))) (hf : PySem.W.isFn X.K (.ref f) = true) (hb : Binds X.K fd ps []) (hx : Passes CX X E) (hr : Room (n + 1) X.A)
    (hn : PySem.W.findIn X.K (.ref C) "__ne__" = some (some (.builtin "object.__ne__"))) (hm : PySem.W.mroIn X.K C (.type "object") = some true) :
    OpR X (compareOp .NotEq) (rOwnNe C sp E) := by
  intro pins s σ H x y v u Q I rx ry h
  obtain ⟨a, b, dx, dy, fs, gs, rfl, rfl, ha, hb', h⟩ := h
  cases rx
  cases ry
  obtain ⟨mA, J, _⟩ := ins_get I.hok ha
  obtain ⟨mB, J', _⟩ := ins_get I.hok hb'
  obtain ⟨od, J, _⟩ := J.look
  obtain ⟨od', J', _⟩ := J'.look
  have KX := I.kIn
  have hu := hr.un
  have inner : wpAny (model X.prog X.w) X.A.in1 (Builtin.«object.__ne__» ⟨[.ref a, .ref b], []⟩) (fun t s' => ∃ k, t = .done (.ret (.bool k)) ∧ EP X pins σ Q (.bool k) s') X.xe s := by
    unfold Builtin.«object.__ne__»
    refine wpAny_bind (m := slotArgs "__ne__" 1 _) (wpAny_pure ?_)
    dsimp only
    refine wpAny_bind (wpAny_cRoomFor (by show X.A.units + 1 < cLine; omega) ?_)
    refine wpAny_bind (PySem.W.ifBound_K KX J hs hf (wpAny_mono (own_call F hb hx hr.in1 rfl I h) (fun r s' z => ?_) fun _ _ z => z))
    obtain ⟨w, H', I', rw_, k, rfl, q⟩ := z
    cases rw_
    dsimp only
    refine wpAny_bind (m := truthy (.bool k)) ?_
    refine wpAny_truthy_bool ?_
    exact wpAny_pure ⟨!k, rfl, .bl (!k), H', I', rfl, q⟩
  show wpAny (model X.prog X.w) X.A (richCompare .NotEq (.ref a) (.ref b)) (EP X pins σ Q) X.xe s
  have sub : PySem.W.Looks (model X.prog X.w) s.heap (isInstance (.ref a) (.type "object")) true := J.type.andThen (PySem.W.looks_mroIn KX hm)
  have one : wpAny (model X.prog X.w) X.A (tryCompare (.ref a) "__ne__" (.ref b)) (fun r s' => ∃ k, r = some (.bool k) ∧ EP X pins σ Q (.bool k) s') X.xe s := by
    unfold tryCompare
    refine wpAny_bind (ifBound_slot KX J hn (ne_bind a) (wpAny_call (codeAny_call_builtin PySem.F.cmp_object.ne.plain PySem.F.cmpEntry_ne (PySem.W.check_slot PySem.F.cmpKind_ne PySem.F.cmpSplit_ne sub (PySem.F.cmpArgs_ne _ _) (wpAny_mono inner (fun t s' z => ?_) fun _ _ z => z)))))
    obtain ⟨k, rfl, q⟩ := z
    exact wpAny_pure ⟨k, rfl, q⟩
  unfold richCompare
  simp only [PySem.oneThing_ref]
  refine wpAny_holding (wpAny_bind (wpAny_cRoomFor (by omega) ?_))
  refine wpAny_bind (J.type.here (wpAny_bind (J'.type.here ?_)))
  rw [if_neg (show ¬ (Value.ref C != Value.ref C) = true by simp)]
  refine wpAny_bind (wpAny_pure ?_)
  simp only [Bool.false_eq_true, if_false]
  refine wpAny_bind (wpAny_mono one (fun r s' z => ?_) fun _ _ z => z)
  obtain ⟨k, rfl, q⟩ := z
  exact wpAny_pure q
/-! ### len(x), x an instance with its own __len__ -/
def rOwnLen (C : Addr) (sp : Sp) (E : XK) : List V → Hp → VK → Prop := fun xs H Q => ∃ a dx fs, xs = [.ref a] ∧ H a = some (.ins C dx fs) ∧ sp [.ref a] H (fun v H' => ∃ k : Nat, v = .int (k : Int) ∧ (k : Int) < 2 ^ 63 ∧ Q (.int (k : Int)) H') E
theorem call_ownLen (F : FnOk X.prog X.w X.K X.mg X.base CX n f fd ps sp) (hs : PySem.W.findIn X.K (.ref C) "__len__" = some (some (.ref f))) (hf : PySem.W.isFn X.K (.ref f) = true) (hb : Binds X.K fd ps []) (hx : Passes CX X E) (hr : Room (n + 1) X.A) :
    CallR X (.builtin "len") (rOwnLen C sp E) := by
  intro pins s σ H xs us Q I r h
  obtain ⟨a, dx, fs, rfl, ha, h⟩ := h
  rw [Vals.ref1 r]
  obtain ⟨mA, J, _⟩ := ins_get I.hok ha
  obtain ⟨od, J, _⟩ := J.look
  obtain ⟨m, hF⟩ := I.fr
  refine PySem.W.len_K hF I.ok.mod.kin J hs hf ?_
  have e0 : Env0 X.prog X.w X.K X.mg X.base X.A.in1 X.stack s H := by
    have e := I.env0
    exact ⟨e.frames, e.mod, e.bs, e.bsz, e.funs, e.frf, e.hok, e.bare⟩
  have hl := F.len _ _ _ _ h
  refine wpAny_call (codeAny_mono (F.run X.A.in1 X.stack s H ⟨[.ref a], []⟩ [.ref a] [.ref a] _ E hr.in1 e0 (by
    have := hb s [.ref a] I.kIn (by simpa using hl)
    simpa using this) (.cons rfl .nil) h) fun r s' hq => ?_)
  cases r with
  | error e => exact hx pins σ H s e s' I hq
  | ok fl =>
    cases fl with
    | ret w =>
      obtain ⟨z, H', I', rz, k, rfl, hk, q⟩ := I.after hq
      obtain ⟨t, rfl⟩ := rz
      exact ⟨⟨Int.natCast_nonneg k, hk⟩, .int (k : Int), H', I'.tok _, ⟨_, rfl⟩, q⟩
    | next => exact False.elim hq
    | brk => exact False.elim hq
    | cont => exact False.elim hq
end
end My
set_option Elab.async false
set_option linter.all false
set_option maxRecDepth 100000
set_option maxHeartbeats 4000000
/-! f-strings of None, texts, ints; a try with several clauses, each of which may name its exception -/
namespace My
open PySem L2 PySem.Spec PyProof.Rows
section
variable {X : Cx}
/-- {x}, x None, a text or an int -/
def tFmtN (te : TE) : TE := fun σ H Q => te σ H fun x H1 => (x = .non ∧ Q (.str "None") H1) ∨ (∃ y : Str, x = .str y ∧ y.length ≤ sizeLine ∧ Q (.str y) H1) ∨ ∃ i : Int, x = .int i ∧ i.natAbs.log2 < 1920 ∧ Q (.str (toString i)) H1
theorem pe_fmtN {e : Expr} {te : TE} {pos : Pos} (he : PE X e te) : PE X (.FormattedValue e (-1) none pos) (tFmtN te) := by
  refine ⟨fun pins s σ H Q I h => wpAny_FormattedValue_plain (thn (he.run pins s σ H _ I h) fun v s1 ⟨x, H1, I1, r1, q⟩ => ?_)⟩
  rcases q with ⟨rfl, q⟩ | ⟨y, rfl, hz, q⟩ | ⟨i, rfl, hz, q⟩
  · cases r1
    exact wpAny_formatField_none ⟨.str "None", H1, I1.tok _, ⟨_, rfl⟩, q⟩
  · obtain ⟨t, rfl⟩ := r1
    exact wpAny_formatField_str ⟨.str y, H1, I1, ⟨t, rfl⟩, q⟩ ⟨.str y, H1, I1.tok _, ⟨_, rfl⟩, q⟩ hz
  · obtain ⟨t, rfl⟩ := r1
    exact wpAny_formatField_int hz ⟨.str (toString i), H1, I1.tok _, ⟨_, rfl⟩, q⟩
/-- an except clause: its class, the slot of its name, its suite -/
structure Clause where
  c : Value
  i : Nat
  ts : Addr → Value → Option Addr → TS
/-- behind a suite the clause's name is unbound -/
def unbound (i : Nat) (D : Ends) : Ends := { nx := fun σ H => D.nx (σ.set i none) H, rt := D.rt, bk := fun σ H => D.bk (σ.set i none) H, ct := fun σ H => D.ct (σ.set i none) H }
/-- what is wished for where an exception comes out of the body: the clauses one behind the other -/
def wClauses (K : PySem.W.Frag) (Wout : WX) (D : Ends) : List Clause → WX
  | [] => Wout
  | k :: r => fun cls d σ H => ∃ b, PySem.W.exmOne K cls k.c = some b ∧ (b = true → ∀ a, H a = none → k.ts a cls d (unbound k.i D) (σ.set k.i (some (.ref a))) H) ∧ (b = false → wClauses K Wout D r cls d σ H)
inductive ClausesOk (X : Cx) : List ExceptHandler → List Clause → Prop
  | nil : ClausesOk X [] []
  | cons {x n : Str} {k : Clause} {b₀ : Stmt} {suite : List Stmt} {np pos' : Pos} {hds : List ExceptHandler} {l : List Clause} (hi : X.N[k.i]? = some n) (hln : X.env.kindOf n = some .local) (hc : Names X x k.c)
      (hsu : ∀ (a : Addr) (oe : Obj) (cls : Value) (d : Option Addr) (pn : List (Addr × Obj)), Zc cls d oe → (∃ vs, oe.data = .fields vs) → PSs (X.suite a ((a, oe) :: pn)) (b₀ :: suite) (k.ts a cls d)) (r : ClausesOk X hds l) :
      ClausesOk X (.ExceptHandler (some (.Name x np)) (some n) (b₀ :: suite) pos' :: hds) (k :: l)
variable {body : List Stmt} {h₀ : ExceptHandler} {hds : List ExceptHandler} {l : List Clause} {pos : Pos} {tb : WX → TS} {Wout : WX}
theorem ps_try_clauses (hs : X.stack = X.env :: X.outer) (hf : X.env.frame = some X.env.locals) (hN : X.N.Nodup) (tk : Takes X Wout)
    (hb : ∀ (W : WX) (pn : List (Addr × Obj)) (xe : Value → Shared → Prop), Takes (X.tr pn xe) W → PassesOwn (model X.prog X.w) X.A X.env xe → PSs (X.tr pn xe) body (tb W))
    (hh : ClausesOk X (h₀ :: hds) l) : PS X (.Try body (h₀ :: hds) [] [] pos) (fun D σ H => tb (wClauses X.K Wout D l) D σ H) := by
  refine ⟨fun pins s σ H D I want => wpAny_Try_except ?_⟩
  have ok := I.ok
  have stacked : X.A.frames = some (X.env :: X.outer) := ok.frames.trans (congrArg some hs)
  let caught : Value → Shared → Prop := fun e s₁ => wpAny (model X.prog X.w) X.A (noteFrame e X.env) (fun _ s₂ => wpAny (model X.prog X.w) X.A (setFlight e none) (fun _ s₃ =>
    wpAny (model X.prog X.w) X.A (handleBy e X.env (h₀ :: hds)) (SP X pins D) X.xe s₃) X.xe s₂) X.xe s₁
  have takes : Takes (X.tr (X.pn ++ pins) caught) (wClauses X.K Wout D l) := by
    rintro u s' ⟨a, B, sI, pins', σ', H', cls, d, rfl, J', nb, up, sky, na, os, ag, wish⟩
    have J : Inv X pins σ' H' sI := J'.ofTry ok
    show wpAny (model X.prog X.w) X.A (noteFrame (.ref a) X.env) _ _ _
    refine Sky.land Zc.steady stacked hf (show Sky B (X.env :: X.outer) a (Zc cls d) X.env.locals s'.heap by rw [← hs]; exact sky) fun h3 landed up3 => ?_
    have J3 : Inv X pins σ' H' { s' with heap := h3 } := J.landed nb landed.1 (up.trans up3) os ag
    obtain ⟨oe, vs, at3, like3, fields3⟩ := landed.there
    have apart : a ∉ frs (X.env :: X.outer) := fun m => by
      obtain ⟨_, o, e, other⟩ := landed.2.2.1.mem m
      obtain rfl : oe = o := Option.some.inj (at3.symm.trans e)
      exact other _ fields3
    have off1 : a ≠ X.env.locals := fun z => apart (List.mem_filterMap.mpr ⟨X.env, List.mem_cons_self, by rw [hf, z]⟩)
    have off2 : a ∉ X.fs := fun m => by
      obtain ⟨e, he, q⟩ := List.mem_filterMap.mp m
      exact apart (List.mem_filterMap.mpr ⟨e, List.mem_cons_of_mem _ he, q⟩)
    have S3 := J3.suite at3 fields3 na off1 off2
    have go : ∀ {hs2 : List ExceptHandler} {l2 : List Clause}, ClausesOk X hs2 l2 → wClauses X.K Wout D l2 cls d σ' H' →
        wpAny (model X.prog X.w) X.A (handleBy (.ref a) X.env hs2) (SP X pins D) X.xe { s' with heap := h3 } := by
      intro hs2 l2 fit
      induction fit with
      | nil =>
        intro wish
        have on : wpAny (model X.prog X.w) X.A (setFlight (.ref a) X.env.frame) (fun _ s4 => wpAny (model X.prog X.w) X.A (throw (.ref a) : Sem Flow) (SP X pins D) X.xe s4) X.xe { s' with heap := h3 } := by
          rw [hf]
          exact HandSPX.setFlight_upZ landed fun h4 hot up4 => wpAny_throw (tk _ _ ⟨a, B, sI, pins, σ', H', cls, d, rfl, J, nb, (up.trans up3).trans up4, .inr (.inr (by rw [hs]; exact hot)), na, os, ag, wish⟩)
        obtain ⟨_, _, _, o4, vs4, T, oT, tb4, at4, like4, fields4, first4, _⟩ := id landed
        refine wpAny_handleBy_nil ?_
        unfold PySem.passOn
        refine wpAny_bind (wpAny_field at4 fields4 first4 ?_)
        rw [if_neg (show ¬ (Value.ref T == Value.none) = true by simp)]
        first
          | exact wpAny_bind on
          | exact wpAny_bind (wpAny_pure (wpAny_bind on))
      | @cons x n k b₀ suite np pos' hs3 l3 hi hln hc hsu rest ih =>
        rintro ⟨b, asks, yes, no⟩
        have kindOf : PySem.W.Looks (model X.prog X.w) h3 (typeOf (.ref a)) cls := fun A Q E s keep q => wpAny_typeOf_ref (keep _ _ at3) (by rw [like3.1]; exact q)
        have answer := PySem.W.exm_one (M := model X.prog X.w) J3.kIn kindOf asks
        have named : ∀ {Q : Value → Shared → Prop} {E : Value → Shared → Prop}, Q k.c { s' with heap := h3 } → wpAny (model X.prog X.w) (X.A.mark (some (.ref a))) (eval (.Name x np) X.env) Q E { s' with heap := h3 } := fun {Q E} q => by
          obtain ⟨gl, dbg, m | ⟨m, bt, nn⟩⟩ := hc
          · exact ld_glob (X := X.suite a ((a, oe) :: (X.pn ++ pins))) S3 gl m q dbg
          · exact ld_blt (X := X.suite a ((a, oe) :: (X.pn ++ pins))) S3 gl m bt q nn dbg
        refine wpAny_handleBy_cons (codeAny_handlers_test (named (answer.here ?_))) (by intro q; cases q)
        cases b with
        | false => exact ih (no rfl)
        | true =>
          refine codeAny_handlers_suite_as (HandSPX.lands_againZ landed fun h4 again up4 => ?_)
          obtain ⟨oe4, vs4, at4, like4, fields4⟩ := again.there
          have S4 := (J.landed nb again.1 ((up.trans up3).trans up4) os ag : Inv X pins σ' H' { s' with heap := h4 }).suite at4 fields4 na off1 off2
          refine store_ok (X := X.suite a ((a, oe4) :: (X.pn ++ pins))) (v := .ref a) S4 hN hi (.inl hln) rfl (fun s5 S5 => ?_) (.inr hln)
          refine wpAny_mono ((hsu a oe4 cls d (X.pn ++ pins) like4 ⟨_, fields4⟩).run [] s5 _ H' _ S5 (yes rfl a na)) (fun f s6 end_ => ?_) (fun _ _ z => False.elim z)
          have leave : ∀ {σ6 : L2.St} {H6 : Hp} {Q : Shared → Prop}, Inv (X.suite a ((a, oe4) :: (X.pn ++ pins))) [] σ6 H6 s6 → (∀ s7, Inv X pins (σ6.set k.i none) H6 s7 → Q s7) →
              wpAny (model X.prog X.w) X.A (do bindName X.env n .none; unbindBehindTheSuite X.env n pos') (fun _ s7 => Q s7) X.xe s6 := fun {σ6 H6 Q} S6 q => gone_ok (S6.unsuite ok) hN hi hln q
          cases f with
          | next =>
            obtain ⟨σ6, H6, S6, q6⟩ := end_
            exact leave S6 fun s7 J7 => ⟨_, _, J7, q6⟩
          | brk =>
            obtain ⟨σ6, H6, S6, q6⟩ := end_
            exact leave S6 fun s7 J7 => ⟨_, _, J7, q6⟩
          | cont =>
            obtain ⟨σ6, H6, S6, q6⟩ := end_
            exact leave S6 fun s7 J7 => ⟨_, _, J7, q6⟩
          | ret u =>
            obtain ⟨v6, σ6, H6, S6, r6, q6⟩ := end_
            exact leave S6 fun s7 J7 => ⟨_, _, _, J7, r6, q6⟩
    exact go hh wish
  refine wpAny_mono ((hb (wClauses X.K Wout D l) (X.pn ++ pins) caught takes PassesOwn.looking).run [] s σ H D (I.toTry _) want) (fun f s1 end_ => ?_) (fun e s1 he => he)
  cases f with
  | next =>
    obtain ⟨σ', H', J', q⟩ := end_
    exact wpAny_execs_nil ⟨σ', H', J'.ofTry ok, q⟩
  | brk =>
    obtain ⟨σ', H', J', q⟩ := end_
    exact ⟨σ', H', J'.ofTry ok, q⟩
  | cont =>
    obtain ⟨σ', H', J', q⟩ := end_
    exact ⟨σ', H', J'.ofTry ok, q⟩
  | ret u =>
    obtain ⟨v, σ', H', J', r, q⟩ := end_
    exact ⟨v, σ', H', J'.ofTry ok, r, q⟩
end
end My
set_option Elab.async false
set_option linter.all false
set_option maxRecDepth 100000
set_option maxHeartbeats 4000000
/-! set(x), x a list or a tuple of texts or of ints; len(set(x)), sorted(set(x)) -/
namespace My
open PySem L2 PySem.Spec PyProof.Rows
/-- how many of the first i are new where they stand -/
def newT (xs : List Str) : Nat → Nat
  | 0 => 0
  | i + 1 => if hasT xs i (xs.getD i Str.empty) = true then newT xs i else newT xs i + 1
theorem newT_le (xs : List Str) : ∀ i, newT xs i ≤ i
  | 0 => Nat.le_refl _
  | i + 1 => by
    have := newT_le xs i
    unfold newT
    split <;> omega
theorem newT_nodup {xs : List Str} (nd : xs.Nodup) : ∀ i, i ≤ xs.length → newT xs i = i
  | 0, _ => rfl
  | i + 1, h => by
    have := newT_nodup nd i (by omega)
    unfold newT
    rw [hasT_not nd (by omega), if_neg Bool.false_ne_true, this]
def hasI (xs : List Int) (i : Nat) : Int → Bool := fun y => (xs.take i).any fun z => z == y
theorem hasI_more {xs : List Int} {i : Nat} (h : i < xs.length) (y : Int) : (hasI xs i y || decide (y = xs.getD i 0)) = hasI xs (i + 1) y := by
  have e : xs.take (i + 1) = xs.take i ++ [xs[i]] := by rw [List.take_add_one, List.getElem?_eq_getElem h]; rfl
  have d : xs.getD i 0 = xs[i] := by rw [List.getD_eq_getElem?_getD, List.getElem?_eq_getElem h]; rfl
  unfold hasI
  rw [e, d, List.any_append, List.any_cons, List.any_nil, Bool.or_false]
  congr 1
  by_cases q : y = xs[i]
  · rw [decide_eq_true q, q, beq_self_eq_true]
  · rw [decide_eq_false q]
    exact (beq_eq_false_iff_ne.mpr fun z => q z.symm).symm
def newI (xs : List Int) : Nat → Nat
  | 0 => 0
  | i + 1 => if hasI xs i (xs.getD i 0) = true then newI xs i else newI xs i + 1
theorem newI_le (xs : List Int) : ∀ i, newI xs i ≤ i
  | 0 => Nat.le_refl _
  | i + 1 => by
    have := newI_le xs i
    unfold newI
    split <;> omega
section
variable {prog : Program} {w : World} {A : Around} {s : Shared}
/-- set.update's loop, whatever the items: B tells of the first i items what the set has -/
theorem put_any {R : Result → Shared → Prop} {I : Addr} {fp wr : List Addr} {G : Array GenState → Array GenState → Prop} {P : Nat → Value → Prop} {St : Nat → Shared → Prop} {n : Nat}
    (W : WalksS prog w A.in1 I fp wr G n P St) (S : Addr) (out : S ∉ fp) (B : Nat → Heap → Prop) (stays : ∀ i h h', B i h → (∀ o, h.get? S = some o → h'.get? S = some o) → B i h')
    (adds : ∀ i v (s : Shared) (Q : Shared → Prop) (E : Value → Shared → Prop), i < n → P i v → B i s.heap → (∀ h' tk, s.toks ≤ tk → Heap.SameBut S s.heap h' → B (i + 1) h' → Q { s with heap := h', toks := tk }) → wpAny (model prog w) A.in1 (setAdd S v) (fun _ s' => Q s') E s) :
    ∀ (left i : Nat) (s : Shared), i + left = n → St i s → B i s.heap →
      (∀ s', Moved (S :: wr) G s s' → B n s'.heap → R (.ok (.ret .none)) s') →
      codeAny (model prog w) A (.builtin "set.update.loop" ⟨[.ref S, .ref I], []⟩) R s := by
  have moved : ∀ {s s' : Shared} {i : Nat}, Moved wr G s s' → B i s.heap → B i s'.heap := fun m h => stays _ _ _ h fun o e => m.heap S o (fun q => out (W.sub _ q)) e
  intro left
  induction left with
  | zero =>
    intro i s e st h k
    obtain rfl : i = n := by omega
    refine codeAny_builtin F.entry_set_update_loop ?_
    rw [Around.under_plainId F.plain_set_update_loop _]
    show wpAny _ A.in1 (do let x ← pyNext (.ref I); _) _ _ s
    exact wpAny_bind (W.done s _ _ st fun s' m => wpAny_pure (k s' (m.mono fun b q => .tail _ q) (moved m h)))
  | succ left ih =>
    intro i s e st h k
    have lt : i < n := by omega
    refine codeAny_builtin F.entry_set_update_loop ?_
    rw [Around.under_plainId F.plain_set_update_loop _]
    show wpAny _ A.in1 (do let x ← pyNext (.ref I); _) _ _ s
    refine wpAny_bind (W.item i s _ _ lt st fun v s1 p st1 m => wpAny_bind (wpAny_holding (adds i v s1 (fun s' => wpAny (model prog w) A.in1 (again (Code.builtin "set.update.loop" ⟨[.ref S, .ref I], []⟩)) _ _ s') _ lt p (moved m h) fun h' tk le only h2 => ?_)))
    refine wpAny_pure ⟨plainId_quiet F.plain_set_update_loop _, ih (i + 1) _ (by omega) (W.frame _ s1 _ _ st1 le fun b q o z => ?_) h2 fun s2 m2 h4 => k s2 ?_ h4⟩
    · rw [only.2 b fun z => out (z ▸ q)]
      exact z
    · refine Moved.trans W.gtrans ((m.mono fun b q => .tail _ q).then_heap le fun b o q z => ?_) m2
      rw [only.2 b fun z => q (z ▸ .head _)]
      exact z
end
section
variable {prog : Program} {w : World} {A : Around} {s : Shared}
abbrev freshSet (w : World) : Obj := { cls := .type "set", dict := none, data := .set #[] 0 (.fresh 0 0 (!w.params.followText "set-order")) }
theorem set_from_list {Q : Value → Shared → Prop} {E : Value → Shared → Prop} {l : Addr} {items : Array Value} (calm : A.handled = none) (hl : s.heap.IsList l items) (B : Nat → Heap → Prop) (stays : ∀ i h h', B i h → (∀ o, h.get? s.heap.objs.size = some o → h'.get? s.heap.objs.size = some o) → B i h')
    (first : ∀ h : Heap, h.get? s.heap.objs.size = some (freshSet w) → B 0 h)
    (adds : ∀ (A' : Around) i v (t : Shared) (Q : Shared → Prop) (E : Value → Shared → Prop), i < items.size → items[i]? = some v → B i t.heap → (∀ h' tk, t.toks ≤ tk → Heap.SameBut s.heap.objs.size t.heap h' → B (i + 1) h' → Q { t with heap := h', toks := tk }) → wpAny (model prog w) A' (setAdd s.heap.objs.size v) (fun _ s' => Q s') E t)
    (k : ∀ (h' : Heap) (tk : Nat), B items.size h' → (∀ b o, s.heap.get? b = some o → h'.get? b = some o) → Q (.ref s.heap.objs.size) { s with heap := h', toks := tk }) :
    wpAny (model prog w) A (call (.type "set") [.ref l]) Q E s := by
  have born := PySem.F.called_set
  obtain ⟨cls, rest, eqm⟩ := born.mro
  have a1 := born.made
  have a2 := born.sub
  have a3 := born.notType
  have a4 := born.canCreate
  have a5 := PySem.F.typeCall_set_1 (.ref l)
  refine wpAny_call (codeAny_of_tree ?_)
  show wpAny _ _ (callAny (.type "set") _) _ _ _
  refine wpAny_pure ⟨Code.quiet_builtin _ (by decide +kernel), codeAny_builtin PySem.F.entry_type_call ?_⟩
  rw [Around.under_plain (weight_type_call_type "set" [.ref l] []) rfl]
  repeat (any_goals (first | assumption | wp_step))
  refine codeAny_mono (code_set_led1 (.ref l) (E := E) (Q₁ := fun u t => u = .ref s.heap.objs.size ∧ t = { s with heap := s.heap.push (freshSet w) }) ⟨rfl, rfl⟩) fun r t hr => ?_
  rcases r with e | fl
  · exact hr
  cases fl with
  | next => exact hr.elim
  | brk => exact hr.elim
  | cont => exact hr.elim
  | ret u =>
  obtain ⟨rfl, rfl⟩ := hr
  have at_ : (s.heap.push (freshSet w)).get? s.heap.objs.size = some (freshSet w) := Heap.get?_push_size _ rfl
  have a6 : Shared.TypeIs { s with heap := s.heap.push (freshSet w) } (.ref s.heap.objs.size) "set" := ⟨_, at_, rfl⟩
  have a7 := born.init.lookup
  have a8 := born.init.bind (.ref s.heap.objs.size)
  repeat (any_goals (first | assumption | wp_step))
  have ll : l < s.heap.objs.size := by
    obtain ⟨o, ho, _⟩ := id hl
    exact Heap.lt_size ho
  have hl2 : (s.heap.push (freshSet w)).IsList l items := hl.push _
  refine codeAny_mono (codeAny_call_builtin (R := wants (fun u t => u = .none ∧ ∃ h' tk, t = { s with heap := h', toks := tk } ∧ B items.size h' ∧ ∀ b o, s.heap.get? b = some o → h'.get? b = some o) E) born.init.plain PySem.F.entry_set_init (check_set_init_1 a6 ?_)) fun r t hr => ?_
  · obtain ⟨ol, hol, hcl, nl, hdl⟩ := id hl
    obtain ⟨lc, ld_, ldat, lsl⟩ := ol
    dsimp only at hcl hdl
    subst hcl hdl
    have hol2 : (s.heap.push (freshSet w)).get? l = some { cls := .type "list", dict := ld_, data := .seq items nl, slots := lsl } := Heap.get?_push_of_some _ hol
    have b1 := PySem.F.sub_list_set
    have b2 := PySem.F.sub_list_frozenset
    have b3 : (Value.type "list" == Value.type "dict") = false := by decide
    unfold Builtin.«set.__init__» noKeywords Builtin.Frozenset.updateFrom
    generalize hold : pyIter = it
    wp_walk
    subst hold
    refine wpAny_pyIter_list hl2 (wpAny_bind (wpAny_runValue ?_))
    have nI : (s.heap.push (freshSet w)).objs.size = s.heap.objs.size + 1 := Heap.size_push _ _
    have n2 : l ≠ (s.heap.push (freshSet w)).objs.size := by rw [nI]; exact Nat.ne_of_lt (Nat.lt_succ_of_lt ll)
    refine put_any ((Walks.list (by simp [calm]) (s.heap.push (freshSet w)).objs.size l n2 items).toS) s.heap.objs.size ?_ B stays (fun i v t Q E lt hv h q => adds _ i v t Q E lt hv h q) items.size 0 _ (by omega) ⟨⟨_, Heap.get?_push_size _ rfl, rfl, rfl⟩, hl2.push _⟩ (first _ (Heap.get?_push_of_some _ at_)) fun t' m z => ?_
    · simp only [List.mem_cons, List.not_mem_nil, or_false, not_or]
      exact ⟨by rw [nI]; exact Nat.ne_of_lt (Nat.lt_succ_self _), Nat.ne_of_gt ll⟩
    · obtain ⟨h', g', d', tk', os'⟩ := t'
      obtain rfl : g' = s.gens := m.gens
      obtain rfl : d' = s.drawn := m.drawn
      obtain rfl : os' = s.os := m.os
      refine wpAny_pure (wpAny_pure ⟨rfl, h', tk', rfl, z, fun c o q => ?_⟩)
      have lc := Heap.lt_size q
      refine m.heap c o (fun q2 => ?_) (Heap.get?_push_of_some _ (Heap.get?_push_of_some _ q))
      simp only [List.mem_cons, List.not_mem_nil, or_false] at q2
      rw [nI] at q2
      rcases q2 with q2 | q2
      · exact absurd lc (by rw [q2]; exact Nat.lt_irrefl _)
      · exact absurd lc (by rw [q2]; exact Nat.not_lt.mpr (Nat.le_succ _))
  · rcases r with e | fl
    · exact hr
    cases fl with
    | next => exact hr.elim
    | brk => exact hr.elim
    | cont => exact hr.elim
    | ret u =>
    obtain ⟨rfl, h', tk, rfl, z, keep⟩ := hr
    repeat (any_goals (first | assumption | wp_step))
    exact k h' tk z keep
end
section
variable {prog : Program} {w : World} {A : Around} {s : Shared}
theorem set_from_tuple {Q : Value → Shared → Prop} {E : Value → Shared → Prop} {l : Addr} {items : Array Value} (calm : A.handled = none) (hl : s.heap.IsTuple l items) (B : Nat → Heap → Prop) (stays : ∀ i h h', B i h → (∀ o, h.get? s.heap.objs.size = some o → h'.get? s.heap.objs.size = some o) → B i h')
    (first : ∀ h : Heap, h.get? s.heap.objs.size = some (freshSet w) → B 0 h)
    (adds : ∀ (A' : Around) i v (t : Shared) (Q : Shared → Prop) (E : Value → Shared → Prop), i < items.size → items[i]? = some v → B i t.heap → (∀ h' tk, t.toks ≤ tk → Heap.SameBut s.heap.objs.size t.heap h' → B (i + 1) h' → Q { t with heap := h', toks := tk }) → wpAny (model prog w) A' (setAdd s.heap.objs.size v) (fun _ s' => Q s') E t)
    (k : ∀ (h' : Heap) (tk : Nat), B items.size h' → (∀ b o, s.heap.get? b = some o → h'.get? b = some o) → Q (.ref s.heap.objs.size) { s with heap := h', toks := tk }) :
    wpAny (model prog w) A (call (.type "set") [.ref l]) Q E s := by
  have born := PySem.F.called_set
  obtain ⟨cls, rest, eqm⟩ := born.mro
  have a1 := born.made
  have a2 := born.sub
  have a3 := born.notType
  have a4 := born.canCreate
  have a5 := PySem.F.typeCall_set_1 (.ref l)
  refine wpAny_call (codeAny_of_tree ?_)
  show wpAny _ _ (callAny (.type "set") _) _ _ _
  refine wpAny_pure ⟨Code.quiet_builtin _ (by decide +kernel), codeAny_builtin PySem.F.entry_type_call ?_⟩
  rw [Around.under_plain (weight_type_call_type "set" [.ref l] []) rfl]
  repeat (any_goals (first | assumption | wp_step))
  refine codeAny_mono (code_set_led1 (.ref l) (E := E) (Q₁ := fun u t => u = .ref s.heap.objs.size ∧ t = { s with heap := s.heap.push (freshSet w) }) ⟨rfl, rfl⟩) fun r t hr => ?_
  rcases r with e | fl
  · exact hr
  cases fl with
  | next => exact hr.elim
  | brk => exact hr.elim
  | cont => exact hr.elim
  | ret u =>
  obtain ⟨rfl, rfl⟩ := hr
  have at_ : (s.heap.push (freshSet w)).get? s.heap.objs.size = some (freshSet w) := Heap.get?_push_size _ rfl
  have a6 : Shared.TypeIs { s with heap := s.heap.push (freshSet w) } (.ref s.heap.objs.size) "set" := ⟨_, at_, rfl⟩
  have a7 := born.init.lookup
  have a8 := born.init.bind (.ref s.heap.objs.size)
  repeat (any_goals (first | assumption | wp_step))
  have ll : l < s.heap.objs.size := by
    obtain ⟨o, ho, _⟩ := id hl
    exact Heap.lt_size ho
  have hl2 : (s.heap.push (freshSet w)).IsTuple l items := by
    obtain ⟨o, ho, z⟩ := id hl
    exact ⟨o, Heap.get?_push_of_some _ ho, z⟩
  refine codeAny_mono (codeAny_call_builtin (R := wants (fun u t => u = .none ∧ ∃ h' tk, t = { s with heap := h', toks := tk } ∧ B items.size h' ∧ ∀ b o, s.heap.get? b = some o → h'.get? b = some o) E) born.init.plain PySem.F.entry_set_init (check_set_init_1 a6 ?_)) fun r t hr => ?_
  · obtain ⟨ol, hol, hcl, nl, hdl⟩ := id hl
    obtain ⟨lc, ld_, ldat, lsl⟩ := ol
    dsimp only at hcl hdl
    subst hcl hdl
    have hol2 : (s.heap.push (freshSet w)).get? l = some { cls := .type "tuple", dict := ld_, data := .seq items nl, slots := lsl } := Heap.get?_push_of_some _ hol
    have b1 := PySem.F.sub_tuple_set
    have b2 := PySem.F.sub_tuple_frozenset
    have b3 : (Value.type "tuple" == Value.type "dict") = false := by decide
    unfold Builtin.«set.__init__» noKeywords Builtin.Frozenset.updateFrom
    generalize hold : pyIter = it
    wp_walk
    subst hold
    refine wpAny_pyIter_tuple hl2 (wpAny_bind (wpAny_runValue ?_))
    have nI : (s.heap.push (freshSet w)).objs.size = s.heap.objs.size + 1 := Heap.size_push _ _
    have n2 : l ≠ (s.heap.push (freshSet w)).objs.size := by rw [nI]; exact Nat.ne_of_lt (Nat.lt_succ_of_lt ll)
    refine put_any ((Walks.tuple (by simp [calm]) (s.heap.push (freshSet w)).objs.size l n2 items).toS) s.heap.objs.size ?_ B stays (fun i v t Q E lt hv h q => adds _ i v t Q E lt hv h q) items.size 0 _ (by omega) ⟨⟨_, Heap.get?_push_size _ rfl, rfl, rfl⟩, (by
      obtain ⟨o, ho, z⟩ := id hl2
      exact ⟨o, Heap.get?_push_of_some _ ho, z⟩)⟩ (first _ (Heap.get?_push_of_some _ at_)) fun t' m z => ?_
    · simp only [List.mem_cons, List.not_mem_nil, or_false, not_or]
      exact ⟨by rw [nI]; exact Nat.ne_of_lt (Nat.lt_succ_self _), Nat.ne_of_gt ll⟩
    · obtain ⟨h', g', d', tk', os'⟩ := t'
      obtain rfl : g' = s.gens := m.gens
      obtain rfl : d' = s.drawn := m.drawn
      obtain rfl : os' = s.os := m.os
      refine wpAny_pure (wpAny_pure ⟨rfl, h', tk', rfl, z, fun c o q => ?_⟩)
      have lc := Heap.lt_size q
      refine m.heap c o (fun q2 => ?_) (Heap.get?_push_of_some _ (Heap.get?_push_of_some _ q))
      simp only [List.mem_cons, List.not_mem_nil, or_false] at q2
      rw [nI] at q2
      rcases q2 with q2 | q2
      · exact absurd lc (by rw [q2]; exact Nat.lt_irrefl _)
      · exact absurd lc (by rw [q2]; exact Nat.not_lt.mpr (Nat.le_succ _))
  · rcases r with e | fl
    · exact hr
    cases fl with
    | next => exact hr.elim
    | brk => exact hr.elim
    | cont => exact hr.elim
    | ret u =>
    obtain ⟨rfl, h', tk, rfl, z, keep⟩ := hr
    repeat (any_goals (first | assumption | wp_step))
    exact k h' tk z keep
end
end My
set_option Elab.async false
set_option linter.all false
set_option maxRecDepth 100000
set_option maxHeartbeats 4000000
/-! len(set(x)), set(x) of ints, {elt for target in iter} of ints -/
namespace My
open PySem L2 PySem.Spec PyProof.Rows
section
variable {X : Cx}
/-- a list or a tuple -/
def SqA (K : PySem.W.Frag) (H : Hp) (l : Addr) (xs : List V) : Prop := SqL K H l xs ∨ SqT K H l xs
/-- len(set(x)), x of texts -/
def tLenU (K : PySem.W.Frag) (ta : TE) : TE := fun σ H Q => ta σ H fun x H1 => ∃ (l : Addr) (xs : List Str), x = .ref l ∧ SqA K H1 l (xs.map V.str) ∧ xs.length < 100 ∧ Q (.int (newT xs xs.length)) H1
theorem texts_put {P : Program} {w : World} {A : Around} {xs : List Str} {S : Addr} {i : Nat} {v : Value} {t : Shared} {Q : Shared → Prop} {E : Value → Shared → Prop} (lt : i < xs.length) (few : xs.length < 100) (tell : ∃ tk, v = .str (xs.getD i Str.empty) tk)
    (h : t.heap.SetOf (PySem.strKind P w) S (hasT xs i) (newT xs i)) (k : ∀ h' tk, t.toks ≤ tk → Heap.SameBut S t.heap h' → h'.SetOf (PySem.strKind P w) S (hasT xs (i + 1)) (newT xs (i + 1)) → Q { t with heap := h', toks := tk }) :
    wpAny (model P w) A (setAdd S v) (fun _ s' => Q s') E t := by
  obtain ⟨tk, rfl⟩ := tell
  unfold setAdd
  refine wpAny_holding (wpAny_bind ((PySem.strKind P w).pyHash (k := xs.getD i Str.empty) (strKind_is _ _ _ _) ?_))
  refine wpAny_setAddHashed_of (knd := PySem.strKind P w) (s := { t with toks := t.toks + 1 }) (strKind_is _ _ _ _) rfl h (by have := newT_le xs i; unfold scanBound; omega) fun h' only h2 => ?_
  exact k h' _ (Nat.le_succ _) only (SetOf_congr h2 (hasT_more lt) rfl)
theorem pe_lenU {a : Expr} {ta : TE} {p p2 q pos : Pos} (hc : X.calm = true) (hg : Gl X "len") (hm : X.mg "len" = none) (hg2 : Gl X "set") (hm2 : X.mg "set" = none) (ha : PE X a ta)
    (na : starEach [a] X.env = (false, eval a X.env) :: starEach [] X.env := by rfl) : PE X (.Call (.Name "len" p) [.Call (.Name "set" p2) [a] [] q] [] pos) (tLenU X.K ta) := by
  refine ⟨fun pins s σ H Q I want => ?_⟩
  refine Call_ (ld_blt I hg hm boot_len (PyProof.Rows.callWith_builtin1 (PyProof.Rows.args_cons (Call_ (ld_blt I hg2 hm2 boot_set ?_)) rfl) rfl rfl))
  refine PyProof.Rows.callWith_type1 (PyProof.Rows.args_cons (thn (ha.run pins s σ H _ I want) fun v s1 ⟨x, H1, I1, r1, l, xs, ex, hq, few, q1⟩ => PyProof.Rows.args_nil ?_) na) na rfl
  subst ex
  cases r1
  have told : ∀ (h' : Heap) (tk : Nat), h'.SetOf (PySem.strKind X.prog X.w) s1.heap.objs.size (hasT xs xs.length) (newT xs xs.length) → (∀ b o, s1.heap.get? b = some o → h'.get? b = some o) → wpAny (model X.prog X.w) X.A (spliced (backTo pos (starEach [] X.env))) (fun vs s' => wpAny (model X.prog X.w) X.A (call (.builtin "len") ([] ++ (.ref s1.heap.objs.size :: vs))) (EP X pins σ Q) X.xe s') X.xe { s1 with heap := h', toks := tk } := fun h' tk hS keep => by
    refine PyProof.Rows.args_nil ?_
    obtain ⟨o, es, ep, t, ho, hex, hd, _, _, _, hf, hn⟩ := hS
    have I2 : Inv X pins σ H1 { s1 with heap := h', toks := tk } := I1.kept fun b o e => keep b o e
    have := newT_le xs xs.length
    exact call_len_set ho hex hd hf (by rw [hn] <;> omega) ⟨.int (newT xs xs.length), H1, I2.tok _, ⟨_, by rw [hn]⟩, q1⟩
  have stays : ∀ (i : Nat) (h h' : Heap), h.SetOf (PySem.strKind X.prog X.w) s1.heap.objs.size (hasT xs i) (newT xs i) → (∀ o, h.get? s1.heap.objs.size = some o → h'.get? s1.heap.objs.size = some o) → h'.SetOf (PySem.strKind X.prog X.w) s1.heap.objs.size (hasT xs i) (newT xs i) := fun i h h' ⟨o, es, ep, t, ho, z⟩ m => ⟨o, es, ep, t, m _ ho, z⟩
  have first : ∀ h : Heap, h.get? s1.heap.objs.size = some (freshSet X.w) → h.SetOf (PySem.strKind X.prog X.w) s1.heap.objs.size (hasT xs 0) (newT xs 0) := fun h at_ => SetOf_congr ((setObjOf_fresh (knd := PySem.strKind X.prog X.w) _).setOf at_ (by unfold scanBound; omega)) (fun _ => rfl) rfl
  rcases hq with hq | hq
  · obtain ⟨its, r, pl, hz⟩ := I1.list hq
    have hs : its.toArray.size = xs.length := by rw [List.size_toArray, ← r.length, List.length_map]
    refine set_from_list (I1.ok.hd hc) pl.isList (fun i h => h.SetOf (PySem.strKind X.prog X.w) s1.heap.objs.size (hasT xs i) (newT xs i)) stays first (fun A' i v t Q E lt hv h k => texts_put (by omega) few (SS.strs_at (L2.strsAre_of r) i v (by simpa using hv)) h k) fun h' tk z keep => told h' tk (by rw [hs] at z; exact z) keep
  · obtain ⟨its, r, pl, hz⟩ := I1.tuple hq
    have hs : its.toArray.size = xs.length := by rw [List.size_toArray, ← r.length, List.length_map]
    refine set_from_tuple (I1.ok.hd hc) pl (fun i h => h.SetOf (PySem.strKind X.prog X.w) s1.heap.objs.size (hasT xs i) (newT xs i)) stays first (fun A' i v t Q E lt hv h k => texts_put (by omega) few (SS.strs_at (L2.strsAre_of r) i v (by simpa using hv)) h k) fun h' tk z keep => told h' tk (by rw [hs] at z; exact z) keep
/-- set(x), x a list of ints -/
def rSetI (K : PySem.W.Frag) (w : World) : List V → Hp → VK → Prop := fun xs H Q => ∃ (l : Addr) (ns : List Int), xs = [.ref l] ∧ SqL K H l (ns.map V.int) ∧ ns.length < 100 ∧ ∀ a, H a = none → Q (.ref a) (upd H a (SetO w a (hasI ns ns.length) (newI ns ns.length)))
theorem cr_setI (hc : X.calm = true) : CallR X (.type "set") (rSetI X.K X.w) := by
  intro pins s σ H xs us Q I r want
  obtain ⟨l, ns, rfl, hq, few, k⟩ := want
  rw [Vals.ref1 r]
  obtain ⟨its, rv, pl, hz⟩ := I.list hq
  have hs : its.toArray.size = ns.length := by rw [List.size_toArray, ← rv.length, List.length_map]
  have none_ : H s.heap.objs.size = none := I.hok.fresh (Nat.le_refl _)
  refine set_from_list (I.ok.hd hc) pl.isList (fun i h => SetR X.w h s.heap.objs.size (hasI ns i) (newI ns i)) (fun i h h' R m => R.at m) (fun h at_ => ?_) (fun A' i v t Q E lt hv h k => ?_) fun h' tk z keep => ?_
  · have e := Heap.get?_push_size s.heap (o := freshSet X.w) rfl
    have R := (setR_fresh (h := s.heap) X.w).at (h' := h) fun o z => by
      rw [e] at z
      rw [← Option.some.inj z]
      exact at_
    exact R.congr fun _ => rfl
  · rw [hs] at lt
    have hv2 : its[i]? = some v := by simpa using hv
    have hn : (ns.map V.int)[i]? = some (V.int ns[i]) := by rw [List.getElem?_map, List.getElem?_eq_getElem lt]; rfl
    obtain ⟨u, hu, ru⟩ := rv.get hn
    rw [hv2] at hu
    obtain rfl := Option.some.inj hu
    obtain ⟨tk, rfl⟩ := ru
    have e : ns.getD i 0 = ns[i] := by rw [List.getD_eq_getElem?_getD, List.getElem?_eq_getElem lt]; rfl
    unfold setAdd
    refine wpAny_holding (wpAny_bind ((intKind X.prog X.w).pyHash (k := ns[i]) (intKind_is _ _ _ _) ?_))
    refine setR_add_hashed (s := { t with toks := t.toks + 1 }) h (by have := newI_le ns i; unfold scanBound; omega) fun h' only R => k h' _ (Nat.le_succ _) only ?_
    have c := R.congr (S' := hasI ns (i + 1)) fun y => by rw [← hasI_more lt y, e]
    have e2 : newI ns (i + 1) = if hasI ns i ns[i] = true then newI ns i else newI ns i + 1 := by
      show (if hasI ns i (ns.getD i 0) = true then newI ns i else newI ns i + 1) = _
      rw [e]
    rw [e2]
    exact c
  · rw [hs] at z
    exact ⟨.ref s.heap.objs.size, upd H s.heap.objs.size (SetO X.w s.heap.objs.size (hasI ns ns.length) (newI ns ns.length)), I.laid (t' := tk) keep (Nat.le_refl _) (setO_new z), rfl, k _ none_⟩
/-- {elt for target in iter if ..}, ints: D the new set -/
def tSc (w : World) (wi : TI) (g : TG) (tt : TT) (te : TE) (vs : List Nat) : TE := fun σ H Q => wi σ H fun J H1 => ∀ D, H1 D = none → ∃ W : Nat → Nat → Hp → Prop, (∃ m, W 0 m (upd H1 D (SetO w D (fun _ => false) 0))) ∧ ∀ i m H, W i m H →
  (J.stop i H ∧ Q (.ref D) H) ∨ (J.go i H ∧ ∃ Nx : Hp → Prop, (∀ H', Nx H' → ∃ m', m' < m ∧ W (i + 1) m' H') ∧ ∀ x H', J.yld i H x H' → g x (wipe σ vs) H' fun σ2 H2 => wipe σ2 vs = wipe σ vs ∧ tt σ2 H2 fun b H3 =>
    if b = true then te σ2 H3 fun y H4 => ∃ (k : Int) (S : Int → Bool) (n : Nat), y = .int k ∧ H4 D = some (SetO w D S n) ∧ n + 1 < scanBound ∧ Nx (upd H4 D (SetO w D (fun j => S j || decide (j = k)) (if S k = true then n else n + 1))) else Nx H3)
theorem pe_sc {tg iter elt : Expr} {ifs : List Expr} {scope : Scope} {own : List (Str × Nat)} {pos : Pos} {wi : TI} {g : TG} {tt : TT} {te : TE} (hc : X.calm = true) (hN : X.N.Nodup) (hi : PI X tg iter wi) (ok : BlkOk X.N X.env.scope scope own)
    (hg : ∀ (s : Shared) (H : Hp) (C : Addr) (cl : List (Str × Addr)) (fp : List Addr), PG (X.blk s H scope (compEnvC scope cl C X.env) fp) tg g) (ht : ∀ (s : Shared) (H : Hp) (C : Addr) (cl : List (Str × Addr)) (fp : List Addr), PTs (X.blk s H scope (compEnvC scope cl C X.env) fp) ifs tt)
    (he : ∀ (s : Shared) (H : Hp) (C : Addr) (cl : List (Str × Addr)) (fp : List Addr), PE (X.blk s H scope (compEnvC scope cl C X.env) fp) elt te) (hs : ∀ x, foldedSetIterable iter X.env x = pure x := by intro _; rfl) :
    PE X (.SetComp elt [⟨tg, iter, ifs, 0⟩] scope pos) (tSc X.w wi g tt te (own.map (·.2))) := by
  refine ⟨fun pins s σ H Q I want => ?_⟩
  rw [arm_eval_SetComp]
  have caught : ∀ y ∈ scope.names, y.2 = .free → ∃ c, X.env.cells.lookup y.1 = some c := fun y hy e => (ok.free y hy e).elim (fun k => I.ok.has _ (.inl k)) fun k => I.ok.has _ (.inr k)
  refine wpAny_comprehension_free (use := none) rfl hs (closure_ok caught) ok.kind (fun y hy e => by rw [ok.uniq y hy, e])
    (thn (hi.run pins s σ H _ I want) fun xv s1 hx => thn hx fun itv s2 h2 => ?_)
  obtain ⟨it, fp, tn, J, H2, e, I2, T, st2, f2, q⟩ := h2
  subst e
  refine wpAny_newSet_raw fun led hled => newEnv_comp ?_
  subst hled
  generalize hD : s2.heap.objs.size = D
  have free_ : H2 D = none := I2.hok.fresh (Nat.le_of_eq hD)
  obtain ⟨W, ⟨m0, w0⟩, turn⟩ := q D free_
  generalize hs3 : ({ s2 with heap := s2.heap.push (freshSet X.w) } : Shared) = s3
  generalize hH3 : upd H2 D (SetO X.w D (fun _ => false) 0) = H3
  have at3 : s3.heap = s2.heap.push (freshSet X.w) := by rw [← hs3]
  have I3 : Inv X pins σ H3 s3 := by
    rw [← hs3, ← hH3]
    refine I2.laid (t' := s2.toks) (fun b o z => Heap.get?_push_of_some _ z) (Nat.le_of_eq hD) (setO_new ?_)
    rw [← hD]
    exact setR_fresh X.w
  have low : ∀ b ∈ fp, b < s2.heap.objs.size := fun b hb => by
    obtain ⟨o, z, _⟩ := T.obj _ _ st2 b hb
    exact Heap.lt_size z
  have f3 : ∀ b ∈ fp, FpOk X pins H3 b ∧ b < s3.heap.objs.size := fun b hb => by
    have lt := low b hb
    refine ⟨⟨?_, (f2 b hb).2⟩, by rw [at3, Heap.size_push]; exact Nat.lt_succ_of_lt lt⟩
    rw [← hH3, upd_ne (by rw [← hD]; exact Nat.ne_of_lt lt)]
    exact (f2 b hb).1
  have I4 := block_start I3 ok hN f3
  generalize hcells : cellsFrom (s3.heap.objs.size + 1) scope.names (cloFrom X.env.cells scope.names []) = cells at I4
  have pg := hg s3 H3 s3.heap.objs.size cells fp
  have pt := ht s3 H3 s3.heap.objs.size cells fp
  have pe := he s3 H3 s3.heap.objs.size cells fp
  have home : (compEnvC scope cells s3.heap.objs.size X.env).locals = s3.heap.objs.size := rfl
  show codeAny _ _ (.compStart (.SetComp elt [⟨tg, iter, ifs, 0⟩] scope pos) 0 (.ref it) (.ref D) (compEnvC scope cells s3.heap.objs.size X.env)) (compPost (model X.prog X.w) X.A X.xe none (EP X pins σ Q) (.ref D) s3.heap.objs.size) { s3 with heap := pushCells (s3.heap.push { cls := .type "dict", data := .dict #[] }) scope.names }
  have clear : ∀ b ∈ fp, H3 b = none := fun b hb => (f3 b hb).1.1
  have start : tn 0 (pushCells (s3.heap.push { cls := .type "dict", data := .dict #[] }) scope.names) := T.keep _ _ _ st2 fun b _ o z => pushCells_keeps _ _ _ _ (Heap.get?_push_of_some _ (by rw [at3]; exact Heap.get?_push_of_some _ z))
  generalize hce : compEnvC scope cells s3.heap.objs.size X.env = ce at I4 pg pt pe home ⊢
  generalize hs4 : ({ s3 with heap := pushCells (s3.heap.push { cls := .type "dict", data := .dict #[] }) scope.names } : Shared) = s4 at I4 ⊢
  have st4 : tn 0 s4.heap := by
    rw [← hs4]
    exact start
  have footing : ∀ {σ' : L2.St} {H' : Hp} {s' : Shared}, Inv (X.blk s3 H3 scope ce fp) [] σ' H' s' → (∀ b ∈ fp, H' b = none) → ∀ b ∈ fp, FpOk (X.blk s3 H3 scope ce fp) [] H' b := fun {σ' H' s'} I' n b hb =>
    ⟨n b hb, (I'.ok.exf b hb).1, I'.ok.exfs b hb, .inl hb, fun x c z => (I'.ok.exf b hb).2 x c z, fun p hp => absurd (show p ∈ ([] : List (Addr × Obj)) ++ [] from hp) (by simp)⟩
  have loop : codeAny (model X.prog X.w) X.A (.compLoop (.SetComp elt [⟨tg, iter, ifs, 0⟩] scope pos) 0 (.ref it) (.ref D) ce) (compPost (model X.prog X.w) X.A X.xe none (EP X pins σ Q) (.ref D) s3.heap.objs.size) s4 := by
    refine compLoop_set_any (fun n s' => ∃ i H', Inv (X.blk s3 H3 scope ce fp) [] (wipe σ (own.map (·.2))) H' s' ∧ tn i s'.heap ∧ (∀ b ∈ fp, H' b = none) ∧ W i n H') ?_ m0 ⟨0, H3, I4, st4, clear, by rw [← hH3]; exact w0⟩
    rintro n s5 ⟨i, H5, I5, st5, n5, w5⟩
    rcases turn i n H5 w5 with ⟨stop, qq⟩ | ⟨go, Nx, hNx, step⟩
    · refine thnF (T.done (X.blk s3 H3 scope ce fp) rfl rfl rfl hc i [] s5 _ H5 (fun _ _ => False) I5 (footing I5 n5) st5 stop) fun r s6 ⟨hr, I6⟩ => ?_
      subst hr
      have I7 : Inv X pins σ H5 s6 := I3.call' (ch := fp) I6.os I6.base I6.hok I6.bare fun b hb => ⟨(f3 b hb).1.2.2.2.1, (f3 b hb).1.2.1, (f3 b hb).1.2.2.2.2.1, (f3 b hb).1.2.2.2.2.2⟩
      have off : H5 s3.heap.objs.size = none := by
        rw [← home]
        exact I6.free
      obtain ⟨m, hn, _⟩ := I6.loc
      have hn : s6.heap.Ns ce.locals m := hn
      rw [home] at hn
      obtain ⟨f0, f1, _, g3, g4, g5⟩ := I3.fpOk (Nat.le_refl _) off
      refine ⟨m, hn, fun h'' only => ?_⟩
      exact ⟨.ref D, H5, I7.turned (t' := s6.toks) (fun b o hb z => (only.2 b hb).trans z) f0 f1 g3 g4 g5, rfl, qq⟩
    · refine thnF (T.item (X.blk s3 H3 scope ce fp) rfl rfl rfl hc i [] s5 _ H5 (fun _ _ => False) I5 (footing I5 n5) st5 go) fun r s6 ⟨u, hr, h6⟩ => ?_
      subst hr
      refine thnF h6 fun _ s7 ⟨x, H7, I7, r7, y7, st7, n7⟩ => ?_
      have I7' := I7.pinned (footing I7 n7) (T.obj _ _ st7)
      refine thnF (pg.run _ s7 _ H7 x u _ I7' r7 (step x H7 y7)) fun _ s8 ⟨σ8, H8, I8, hw8, q8⟩ => ?_
      refine thnF (pt.run _ s8 σ8 H8 _ I8 q8) fun b s9 ⟨H9, I9, q9⟩ => ?_
      have fin : ∀ {s' : Shared} {H' : Hp}, Inv (X.blk s3 H3 scope ce fp) ([] ++ pinsAt fp s7.heap) σ8 H' s' → Nx H' → ∃ m, m < n ∧ ∃ i H', Inv (X.blk s3 H3 scope ce fp) [] (wipe σ (own.map (·.2))) H' s' ∧ tn i s'.heap ∧ (∀ b ∈ fp, H' b = none) ∧ W i m H' := fun {s' H'} I' nx => by
        obtain ⟨m', hm, w'⟩ := hNx H' nx
        have held : ∀ b ∈ fp, ∀ o, s7.heap.get? b = some o → s'.heap.get? b = some o ∧ H' b = none := fun b hb o z =>
          let y := I'.pin (b, o) (List.mem_append_right _ (List.mem_append_right _ (mem_pinsAt hb z)))
          ⟨y.1, y.2.1⟩
        have same_len : (wipe σ (own.map (·.2))).length = σ8.length := by rw [← hw8, wipe_length]
        refine ⟨m', hm, i + 1, H', (I'.unpinned (pins := [])).weak same_len (fun j v z => ?_), T.keep _ _ _ st7 fun b hb o z => (held b hb o z).1, fun b hb => ?_, w'⟩
        · rw [← hw8] at z
          exact (wipe_some z).1
        · obtain ⟨o, z, _⟩ := T.obj _ _ st7 b hb
          exact (held b hb o z).2
      cases b with
      | false =>
        simp only [Bool.false_eq_true, if_false] at q9 ⊢
        exact fin I9 q9
      | true =>
        simp only [if_true] at q9 ⊢
        refine thnF (pe.run _ s9 σ8 H9 _ I9 q9) fun v s10 ⟨y, H10, I10, r10, k, S, c, ek, hD10, room, nx⟩ => ?_
        subst ek
        have add := (mt_sadd (X := X.blk s3 H3 scope ce fp)) _ s10 σ8 H10 (.ref D) [.int k] (.ref D) [v] (fun v' H' => v' = .non ∧ Nx H') I10 rfl (.cons r10 .nil) ⟨D, k, S, c, rfl, rfl, hD10, room, rfl, nx⟩
        refine wpAny_mono add (fun _ s11 z => ?_) fun _ _ z => False.elim z
        obtain ⟨v', H11, I11, _, _, nx⟩ := z
        exact fin I11 nx
  exact codeAny_compStart_set loop (T.self X.A 0 _ _ _ st4 loop)
end
end My
set_option Elab.async false
set_option linter.all false
set_option maxRecDepth 100000
set_option maxHeartbeats 4000000
/-! a walk over a list or a tuple; isinstance(e, a built-in class) of a caught error; what leaves a lambda's body; the end with the top's tables -/
namespace My
open PySem L2 PySem.Spec PyProof.Rows
section
variable {X : Cx} {tg : Expr}
def iLT (K : PySem.W.Frag) (te : TE) : TI := fun σ H R => te σ H fun x H1 => ∃ a, x = .ref a ∧ ((∃ xs, SqL K H1 a xs ∧ R (Itl K a) H1) ∨ ∃ xs, SqT K H1 a xs ∧ R (Itt K a) H1)
theorem pi_lt {e : Expr} {te : TE} (he : PE X e te) : PI X tg e (iLT X.K te) := by
  refine ⟨fun pins s σ H R I want => thn (he.run pins s σ H _ I want) fun v s1 ⟨x, H1, I1, r1, a, ex, q⟩ => ?_⟩
  subst ex
  cases r1
  have fresh_ : ∀ b ∈ [s1.heap.objs.size], FpOk X pins H1 b := fun b hb => by
    obtain rfl := List.mem_singleton.mp hb
    exact I1.fpOk (Nat.le_refl _) (I1.hok.fresh (Nat.le_refl _))
  rcases q with ⟨xs, hq, q⟩ | ⟨xs, hq, q⟩
  · obtain ⟨its, rv, pl, _⟩ := I1.list hq
    exact wpAny_pyIter_list pl.isList ⟨_, _, _, _, H1, rfl, I1.kept (t' := s1.toks) fun b o z => Heap.get?_push_of_some _ z, turn_list a _, ⟨_, Heap.get?_push_size _ rfl, rfl, rfl⟩, fresh_, q⟩
  · obtain ⟨its, rv, pl, _⟩ := I1.tuple hq
    exact wpAny_pyIter_tuple (show s1.heap.IsTuple a its.toArray from pl) ⟨_, _, _, _, H1, rfl, I1.kept (t' := s1.toks) fun b o z => Heap.get?_push_of_some _ z, turn_tuple a _, ⟨_, Heap.get?_push_size _ rfl, rfl, rfl⟩, fresh_, q⟩
end
/-- isinstance(e, T), T built in -/
def rIsV (K : PySem.W.Frag) (D a dd : Addr) (n : String) : List V → Hp → VK → Prop := fun xs H Q => ∃ (b : Bool) (fs : List (Str × V)), xs = [.ref a, .ty n] ∧ H dd = some (.xd fs) ∧ PySem.W.kitOne K (.ref D) (.type n) = some b ∧ Q (.bl b) H
theorem call_isV {X : Cx} {a D dd : Addr} {n : String} {oe : Obj} {pn : List (Addr × Obj)} (C : ExcC X.K D) (hz : Zc (.ref D) (some dd) oe) (hf : ∃ vs, oe.data = .fields vs) : CallR (X.suite a ((a, oe) :: pn)) (.builtin "isinstance") (rIsV X.K D a dd n) := by
  intro pins s σ H xs us Q I r want
  obtain ⟨b, fs, rfl, hd, e, q⟩ := want
  obtain ⟨u1, u2, rfl, r1, r2⟩ := vals2 r
  cases r1
  cases r2
  obtain ⟨at_, _⟩ := I.pin (a, oe) (List.mem_append_left _ List.mem_cons_self)
  obtain ⟨vs, hv⟩ := hf
  obtain ⟨mA, hns, _⟩ : ObjOk X.prog X.w H s.heap dd (.xd fs) := I.hok dd _ hd
  obtain ⟨od, ho, _⟩ := lookIn_ns hns
  have J : PySem.W.InstAt s.heap a oe D (some od) := ⟨at_, hz.1, by unfold PySem.W.notCls; rw [hv] <;> rfl, by rw [hz.2]; exact ho⟩
  exact PySem.W.kia_one (kit_caught C) I.kIn J e (fun z => nomatch z) fun tk => ⟨.bl b, H, I.kept (t' := tk) fun _ _ z => z, rfl, q⟩
/-- what a def called within a lambda lets out leaves the lambda -/
theorem pass_lam {X : Cx} {A : Around} {outer : List Env} {s : Shared} {H : Hp} {E : XK} {scope : Scope} {f c' : Addr} : Passes (L2.CX X.prog X.w) (LamX.lamCx X A outer s H E scope f c') E :=
  L2.passes_call (X := LamX.lamCx X A outer s H E scope f c') (W := fun cls d _ H => E cls d H) (takes_of rfl rfl rfl rfl) fun _ _ _ _ h => h
/-- the rule for a def whose code object is known -/
theorem fun_okC {P : Program} {w : World} {K : PySem.W.Frag} {mg : Str → Option Value} {base : Heap} {x qual : Str} {st : Stmt} {f c : Addr} {fd : FuncData} {N ps : List Str} {k : Nat} {sp : Sp} (F : Fun K x qual st f fd) (hc : fd.code = .ref c) (S : FnScope N ps (defScope st)) (len : ∀ vs H Q E, sp vs H Q E → vs.length = ps.length)
    (hbody : ∀ (A : Around) (outer : List Env) (s : Shared) (H : Hp) (vs : List V) (Q : VK) (E : XK), Room k (A.deeper (envOfC qual (defScope st) s.heap.objs.size f (.ref c))) → sp vs H Q E →
      ∃ t, PSs (cxOf CX0 P w K mg base N qual (defScope st) f (.ref c) A outer s H E) (defBody st) t ∧ t { nx := fun _ H' => Q .non H', rt := Q } (start N vs) H) : FnOk P w K mg base CX0 (k + 1) f fd ps sp := by
  obtain ⟨oc, od, kV, doc, pm, an, cdv, ct, osl, rfl, lk, hcd⟩ := F.ex
  obtain rfl : cdv = .ref c := hc
  exact fn_of lk hcd S len fun A outer s H vs Q E hr hsp => hbody A outer s H vs Q E hr hsp
open LamX in
/-- the end of a law whose text's defs, those of the names, hold lambdas -/
theorem walk_ofTabs {l : PySem.W.OpenLaw} {n k : Nat} {q : Program} {loose : List Str} {XP : (Str → Option Value) → Heap → Prop} {YP : World → Heap → Prop} {d : DefRec} {K : Params → PySem.W.Frag} {CX : World → CXT} {x : Str} (names : List Str)
    (hn : l.most = some n) (hn2 : n ≤ sizeLine) (hdf : d.params.defaults = []) (hr : Room k callerA) (known : (names.all fun y => (PyProof.Rows.recsOf q).any fun e => e.name == y) = true) (hY : ∀ (w : World) (h : Heap), YP w h → (K w.params).In h)
    (F : ∀ (w : World) (mg : Str → Option Value) (fa : Addr) (h : Heap), YP w h → (K w.params).In h → h.Ns mainGlobals mg → mg d.name = some (.ref fa) →
      (∀ y ∈ names, ∀ c P, PySem.W.tabIn (K w.params) y = some (c, P) → PySem.W.CodeHd h c P ∧ h.get? P = some { cls := .none, data := .fields #[] }) → LawAtS l w (K w.params) (CX w) k n x mg fa h)
    (hCX : ∀ (w : World) (H : Hp) (s : Shared) (e : Value) (s' : Shared), CX w [] H s (fun _ _ _ => False) e s' → False) :
    PySem.W.WalkO q loose XP YP l.row.toRowW d [] (fun f vs => PySem.call f vs) := by
  refine Att.attach_callB hn hdf fun w s₀ s₁ mg mb fa o pm cd doc a vs ns G Y ho hd hcd hmg hobj hints hlen hbits hg => ?_
  have KX := hY w _ Y
  have tables : ∀ y ∈ names, ∀ c P, PySem.W.tabIn (K w.params) y = some (c, P) → PySem.W.CodeHd s₁.heap c P ∧ s₁.heap.get? P = some { cls := .none, data := .fields #[] } := fun y hy c P ht => by
    have there := List.all_eq_true.mp known y hy
    have isSome : ((PyProof.Rows.recsOf q).find? fun e => e.name == y).isSome = true := by
      rw [List.find?_isSome]
      exact List.any_eq_true.mp there
    obtain ⟨r, hr2⟩ := Option.isSome_iff_exists.mp isSome
    exact PySem.W.tab_of G.T KX hr2 ht
  obtain ⟨fd, cs, sp, hT, nT, C, hb, hsp, hF⟩ := F w mg fa _ Y KX G.T.g hmg tables
  exact law_callTs KX G.T.g G.T.b G.T.builtins G.T.nolimit hg hT nT C G.T.bmain hobj hints (Nat.le_trans hlen hn2) hr hF hb (fun H hH hS => hsp H a ns hlen hbits hH hS) fun H e s' => hCX w H s₁ e s'
end My
set_option Elab.async false
set_option linter.all false
set_option maxRecDepth 100000
set_option maxHeartbeats 4000000
/-! list(d.values()); != of tuples whose items are like one another -/
namespace My
open PySem L2 PySem.Spec PyProof.Rows
section
variable {X : Cx}
theorem kv_get {kvs : List (Key × V)} {vs : List (Key × Value)} (r : KV kvs vs) : ∀ {us : List Value}, us.length = vs.length → (∀ (j : Nat) (v : Value), us[j]? = some v → ∃ k, vs[j]? = some (k, v)) → Vals (kvs.map Prod.snd) us := by
  unfold KV at r
  induction r with
  | nil =>
    intro us hl hv
    cases us with
    | nil => exact .nil
    | cons u us => simp at hl
  | @cons p q ps qs h t ih =>
    intro us hl hv
    cases us with
    | nil => simp at hl
    | cons u us =>
      obtain ⟨k, e⟩ := hv 0 u rfl
      have e2 : q = (k, u) := by simpa using e
      subst e2
      exact .cons h.2 (ih (by simpa using hl) fun j v z => by simpa using hv (j + 1) v (by simpa using z))
def tListV (te : TE) : TE := fun σ H Q => te σ H fun x H1 => ∃ d kvs, x = .ref d ∧ Rd H1 d (.dK kvs) ∧ ∀ q, H1 q = none → Q (.ref q) (upd H1 q (.lst (kvs.map Prod.snd)))
theorem pe_listvals {e : Expr} {te : TE} {p apos cpos pos : Pos} (hc : X.calm = true) (hg : Gl X "list") (hm : X.mg "list" = none) (he : PE X e te) (hbase : attributeBase e "values" X.env (eval e X.env) = eval e X.env := by rfl) (hline : (apos.endLine == cpos.line) = true := by rfl)
    (na : starEach [.Call (.Attribute e "values" apos) [] [] cpos] X.env = (false, eval (.Call (.Attribute e "values" apos) [] [] cpos) X.env) :: starEach [] X.env := by rfl) :
    PE X (.Call (.Name "list" p) [.Call (.Attribute e "values" apos) [] [] cpos] [] pos) (tListV te) := by
  refine ⟨fun pins s σ H Q I want => ?_⟩
  refine Call_ (ld_blt I hg hm boot_list (PyProof.Rows.callWith_type1 (PyProof.Rows.args_cons ?_ na) na rfl))
  refine wpAny_Call_method (T := "dict") (id := "dict.values") hbase rfl hline F.plainAttrs_dict F.slot_dict_values F.type_dict_values (thn (he.run pins s σ H _ I want) fun u s1 ⟨x, H1, I1, rx, d, kvs, ex, hd, q⟩ => ?_)
  subst ex
  obtain rfl : u = Value.ref d := rx
  obtain ⟨z, lo, vs, rel, dd⟩ := dk_rd I1.hok hd
  refine ⟨dd.typeIs, dd.mapOf.noDict, ?_⟩
  have I2 : Inv X pins σ H1 { s1 with heap := s1.heap.push { cls := .type "dict_values", data := .fields #[.ref d] } } := I1.kept (t' := s1.toks) fun b ob q => Heap.get?_push_of_some _ q
  obtain ⟨ep, hat⟩ := dd.dictAt
  have lt : d < s1.heap.objs.size := hat.lt_size
  have fin : wpAny (model X.prog X.w) X.A (spliced (backTo pos (starEach [] X.env))) (fun ws s' => wpAny (model X.prog X.w) X.A (call (.type "list") ([] ++ (.ref s1.heap.objs.size :: ws))) (EP X pins σ Q) X.xe s') X.xe { s1 with heap := s1.heap.push { cls := .type "dict_values", data := .fields #[.ref d] } } := by
    refine PyProof.Rows.args_nil ?_
    refine PySem.W.kdl_call (PySem.W.kdl_values (r := s1.heap.objs.size) (d := d) (knd := mixKind X.prog X.w) (kvs := vs) (ep := ep)) (I1.ok.hd hc) ⟨⟨_, Heap.get?_push_size _ rfl, rfl, rfl⟩, hat.push _⟩ (by rw [← rel.length]; exact z) fun h' tk acc c' hk hD hacc => ?_
    have hv : Vals (kvs.map Prod.snd) acc.toList := kv_get rel (by rw [Array.length_toList]; exact hacc.1) fun j v e => hacc.2 j v (by rw [← Array.getElem?_toList]; exact e)
    refine ⟨.ref (s1.heap.push { cls := .type "dict_values", data := .fields #[.ref d] }).objs.size, upd H1 (s1.heap.push { cls := .type "dict_values", data := .fields #[.ref d] }).objs.size (.lst (kvs.map Prod.snd)), I2.laid (t' := tk) hk (Nat.le_refl _)
      (show ObjOk X.prog X.w _ _ _ (.lst (kvs.map Prod.snd)) from ⟨by rw [List.length_map]; exact z, acc.toList, c', hv, by rw [Array.toArray_toList]; exact hD⟩), rfl, q _ (I2.hok.fresh (Nat.le_refl _))⟩
  show wpAny _ _ (callWith cpos (.builtin "dict.values") [.ref d] [] []) _ X.xe s1
  exact method_meetsIn F.slot_dict_values F.entry_dict_values rfl (PySem.evalArgs_none ⟨rfl, dd.typeIs, F.args_dict_values_1 _, _, meets_dict_values (mixKind X.prog X.w) d lo, ⟨vs, dd⟩, fin⟩)
end
end My
namespace My
open PySem PySem.SeqAt
open AutoSeq1 (wpAny_loadPart')
open MeetsSeq MeetsSeq2 MeetsSeq3 SeqRoads2
section
variable {prog : Program} {w : World} {A : Around} {E : Value → Shared → Prop} {s : Shared} {l b : Addr} {xs ys : Array Value} {Q : Value → Shared → Prop}
/-- the comparison's own walk over the pairs; every pair is alike -/
theorem ne_body {R : Result → Shared → Prop} {dl db : Option Addr} {nl nb : Nat} {sl sb : Array (Option Value)} (at1 : s.heap.get? l = some ⟨.type "tuple", dl, .seq xs nl, sl⟩) (at2 : s.heap.get? b = some ⟨.type "tuple", db, .seq ys nb, sb⟩) (same : xs.size = ys.size)
    (each : ∀ (p : Value × Value), p ∈ xs.toList.zip ys.toList → ∀ W : Bool → Shared → Prop, W true s → wpAny (model prog w) A.in1 (eqBool p.1 p.2) W (fun e t => R (.error e) t) s) (fin : R (.ok (.ret (.bool false))) s) :
    wpAny (model prog w) A.in1 (Builtin.«tuple.__ne__» ⟨[.ref l, .ref b], []⟩) (GQ.FinOf prog w A R) (fun e t => R (.error e) t) s := by
  have sub := AutoSeq1.sub_tuple_tuple
  have each0 := each
  have fin0 := fin
  obtain ⟨hp, gg, dd, tk, os⟩ := s
  wp_walk using wpAny_loadPart' at1, wpAny_loadPart' at2, wpAny_forIn_list _ (fun left acc t => acc.1 = none ∧ t = Shared.mk hp gg dd tk os ∧ ∀ p ∈ left, p ∈ xs.toList.zip ys.toList) _
  case h => exact ⟨rfl, rfl, fun p h => h⟩
  case turn =>
    rintro ⟨u, v⟩ left acc t ⟨none_, rfl, inside⟩
    refine wpAny_bind (each0 (u, v) (inside _ List.mem_cons_self) _ ?_)
    wp_walk
    exact ⟨rfl, rfl, fun p h => inside p (List.mem_cons_of_mem _ h)⟩
  case fin =>
    rintro ⟨c1, c2⟩ t ⟨none_, rfl, -⟩
    simp only at none_
    rw [none_]
    wp_walk
    simpa [Builtin.Tuple.tupleCompareSizes, same, bne] using fin0
theorem ne_tuples (hu : A.units < cLine) (hl : s.heap.IsTuple l xs) (hb : s.heap.IsTuple b ys) (same : xs.size = ys.size)
    (each : ∀ (p : Value × Value), p ∈ xs.toList.zip ys.toList → ∀ W : Bool → Shared → Prop, W true s → wpAny (model prog w) A.in1 (eqBool p.1 p.2) W E s) (q : Q (.bool false) s) : wpAny (model prog w) A (compareOp .NotEq (.ref l) (.ref b)) Q E s := by
  obtain ⟨⟨kl, dl, bl, sl⟩, ol, el, nl, fl⟩ := id hl
  obtain ⟨⟨kb, db, bb, sb⟩, ob, eb, nb, fb⟩ := id hb
  simp only at el fl eb fb
  subst el fl eb fb
  refine wpAny_richCompare_same_room (op := .NotEq) ⟨_, ol, rfl⟩ ⟨_, ob, rfl⟩ F.slot_tuple_ne (GQ.call_here F.slot_tuple_ne ⟨_, ol, rfl⟩ F.entry_tuple_ne (F.args_tuple_ne_2 _ _) ?_) hu
  exact ne_body (R := wants (fun v t => v ≠ .notImplemented ∧ Q v t) E) ol ob same each ⟨(fun x => nomatch x), q⟩
end
end My
set_option Elab.async false
set_option linter.all false
set_option maxRecDepth 100000
set_option maxHeartbeats 4000000
namespace My
open PySem L2 PySem.Spec PyProof.Rows
section
variable {X : Cx}
/-- two items that are like one another: data, or two dicts -/
inductive LikeD (K : PySem.W.Frag) (H : Hp) : V → V → Prop
  | dat {x y : V} {d e : PyData} (h1 : Dp K H x d) (h2 : Dp K H y e) (s1 : SeqAt.shaped d = true) (s2 : SeqAt.shaped e = true) (q : PyData.eqv d e = true) : LikeD K H x y
  | dic {a b : Addr} {ks ls : List (Key × V)} (ne : a ≠ b) (h1 : H a = some (.dK ks)) (h2 : H b = some (.dK ls)) (len : ks.length = ls.length) (hit : ∀ p ∈ ks, valV ls p.1 = some p.2 ∧ flatB p.2 = true) : LikeD K H (.ref a) (.ref b)
theorem like_eq {A : Around} {pins : List (Addr × Obj)} {s : Shared} {σ : L2.St} {H : Hp} {x y : V} {u v : Value} {E : Value → Shared → Prop} {W : Bool → Shared → Prop} (hu : A.units + 64 < cLine) (I : Inv X pins σ H s) (rx : RelV x u) (ry : RelV y v) (h : LikeD X.K H x y) (q : W true s) :
    wpAny (model X.prog X.w) A (eqBool u v) W E s := by
  cases h with
  | dat h1 h2 s1 s2 e =>
    obtain ⟨as, r1⟩ := Dp.reads I _ _ _ h1 rx
    obtain ⟨bs, r2⟩ := Dp.reads I _ _ _ h2 ry
    have z := SeqAt.eqAt_reads _ _ A s u v as bs r1 r2 (SeqAt.canLay_of_shaped s1) (SeqAt.canLay_of_shaped s2) (SeqAt.room_of_shaped s1 hu)
    rw [e] at z
    exact z _ _ _ _ q
  | @dic a b ks ls ne h1 h2 len hit =>
    cases rx
    cases ry
    obtain ⟨_, ya, va, ra, da⟩ := (show ObjOk X.prog X.w H s.heap a (.dK ks) from I.hok a _ h1)
    obtain ⟨_, yb, vb, rb, db⟩ := (show ObjOk X.prog X.w H s.heap b (.dK ls) from I.hok b _ h2)
    have hl : va.length = vb.length := by rw [← ra.length, ← rb.length]; exact len
    refine GQ.eqBool_refG ne ?_
    refine PySem.W.keq_eq (knd := mixKind X.prog X.w) (r := true) ya yb da db (by omega) (fun _ => hits_all rb ra hit) ⟨_, rfl, ?_⟩
    simpa [hl] using q
/-- !=, two tuples whose items are like one another -/
def rNeTup (K : PySem.W.Frag) : R2 := fun x y H Q => ∃ a b xs ys, x = .ref a ∧ y = .ref b ∧ SqT K H a xs ∧ SqT K H b ys ∧ xs.length = ys.length ∧ (∀ (j : Nat) (x y : V), xs[j]? = some x → ys[j]? = some y → LikeD K H x y) ∧ Q (.bl false) H
theorem zip_at {α β : Type} : ∀ {xs : List α} {ys : List β} {p : α × β}, p ∈ xs.zip ys → ∃ j : Nat, xs[j]? = some p.1 ∧ ys[j]? = some p.2
  | [], _, _, h => by simp at h
  | _ :: _, [], _, h => by simp at h
  | x :: xs, y :: ys, p, h => by
    rw [List.zip_cons_cons, List.mem_cons] at h
    rcases h with rfl | h
    · exact ⟨0, rfl, rfl⟩
    · obtain ⟨j, h1, h2⟩ := zip_at h
      exact ⟨j + 1, by simpa using h1, by simpa using h2⟩
theorem vals_back : ∀ {xs : List V} {us : List Value} {j : Nat} {u : Value}, Vals xs us → us[j]? = some u → ∃ x, xs[j]? = some x ∧ RelV x u
  | _, _, _, _, .nil, h => by simp at h
  | _, _, 0, _, .cons r _, h => by
    obtain rfl := Option.some.inj h
    exact ⟨_, rfl, r⟩
  | _, _, j + 1, _, .cons _ t, h => by
    obtain ⟨x, h1, h2⟩ := vals_back (j := j) t (by simpa using h)
    exact ⟨x, by simpa using h1, h2⟩
theorem op_neTup (hu : X.A.units + 65 < cLine) : OpR X (compareOp .NotEq) (rNeTup X.K) := by
  intro pins s σ H x y v u Q I rx ry h
  obtain ⟨a, b, xs, ys, rfl, rfl, ha, hb, len, like, q⟩ := h
  cases rx
  cases ry
  obtain ⟨its, r1, e1, _⟩ := I.tuple ha
  obtain ⟨its2, r2, e2, _⟩ := I.tuple hb
  refine ne_tuples (by omega) e1 e2 (by rw [List.size_toArray, List.size_toArray, ← r1.length, ← r2.length]; exact len) (fun p hp W hw => ?_) ⟨.bl false, H, I, rfl, q⟩
  obtain ⟨j, g1, g2⟩ := zip_at hp
  obtain ⟨x, gx, rx⟩ := vals_back r1 (by simpa using g1)
  obtain ⟨y, gy, ry⟩ := vals_back r2 (by simpa using g2)
  have un : X.A.in1.units + 64 < cLine := by
    have : X.A.in1.units = X.A.units + 1 := rfl
    omega
  exact like_eq un I rx ry (like j x y gx gy) hw
end
end My
set_option Elab.async false
set_option linter.all false
set_option maxRecDepth 100000
set_option maxHeartbeats 4000000
/-! for x, y in zip(t, l), t a tuple and l a list of as many items -/
namespace My
open PySem L2 PySem.Spec PyProof.Rows PySem.W
def ItzM (K : PySem.W.Frag) (a b : Addr) : It where
  go := fun i H => ∃ (xs ys : List V) (x y : V), SqT K H a xs ∧ SqL K H b ys ∧ xs[i]? = some x ∧ ys[i]? = some y
  yld := fun i H v H' => ∃ T x y, v = .ref T ∧ H T = none ∧ H' = upd H T (.tup [x, y]) ∧ (∀ xs, SqT K H a xs → xs[i]? = some x) ∧ ∀ ys, SqL K H b ys → ys[i]? = some y
  stop := fun i H => ∃ xs ys : List V, SqT K H a xs ∧ SqL K H b ys ∧ xs.length = i ∧ ys.length = i
theorem turn_zipM {P : Program} {w : World} {K : PySem.W.Frag} {elts : List Expr} {kk : Nat} {tpos : Pos} {a b z TI TO i1 i2 : Addr} (S : ZipSep2 z TI TO i1 i2 [i1, a] [i2, b]) :
    Turn P w K (.Tuple elts kk tpos) (ItzM K a b) [z, TI, TO, i1, i2] z (fun i h => IsZip h z TI TO .none ∧ IsTupOf2 h TI (.ref i1) (.ref i2) ∧ (∃ u v, IsTupOf2 h TO u v) ∧ h.IsTupleIter i1 a i ∧ h.IsListIter i2 b i) where
  mem := by simp
  obj := fun i h st c hc => by
    obtain ⟨g1, g2, ⟨u, v, g3⟩, ⟨o4, g4, _, d4⟩, ⟨o5, g5, _, d5⟩⟩ := st
    rcases (show c = z ∨ c = TI ∨ c = TO ∨ c = i1 ∨ c = i2 by simpa using hc) with rfl | rfl | rfl | rfl | rfl
    · exact ⟨_, g1, fun v q => nomatch q⟩
    · exact ⟨_, g2, fun v q => nomatch q⟩
    · exact ⟨_, g3, fun v q => nomatch q⟩
    · exact ⟨o4, g4, fun v q => by rw [d4] at q; cases q⟩
    · exact ⟨o5, g5, fun v q => by rw [d5] at q; cases q⟩
  keep := fun i h h' st k => by
    obtain ⟨g1, g2, ⟨u, v, g3⟩, g4, g5⟩ := st
    refine ⟨k z (by simp) _ g1, k TI (by simp) _ g2, ⟨u, v, k TO (by simp) _ g3⟩, g4.at fun o q => ?_, g5.at fun o q => ?_⟩
    · exact k i1 (by simp) o q
    · exact k i2 (by simp) o q
  item := by
    intro X hP hw hK hc i pins s σ H E I hf st hg
    subst hP hw hK
    obtain ⟨g1, g2, ⟨u0, v0, g3⟩, g4, g5⟩ := st
    obtain ⟨xs, ys, x, y, ha, hb, hx, hy⟩ := hg
    obtain ⟨its, rv, pa, _⟩ := I.tuple ha
    obtain ⟨its2, rv2, pb, _⟩ := I.list hb
    have isT : s.heap.IsTuple a its.toArray := pa
    have isL : s.heap.IsList b its2.toArray := pb.isList
    obtain ⟨u, hu, ru⟩ := rv.get hx
    obtain ⟨v, hv, rv'⟩ := rv2.get hy
    have zl : z < s.heap.objs.size := Heap.lt_size g1
    have nai : a ≠ i1 := fun q => by
      obtain ⟨o1, e1, c1, _⟩ := id isT
      obtain ⟨o2, e2, c2, _⟩ := id g4
      rw [q, e2] at e1
      cases e1
      rw [c2] at c1
      exact absurd c1 (by decide)
    have nbi : b ≠ i2 := fun q => by
      obtain ⟨o1, e1, c1, _⟩ := id isL
      obtain ⟨o2, e2, c2, _⟩ := id g5
      rw [q, e2] at e1
      cases e1
      rw [c2] at c1
      exact absurd c1 (by decide)
    have free : X.A.handled = none := I.ok.hd hc
    have lt1 : i < its.toArray.size := by
      rw [List.size_toArray, ← rv.length]
      exact (List.getElem?_eq_some_iff.mp hx).1
    have lt2 : i < its2.toArray.size := by
      rw [List.size_toArray, ← rv2.length]
      exact (List.getElem?_eq_some_iff.mp hy).1
    refine wpAny_pyNext_zipD2_item S (Draws.tuple (by simpa using free) i1 a nai its.toArray) (Draws.list (by simpa using free) i2 b nbi its2.toArray) g1 g2 g3 ⟨g4, isT⟩ ⟨g5, isL⟩ lt1 lt2 fun x' y' h' tk hx' hy' z' TO' st1 st2 hT hsz hk => ?_
    obtain rfl : x' = u := by
      have e : its.toArray[i]? = some u := by simpa using hu
      rw [e] at hx'
      exact (Option.some.inj hx').symm
    obtain rfl : y' = v := by
      have e : its2.toArray[i]? = some v := by simpa using hv
      rw [e] at hy'
      exact (Option.some.inj hy').symm
    refine ⟨_, rfl, wpAny_letOwnedTupleGo_zip (s := { s with heap := h', toks := tk }) z' fun h'' z'' sb => ?_⟩
    have there : h''.get? s.heap.objs.size = some { cls := .type "tuple", data := .seq #[x', y'] } := (sb.2 _ (Nat.ne_of_gt zl)).trans hT
    have born : ObjOk X.prog X.w (upd H s.heap.objs.size (.tup [x, y])) h'' s.heap.objs.size (.tup [x, y]) := ⟨by show 2 ≤ sizeLine; decide, [x', y'], .cons ru (.cons rv' .nil), ⟨_, there, rfl, _, rfl⟩⟩
    have I1 : Inv X pins σ (upd H s.heap.objs.size (.tup [x, y])) { s with heap := h'', toks := tk } := by
      refine I.turnedNew (ch := [z, TI, TO, i1, i2]) (fun c o hb q => ?_) hf (Nat.le_refl _) born
      have n : c ≠ z ∧ c ≠ TI ∧ c ≠ TO ∧ c ≠ i1 ∧ c ≠ i2 := by simpa using hb
      exact (sb.2 c n.1).trans (hk c o n.1 n.2.2.1 n.2.2.2.1 n.2.2.2.2 q)
    refine ⟨.ref s.heap.objs.size, _, I1, rfl, ⟨_, x, y, rfl, I.hok.fresh (Nat.le_refl _), rfl, fun l hl => ?_, fun l hl => ?_⟩, ⟨z'', ?_, ⟨x', y', ?_⟩, ?_, ?_⟩, fun c hcm => ?_⟩
    · rw [I.tuple_inj hl ha]
      exact hx
    · rw [I.list_inj hl hb]
      exact hy
    · exact (sb.2 _ S.TIz).trans (hk _ _ S.TIz S.TITO S.TIi1 S.TIi2 g2)
    · exact (sb.2 _ S.TOz).trans TO'
    · exact st1.1.at fun o q => (sb.2 _ (Ne.symm S.zi1)).trans q
    · exact st2.1.at fun o q => (sb.2 _ (Ne.symm S.zi2)).trans q
    · have low : c < s.heap.objs.size := by
        rcases (show c = z ∨ c = TI ∨ c = TO ∨ c = i1 ∨ c = i2 by simpa using hcm) with rfl | rfl | rfl | rfl | rfl
        · exact zl
        · exact Heap.lt_size g2
        · exact Heap.lt_size g3
        · obtain ⟨_, e, _⟩ := g4
          exact Heap.lt_size e
        · obtain ⟨_, e, _⟩ := g5
          exact Heap.lt_size e
      rw [upd_ne (Nat.ne_of_lt low)]
      exact (hf c hcm).1
  done := by
    intro X hP hw hK hc i pins s σ H E I hf st hg
    subst hP hw hK
    obtain ⟨g1, g2, ⟨u0, v0, g3⟩, g4, g5⟩ := st
    obtain ⟨xs, ys, ha, hb, l1, l2⟩ := hg
    obtain ⟨its, rv, pa, _⟩ := I.tuple ha
    obtain ⟨its2, rv2, pb, _⟩ := I.list hb
    have isT : s.heap.IsTuple a its.toArray := pa
    have isL : s.heap.IsList b its2.toArray := pb.isList
    have nai : a ≠ i1 := fun q => by
      obtain ⟨o1, e1, c1, _⟩ := id isT
      obtain ⟨o2, e2, c2, _⟩ := id g4
      rw [q, e2] at e1
      cases e1
      rw [c2] at c1
      exact absurd c1 (by decide)
    have nbi : b ≠ i2 := fun q => by
      obtain ⟨o1, e1, c1, _⟩ := id isL
      obtain ⟨o2, e2, c2, _⟩ := id g5
      rw [q, e2] at e1
      cases e1
      rw [c2] at c1
      exact absurd c1 (by decide)
    have free : X.A.handled = none := I.ok.hd hc
    have s1 : its.toArray.size = i := by rw [List.size_toArray, ← rv.length, l1]
    have s2 : its2.toArray.size = i := by rw [List.size_toArray, ← rv2.length, l2]
    refine wpAny_pyNext_zipD2_end S (Draws.tuple (by simpa using free) i1 a nai its.toArray) (Draws.list (by simpa using free) i2 b nbi its2.toArray) g1 g2 g3 ⟨g4, isT⟩ ⟨g5, isL⟩ (by omega) (by omega) (by omega) fun h' tk hk => ⟨rfl, ?_⟩
    refine I.turnedL (t' := tk) (ch := [z, TI, TO, i1, i2]) (fun c o hb q => ?_) hf
    have n : c ≠ z ∧ c ≠ TI ∧ c ≠ TO ∧ c ≠ i1 ∧ c ≠ i2 := by simpa using hb
    exact hk c o n.1 n.2.2.1 n.2.2.2.1 n.2.2.2.2 q
  self := fun A i s Q E st h => wpAny_pyIter_zip st.1 h
def iZipM (K : PySem.W.Frag) (ta : TA) : TI := fun σ H R => ta σ H fun vs H1 => ∃ a b xs ys, vs = [.ref a, .ref b] ∧ SqT K H1 a xs ∧ SqL K H1 b ys ∧ R (ItzM K a b) H1
theorem sep_of {n a b : Nat} (la : a < n) (lb : b < n) : ZipSep2 (n + 4) (n + 2) (n + 3) n (n + 1) [n, a] [n + 1, b] := by
  have ne : ∀ {x y : Nat}, x < y ∨ y < x → (x : Addr) ≠ y := fun h e => by
    rw [show _ = _ from e] at h
    omega
  have out : ∀ {x y z : Nat}, (x : Addr) ≠ y → (x : Addr) ≠ z → (x : Addr) ∉ ([y, z] : List Addr) := fun h1 h2 h => by
    rcases List.mem_cons.mp h with h | h
    · exact h1 h
    · exact h2 (List.mem_singleton.mp h)
  exact ⟨ne (by omega), ne (by omega), ne (by omega), ne (by omega), List.mem_cons_self, out (ne (by omega)) (ne (by omega)), out (ne (by omega)) (ne (by omega)), ne (by omega), List.mem_cons_self, out (ne (by omega)) (ne (by omega)), out (ne (by omega)) (ne (by omega)), out (ne (by omega)) (ne (by omega)), out (ne (by omega)) (ne (by omega))⟩
theorem pi_zipM {X : Cx} {e e2 : Expr} {ta : TA} {p pos tpos : Pos} {elts : List Expr} {kk : Nat} (hg : Gl X "zip") (hm : X.mg "zip" = none) (ha : PA X [e, e2] ta) (hs : starEach [e, e2] X.env = (false, eval e X.env) :: starEach [e2] X.env := by rfl) (hpl : (backTo pos (starEach [e2] X.env)).any (·.1) = false := by rfl) :
    PI X (.Tuple elts kk tpos) (.Call (.Name "zip" p) [e, e2] [] pos) (iZipM X.K ta) := by
  refine ⟨fun pins s σ H R I want => ?_⟩
  refine Call_ (ld_blt I hg hm PyProof.Rows.boot_zip (PyProof.Rows.callWith_type1 (thn (ha.run pos pins s σ H _ I want) fun us s1 ⟨vs, H1, I1, r1, a, b, xs, ys, ev, ht, hl, q⟩ => ?_) hs hpl))
  subst ev
  obtain ⟨u1, u2, rfl, ra, rb⟩ := vals2 r1
  cases ra
  cases rb
  obtain ⟨its, rv, pa, _⟩ := I1.tuple ht
  obtain ⟨its2, rv2, pb, _⟩ := I1.list hl
  have isT : s1.heap.IsTuple a its.toArray := pa
  have isL : s1.heap.IsList b its2.toArray := pb.isList
  obtain ⟨oa, ea, _⟩ := id isT
  obtain ⟨ob, eb, _⟩ := id isL
  have la := Heap.lt_size ea
  have lb := Heap.lt_size eb
  refine zip_begins2 (begins_tuple a its.toArray) (begins_list b its2.toArray) isT isL fun h' gz gT gO g1 g2 _ keep => wpAny_pyIter_zip gz ?_
  have I2 : Inv X pins σ H1 { s1 with heap := h' } := I1.kept (t' := s1.toks) keep
  have sep := sep_of la lb
  refine ⟨s1.heap.objs.size + 4, [s1.heap.objs.size + 4, s1.heap.objs.size + 2, s1.heap.objs.size + 3, s1.heap.objs.size, s1.heap.objs.size + 1], _, _, H1, rfl, I2, turn_zipM sep, ⟨gz, gT, ⟨_, _, gO⟩, ⟨_, g1, rfl, rfl⟩, ⟨_, g2, rfl, rfl⟩⟩, fun c hc => ?_, q⟩
  have big : s1.heap.objs.size ≤ c := by
    rcases (show c = s1.heap.objs.size + 4 ∨ c = s1.heap.objs.size + 2 ∨ c = s1.heap.objs.size + 3 ∨ c = s1.heap.objs.size ∨ c = s1.heap.objs.size + 1 by simpa using hc) with rfl | rfl | rfl | rfl | rfl <;> omega
  exact I1.fpOk big (I1.hok.fresh big)
theorem walk_zipM {K : PySem.W.Frag} {a b : Addr} {xs ys : List V} (len : xs.length = ys.length) : Walk (ItzM K a b) xs.length (fun H => SqT K H a xs ∧ SqL K H b ys) (YPair (fun i => xs[i]?) (fun i => ys[i]?)) := by
  refine ⟨fun i _ hi q => ?_, fun _ q => ⟨xs, ys, q.1, q.2, rfl, len.symm⟩, fun i H v H' _ q y => ?_⟩
  · have h2 : i < ys.length := by omega
    exact ⟨xs, ys, xs[i], ys[i], q.1, q.2, List.getElem?_eq_getElem hi, List.getElem?_eq_getElem h2⟩
  · obtain ⟨T, x, z, h1, h2, h3, h4, h5⟩ := y
    exact ⟨T, x, z, h1, h2, h3, h4 xs q.1, h5 ys q.2⟩
end My
set_option Elab.async false
set_option linter.all false
set_option maxRecDepth 100000
set_option maxHeartbeats 4000000
/-! for i, x in enumerate(r), r a list or a tuple -/
namespace My
open PySem L2 PySem.Spec PyProof.Rows PySem.W
def iEnumA (K : PySem.W.Frag) (ta : TA) : TI := fun σ H R => ta σ H fun vs H1 => ∃ a, vs = [.ref a] ∧ ((∃ xs, SqL K H1 a xs ∧ R (Ite K a) H1) ∨ ∃ xs, SqT K H1 a xs ∧ R (IteT K a) H1)
theorem pi_enumA {X : Cx} {e : Expr} {ta : TA} {p pos tpos : Pos} {elts : List Expr} {kk : Nat} (hg : Gl X "enumerate") (hm : X.mg "enumerate" = none) (ha : PA X [e] ta) (hs : starEach [e] X.env = [(false, eval e X.env)] := by rfl) :
    PI X (.Tuple elts kk tpos) (.Call (.Name "enumerate" p) [e] [] pos) (iEnumA X.K ta) := by
  refine ⟨fun pins s σ H R I want => ?_⟩
  refine Call_ (ld_blt I hg hm boot_enumerate (PyProof.Rows.callWith_type1 (thn (ha.run pos pins s σ H _ I want) fun us s1 ⟨vs, H1, I1, r1, a, ev, q⟩ => ?_) hs rfl))
  subst ev
  rw [Vals.ref1 r1]
  have fresh2 : ∀ b, b ∈ [s1.heap.objs.size + 1, s1.heap.objs.size] → FpOk X pins H1 b := fun b hb => by
    have big : s1.heap.objs.size ≤ b := by
      rcases (show b = s1.heap.objs.size + 1 ∨ b = s1.heap.objs.size by simpa using hb) with rfl | rfl
      · exact Nat.le_add_right _ _
      · exact Nat.le_refl _
    exact I1.fpOk big (I1.hok.fresh big)
  rcases q with ⟨xs, hq, q⟩ | ⟨xs, hq, q⟩
  · obtain ⟨its, rv, pl, _⟩ := I1.list hq
    refine call_enumerate_list pl.isList fun h' he hit _ keep => wpAny_pyIter_enum he ?_
    have I2 : Inv X pins σ H1 { s1 with heap := h' } := I1.kept (t' := s1.toks) keep
    exact ⟨_, _, _, _, H1, rfl, I2, turn_enum a (s1.heap.objs.size + 1) s1.heap.objs.size, ⟨⟨.none, he⟩, hit, Nat.succ_ne_self _⟩, fresh2, q⟩
  · obtain ⟨its, rv, pl, _⟩ := I1.tuple hq
    refine call_enumT (show s1.heap.IsTuple a its.toArray from pl) fun h' he hit keep => wpAny_pyIter_enum he ?_
    have I2 : Inv X pins σ H1 { s1 with heap := h' } := I1.kept (t' := s1.toks) keep
    exact ⟨_, _, _, _, H1, rfl, I2, turn_enumT a (s1.heap.objs.size + 1) s1.heap.objs.size, ⟨⟨.none, he⟩, hit, Nat.succ_ne_self _⟩, fresh2, q⟩
end My
set_option Elab.async false
set_option linter.all false
set_option maxRecDepth 100000
set_option maxHeartbeats 4000000
/-! tuples whose object is known to have no dict: made by tuple(list); methods of theirs -/
namespace My
open PySem L2 PySem.Spec PyProof.Rows
def TupN (H : Hp) (a : Addr) (xs : List V) : Prop := ∃ o : Obj, o.dict = none ∧ H a = some (.frz o (.tup xs))
theorem TupN.sq {K : PySem.W.Frag} {H : Hp} {a : Addr} {xs : List V} (h : TupN H a xs) : SqT K H a xs := by
  obtain ⟨o, _, h⟩ := h
  exact .inl (.inr ⟨o, h⟩)
section
variable {X : Cx}
/-- tuple(x), x a list or such a tuple -/
def rTupN (K : PySem.W.Frag) : List V → Hp → VK → Prop := fun xs H Q => ∃ p ys, xs = [.ref p] ∧ (SqL K H p ys ∨ TupN H p ys) ∧ ∀ t H2, (∀ b u, H b = some u → H2 b = some u) → TupN H2 t ys → Q (.ref t) H2
theorem call_tupN : CallR X (.type "tuple") (rTupN X.K) := by
  intro pins s σ H xs us Q I r want
  obtain ⟨p, ys, rfl, is_, k⟩ := want
  rw [Vals.ref1 r]
  rcases is_ with is_ | is_
  · obtain ⟨its, rv, pl, few⟩ := I.list is_
    have hl := rv.length
    refine call_tuple_list pl.isList (fun h' keep => ?_) (by simp only [List.size_toArray] <;> omega)
    have I1 : Inv X pins σ H { s with heap := h' } := I.kept (t' := s.toks) keep
    have free := I1.hok.fresh (Nat.le_refl h'.objs.size)
    have J := I1.laid (t' := s.toks) (a := h'.objs.size) (o := .frz { cls := .type "tuple", data := .seq its.toArray } (.tup ys)) (fun b o e => Heap.get?_push_of_some { cls := .type "tuple", data := .seq its.toArray } e) (Nat.le_refl _) ⟨Heap.get?_push_size _ rfl, few, its, rv, IsTup.new _ _⟩
    exact ⟨.ref h'.objs.size, _, J, rfl, k _ _ (fun b u e => by rw [upd_ne (ne_of_none e free)]; exact e) ⟨_, rfl, upd_same⟩⟩
  · obtain ⟨its, rv, pl, _⟩ := I.tuple (is_.sq (K := X.K))
    exact call_tuple_same pl ⟨.ref p, H, I, rfl, k p H (fun _ _ e => e) is_⟩
/-- x.m(e, ..), x such a tuple -/
def tBMT (r : V → List V → Hp → VK → Prop) (to : TE) (t : TA) : TE := fun σ H Q => to σ H fun x H1 => ∃ a ys, x = .ref a ∧ TupN H1 a ys ∧ t σ H1 fun xs H2 => r x xs H2 Q
theorem pe_bmT {o e : Expr} {es : List Expr} {to : TE} {t : TA} {name : Str} {apos cpos : Pos} {id : String} {r : V → List V → Hp → VK → Prop} (pa : PlainAttrs "tuple") (slot : Slot "tuple" name id) (ty : typeOf (.builtin id) = pure (.type "method_descriptor")) (hm : MtR X id r) (ho : PE X o to) (ha : PA X (e :: es) t)
    (h1 : attributeBase o name X.env (eval o X.env) = eval o X.env := by rfl) (h2 : ((backTo cpos (starEach (e :: es) X.env)).all (fun x => !x.1) && (backToKw cpos (keywordEach [] X.env)).all (fun x => x.1.isSome) && decide ((e :: es).length + ([] : List Keyword).length + (if ([] : List Keyword).isEmpty then 0 else 1) < 30)) = true := by rfl)
    (h3 : (apos.endLine == cpos.line) = true := by rfl) (h4 : starEach (e :: es) X.env = (false, eval e X.env) :: starEach es X.env := by rfl) (h5 : (backTo cpos (starEach es X.env)).any (·.1) = false := by rfl) :
    PE X (.Call (.Attribute o name apos) (e :: es) [] cpos) (tBMT r to t) := by
  refine ⟨fun pins s σ H Q I want => ?_⟩
  refine wpAny_Call_method_late h1 h2 h3 rfl (thn (ho.run pins s σ H _ I want) fun v s1 ⟨x, H1, I1, rx, a, ys, ex, ⟨ob, nd, at_⟩, q⟩ => ?_)
  subst ex
  cases rx
  obtain ⟨got, _, its, _, o2, got2, cls, _⟩ : ObjOk X.prog X.w H1 s1.heap a (.frz ob (.tup ys)) := I1.hok a _ at_
  refine ⟨"tuple", id, pa, slot, ty, ⟨o2, got2, cls⟩, fun b eb => ?_, ?_⟩
  · cases eb
    exact ⟨ob, got, nd⟩
  · have told := ha.run cpos pins s1 σ H1 _ I1 q
    rw [h4] at told ⊢
    refine Calls.callWith_builtin ?_ (Calls.evalArgs_plain (thn told fun us s2 ⟨vs, H2, I2, r2, q2⟩ => hm pins s2 σ H2 (.ref a) vs (.ref a) us Q I2 rfl r2 q2))
    show (false || (backTo cpos (starEach es X.env)).any (·.1)) = false
    rw [h5]
    rfl
end
end My
set_option Elab.async false
set_option linter.all false
set_option maxRecDepth 100000
set_option maxHeartbeats 4000000
/-! == of dicts, entry by entry, from state to state -/
namespace My
open PySem PySem.Spec PyProof.Rows
section
variable {prog : Program} {w : World} {A : Around} {E : Value → Shared → Prop} {s : Shared}
/-- what stands at d: a dict's rows -/
def RowsAt (h : Heap) (d : Addr) (es : Array DictEntry) (ep : Nat) : Prop := ∃ o, h.get? d = some o ∧ o.data = .dict es ep
/-- one turn of the comparison -/
def turnOf (b : Addr) (e : DictEntry) : Sem Bool := holding [e.key, e.val] do
  let some j ← dictFind b e.key e.hash | pure false
  let some f := (← dictEntries b)[j]? | unsupported "internal:dict-equal"
  holding [f.val] (eqBool e.val f.val)
theorem same_rows {nm : String} {a b : Addr} {es es' : Array DictEntry} {ep ep' : Nat} {R : Bool → Shared → Prop} (na : (a == sysModules) = false) (nb : (b == sysModules) = false) (ra : RowsAt s.heap a es ep) (rb : RowsAt s.heap b es' ep')
    (W : Nat → Shared → Prop) (w0 : es.size = es'.size → W 0 s) (other : es.size ≠ es'.size → R false s) (at_ : ∀ i t, W i t → RowsAt t.heap a es ep)
    (step : ∀ i e t, es[i]? = some e → W i t → wpAny (model prog w) A (turnOf b e) (fun k t' => if k = true then W (i + 1) t' else R false t') E t) (fin : ∀ t, W es.size t → R true t) :
    wpAny (model prog w) A (Builtin.Dict.samePairs nm a b) R E s := by
  unfold Builtin.Dict.samePairs Builtin.Dict.showsAll
  rw [na, nb]
  simp only [Bool.false_eq_true, if_false]
  obtain ⟨oa, ha, da⟩ := ra
  obtain ⟨ob, hb, db⟩ := rb
  refine wpAny_bind (wpAny_pure (wpAny_bind (wpAny_pure (wpAny_bind (wpAny_dictEntries ha da ?_)))))
  refine wpAny_bind (wpAny_dictEntries hb db ?_)
  by_cases sz : es.size = es'.size
  · have nsz : (es.size != es'.size) = false := by simp [sz]
    rw [nsz]
    simp only [Bool.false_eq_true, if_false]
    have start := w0 sz
    refine wpAny_bind (wpAny_dictEpoch ha da (wpAny_bind ?_))
    rw [Std.Legacy.Range.forIn_eq_forIn_range']
    simp only [Std.Legacy.Range.size, Nat.sub_zero, Nat.add_sub_cancel, Nat.div_one]
    refine wpAny_forIn_list _ (fun left acc t => acc = (none, ()) ∧ ∃ i, left = List.range' i (es.size - i) ∧ i ≤ es.size ∧ W i t) _ ?_ ?_ _ _ ⟨rfl, 0, by simp, Nat.zero_le _, start⟩
    · rintro x left acc t ⟨rfl, i, el, hi, hw⟩
      have lt : i < es.size := by
        by_cases h : i < es.size
        · exact h
        · rw [show es.size - i = 0 by omega] at el
          simp at el
      rw [show es.size - i = (es.size - (i + 1)) + 1 by omega, List.range'_succ] at el
      injection el with e1 e2
      subst e1
      obtain ⟨o1, g1, d1⟩ := at_ x t hw
      refine wpAny_bind (wpAny_dictEntries g1 d1 ?_)
      have ge : es[x]? = some es[x] := Array.getElem?_eq_getElem lt
      rw [ge]
      refine wpAny_bind (wpAny_mono (step x es[x] t ge hw) (fun k t' z => ?_) fun _ _ z => z)
      cases k with
      | false => exact wpAny_pure (wpAny_pure z)
      | true =>
        have z' : W (x + 1) t' := z
        obtain ⟨o2, g2, d2⟩ := at_ _ t' z'
        refine wpAny_bind (wpAny_dictEpoch g2 d2 ?_)
        rw [if_neg (by simp)]
        exact wpAny_pure ⟨rfl, x + 1, e2, lt, z'⟩
    · rintro acc t ⟨rfl, i, el, hi, hw⟩
      have le : i = es.size := by
        by_cases h : i < es.size
        · rw [show es.size - i = (es.size - (i + 1)) + 1 by omega, List.range'_succ] at el
          simp at el
        · omega
      subst le
      exact wpAny_pure (fin t hw)
  · have nsz : (es.size != es'.size) = true := by simpa using sz
    rw [nsz]
    simp only [if_true]
    exact wpAny_bind (wpAny_rule (wpAny_pure (other sz)))
end
end My
set_option Elab.async false
set_option linter.all false
set_option maxRecDepth 100000
set_option maxHeartbeats 4000000
/-! == and != of tuples, item by item, from state to state -/
namespace My
open PySem PySem.SeqAt
open AutoSeq1 (wpAny_loadPart')
open MeetsSeq MeetsSeq2 MeetsSeq3 SeqRoads2
section
variable {prog : Program} {w : World} {A : Around} {E : Value → Shared → Prop} {s : Shared} {l b : Addr} {xs ys : Array Value}
theorem eq_bodyW {R : Result → Shared → Prop} {dl db : Option Addr} {nl nb : Nat} {sl sb : Array (Option Value)} (at1 : s.heap.get? l = some ⟨.type "tuple", dl, .seq xs nl, sl⟩) (at2 : s.heap.get? b = some ⟨.type "tuple", db, .seq ys nb, sb⟩) (same : xs.size = ys.size)
    (W : Nat → Shared → Prop) (w0 : W 0 s) (step : ∀ i u v t, xs[i]? = some u → ys[i]? = some v → W i t → wpAny (model prog w) A.in1 (eqBool u v) (fun k t' => if k = true then W (i + 1) t' else R (.ok (.ret (.bool false))) t') (fun e t => R (.error e) t) t) (fin : ∀ t, W xs.size t → R (.ok (.ret (.bool true))) t) :
    wpAny (model prog w) A.in1 (Builtin.«tuple.__eq__» ⟨[.ref l, .ref b], []⟩) (GQ.FinOf prog w A R) (fun e t => R (.error e) t) s := by
  have sub := AutoSeq1.sub_tuple_tuple
  have step0 := step
  have fin0 := fin
  have w00 := w0
  have zl : (xs.toList.zip ys.toList).length = xs.size := by
    rw [List.length_zip, Array.length_toList, Array.length_toList, same, Nat.min_self]
  wp_walk using wpAny_loadPart' at1, wpAny_loadPart' at2, wpAny_forIn_list _ (fun left acc t => acc.1 = none ∧ ∃ i, left = (xs.toList.zip ys.toList).drop i ∧ i ≤ xs.size ∧ W i t) _
  case h => exact ⟨rfl, 0, rfl, Nat.zero_le _, w00⟩
  case turn =>
    rintro ⟨u, v⟩ left acc t ⟨none_, i, el, hi, hw⟩
    have lt : i < xs.size := by
      by_cases h : i < xs.size
      · exact h
      · rw [List.drop_of_length_le (by omega)] at el
        cases el
    have lz : i < (xs.toList.zip ys.toList).length := by omega
    rw [List.drop_eq_getElem_cons lz] at el
    injection el with e1 e2
    rw [List.getElem_zip] at e1
    injection e1 with e3 e4
    have gu : xs[i]? = some u := by
      rw [e3, ← Array.getElem?_toList]
      exact List.getElem?_eq_getElem (by rw [Array.length_toList]; omega)
    have gv : ys[i]? = some v := by
      rw [e4, ← Array.getElem?_toList]
      exact List.getElem?_eq_getElem (by rw [Array.length_toList]; omega)
    refine wpAny_bind (wpAny_mono (step0 i u v t gu gv hw) (fun k t' z => ?_) fun _ _ z => z)
    cases k with
    | false =>
      have z' : R (.ok (.ret (.bool false))) t' := z
      wp_walk
      exact z'
    | true =>
      have z' : W (i + 1) t' := z
      wp_walk
      exact ⟨rfl, i + 1, e2, lt, z'⟩
  case fin =>
    rintro ⟨c1, c2⟩ t ⟨none_, i, el, hi, hw⟩
    simp only at none_
    rw [none_]
    have le : i = xs.size := by
      by_cases h : i < xs.size
      · have lz : i < (xs.toList.zip ys.toList).length := by omega
        rw [List.drop_eq_getElem_cons lz] at el
        cases el
      · omega
    subst le
    have z' := fin0 t hw
    wp_walk
    simpa [Builtin.Tuple.tupleCompareSizes, same] using z'
theorem ne_bodyW {R : Result → Shared → Prop} {dl db : Option Addr} {nl nb : Nat} {sl sb : Array (Option Value)} (at1 : s.heap.get? l = some ⟨.type "tuple", dl, .seq xs nl, sl⟩) (at2 : s.heap.get? b = some ⟨.type "tuple", db, .seq ys nb, sb⟩) (same : xs.size = ys.size)
    (W : Nat → Shared → Prop) (w0 : W 0 s) (step : ∀ i u v t, xs[i]? = some u → ys[i]? = some v → W i t → wpAny (model prog w) A.in1 (eqBool u v) (fun k t' => if k = true then W (i + 1) t' else R (.ok (.ret (.bool true))) t') (fun e t => R (.error e) t) t) (fin : ∀ t, W xs.size t → R (.ok (.ret (.bool false))) t) :
    wpAny (model prog w) A.in1 (Builtin.«tuple.__ne__» ⟨[.ref l, .ref b], []⟩) (GQ.FinOf prog w A R) (fun e t => R (.error e) t) s := by
  have sub := AutoSeq1.sub_tuple_tuple
  have step0 := step
  have fin0 := fin
  have w00 := w0
  have zl : (xs.toList.zip ys.toList).length = xs.size := by
    rw [List.length_zip, Array.length_toList, Array.length_toList, same, Nat.min_self]
  wp_walk using wpAny_loadPart' at1, wpAny_loadPart' at2, wpAny_forIn_list _ (fun left acc t => acc.1 = none ∧ ∃ i, left = (xs.toList.zip ys.toList).drop i ∧ i ≤ xs.size ∧ W i t) _
  case h => exact ⟨rfl, 0, rfl, Nat.zero_le _, w00⟩
  case turn =>
    rintro ⟨u, v⟩ left acc t ⟨none_, i, el, hi, hw⟩
    have lt : i < xs.size := by
      by_cases h : i < xs.size
      · exact h
      · rw [List.drop_of_length_le (by omega)] at el
        cases el
    have lz : i < (xs.toList.zip ys.toList).length := by omega
    rw [List.drop_eq_getElem_cons lz] at el
    injection el with e1 e2
    rw [List.getElem_zip] at e1
    injection e1 with e3 e4
    have gu : xs[i]? = some u := by
      rw [e3, ← Array.getElem?_toList]
      exact List.getElem?_eq_getElem (by rw [Array.length_toList]; omega)
    have gv : ys[i]? = some v := by
      rw [e4, ← Array.getElem?_toList]
      exact List.getElem?_eq_getElem (by rw [Array.length_toList]; omega)
    refine wpAny_bind (wpAny_mono (step0 i u v t gu gv hw) (fun k t' z => ?_) fun _ _ z => z)
    cases k with
    | false =>
      have z' : R (.ok (.ret (.bool true))) t' := z
      wp_walk
      exact z'
    | true =>
      have z' : W (i + 1) t' := z
      wp_walk
      exact ⟨rfl, i + 1, e2, lt, z'⟩
  case fin =>
    rintro ⟨c1, c2⟩ t ⟨none_, i, el, hi, hw⟩
    simp only at none_
    rw [none_]
    have le : i = xs.size := by
      by_cases h : i < xs.size
      · have lz : i < (xs.toList.zip ys.toList).length := by omega
        rw [List.drop_eq_getElem_cons lz] at el
        cases el
      · omega
    subst le
    have z' := fin0 t hw
    wp_walk
    simpa [Builtin.Tuple.tupleCompareSizes, same, bne] using z'
theorem eq_tuplesW {Q : Value → Shared → Prop} (hu : A.units < cLine) (hl : s.heap.IsTuple l xs) (hb : s.heap.IsTuple b ys) (same : xs.size = ys.size) (W : Nat → Shared → Prop) (w0 : W 0 s)
    (step : ∀ i u v t, xs[i]? = some u → ys[i]? = some v → W i t → wpAny (model prog w) A.in1 (eqBool u v) (fun k t' => if k = true then W (i + 1) t' else Q (.bool false) t') E t) (fin : ∀ t, W xs.size t → Q (.bool true) t) : wpAny (model prog w) A (richCompare .Eq (.ref l) (.ref b)) Q E s := by
  obtain ⟨⟨kl, dl, bl, sl⟩, ol, el, nl, fl⟩ := id hl
  obtain ⟨⟨kb, db, bb, sb⟩, ob, eb, nb, fb⟩ := id hb
  simp only at el fl eb fb
  subst el fl eb fb
  refine wpAny_richCompare_same_room (op := .Eq) ⟨_, ol, rfl⟩ ⟨_, ob, rfl⟩ F.slot_tuple_eq (GQ.call_here F.slot_tuple_eq ⟨_, ol, rfl⟩ F.entry_tuple_eq (F.args_tuple_eq_2 _ _) ?_) hu
  refine eq_bodyW (R := wants (fun v t => v ≠ .notImplemented ∧ Q v t) E) ol ob same W w0 (fun i u v t gu gv hw => wpAny_mono (step i u v t gu gv hw) (fun k t' z => ?_) fun _ _ z => z) fun t hw => ⟨(fun x => nomatch x), fin t hw⟩
  cases k with
  | true => exact z
  | false => exact ⟨(fun x => nomatch x), z⟩
theorem ne_tuplesW {Q : Value → Shared → Prop} (hu : A.units < cLine) (hl : s.heap.IsTuple l xs) (hb : s.heap.IsTuple b ys) (same : xs.size = ys.size) (W : Nat → Shared → Prop) (w0 : W 0 s)
    (step : ∀ i u v t, xs[i]? = some u → ys[i]? = some v → W i t → wpAny (model prog w) A.in1 (eqBool u v) (fun k t' => if k = true then W (i + 1) t' else Q (.bool true) t') E t) (fin : ∀ t, W xs.size t → Q (.bool false) t) : wpAny (model prog w) A (compareOp .NotEq (.ref l) (.ref b)) Q E s := by
  obtain ⟨⟨kl, dl, bl, sl⟩, ol, el, nl, fl⟩ := id hl
  obtain ⟨⟨kb, db, bb, sb⟩, ob, eb, nb, fb⟩ := id hb
  simp only at el fl eb fb
  subst el fl eb fb
  refine wpAny_richCompare_same_room (op := .NotEq) ⟨_, ol, rfl⟩ ⟨_, ob, rfl⟩ F.slot_tuple_ne (GQ.call_here F.slot_tuple_ne ⟨_, ol, rfl⟩ F.entry_tuple_ne (F.args_tuple_ne_2 _ _) ?_) hu
  refine ne_bodyW (R := wants (fun v t => v ≠ .notImplemented ∧ Q v t) E) ol ob same W w0 (fun i u v t gu gv hw => wpAny_mono (step i u v t gu gv hw) (fun k t' z => ?_) fun _ _ z => z) fun t hw => ⟨(fun x => nomatch x), fin t hw⟩
  cases k with
  | true => exact z
  | false => exact ⟨(fun x => nomatch x), z⟩
end
end My
set_option Elab.async false
set_option linter.all false
set_option maxRecDepth 100000
set_option maxHeartbeats 4000000
/-! how values compare: data, tuples, dicts by names and by tuples, one in another -/
namespace My
open PySem L2 PySem.Spec PyProof.Rows
/-- the rows of one dict looked up in another one -/
inductive Hits {κ : Type} [DecidableEq κ] (F : V → V → Bool → Prop) (ls : List (κ × V)) : List (κ × V) → Bool → Prop
  | nil : Hits F ls [] true
  | miss {k : κ} {v : V} {r : List (κ × V)} (h : valV ls k = none) : Hits F ls ((k, v) :: r) false
  | hit {k : κ} {v u : V} {r : List (κ × V)} {b c : Bool} (h : valV ls k = some u) (q : F v u b) (t : Hits F ls r c) : Hits F ls ((k, v) :: r) (b && c)
inductive Its (F : V → V → Bool → Prop) : List V → List V → Bool → Prop
  | nil : Its F [] [] true
  | cons {x y : V} {xs ys : List V} {b c : Bool} (h : F x y b) (t : Its F xs ys c) : Its F (x :: xs) (y :: ys) (b && c)
theorem Its.len {F : V → V → Bool → Prop} : ∀ {xs ys : List V} {b : Bool}, Its F xs ys b → xs.length = ys.length
  | _, _, _, .nil => rfl
  | _, _, _, .cons _ t => congrArg (· + 1) t.len
/-- equal or not, of nesting up to n -/
def EqT (K : PySem.W.Frag) (H : Hp) : Nat → V → V → Bool → Prop
  | 0 => fun x y b => ∃ d e, Dp K H x d ∧ Dp K H y e ∧ SeqAt.shaped d = true ∧ SeqAt.shaped e = true ∧ b = PyData.eqv d e
  | n + 1 => fun x y b => EqT K H n x y b ∨ (∃ a : Addr, x = .ref a ∧ y = .ref a ∧ b = true) ∨
      (∃ (a c : Addr) (xs ys : List V), x = .ref a ∧ y = .ref c ∧ a ≠ c ∧ SqT K H a xs ∧ SqT K H c ys ∧ Its (EqT K H n) xs ys b) ∨
      (∃ (a c : Addr) (ks ls : List (Key × V)) (r : Bool), x = .ref a ∧ y = .ref c ∧ a ≠ c ∧ H a = some (.dK ks) ∧ H c = some (.dK ls) ∧ Hits (EqT K H n) ls ks r ∧ b = (ks.length == ls.length && r)) ∨
      (∃ (a c : Addr) (ks ls : List (List Key × V)) (r : Bool), x = .ref a ∧ y = .ref c ∧ a ≠ c ∧ H a = some (.dT ks) ∧ H c = some (.dT ls) ∧ Hits (EqT K H n) ls ks r ∧ b = (ks.length == ls.length && r))
theorem paired_get {α β : Type} {F : α → β → Prop} : ∀ {l : List α} {m : List β} {i : Nat} {y : β}, Paired F l m → m[i]? = some y → ∃ x, l[i]? = some x ∧ F x y
  | _, _, _, _, .nil, h => by simp at h
  | _, _, 0, _, .cons r _, h => ⟨_, rfl, by
    obtain rfl := Option.some.inj h
    exact r⟩
  | _, _, i + 1, _, .cons _ t, h => by
    obtain ⟨x, h1, h2⟩ := paired_get (i := i) t (by simpa using h)
    exact ⟨x, by simpa using h1, h2⟩
section
variable {X : Cx} {pins : List (Addr × Obj)} {σ : L2.St} {H : Hp} {s : Shared} {A : Around}
/-- F, said of what runs -/
def Runs (P : Program) (w : World) (A : Around) (s : Shared) (F : V → V → Bool → Prop) : Prop := ∀ (x y : V) (b : Bool) (u v : Value), F x y b → RelV x u → RelV y v → SeqAt.EqP P w A s u v b
theorem hits_keq {P : Program} {w : World} {F : V → V → Bool → Prop} (run : Runs P w A s F) {ls : List (Key × V)} {vb : List (Key × Value)} (rb : KV ls vb) {ks : List (Key × V)} {r : Bool} (h : Hits F ls ks r) : ∀ {va : List (Key × Value)}, KV ks va → PySem.W.KeqHitsP P w A s vb va r := by
  induction h with
  | nil =>
    intro va ra
    cases ra
    exact .nil
  | @miss k v r0 no =>
    intro va ra
    cases ra with
    | @cons p q ps qs h1 t1 =>
      obtain ⟨key, u⟩ := q
      obtain rfl : k = key := h1.1
      have z := rb.val k
      rw [no] at z
      cases e : valueAt vb k with
      | none => exact .miss e
      | some y =>
        rw [e] at z
        exact z.elim
  | @hit k v u r0 b c yes q t ih =>
    intro va ra
    cases ra with
    | @cons p q' ps qs h1 t1 =>
      obtain ⟨key, u'⟩ := q'
      obtain rfl : k = key := h1.1
      have z := rb.val k
      rw [yes] at z
      obtain ⟨y, hy, ry⟩ := z.some_of
      exact .hit hy (run _ _ _ _ _ q h1.2 ry) (ih t1)
theorem turn_h {P : Program} {w : World} {E : Value → Shared → Prop} {κ : Type} [DecidableEq κ] {knd : HeapKind P w κ} {b ka : Addr} {xs : List (κ × Addr × Value)} {k : κ} {v : Value} {R : Bool → Shared → Prop} (room : knd.room A) (hk : knd.is s.heap k ka) (hb : s.heap.DictOfH knd b xs)
    (miss : atKey xs k = none → R false s) (hit : ∀ p, atKey xs k = some p → wpAny (model P w) A (eqBool v p.2) R E s) : wpAny (model P w) A (turnOf b (entryOfKey knd (k, ka, v))) R E s := by
  obtain ⟨o, es, ep, ho, _, hd, he, his, nd⟩ := hb
  unfold turnOf
  refine wpAny_holding ?_
  show wpAny _ _ (dictFind b (.ref ka) (knd.hash k) >>= _) _ _ s
  refine wpAny_bind (wpAny_dictFind_heap room hk ho hd he his nd (fun no => ?_) fun j p hj => ?_)
  · exact wpAny_pure (miss (atKey_none_of_get no))
  · refine wpAny_bind (wpAny_dictEntries ho hd ?_)
    rw [entry_at he j, hj]
    exact wpAny_holding (hit p (atKey_of_get nd hj))
theorem rcP_dictsH {P : Program} {w : World} {a b : Addr} {F : V → V → Bool → Prop} {ks ls : List (List Key × V)} {xa xb : List (List Key × Addr × Value)} {r : Bool} (na : (a == sysModules) = false) (nb : (b == sysModules) = false) (hu : A.units + 1 < cLine)
    (ra : KT H ks xa) (rb : KT H ls xb) (da : s.heap.DictOfH (tupleKind (mixKind P w)) a xa) (db : s.heap.DictOfH (tupleKind (mixKind P w)) b xb) (run : Runs P w A.in1 s F) (hits : Hits F ls ks r) (E Q : Value → Shared → Prop) (h : Q (.bool (ks.length == ls.length && r)) s) :
    wpAny (model P w) A (richCompare .Eq (.ref a) (.ref b)) Q E s := by
  obtain ⟨oa, es, ep, ha, xa1, hda, hea, hia, nda⟩ := id da
  obtain ⟨ob, es', ep', hb, xb1, hdb, heb, hib, ndb⟩ := id db
  have ta : s.TypeIs (.ref a) "dict" := ⟨oa, ha, xa1.1⟩
  have tb : s.TypeIs (.ref b) "dict" := ⟨ob, hb, xb1.1⟩
  have la : es.size = ks.length := by rw [size_of_entries hea]; exact (Paired.length ra).symm
  have lb : es'.size = ls.length := by rw [size_of_entries heb]; exact (Paired.length rb).symm
  refine wpAny_richCompare_same_room (op := .Eq) ta tb PySem.F.slot_dict_eq (wpAny_call_entry PySem.F.slot_dict_eq ta PySem.F.entry_dict_eq ?_ (PySem.F.args_dict_eq_2 _ _)) (by omega)
  show wpAny _ _ (Builtin.Dict.dictSlotArgs "__eq__" ⟨[.ref a, .ref b], []⟩ >>= _) _ _ s
  refine wpAny_bind ?_
  unfold Builtin.Dict.dictSlotArgs
  refine wpAny_bind (wpAny_notOrdered_dict ta (show wpAny _ _ (pure (Value.ref a, Value.ref b)) _ _ s from wpAny_pure (wpAny_bind (wpAny_isInstance (T := "dict") tb PySem.F.sub_dict_dict ?_))))
  simp only [Bool.not_true, Bool.false_eq_true, if_false]
  refine wpAny_bind (wpAny_pure (wpAny_bind (wpAny_pure (wpAny_bind ?_))))
  refine same_rows (es := es) (es' := es') na nb ⟨oa, ha, hda⟩ ⟨ob, hb, hdb⟩ (fun i t => t = s ∧ ks.length = ls.length ∧ Hits F ls (ks.drop i) r) (fun sz => ⟨rfl, by omega, hits⟩) (fun ne => ?_) (fun i t hw => hw.1 ▸ ⟨oa, ha, hda⟩) (fun i e t ge hw => ?_) fun t hw => ?_
  · refine wpAny_pure ⟨_, rfl, (fun x => nomatch x), ?_⟩
    rw [show (ks.length == ls.length) = false by simp; omega] at h
    exact h
  · obtain ⟨rfl, ll, hh⟩ := hw
    rw [entry_at hea i] at ge
    obtain ⟨q, hq, rfl⟩ := Option.map_eq_some_iff.mp ge
    obtain ⟨k, ka, v⟩ := q
    obtain ⟨p, hp, e1, e2, e3⟩ := paired_get ra hq
    obtain ⟨k', x⟩ := p
    obtain rfl : k' = k := e1
    have lt := (List.getElem?_eq_some_iff.mp hp).1
    have dr : ks.drop i = (k', x) :: ks.drop (i + 1) := by
      rw [List.drop_eq_getElem_cons lt, (List.getElem?_eq_some_iff.mp hp).2]
    rw [dr] at hh
    have rel := rb.val k'
    have hkey := hia _ (List.mem_of_getElem? hq)
    refine turn_h (xs := xb) hu hkey db (fun no => ?_) fun p yes => ?_
    · cases hh with
      | miss z => 
        show (if false = true then _ else _)
        refine wpAny_pure ⟨_, rfl, (fun x => nomatch x), ?_⟩
        rw [Bool.and_false] at h
        exact h
      | hit z _ _ =>
        rw [z, no] at rel
        exact rel.elim
    · cases hh with
      | miss z =>
        rw [z, yes] at rel
        exact rel.elim
      | @hit _ _ u _ b0 c0 z q t =>
        rw [z, yes] at rel
        have ry : RelV u p.2 := rel
        refine run _ _ _ _ _ q e3 ry _ _ ?_
        cases b0 with
        | true => exact ⟨rfl, ll, by simpa using t⟩
        | false =>
          refine wpAny_pure ⟨_, rfl, (fun x => nomatch x), ?_⟩
          rw [Bool.false_and, Bool.and_false] at h
          exact h
  · obtain ⟨rfl, ll, hh⟩ := hw
    rw [List.drop_of_length_le (by omega)] at hh
    cases hh
    refine wpAny_pure ⟨_, rfl, (fun x => nomatch x), ?_⟩
    rw [ll] at h
    simpa using h
theorem eqT_run (I : Inv X pins σ H s) : ∀ (n : Nat) (A : Around), A.units + 2 * n + 66 < cLine → Runs X.prog X.w A s (EqT X.K H n)
  | 0, A, hu, x, y, b, u, v, h, rx, ry => by
    obtain ⟨d, e, h1, h2, s1, s2, rfl⟩ := h
    obtain ⟨as, r1⟩ := Dp.reads I _ _ _ h1 rx
    obtain ⟨bs, r2⟩ := Dp.reads I _ _ _ h2 ry
    exact SeqAt.EqAt.eqP (SeqAt.eqAt_reads _ _ A s u v as bs r1 r2 (SeqAt.canLay_of_shaped s1) (SeqAt.canLay_of_shaped s2) (SeqAt.room_of_shaped s1 (by omega)))
  | n + 1, A, hu, x, y, b, u, v, h, rx, ry => by
    have ih := eqT_run I n A.in1 (by show A.units + 1 + 2 * n + 66 < cLine; omega)
    rcases h with h | ⟨a, rfl, rfl, rfl⟩ | ⟨a, c, xs, ys, rfl, rfl, ne, ha, hc, it⟩ | ⟨a, c, ks, ls, r, rfl, rfl, ne, ha, hc, hits, rfl⟩ | ⟨a, c, ks, ls, r, rfl, rfl, ne, ha, hc, hits, rfl⟩
    · exact eqT_run I n A (by omega) x y b u v h rx ry
    · cases rx
      cases ry
      exact (SeqAt.EqAt.same _).eqP
    · cases rx
      cases ry
      obtain ⟨its, r1, p1, _⟩ := I.tuple ha
      obtain ⟨its2, r2, p2, _⟩ := I.tuple hc
      have ll := it.len
      have l1 := r1.length
      have l2 := r2.length
      refine SeqAt.eqP_refs ne fun E Q q => eq_tuplesW (by omega) p1 p2 (by rw [List.size_toArray, List.size_toArray]; omega) (fun i t => t = s ∧ Its (EqT X.K H n) (xs.drop i) (ys.drop i) b) ⟨rfl, it⟩ (fun i u v t gu gv hw => ?_) fun t hw => ?_
      · obtain ⟨rfl, hh⟩ := hw
        rw [List.getElem?_toArray] at gu gv
        obtain ⟨x, gx, rx⟩ := vals_back r1 gu
        obtain ⟨y, gy, ry⟩ := vals_back r2 gv
        have d1 : xs.drop i = x :: xs.drop (i + 1) := by
          rw [List.drop_eq_getElem_cons (List.getElem?_eq_some_iff.mp gx).1, (List.getElem?_eq_some_iff.mp gx).2]
        have d2 : ys.drop i = y :: ys.drop (i + 1) := by
          rw [List.drop_eq_getElem_cons (List.getElem?_eq_some_iff.mp gy).1, (List.getElem?_eq_some_iff.mp gy).2]
        rw [d1, d2] at hh
        cases hh with
        | @cons _ _ _ _ b0 c0 z tl =>
          refine ih _ _ _ _ _ z rx ry _ _ ?_
          cases b0 with
          | true => exact ⟨rfl, by simpa using tl⟩
          | false =>
            rw [Bool.false_and] at q
            exact q
      · obtain ⟨rfl, hh⟩ := hw
        rw [List.size_toArray, List.drop_of_length_le (by omega), List.drop_of_length_le (by omega)] at hh
        cases hh
        exact q
    · cases rx
      cases ry
      obtain ⟨_, na, va, ra, da⟩ := dk_of I.hok ha
      obtain ⟨_, nc, vb, rb, db⟩ := dk_of I.hok hc
      refine SeqAt.eqP_refs ne fun E Q q => PySem.W.rcP_dicts na nc da db (by omega) (fun _ => hits_keq ih rb hits ra) E Q ?_
      rw [← ra.length, ← rb.length]
      exact q
    · cases rx
      cases ry
      obtain ⟨_, na, va, ra, da⟩ := dt_of I.hok ha
      obtain ⟨_, nc, vb, rb, db⟩ := dt_of I.hok hc
      exact SeqAt.eqP_refs ne fun E Q q => rcP_dictsH na nc (by omega) ra rb da db ih hits E Q q
end
section
variable {X : Cx}
/-- == and != of what compares without a call -/
def rEqT (K : PySem.W.Frag) : R2 := fun x y H Q => ∃ (n : Nat) (b : Bool), n ≤ 20 ∧ EqT K H n x y b ∧ Q (.bl b) H
def rNeTT (K : PySem.W.Frag) : R2 := fun x y H Q => ∃ (a c : Addr) (xs ys : List V) (n : Nat) (b : Bool), x = .ref a ∧ y = .ref c ∧ n ≤ 20 ∧ SqT K H a xs ∧ SqT K H c ys ∧ Its (EqT K H n) xs ys b ∧ Q (.bl (!b)) H
theorem op_neTT (hu : X.A.units + 110 < cLine) : OpR X (compareOp .NotEq) (rNeTT X.K) := by
  intro pins s σ H x y v u Q I rx ry h
  obtain ⟨a, c, xs, ys, n, b, rfl, rfl, hn, ha, hc, it, q⟩ := h
  cases rx
  cases ry
  have ih := eqT_run I n X.A.in1 (by show X.A.units + 1 + 2 * n + 66 < cLine; omega)
  obtain ⟨its, r1, p1, _⟩ := I.tuple ha
  obtain ⟨its2, r2, p2, _⟩ := I.tuple hc
  have ll := it.len
  have l1 := r1.length
  have l2 := r2.length
  refine ne_tuplesW (by omega) p1 p2 (by rw [List.size_toArray, List.size_toArray]; omega) (fun i t => t = s ∧ Its (EqT X.K H n) (xs.drop i) (ys.drop i) b) ⟨rfl, it⟩ (fun i u v t gu gv hw => ?_) fun t hw => ?_
  · obtain ⟨rfl, hh⟩ := hw
    rw [List.getElem?_toArray] at gu gv
    obtain ⟨x, gx, rx⟩ := vals_back r1 gu
    obtain ⟨y, gy, ry⟩ := vals_back r2 gv
    have d1 : xs.drop i = x :: xs.drop (i + 1) := by
      rw [List.drop_eq_getElem_cons (List.getElem?_eq_some_iff.mp gx).1, (List.getElem?_eq_some_iff.mp gx).2]
    have d2 : ys.drop i = y :: ys.drop (i + 1) := by
      rw [List.drop_eq_getElem_cons (List.getElem?_eq_some_iff.mp gy).1, (List.getElem?_eq_some_iff.mp gy).2]
    rw [d1, d2] at hh
    cases hh with
    | @cons _ _ _ _ b0 c0 z tl =>
      refine ih _ _ _ _ _ z rx ry _ _ ?_
      cases b0 with
      | true => exact ⟨rfl, by simpa using tl⟩
      | false =>
        rw [Bool.false_and] at q
        exact ⟨.bl true, H, I, rfl, q⟩
  · obtain ⟨rfl, hh⟩ := hw
    rw [List.size_toArray, List.drop_of_length_le (by omega), List.drop_of_length_le (by omega)] at hh
    cases hh
    exact ⟨.bl false, H, I, rfl, q⟩
end
end My
set_option Elab.async false
set_option linter.all false
set_option maxRecDepth 100000
set_option maxHeartbeats 4000000
/-! == and != with own __eq__ within tuples and dicts -/
namespace My
open PySem L2 PySem.Spec PyProof.Rows
section
variable {X : Cx}
/-- the comparison of x and y at H, run within A, comes to k -/
def CmpM (X : Cx) (A : Around) (x y : V) (H : Hp) (k : Bool → Hp → Prop) : Prop := ∀ (pins : List (Addr × Obj)) (s : Shared) (σ : L2.St) (u v : Value), Inv X pins σ H s → RelV x u → RelV y v →
  wpAny (model X.prog X.w) A (eqBool u v) (fun b s' => ∃ H', Inv X pins σ H' s' ∧ k b H') X.xe s
def itM (X : Cx) (A : Around) : List V → List V → Hp → (Bool → Hp → Prop) → Prop
  | [], [], H, k => k true H
  | x :: xs, y :: ys, H, k => CmpM X A x y H fun b H' => if b = true then itM X A xs ys H' k else k false H'
  | [], _ :: _, _, _ => False
  | _ :: _, [], _, _ => False
theorem itM_len {A : Around} : ∀ {xs ys : List V} {H : Hp} {k : Bool → Hp → Prop}, itM X A xs ys H k → (xs = [] ↔ ys = [])
  | [], [], _, _, _ => ⟨fun _ => rfl, fun _ => rfl⟩
  | _ :: _, _ :: _, _, _, _ => ⟨fun z => (by cases z), fun z => (by cases z)⟩
theorem cmp_pure {A : Around} {x y : V} {H : Hp} {n : Nat} {b : Bool} {k : Bool → Hp → Prop} (h : EqT X.K H n x y b) (hu : A.units + 2 * n + 66 < cLine) (q : k b H) : CmpM X A x y H k := fun pins s σ u v I rx ry =>
  eqT_run I n A hu x y b u v h rx ry _ _ ⟨H, I, q⟩
def rEqTM (X : Cx) : R2 := fun x y H Q => ∃ (a c : Addr) (xs ys : List V), x = .ref a ∧ y = .ref c ∧ xs.length = ys.length ∧ SqT X.K H a xs ∧ SqT X.K H c ys ∧ itM X X.A.in1 xs ys H fun b H' => Q (.bl b) H'
def rNeTM (X : Cx) : R2 := fun x y H Q => ∃ (a c : Addr) (xs ys : List V), x = .ref a ∧ y = .ref c ∧ xs.length = ys.length ∧ SqT X.K H a xs ∧ SqT X.K H c ys ∧ itM X X.A.in1 xs ys H fun b H' => Q (.bl (!b)) H'
theorem drop_at {xs : List V} {i : Nat} {x : V} (h : xs[i]? = some x) : xs.drop i = x :: xs.drop (i + 1) := by
  rw [List.drop_eq_getElem_cons (List.getElem?_eq_some_iff.mp h).1, (List.getElem?_eq_some_iff.mp h).2]
theorem tuplesM {A : Around} {pins : List (Addr × Obj)} {s : Shared} {σ : L2.St} {H : Hp} {xs ys : List V} {k : Bool → Hp → Prop} (I : Inv X pins σ H s) {us vs : List Value} (ru : Vals xs us) (rv : Vals ys vs) (len : xs.length = ys.length) (h : itM X A xs ys H k) :
    ∃ W : Nat → Shared → Prop, W 0 s ∧ (∀ i u v t, us[i]? = some u → vs[i]? = some v → W i t → wpAny (model X.prog X.w) A (eqBool u v) (fun b t' => if b = true then W (i + 1) t' else ∃ H', Inv X pins σ H' t' ∧ k false H') X.xe t) ∧ ∀ t, W us.length t → ∃ H', Inv X pins σ H' t ∧ k true H' := by
  refine ⟨fun i t => ∃ H', Inv X pins σ H' t ∧ itM X A (xs.drop i) (ys.drop i) H' k, ⟨H, I, h⟩, fun i u v t gu gv hw => ?_, fun t hw => ?_⟩
  · obtain ⟨H1, I1, hh⟩ := hw
    obtain ⟨x, gx, rx⟩ := vals_back ru gu
    obtain ⟨y, gy, ry⟩ := vals_back rv gv
    rw [drop_at gx, drop_at gy] at hh
    refine wpAny_mono (hh pins t σ u v I1 rx ry) (fun b t' z => ?_) fun _ _ z => z
    obtain ⟨H2, I2, q⟩ := z
    cases b with
    | true => exact ⟨H2, I2, q⟩
    | false => exact ⟨H2, I2, q⟩
  · obtain ⟨H1, I1, hh⟩ := hw
    have l1 := ru.length
    rw [List.drop_of_length_le (by omega), List.drop_of_length_le (by omega)] at hh
    exact ⟨H1, I1, hh⟩
theorem op_eqTM (hu : X.A.units < cLine) : OpR X (compareOp .Eq) (rEqTM X) := by
  intro pins s σ H x y v u Q I rx ry h
  obtain ⟨a, c, xs, ys, rfl, rfl, len, ha, hc, it⟩ := h
  cases rx
  cases ry
  obtain ⟨its, r1, p1, _⟩ := I.tuple ha
  obtain ⟨its2, r2, p2, _⟩ := I.tuple hc
  obtain ⟨W, w0, step, fin⟩ := tuplesM I r1 r2 len it
  have l1 := r1.length
  have l2 := r2.length
  show wpAny (model X.prog X.w) X.A (richCompare .Eq (.ref a) (.ref c)) (EP X pins σ Q) X.xe s
  refine eq_tuplesW hu p1 p2 (by rw [List.size_toArray, List.size_toArray]; omega) W w0 (fun i u v t gu gv hw => ?_) fun t hw => ?_
  · rw [List.getElem?_toArray] at gu gv
    refine wpAny_mono (step i u v t gu gv hw) (fun b t' z => ?_) fun _ _ z => z
    cases b with
    | true => exact z
    | false =>
      obtain ⟨H', I', q⟩ := z
      exact ⟨.bl false, H', I', rfl, q⟩
  · rw [List.size_toArray] at hw
    obtain ⟨H', I', q⟩ := fin t hw
    exact ⟨.bl true, H', I', rfl, q⟩
theorem op_neTM (hu : X.A.units < cLine) : OpR X (compareOp .NotEq) (rNeTM X) := by
  intro pins s σ H x y v u Q I rx ry h
  obtain ⟨a, c, xs, ys, rfl, rfl, len, ha, hc, it⟩ := h
  cases rx
  cases ry
  obtain ⟨its, r1, p1, _⟩ := I.tuple ha
  obtain ⟨its2, r2, p2, _⟩ := I.tuple hc
  obtain ⟨W, w0, step, fin⟩ := tuplesM I r1 r2 len it
  have l1 := r1.length
  have l2 := r2.length
  refine ne_tuplesW hu p1 p2 (by rw [List.size_toArray, List.size_toArray]; omega) W w0 (fun i u v t gu gv hw => ?_) fun t hw => ?_
  · rw [List.getElem?_toArray] at gu gv
    refine wpAny_mono (step i u v t gu gv hw) (fun b t' z => ?_) fun _ _ z => z
    cases b with
    | true => exact z
    | false =>
      obtain ⟨H', I', q⟩ := z
      exact ⟨.bl true, H', I', rfl, q⟩
  · rw [List.size_toArray] at hw
    obtain ⟨H', I', q⟩ := fin t hw
    exact ⟨.bl false, H', I', rfl, q⟩
/-- two dicts, their values compared without a call -/
def rEqDD (K : PySem.W.Frag) : R2 := fun x y H Q => ∃ (a c : Addr) (n : Nat) (b r : Bool), x = .ref a ∧ y = .ref c ∧ n ≤ 20 ∧ Q (.bl b) H ∧
  ((∃ ks ls : List (Key × V), H a = some (.dK ks) ∧ H c = some (.dK ls) ∧ Hits (EqT K H n) ls ks r ∧ b = (ks.length == ls.length && r)) ∨
   ∃ ks ls : List (List Key × V), H a = some (.dT ks) ∧ H c = some (.dT ls) ∧ Hits (EqT K H n) ls ks r ∧ b = (ks.length == ls.length && r))
theorem op_eqDD (hu : X.A.units + 110 < cLine) : OpR X (compareOp .Eq) (rEqDD X.K) := by
  intro pins s σ H x y v u Q I rx ry h
  obtain ⟨a, c, n, b, r, rfl, rfl, hn, q, h⟩ := h
  cases rx
  cases ry
  have ih := eqT_run I n X.A.in1 (by show X.A.units + 1 + 2 * n + 66 < cLine; omega)
  show wpAny (model X.prog X.w) X.A (richCompare .Eq (.ref a) (.ref c)) (EP X pins σ Q) X.xe s
  rcases h with ⟨ks, ls, ha, hc, hits, rfl⟩ | ⟨ks, ls, ha, hc, hits, rfl⟩
  · obtain ⟨_, na, va, ra, da⟩ := dk_of I.hok ha
    obtain ⟨_, nc, vb, rb, db⟩ := dk_of I.hok hc
    refine PySem.W.rcP_dicts na nc da db (by omega) (fun _ => hits_keq ih rb hits ra) _ _ ?_
    rw [← ra.length, ← rb.length]
    exact ⟨.bl _, H, I, rfl, q⟩
  · obtain ⟨_, na, va, ra, da⟩ := dt_of I.hok ha
    obtain ⟨_, nc, vb, rb, db⟩ := dt_of I.hok hc
    exact rcP_dictsH na nc (by omega) ra rb da db ih hits _ _ ⟨.bl _, H, I, rfl, q⟩
end
end My
set_option Elab.async false
set_option linter.all false
set_option maxRecDepth 100000
set_option maxHeartbeats 4000000
/-! == and != by an own __eq__, the other one of any class; within tuples and dicts -/
namespace My
open PySem L2 PySem.Spec PyProof.Rows
section
variable {X : Cx} {n : Nat} {CX : CXT} {C f : Addr} {fd : FuncData} {ps : List Str} {sp : Sp} {E : XK}
/-- the call of __eq__ from any place with room, the other value any -/
theorem any_call {A : Around} {pins : List (Addr × Obj)} {s : Shared} {σ : L2.St} {H : Hp} {a : Addr} {y : V} {v : Value} {Q : VK} (F : FnOk X.prog X.w X.K X.mg X.base CX n f fd ps sp) (hb : Binds X.K fd ps []) (hx : Passes CX X E) (hr : Room n A) (fr : A.frames = X.A.frames)
    (I : Inv X pins σ H s) (ry : RelV y v) (h : sp [.ref a, y] H Q E) : wpAny (model X.prog X.w) A (call (.ref f) [.ref a, v]) (EP X pins σ Q) X.xe s := by
  have e0 : Env0 X.prog X.w X.K X.mg X.base A X.stack s H := by
    have e := I.env0
    exact ⟨by rw [fr]; exact e.frames, e.mod, e.bs, e.bsz, e.funs, e.frf, e.hok, e.bare⟩
  have hl := F.len _ _ _ _ h
  have both : BindsTo s fd ⟨[.ref a, v], []⟩ (ps.zip [.ref a, v]) := by
    have := hb s [.ref a, v] I.kIn (by simpa using hl)
    simpa using this
  refine wpAny_call (codeAny_mono (F.run A X.stack s H _ _ [.ref a, y] _ E hr e0 both (.cons rfl (.cons ry .nil)) h) fun r s' hq => ?_)
  cases r with
  | error e => exact hx pins σ H s e s' I hq
  | ok fl =>
    cases fl with
    | ret w => exact I.after hq
    | next => exact False.elim hq
    | brk => exact False.elim hq
    | cont => exact False.elim hq
/-- an instance of the class at C and a value of the type tb, which does not go first -/
def rAnyEq (K : PySem.W.Frag) (C : Addr) (sp : Sp) (E : XK) : R2 := fun x y H Q => ∃ (a dx : Addr) (fs : List (Str × V)) (tb : Value), x = .ref a ∧ H a = some (.ins C dx fs) ∧ TyX K H y tb ∧ PySem.W.notFirst K C tb = true ∧ sp [.ref a, y] H (fun v H' => ∃ k, v = .bl k ∧ Q (.bl k) H') E
def rAnyNe (K : PySem.W.Frag) (C : Addr) (sp : Sp) (E : XK) : R2 := fun x y H Q => ∃ (a dx : Addr) (fs : List (Str × V)) (tb : Value), x = .ref a ∧ H a = some (.ins C dx fs) ∧ TyX K H y tb ∧ PySem.W.notFirst K C tb = true ∧ sp [.ref a, y] H (fun v H' => ∃ k, v = .bl k ∧ Q (.bl (!k)) H') E
theorem any_rc {A : Around} {pins : List (Addr × Obj)} {s : Shared} {σ : L2.St} {H : Hp} {a dx : Addr} {fs : List (Str × V)} {y : V} {v tb : Value} {R : Bool → Hp → Prop} (F : FnOk X.prog X.w X.K X.mg X.base CX n f fd ps sp) (hs : PySem.W.findIn X.K (.ref C) "__eq__" = some (some (.ref f))) (hf : PySem.W.isFn X.K (.ref f) = true)
    (hb : Binds X.K fd ps []) (hx : Passes CX X E) (hr : Room n A) (fr : A.frames = X.A.frames) (I : Inv X pins σ H s) (ry : RelV y v) (ha : H a = some (.ins C dx fs)) (ty : TyX X.K H y tb) (nf : PySem.W.notFirst X.K C tb = true) (h : sp [.ref a, y] H (fun v H' => ∃ k, v = .bl k ∧ R k H') E) :
    wpAny (model X.prog X.w) A (richCompare .Eq (.ref a) v) (fun u s' => ∃ k H', u = .bool k ∧ Inv X pins σ H' s' ∧ R k H') X.xe s := by
  obtain ⟨mA, J, _⟩ := ins_get I.hok ha
  obtain ⟨od, J, _⟩ := J.look
  obtain ⟨m, hF⟩ := I.fr
  obtain ⟨P, kx, hp, _⟩ := kit_of I ry ty
  refine PySem.W.cmp_K (op := .Eq) (tb := tb) (by have := hr.un; omega) hF I.ok.mod.kin J (kx.ty _ _ I.kIn hp) nf hs hf ?_
  refine wpAny_mono (any_call F hb hx hr fr I ry h) (fun r s' z => ?_) fun _ _ z => z
  obtain ⟨w, H', I', rw_, k, rfl, q⟩ := z
  cases rw_
  exact ⟨k, H', rfl, I', q⟩
theorem op_anyEq (F : FnOk X.prog X.w X.K X.mg X.base CX n f fd ps sp) (hs : PySem.W.findIn X.K (.ref C) "__eq__" = some (some (.ref f))) (hf : PySem.W.isFn X.K (.ref f) = true) (hb : Binds X.K fd ps []) (hx : Passes CX X E) (hr : Room n X.A) :
    OpR X (compareOp .Eq) (rAnyEq X.K C sp E) := by
  intro pins s σ H x y v u Q I rx ry h
  obtain ⟨a, dx, fs, tb, rfl, ha, ty, nf, h⟩ := h
  cases rx
  show wpAny (model X.prog X.w) X.A (richCompare .Eq (.ref a) u) (EP X pins σ Q) X.xe s
  refine wpAny_mono (any_rc (R := fun k H' => Q (.bl k) H') F hs hf hb hx hr rfl I ry ha ty nf h) (fun r s' z => ?_) fun _ _ z => z
  obtain ⟨k, H', rfl, I', q⟩ := z
  exact ⟨.bl k, H', I', rfl, q⟩
/-- two instances within a tuple or a dict -/
theorem cmp_own {A : Around} {H : Hp} {a b dx dy : Addr} {fs gs : List (Str × V)} {tb : Value} {k : Bool → Hp → Prop} (F : FnOk X.prog X.w X.K X.mg X.base CX n f fd ps sp) (hs : PySem.W.findIn X.K (.ref C) "__eq__" = some (some (.ref f))) (hf : PySem.W.isFn X.K (.ref f) = true)
    (hb : Binds X.K fd ps []) (hx : Passes CX X E) (hr : Room n A) (fr : A.frames = X.A.frames) (ne : a ≠ b) (ha : H a = some (.ins C dx fs)) (ty : TyX X.K H (.ref b) tb) (nf : PySem.W.notFirst X.K C tb = true) (h : sp [.ref a, .ref b] H (fun v H' => ∃ r, v = .bl r ∧ k r H') E) : CmpM X A (.ref a) (.ref b) H k := by
  intro pins s σ u v I rx ry
  cases rx
  cases ry
  refine GQ.eqBool_refG ne (wpAny_mono (any_rc (R := k) F hs hf hb hx hr fr I (show RelV (.ref b) (.ref b) from rfl) ha ty nf h) (fun r s' z => ?_) fun _ _ z => z)
  obtain ⟨r, H', rfl, I', q⟩ := z
  exact ⟨r, rfl, H', I', q⟩
/-- two dicts of one row each -/
theorem dk_one {A : Around} {pins : List (Addr × Obj)} {s : Shared} {σ : L2.St} {H : Hp} {p q : Addr} {κ : Key} {v w : V} {k : Bool → Hp → Prop} (ne : p ≠ q) (hu : A.units < cLine) (I : Inv X pins σ H s) (hp : H p = some (.dK [(κ, v)])) (hq : H q = some (.dK [(κ, w)]))
    (h : ∀ o, CmpM X A.in1 v w (upd H p (.frz o (.dK [(κ, v)]))) fun b H' => H' p = some (.frz o (.dK [(κ, v)])) ∧ k b (upd H' p (.dK [(κ, v)]))) :
    wpAny (model X.prog X.w) A (richCompare .Eq (.ref p) (.ref q)) (fun u s' => ∃ b H', u = .bool b ∧ Inv X pins σ H' s' ∧ k b H') X.xe s := by
  obtain ⟨o, I1⟩ := I.lock hp trivial
  have hp1 : upd H p (.frz o (.dK [(κ, v)])) p = some (.frz o (.dK [(κ, v)])) := upd_same
  have hq1 : upd H p (.frz o (.dK [(κ, v)])) q = some (.dK [(κ, w)]) := by
    rw [upd_ne (Ne.symm ne)]
    exact hq
  have hh := h o
  have nofr := I.nofrz hp trivial
  generalize upd H p (.frz o (.dK [(κ, v)])) = H1 at *
  obtain ⟨ga, ok1⟩ : ObjOk X.prog X.w H1 s.heap p (.frz o (.dK [(κ, v)])) := I1.hok p _ hp1
  obtain ⟨_, na, va, ra, oa, es, ep, goa, xa, hda, hka, hpa, _⟩ := ok1
  obtain ⟨_, nb, vb, rb, ob, es', ep', gob, xb, hdb, hkb, hpb, _⟩ := dk_of I1.hok hq1
  rw [ga] at goa
  cases goa
  have one : ∀ {x : V} {vs : List (Key × Value)} {rows : Array DictEntry}, KV [(κ, x)] vs → Pairs (mixKind X.prog X.w) rows.toList vs → ∃ e0, rows = #[e0] ∧ (mixKind X.prog X.w).is κ e0.key = true ∧ RelV x e0.val := fun {x vs rows} r pr => by
    obtain ⟨l⟩ := rows
    cases r with
    | @cons _ q1 _ qs h1 t1 =>
      cases t1
      obtain ⟨k1, v1⟩ := q1
      obtain ⟨rfl, r1⟩ := h1
      have pr : Pairs (mixKind X.prog X.w) l [(κ, v1)] := pr
      cases pr with
      | @cons e _ es _ i1 i2 i3 =>
        cases i3
        exact ⟨e, rfl, i1, i2 ▸ r1⟩
  obtain ⟨e0, rfl, i1, r1⟩ := one ra hpa
  obtain ⟨f0, rfl, j1, r2⟩ := one rb hpb
  have ta : s.TypeIs (.ref p) "dict" := ⟨o, ga, xa.1⟩
  have tb : s.TypeIs (.ref q) "dict" := ⟨ob, gob, xb.1⟩
  refine wpAny_richCompare_same_room (op := .Eq) ta tb PySem.F.slot_dict_eq (wpAny_call_entry PySem.F.slot_dict_eq ta PySem.F.entry_dict_eq ?_ (PySem.F.args_dict_eq_2 _ _)) hu
  show wpAny _ _ (Builtin.Dict.dictSlotArgs "__eq__" ⟨[.ref p, .ref q], []⟩ >>= _) _ _ s
  refine wpAny_bind ?_
  unfold Builtin.Dict.dictSlotArgs
  refine wpAny_bind (wpAny_notOrdered_dict ta (show wpAny _ _ (pure (Value.ref p, Value.ref q)) _ _ s from wpAny_pure (wpAny_bind (wpAny_isInstance (T := "dict") tb PySem.F.sub_dict_dict ?_))))
  simp only [Bool.not_true, Bool.false_eq_true, if_false]
  refine wpAny_bind (wpAny_pure (wpAny_bind (wpAny_pure (wpAny_bind ?_))))
  have back : ∀ {t : Shared} {b : Bool}, (∃ H', Inv X pins σ H' t ∧ H' p = some (.frz o (.dK [(κ, v)])) ∧ k b (upd H' p (.dK [(κ, v)]))) → ∃ b' H', (Value.bool (b == true)) = .bool b' ∧ Inv X pins σ H' t ∧ k b' H' := fun {t b} z => by
    obtain ⟨H', I', e', q'⟩ := z
    refine ⟨b, _, by cases b <;> rfl, I'.unlock e' nofr, q'⟩
  refine same_rows (es := #[e0]) (es' := #[f0]) na nb ⟨o, ga, hda⟩ ⟨ob, gob, hdb⟩ (fun i t => (i = 0 ∧ t = s) ∨ (i = 1 ∧ ∃ H', Inv X pins σ H' t ∧ H' p = some (.frz o (.dK [(κ, v)])) ∧ k true (upd H' p (.dK [(κ, v)])))) (fun _ => .inl ⟨rfl, rfl⟩) (fun z => absurd rfl z) (fun i t hw => ?_) (fun i e t ge hw => ?_) fun t hw => ?_
  · rcases hw with ⟨_, rfl⟩ | ⟨_, H', I', e', _⟩
    · exact ⟨o, ga, hda⟩
    · obtain ⟨g', _⟩ : ObjOk X.prog X.w H' t.heap p (.frz o (.dK [(κ, v)])) := I'.hok p _ e'
      exact ⟨o, g', hda⟩
  · rcases hw with ⟨rfl, rfl⟩ | ⟨rfl, _⟩
    · obtain rfl : e0 = e := by simpa using ge
      obtain ⟨k', hk', hsh⟩ := hka e0 (by simp)
      obtain rfl : k' = κ := (mixKind X.prog X.w).inj _ _ _ hk' i1
      unfold turnOf
      refine wpAny_holding ?_
      rw [hsh]
      refine wpAny_bind (wpAny_dictFind_of i1 gob hdb hkb ?_)
      rw [show (#[f0].findIdx? fun e => (mixKind X.prog X.w).is k' e.key) = some 0 by simp [j1]]
      refine wpAny_bind (wpAny_dictEntries gob hdb ?_)
      refine wpAny_holding ?_
      refine wpAny_mono (hh pins _ σ _ _ I1 r1 r2) (fun b t' z => ?_) fun _ _ z => z
      cases b with
      | true => exact .inr ⟨rfl, z⟩
      | false => exact wpAny_pure ⟨_, rfl, (fun x => nomatch x), back z⟩
    · simp at ge
  · rcases hw with ⟨z, _⟩ | ⟨_, z⟩
    · simp at z
    · exact wpAny_pure ⟨_, rfl, (fun x => nomatch x), back z⟩
/-- .. as items of a tuple -/
theorem cmp_dk1 {A : Around} {H : Hp} {p q : Addr} {κ : Key} {v w : V} {k : Bool → Hp → Prop} (ne : p ≠ q) (hu : A.units < cLine) (hp : H p = some (.dK [(κ, v)])) (hq : H q = some (.dK [(κ, w)]))
    (h : ∀ o, CmpM X A.in1 v w (upd H p (.frz o (.dK [(κ, v)]))) fun b H' => H' p = some (.frz o (.dK [(κ, v)])) ∧ k b (upd H' p (.dK [(κ, v)]))) : CmpM X A (.ref p) (.ref q) H k := by
  intro pins s σ u v' I rx ry
  cases rx
  cases ry
  refine GQ.eqBool_refG ne (wpAny_mono (dk_one ne hu I hp hq h) (fun r s' z => ?_) fun _ _ z => z)
  obtain ⟨b, H', rfl, I', q'⟩ := z
  exact ⟨b, rfl, H', I', q'⟩
def rEqD1 (X : Cx) : R2 := fun x y H Q => ∃ (p q : Addr) (κ : Key) (v w : V), x = .ref p ∧ y = .ref q ∧ p ≠ q ∧ H p = some (.dK [(κ, v)]) ∧ H q = some (.dK [(κ, w)]) ∧
  ∀ o, CmpM X X.A.in1 v w (upd H p (.frz o (.dK [(κ, v)]))) fun b H' => H' p = some (.frz o (.dK [(κ, v)])) ∧ Q (.bl b) (upd H' p (.dK [(κ, v)]))
theorem op_eqD1 (hu : X.A.units < cLine) : OpR X (compareOp .Eq) (rEqD1 X) := by
  intro pins s σ H x y v u Q I rx ry h
  obtain ⟨p, q, κ, v', w', rfl, rfl, ne, hp, hq, h⟩ := h
  cases rx
  cases ry
  show wpAny (model X.prog X.w) X.A (richCompare .Eq (.ref p) (.ref q)) (EP X pins σ Q) X.xe s
  refine wpAny_mono (dk_one (k := fun b H' => Q (.bl b) H') ne hu I hp hq h) (fun r s' z => ?_) fun _ _ z => z
  obtain ⟨b, H', rfl, I', q'⟩ := z
  exact ⟨.bl b, H', I', rfl, q'⟩
/-- != by the class's own __eq__, any other value -/
theorem op_anyNe (F : FnOk X.prog X.w X.K X.mg X.base CX n f fd ps sp) (hs : PySem.W.findIn X.K (.ref C) "__eq__" = some (some (.ref f))) (hf : PySem.W.isFn X.K (.ref f) = true) (hb : Binds X.K fd ps []) (hx : Passes CX X E) (hr : Room (n + 1) X.A)
    (hn : PySem.W.findIn X.K (.ref C) "__ne__" = some (some (.builtin "object.__ne__"))) (hm : PySem.W.mroIn X.K C (.type "object") = some true) :
    OpR X (compareOp .NotEq) (rAnyNe X.K C sp E) := by
  intro pins s σ H x y v u Q I rx ry h
  obtain ⟨a, dx, fs, tb, rfl, ha, ty, nf, h⟩ := h
  cases rx
  obtain ⟨mA, J, _⟩ := ins_get I.hok ha
  obtain ⟨od, J, _⟩ := J.look
  obtain ⟨P, kx, hp, _⟩ := kit_of I ry ty
  have lk := kx.ty (model X.prog X.w) s.heap I.kIn hp
  have KX := I.kIn
  have un := hr.un
  have inner : wpAny (model X.prog X.w) X.A.in1 (Builtin.«object.__ne__» ⟨[.ref a, u], []⟩) (fun t s' => ∃ k, t = .done (.ret (.bool k)) ∧ EP X pins σ Q (.bool k) s') X.xe s := by
    unfold Builtin.«object.__ne__»
    refine wpAny_bind (m := slotArgs "__ne__" 1 _) (wpAny_pure ?_)
    dsimp only
    refine wpAny_bind (wpAny_cRoomFor (by show X.A.units + 1 < cLine; omega) (wpAny_bind (PySem.W.ifBound_K KX J hs hf (wpAny_mono (any_call F hb hx hr.in1 rfl I ry h) (fun r s' z => ?_) fun _ _ z => z))))
    obtain ⟨w, H', I', rw_, k, rfl, q⟩ := z
    cases rw_
    dsimp only
    refine wpAny_bind (m := truthy (.bool k)) (wpAny_truthy_bool ?_)
    exact wpAny_pure ⟨!k, rfl, .bl (!k), H', I', rfl, q⟩
  have sub : PySem.W.Looks (model X.prog X.w) s.heap (isInstance (.ref a) (.type "object")) true := J.type.andThen (PySem.W.looks_mroIn KX hm)
  have one : wpAny (model X.prog X.w) X.A (tryCompare (.ref a) "__ne__" u) (fun r s' => ∃ k, r = some (.bool k) ∧ EP X pins σ Q (.bool k) s') X.xe s := by
    unfold tryCompare
    refine wpAny_bind (ifBound_slot KX J hn (ne_bind a) (wpAny_call (codeAny_call_builtin PySem.F.cmp_object.ne.plain PySem.F.cmpEntry_ne (PySem.W.check_slot PySem.F.cmpKind_ne PySem.F.cmpSplit_ne sub (PySem.F.cmpArgs_ne _ _) (wpAny_mono inner (fun t s' z => ?_) fun _ _ z => z)))))
    obtain ⟨k, rfl, q⟩ := z
    exact wpAny_pure ⟨k, rfl, q⟩
  show wpAny (model X.prog X.w) X.A (richCompare .NotEq (.ref a) u) (EP X pins σ Q) X.xe s
  unfold richCompare
  simp only [PySem.oneThing_ref]
  refine wpAny_holding (wpAny_bind (wpAny_cRoomFor (by omega) (wpAny_bind (J.type.here (wpAny_bind (lk.here ?_))))))
  have go : wpAny (model X.prog X.w) X.A (tryCompare (.ref a) "__ne__" u) (fun r s' => ∃ k, r = some (.bool k) ∧ EP X pins σ Q (.bool k) s') X.xe s := one
  by_cases same : (Value.ref C != tb) = true
  · rw [if_pos same]
    have e : PySem.W.subIn X.K tb (.ref C) = some false := by
      rcases Bool.or_eq_true_iff.mp nf with z | z
      · rw [beq_iff_eq.mp z] at same
        simp at same
      · exact beq_iff_eq.mp z
    refine wpAny_bind ((PySem.W.looks_subIn KX e).here ?_)
    simp only [Bool.false_eq_true, if_false]
    refine wpAny_bind (wpAny_mono go (fun r s' z => ?_) fun _ _ z => z)
    obtain ⟨k, rfl, q⟩ := z
    exact wpAny_pure q
  · rw [if_neg same]
    refine wpAny_bind (wpAny_pure ?_)
    simp only [Bool.false_eq_true, if_false]
    refine wpAny_bind (wpAny_mono go (fun r s' z => ?_) fun _ _ z => z)
    obtain ⟨k, rfl, q⟩ := z
    exact wpAny_pure q
end
end My
set_option Elab.async false
set_option linter.all false
set_option maxRecDepth 100000
set_option maxHeartbeats 4000000
/-! dict comprehensions whose keys are tuples -/
namespace My
open PySem L2 PySem.Spec PyProof.Rows
section
variable {X : Cx}
theorem dt_dictSet {X : Cx} {pins : List (Addr × Obj)} {σ : L2.St} {H : Hp} {s : Shared} {E : Value → Shared → Prop} {D p : Addr} {kvs : List (List Key × V)} {key : List Key} {v : V} {r : Value} {Q : Unit → Shared → Prop} (hu : X.A.units < cLine) (I : Inv X pins σ H s) (hD : H D = some (.dT kvs)) (hp : H p = some (.tup (key.map L2.kV)))
    (hz : kvs.length < sizeLine) (rv : RelV v r) (h : ∀ s', Inv X pins σ (upd H D (.dT (putK kvs key v))) s' → Q () s') : wpAny (model X.prog X.w) X.A (dictSet D (.ref p) r) Q E s := by
  obtain ⟨z, hd, xs, rel, dd⟩ := dt_of I.hok hD
  have few : xs.length ≤ sizeLine := by rw [← Paired.length rel]; exact z
  have few2 : (putK kvs key v).length ≤ sizeLine := by
    have := length_putK kvs key v
    omega
  refine wpAny_dictSet_heap (hsz := few) hu (key_of I.hok hp) dd fun h' dd' hs => h _ ?_
  obtain ⟨q, es, ep, hq, h2, h3, h4, h5, h6⟩ := dd'
  refine d_write I (by rw [hD]; exact True.intro) hs ⟨q, hq⟩ ⟨few2, hd, _, (rel.put key hp rv).keeps fun c ys ec => ?_, q, es, ep, hq, h2, h3, h4, h6⟩
  rw [upd_ne (ne_of ec hD (fun z => nomatch z))]
  exact ec
/-- {k: v for target in iter if ..}, keys tuples: D the new dict -/
def tDcT (wi : TI) (g : TG) (tt : TT) (tk te : TE) (vs : List Nat) : TE := fun σ H Q => wi σ H fun J H1 => ∀ D, H1 D = none → ∃ W : Nat → Nat → Hp → Prop, (∃ m, W 0 m (upd H1 D (.dT []))) ∧ ∀ i m H, W i m H →
  (J.stop i H ∧ Q (.ref D) H) ∨ (J.go i H ∧ ∃ Nx : Hp → Prop, (∀ H', Nx H' → ∃ m', m' < m ∧ W (i + 1) m' H') ∧ ∀ x H', J.yld i H x H' → g x (wipe σ vs) H' fun σ2 H2 => wipe σ2 vs = wipe σ vs ∧ tt σ2 H2 fun b H3 =>
    if b = true then tk σ2 H3 fun y H4 => te σ2 H4 fun z H5 => ∃ (p : Addr) (key : List Key) (kvs : List (List Key × V)), y = .ref p ∧ H5 p = some (.tup (key.map L2.kV)) ∧ H5 D = some (.dT kvs) ∧ kvs.length < sizeLine ∧ Nx (upd H5 D (.dT (putK kvs key z))) else Nx H3)
theorem pe_dcT {tg iter kx elt : Expr} {ifs : List Expr} {scope : Scope} {own : List (Str × Nat)} {pos : Pos} {wi : TI} {g : TG} {tt : TT} {tk te : TE} (hc : X.calm = true) (hu : X.A.units < cLine) (hN : X.N.Nodup) (hi : PI X tg iter wi) (ok : BlkOk X.N X.env.scope scope own)
    (hg : ∀ (s : Shared) (H : Hp) (C : Addr) (cl : List (Str × Addr)) (fp : List Addr), PG (X.blk s H scope (compEnvC scope cl C X.env) fp) tg g) (ht : ∀ (s : Shared) (H : Hp) (C : Addr) (cl : List (Str × Addr)) (fp : List Addr), PTs (X.blk s H scope (compEnvC scope cl C X.env) fp) ifs tt)
    (hk : ∀ (s : Shared) (H : Hp) (C : Addr) (cl : List (Str × Addr)) (fp : List Addr), PE (X.blk s H scope (compEnvC scope cl C X.env) fp) kx tk)
    (he : ∀ (s : Shared) (H : Hp) (C : Addr) (cl : List (Str × Addr)) (fp : List Addr), PE (X.blk s H scope (compEnvC scope cl C X.env) fp) elt te) (hs : ∀ x, foldedSetIterable iter X.env x = pure x := by intro _; rfl) :
    PE X (.DictComp kx elt [⟨tg, iter, ifs, 0⟩] scope pos) (tDcT wi g tt tk te (own.map (·.2))) := by
  refine ⟨fun pins s σ H Q I want => ?_⟩
  rw [arm_eval_DictComp]
  have caught : ∀ y ∈ scope.names, y.2 = .free → ∃ c, X.env.cells.lookup y.1 = some c := fun y hy e => (ok.free y hy e).elim (fun k => I.ok.has _ (.inl k)) fun k => I.ok.has _ (.inr k)
  refine wpAny_comprehension_free (use := none) rfl hs (closure_ok caught) ok.kind (fun y hy e => by rw [ok.uniq y hy, e])
    (thn (hi.run pins s σ H _ I want) fun xv s1 hx => thn hx fun itv s2 h2 => ?_)
  obtain ⟨it, fp, tn, J, H2, e, I2, T, st2, f2, q⟩ := h2
  subst e
  refine wpAny_newObj_type (newEnv_comp ?_)
  generalize hD : s2.heap.objs.size = D
  have free_ : H2 D = none := I2.hok.fresh (Nat.le_of_eq hD)
  obtain ⟨W, ⟨m0, w0⟩, turn⟩ := q D free_
  generalize hs3 : ({ s2 with heap := s2.heap.push { cls := .type "dict", data := .dict #[] } } : Shared) = s3
  generalize hH3 : upd H2 D (.dT []) = H3
  have at3 : s3.heap = s2.heap.push { cls := .type "dict", data := .dict #[] } := by rw [← hs3]
  have I3 : Inv X pins σ H3 s3 := by
    rw [← hs3, ← hH3]
    refine I2.laid (t' := s2.toks) (fun b o z => Heap.get?_push_of_some _ z) (Nat.le_of_eq hD) ?_
    rw [← hD]
    exact dt_empty s2.heap I2.big
  have low : ∀ b ∈ fp, b < s2.heap.objs.size := fun b hb => by
    obtain ⟨o, z, _⟩ := T.obj _ _ st2 b hb
    exact Heap.lt_size z
  have f3 : ∀ b ∈ fp, FpOk X pins H3 b ∧ b < s3.heap.objs.size := fun b hb => by
    have lt := low b hb
    refine ⟨⟨?_, (f2 b hb).2⟩, by rw [at3, Heap.size_push]; exact Nat.lt_succ_of_lt lt⟩
    rw [← hH3, upd_ne (by rw [← hD]; exact Nat.ne_of_lt lt)]
    exact (f2 b hb).1
  have I4 := block_start I3 ok hN f3
  generalize hcells : cellsFrom (s3.heap.objs.size + 1) scope.names (cloFrom X.env.cells scope.names []) = cells at I4
  have pg := hg s3 H3 s3.heap.objs.size cells fp
  have pt := ht s3 H3 s3.heap.objs.size cells fp
  have pk := hk s3 H3 s3.heap.objs.size cells fp
  have pe := he s3 H3 s3.heap.objs.size cells fp
  have home : (compEnvC scope cells s3.heap.objs.size X.env).locals = s3.heap.objs.size := rfl
  show codeAny _ _ (.compStart (.DictComp kx elt [⟨tg, iter, ifs, 0⟩] scope pos) 0 (.ref it) (.ref D) (compEnvC scope cells s3.heap.objs.size X.env)) (compPost (model X.prog X.w) X.A X.xe none (EP X pins σ Q) (.ref D) s3.heap.objs.size) { s3 with heap := pushCells (s3.heap.push { cls := .type "dict", data := .dict #[] }) scope.names }
  have clear : ∀ b ∈ fp, H3 b = none := fun b hb => (f3 b hb).1.1
  have start : tn 0 (pushCells (s3.heap.push { cls := .type "dict", data := .dict #[] }) scope.names) := T.keep _ _ _ st2 fun b _ o z => pushCells_keeps _ _ _ _ (Heap.get?_push_of_some _ (by rw [at3]; exact Heap.get?_push_of_some _ z))
  generalize hce : compEnvC scope cells s3.heap.objs.size X.env = ce at I4 pg pt pk pe home ⊢
  generalize hs4 : ({ s3 with heap := pushCells (s3.heap.push { cls := .type "dict", data := .dict #[] }) scope.names } : Shared) = s4 at I4 ⊢
  have st4 : tn 0 s4.heap := by
    rw [← hs4]
    exact start
  have footing : ∀ {σ' : L2.St} {H' : Hp} {s' : Shared}, Inv (X.blk s3 H3 scope ce fp) [] σ' H' s' → (∀ b ∈ fp, H' b = none) → ∀ b ∈ fp, FpOk (X.blk s3 H3 scope ce fp) [] H' b := fun {σ' H' s'} I' n b hb =>
    ⟨n b hb, (I'.ok.exf b hb).1, I'.ok.exfs b hb, .inl hb, fun x c z => (I'.ok.exf b hb).2 x c z, fun p hp => absurd (show p ∈ ([] : List (Addr × Obj)) ++ [] from hp) (by simp)⟩
  have loop : codeAny (model X.prog X.w) X.A (.compLoop (.DictComp kx elt [⟨tg, iter, ifs, 0⟩] scope pos) 0 (.ref it) (.ref D) ce) (compPost (model X.prog X.w) X.A X.xe none (EP X pins σ Q) (.ref D) s3.heap.objs.size) s4 := by
    refine compLoop_anyD (fun n s' => ∃ i H', Inv (X.blk s3 H3 scope ce fp) [] (wipe σ (own.map (·.2))) H' s' ∧ tn i s'.heap ∧ (∀ b ∈ fp, H' b = none) ∧ W i n H') ?_ m0 ⟨0, H3, I4, st4, clear, by rw [← hH3]; exact w0⟩
    rintro n s5 ⟨i, H5, I5, st5, n5, w5⟩
    rcases turn i n H5 w5 with ⟨stop, qq⟩ | ⟨go, Nx, hNx, step⟩
    · refine thnF (T.done (X.blk s3 H3 scope ce fp) rfl rfl rfl hc i [] s5 _ H5 (fun _ _ => False) I5 (footing I5 n5) st5 stop) fun r s6 ⟨hr, I6⟩ => ?_
      subst hr
      have I7 : Inv X pins σ H5 s6 := I3.call' (ch := fp) I6.os I6.base I6.hok I6.bare fun b hb => ⟨(f3 b hb).1.2.2.2.1, (f3 b hb).1.2.1, (f3 b hb).1.2.2.2.2.1, (f3 b hb).1.2.2.2.2.2⟩
      have off : H5 s3.heap.objs.size = none := by
        rw [← home]
        exact I6.free
      obtain ⟨m, hn, _⟩ := I6.loc
      have hn : s6.heap.Ns ce.locals m := hn
      rw [home] at hn
      obtain ⟨f0, f1, _, g3, g4, g5⟩ := I3.fpOk (Nat.le_refl _) off
      refine ⟨m, hn, fun h'' only => ?_⟩
      exact ⟨.ref D, H5, I7.turned (t' := s6.toks) (fun b o hb z => (only.2 b hb).trans z) f0 f1 g3 g4 g5, rfl, qq⟩
    · refine thnF (T.item (X.blk s3 H3 scope ce fp) rfl rfl rfl hc i [] s5 _ H5 (fun _ _ => False) I5 (footing I5 n5) st5 go) fun r s6 ⟨u, hr, h6⟩ => ?_
      subst hr
      refine thnF h6 fun _ s7 ⟨x, H7, I7, r7, y7, st7, n7⟩ => ?_
      have I7' := I7.pinned (footing I7 n7) (T.obj _ _ st7)
      refine thnF (pg.run _ s7 _ H7 x u _ I7' r7 (step x H7 y7)) fun _ s8 ⟨σ8, H8, I8, hw8, q8⟩ => ?_
      refine thnF (pt.run _ s8 σ8 H8 _ I8 q8) fun b s9 ⟨H9, I9, q9⟩ => ?_
      have fin : ∀ {s' : Shared} {H' : Hp}, Inv (X.blk s3 H3 scope ce fp) ([] ++ pinsAt fp s7.heap) σ8 H' s' → Nx H' → ∃ m, m < n ∧ ∃ i H', Inv (X.blk s3 H3 scope ce fp) [] (wipe σ (own.map (·.2))) H' s' ∧ tn i s'.heap ∧ (∀ b ∈ fp, H' b = none) ∧ W i m H' := fun {s' H'} I' nx => by
        obtain ⟨m', hm, w'⟩ := hNx H' nx
        have held : ∀ b ∈ fp, ∀ o, s7.heap.get? b = some o → s'.heap.get? b = some o ∧ H' b = none := fun b hb o z =>
          let y := I'.pin (b, o) (List.mem_append_right _ (List.mem_append_right _ (mem_pinsAt hb z)))
          ⟨y.1, y.2.1⟩
        have same_len : (wipe σ (own.map (·.2))).length = σ8.length := by rw [← hw8, wipe_length]
        refine ⟨m', hm, i + 1, H', (I'.unpinned (pins := [])).weak same_len (fun j v z => ?_), T.keep _ _ _ st7 fun b hb o z => (held b hb o z).1, fun b hb => ?_, w'⟩
        · rw [← hw8] at z
          exact (wipe_some z).1
        · obtain ⟨o, z, _⟩ := T.obj _ _ st7 b hb
          exact (held b hb o z).2
      cases b with
      | false =>
        simp only [Bool.false_eq_true, if_false] at q9 ⊢
        exact fin I9 q9
      | true =>
        simp only [if_true] at q9 ⊢
        refine thnF (pk.run _ s9 σ8 H9 _ I9 q9) fun v s10 ⟨y, H10, I10, r10, q10⟩ => ?_
        refine thnF (pe.run _ s10 σ8 H10 _ I10 q10) fun v2 s11 ⟨z, H11, I11, r11, p, key, kvs, ek, kt, hD11, room, nx⟩ => ?_
        subst ek
        cases r10
        exact dt_dictSet (X := X.blk s3 H3 scope ce fp) (Nat.lt_of_le_of_lt (Nat.le_refl _) hu) I11 hD11 kt room r11 fun s12 I12 => fin I12 nx
  exact codeAny_compStart_dict loop (T.self X.A 0 _ _ _ st4 loop)
end
end My
set_option Elab.async false
set_option linter.all false
set_option maxRecDepth 100000
set_option maxHeartbeats 4000000
/-! dict displays whose keys are tuples; a dict of tuples gets a text for a key; bool(x), C() -/
namespace My
open PySem L2 PySem.Spec PyProof.Rows
theorem stored_all {κ : Type} [DecidableEq κ] : ∀ (ps acc : List (κ × Addr × Value)), ((acc ++ ps).map (·.1)).Nodup → storedAllH acc ps = acc ++ ps
  | [], acc, _ => by
    rw [List.append_nil]
    rfl
  | (k, a, v) :: ps, acc, nd => by
    have none_ : atKey acc k = none := by
      refine atKey_none_of_get fun j p hj => ?_
      rw [List.map_append, List.nodup_append] at nd
      exact nd.2.2 k (List.mem_map.mpr ⟨_, List.mem_of_getElem? hj, rfl⟩) k (by simp) rfl
    show storedAllH (storedH acc k a v) ps = _
    rw [storedH_new none_, stored_all ps (acc ++ [(k, a, v)]) (by rw [List.append_assoc]; exact nd), List.append_assoc]
    rfl
def tDispT (trs : List (TE × TE)) : TE := fun σ H Q => ∀ p, H p = none → tPairs trs σ (upd H p (.dT [])) fun ps H2 => H2 p = some (.dT []) ∧ ∃ rows : List (List Key × Addr × V), ps = rows.map (fun r => (V.ref r.2.1, r.2.2)) ∧ (∀ r ∈ rows, H2 r.2.1 = some (.tup (r.1.map L2.kV))) ∧ (rows.map (·.1)).Nodup ∧ rows.length ≤ 15 ∧
  Q (.ref p) (upd H2 p (.dT (rows.map fun r => (r.1, r.2.2))))
theorem rows_carry {P : Program} {w : World} {H : Hp} {h : Heap} (ok : HOk P w H h) : ∀ {rows : List (List Key × Addr × V)} {ws : List (Value × Value)}, VV (rows.map fun r => (V.ref r.2.1, r.2.2)) ws → (∀ r ∈ rows, H r.2.1 = some (.tup (r.1.map L2.kV))) →
    ∃ xs : List (List Key × Addr × Value), CarriesH (tupleKind (mixKind P w)) h ws xs ∧ KT H (rows.map fun r => (r.1, r.2.2)) xs ∧ xs.map (·.1) = rows.map (·.1)
  | [], _, r, _ => by
    rw [List.map_nil] at r
    cases r
    exact ⟨[], True.intro, .nil, rfl⟩
  | (k, a, v) :: rows, _, r, ht => by
    rw [List.map_cons] at r
    cases r with
    | @cons p q ps qs h1 t1 =>
      obtain ⟨u, u2⟩ := q
      obtain ⟨r1, r2⟩ := h1
      cases r1
      obtain ⟨xs, c, kt, ek⟩ := rows_carry ok t1 fun r hr => ht r (List.mem_cons_of_mem _ hr)
      have at_ := ht _ List.mem_cons_self
      exact ⟨(k, a, u2) :: xs, ⟨rfl, rfl, key_of ok at_, c⟩, .cons ⟨rfl, at_, r2⟩ kt, by rw [List.map_cons, ek]; rfl⟩
theorem pe_dispT {X : Cx} {pos : Pos} {keys : List (Option Expr)} {values : List Expr} {trs : List (TE × TE)} (hu : X.A.units < cLine) (h : PPs X pos keys values trs) (hall : keys.all (·.isSome) = true) (hl : keys.length = values.length) (h0 : keys ≠ []) (h15 : keys.length ≤ 15) : PE X (.Dict keys values pos) (tDispT trs) := by
  refine ⟨fun pins s σ H Q I q => ?_⟩
  have hn := I.hok.fresh (Nat.le_refl s.heap.objs.size)
  have I1 := I.laid (a := s.heap.objs.size) (o := .dT []) (h' := s.heap.push { cls := .type "dict", data := .dict #[] }) (t' := s.toks) (fun _ _ q => Heap.get?_push_of_some _ q) (Nat.le_refl _) (dt_empty s.heap I.big)
  have many := pairTrees_length keys values X.env pos hall hl
  have ne : pairTrees keys values X.env pos ≠ [] := fun e => by
    rw [e] at many
    exact h0 (List.length_eq_zero_iff.mp many.symm)
  rw [arm_eval_Dict, zip_pairTrees keys values X.env pos hall hl, dictDisplay_pairs _ ne (by omega)]
  refine wpAny_bind (wpAny_standAt (wpAny_bind (wpAny_subDictH (knd := tupleKind (mixKind X.prog X.w)) hu (by omega) (thn (h.run pins _ σ _ _ I1 (q _ hn)) fun ws s2 ⟨ps, H2, I2, rel, e, rows, ep, at_, nd, l15, q2⟩ => ?_))))
  subst ep
  obtain ⟨xs, c, kt, ek⟩ := rows_carry I2.hok rel at_
  obtain ⟨z, hd, ys, r0, dd⟩ := dt_of I2.hok e
  cases r0
  refine ⟨xs, c, dd, fun h' tk dd' hs => wpAny_pure ⟨.ref s.heap.objs.size, _, ?_, rfl, q2⟩⟩
  rw [stored_all xs [] (by rw [List.nil_append, ek]; exact nd), List.nil_append] at dd'
  obtain ⟨qo, es, ep, hq, h2, h3, h4, h5, h6⟩ := dd'
  have few : (rows.map fun r => (r.1, r.2.2)).length ≤ sizeLine := by
    rw [List.length_map]
    exact Nat.le_of_lt (small1000 (show rows.length ≤ 1000 by omega))
  refine d_write I2 (by rw [e]; exact True.intro) hs ⟨qo, hq⟩ ⟨few, hd, xs, kt.keeps fun d ys ec => ?_, qo, es, ep, hq, h2, h3, h4, h6⟩
  rw [upd_ne (ne_of ec e (fun z => nomatch z))]
  exact ec
section
variable {X : Cx} {n : Nat} {CX : CXT} {C f : Addr} {fd : FuncData} {ps : List Str} {sp : Sp} {E : XK}
/-- bool(x) comes to what asking x comes to -/
theorem meets_boolO (prog : Program) (w : World) (x : Addr) : MeetsIn prog w (Builtin.«bool.__new__» ⟨[.type "bool", .ref x], []⟩) (fun A R s => wpAny (model prog w) A.in1 (truthy (.ref x)) (fun b s' => R (.ok (.ret (.bool b))) s') (fun e s' => R (.error e) s') s) := by
  refine MeetsIn.of_wp fun A R s hs => ?_
  have f1 := F.conv_sub_bool
  obtain ⟨hp, g, d, tk, os⟩ := s
  repeat (any_goals (first | assumption | (with_reducible refine wpAny_mono hs (fun b s' z => ?_) fun _ _ z => z) | wp_step))
  all_goals first | exact ⟨_, rfl, ‹_›⟩ | skip
/-- bool(x), x an instance with its own __bool__ -/
def rOwnBool (C : Addr) (sp : Sp) (E : XK) : List V → Hp → VK → Prop := fun xs H Q => ∃ a dx fs, xs = [.ref a] ∧ H a = some (.ins C dx fs) ∧ sp [.ref a] H (fun v H' => ∃ k, v = .bl k ∧ Q (.bl k) H') E
theorem call_ownBool (F : FnOk X.prog X.w X.K X.mg X.base CX n f fd ps sp) (hs : PySem.W.findIn X.K (.ref C) "__bool__" = some (some (.ref f))) (hf : PySem.W.isFn X.K (.ref f) = true) (hb : Binds X.K fd ps []) (hx : Passes CX X E) (hr : Room (n + 2) X.A) : CallR X (.type "bool") (rOwnBool C sp E) := by
  intro pins s σ H xs us Q I r h
  obtain ⟨a, dx, fs, rfl, ha, h⟩ := h
  rw [Vals.ref1 r]
  obtain ⟨mA, J, _⟩ := ins_get I.hok ha
  obtain ⟨od, J, _⟩ := J.look
  obtain ⟨m, hF⟩ := I.fr
  refine callType_newIn PySem.F.called_bool PySem.F.newNe_bool (PySem.F.typeCall_bool_1 _) (PySem.F.newCall_bool_1 _) (fun obj => PySem.F.args_object_init_2 obj _) PySem.F.entry_bool_new (meets_boolO _ _ a) ?_
  refine PySem.W.truthy_K hF I.ok.mod.kin J hs hf ?_
  have e0 : Env0 X.prog X.w X.K X.mg X.base X.A.in1.in1 X.stack s H := by
    have e := I.env0
    exact ⟨e.frames, e.mod, e.bs, e.bsz, e.funs, e.frf, e.hok, e.bare⟩
  have hl := F.len _ _ _ _ h
  refine wpAny_call (codeAny_mono (F.run X.A.in1.in1 X.stack s H ⟨[.ref a], []⟩ [.ref a] [.ref a] _ E hr.in1.in1 e0 (by
    have := hb s [.ref a] I.kIn (by simpa using hl)
    simpa using this) (.cons rfl .nil) h) fun r s' hq => ?_)
  cases r with
  | error e => exact hx pins σ H s e s' I hq
  | ok fl =>
    cases fl with
    | ret w =>
      obtain ⟨z, H', I', rz, k, rfl, q⟩ := I.after hq
      cases rz
      exact ⟨rfl, .bl k, H', I', rfl, q⟩
    | next => exact False.elim hq
    | brk => exact False.elim hq
    | cont => exact False.elim hq
/-- C(), the class has no __init__ of its own -/
structure Mk0 (K : PySem.W.Frag) (C : Addr) : Prop where
  makes : PySem.W.makesIn K C = true
  init : PySem.W.findIn K (.ref C) "__init__" = some (some (.builtin "object.__init__"))
  obj : PySem.W.mroIn K C (.type "object") = some true
  kp : PySem.W.keepIn K (.ref C) = true
def tMakeN (C : Addr) : TE := fun _ H Q => ∀ x dx, H x = none → H dx = none → dx ≠ x → Q (.ref x) (upd (upd H dx (.own x)) x (.ins C dx []))
theorem pe_makeN {x : Str} {p pos : Pos} (M : Mk0 X.K C) (hg : Gl X x) (hm : X.mg x = some (.ref C)) (hdb : (x == ("__debug__" : Str)) = false := by decide) : PE X (.Call (.Name x p) [] [] pos) (tMakeN C) := by
  refine ⟨fun pins s σ H Q I h => ?_⟩
  refine wpAny_Call_Name_kw (ld_glob I hg hm ?_ hdb)
  refine PySem.W.callWith_K0 I.kIn M.kp ?_
  have hq := h (s.heap.objs.size + 1) s.heap.objs.size (I.hok.fresh (Nat.le_succ _)) (I.hok.fresh (Nat.le_refl _)) (Nat.ne_of_lt (Nat.lt_succ_self _))
  have I2 := Inv.made (C := C) I
  have at_ : upd (upd H s.heap.objs.size (.own (s.heap.objs.size + 1))) (s.heap.objs.size + 1) (.ins C s.heap.objs.size []) (s.heap.objs.size + 1) = some (.ins C s.heap.objs.size []) := upd_same
  obtain ⟨mA, J, _⟩ := ins_get I2.hok at_
  obtain ⟨od, J, _⟩ := J.look
  have sub : PySem.W.Looks (model X.prog X.w) _ (isInstance (.ref (s.heap.objs.size + 1)) (.type "object")) true := J.type.andThen (PySem.W.looks_mroIn I2.kIn M.obj)
  refine wpAny_call (make_map0 I.kIn M.makes M.init (fun self => PySem.W.Looks.of_pure (PySem.W.oi_bind self)) (codeAny_call_builtin PySem.W.oi_plain PySem.W.entry_oi (PySem.W.check_slot PySem.W.oi_kind PySem.W.oi_split sub (PySem.W.oi_args _) ?_)))
  rw [PySem.W.oi_run]
  exact wpAny_pure ⟨rfl, ⟨.ref (s.heap.objs.size + 1), _, I2, rfl, hq⟩⟩
end
end My
set_option Elab.async false
set_option linter.all false
set_option maxRecDepth 100000
set_option maxHeartbeats 4000000
/-! a dict whose keys are tuples gets a text for a key -/
namespace My
open PySem L2 PySem.Spec PyProof.Rows
section
variable {P : Program} {w : World} {κ : Type} [DecidableEq κ] {knd : HeapKind P w κ} {A : Around} {E : Value → Shared → Prop} {s : Shared}
theorem tell_text {z : Str} {t : Tok} {stored : List Value} {Q : Bool → Shared → Prop} (hst : ∀ v ∈ stored, ∃ k b, v = .ref b ∧ knd.is s.heap k b) (q : Q false s) : wpAny (model P w) A (tableMayTell (.str z t) stored) Q E s := by
  unfold tableMayTell
  split
  · exact wpAny_pure q
  · show wpAny _ _ (pure true >>= _) _ _ s
    refine wpAny_bind (wpAny_pure ?_)
    simp only [Bool.not_true, Bool.false_eq_true, if_false]
    refine wpAny_bind ?_
    refine wpAny_forIn_list _ (fun left r s' => s' = s ∧ r = (none, ()) ∧ ∀ v ∈ left, ∃ k b, v = .ref b ∧ knd.is s.heap k b) _ ?_ ?_ _ _ ⟨rfl, rfl, hst⟩
    · rintro x left r s' ⟨rfl, rfl, hr⟩
      obtain ⟨k, b, rfl, hb⟩ := hr x List.mem_cons_self
      refine wpAny_bind (knd.quiet hb ?_)
      simp only [Bool.not_true, Bool.false_eq_true, if_false]
      exact wpAny_pure ⟨rfl, rfl, fun v hv => hr v (List.mem_cons_of_mem _ hv)⟩
    · rintro r s' ⟨rfl, rfl, _⟩
      exact wpAny_pure q
theorem find_text {d : Addr} {o : Obj} {es : Array DictEntry} {ep : Nat} {xs : List (κ × Addr × Value)} {z : Str} {t : Tok} {h : Int} {Q : Option Nat → Shared → Prop} (ho : s.heap.get? d = some o) (hd : o.data = .dict es ep) (he : es.toList = xs.map (entryOfKey knd)) (his : ∀ x ∈ xs, knd.is s.heap x.1 x.2.1) (some_ : xs ≠ [])
    (other : ∀ x ∈ xs, SeqAt.EqAt A s (.ref x.2.1) (.str z t) false) (q : Q none s) : wpAny (model P w) A (dictFind d (.str z t) h) Q E s := by
  have rows : ∀ {i : Nat} {e : DictEntry}, es[i]? = some e → ∃ x ∈ xs, e = entryOfKey knd x := fun {i e} g => by
    rw [entry_at he i] at g
    obtain ⟨x, hx, rfl⟩ := Option.map_eq_some_iff.mp g
    exact ⟨x, List.mem_of_getElem? hx, rfl⟩
  have notAll : ¬ (es.all fun e => isExactStrKey e.key) = true := fun a => by
    rw [← Array.all_toList, he] at a
    cases xs with
    | nil => exact some_ rfl
    | cons x r =>
      rw [List.map_cons, List.all_cons, Bool.and_eq_true] at a
      exact absurd a.1 (by simp [entryOfKey, isExactStrKey])
  unfold dictFind
  refine wpAny_holding (wpAny_bind (wpAny_dictEntries ho hd ?_))
  dsimp only
  rw [if_neg notAll]
  have stored_ : ∀ v ∈ (placesWithHash es.size (fun i => es[i]?.map (·.hash)) h).filterMap (fun i => es[i]?.map (·.key)), ∃ k b, v = .ref b ∧ knd.is s.heap k b := fun v hv => by
    obtain ⟨i, _, hi⟩ := List.mem_filterMap.mp hv
    obtain ⟨e, ge, rfl⟩ := Option.map_eq_some_iff.mp hi
    obtain ⟨x, hx, rfl⟩ := rows ge
    exact ⟨x.1, x.2.1, rfl, his x hx⟩
  have low : ∀ i ∈ placesWithHash es.size (fun i => es[i]?.map (·.hash)) h, i < es.size := fun i hi => by
    unfold placesWithHash at hi
    exact List.mem_range.mp (List.mem_filter.mp hi).1
  generalize placesWithHash es.size (fun i => es[i]?.map (·.hash)) h = places at *
  cases places with
  | nil =>
    have all_ : (((.str z t : Value) :: ([] : List Nat).filterMap fun i => es[i]?.map (·.key)).all carriedByValue) = true := rfl
    rw [if_pos all_]
    unfold dictWalkPlain
    simp only [List.forIn_nil]
    exact wpAny_bind (wpAny_pure (wpAny_pure q))
  | cons i0 left0 =>
    have i0lt := low i0 List.mem_cons_self
    have g0 : es[i0]? = some es[i0] := Array.getElem?_eq_getElem i0lt
    have notV : ¬ (((.str z t : Value) :: (i0 :: left0).filterMap fun i => es[i]?.map (·.key)).all carriedByValue) = true := fun a => by
      obtain ⟨x, hx, e⟩ := rows g0
      rw [List.filterMap_cons, g0, e] at a
      simp [carriedByValue, entryOfKey] at a
    rw [if_neg notV]
    have nostr : ¬ (((i0 :: left0).filterMap fun i => es[i]?.map (·.key)) == [(.str z t : Value)]) = true := fun a => by
      obtain ⟨x, hx, e⟩ := rows g0
      have a' := eq_of_beq a
      rw [List.filterMap_cons, g0, e] at a'
      simp [entryOfKey] at a'
    rw [if_neg nostr]
    refine wpAny_bind (tell_text stored_ ?_)
    rw [if_neg (by simp)]
    refine wpAny_bind ?_
    refine wpAny_forIn_list _ (fun left b s' => s' = s ∧ b = (none, none) ∧ ∀ i ∈ left, i < es.size) _ ?_ ?_ _ _ ⟨rfl, rfl, low⟩
    · rintro i left b s' ⟨rfl, rfl, lw⟩
      have lt := lw i List.mem_cons_self
      have gi : es[i]? = some es[i] := Array.getElem?_eq_getElem lt
      obtain ⟨x, hx, e⟩ := rows gi
      have rest := fun j hj => lw j (List.mem_cons_of_mem _ hj)
      rw [gi]
      dsimp only
      rw [e]
      by_cases hh : ((entryOfKey knd x).hash == h) = true
      · rw [if_pos hh]
        refine wpAny_bind (wpAny_dictEpoch ho hd (wpAny_bind (other x hx P w E _ (wpAny_bind (wpAny_dictEpoch ho hd ?_)))))
        rw [if_neg (by simp)]
        simp only [Bool.false_eq_true, if_false]
        refine wpAny_bind (wpAny_rule ?_)
        rw [if_neg (by simp)]
        exact wpAny_pure ⟨rfl, rfl, rest⟩
      · rw [if_neg hh]
        exact wpAny_pure ⟨rfl, rfl, rest⟩
    · rintro b s' ⟨rfl, rfl, _⟩
      exact wpAny_pure q
end
def keyP : Key → PyData
  | .inl i => .int i
  | .inr s => .str s
theorem dp_keyP {K : PySem.W.Frag} {H : Hp} : ∀ k : Key, Dp K H (L2.kV k) (keyP k)
  | .inl i => .int i
  | .inr s => .str s
theorem dps_keyP {K : PySem.W.Frag} {H : Hp} : ∀ ks : List Key, DpAll K H (ks.map L2.kV) (ks.map keyP)
  | [] => .nil
  | k :: r => .cons (dp_keyP k) (dps_keyP r)
/-- something that is not asked about again -/
def anyO : HO := .ext fun _ => True
def rSetTx : TSet := fun o i v H Q => ∃ (p : Addr) (z : Str) (kvs : List (List Key × V)), o = .ref p ∧ i = .str z ∧ H p = some (.dT kvs) ∧ kvs ≠ [] ∧ kvs.length < sizeLine ∧ SeqAt.shaped (.str z) = true ∧ (∀ kv ∈ kvs, SeqAt.shaped (.tuple (kv.1.map keyP)) = true) ∧ Q (upd H p anyO)
section
variable {X : Cx}
theorem set_text (hu : X.A.units + 70 < cLine) : PSet X rSetTx := by
  intro pins s σ H o i v ov iv u Q I ro ri rv h
  obtain ⟨p, z, kvs, rfl, rfl, hp, some_, few, shz, shk, q⟩ := h
  cases ro
  obtain ⟨t, rfl⟩ := ri
  obtain ⟨lz, np, xs, rel, dd⟩ := dt_of I.hok hp
  have ld := dd
  obtain ⟨ob, es, ep, ho, ex, hd, he, his, nd⟩ := ld
  have ty : s.TypeIs (.ref p) "dict" := ⟨ob, ho, ex.1⟩
  have lx : xs.length = kvs.length := (Paired.length rel).symm
  unfold setItem
  refine wpAny_holding (wpAny_bind (wpAny_sequenceKey ty (by decide) (wpAny_bind (wpAny_callSpecial?_slot (name := Str.ofString "__setitem__") ty PySem.F.slot_dict_setitem (wpAny_call_entry PySem.F.slot_dict_setitem ty PySem.F.entry_dict_setitem ?_ (args_dict_setitem _ _ _))))))
  show wpAny _ _ (Builtin.Dict.notOrdered "__setitem__" ⟨[.ref p, .str z t, u], []⟩ >>= _) _ _ s
  refine wpAny_bind (wpAny_notOrdered_dict ty ?_)
  show wpAny _ _ (dictSet p (.str z t) u >>= _) _ _ s
  refine wpAny_bind ?_
  unfold dictSet
  refine wpAny_holding (wpAny_bind (wpAny_pyHash_str ?_))
  unfold dictSetHashed
  refine wpAny_holding (wpAny_bind (find_text (s := { s with toks := s.toks + 1 }) (knd := tupleKind (mixKind X.prog X.w)) ho hd he his (fun e => ?_) (fun x hx => ?_) ?_))
  · rw [e] at lx
    exact some_ (List.length_eq_zero_iff.mp (by simpa using lx.symm))
  · obtain ⟨j, hj⟩ := List.getElem?_of_mem hx
    obtain ⟨kv, hkv, e1, e2, e3⟩ := paired_get rel hj
    have dkey : Dp X.K H (.ref x.2.1) (.tuple (kv.1.map keyP)) := .tup (SqT.of e2) (dps_keyP _)
    have I' : Inv X pins σ H { s with toks := s.toks + 1 } := I.tok _
    obtain ⟨as, r1⟩ := Dp.reads I' _ _ _ dkey (show RelV (.ref x.2.1) (.ref x.2.1) from rfl)
    obtain ⟨bs, r2⟩ := Dp.reads I' _ _ _ (Dp.str z) (show RelV (.str z) (.str z t) from ⟨t, rfl⟩)
    have s1 := shk kv (List.mem_of_getElem? hkv)
    exact SeqAt.eqAt_reads _ _ X.A.in1 { s with toks := s.toks + 1 } _ _ as bs r1 r2 (SeqAt.canLay_of_shaped s1) (SeqAt.canLay_of_shaped shz) (SeqAt.room_of_shaped s1 (by show X.A.units + 1 + 64 < cLine; omega))
  · have sz := size_of_entries he
    refine wpAny_bind (wpAny_rule ?_)
    refine wpAny_updateDictKeys (hz := by omega) (s := { s with toks := s.toks + 1 }) ho hd ?_
    refine wpAny_pure ⟨.none, rfl, wpAny_pure ⟨_, d_write (ob := anyO) (t' := s.toks + 1) (show Inv X pins σ H { s with toks := s.toks + 1 } from I.tok _) (by rw [hp]; exact True.intro) (Heap.SameBut.update ..) ⟨_, Heap.get?_update_self _ ho (Obj.isFreed_of_dict (Obj.data_mapDictKeys hd _))⟩ ⟨trivial, ⟨_, Heap.get?_update_self _ ho (Obj.isFreed_of_dict (Obj.data_mapDictKeys hd _))⟩, fun _ _ _ _ => trivial⟩, q⟩⟩
end
end My
set_option Elab.async false
set_option linter.all false
set_option maxRecDepth 100000
set_option maxHeartbeats 4000000
namespace My
open PySem L2 PySem.Spec PyProof.Rows
/-! ### rules of my own: a list's item read for `draw[1] += 1`; an item of a list or a tuple; a quotient by any great number -/
theorem get_list {X : Cx} : PGet X (rIxL X.K) := by
  intro pins s σ H o i ov iv Q I ro ri want
  obtain ⟨l, items, at_, got, eo, ei, seq, place, end_⟩ := want
  subst eo ei
  cases ro
  obtain ⟨tok, rfl⟩ := ri
  obtain ⟨own, rel, plain, _⟩ := I.list seq
  obtain ⟨k, ix, gk, kl, lo, up⟩ := atI_get place
  obtain ⟨u, gu, ru⟩ := rel.get gk
  have len := rel.length
  have far := line63
  have done_ : EP X pins σ Q u s := ⟨got, H, I, ru, end_⟩
  rcases Int.lt_or_le at_ 0 with neg | pos
  · have ek : (at_ + (own.toArray.size : Int)).toNat = k := by
      rw [seqIndex_neg neg lo] at ix
      rw [List.size_toArray, ← len]
      exact Option.some.inj ix
    exact wpAny_getItem_list_neg plain.isList neg (by rw [List.size_toArray] <;> omega) (by omega) (by rw [ek]; simpa using gu) done_
  · have ek : at_.toNat = k := by
      rw [seqIndex_of pos up] at ix
      exact Option.some.inj ix
    exact wpAny_getItem_list plain.isList pos (by omega) (by rw [ek]; simpa using gu) done_
theorem ix_lt {X : Cx} : IxR X (fun x y H Q => rIxL X.K x y H Q ∨ rIxT X.K x y H Q) := ix_list.or ix_tup
theorem seq_cut {t u : TS} {D : Ends} {σ : L2.St} {H : Hp} (R : L2.St → Hp → Prop) (h2 : ∀ σ' H', R σ' H' → u D σ' H') (h1 : (∀ σ' H', R σ' H' → u D σ' H') → t { D with nx := u D } σ H) : tSeq t u D σ H := h1 h2
theorem eqv_nil_ints (ns : List Int) (h : ns ≠ []) : PyData.eqv (.list (ns.map PyData.int)) (.list []) = false := by
  cases ns with
  | nil => exact absurd rfl h
  | cons n r => rfl

def CDivA (_ j : Int) : Prop := j ≠ 0 ∧ j.natAbs.log2 < 9000
theorem op_fdivA {X : Cx} : OpR X (binaryOp .FloorDiv) (rI CDivA fun i j => .int (i.fdiv j)) := opI fun i j _ _ _ _ _ hc q =>
  floordiv_int hc.1 q (.inl (PyProof.noPylong_of_log2 hc.2))
theorem hu64 {A : Around} {k : Nat} (hr : Room k A) : A.units + 64 < cLine := by
  have := hr.un
  omega
theorem divA_small {i j : Int} (h : j ≠ 0) (h1 : j.natAbs < 4294967296) : CDivA i j := ⟨h, Nat.lt_trans (PySem.Flt.log2_lt_of (k := 32) (by decide) (by simpa using h1)) (by decide)⟩
theorem hu1 {A : Around} {k : Nat} (hr : Room k A) : A.units + 1 < cLine := by
  have := hr.un
  omega
theorem kit_value {K : PySem.W.Frag} {C : Addr} (h : PySem.W.subIn K (.ref C) (.type "ValueError") = some true) : PySem.W.kitOne K (.ref C) (.type "ValueError") = some true := by
  have m : PySem.W.kitMeta "ValueError" = true := by decide +kernel
  unfold PySem.W.kitOne PySem.W.kitCls
  rw [if_neg (by simp)]
  show (if PySem.W.kitMeta "ValueError" = true then _ else _) = _
  rw [if_pos m]
  exact h
theorem hu110 {A : Around} {k : Nat} (hr : Room k A) : A.units + 110 < cLine := by
  have := hr.un
  omega
theorem hu70 {A : Around} {k : Nat} (hr : Room k A) : A.units + 70 < cLine := by
  have := hr.un
  omega
theorem hu64' {A : Around} {k : Nat} (hr : Room k A) : A.units < cLine := by
  have := hr.un
  omega
structure KitT (K : PySem.W.Frag) (C : Addr) : Prop where
  cls : (PySem.W.clsIn K C).isSome = true
  ty : PySem.W.typeIn K (.ref C) = some (.type "type")
  self_ : PySem.W.subIn K (.ref C) (.ref C) = some true
theorem set_or {X : Cx} {r q : TSet} (h : PSet X r) (g : PSet X q) : PSet X fun o i v H Q => r o i v H Q ∨ q o i v H Q := by
  intro pins s σ H o i v ov iv u Q I ro ri rv w
  rcases w with w | w
  · exact h pins s σ H o i v ov iv u Q I ro ri rv w
  · exact g pins s σ H o i v ov iv u Q I ro ri rv w
theorem call_or {X : Cx} {f : Value} {r q : List V → Hp → VK → Prop} (h : CallR X f r) (g : CallR X f q) : CallR X f fun xs H Q => r xs H Q ∨ q xs H Q := by
  intro pins s σ H xs us Q I rx w
  rcases w with w | w
  · exact h pins s σ H xs us Q I rx w
  · exact g pins s σ H xs us Q I rx w
/-! ### the text by places -/
def top (i : Nat) : Stmt := PySem.Challenge.pw_evensieve_k61_whole_evidence_as_objects.main.body.getD i (.Pass ⟨0, 0, 0, 0⟩)
abbrev s_is_whole : Stmt := top 6
theorem sc_is_whole : FnScope ["value"] ["value"] (defScope s_is_whole) := ⟨rfl, rfl, rfl, by decide +kernel, rfl, by decide +kernel, by decide +kernel⟩
abbrev s_is_between : Stmt := top 7
theorem sc_is_between : FnScope ["value", "low", "high"] ["value", "low", "high"] (defScope s_is_between) := ⟨rfl, rfl, rfl, by decide +kernel, rfl, by decide +kernel, by decide +kernel⟩
abbrev s_is_near : Stmt := top 8
theorem sc_is_near : FnScope ["value"] ["value"] (defScope s_is_near) := ⟨rfl, rfl, rfl, by decide +kernel, rfl, by decide +kernel, by decide +kernel⟩
abbrev s_is_row : Stmt := top 9
theorem sc_is_row : FnScope ["value"] ["value"] (defScope s_is_row) := ⟨rfl, rfl, rfl, by decide +kernel, rfl, by decide +kernel, by decide +kernel⟩
abbrev s_is_name : Stmt := top 10
theorem sc_is_name : FnScope ["value", "sign"] ["value"] (defScope s_is_name) := ⟨rfl, rfl, rfl, by decide +kernel, rfl, by decide +kernel, by decide +kernel⟩
abbrev s_BadColumns_init : Stmt := inClass (top 13) 0
theorem sc_BadColumns_init : FnScope ["self", "part"] ["self", "part"] (defScope s_BadColumns_init) := ⟨rfl, rfl, rfl, by decide +kernel, rfl, by decide +kernel, by decide +kernel⟩
abbrev s_BadTable_init : Stmt := inClass (top 14) 0
theorem sc_BadTable_init : FnScope ["self", "number"] ["self", "number"] (defScope s_BadTable_init) := ⟨rfl, rfl, rfl, by decide +kernel, rfl, by decide +kernel, by decide +kernel⟩
abbrev s_Columns_init : Stmt := inClass (top 21) 0
theorem sc_Columns_init : FnScope ["self", "hashed", "asked", "summed", "part", "name"] ["self", "hashed", "asked", "summed"] (defScope s_Columns_init) := ⟨rfl, rfl, rfl, by decide +kernel, rfl, by decide +kernel, by decide +kernel⟩
abbrev s_Columns_asked : Stmt := inClass (top 21) 1
theorem sc_Columns_asked : FnScope ["self"] ["self"] (defScope s_Columns_asked) := ⟨rfl, rfl, rfl, by decide +kernel, rfl, by decide +kernel, by decide +kernel⟩
abbrev s_Columns_eq : Stmt := inClass (top 21) 3
theorem sc_Columns_eq : FnScope ["self", "other"] ["self", "other"] (defScope s_Columns_eq) := ⟨rfl, rfl, rfl, by decide +kernel, rfl, by decide +kernel, by decide +kernel⟩
abbrev s_Table_init : Stmt := inClass (top 22) 0
theorem sc_Table_init : FnScope ["self", "columns", "rows", "number", "row"] ["self", "columns", "rows"] (defScope s_Table_init) := ⟨rfl, rfl, rfl, by decide +kernel, rfl, by decide +kernel, by decide +kernel⟩
abbrev s_Table_eq : Stmt := inClass (top 22) 4
theorem sc_Table_eq : FnScope ["self", "other"] ["self", "other"] (defScope s_Table_eq) := ⟨rfl, rfl, rfl, by decide +kernel, rfl, by decide +kernel, by decide +kernel⟩
abbrev s_wrong_part : Stmt := top 23
theorem sc_wrong_part : FnScope ["hashed", "asked", "summed", "names"] ["hashed", "asked", "summed"] (defScope s_wrong_part) := ⟨rfl, rfl, rfl, by decide +kernel, rfl, by decide +kernel, by decide +kernel⟩
abbrev s_are_names : Stmt := top 24
theorem sc_are_names : FnScope ["row", "most", "name"] ["row", "most"] (defScope s_are_names) := ⟨rfl, rfl, rfl, by decide +kernel, rfl, by decide +kernel, by decide +kernel⟩
abbrev s_are_asked : Stmt := top 25
theorem sc_are_asked : FnScope ["asked", "name"] ["asked"] (defScope s_are_asked) := ⟨rfl, rfl, rfl, by decide +kernel, rfl, by decide +kernel, by decide +kernel⟩
abbrev s_is_table_row : Stmt := top 26
theorem sc_is_table_row : FnScope ["columns", "row", "block", "keys", "values", "sums"] ["columns", "row"] (defScope s_is_table_row) := ⟨rfl, rfl, rfl, by decide +kernel, rfl, by decide +kernel, by decide +kernel⟩
abbrev s_are_numbers : Stmt := top 27
theorem sc_are_numbers : FnScope ["numbers", "many", "number"] ["numbers", "many"] (defScope s_are_numbers) := ⟨rfl, rfl, rfl, by decide +kernel, rfl, by decide +kernel, by decide +kernel⟩
abbrev s_are_values : Stmt := top 28
theorem sc_are_values : FnScope ["values", "kinds", "value", "kind"] ["values", "kinds"] (defScope s_are_values) := ⟨rfl, rfl, rfl, by decide +kernel, rfl, by decide +kernel, by decide +kernel⟩
abbrev s_is_value : Stmt := top 29
theorem sc_is_value : FnScope ["value", "kind"] ["value", "kind"] (defScope s_is_value) := ⟨rfl, rfl, rfl, by decide +kernel, rfl, by decide +kernel, by decide +kernel⟩
abbrev s_Kernel_init : Stmt := inClass (top 31) 0
theorem sc_Kernel_init : FnScope ["self", "weights", "functions", "kind", "states", "kinds", "chances"] ["self", "weights", "functions"] (defScope s_Kernel_init) := ⟨rfl, rfl, rfl, by decide +kernel, rfl, by decide +kernel, by decide +kernel⟩
abbrev s_Kernel_eq : Stmt := inClass (top 31) 2
theorem sc_Kernel_eq : FnScope ["self", "other"] ["self", "other"] (defScope s_Kernel_eq) := ⟨rfl, rfl, rfl, by decide +kernel, rfl, by decide +kernel, by decide +kernel⟩
abbrev s_Array_init : Stmt := inClass (top 33) 0
theorem sc_Array_init : FnScope ["self", "sizes", "entries", "kind", "entities", "shares"] ["self", "sizes", "entries"] (defScope s_Array_init) := ⟨rfl, rfl, rfl, by decide +kernel, rfl, by decide +kernel, by decide +kernel⟩
abbrev s_Array_eq : Stmt := inClass (top 33) 1
theorem sc_Array_eq : FnScope ["self", "other"] ["self", "other"] (defScope s_Array_eq) := ⟨rfl, rfl, rfl, by decide +kernel, rfl, by decide +kernel, by decide +kernel⟩
abbrev s_Same_init : Stmt := inClass (top 35) 0
theorem sc_Same_init : FnScope ["self", "maps", "kind"] ["self", "maps"] (defScope s_Same_init) := ⟨rfl, rfl, rfl, by decide +kernel, rfl, by decide +kernel, by decide +kernel⟩
abbrev s_Same_bool : Stmt := inClass (top 35) 3
theorem sc_Same_bool : FnScope ["self"] ["self"] (defScope s_Same_bool) := ⟨rfl, rfl, rfl, by decide +kernel, rfl, by decide +kernel, by decide +kernel⟩
abbrev s_Same_eq : Stmt := inClass (top 35) 4
theorem sc_Same_eq : FnScope ["self", "other"] ["self", "other"] (defScope s_Same_eq) := ⟨rfl, rfl, rfl, by decide +kernel, rfl, by decide +kernel, by decide +kernel⟩
abbrev s_Unlike_init : Stmt := inClass (top 36) 0
theorem sc_Unlike_init : FnScope ["self", "which", "chosen", "chances", "kind"] ["self", "which", "chosen", "chances"] (defScope s_Unlike_init) := ⟨rfl, rfl, rfl, by decide +kernel, rfl, by decide +kernel, by decide +kernel⟩
abbrev s_Unlike_bool : Stmt := inClass (top 36) 3
theorem sc_Unlike_bool : FnScope ["self"] ["self"] (defScope s_Unlike_bool) := ⟨rfl, rfl, rfl, by decide +kernel, rfl, by decide +kernel, by decide +kernel⟩
abbrev s_Unlike_eq : Stmt := inClass (top 36) 4
theorem sc_Unlike_eq : FnScope ["self", "other"] ["self", "other"] (defScope s_Unlike_eq) := ⟨rfl, rfl, rfl, by decide +kernel, rfl, by decide +kernel, by decide +kernel⟩
abbrev s_Apart_init : Stmt := inClass (top 38) 0
theorem sc_Apart_init : FnScope ["self", "table", "chances"] ["self", "table", "chances"] (defScope s_Apart_init) := ⟨rfl, rfl, rfl, by decide +kernel, rfl, by decide +kernel, by decide +kernel⟩
abbrev s_Apart_eq : Stmt := inClass (top 38) 2
theorem sc_Apart_eq : FnScope ["self", "other"] ["self", "other"] (defScope s_Apart_eq) := ⟨rfl, rfl, rfl, by decide +kernel, rfl, by decide +kernel, by decide +kernel⟩
abbrev s_Within_bool : Stmt := inClass (top 40) 1
theorem sc_Within_bool : FnScope ["self"] ["self"] (defScope s_Within_bool) := ⟨rfl, rfl, rfl, by decide +kernel, rfl, by decide +kernel, by decide +kernel⟩
abbrev s_Within_eq : Stmt := inClass (top 40) 2
theorem sc_Within_eq : FnScope ["self", "other"] ["self", "other"] (defScope s_Within_eq) := ⟨rfl, rfl, rfl, by decide +kernel, rfl, by decide +kernel, by decide +kernel⟩
abbrev s_Outside_init : Stmt := inClass (top 41) 0
theorem sc_Outside_init : FnScope ["self", "row", "draws", "test"] ["self", "row", "draws"] (defScope s_Outside_init) := ⟨rfl, rfl, rfl, by decide +kernel, rfl, by decide +kernel, by decide +kernel⟩
abbrev s_Outside_bool : Stmt := inClass (top 41) 2
theorem sc_Outside_bool : FnScope ["self"] ["self"] (defScope s_Outside_bool) := ⟨rfl, rfl, rfl, by decide +kernel, rfl, by decide +kernel, by decide +kernel⟩
abbrev s_Outside_eq : Stmt := inClass (top 41) 3
theorem sc_Outside_eq : FnScope ["self", "other"] ["self", "other"] (defScope s_Outside_eq) := ⟨rfl, rfl, rfl, by decide +kernel, rfl, by decide +kernel, by decide +kernel⟩
abbrev s_Cheapest_init : Stmt := inClass (top 43) 0
theorem sc_Cheapest_init : FnScope ["self", "number", "paper", "against", "at"] ["self", "number", "paper", "against"] (defScope s_Cheapest_init) := ⟨rfl, rfl, rfl, by decide +kernel, rfl, by decide +kernel, by decide +kernel⟩
abbrev s_Cheapest_bool : Stmt := inClass (top 43) 5
theorem sc_Cheapest_bool : FnScope ["self"] ["self"] (defScope s_Cheapest_bool) := ⟨rfl, rfl, rfl, by decide +kernel, rfl, by decide +kernel, by decide +kernel⟩
abbrev s_Cheapest_eq : Stmt := inClass (top 43) 6
theorem sc_Cheapest_eq : FnScope ["self", "other"] ["self", "other"] (defScope s_Cheapest_eq) := ⟨rfl, rfl, rfl, by decide +kernel, rfl, by decide +kernel, by decide +kernel⟩
abbrev s__law_number : Stmt := top 45
theorem sc__law_number : FnScope ["script", "index", "cell", "turn", "rest", "step", "blend"] ["script", "index"] (defScope s__law_number) := ⟨rfl, rfl, rfl, by decide +kernel, rfl, by decide +kernel, by decide +kernel⟩
abbrev s__law_take : Stmt := top 46
theorem sc__law_take : FnScope ["draw", "many"] ["draw", "many"] (defScope s__law_take) := ⟨rfl, rfl, rfl, by decide +kernel, rfl, by decide +kernel, by decide +kernel⟩
abbrev s__law_made : Stmt := top 47
theorem sc__law_made : FnScope ["draw", "kind", "row", "number", "turn", "maps", "chosen", "table", "draws", "against", "sizes", "weights", "functions"] ["draw", "kind"] (defScope s__law_made) := ⟨rfl, rfl, rfl, by decide +kernel, rfl, by decide +kernel, by decide +kernel⟩
abbrev s__law_told : Stmt := top 48
theorem sc__law_told : FnScope ["kind", "one"] ["kind", "one"] (defScope s__law_told) := ⟨rfl, rfl, rfl, by decide +kernel, rfl, by decide +kernel, by decide +kernel⟩
abbrev s_law : Stmt := top 49
theorem sc_law : FnScope ["script", "draw", "rows", "turn", "kind", "part", "due", "one", "other", "late", "two", "truths"] ["script"] (defScope s_law) := ⟨rfl, rfl, rfl, by decide +kernel, rfl, by decide +kernel, by decide +kernel⟩
structure Txt (K : PySem.W.Frag) (mg : Str → Option Value) where
  a_is_whole : Addr
  d_is_whole : FuncData
  F_is_whole : Fun K "is_whole" "is_whole" s_is_whole a_is_whole d_is_whole
  b_is_whole : Binds K d_is_whole ["value"] []
  m_is_whole : mg "is_whole" = some (.ref a_is_whole)
  a_is_between : Addr
  d_is_between : FuncData
  F_is_between : Fun K "is_between" "is_between" s_is_between a_is_between d_is_between
  b_is_between : Binds K d_is_between ["value", "low", "high"] []
  m_is_between : mg "is_between" = some (.ref a_is_between)
  a_is_near : Addr
  d_is_near : FuncData
  F_is_near : Fun K "is_near" "is_near" s_is_near a_is_near d_is_near
  b_is_near : Binds K d_is_near ["value"] []
  m_is_near : mg "is_near" = some (.ref a_is_near)
  a_is_row : Addr
  d_is_row : FuncData
  F_is_row : Fun K "is_row" "is_row" s_is_row a_is_row d_is_row
  b_is_row : Binds K d_is_row ["value"] []
  m_is_row : mg "is_row" = some (.ref a_is_row)
  a_is_name : Addr
  d_is_name : FuncData
  F_is_name : Fun K "is_name" "is_name" s_is_name a_is_name d_is_name
  b_is_name : Binds K d_is_name ["value"] []
  m_is_name : mg "is_name" = some (.ref a_is_name)
  a_BadColumns_init : Addr
  d_BadColumns_init : FuncData
  F_BadColumns_init : Fun K "__init__" "BadColumns.__init__" s_BadColumns_init a_BadColumns_init d_BadColumns_init
  b_BadColumns_init : Binds K d_BadColumns_init ["self", "part"] []
  a_BadTable_init : Addr
  d_BadTable_init : FuncData
  F_BadTable_init : Fun K "__init__" "BadTable.__init__" s_BadTable_init a_BadTable_init d_BadTable_init
  b_BadTable_init : Binds K d_BadTable_init ["self", "number"] []
  a_Columns_init : Addr
  d_Columns_init : FuncData
  F_Columns_init : Fun K "__init__" "Columns.__init__" s_Columns_init a_Columns_init d_Columns_init
  b_Columns_init : Binds K d_Columns_init ["self", "hashed", "asked", "summed"] []
  a_Columns_asked : Addr
  d_Columns_asked : FuncData
  F_Columns_asked : Fun K "asked" "Columns.asked" s_Columns_asked a_Columns_asked d_Columns_asked
  b_Columns_asked : Binds K d_Columns_asked ["self"] []
  a_Columns_eq : Addr
  d_Columns_eq : FuncData
  F_Columns_eq : Fun K "__eq__" "Columns.__eq__" s_Columns_eq a_Columns_eq d_Columns_eq
  b_Columns_eq : Binds K d_Columns_eq ["self", "other"] []
  a_Table_init : Addr
  d_Table_init : FuncData
  F_Table_init : Fun K "__init__" "Table.__init__" s_Table_init a_Table_init d_Table_init
  b_Table_init : Binds K d_Table_init ["self", "columns", "rows"] []
  a_Table_eq : Addr
  d_Table_eq : FuncData
  F_Table_eq : Fun K "__eq__" "Table.__eq__" s_Table_eq a_Table_eq d_Table_eq
  b_Table_eq : Binds K d_Table_eq ["self", "other"] []
  a_wrong_part : Addr
  d_wrong_part : FuncData
  F_wrong_part : Fun K "wrong_part" "wrong_part" s_wrong_part a_wrong_part d_wrong_part
  b_wrong_part : Binds K d_wrong_part ["hashed", "asked", "summed"] []
  m_wrong_part : mg "wrong_part" = some (.ref a_wrong_part)
  a_are_names : Addr
  d_are_names : FuncData
  F_are_names : Fun K "are_names" "are_names" s_are_names a_are_names d_are_names
  b_are_names : Binds K d_are_names ["row", "most"] []
  m_are_names : mg "are_names" = some (.ref a_are_names)
  a_are_asked : Addr
  d_are_asked : FuncData
  F_are_asked : Fun K "are_asked" "are_asked" s_are_asked a_are_asked d_are_asked
  b_are_asked : Binds K d_are_asked ["asked"] []
  m_are_asked : mg "are_asked" = some (.ref a_are_asked)
  a_is_table_row : Addr
  d_is_table_row : FuncData
  F_is_table_row : Fun K "is_table_row" "is_table_row" s_is_table_row a_is_table_row d_is_table_row
  b_is_table_row : Binds K d_is_table_row ["columns", "row"] []
  m_is_table_row : mg "is_table_row" = some (.ref a_is_table_row)
  a_are_numbers : Addr
  d_are_numbers : FuncData
  F_are_numbers : Fun K "are_numbers" "are_numbers" s_are_numbers a_are_numbers d_are_numbers
  b_are_numbers : Binds K d_are_numbers ["numbers", "many"] []
  m_are_numbers : mg "are_numbers" = some (.ref a_are_numbers)
  a_are_values : Addr
  d_are_values : FuncData
  F_are_values : Fun K "are_values" "are_values" s_are_values a_are_values d_are_values
  b_are_values : Binds K d_are_values ["values", "kinds"] []
  m_are_values : mg "are_values" = some (.ref a_are_values)
  a_is_value : Addr
  d_is_value : FuncData
  F_is_value : Fun K "is_value" "is_value" s_is_value a_is_value d_is_value
  b_is_value : Binds K d_is_value ["value", "kind"] []
  m_is_value : mg "is_value" = some (.ref a_is_value)
  a_Kernel_init : Addr
  d_Kernel_init : FuncData
  F_Kernel_init : Fun K "__init__" "Kernel.__init__" s_Kernel_init a_Kernel_init d_Kernel_init
  b_Kernel_init : Binds K d_Kernel_init ["self", "weights", "functions"] []
  a_Kernel_eq : Addr
  d_Kernel_eq : FuncData
  F_Kernel_eq : Fun K "__eq__" "Kernel.__eq__" s_Kernel_eq a_Kernel_eq d_Kernel_eq
  b_Kernel_eq : Binds K d_Kernel_eq ["self", "other"] []
  a_Array_init : Addr
  d_Array_init : FuncData
  F_Array_init : Fun K "__init__" "Array.__init__" s_Array_init a_Array_init d_Array_init
  b_Array_init : Binds K d_Array_init ["self", "sizes", "entries"] []
  a_Array_eq : Addr
  d_Array_eq : FuncData
  F_Array_eq : Fun K "__eq__" "Array.__eq__" s_Array_eq a_Array_eq d_Array_eq
  b_Array_eq : Binds K d_Array_eq ["self", "other"] []
  a_Same_init : Addr
  d_Same_init : FuncData
  F_Same_init : Fun K "__init__" "Same.__init__" s_Same_init a_Same_init d_Same_init
  b_Same_init : Binds K d_Same_init ["self", "maps"] []
  a_Same_bool : Addr
  d_Same_bool : FuncData
  F_Same_bool : Fun K "__bool__" "Same.__bool__" s_Same_bool a_Same_bool d_Same_bool
  b_Same_bool : Binds K d_Same_bool ["self"] []
  a_Same_eq : Addr
  d_Same_eq : FuncData
  F_Same_eq : Fun K "__eq__" "Same.__eq__" s_Same_eq a_Same_eq d_Same_eq
  b_Same_eq : Binds K d_Same_eq ["self", "other"] []
  a_Unlike_init : Addr
  d_Unlike_init : FuncData
  F_Unlike_init : Fun K "__init__" "Unlike.__init__" s_Unlike_init a_Unlike_init d_Unlike_init
  b_Unlike_init : Binds K d_Unlike_init ["self", "which", "chosen", "chances"] []
  a_Unlike_bool : Addr
  d_Unlike_bool : FuncData
  F_Unlike_bool : Fun K "__bool__" "Unlike.__bool__" s_Unlike_bool a_Unlike_bool d_Unlike_bool
  b_Unlike_bool : Binds K d_Unlike_bool ["self"] []
  a_Unlike_eq : Addr
  d_Unlike_eq : FuncData
  F_Unlike_eq : Fun K "__eq__" "Unlike.__eq__" s_Unlike_eq a_Unlike_eq d_Unlike_eq
  b_Unlike_eq : Binds K d_Unlike_eq ["self", "other"] []
  a_Apart_init : Addr
  d_Apart_init : FuncData
  F_Apart_init : Fun K "__init__" "Apart.__init__" s_Apart_init a_Apart_init d_Apart_init
  b_Apart_init : Binds K d_Apart_init ["self", "table", "chances"] []
  a_Apart_eq : Addr
  d_Apart_eq : FuncData
  F_Apart_eq : Fun K "__eq__" "Apart.__eq__" s_Apart_eq a_Apart_eq d_Apart_eq
  b_Apart_eq : Binds K d_Apart_eq ["self", "other"] []
  a_Within_bool : Addr
  d_Within_bool : FuncData
  F_Within_bool : Fun K "__bool__" "Within.__bool__" s_Within_bool a_Within_bool d_Within_bool
  b_Within_bool : Binds K d_Within_bool ["self"] []
  a_Within_eq : Addr
  d_Within_eq : FuncData
  F_Within_eq : Fun K "__eq__" "Within.__eq__" s_Within_eq a_Within_eq d_Within_eq
  b_Within_eq : Binds K d_Within_eq ["self", "other"] []
  a_Outside_init : Addr
  d_Outside_init : FuncData
  F_Outside_init : Fun K "__init__" "Outside.__init__" s_Outside_init a_Outside_init d_Outside_init
  b_Outside_init : Binds K d_Outside_init ["self", "row", "draws"] []
  a_Outside_bool : Addr
  d_Outside_bool : FuncData
  F_Outside_bool : Fun K "__bool__" "Outside.__bool__" s_Outside_bool a_Outside_bool d_Outside_bool
  b_Outside_bool : Binds K d_Outside_bool ["self"] []
  a_Outside_eq : Addr
  d_Outside_eq : FuncData
  F_Outside_eq : Fun K "__eq__" "Outside.__eq__" s_Outside_eq a_Outside_eq d_Outside_eq
  b_Outside_eq : Binds K d_Outside_eq ["self", "other"] []
  a_Cheapest_init : Addr
  d_Cheapest_init : FuncData
  F_Cheapest_init : Fun K "__init__" "Cheapest.__init__" s_Cheapest_init a_Cheapest_init d_Cheapest_init
  b_Cheapest_init : Binds K d_Cheapest_init ["self", "number", "paper", "against"] []
  a_Cheapest_bool : Addr
  d_Cheapest_bool : FuncData
  F_Cheapest_bool : Fun K "__bool__" "Cheapest.__bool__" s_Cheapest_bool a_Cheapest_bool d_Cheapest_bool
  b_Cheapest_bool : Binds K d_Cheapest_bool ["self"] []
  a_Cheapest_eq : Addr
  d_Cheapest_eq : FuncData
  F_Cheapest_eq : Fun K "__eq__" "Cheapest.__eq__" s_Cheapest_eq a_Cheapest_eq d_Cheapest_eq
  b_Cheapest_eq : Binds K d_Cheapest_eq ["self", "other"] []
  a__law_number : Addr
  d__law_number : FuncData
  F__law_number : Fun K "_law_number" "_law_number" s__law_number a__law_number d__law_number
  b__law_number : Binds K d__law_number ["script", "index"] []
  m__law_number : mg "_law_number" = some (.ref a__law_number)
  a__law_take : Addr
  d__law_take : FuncData
  F__law_take : Fun K "_law_take" "_law_take" s__law_take a__law_take d__law_take
  b__law_take : Binds K d__law_take ["draw", "many"] []
  m__law_take : mg "_law_take" = some (.ref a__law_take)
  a__law_made : Addr
  d__law_made : FuncData
  F__law_made : Fun K "_law_made" "_law_made" s__law_made a__law_made d__law_made
  b__law_made : Binds K d__law_made ["draw", "kind"] []
  m__law_made : mg "_law_made" = some (.ref a__law_made)
  a__law_told : Addr
  d__law_told : FuncData
  F__law_told : Fun K "_law_told" "_law_told" s__law_told a__law_told d__law_told
  b__law_told : Binds K d__law_told ["kind", "one"] []
  m__law_told : mg "_law_told" = some (.ref a__law_told)
  a_law : Addr
  d_law : FuncData
  F_law : Fun K "law" "law" s_law a_law d_law
  b_law : Binds K d_law ["script"] []
  m_law : mg "law" = some (.ref a_law)
  z_ValueError : mg "ValueError" = none
  z_isinstance : mg "isinstance" = none
  z_all : mg "all" = none
  z_str : mg "str" = none
  z_range : mg "range" = none
  z_int : mg "int" = none
  z_list : mg "list" = none
  z_tuple : mg "tuple" = none
  z_dict : mg "dict" = none
  z_enumerate : mg "enumerate" = none
  z_len : mg "len" = none
  z_bool : mg "bool" = none
  z_sorted : mg "sorted" = none
  z_set : mg "set" = none
  z_zip : mg "zip" = none
  t_MOST_ROWS : Tok
  m_MOST_ROWS : mg "MOST_ROWS" = some (.int 60 t_MOST_ROWS)
  t_LETTERS : Tok
  m_LETTERS : mg "LETTERS" = some (.str "abcdefghijklmnopqrstuvwxyz" t_LETTERS)
  a_RESERVED : Addr
  m_RESERVED : mg "RESERVED" = some (.ref a_RESERVED)
  q_RESERVED : ∀ H : Hp, SqT K H a_RESERVED [.str "row", .str "block", .str "hash", .str "not", .str "and", .str "or", .str "all", .str "none", .str "like"]
  t_FAR : Tok
  m_FAR : mg "FAR" = some (.int 1000000 t_FAR)
  t_LONGEST_NAME : Tok
  m_LONGEST_NAME : mg "LONGEST_NAME" = some (.int 8 t_LONGEST_NAME)
  t_MOST_HASHED : Tok
  m_MOST_HASHED : mg "MOST_HASHED" = some (.int 2 t_MOST_HASHED)
  t_MOST_ASKED : Tok
  m_MOST_ASKED : mg "MOST_ASKED" = some (.int 4 t_MOST_ASKED)
  t_MOST_SUMMED : Tok
  m_MOST_SUMMED : mg "MOST_SUMMED" = some (.int 2 t_MOST_SUMMED)
  c_Columns : Addr
  m_Columns : mg "Columns" = some (.ref c_Columns)
  cl_Columns : Cls K c_Columns
  n_Columns_hashed : NoAttr K c_Columns "hashed"
  n_Columns__asked : NoAttr K c_Columns "_asked"
  n_Columns_summed : NoAttr K c_Columns "summed"
  mk_Columns : Mk K c_Columns a_Columns_init
  q_Columns_eq : Meth K c_Columns "__eq__" a_Columns_eq
  ne_Columns : PySem.W.findIn K (.ref c_Columns) "__ne__" = some (some (.builtin "object.__ne__"))
  mo_Columns : PySem.W.mroIn K c_Columns (.type "object") = some true
  ty_Columns : ∀ {H : Hp} {a dx : Addr} {fs : List (Str × V)}, H a = some (.ins c_Columns dx fs) → TyX K H (.ref a) (.ref c_Columns)
  o_Columns_asked : Addr
  p_Columns_asked : PropOf K c_Columns "asked" o_Columns_asked a_Columns_asked
  c_Table : Addr
  m_Table : mg "Table" = some (.ref c_Table)
  cl_Table : Cls K c_Table
  n_Table_columns : NoAttr K c_Table "columns"
  n_Table_rows : NoAttr K c_Table "rows"
  mk_Table : Mk K c_Table a_Table_init
  q_Table_eq : Meth K c_Table "__eq__" a_Table_eq
  ne_Table : PySem.W.findIn K (.ref c_Table) "__ne__" = some (some (.builtin "object.__ne__"))
  mo_Table : PySem.W.mroIn K c_Table (.type "object") = some true
  ty_Table : ∀ {H : Hp} {a dx : Addr} {fs : List (Str × V)}, H a = some (.ins c_Table dx fs) → TyX K H (.ref a) (.ref c_Table)
  c_Kernel : Addr
  m_Kernel : mg "Kernel" = some (.ref c_Kernel)
  cl_Kernel : Cls K c_Kernel
  n_Kernel_weights : NoAttr K c_Kernel "weights"
  n_Kernel_functions : NoAttr K c_Kernel "functions"
  mk_Kernel : Mk K c_Kernel a_Kernel_init
  q_Kernel_eq : Meth K c_Kernel "__eq__" a_Kernel_eq
  ne_Kernel : PySem.W.findIn K (.ref c_Kernel) "__ne__" = some (some (.builtin "object.__ne__"))
  mo_Kernel : PySem.W.mroIn K c_Kernel (.type "object") = some true
  ty_Kernel : ∀ {H : Hp} {a dx : Addr} {fs : List (Str × V)}, H a = some (.ins c_Kernel dx fs) → TyX K H (.ref a) (.ref c_Kernel)
  kt_Kernel : KitT K c_Kernel
  c_Array : Addr
  m_Array : mg "Array" = some (.ref c_Array)
  cl_Array : Cls K c_Array
  n_Array_sizes : NoAttr K c_Array "sizes"
  n_Array_entries : NoAttr K c_Array "entries"
  mk_Array : Mk K c_Array a_Array_init
  q_Array_eq : Meth K c_Array "__eq__" a_Array_eq
  ne_Array : PySem.W.findIn K (.ref c_Array) "__ne__" = some (some (.builtin "object.__ne__"))
  mo_Array : PySem.W.mroIn K c_Array (.type "object") = some true
  ty_Array : ∀ {H : Hp} {a dx : Addr} {fs : List (Str × V)}, H a = some (.ins c_Array dx fs) → TyX K H (.ref a) (.ref c_Array)
  kt_Array : KitT K c_Array
  c_Same : Addr
  m_Same : mg "Same" = some (.ref c_Same)
  cl_Same : Cls K c_Same
  n_Same_maps : NoAttr K c_Same "maps"
  mk_Same : Mk K c_Same a_Same_init
  q_Same_eq : Meth K c_Same "__eq__" a_Same_eq
  q_Same_bool : Meth K c_Same "__bool__" a_Same_bool
  ne_Same : PySem.W.findIn K (.ref c_Same) "__ne__" = some (some (.builtin "object.__ne__"))
  mo_Same : PySem.W.mroIn K c_Same (.type "object") = some true
  ty_Same : ∀ {H : Hp} {a dx : Addr} {fs : List (Str × V)}, H a = some (.ins c_Same dx fs) → TyX K H (.ref a) (.ref c_Same)
  kt_Same : KitT K c_Same
  c_Unlike : Addr
  m_Unlike : mg "Unlike" = some (.ref c_Unlike)
  cl_Unlike : Cls K c_Unlike
  n_Unlike_which : NoAttr K c_Unlike "which"
  n_Unlike_chosen : NoAttr K c_Unlike "chosen"
  n_Unlike_chances : NoAttr K c_Unlike "chances"
  mk_Unlike : Mk K c_Unlike a_Unlike_init
  q_Unlike_eq : Meth K c_Unlike "__eq__" a_Unlike_eq
  q_Unlike_bool : Meth K c_Unlike "__bool__" a_Unlike_bool
  ne_Unlike : PySem.W.findIn K (.ref c_Unlike) "__ne__" = some (some (.builtin "object.__ne__"))
  mo_Unlike : PySem.W.mroIn K c_Unlike (.type "object") = some true
  ty_Unlike : ∀ {H : Hp} {a dx : Addr} {fs : List (Str × V)}, H a = some (.ins c_Unlike dx fs) → TyX K H (.ref a) (.ref c_Unlike)
  kt_Unlike : KitT K c_Unlike
  c_Apart : Addr
  m_Apart : mg "Apart" = some (.ref c_Apart)
  cl_Apart : Cls K c_Apart
  n_Apart_table : NoAttr K c_Apart "table"
  n_Apart_chances : NoAttr K c_Apart "chances"
  mk_Apart : Mk K c_Apart a_Apart_init
  q_Apart_eq : Meth K c_Apart "__eq__" a_Apart_eq
  ne_Apart : PySem.W.findIn K (.ref c_Apart) "__ne__" = some (some (.builtin "object.__ne__"))
  mo_Apart : PySem.W.mroIn K c_Apart (.type "object") = some true
  ty_Apart : ∀ {H : Hp} {a dx : Addr} {fs : List (Str × V)}, H a = some (.ins c_Apart dx fs) → TyX K H (.ref a) (.ref c_Apart)
  kt_Apart : KitT K c_Apart
  c_Within : Addr
  m_Within : mg "Within" = some (.ref c_Within)
  cl_Within : Cls K c_Within
  mk0_Within : Mk0 K c_Within
  q_Within_eq : Meth K c_Within "__eq__" a_Within_eq
  q_Within_bool : Meth K c_Within "__bool__" a_Within_bool
  ne_Within : PySem.W.findIn K (.ref c_Within) "__ne__" = some (some (.builtin "object.__ne__"))
  mo_Within : PySem.W.mroIn K c_Within (.type "object") = some true
  ty_Within : ∀ {H : Hp} {a dx : Addr} {fs : List (Str × V)}, H a = some (.ins c_Within dx fs) → TyX K H (.ref a) (.ref c_Within)
  kt_Within : KitT K c_Within
  c_Outside : Addr
  m_Outside : mg "Outside" = some (.ref c_Outside)
  cl_Outside : Cls K c_Outside
  n_Outside_row : NoAttr K c_Outside "row"
  n_Outside_draws : NoAttr K c_Outside "draws"
  mk_Outside : Mk K c_Outside a_Outside_init
  q_Outside_eq : Meth K c_Outside "__eq__" a_Outside_eq
  q_Outside_bool : Meth K c_Outside "__bool__" a_Outside_bool
  ne_Outside : PySem.W.findIn K (.ref c_Outside) "__ne__" = some (some (.builtin "object.__ne__"))
  mo_Outside : PySem.W.mroIn K c_Outside (.type "object") = some true
  ty_Outside : ∀ {H : Hp} {a dx : Addr} {fs : List (Str × V)}, H a = some (.ins c_Outside dx fs) → TyX K H (.ref a) (.ref c_Outside)
  kt_Outside : KitT K c_Outside
  c_Cheapest : Addr
  m_Cheapest : mg "Cheapest" = some (.ref c_Cheapest)
  cl_Cheapest : Cls K c_Cheapest
  n_Cheapest_number : NoAttr K c_Cheapest "number"
  n_Cheapest_paper : NoAttr K c_Cheapest "paper"
  n_Cheapest_against : NoAttr K c_Cheapest "against"
  mk_Cheapest : Mk K c_Cheapest a_Cheapest_init
  q_Cheapest_eq : Meth K c_Cheapest "__eq__" a_Cheapest_eq
  q_Cheapest_bool : Meth K c_Cheapest "__bool__" a_Cheapest_bool
  ne_Cheapest : PySem.W.findIn K (.ref c_Cheapest) "__ne__" = some (some (.builtin "object.__ne__"))
  mo_Cheapest : PySem.W.mroIn K c_Cheapest (.type "object") = some true
  ty_Cheapest : ∀ {H : Hp} {a dx : Addr} {fs : List (Str × V)}, H a = some (.ins c_Cheapest dx fs) → TyX K H (.ref a) (.ref c_Cheapest)
  kt_Cheapest : KitT K c_Cheapest
  ys_Same_Unlike : PySem.W.subIn K (.ref c_Same) (.ref c_Unlike) = some false
  ys_Same_Apart : PySem.W.subIn K (.ref c_Same) (.ref c_Apart) = some false
  ys_Same_Within : PySem.W.subIn K (.ref c_Same) (.ref c_Within) = some false
  ys_Same_Outside : PySem.W.subIn K (.ref c_Same) (.ref c_Outside) = some false
  ys_Same_Cheapest : PySem.W.subIn K (.ref c_Same) (.ref c_Cheapest) = some false
  ys_Same_Array : PySem.W.subIn K (.ref c_Same) (.ref c_Array) = some false
  ys_Same_Kernel : PySem.W.subIn K (.ref c_Same) (.ref c_Kernel) = some false
  ys_Unlike_Same : PySem.W.subIn K (.ref c_Unlike) (.ref c_Same) = some false
  ys_Unlike_Apart : PySem.W.subIn K (.ref c_Unlike) (.ref c_Apart) = some false
  ys_Unlike_Within : PySem.W.subIn K (.ref c_Unlike) (.ref c_Within) = some false
  ys_Unlike_Outside : PySem.W.subIn K (.ref c_Unlike) (.ref c_Outside) = some false
  ys_Unlike_Cheapest : PySem.W.subIn K (.ref c_Unlike) (.ref c_Cheapest) = some false
  ys_Unlike_Array : PySem.W.subIn K (.ref c_Unlike) (.ref c_Array) = some false
  ys_Unlike_Kernel : PySem.W.subIn K (.ref c_Unlike) (.ref c_Kernel) = some false
  ys_Apart_Same : PySem.W.subIn K (.ref c_Apart) (.ref c_Same) = some false
  ys_Apart_Unlike : PySem.W.subIn K (.ref c_Apart) (.ref c_Unlike) = some false
  ys_Apart_Within : PySem.W.subIn K (.ref c_Apart) (.ref c_Within) = some false
  ys_Apart_Outside : PySem.W.subIn K (.ref c_Apart) (.ref c_Outside) = some false
  ys_Apart_Cheapest : PySem.W.subIn K (.ref c_Apart) (.ref c_Cheapest) = some false
  ys_Apart_Array : PySem.W.subIn K (.ref c_Apart) (.ref c_Array) = some false
  ys_Apart_Kernel : PySem.W.subIn K (.ref c_Apart) (.ref c_Kernel) = some false
  ys_Within_Same : PySem.W.subIn K (.ref c_Within) (.ref c_Same) = some false
  ys_Within_Unlike : PySem.W.subIn K (.ref c_Within) (.ref c_Unlike) = some false
  ys_Within_Apart : PySem.W.subIn K (.ref c_Within) (.ref c_Apart) = some false
  ys_Within_Outside : PySem.W.subIn K (.ref c_Within) (.ref c_Outside) = some false
  ys_Within_Cheapest : PySem.W.subIn K (.ref c_Within) (.ref c_Cheapest) = some false
  ys_Within_Array : PySem.W.subIn K (.ref c_Within) (.ref c_Array) = some false
  ys_Within_Kernel : PySem.W.subIn K (.ref c_Within) (.ref c_Kernel) = some false
  ys_Outside_Same : PySem.W.subIn K (.ref c_Outside) (.ref c_Same) = some false
  ys_Outside_Unlike : PySem.W.subIn K (.ref c_Outside) (.ref c_Unlike) = some false
  ys_Outside_Apart : PySem.W.subIn K (.ref c_Outside) (.ref c_Apart) = some false
  ys_Outside_Within : PySem.W.subIn K (.ref c_Outside) (.ref c_Within) = some false
  ys_Outside_Cheapest : PySem.W.subIn K (.ref c_Outside) (.ref c_Cheapest) = some false
  ys_Outside_Array : PySem.W.subIn K (.ref c_Outside) (.ref c_Array) = some false
  ys_Outside_Kernel : PySem.W.subIn K (.ref c_Outside) (.ref c_Kernel) = some false
  ys_Cheapest_Same : PySem.W.subIn K (.ref c_Cheapest) (.ref c_Same) = some false
  ys_Cheapest_Unlike : PySem.W.subIn K (.ref c_Cheapest) (.ref c_Unlike) = some false
  ys_Cheapest_Apart : PySem.W.subIn K (.ref c_Cheapest) (.ref c_Apart) = some false
  ys_Cheapest_Within : PySem.W.subIn K (.ref c_Cheapest) (.ref c_Within) = some false
  ys_Cheapest_Outside : PySem.W.subIn K (.ref c_Cheapest) (.ref c_Outside) = some false
  ys_Cheapest_Array : PySem.W.subIn K (.ref c_Cheapest) (.ref c_Array) = some false
  ys_Cheapest_Kernel : PySem.W.subIn K (.ref c_Cheapest) (.ref c_Kernel) = some false
  ys_Array_Same : PySem.W.subIn K (.ref c_Array) (.ref c_Same) = some false
  ys_Array_Unlike : PySem.W.subIn K (.ref c_Array) (.ref c_Unlike) = some false
  ys_Array_Apart : PySem.W.subIn K (.ref c_Array) (.ref c_Apart) = some false
  ys_Array_Within : PySem.W.subIn K (.ref c_Array) (.ref c_Within) = some false
  ys_Array_Outside : PySem.W.subIn K (.ref c_Array) (.ref c_Outside) = some false
  ys_Array_Cheapest : PySem.W.subIn K (.ref c_Array) (.ref c_Cheapest) = some false
  ys_Array_Kernel : PySem.W.subIn K (.ref c_Array) (.ref c_Kernel) = some false
  ys_Kernel_Same : PySem.W.subIn K (.ref c_Kernel) (.ref c_Same) = some false
  ys_Kernel_Unlike : PySem.W.subIn K (.ref c_Kernel) (.ref c_Unlike) = some false
  ys_Kernel_Apart : PySem.W.subIn K (.ref c_Kernel) (.ref c_Apart) = some false
  ys_Kernel_Within : PySem.W.subIn K (.ref c_Kernel) (.ref c_Within) = some false
  ys_Kernel_Outside : PySem.W.subIn K (.ref c_Kernel) (.ref c_Outside) = some false
  ys_Kernel_Cheapest : PySem.W.subIn K (.ref c_Kernel) (.ref c_Cheapest) = some false
  ys_Kernel_Array : PySem.W.subIn K (.ref c_Kernel) (.ref c_Array) = some false
  c_SieveError : Addr
  m_SieveError : mg "SieveError" = some (.ref c_SieveError)
  r_SieveError : ClX.CRead K c_SieveError (.type "type")
  i_SieveError : PySem.W.findCls K (.ref c_SieveError) (.type "type") "__init__" = some (.val (.builtin "ValueError.__init__"))
  c_BadColumns : Addr
  m_BadColumns : mg "BadColumns" = some (.ref c_BadColumns)
  x_BadColumns : OexC K c_BadColumns
  xi_BadColumns : PySem.W.findIn K (.ref c_BadColumns) "__init__" = some (some (.ref a_BadColumns_init))
  xt_BadColumns : PySem.W.typeIn K (.ref a_BadColumns_init) = some (.type "function")
  xn_BadColumns : PySem.W.findIn K (.ref c_BadColumns) "part" = some none
  xf_BadColumns : XfC K c_BadColumns
  xm_BadColumns : PySem.W.exmOne K (.ref c_BadColumns) (.ref c_BadColumns) = some true
  xe_BadColumns : ExcC K c_BadColumns
  xk_BadColumns : PySem.W.kitOne K (.ref c_BadColumns) (.ref c_SieveError) = some true
  c_BadTable : Addr
  m_BadTable : mg "BadTable" = some (.ref c_BadTable)
  x_BadTable : OexC K c_BadTable
  xi_BadTable : PySem.W.findIn K (.ref c_BadTable) "__init__" = some (some (.ref a_BadTable_init))
  xt_BadTable : PySem.W.typeIn K (.ref a_BadTable_init) = some (.type "function")
  xn_BadTable : PySem.W.findIn K (.ref c_BadTable) "number" = some none
  xf_BadTable : XfC K c_BadTable
  xm_BadTable : PySem.W.exmOne K (.ref c_BadTable) (.ref c_BadTable) = some true
  xe_BadTable : ExcC K c_BadTable
  xk_BadTable : PySem.W.kitOne K (.ref c_BadTable) (.ref c_SieveError) = some true
  yv_BadColumns : PySem.W.kitOne K (.ref c_BadColumns) (.type "ValueError") = some true
  yz_BadColumns_BadTable : PySem.W.exmOne K (.ref c_BadColumns) (.ref c_BadTable) = some false
  yv_BadTable : PySem.W.kitOne K (.ref c_BadTable) (.type "ValueError") = some true
  yz_BadTable_BadColumns : PySem.W.exmOne K (.ref c_BadTable) (.ref c_BadColumns) = some false
/-! ### drawn numbers -/
/-- the script: a list that is locked, or one of the module's own -/
def SqF (K : PySem.W.Frag) (H : Hp) (a : Addr) (xs : List V) : Prop := (∃ o, H a = some (.frz o (.lst xs))) ∨ ∀ H' : Hp, SqL K H' a xs
theorem SqF.sq {K : PySem.W.Frag} {H : Hp} {a : Addr} {xs : List V} (h : SqF K H a xs) : SqL K H a xs := by
  rcases h with ⟨o, h⟩ | h
  · exact .inl (.inr ⟨o, h⟩)
  · exact h H
theorem SqF.same {K : PySem.W.Frag} {H H' : Hp} {a : Addr} {xs : List V} (h : SqF K H a xs) (e : Same H H') : SqF K H' a xs := by
  rcases h with ⟨o, h⟩ | h
  · exact .inl ⟨o, e _ _ h⟩
  · exact .inr h
theorem SqF.only {K : PySem.W.Frag} {H : Hp} {a : Addr} {xs : List V} (hO : Only H) (h : SqL K H a xs) : SqF K H a xs := by
  rcases h with (h | ⟨o, h⟩) | h
  · rcases hO a with z | ⟨o, ys, z⟩
    · rw [h] at z
      cases z
    · rw [h] at z
      cases z
  · exact .inl ⟨o, h⟩
  · exact .inr fun _ => .inr h
/-- at d stands [the script, how many were drawn] -/
def Drw (K : PySem.W.Frag) (H : Hp) (d : Addr) : Prop := ∃ (a : Addr) (ns : List Int) (i : Int), H d = some (.lst [.ref a, .int i]) ∧ SqF K H a (ns.map V.int) ∧ ns.length ≤ 63
/-- all that was tracked but what stands at d is as it was -/
def But (d : Addr) (H H' : Hp) : Prop := ∀ b o, b ≠ d → H b = some o → H' b = some o
theorem But.refl (d : Addr) (H : Hp) : But d H H := fun _ _ _ h => h
theorem But.trans {d : Addr} {H H1 H2 : Hp} (a : But d H H1) (b : But d H1 H2) : But d H H2 := fun c o n h => b c o n (a c o n h)
theorem But.same {d : Addr} {H H1 H2 : Hp} (a : But d H H1) (b : Same H1 H2) : But d H H2 := fun c o n h => b c o (a c o n h)
theorem Same.but {d : Addr} {H H1 : Hp} (a : Same H H1) : But d H H1 := fun c o _ h => a c o h
theorem same_new {H : Hp} {p : Addr} (h : H p = none) (o : HO) : Same H (upd H p o) := fun b u q => by rw [upd_ne (ne_of_none q h)]; exact q
theorem Drw.same {K : PySem.W.Frag} {H H' : Hp} {d : Addr} (h : Drw K H d) (e : Same H H') : Drw K H' d := by
  obtain ⟨a, ns, i, h1, h2, h3⟩ := h
  exact ⟨a, ns, i, e _ _ h1, h2.same e, h3⟩
/-- a change of a list leaves the script -/
theorem SqF.but {K : PySem.W.Frag} {H H' : Hp} {d a : Addr} {xs ys : List V} (h : SqF K H a xs) (hd : H d = some (.lst ys)) (e : But d H H') : SqF K H' a xs := by
  rcases h with ⟨o, h⟩ | h
  · exact .inl ⟨o, e _ _ (ne_of h hd (by intro z; cases z)) h⟩
  · exact .inr h
theorem Drw.but {K : PySem.W.Frag} {H H' : Hp} {d p : Addr} {ys : List V} (h : Drw K H d) (hp : H p = some (.lst ys)) (n : d ≠ p) (e : But p H H') : Drw K H' d := by
  obtain ⟨a, ns, i, h1, h2, h3⟩ := h
  exact ⟨a, ns, i, e _ _ n h1, h2.but hp e, h3⟩
def sp_number (K : PySem.W.Frag) : Sp := fun vs H Q _ => ∃ (a : Addr) (ns : List Int) (i : Int), vs = [.ref a, .int i] ∧ SqL K H a (ns.map V.int) ∧ ns.length ≤ 63 ∧ ∀ (n : Int) (H' : Hp), Same H H' → Q (.int n) H'
def sp_take (K : PySem.W.Frag) : Sp := fun vs H Q _ => ∃ (d : Addr) (m : Int), vs = [.ref d, .int m] ∧ Drw K H d ∧ 0 < m ∧ ∀ (r : Int) (H' : Hp), 0 ≤ r → r < m → Drw K H' d → But d H H' → Q (.int r) H'
/-- a list that is not the draw's, or a tuple -/
def SqD (K : PySem.W.Frag) (d : Addr) (H : Hp) (p : Addr) (xs : List V) : Prop := (SqL K H p xs ∧ p ≠ d) ∨ SqT K H p xs
def sp_pick (K : PySem.W.Frag) : Sp := fun vs H Q _ => ∃ (d p : Addr) (xs : List V), vs = [.ref d, .ref p] ∧ Drw K H d ∧ SqD K d H p xs ∧ 0 < xs.length ∧ ∀ (j : Nat) (x : V) (H' : Hp), xs[j]? = some x → Drw K H' d → But d H H' → Q x H'
theorem But.seq {K : PySem.W.Frag} {H H' : Hp} {d a : Addr} {xs : List V} (e : But d H H') (n : a ≠ d) (h : SqL K H a xs) : SqL K H' a xs := by
  rcases h with (h | ⟨o, h⟩) | h
  · exact .inl (.inl (e _ _ n h))
  · exact .inl (.inr ⟨o, e _ _ n h⟩)
  · exact .inr h
theorem But.tup {K : PySem.W.Frag} {H H' : Hp} {d a : Addr} {xs ys : List V} (e : But d H H') (hd : H d = some (.lst ys)) (h : SqT K H a xs) : SqT K H' a xs := by
  rcases h with (h | ⟨o, h⟩) | h
  · exact .inl (.inl (e _ _ (ne_of h hd (by intro z; cases z)) h))
  · exact .inl (.inr ⟨o, e _ _ (ne_of h hd (by intro z; cases z)) h⟩)
  · exact .inr h
theorem dp_ints {K : PySem.W.Frag} {H : Hp} : ∀ ns : List Int, DpAll K H (ns.map V.int) (ns.map PyData.int)
  | [] => .nil
  | n :: r => .cons (.int n) (dp_ints r)

end My
set_option Elab.async false
set_option linter.all false
set_option maxRecDepth 100000
set_option maxHeartbeats 400000
namespace My
open PySem L2 PySem.Spec PyProof.Rows
section
variable {P : Program} {w : World} {K : PySem.W.Frag} {mg : Str → Option Value} {base : Heap}
/-! ### data and their types -/
def typN : PyData → String
  | .none => "NoneType"
  | .bool _ => "bool"
  | .int _ => "int"
  | .str _ => "str"
  | .list _ => "list"
  | .tuple _ => "tuple"
  | .dict _ => "dict"
theorem ty_tup {K : PySem.W.Frag} {H : Hp} {a : Addr} {xs : List V} (h : SqT K H a xs) : TyX K H (.ref a) (.type "tuple") := by
  rcases h with (h | ⟨o, h⟩) | ⟨o, _, _, h, c, _⟩
  · exact .base (.tup h)
  · exact .fTuple h
  · exact .kTuple h c
theorem ty_lst {K : PySem.W.Frag} {H : Hp} {a : Addr} {xs : List V} (h : SqL K H a xs) : TyX K H (.ref a) (.type "list") := by
  rcases h with (h | ⟨o, h⟩) | ⟨o, _, _, h, c, _⟩
  · exact .base (.lst h)
  · exact .base (.frz h)
  · exact .kList h c
theorem dp_ty {K : PySem.W.Frag} {H : Hp} {v : V} {d : PyData} (h : Dp K H v d) : TyX K H v (.type (typN d)) := by
  cases h with
  | non => exact .base .non
  | bl b => exact .base (.bl b)
  | int i => exact .base (.int i)
  | str x => exact .base (.str x)
  | lst h _ => exact ty_lst h
  | tup h _ => exact ty_tup h
theorem Same.tup {K : PySem.W.Frag} {H H' : Hp} {a : Addr} {xs : List V} (e : Same H H') (h : SqT K H a xs) : SqT K H' a xs := by
  rcases h with (h | ⟨o, h⟩) | h
  · exact .inl (.inl (e _ _ h))
  · exact .inl (.inr ⟨o, e _ _ h⟩)
  · exact .inr h
mutual
theorem dp_same {K : PySem.W.Frag} {H H' : Hp} (e : Same H H') : ∀ (d : PyData) (v : V), Dp K H v d → Dp K H' v d
  | .none, _, h => by cases h; exact .non
  | .bool b, _, h => by cases h; exact .bl b
  | .int i, _, h => by cases h; exact .int i
  | .str x, _, h => by cases h; exact .str x
  | .list ds, _, h => by
    cases h with
    | lst h a => exact .lst (e.seq h) (dps_same e ds _ a)
  | .tuple ds, _, h => by
    cases h with
    | tup h a => exact .tup (Same.tup e h) (dps_same e ds _ a)
  | .dict _, _, h => by cases h
theorem dps_same {K : PySem.W.Frag} {H H' : Hp} (e : Same H H') : ∀ (ds : List PyData) (vs : List V), DpAll K H vs ds → DpAll K H' vs ds
  | [], _, h => by cases h; exact .nil
  | d :: ds, _, h => by
    cases h with
    | cons a b => exact .cons (dp_same e d _ a) (dps_same e ds _ b)
end
theorem dps_len {K : PySem.W.Frag} {H : Hp} : ∀ {vs : List V} {ds : List PyData}, DpAll K H vs ds → vs.length = ds.length
  | _, _, .nil => rfl
  | _, _, .cons _ b => by rw [List.length_cons, List.length_cons, dps_len b]
theorem dps_get {K : PySem.W.Frag} {H : Hp} : ∀ {vs : List V} {ds : List PyData} {i : Nat} {d : PyData}, DpAll K H vs ds → ds[i]? = some d → ∃ v, vs[i]? = some v ∧ Dp K H v d
  | _, _, _, _, .nil, h => by simp at h
  | _, _, 0, _, .cons a _, h => ⟨_, rfl, by cases h; exact a⟩
  | _, _, i + 1, _, .cons _ b, h => by
    obtain ⟨v, h1, h2⟩ := dps_get (i := i) b (by simpa using h)
    exact ⟨v, by simpa using h1, h2⟩
theorem dp_int {K : PySem.W.Frag} {H : Hp} {v : V} {i : Int} (h : Dp K H v (.int i)) : v = .int i := by cases h; rfl
theorem dp_str {K : PySem.W.Frag} {H : Hp} {v : V} {x : Str} (h : Dp K H v (.str x)) : v = .str x := by cases h; rfl
theorem dp_bl {K : PySem.W.Frag} {H : Hp} {v : V} {x : Bool} (h : Dp K H v (.bool x)) : v = .bl x := by cases h; rfl
theorem dp_non {K : PySem.W.Frag} {H : Hp} {v : V} (h : Dp K H v .none) : v = .non := by cases h; rfl
/-! ### what is a whole number, near, a row, a name, a fraction, a threshold, a short string: by data -/
def wholeD : PyData → Bool
  | .int _ => true
  | _ => false
def nearI (i : Int) : Bool := decide (-1000000 ≤ i) && decide (i ≤ 1000000)
def nearD : PyData → Bool
  | .int i => nearI i
  | _ => false
def resL : List Str := ["row", "block", "hash", "not", "and", "or", "all", "none", "like"]
def letL : Str := "abcdefghijklmnopqrstuvwxyz"
def nameB (s : Str) : Bool := decide (1 ≤ s.length) && decide (s.length ≤ 8) && !resL.contains s && s.cps.toList.all fun c => decide (c ∈ letL.cps.toList)
def nameD : PyData → Bool
  | .str s => nameB s
  | _ => false
def fracD : PyData → Bool
  | .tuple [.int a, .int b] => decide (1 ≤ b) && decide (((Nat.gcd a.natAbs b.natAbs : Nat) : Int) = 1)
  | _ => false
def chanceD : PyData → Bool
  | .tuple [.int a, .int b] => fracD (.tuple [.int a, .int b]) && (decide (0 ≤ a) && decide (a ≤ b) && decide (b ≤ 1000))
  | _ => false
def shortD : PyData → Bool
  | .str s => decide (s.length ≤ 12) && !decide (10 ∈ s.cps.toList)
  | _ => false
def sp_whole (K : PySem.W.Frag) : Sp := fun vs H Q _ => ∃ (x : V) (d : PyData), vs = [x] ∧ Dp K H x d ∧ Q (.bl (wholeD d)) H
theorem ok_is_whole (T : Txt K mg) : FnOk P w K mg base CX0 1 T.a_is_whole T.d_is_whole ["value"] (sp_whole K) := by
  refine T.F_is_whole.ok sc_is_whole (fun vs H Q E h => ?_) (fun cdv A outer s H vs Q E hr h => ?_)
  · obtain ⟨x, b, rfl, _⟩ := h
    rfl
  obtain ⟨x, d, rfl, hd, k⟩ := h
  refine ⟨_, (pss_one (ps_ret (pe_and (pe_callB call_isi (by rfl) T.z_isinstance (by decide +kernel) (pa_cons (pv 0) (pa_cons (pe_bltn (v := .ty "int") (by rfl) T.z_int (by decide +kernel) rfl) pa_nil))) (pe_one (pe_not (pe_callB call_isi (by rfl) T.z_isinstance (by decide +kernel) (pa_cons (pv 0) (pa_cons (pe_bltn (v := .ty "bool") (by rfl) T.z_bool (by decide +kernel) rfl) pa_nil)))))))), ?_⟩
  have ty := dp_ty hd
  cases d with
  | int i => exact ⟨_, rfl, x, .ty "int", .type "int", .type "int", true, rfl, .ty _, ty, kit_ty (by decide +kernel), _, rfl, iteT ⟨_, rfl, x, .ty "bool", .type "int", .type "bool", false, rfl, .ty _, ty, kit_ty (by decide +kernel), _, rfl, k⟩⟩
  | bool i => exact ⟨_, rfl, x, .ty "int", .type "bool", .type "int", true, rfl, .ty _, ty, kit_ty (by decide +kernel), _, rfl, iteT ⟨_, rfl, x, .ty "bool", .type "bool", .type "bool", true, rfl, .ty _, ty, kit_ty (by decide +kernel), _, rfl, k⟩⟩
  | str i => exact ⟨_, rfl, x, .ty "int", .type "str", .type "int", false, rfl, .ty _, ty, kit_ty (by decide +kernel), _, rfl, iteF k⟩
  | none => exact ⟨_, rfl, x, .ty "int", .type "NoneType", .type "int", false, rfl, .ty _, ty, kit_ty (by decide +kernel), _, rfl, iteF k⟩
  | list ds => exact ⟨_, rfl, x, .ty "int", .type "list", .type "int", false, rfl, .ty _, ty, kit_ty (by decide +kernel), _, rfl, iteF k⟩
  | tuple ds => exact ⟨_, rfl, x, .ty "int", .type "tuple", .type "int", false, rfl, .ty _, ty, kit_ty (by decide +kernel), _, rfl, iteF k⟩
  | dict ds => cases hd
def betD (lo hi : Int) : PyData → Bool
  | .int i => decide (lo ≤ i) && decide (i ≤ hi)
  | _ => false
def sp_between (K : PySem.W.Frag) : Sp := fun vs H Q _ => ∃ (x : V) (d : PyData) (lo hi : Int), vs = [x, .int lo, .int hi] ∧ Dp K H x d ∧ Q (.bl (betD lo hi d)) H
theorem ok_is_between (T : Txt K mg) : FnOk P w K mg base CX0 2 T.a_is_between T.d_is_between ["value", "low", "high"] (sp_between K) := by
  have G_is_whole := ok_is_whole (P := P) (w := w) (base := base) T
  refine T.F_is_between.ok sc_is_between (fun vs H Q E h => ?_) (fun cdv A outer s H vs Q E hr h => ?_)
  · obtain ⟨x, b, lo, hi, rfl, _⟩ := h
    rfl
  obtain ⟨x, d, lo, hi, rfl, hd, k⟩ := h
  refine ⟨_, (pss_one (ps_ret (pe_and (pe_call G_is_whole (hr.mono (by first | decide | omega)) (by rfl) T.m_is_whole T.F_is_whole.kp T.b_is_whole .nil pass0 (pa_cons (pv 0) pa_nil)) (pe_one (pe_chain op_le op_le (pv 1) (pv 0) (pv 2)))))), ?_⟩
  refine ⟨_, rfl, x, d, rfl, hd, _, rfl, ?_⟩
  cases d with
  | int i =>
    obtain rfl := dp_int hd
    refine iteT ⟨_, rfl, _, rfl, _, _, rfl, rfl, _, rfl, ?_⟩
    have k' : Q (.bl (decide (lo ≤ i) && decide (i ≤ hi))) H := k
    refine ite2 (fun c => ?_) (fun c => ?_)
    · rw [c, Bool.true_and] at k'
      exact ⟨_, rfl, _, _, rfl, rfl, k'⟩
    · rw [Bool.eq_false_iff.mpr c, Bool.false_and] at k'
      exact k'
  | dict ds => cases hd
  | _ => exact iteF k
theorem near_bet (d : PyData) : betD (-1000000) 1000000 d = nearD d := by
  cases d <;> rfl
def sp_near (K : PySem.W.Frag) : Sp := fun vs H Q _ => ∃ (x : V) (d : PyData), vs = [x] ∧ Dp K H x d ∧ Q (.bl (nearD d)) H
theorem ok_is_near (T : Txt K mg) : FnOk P w K mg base CX0 3 T.a_is_near T.d_is_near ["value"] (sp_near K) := by
  have G_is_between := ok_is_between (P := P) (w := w) (base := base) T
  refine T.F_is_near.ok sc_is_near (fun vs H Q E h => ?_) (fun cdv A outer s H vs Q E hr h => ?_)
  · obtain ⟨x, b, rfl, _⟩ := h
    rfl
  obtain ⟨x, d, rfl, hd, k⟩ := h
  refine ⟨_, (pss_one (ps_ret (pe_call G_is_between (hr.mono (by first | decide | omega)) (by rfl) T.m_is_between T.F_is_between.kp T.b_is_between .nil pass0 (pa_cons (pv 0) (pa_cons (pe_un un_neg (pe_glob (v := .int 1000000) (by rfl) T.m_FAR ⟨_, rfl⟩)) (pa_cons (pe_glob (v := .int 1000000) (by rfl) T.m_FAR ⟨_, rfl⟩) pa_nil)))))), ?_⟩
  refine ⟨_, rfl, _, rfl, x, d, _, _, rfl, hd, ?_⟩
  have e := near_bet d
  rw [show (-(1000000 : Int)) = -1000000 from rfl]
  rw [e]
  exact k

end
end My
set_option Elab.async false
set_option linter.all false
set_option maxRecDepth 100000
set_option maxHeartbeats 400000
namespace My
open PySem L2 PySem.Spec PyProof.Rows
section
variable {P : Program} {w : World} {K : PySem.W.Frag} {mg : Str → Option Value} {base : Heap}
theorem str_in {s : Str} : ∀ l : List Str, inV (.str s) (l.map V.str) = l.contains s
  | [] => rfl
  | a :: l => by
    have ih := str_in (s := s) l
    have e : eqV (V.str a) (V.str s) = (s == a) := by
      show (a == s) = (s == a)
      exact BEq.comm
    unfold inV at ih ⊢
    rw [List.map_cons, List.any_cons, List.contains_cons, ih, e]
theorem flat_str : ∀ l : List Str, (l.map V.str).all flatV = true
  | [] => rfl
  | _ :: l => by
    rw [List.map_cons, List.all_cons, flat_str l]
    rfl
theorem res_str : ([.str "row", .str "block", .str "hash", .str "not", .str "and", .str "or", .str "all", .str "none", .str "like"] : List V) = resL.map V.str := rfl
/-- a text, if it is one, is not too long -/
def StrOk (d : PyData) : Prop := ∀ s, d = .str s → s.length ≤ 1000
def sp_name (K : PySem.W.Frag) : Sp := fun vs H Q _ => ∃ (x : V) (d : PyData), vs = [x] ∧ Dp K H x d ∧ StrOk d ∧ ∀ H', Same H H' → Q (.bl (nameD d)) H'
theorem not_str {K : PySem.W.Frag} {H : Hp} {x : V} {d : PyData} (h : Dp K H x d) (n : ∀ s, d ≠ .str s) : TyX K H x (.type (typN d)) ∧ kitB (typN d) "str" = some false := by
  refine ⟨dp_ty h, ?_⟩
  cases d with
  | str s => exact absurd rfl (n s)
  | dict _ => cases h
  | none =>
    show kitB "NoneType" "str" = some false
    decide +kernel
  | bool _ =>
    show kitB "bool" "str" = some false
    decide +kernel
  | int _ =>
    show kitB "int" "str" = some false
    decide +kernel
  | list _ =>
    show kitB "list" "str" = some false
    decide +kernel
  | tuple _ =>
    show kitB "tuple" "str" = some false
    decide +kernel
theorem ok_is_name (T : Txt K mg) : FnOk P w K mg base CX0 1 T.a_is_name T.d_is_name ["value"] (sp_name K) := by
  refine T.F_is_name.ok sc_is_name (fun vs H Q E h => ?_) (fun cdv A outer s H vs Q E hr h => ?_)
  · obtain ⟨x, b, rfl, _⟩ := h
    rfl
  obtain ⟨x, d, rfl, hd, ok, k⟩ := h
  refine ⟨_, (pss_cons (ps_if (PW.pt (pw_or (pt_not (pt_val (pe_callB call_isi (by rfl) T.z_isinstance (by decide +kernel) (pa_cons (pv 0) (pa_cons (pe_bltn (v := .ty "str") (by rfl) T.z_str (by decide +kernel) rfl) pa_nil))))) (pw_or1 (pt_not (pt_chain op_le op_le pe_int (pe_callB call_len_str (by rfl) T.z_len (by decide +kernel) (pa_cons (pv 0) pa_nil)) (pe_glob (v := .int 8) (by rfl) T.m_LONGEST_NAME ⟨_, rfl⟩)))))) (pss_one (ps_ret pe_bl)) pss_nil)
    (pss_one (ps_ret (pe_and (pe_cmpR op_notIn_seq (pv 0) (pe_glob (v := .ref T.a_RESERVED) (by rfl) T.m_RESERVED rfl) (by with_unfolding_all rfl)) (pe_one (pe_callB (cr_all rfl) (by rfl) T.z_all (by decide +kernel) (pa_cons (pe_lc (own := [("sign", 1)]) rfl sc_is_name.nd (pi_str (pv 0)) (blkOk_by (own := [("sign", 1)]) (N := ["value", "sign"]) (sc := defScope s_is_name) (by decide +kernel)) (fun _ _ _ _ _ => (pg_name (i := 1) sc_is_name.nd rfl (by first | exact Or.inl rfl | exact Or.inr rfl))) (fun _ _ _ _ _ => pts_nil) (fun _ _ _ _ _ => (pe_cmpR op_in_sign (pv 1) (pe_glob (v := .str "abcdefghijklmnopqrstuvwxyz") (by rfl) T.m_LETTERS ⟨_, rfl⟩) (by with_unfolding_all rfl)))) pa_nil))))))), ?_⟩
  by_cases hs : ∀ s, d ≠ .str s
  · obtain ⟨ty, kb⟩ := not_str hd hs
    have e : nameD d = false := by
      cases d with
      | str s => exact absurd rfl (hs s)
      | _ => rfl
    have k' := k H (Same.refl _)
    rw [e] at k'
    exact ⟨_, rfl, x, .ty "str", _, .type "str", false, rfl, .ty _, ty, kit_ty kb, _, rfl, iteT k'⟩
  obtain ⟨z, rfl⟩ : ∃ z, d = .str z := by
    cases d with
    | str z => exact ⟨z, rfl⟩
    | _ => exact absurd (fun s q => by cases q) hs
  obtain rfl := dp_str hd
  have hz := ok z rfl
  have hline : z.length ≤ sizeLine := Nat.le_of_lt (small1000 hz)
  have kk : ∀ H', Same H H' → Q (.bl (nameB z)) H' := k
  unfold nameB at kk
  -- the two tests
  refine seq_cut (fun σ' H' => σ' = [some (.str z), none] ∧ H' = H ∧ 1 ≤ z.length ∧ z.length ≤ 8) ?_ (fun tail => ?_)
  rotate_left
  · refine ⟨_, rfl, .str z, .ty "str", .type "str", .type "str", true, rfl, .ty _, .base (.str z), kit_ty (by decide +kernel), _, rfl, ?_⟩
    refine iteF ⟨_, rfl, z, rfl, hline, _, _, rfl, rfl, _, rfl, ?_⟩
    have kH := kk H (Same.refl _)
    by_cases c1 : 1 ≤ z.length
    · rw [decide_eq_true (show (1 : Int) ≤ ((z.length : Nat) : Int) by omega)]
      refine iteT ⟨_, _, rfl, rfl, _, rfl, ?_⟩
      by_cases c2 : z.length ≤ 8
      · rw [decide_eq_true (show ((z.length : Nat) : Int) ≤ 8 by omega)]
        exact iteF (tail _ _ ⟨rfl, rfl, c1, c2⟩)
      · rw [decide_eq_false (show ¬ ((z.length : Nat) : Int) ≤ 8 by omega)]
        rw [decide_eq_false c2, Bool.and_false, Bool.false_and, Bool.false_and] at kH
        exact iteT kH
    · rw [decide_eq_false (show ¬ (1 : Int) ≤ ((z.length : Nat) : Int) by omega)]
      rw [decide_eq_false c1, Bool.false_and, Bool.false_and, Bool.false_and] at kH
      exact iteF ⟨_, rfl, iteT kH⟩
  rintro σ' H' ⟨rfl, rfl, c1, c2⟩
  rw [decide_eq_true c1, decide_eq_true c2, Bool.true_and, Bool.true_and] at kk
  refine ⟨_, rfl, _, _, rfl, .inr (T.q_RESERVED _), rfl, (by rw [res_str]; exact flat_str _), _, rfl, ?_⟩
  rw [res_str, str_in]
  refine ite2 (fun c => ?_) (fun c => ?_)
  rotate_left
  · have c' : resL.contains z = true := by
      have c2 := Bool.eq_false_iff.mpr c
      simpa using c2
    have kH := kk H' (Same.refl _)
    rw [c', Bool.not_true, Bool.false_and] at kH
    exact kH
  have c' : (!resL.contains z) = true := c
  rw [c', Bool.true_and] at kk
  refine ⟨_, rfl, z, rfl, fun D hD => ?_⟩
  have hn : z.cps.size ≤ 1000 := hz
  refine lc_it (walk_str (z := z)) (fun i H2 => (∀ b o, b ≠ D → H' b = some o → H2 b = some o) ∧ H2 D = some (.lst ((z.cps.toList.take i).map fun c => V.bl (decide (c ∈ letL.cps.toList))))) ⟨fun b o n e => by rw [upd_ne n]; exact e, upd_same⟩ (fun _ _ _ _ => trivial) ?_ ?_
  · rintro i x H2 H3 hi ⟨g, e⟩ ⟨rfl, c, hc, rfl⟩
    refine ⟨rfl, _, rfl, c, letL, rfl, rfl, _, e, ?_, ?_, ?_⟩
    · rw [List.length_map, List.length_take]
      exact Nat.lt_of_le_of_lt (Nat.min_le_left _ _) (small1000 (by omega))
    · exact fun b o n e => by rw [upd_ne n]; exact g b o n e
    · have hcl : z.cps.toList[i]? = some c := by simpa using hc
      rw [List.take_add_one, hcl, List.map_append]
      exact upd_same
  · rintro H2 ⟨g, e⟩
    have el : z.cps.toList.take z.cps.size = z.cps.toList := List.take_of_length_le (by simp)
    rw [el] at e
    have em : (z.cps.toList.map fun c => V.bl (decide (c ∈ letL.cps.toList))) = (z.cps.toList.map fun c => decide (c ∈ letL.cps.toList)).map V.bl := by rw [List.map_map]; rfl
    rw [em] at e
    refine ⟨D, _, rfl, SqL.of e, ?_⟩
    have ea : ((z.cps.toList.map fun c => decide (c ∈ letL.cps.toList)).all id) = z.cps.toList.all fun c => decide (c ∈ letL.cps.toList) := by rw [List.all_map]; rfl
    rw [ea]
    exact kk _ fun b o q => g b o (ne_of_none q hD) q

end
end My
set_option Elab.async false
set_option linter.all false
set_option maxRecDepth 100000
set_option maxHeartbeats 400000
namespace My
open PySem L2 PySem.Spec PyProof.Rows
section
variable {P : Program} {w : World} {K : PySem.W.Frag} {mg : Str → Option Value} {base : Heap}
theorem ok__law_number (T : Txt K mg) : FnOk P w K mg base CX0 1 T.a__law_number T.d__law_number ["script", "index"] (sp_number K) := by

  refine T.F__law_number.ok sc__law_number (fun vs H Q E h => ?_) (fun cdv A outer s H vs Q E hr h => ?_)
  · obtain ⟨a, ns, i, rfl, _⟩ := h
    rfl
  obtain ⟨a, ns, i, rfl, hS, h63, k⟩ := h
  refine ⟨_, (pss_cons (ps_asg (pe_ifExp (pt_cmpR (op_neD (hu64 hr)) (pv 0) (pe_lst pa_nil) (nomark _)) (pe_tup (pa_cons (pe_ix ix_list (pv 0) (pe_op op_mod (pv 1) (pe_callB call_len_seq (by rfl) T.z_len (by decide +kernel) (pa_cons (pv 0) pa_nil))) (fun _ _ => rfl)) (pa_cons (pe_op op_fdivA (pv 1) (pe_callB call_len_seq (by rfl) T.z_len (by decide +kernel) (pa_cons (pv 0) pa_nil))) pa_nil))) (pe_tup (pa_cons pe_int (pa_cons pe_int pa_nil)))) (pg_tup rfl (pgs_cons (pg_name (i := 2) sc__law_number.nd rfl (by first | exact Or.inl rfl | exact Or.inr rfl)) (pgs_cons (pg_name (i := 3) sc__law_number.nd rfl (by first | exact Or.inl rfl | exact Or.inr rfl)) pgs_nil))))
    (pss_cons (ps_set (i := 4) sc__law_number.nd rfl (by first | exact Or.inl rfl | exact Or.inr rfl) (pe_ifExp (pt_cmpR op_lt (pv 3) pe_int (nomark _)) (pe_op op_sub (pv 2) (pe_op op_pow pe_int pe_int)) pe_int))
    (pss_cons (ps_for PassesOwn.never rfl (pi_range1 (by rfl) T.z_range (pa_cons (pe_op op_mod (pe_callTy call_int1 (by rfl) T.z_int (by decide +kernel) (pa_cons (pv 3) pa_nil)) pe_int) pa_nil)) (pg_name (i := 5) sc__law_number.nd rfl (by first | exact Or.inl rfl | exact Or.inr rfl))
    (pss_one (ps_set (i := 4) sc__law_number.nd rfl (by first | exact Or.inl rfl | exact Or.inr rfl) (pe_op op_fdivA (pv 4) pe_int))))
    (pss_cons (ps_if (pt_cmpR op_gt (pv 4) pe_int (nomark _)) (pss_one (ps_ret (pe_op op_mod (pe_callTy call_int1 (by rfl) T.z_int (by decide +kernel) (pa_cons (pv 4) pa_nil)) pe_int))) pss_nil)
    (pss_cons (ps_set (i := 6) sc__law_number.nd rfl (by first | exact Or.inl rfl | exact Or.inr rfl) (pe_op op_mod (pe_op op_add (pe_op op_mul (pe_callTy call_int1 (by rfl) T.z_int (by decide +kernel) (pa_cons (pe_op op_add (pv 2) (pe_op op_mul pe_int (pv 1))) pa_nil)) pe_int) (pe_op op_mul pe_int (pe_callB call_len_seq (by rfl) T.z_len (by decide +kernel) (pa_cons (pv 0) pa_nil)))) pe_int))
    (pss_cons (ps_set (i := 6) sc__law_number.nd rfl (by first | exact Or.inl rfl | exact Or.inr rfl) (pe_op op_mod (pe_op op_add (pe_op op_mul (pv 6) (pv 6)) (pe_op op_mul pe_int (pv 1))) pe_int))
    (pss_one (ps_ret (pe_callTy call_int1 (by rfl) T.z_int (by decide +kernel) (pa_cons (pe_op op_mod (pe_op op_add (pe_op op_mul (pv 6) pe_int) (pe_op op_fdivA (pv 6) pe_int)) pe_int) pa_nil)))))))))), ?_⟩
  -- cell, turn = ..
  refine seq_cut (fun σ' H' => ∃ c t : Int, σ' = [some (.ref a), some (.int i), some (.int c), some (.int t), none, none, none] ∧ Same H H') ?_ (fun tail => ?_)
  · rintro σ' H' ⟨c, t, rfl, g⟩
    have hS' := g.seq hS
    -- rest = ..
    refine seq_cut (fun σ' H' => ∃ r : Int, σ' = [some (.ref a), some (.int i), some (.int c), some (.int t), some (.int r), none, none] ∧ Same H H') ?_ (fun tail => ?_)
    · rintro σ' H' ⟨r, rfl, g⟩
      have hS' := g.seq hS
      -- for step in range(int(turn) % 60)
      refine ⟨_, rfl, .inl ⟨t, rfl, _, _, rfl, rfl, (by show (0 : Int) < 60; decide), ?_⟩⟩
      have m0 : 0 ≤ t % 60 := Int.emod_nonneg _ (by decide)
      have m1 : t % 60 < 60 := Int.emod_lt_of_pos _ (by decide)
      refine ⟨t % 60, rfl, by omega, by omega, for_range (lo := 0) (n := (t % 60).toNat) (fun _ σ' H' => ∃ (r : Int) (z : Option V), σ' = [some (.ref a), some (.int i), some (.int c), some (.int t), some (.int r), z, none] ∧ Same H H') ⟨r, none, rfl, g⟩ ?_ ?_⟩
      · rintro j σ' H' hj ⟨r, z, rfl, g⟩
        exact ⟨_, rfl, _, _, rfl, rfl, divA_small (by decide) (by decide), _, _, rfl, g⟩
      · rintro σ' H' ⟨r, z, rfl, g⟩
        have hS' := g.seq hS
        dsimp only
        refine seq_cut (fun σ' H'' => σ' = [some (.ref a), some (.int i), some (.int c), some (.int t), some (.int r), z, none] ∧ H'' = H') ?_ (fun tail => ?_)
        rotate_left
        · refine ⟨_, rfl, _, _, rfl, rfl, _, rfl, ?_⟩
          refine ite2 (fun _ => ?_) (fun _ => ?_)
          · exact ⟨_, rfl, .inl ⟨_, rfl, _, _, rfl, rfl, (by show (0 : Int) < 1009; decide), k _ _ g⟩⟩
          · exact tail _ _ ⟨rfl, rfl⟩
        · rintro σ' H'' ⟨rfl, rfl⟩
          refine seq_cut (fun σ' H' => ∃ (b : Int) (z : Option V), σ' = [some (.ref a), some (.int i), some (.int c), some (.int t), some (.int r), z, some (.int b)] ∧ 0 ≤ b ∧ b < 2147483647 ∧ Same H H') ?_ (fun tail => ?_)
          · rintro σ' H' ⟨b, z, rfl, b0, b1, g⟩
            refine ⟨_, rfl, _, rfl, _, _, rfl, rfl, .inl ⟨by omega, by omega⟩, _, rfl, _, _, rfl, rfl, .inl ⟨by decide, by decide⟩, _, _, rfl, rfl, _, _, rfl, rfl, (by show (0 : Int) < 2147483629; decide), ?_⟩
            exact ⟨_, rfl, _, _, rfl, rfl, .inr ⟨by decide, by decide⟩, _, rfl, _, _, rfl, rfl, divA_small (by decide) (by decide), _, _, rfl, rfl, _, _, rfl, rfl, (by show (0 : Int) < 2147483587; decide), .inl ⟨_, rfl, k _ _ g⟩⟩
          · refine ⟨_, rfl, _, rfl, _, _, rfl, rfl, .inl ⟨by decide, by decide⟩, _, _, rfl, rfl, .inl ⟨_, rfl, _, _, rfl, rfl, .inr ⟨by decide, by decide⟩, ?_⟩⟩
            refine ⟨_, rfl, a, _, rfl, .inl hS', _, _, rfl, rfl, .inl ⟨by decide, by decide⟩, _, _, rfl, rfl, _, _, rfl, rfl, (by show (0 : Int) < 2147483647; decide), ?_⟩
            exact tail _ _ ⟨_, _, rfl, Int.emod_nonneg _ (by decide), Int.emod_lt_of_pos _ (by decide), g⟩
    · refine ⟨_, rfl, _, _, rfl, rfl, _, rfl, ?_⟩
      refine ite2 (fun _ => ?_) (fun _ => ?_)
      · exact ⟨_, rfl, _, _, rfl, rfl, ⟨by decide, by decide, by decide⟩, _, _, rfl, rfl, tail _ _ ⟨_, rfl, g⟩⟩
      · exact tail _ _ ⟨_, rfl, g⟩
  · refine ⟨_, rfl, (by show 0 ≤ sizeLine; decide), fun p hp => ?_⟩
    have g1 : Same H (upd H p (.lst [])) := same_new hp _
    have hS1 := g1.seq hS
    refine ⟨.list (ns.map .int), .list [], .lst hS1 (dp_ints ns), .lst (SqL.of upd_same) .nil, PySem.W.ke_shaped_ints ns, rfl, _, rfl, ?_⟩
    by_cases e : ns = []
    · subst e
      refine iteF ⟨(by show 2 ≤ sizeLine; decide), fun q hq => ?_⟩
      exact ⟨_, _, rfl, SqT.of upd_same, rfl, _, _, rfl, _, _, rfl, rfl, tail _ _ ⟨_, _, rfl, g1.trans (same_new hq _)⟩⟩
    · rw [eqv_nil_ints ns e]
      have hl : 0 < ns.length := List.length_pos_iff.mpr e
      have em : (ns.map V.int).length = ns.length := List.length_map _
      have j0 : 0 ≤ i % ((ns.map V.int).length : Int) := Int.emod_nonneg _ (by omega)
      have j1 : i % ((ns.map V.int).length : Int) < ((ns.map V.int).length : Int) := Int.emod_lt_of_pos _ (by omega)
      obtain ⟨c, hc⟩ : ∃ c : Int, atI (ns.map V.int) (i % ((ns.map V.int).length : Int)) = some (.int c) := by
        have hj : (i % ((ns.map V.int).length : Int)).toNat < ns.length := by omega
        refine ⟨ns[(i % ((ns.map V.int).length : Int)).toNat], at_of (j := (i % ((ns.map V.int).length : Int)).toNat) (by omega) ?_⟩
        rw [List.getElem?_map, List.getElem?_eq_getElem hj]
        rfl
      refine iteT ?_
      refine ⟨_, rfl, _, rfl, _, rfl, a, _, rfl, .inl hS1, _, _, rfl, rfl, (by show (0 : Int) < ((ns.map V.int).length : Int); omega), a, _, _, _, rfl, rfl, hS1, hc, ?_⟩
      refine ⟨_, rfl, _, rfl, a, _, rfl, .inl hS1, _, _, rfl, rfl, divA_small (by omega) (by omega), (by show 2 ≤ sizeLine; decide), fun q hq => ?_⟩
      exact ⟨_, _, rfl, SqT.of upd_same, rfl, _, _, rfl, _, _, rfl, rfl, tail _ _ ⟨_, _, rfl, g1.trans (same_new hq _)⟩⟩

theorem ok__law_take (T : Txt K mg) : FnOk P w K mg base CX0 2 T.a__law_take T.d__law_take ["draw", "many"] (sp_take K) := by
  have G__law_number := ok__law_number (P := P) (w := w) (base := base) T
  refine T.F__law_take.ok sc__law_take (fun vs H Q E h => ?_) (fun cdv A outer s H vs Q E hr h => ?_)
  · obtain ⟨d, m, rfl, _⟩ := h
    rfl
  obtain ⟨d, m, rfl, ⟨a, ns, i, hd, hS, h63⟩, m0, k⟩ := h
  refine ⟨_, (pss_cons (ps_augS (pv 0) pe_int get_list pe_int ip_add set_list)
    (pss_one (ps_ret (pe_op op_mod (pe_callTy call_int1 (by rfl) T.z_int (by decide +kernel) (pa_cons (pe_call G__law_number (hr.mono (by first | decide | omega)) (by rfl) T.m__law_number T.F__law_number.kp T.b__law_number .nil pass0 (pa_cons (pe_ix ix_list (pv 0) pe_int (fun _ _ => rfl)) (pa_cons (pe_callTy call_int1 (by rfl) T.z_int (by decide +kernel) (pa_cons (pe_ix ix_list (pv 0) pe_int (fun _ _ => rfl)) pa_nil)) pa_nil))) pa_nil)) (pv 1))))), ?_⟩
  have b1 : But d H (upd H d (.lst [.ref a, .int (i + 1)])) := fun b o n e => by rw [upd_ne n]; exact e
  have hS1 := hS.but hd b1
  refine ⟨_, rfl, d, _, _, _, rfl, rfl, SqL.of hd, at_of (j := 1) rfl rfl, i, 1, rfl, rfl, d, _, _, 1, rfl, rfl, hd, rfl, ?_⟩
  have e1 : upd H d (.lst [.ref a, .int (i + 1)]) d = some (.lst [.ref a, .int (i + 1)]) := upd_same
  refine ⟨_, rfl, d, _, _, _, rfl, rfl, SqL.of e1, at_of (j := 0) rfl rfl, ?_⟩
  refine ⟨_, rfl, d, _, _, _, rfl, rfl, SqL.of e1, at_of (j := 1) rfl rfl, .inl ⟨_, rfl, a, ns, i + 1, rfl, hS1.sq, h63, fun n H' g => ?_⟩⟩
  refine .inl ⟨n, rfl, _, rfl, _, _, rfl, rfl, m0, ?_⟩
  exact k _ _ (Int.emod_nonneg _ (by omega)) (Int.emod_lt_of_pos _ m0) ⟨a, ns, i + 1, g _ _ e1, hS1.same g, h63⟩ (b1.same g)

end
end My
set_option Elab.async false
set_option linter.all false
set_option maxRecDepth 100000
set_option maxHeartbeats 400000
namespace My
open PySem L2 PySem.Spec PyProof.Rows
section
variable {P : Program} {w : World} {K : PySem.W.Frag} {mg : Str → Option Value} {base : Heap}
/-! ### rows and names, whatever is given -/
theorem len_dec {n m : Nat} : decide (V.int (n : Int) = V.int (m : Int)) = decide (n = m) := by
  by_cases e : n = m
  · subst e
    simp
  · rw [decide_eq_false e, decide_eq_false (fun q => e (by injection q with q; omega))]
theorem same_upd {H0 H : Hp} {q : Addr} {o : HO} (g : Same H0 H) (n : H0 q = none) : Same H0 (upd H q o) := fun b u e => by rw [upd_ne (ne_of_none e n)]; exact g b u e
def tys : List String := ["NoneType", "bool", "int", "str", "list", "tuple", "dict"]
def rowT (t : String) : Bool := t == "list" || t == "tuple"
theorem kit_row {K : PySem.W.Frag} : ∀ t, t ∈ tys → PySem.W.kitAny K (.type t) [.type "list", .type "tuple"] = some (rowT t) := by
  have step : ∀ (t : String) (b c : Bool), PySem.W.kitOne K (.type t) (.type "list") = some b → PySem.W.kitOne K (.type t) (.type "tuple") = some c → PySem.W.kitAny K (.type t) [.type "list", .type "tuple"] = some (b || c) := fun t b c e1 e2 => by
    unfold PySem.W.kitAny
    rw [e1]
    cases b with
    | true => rfl
    | false =>
      unfold PySem.W.kitAny
      rw [e2]
      cases c <;> rfl
  intro t h
  have all_ : t = "NoneType" ∨ t = "bool" ∨ t = "int" ∨ t = "str" ∨ t = "list" ∨ t = "tuple" ∨ t = "dict" := by simpa [tys] using h
  rcases all_ with rfl | rfl | rfl | rfl | rfl | rfl | rfl
  · exact (step _ false false (kit_ty (by decide +kernel)) (kit_ty (by decide +kernel))).trans (by decide +kernel)
  · exact (step _ false false (kit_ty (by decide +kernel)) (kit_ty (by decide +kernel))).trans (by decide +kernel)
  · exact (step _ false false (kit_ty (by decide +kernel)) (kit_ty (by decide +kernel))).trans (by decide +kernel)
  · exact (step _ false false (kit_ty (by decide +kernel)) (kit_ty (by decide +kernel))).trans (by decide +kernel)
  · exact (step _ true false (kit_ty (by decide +kernel)) (kit_ty (by decide +kernel))).trans (by decide +kernel)
  · exact (step _ false true (kit_ty (by decide +kernel)) (kit_ty (by decide +kernel))).trans (by decide +kernel)
  · exact (step _ false false (kit_ty (by decide +kernel)) (kit_ty (by decide +kernel))).trans (by decide +kernel)
def sp_isrow (K : PySem.W.Frag) : Sp := fun vs H Q _ => ∃ (v : V) (t : String), vs = [v] ∧ TyX K H v (.type t) ∧ t ∈ tys ∧ (∀ H', Same H H' → TyX K H' v (.type t)) ∧ ∀ H', Same H H' → Q (.bl (rowT t)) H'
theorem ok_is_row (T : Txt K mg) : FnOk P w K mg base CX0 1 T.a_is_row T.d_is_row ["value"] (sp_isrow K) := by
  refine T.F_is_row.ok sc_is_row (fun vs H Q E h => ?_) (fun cdv A outer s H vs Q E hr h => ?_)
  · obtain ⟨v, t, rfl, _⟩ := h
    rfl
  obtain ⟨v, t, rfl, ty, mem, keep, k⟩ := h
  refine ⟨_, (pss_one (ps_ret (pe_callB call_isiT (by rfl) T.z_isinstance (by decide +kernel) (pa_cons (pv 0) (pa_cons (pe_tup (pa_cons (pe_bltn (v := .ty "list") (by rfl) T.z_list (by decide +kernel) rfl) (pa_cons (pe_bltn (v := .ty "tuple") (by rfl) T.z_tuple (by decide +kernel) rfl) pa_nil))) pa_nil))))), ?_⟩
  refine ⟨_, rfl, (by show 2 ≤ sizeLine; decide), fun q hq => ?_⟩
  have g := same_new hq (.tup [.ty "list", .ty "tuple"])
  exact ⟨v, q, _, _, [.type "list", .type "tuple"], rowT t, rfl, upd_same, .cons (.ty _) (.cons (.ty _) .nil), keep _ g, kit_row t mem, k _ g⟩
/-- what may be given for a row: something else, by its type; or a list or a tuple of data -/
inductive RowA
  | oth (t : String)
  | seq (ds : List PyData)
def RowAt (K : PySem.W.Frag) (H : Hp) (v : V) : RowA → Prop
  | .oth t => t ∈ tys ∧ rowT t = false ∧ ∀ H', Same H H' → TyX K H' v (.type t)
  | .seq ds => ∃ a xs, v = .ref a ∧ SqA K H a xs ∧ DpAll K H xs ds ∧ ds.length ≤ 1000
theorem SqA.same {K : PySem.W.Frag} {H H' : Hp} {a : Addr} {xs : List V} (g : Same H H') (h : SqA K H a xs) : SqA K H' a xs := h.elim (fun h => .inl (g.seq h)) fun h => .inr (Same.tup g h)
theorem RowAt.same {K : PySem.W.Frag} {H H' : Hp} {v : V} {r : RowA} (g : Same H H') (h : RowAt K H v r) : RowAt K H' v r := by
  cases r with
  | oth t => exact ⟨h.1, h.2.1, fun H2 g2 => h.2.2 H2 (g.trans g2)⟩
  | seq ds =>
    obtain ⟨a, xs, rfl, h1, h2, h3⟩ := h
    exact ⟨a, xs, rfl, h1.same g, dps_same g _ _ h2, h3⟩
def isSeq : RowA → Bool
  | .oth _ => false
  | .seq _ => true
theorem row_ty {K : PySem.W.Frag} {H : Hp} {v : V} {r : RowA} (h : RowAt K H v r) : ∃ t, t ∈ tys ∧ (∀ H', Same H H' → TyX K H' v (.type t)) ∧ rowT t = isSeq r := by
  cases r with
  | oth t => exact ⟨t, h.1, h.2.2, h.2.1⟩
  | seq ds =>
    obtain ⟨a, xs, rfl, h1, _⟩ := h
    rcases h1 with h1 | h1
    · exact ⟨"list", by decide +kernel, fun H' g => ty_lst (g.seq h1), show rowT "list" = true by decide +kernel⟩
    · exact ⟨"tuple", by decide +kernel, fun H' g => ty_tup (Same.tup g h1), show rowT "tuple" = true by decide +kernel⟩
def strsD (ds : List PyData) : List Str := ds.filterMap fun d => match d with | .str s => some s | _ => none
def namesR (m : Int) : RowA → Bool
  | .oth _ => false
  | .seq ds => if m < (ds.length : Int) then false else if (ds.all nameD) = true then decide (newT (strsD ds) (strsD ds).length = ds.length) else false
def StrsOk : RowA → Prop
  | .oth _ => True
  | .seq ds => ∀ d ∈ ds, StrOk d
theorem strs_of {K : PySem.W.Frag} {H : Hp} : ∀ {xs : List V} {ds : List PyData}, DpAll K H xs ds → (ds.all nameD) = true → xs = (strsD ds).map V.str ∧ (strsD ds).length = ds.length
  | _, _, .nil, _ => ⟨rfl, rfl⟩
  | _, _, .cons (d := d) (ds := ds) h r, e => by
    rw [List.all_cons, Bool.and_eq_true] at e
    obtain ⟨s, rfl⟩ : ∃ s, d = .str s := by
      cases d with
      | str s => exact ⟨s, rfl⟩
      | _ => cases e.1
    obtain ⟨e1, e2⟩ := strs_of r e.2
    cases h
    refine ⟨?_, ?_⟩
    · show _ = ((strsD (.str s :: ds)).map V.str)
      have : strsD (.str s :: ds) = s :: strsD ds := rfl
      rw [this, List.map_cons, ← e1]
    · have : strsD (.str s :: ds) = s :: strsD ds := rfl
      rw [this, List.length_cons, List.length_cons, e2]
def sp_names (K : PySem.W.Frag) : Sp := fun vs H Q _ => ∃ (v : V) (m : Int) (r : RowA), vs = [v, .int m] ∧ RowAt K H v r ∧ StrsOk r ∧ m ≤ 10 ∧ ∀ H', Same H H' → Q (.bl (namesR m r)) H'
theorem ok_are_names (T : Txt K mg) : FnOk P w K mg base CX0 2 T.a_are_names T.d_are_names ["row", "most"] (sp_names K) := by
  have G_is_row := ok_is_row (P := P) (w := w) (base := base) T
  have G_is_name := ok_is_name (P := P) (w := w) (base := base) T
  refine T.F_are_names.ok sc_are_names (fun vs H Q E h => ?_) (fun cdv A outer s H vs Q E hr h => ?_)
  · obtain ⟨v, m, r, rfl, _⟩ := h
    rfl
  obtain ⟨v, m, r, rfl, hr0, so, lm, k⟩ := h
  refine ⟨_, (pss_cons (ps_if (PW.pt (pw_or (pt_not (pt_val (pe_call G_is_row (hr.mono (by first | decide | omega)) (by rfl) T.m_is_row T.F_is_row.kp T.b_is_row .nil pass0 (pa_cons (pv 0) pa_nil)))) (pw_or (pt_cmpR op_gt (pe_callB call_len_seq (by rfl) T.z_len (by decide +kernel) (pa_cons (pv 0) pa_nil)) (pv 1) (nomark _)) (pw_or1 (pt_not (pt_val (pe_callB (cr_all rfl) (by rfl) T.z_all (by decide +kernel) (pa_cons (pe_lc (own := [("name", 2)]) rfl sc_are_names.nd (pi_lt (pv 0)) (blkOk_by (own := [("name", 2)]) (N := ["row", "most", "name"]) (sc := defScope s_are_names) (by decide +kernel)) (fun _ _ _ _ _ => (pg_name (i := 2) sc_are_names.nd rfl (by first | exact Or.inl rfl | exact Or.inr rfl))) (fun _ _ _ _ _ => pts_nil) (fun _ _ _ _ _ => (pe_call G_is_name (hr.mono (by first | decide | omega)) (by rfl) T.m_is_name T.F_is_name.kp T.b_is_name .nil pass0 (pa_cons (pv 2) pa_nil)))) pa_nil)))))))) (pss_one (ps_ret pe_bl)) pss_nil)
    (pss_one (ps_ret (pe_cmpR op_eq (pe_lenU rfl (by rfl) T.z_len (by rfl) T.z_set (pv 0)) (pe_callB call_len_seq (by rfl) T.z_len (by decide +kernel) (pa_cons (pv 0) pa_nil)) (nomark _))))), ?_⟩
  obtain ⟨t, mem, keep, et⟩ := row_ty hr0
  refine ⟨_, rfl, v, t, rfl, keep _ (Same.refl _), mem, keep, fun H1 g1 => ⟨_, rfl, ?_⟩⟩
  cases r with
  | oth t' =>
    rw [et]
    exact iteT (k _ g1)
  | seq ds =>
    rw [et]
    refine iteF ?_
    obtain ⟨a, xs, rfl, hs, da, l1000⟩ := hr0
    have hs1 := hs.same g1
    have da1 := dps_same g1 _ _ da
    have ln := dps_len da
    have len2 : ∀ {H' : Hp}, SqA K H' a xs → SqL K H' a xs ∨ SqT K H' a xs := fun h => h
    refine ⟨_, rfl, a, xs, rfl, len2 hs1, _, rfl, _, _, rfl, rfl, _, rfl, ?_⟩
    rw [ln]
    have many : namesR m (.seq ds) = if m < (ds.length : Int) then false else if (ds.all nameD) = true then decide (newT (strsD ds) (strsD ds).length = ds.length) else false := rfl
    by_cases c : m < (ds.length : Int)
    · rw [decide_eq_true c]
      rw [if_pos c] at many
      rw [many] at k
      exact iteT (k _ g1)
    rw [decide_eq_false c]
    rw [if_neg c] at many
    have small : ds.length ≤ 10 := by omega
    refine iteF ⟨_, rfl, a, rfl, ?_⟩
    have all_ : ((ds.map nameD).all id) = ds.all nameD := by rw [List.all_map]; rfl
    rcases hs1 with h1 | h1
    · refine .inl ⟨xs, h1, fun D hD => lc_it (walk_list (xs := xs)) (fun i H' => Same H1 H' ∧ H' D = some (.lst (((ds.take i).map nameD).map V.bl))) ⟨same_new hD _, upd_same⟩ (fun i H' _ z => z.1.seq h1) ?_ ?_⟩
      · rintro i x H' H'' hi ⟨g, e⟩ ⟨e1, hx⟩
        subst e1
        obtain ⟨d, hd, dx⟩ : ∃ d, ds[i]? = some d ∧ Dp K H1 x d := by
          have hi2 : i < ds.length := by omega
          obtain ⟨y, hy, dy⟩ := dps_get da1 (List.getElem?_eq_getElem hi2)
          rw [hx] at hy
          cases hy
          exact ⟨_, List.getElem?_eq_getElem hi2, dy⟩
        refine ⟨rfl, _, rfl, x, d, rfl, dp_same g _ _ dx, so d (List.mem_of_getElem? hd), fun H2 g2 => ⟨_, g2 _ _ e, ?_, same_upd (g.trans g2) hD, ?_⟩⟩
        · rw [List.length_map, List.length_map, List.length_take]
          exact small1000 (by omega)
        · rw [upd_same, List.take_add_one, hd, List.map_append, List.map_append]
          rfl
      · rintro H' ⟨g, e⟩
        rw [ln, List.take_of_length_le (Nat.le_refl _)] at e
        refine ⟨D, ds.map nameD, rfl, SqL.of e, _, rfl, ?_⟩
        rw [all_]
        have g02 := g1.trans g
        cases ea : ds.all nameD with
        | false =>
          rw [ea, if_neg Bool.false_ne_true] at many
          rw [many] at k
          exact iteT (k _ g02)
        | true =>
          rw [ea, if_pos rfl] at many
          rw [many] at k
          obtain ⟨ex, el⟩ := strs_of da1 ea
          refine iteF ⟨_, rfl, a, strsD ds, rfl, ?_, by omega, _, rfl, a, xs, rfl, hs.same g02, rfl, ?_⟩
          · rw [← ex]
            exact hs.same g02
          · rw [ln, len_dec]
            exact k _ g02
    · refine .inr ⟨xs, h1, fun D hD => lc_it (walk_tup (xs := xs)) (fun i H' => Same H1 H' ∧ H' D = some (.lst (((ds.take i).map nameD).map V.bl))) ⟨same_new hD _, upd_same⟩ (fun i H' _ z => Same.tup z.1 h1) ?_ ?_⟩
      · rintro i x H' H'' hi ⟨g, e⟩ ⟨e1, hx⟩
        subst e1
        obtain ⟨d, hd, dx⟩ : ∃ d, ds[i]? = some d ∧ Dp K H1 x d := by
          have hi2 : i < ds.length := by omega
          obtain ⟨y, hy, dy⟩ := dps_get da1 (List.getElem?_eq_getElem hi2)
          rw [hx] at hy
          cases hy
          exact ⟨_, List.getElem?_eq_getElem hi2, dy⟩
        refine ⟨rfl, _, rfl, x, d, rfl, dp_same g _ _ dx, so d (List.mem_of_getElem? hd), fun H2 g2 => ⟨_, g2 _ _ e, ?_, same_upd (g.trans g2) hD, ?_⟩⟩
        · rw [List.length_map, List.length_map, List.length_take]
          exact small1000 (by omega)
        · rw [upd_same, List.take_add_one, hd, List.map_append, List.map_append]
          rfl
      · rintro H' ⟨g, e⟩
        rw [ln, List.take_of_length_le (Nat.le_refl _)] at e
        refine ⟨D, ds.map nameD, rfl, SqL.of e, _, rfl, ?_⟩
        rw [all_]
        have g02 := g1.trans g
        cases ea : ds.all nameD with
        | false =>
          rw [ea, if_neg Bool.false_ne_true] at many
          rw [many] at k
          exact iteT (k _ g02)
        | true =>
          rw [ea, if_pos rfl] at many
          rw [many] at k
          obtain ⟨ex, el⟩ := strs_of da1 ea
          refine iteF ⟨_, rfl, a, strsD ds, rfl, ?_, by omega, _, rfl, a, xs, rfl, hs.same g02, rfl, ?_⟩
          · rw [← ex]
            exact hs.same g02
          · rw [ln, len_dec]
            exact k _ g02

end
end My
set_option Elab.async false
set_option linter.all false
set_option maxRecDepth 100000
set_option maxHeartbeats 400000
namespace My
open PySem L2 PySem.Spec PyProof.Rows
section
variable {P : Program} {w : World} {K : PySem.W.Frag} {mg : Str → Option Value} {base : Heap}
/-! ### the dict of what is asked, whatever is given -/
def kindV (b : Bool) : V := .str (if b then "number" else "text")
def keyD : Key → PyData
  | .inl i => .int i
  | .inr s => .str s
def kindW : V → Bool
  | .str s => s == ("number" : Str) || s == ("text" : Str)
  | _ => false
def flatA : V → Bool
  | .str _ => true
  | .non => true
  | _ => false
inductive DicA
  | oth (t : String)
  | dic (kvs : List (Key × V))
/-- its keys are short, each stands once, its values are texts or None -/
structure KvsOk (kvs : List (Key × V)) : Prop where
  nd : (kvs.map Prod.fst).Nodup
  key : ∀ p ∈ kvs, StrOk (keyD p.1)
  val : ∀ p ∈ kvs, flatA p.2 = true
  few : kvs.length ≤ 20
def DicAt (K : PySem.W.Frag) (H : Hp) (v : V) : DicA → Prop
  | .oth t => t ∈ tys ∧ t ≠ "dict" ∧ ∀ H', Same H H' → TyX K H' v (.type t)
  | .dic kvs => ∃ a, v = .ref a ∧ H a = some (.dK kvs) ∧ KvsOk kvs
theorem DicAt.same {K : PySem.W.Frag} {H H' : Hp} {v : V} {r : DicA} (g : Same H H') (h : DicAt K H v r) : DicAt K H' v r := by
  cases r with
  | oth t => exact ⟨h.1, h.2.1, fun H2 g2 => h.2.2 H2 (g.trans g2)⟩
  | dic kvs =>
    obtain ⟨a, rfl, h1, h2⟩ := h
    exact ⟨a, rfl, g _ _ h1, h2⟩
def askedR : DicA → Bool
  | .oth _ => false
  | .dic kvs => if 4 < kvs.length then false else kvs.all fun p => nameD (keyD p.1) && kindW p.2
theorem val_at : ∀ {kvs : List (Key × V)} {k : Key} {v : V}, (kvs.map Prod.fst).Nodup → (k, v) ∈ kvs → valV kvs k = some v
  | [], _, _, _, h => by cases h
  | (m, c) :: as, n, b, nd, h => by
    rw [List.map_cons, List.nodup_cons] at nd
    rcases List.mem_cons.mp h with h | h
    · cases h
      exact valV_pos rfl
    · have ne : ¬ m = n := fun e => nd.1 (by rw [e]; exact List.mem_map.mpr ⟨_, h, rfl⟩)
      rw [valV_neg ne]
      exact val_at nd.2 h
theorem key_dp {K : PySem.W.Frag} {H : Hp} (k : Key) : Dp K H (kV k) (keyD k) := by
  cases k with
  | inl i => exact .int i
  | inr s => exact .str s
theorem kind_in {K : PySem.W.Frag} {H : Hp} {x : V} {Q : VK} {q : Addr} (f : flatA x = true) (hq : H q = some (.tup [.str "number", .str "text"])) (k : Q (.bl (kindW x)) H) : rIn K false x (.ref q) H Q := by
  have e : inV x [.str "number", .str "text"] = kindW x := by
    cases x with
    | str s =>
      show (eqV (.str "number") (.str s) || (eqV (.str "text") (.str s) || false)) = _
      rw [Bool.or_false]
      show ((("number" : Str) == s) || (("text" : Str) == s)) = (s == ("number" : Str) || s == ("text" : Str))
      rw [BEq.comm (a := ("number" : Str)), BEq.comm (a := ("text" : Str))]
    | non => rfl
    | _ => cases f
  have ff : flatV x = true := by cases x <;> first | rfl | cases f
  refine ⟨q, _, rfl, .inr (SqT.of hq), ff, rfl, ?_⟩
  show Q (.bl (inV x [.str "number", .str "text"])) H
  rw [e]
  exact k
theorem kit_dict {K : PySem.W.Frag} : ∀ t, t ∈ tys → PySem.W.kitOne K (.type t) (.type "dict") = some (t == "dict") := by
  intro t h
  have all_ : t = "NoneType" ∨ t = "bool" ∨ t = "int" ∨ t = "str" ∨ t = "list" ∨ t = "tuple" ∨ t = "dict" := by simpa [tys] using h
  rcases all_ with rfl | rfl | rfl | rfl | rfl | rfl | rfl <;> exact kit_ty (by decide +kernel)
def sp_arasked (K : PySem.W.Frag) : Sp := fun vs H Q _ => ∃ (v : V) (r : DicA), vs = [v] ∧ DicAt K H v r ∧ ∀ H', Same H H' → Q (.bl (askedR r)) H'
theorem ok_are_asked (T : Txt K mg) : FnOk P w K mg base CX0 2 T.a_are_asked T.d_are_asked ["asked"] (sp_arasked K) := by
  have G_is_name := ok_is_name (P := P) (w := w) (base := base) T
  refine T.F_are_asked.ok sc_are_asked (fun vs H Q E h => ?_) (fun cdv A outer s H vs Q E hr h => ?_)
  · obtain ⟨v, r, rfl, _⟩ := h
    rfl
  obtain ⟨v, r, rfl, hd, k⟩ := h
  refine ⟨_, (pss_cons (ps_if (PW.pt (pw_or (pt_not (pt_val (pe_callB call_isi (by rfl) T.z_isinstance (by decide +kernel) (pa_cons (pv 0) (pa_cons (pe_bltn (v := .ty "dict") (by rfl) T.z_dict (by decide +kernel) rfl) pa_nil))))) (pw_or1 (pt_cmpR op_gt (pe_callB call_lenD (by rfl) T.z_len (by decide +kernel) (pa_cons (pv 0) pa_nil)) (pe_glob (v := .int 4) (by rfl) T.m_MOST_ASKED ⟨_, rfl⟩) (nomark _))))) (pss_one (ps_ret pe_bl)) pss_nil)
    (pss_one (ps_ret (pe_callB (cr_all rfl) (by rfl) T.z_all (by decide +kernel) (pa_cons (pe_lock (pe_lc (own := [("name", 1)]) rfl sc_are_asked.nd (pi_keys (pv 0)) (blkOk_by (own := [("name", 1)]) (N := ["asked", "name"]) (sc := defScope s_are_asked) (by decide +kernel)) (fun _ _ _ _ _ => (pg_name (i := 1) sc_are_asked.nd rfl (by first | exact Or.inl rfl | exact Or.inr rfl))) (fun _ _ _ _ _ => pts_nil) (fun _ _ _ _ _ => (pe_and (pe_call G_is_name (hr.mono (by first | decide | omega)) (by rfl) T.m_is_name T.F_is_name.kp T.b_is_name .nil pass0 (pa_cons (pv 1) pa_nil)) (pe_one (pe_cmpR (show OpR _ _ (rIn K false) from op_in_seq) (pe_dget (hu_of hr) (pv 0) (pv 1) (fun _ _ => rfl)) (pe_tup (pa_cons pe_str (pa_cons pe_str pa_nil))) (by with_unfolding_all rfl))))))) pa_nil))))), ?_⟩
  cases r with
  | oth t =>
    obtain ⟨mem, ne, keep⟩ := hd
    have e : (t == "dict") = false := beq_eq_false_iff_ne.mpr ne
    refine ⟨_, rfl, v, .ty "dict", .type t, .type "dict", t == "dict", rfl, .ty _, keep _ (Same.refl _), kit_dict t mem, _, rfl, ?_⟩
    rw [e]
    exact iteT (k _ (Same.refl _))
  | dic kvs =>
  obtain ⟨a, rfl, hs, ok⟩ := hd
  have few := ok.few
  refine ⟨_, rfl, .ref a, .ty "dict", .type "dict", .type "dict", true, rfl, .ty _, .base (.dK hs), kit_ty (by decide +kernel), _, rfl, iteF ⟨_, rfl, a, _, rfl, hs, _, _, rfl, rfl, _, rfl, ?_⟩⟩
  have many : askedR (.dic kvs) = if 4 < kvs.length then false else kvs.all fun p => nameD (keyD p.1) && kindW p.2 := rfl
  by_cases c : 4 < kvs.length
  · rw [if_pos c] at many
    rw [many] at k
    rw [decide_eq_true (show (4 : Int) < (kvs.length : Int) by omega)]
    exact iteT (k _ (Same.refl _))
  rw [if_neg c] at many
  rw [many] at k
  rw [decide_eq_false (show ¬ (4 : Int) < (kvs.length : Int) by omega)]
  have back : ∀ H' : Hp, (∀ b o, b ≠ a → H b = some o → H' b = some o) → H' a = some (.dK kvs) → Same H H' := fun H' g1 g2 b o hb => by
    by_cases e : b = a
    · rw [e] at hb ⊢
      rw [hs] at hb
      rw [← hb]
      exact g2
    · exact g1 b o e hb
  refine iteF ⟨a, _, hs, trivial, fun od => ⟨_, rfl, a, od, rfl, .inl ⟨_, upd_same, fun D hD => ?_⟩⟩⟩
  have nD : D ≠ a := fun z => by
    rw [z, upd_same] at hD
    cases hD
  rw [upd_ne nD] at hD
  let good : Key × V → Bool := fun p => nameD (keyD p.1) && kindW p.2
  refine lc_it walk_keys (fun i H' => H' a = some (.frz od (.dK kvs)) ∧ (∀ b o, b ≠ a → H b = some o → H' b = some o) ∧ H' D = some (.lst (((kvs.take i).map good).map V.bl))) ⟨?_, ?_, upd_same⟩ (fun i H' _ z => z.1) ?_ ?_
  · rw [upd_ne (Ne.symm nD), upd_same]
  · intro b o n hb
    rw [upd_ne (ne_of_none hb hD), upd_ne n]
    exact hb
  · rintro i x H1 H' hi ⟨f1, f2, f3⟩ ⟨rfl, key, v, hk, rfl⟩
    have mem := List.mem_of_getElem? hk
    have put : ∀ {b : Bool} {H2 : Hp}, good (key, v) = b → H2 D = some (.lst (((kvs.take i).map good).map V.bl)) → H2 a = some (.frz od (.dK kvs)) → (∀ c o, c ≠ a → H c = some o → H2 c = some o) →
        ∃ acc, H2 D = some (.lst acc) ∧ acc.length < sizeLine ∧ upd H2 D (.lst (acc ++ [.bl b])) a = some (.frz od (.dK kvs)) ∧ (∀ c o, c ≠ a → H c = some o → upd H2 D (.lst (acc ++ [.bl b])) c = some o) ∧ upd H2 D (.lst (acc ++ [.bl b])) D = some (.lst (((kvs.take (i + 1)).map good).map V.bl)) := fun {b H2} eb e1 e2 e3 => by
      refine ⟨_, e1, ?_, ?_, fun c o z hc => ?_, ?_⟩
      · rw [List.length_map, List.length_map, List.length_take]
        exact small1000 (by omega)
      · rw [upd_ne (Ne.symm nD)]
        exact e2
      · rw [upd_ne (ne_of_none hc hD)]
        exact e3 c o z hc
      · rw [upd_same, List.take_add_one, hk, List.map_append, List.map_append, ← eb]
        rfl
    refine ⟨rfl, _, rfl, _, keyD key, rfl, key_dp key, ok.key _ mem, fun H2 g2 => ⟨_, rfl, ite2 (fun c => ?_) (fun c => ?_)⟩⟩
    · refine ⟨_, rfl, _, rfl, a, v, rfl, .inl ⟨kvs, key, .inr ⟨od, g2 _ _ f1⟩, rfl, (val_at ok.nd mem).symm⟩, (by show 2 ≤ sizeLine; decide), fun q hq => ?_⟩
      have gq := same_new hq (.tup [.str "number", .str "text"])
      refine kind_in (ok.val _ mem) upd_same (put ?_ (gq _ _ (g2 _ _ f3)) (gq _ _ (g2 _ _ f1)) fun c o z hc => gq _ _ (g2 _ _ (f2 c o z hc)))
      show (nameD (keyD key) && kindW v) = kindW v
      rw [c]
      rfl
    · refine put ?_ (g2 _ _ f3) (g2 _ _ f1) fun c o z hc => g2 _ _ (f2 c o z hc)
      show (nameD (keyD key) && kindW v) = false
      rw [Bool.eq_false_iff.mpr c]
      rfl
  · rintro H' ⟨f1, f2, f3⟩
    rw [List.take_of_length_le (Nat.le_refl _)] at f3
    refine ⟨f1, D, kvs.map good, rfl, SqL.of (by rw [upd_ne nD, f3]), ?_⟩
    have e : ((kvs.map good).all id) = kvs.all good := by rw [List.all_map]; rfl
    rw [e]
    refine k _ (back _ (fun b o n hb => ?_) upd_same)
    rw [upd_ne n]
    exact f2 b o n hb

end
end My
set_option Elab.async false
set_option linter.all false
set_option maxRecDepth 100000
set_option maxHeartbeats 400000
namespace My
open PySem L2 PySem.Spec PyProof.Rows
section
variable {P : Program} {w : World} {K : PySem.W.Frag} {mg : Str → Option Value} {base : Heap}
/-! ### which part of columns is wrong -/
theorem names_of {m : Int} {r : RowA} (h : namesR m r = true) : ∃ ds, r = .seq ds ∧ (ds.length : Int) ≤ m ∧ (ds.all nameD) = true ∧ newT (strsD ds) (strsD ds).length = ds.length := by
  cases r with
  | oth t => cases h
  | seq ds =>
    have e : namesR m (.seq ds) = if m < (ds.length : Int) then false else if (ds.all nameD) = true then decide (newT (strsD ds) (strsD ds).length = ds.length) else false := rfl
    rw [e] at h
    by_cases c : m < (ds.length : Int)
    · rw [if_pos c] at h
      cases h
    · rw [if_neg c] at h
      by_cases c2 : (ds.all nameD) = true
      · rw [if_pos c2] at h
        exact ⟨ds, rfl, by omega, c2, of_decide_eq_true h⟩
      · rw [if_neg c2] at h
        cases h
def keysS (kvs : List (Key × V)) : List Str := kvs.filterMap fun p => match p.1 with | .inr s => some s | _ => none
theorem keys_of : ∀ {kvs : List (Key × V)}, (kvs.all fun p => nameD (keyD p.1) && kindW p.2) = true → (kvs.map fun kv => kV kv.1) = (keysS kvs).map V.str ∧ (keysS kvs).length = kvs.length
  | [], _ => ⟨rfl, rfl⟩
  | (k, v) :: r, h => by
    rw [List.all_cons, Bool.and_eq_true, Bool.and_eq_true] at h
    obtain ⟨e1, e2⟩ := keys_of h.2
    cases k with
    | inl i => cases h.1.1
    | inr s =>
      have e : keysS ((.inr s, v) :: r) = s :: keysS r := rfl
      rw [e, List.map_cons, List.map_cons, e1, List.length_cons, List.length_cons, e2]
      exact ⟨rfl, rfl⟩
theorem asked_of {r : DicA} (h : askedR r = true) : ∃ kvs, r = .dic kvs ∧ kvs.length ≤ 4 ∧ (kvs.all fun p => nameD (keyD p.1) && kindW p.2) = true := by
  cases r with
  | oth t => cases h
  | dic kvs =>
    have e : askedR (.dic kvs) = if 4 < kvs.length then false else kvs.all fun p => nameD (keyD p.1) && kindW p.2 := rfl
    rw [e] at h
    by_cases c : 4 < kvs.length
    · rw [if_pos c] at h
      cases h
    · rw [if_neg c] at h
      exact ⟨kvs, rfl, by omega, h⟩
def strsA : RowA → List Str
  | .oth _ => []
  | .seq ds => strsD ds
def keysA : DicA → List Str
  | .oth _ => []
  | .dic kvs => keysS kvs
def namesAll (h : RowA) (a : DicA) (s : RowA) : List Str := strsA h ++ keysA a ++ strsA s
def wrongR (h : RowA) (a : DicA) (s : RowA) : Option Str :=
  if namesR 2 h = false then some "hashed" else if askedR a = false then some "asked" else if namesR 2 s = false then some "summed" else
    if newT (namesAll h a s) (namesAll h a s).length < (namesAll h a s).length then some "names" else none
def optV : Option Str → V
  | none => .non
  | some s => .str s
def sp_wrong (K : PySem.W.Frag) : Sp := fun vs H Q _ => ∃ (hv av sv : V) (h : RowA) (a : DicA) (s : RowA), vs = [hv, av, sv] ∧ RowAt K H hv h ∧ DicAt K H av a ∧ RowAt K H sv s ∧ StrsOk h ∧ StrsOk s ∧ ∀ H', Same H H' → Q (optV (wrongR h a s)) H'
theorem seq_at {K : PySem.W.Frag} {H : Hp} {v : V} {ds : List PyData} (h : RowAt K H v (.seq ds)) (al : (ds.all nameD) = true) : ∃ a, v = .ref a ∧ SqA K H a ((strsD ds).map V.str) ∧ (strsD ds).length = ds.length := by
  obtain ⟨a, xs, rfl, h1, h2, _⟩ := h
  obtain ⟨e1, e2⟩ := strs_of h2 al
  exact ⟨a, rfl, e1 ▸ h1, e2⟩
theorem ok_wrong_part (T : Txt K mg) : FnOk P w K mg base CX0 3 T.a_wrong_part T.d_wrong_part ["hashed", "asked", "summed"] (sp_wrong K) := by
  have G_are_names := ok_are_names (P := P) (w := w) (base := base) T
  have G_are_asked := ok_are_asked (P := P) (w := w) (base := base) T
  refine T.F_wrong_part.ok sc_wrong_part (fun vs H Q E h => ?_) (fun cdv A outer s H vs Q E hr h => ?_)
  · obtain ⟨hv, av, sv, h, a, s, rfl, _⟩ := h
    rfl
  obtain ⟨hv, av, sv, h, a, sm, rfl, q1, q2, q3, ok1, ok3, k⟩ := h
  refine ⟨_, (pss_cons (ps_if (pt_not (pt_val (pe_call G_are_names (hr.mono (by first | decide | omega)) (by rfl) T.m_are_names T.F_are_names.kp T.b_are_names .nil pass0 (pa_cons (pv 0) (pa_cons (pe_glob (v := .int 2) (by rfl) T.m_MOST_HASHED ⟨_, rfl⟩) pa_nil))))) (pss_one (ps_ret pe_str)) pss_nil)
    (pss_cons (ps_if (pt_not (pt_val (pe_call G_are_asked (hr.mono (by first | decide | omega)) (by rfl) T.m_are_asked T.F_are_asked.kp T.b_are_asked .nil pass0 (pa_cons (pv 1) pa_nil)))) (pss_one (ps_ret pe_str)) pss_nil)
    (pss_cons (ps_if (pt_not (pt_val (pe_call G_are_names (hr.mono (by first | decide | omega)) (by rfl) T.m_are_names T.F_are_names.kp T.b_are_names .nil pass0 (pa_cons (pv 2) (pa_cons (pe_glob (v := .int 2) (by rfl) T.m_MOST_SUMMED ⟨_, rfl⟩) pa_nil))))) (pss_one (ps_ret pe_str)) pss_nil)
    (pss_cons (ps_set (i := 3) sc_wrong_part.nd rfl (by first | exact Or.inl rfl | exact Or.inr rfl) (pe_op op_cat (pe_op op_cat (pe_callTy call_list_of (by rfl) T.z_list (by decide +kernel) (pa_cons (pv 0) pa_nil)) (pe_callTy (call_listD rfl) (by rfl) T.z_list (by decide +kernel) (pa_cons (pv 1) pa_nil))) (pe_callTy call_list_of (by rfl) T.z_list (by decide +kernel) (pa_cons (pv 2) pa_nil))))
    (pss_cons (ps_if (pt_cmpR op_lt (pe_lenU rfl (by rfl) T.z_len (by rfl) T.z_set (pv 3)) (pe_callB call_len_seq (by rfl) T.z_len (by decide +kernel) (pa_cons (pv 3) pa_nil)) (nomark _)) (pss_one (ps_ret pe_str)) pss_nil)
    (pss_one (ps_ret pe_non))))))), ?_⟩
  unfold wrongR at k
  refine ⟨_, rfl, hv, 2, h, rfl, q1, ok1, by omega, fun H1 g1 => ⟨_, rfl, ?_⟩⟩
  cases c1 : namesR 2 h with
  | false =>
    rw [if_pos c1] at k
    exact iteT (k _ g1)
  | true =>
  rw [if_neg (by rw [c1]; exact Bool.noConfusion)] at k
  refine iteF ⟨_, rfl, av, a, rfl, q2.same g1, fun H2 g2 => ⟨_, rfl, ?_⟩⟩
  have g12 := g1.trans g2
  cases c2 : askedR a with
  | false =>
    rw [if_pos c2] at k
    exact iteT (k _ g12)
  | true =>
  rw [if_neg (by rw [c2]; exact Bool.noConfusion)] at k
  refine iteF ⟨_, rfl, sv, 2, sm, rfl, q3.same g12, ok3, by omega, fun H3 g3 => ⟨_, rfl, ?_⟩⟩
  have g13 := g12.trans g3
  cases c3 : namesR 2 sm with
  | false =>
    rw [if_pos c3] at k
    exact iteT (k _ g13)
  | true =>
  rw [if_neg (by rw [c3]; exact Bool.noConfusion)] at k
  refine iteF ?_
  obtain ⟨d1, rfl, l1, al1, _⟩ := names_of c1
  obtain ⟨kvs, rfl, l2, al2⟩ := asked_of c2
  obtain ⟨d3, rfl, l3, al3, _⟩ := names_of c3
  obtain ⟨h, rfl, s1, n1⟩ := seq_at q1 al1
  obtain ⟨sp, rfl, s3, n3⟩ := seq_at q3 al3
  obtain ⟨a, rfl, s2, _⟩ := q2
  obtain ⟨ek, n2⟩ := keys_of al2
  have en : namesAll (.seq d1) (.dic kvs) (.seq d3) = strsD d1 ++ keysS kvs ++ strsD d3 := rfl
  rw [en] at k
  generalize strsD d1 = hs at *
  generalize strsD d3 = ss at *
  generalize keysS kvs = as at *
  refine ⟨_, rfl, h, _, rfl, s1.same g13, fun p1 f1 => ?_⟩
  have g4 := g13.trans (same_new f1 (.lst (hs.map V.str)))
  have e1 : upd H3 p1 (.lst (hs.map V.str)) p1 = some (.lst (hs.map V.str)) := upd_same
  generalize upd H3 p1 (.lst (hs.map V.str)) = H4 at *
  refine ⟨_, rfl, a, _, rfl, Rd.of (g4 _ _ s2), fun p2 f2 => ?_⟩
  rw [ek]
  have g45 := same_new f2 (.lst (as.map V.str))
  have g5 := g4.trans g45
  have e2 : upd H4 p2 (.lst (as.map V.str)) p2 = some (.lst (as.map V.str)) := upd_same
  have e1' := g45 _ _ e1
  generalize upd H4 p2 (.lst (as.map V.str)) = H5 at *
  refine ⟨p1, p2, _, _, rfl, rfl, e1', e2, ?_, fun p3 f3 => ?_⟩
  · rw [List.length_map, List.length_map]
    exact Nat.le_of_lt (small1000 (by omega))
  have g56 := same_new f3 (.lst (hs.map V.str ++ as.map V.str))
  have g6 := g5.trans g56
  have e3 : upd H5 p3 (.lst (hs.map V.str ++ as.map V.str)) p3 = some (.lst (hs.map V.str ++ as.map V.str)) := upd_same
  generalize upd H5 p3 (.lst (hs.map V.str ++ as.map V.str)) = H6 at *
  refine ⟨_, rfl, sp, _, rfl, s3.same g6, fun p4 f4 => ?_⟩
  have g67 := same_new f4 (.lst (ss.map V.str))
  have g7 := g6.trans g67
  have e4 : upd H6 p4 (.lst (ss.map V.str)) p4 = some (.lst (ss.map V.str)) := upd_same
  have e3' := g67 _ _ e3
  generalize upd H6 p4 (.lst (ss.map V.str)) = H7 at *
  refine ⟨p3, p4, _, _, rfl, rfl, e3', e4, ?_, fun p5 f5 => ?_⟩
  · rw [List.length_append, List.length_map, List.length_map, List.length_map]
    exact Nat.le_of_lt (small1000 (by omega))
  rw [← List.map_append, ← List.map_append]
  have g8 := g7.trans (same_new f5 (.lst ((hs ++ as ++ ss).map V.str)))
  have e5 : upd H7 p5 (.lst ((hs ++ as ++ ss).map V.str)) p5 = some (.lst ((hs ++ as ++ ss).map V.str)) := upd_same
  generalize upd H7 p5 (.lst ((hs ++ as ++ ss).map V.str)) = H8 at *
  have ll : (hs ++ as ++ ss).length < 100 := by
    rw [List.length_append, List.length_append]
    omega
  refine ⟨_, rfl, p5, _, rfl, .inl (SqL.of e5), ll, _, rfl, p5, _, rfl, .inl (SqL.of e5), _, _, rfl, rfl, _, rfl, ?_⟩
  rw [List.length_map]
  by_cases c : newT (hs ++ as ++ ss) (hs ++ as ++ ss).length < (hs ++ as ++ ss).length
  · rw [if_pos c] at k
    rw [decide_eq_true (by omega)]
    exact iteT (k _ g8)
  · rw [if_neg c] at k
    rw [decide_eq_false (by omega)]
    exact iteF (k _ g8)
/-! ### the two errors -/
def sp_bcinit (C : Addr) : Sp := fun vs H Q _ => ∃ (a : Addr) (v : V), vs = [.ref a, v] ∧ H a = some (exo a C none) ∧ ∀ dx : Addr, H dx = none → dx ≠ a → Q .non (upd (upd H dx (exd dx [("part", v)])) a (exo a C (some dx)))
theorem ok_BadColumns_init (T : Txt K mg) : FnOk P w K mg base CX0 1 T.a_BadColumns_init T.d_BadColumns_init ["self", "part"] (sp_bcinit T.c_BadColumns) := by

  refine T.F_BadColumns_init.ok sc_BadColumns_init (fun vs H Q E h => ?_) (fun cdv A outer s H vs Q E hr h => ?_)
  · obtain ⟨a, v, rfl, _⟩ := h
    rfl
  obtain ⟨a, v, rfl, he, k⟩ := h
  refine ⟨_, (pss_cons (ps_expr (pe_baseinit (by rfl) T.m_SieveError T.r_SieveError T.i_SieveError (pa_cons (pv 0) (pa_cons pe_str pa_nil))))
    (pss_one (ps_ost (pv 0) (pv 1)))), ?_⟩
  refine ⟨_, rfl, a, T.c_BadColumns, _, rfl, (by show 1 ≤ 1000; decide), T.x_BadColumns, he, ?_⟩
  exact ⟨_, rfl, _, rfl, a, T.c_BadColumns, rfl, T.x_BadColumns, T.xn_BadColumns, .inl ⟨he, fun dx n ne => k dx n ne⟩⟩

end
end My
set_option Elab.async false
set_option linter.all false
set_option maxRecDepth 100000
set_option maxHeartbeats 400000
namespace My
open PySem L2 PySem.Spec PyProof.Rows
section
variable {P : Program} {w : World} {K : PySem.W.Frag} {mg : Str → Option Value} {base : Heap}
/-! ### sorted texts are told by what is in them -/
theorem cps_nil_r : ∀ a : List Nat, Spec.ltCps a [] = false
  | [] => rfl
  | _ :: _ => rfl
theorem cps_cons (a b : Nat) (l m : List Nat) : Spec.ltCps (a :: l) (b :: m) = (decide (a < b) || a == b && Spec.ltCps l m) := by
  rw [Spec.ltCps]
theorem cps_anti : ∀ a b : List Nat, Spec.ltCps a b = false → Spec.ltCps b a = false → a = b
  | [], [], _, _ => rfl
  | [], _ :: _, h, _ => by cases h
  | _ :: _, [], _, h => by cases h
  | a :: l, b :: m, h1, h2 => by
    rw [cps_cons, Bool.or_eq_false_iff] at h1 h2
    have n1 := of_decide_eq_false h1.1
    have n2 := of_decide_eq_false h2.1
    obtain rfl : a = b := by omega
    have e1 : Spec.ltCps l m = false := by simpa using h1.2
    have e2 : Spec.ltCps m l = false := by simpa using h2.2
    rw [cps_anti l m e1 e2]
/-- a is not behind b -/
theorem cps_trans : ∀ a b c : List Nat, Spec.ltCps b a = false → Spec.ltCps c b = false → Spec.ltCps c a = false
  | [], _, c, _, _ => cps_nil_r c
  | a :: l, [], _, h1, _ => by cases h1
  | a :: l, b :: m, [], _, h2 => by cases h2
  | a :: l, b :: m, c :: n, h1, h2 => by
    rw [cps_cons, Bool.or_eq_false_iff] at h1 h2 ⊢
    have n1 := of_decide_eq_false h1.1
    have n2 := of_decide_eq_false h2.1
    refine ⟨decide_eq_false (by omega), ?_⟩
    by_cases e : c = a
    · subst e
      obtain rfl : c = b := by omega
      have e1 : Spec.ltCps m l = false := by simpa using h1.2
      have e2 : Spec.ltCps n m = false := by simpa using h2.2
      rw [cps_trans l m n e1 e2, Bool.and_false]
    · have : (c == a) = false := beq_eq_false_iff_ne.mpr e
      rw [this, Bool.false_and]
def leS (a b : Str) : Prop := Spec.ltCps b.cps.toList a.cps.toList = false
theorem rising_pair : ∀ (l : List Str) (p : Str), risingS p l = true → (∀ q ∈ l, leS p q) ∧ l.Pairwise leS
  | [], _, _ => ⟨fun _ h => (by cases h), List.Pairwise.nil⟩
  | x :: r, p, h => by
    rw [risingS, Bool.and_eq_true] at h
    obtain ⟨h1, h2⟩ := rising_pair r x h.2
    have hx : leS p x := by
      have := h.1
      unfold leS
      simpa using this
    refine ⟨fun q hq => ?_, .cons h1 h2⟩
    rcases List.mem_cons.mp hq with rfl | hq
    · exact hx
    · exact cps_trans _ _ _ hx (h1 q hq)
theorem sorted_pair {l : List Str} (h : sortedS l = true) : l.Pairwise leS := by
  cases l with
  | nil => exact .nil
  | cons p r =>
    obtain ⟨h1, h2⟩ := rising_pair r p h
    exact .cons h1 h2
theorem sort_one {l m : List Str} (p : l.Perm m) (h1 : sortedS l = true) (h2 : sortedS m = true) : l = m :=
  List.Perm.eq_of_pairwise (le := leS) (fun a b _ _ x y => by
    obtain ⟨a⟩ := a
    obtain ⟨b⟩ := b
    have e := cps_anti _ _ y x
    exact congrArg Str.mk (Array.ext' e)) (sorted_pair h1) (sorted_pair h2) p
def leB (a b : Str) : Bool := !Spec.ltCps b.cps.toList a.cps.toList
/-- a row of texts in order -/
def sortS (l : List Str) : List Str := l.mergeSort leB
theorem sortS_perm (l : List Str) : (sortS l).Perm l := List.mergeSort_perm l leB
theorem sortS_sorted (l : List Str) : sortedS (sortS l) = true := by
  let le : Str → Str → Bool := leB
  have tr : ∀ a b c : Str, le a b = true → le b c = true → le a c = true := fun a b c x y => by
    have := cps_trans a.cps.toList b.cps.toList c.cps.toList (by simpa [le, leB] using x) (by simpa [le, leB] using y)
    simpa [le, leB] using this
  have tot : ∀ a b : Str, (le a b || le b a) = true := fun a b => by
    cases e : Spec.ltCps b.cps.toList a.cps.toList with
    | false => simp [le, leB, e]
    | true =>
      have : Spec.ltCps a.cps.toList b.cps.toList = false := by
        have go : ∀ x y : List Nat, Spec.ltCps x y = true → Spec.ltCps y x = false := fun x => by
          induction x with
          | nil => exact fun y _ => cps_nil_r y
          | cons i x ih =>
            intro y h
            cases y with
            | nil => cases h
            | cons j y =>
              rw [cps_cons] at h ⊢
              rw [Bool.or_eq_true] at h
              rcases h with h | h
              · have := of_decide_eq_true h
                rw [decide_eq_false (by omega), beq_eq_false_iff_ne.mpr (by omega)]
                rfl
              · rw [Bool.and_eq_true] at h
                have ij : i = j := by simpa using h.1
                subst ij
                rw [ih y h.2, decide_eq_false (by omega), Bool.and_false]
                rfl
        exact go _ _ e
      simp [le, leB, this]
  refine sortedS_of_pairwise _ ?_
  have := List.pairwise_mergeSort (le := le) tr tot l
  exact this.imp fun {a b} h => by simpa [le, leB] using h
theorem sort_eq {l m : List Str} (p : l.Perm m) (h : sortedS l = true) : l = sortS m := sort_one (p.trans (sortS_perm m).symm) h (sortS_sorted m)

end
end My
set_option Elab.async false
set_option linter.all false
set_option maxRecDepth 100000
set_option maxHeartbeats 400000
namespace My
open PySem L2 PySem.Spec PyProof.Rows
section
variable {P : Program} {w : World} {K : PySem.W.Frag} {mg : Str → Option Value} {base : Heap}
theorem told_len : ∀ i : Nat, i < 61 → ((Str.empty ++ (Str.ofString "wrong row of a table: ")) ++ Str.ofString (toString (i : Int))).length ≤ sizeLine := by decide +kernel
def sp_btinit (C : Addr) : Sp := fun vs H Q _ => ∃ (a : Addr) (v : V), vs = [.ref a, v] ∧ (v = .non ∨ ∃ i : Nat, v = .int (i : Int) ∧ i < 61) ∧ H a = some (exo a C none) ∧ ∀ dx : Addr, H dx = none → dx ≠ a → Q .non (upd (upd H dx (exd dx [("number", v)])) a (exo a C (some dx)))
theorem ok_BadTable_init (T : Txt K mg) : FnOk P w K mg base CX0 1 T.a_BadTable_init T.d_BadTable_init ["self", "number"] (sp_btinit T.c_BadTable) := by

  refine T.F_BadTable_init.ok sc_BadTable_init (fun vs H Q E h => ?_) (fun cdv A outer s H vs Q E hr h => ?_)
  · obtain ⟨a, v, rfl, _⟩ := h
    rfl
  obtain ⟨a, v, rfl, hv, he, k⟩ := h
  refine ⟨_, (pss_cons (ps_expr (pe_baseinit (by rfl) T.m_SieveError T.r_SieveError T.i_SieveError (pa_cons (pv 0) (pa_cons (pe_joined (.cons pe_str (.cons (pe_fmtN (pv 1)) .nil))) pa_nil))))
    (pss_one (ps_ost (pv 0) (pv 1)))), ?_⟩
  refine ⟨_, rfl, ?_⟩
  have next : ∃ y : Str, (v = .non ∧ y = "None" ∨ ∃ i : Nat, v = .int (i : Int) ∧ y = Str.ofString (toString (i : Int)) ∧ i < 61) ∧ ((Str.empty ++ (Str.ofString "wrong row of a table: ")) ++ y).length ≤ sizeLine := by
    rcases hv with rfl | ⟨i, rfl, hi⟩
    · exact ⟨_, .inl ⟨rfl, rfl⟩, by decide +kernel⟩
    · exact ⟨_, .inr ⟨i, rfl, rfl, hi⟩, told_len i hi⟩
  obtain ⟨y, hy, room⟩ := next
  refine ⟨_, rfl, (by decide +kernel), ⟨_, rfl, ?_⟩⟩
  have rest : ∀ z : V, ∃ a_1 C ws, [V.ref a, z] = V.ref a_1 :: ws ∧ ws.length ≤ 1000 ∧ OexC K C ∧ H a_1 = some (exo a_1 C none) ∧
      (tOst K "number" (tVar 0) (tVar 1) { nx := fun x H' => Q V.non H', rt := Q }) (L2.start [("self" : Str), "number"] [V.ref a, v]) H := fun z =>
    ⟨a, T.c_BadTable, [z], rfl, (by show 1 ≤ 1000; decide), T.x_BadTable, he, ⟨_, rfl, _, rfl, a, T.c_BadTable, rfl, T.x_BadTable, T.xn_BadTable, .inl ⟨he, fun dx n ne => k dx n ne⟩⟩⟩
  rcases hy with ⟨rfl, rfl⟩ | ⟨i, rfl, rfl, hi⟩
  · exact .inl ⟨rfl, _, rfl, room, rest _⟩
  · refine .inr (.inr ⟨_, rfl, ?_, _, rfl, room, rest _⟩)
    have : (i : Int).natAbs.log2 < 1920 := by
      show i.log2 < 1920
      exact Nat.lt_trans (PySem.Flt.log2_lt_of (k := 6) (by decide) (by omega)) (by decide)
    exact this

end
end My
set_option Elab.async false
set_option linter.all false
set_option maxRecDepth 100000
set_option maxHeartbeats 400000
namespace My
open PySem L2 PySem.Spec PyProof.Rows
section
variable {P : Program} {w : World} {K : PySem.W.Frag} {mg : Str → Option Value} {base : Heap}
/-! ### columns -/
def asD (kvs : List (Key × V)) : List (Str × Bool) := kvs.filterMap fun p => match p with | (.inr s, .str k) => some (s, k == ("number" : Str)) | _ => none
def kvsOf (as : List (Str × Bool)) : List (Key × V) := as.map fun p => (Sum.inr p.1, kindV p.2)
theorem kvs_as : ∀ {kvs : List (Key × V)}, (kvs.all fun p => nameD (keyD p.1) && kindW p.2) = true → kvs = kvsOf (asD kvs) ∧ keysS kvs = (asD kvs).map Prod.fst ∧ (asD kvs).length = kvs.length
  | [], _ => ⟨rfl, rfl, rfl⟩
  | (k, v) :: r, h => by
    rw [List.all_cons, Bool.and_eq_true, Bool.and_eq_true] at h
    obtain ⟨e1, e2, e3⟩ := kvs_as h.2
    cases k with
    | inl i => cases h.1.1
    | inr s =>
      cases v with
      | str x =>
        have e : asD ((.inr s, .str x) :: r) = (s, x == ("number" : Str)) :: asD r := rfl
        have hv : V.str x = kindV (x == ("number" : Str)) := by
          have hw : (x == ("number" : Str) || x == ("text" : Str)) = true := h.1.2
          cases c : (x == ("number" : Str)) with
          | true =>
            rw [eq_of_beq c]
            rfl
          | false =>
            rw [c, Bool.false_or] at hw
            rw [eq_of_beq hw]
            rfl
        rw [e]
        refine ⟨?_, ?_, by rw [List.length_cons, List.length_cons, e3]⟩
        · show _ = ((Sum.inr s : Key), kindV _) :: kvsOf (asD r)
          rw [← e1, ← hv]
        · show s :: keysS r = s :: _
          rw [e2]
      | _ => cases h.1.2
theorem keys_kvs (as : List (Str × Bool)) : (kvsOf as).map (fun x => x.1) = (as.map Prod.fst).map Sum.inr := by
  unfold kvsOf
  rw [List.map_map, List.map_map]
  rfl
def askOf (as : List (Str × Bool)) (n : Str) : Option Bool := (as.find? fun p => decide (p.1 = n)).map Prod.snd
theorem askOf_val (as : List (Str × Bool)) (n : Str) : valV (kvsOf as) (Sum.inr n) = (askOf as n).map kindV := by
  induction as with
  | nil => rfl
  | cons p as ih =>
    unfold askOf at ih ⊢
    by_cases e : p.1 = n
    · have e1 : valV (kvsOf (p :: as)) (Sum.inr n) = some (kindV p.2) := valV_pos (congrArg Sum.inr e)
      rw [e1, List.find?_cons_of_pos (by simpa using e)]
      rfl
    · have e1 : valV (kvsOf (p :: as)) (Sum.inr n) = valV (kvsOf as) (Sum.inr n) := valV_neg (fun z => e (Sum.inr.inj z))
      rw [e1, ih, List.find?_cons_of_neg (by simpa using e)]
/-- what is asked, in order -/
def sortA (as : List (Str × Bool)) : List (Str × Bool) := (sortS (as.map Prod.fst)).map fun n => (n, (askOf as n).getD false)
theorem askOf_mem {as : List (Str × Bool)} {n : Str} (h : n ∈ as.map Prod.fst) : ∃ b, askOf as n = some b := by
  induction as with
  | nil => cases h
  | cons p as ih =>
    unfold askOf at ih ⊢
    by_cases e : p.1 = n
    · exact ⟨p.2, by rw [List.find?_cons_of_pos (by simpa using e)]; rfl⟩
    · rw [List.find?_cons_of_neg (by simpa using e)]
      rw [List.map_cons, List.mem_cons] at h
      exact ih (h.resolve_left (Ne.symm e))
/-- an instance of the class: its three parts -/
def ColsAt (K : PySem.W.Frag) (C : Addr) (H : Hp) (p : Addr) (hs : List Str) (as : List (Str × Bool)) (ss : List Str) : Prop := ∃ dx t D u, H p = some (.ins C dx [("hashed", .ref t), ("_asked", .ref D), ("summed", .ref u)]) ∧ SqT K H t (hs.map V.str) ∧ H D = some (.dK (kvsOf as)) ∧ SqT K H u (ss.map V.str)
theorem ColsAt.same {K : PySem.W.Frag} {C : Addr} {H H' : Hp} {p : Addr} {hs : List Str} {as : List (Str × Bool)} {ss : List Str} (g : Same H H') (h : ColsAt K C H p hs as ss) : ColsAt K C H' p hs as ss := by
  obtain ⟨dx, t, D, u, h1, h2, h3, h4⟩ := h
  exact ⟨dx, t, D, u, g _ _ h1, Same.tup g h2, g _ _ h3, Same.tup g h4⟩
def asA : DicA → List (Str × Bool)
  | .oth _ => []
  | .dic kvs => asD kvs
/-- what holds of parts that are taken -/
structure ColsOk (hs : List Str) (as : List (Str × Bool)) (ss : List Str) : Prop where
  nh : ∀ n ∈ hs, nameB n = true
  na : ∀ n ∈ as.map Prod.fst, nameB n = true
  ns : ∀ n ∈ ss, nameB n = true
  nda : (as.map Prod.fst).Nodup
  lh : hs.length ≤ 2
  la : as.length ≤ 4
  ls : ss.length ≤ 2
theorem dc_list {K : PySem.W.Frag} {a : Addr} {xs : List V} {g : TG} {tt : TT} {tk tv : TE} {vs : List Nat} {σ : L2.St} {H1 : Hp} {D : Addr} {Qd : Hp → Prop} (Pv : Nat → Hp → Prop) (h0 : Pv 0 (upd H1 D (.dK []))) (hl : ∀ i H, Pv i H → SqL K H a xs)
    (hs : ∀ i x H, xs[i]? = some x → Pv i H → g x (wipe σ vs) H fun σ2 H2 => wipe σ2 vs = wipe σ vs ∧ tt σ2 H2 fun b H3 =>
      if b = true then tk σ2 H3 fun y H4 => tv σ2 H4 fun z H5 => ∃ kvs k, y = kV k ∧ H5 D = some (.dK kvs) ∧ kvs.length < sizeLine ∧ Pv (i + 1) (upd H5 D (.dK (putK kvs k z))) else Pv (i + 1) H3) (hd : ∀ H, Pv xs.length H → Qd H) :
    ∃ W : Nat → Nat → Hp → Prop, (∃ m, W 0 m (upd H1 D (.dK []))) ∧ ∀ i m H, W i m H →
      ((Itl K a).stop i H ∧ Qd H) ∨ ((Itl K a).go i H ∧ ∃ Nx : Hp → Prop, (∀ H', Nx H' → ∃ m', m' < m ∧ W (i + 1) m' H') ∧ ∀ x H', (Itl K a).yld i H x H' → g x (wipe σ vs) H' fun σ2 H2 => wipe σ2 vs = wipe σ vs ∧ tt σ2 H2 fun b H3 =>
        if b = true then tk σ2 H3 fun y H4 => tv σ2 H4 fun z H5 => ∃ kvs k, y = kV k ∧ H5 D = some (.dK kvs) ∧ kvs.length < sizeLine ∧ Nx (upd H5 D (.dK (putK kvs k z))) else Nx H3) := by
  refine ⟨fun i m H => i + m = xs.length ∧ Pv i H, ⟨xs.length, by simp, h0⟩, fun i m H w => ?_⟩
  obtain ⟨e, p⟩ := w
  have q := hl i H p
  cases m with
  | zero =>
    obtain rfl : i = xs.length := by omega
    exact .inl ⟨⟨xs, q, Nat.le_refl _⟩, hd H p⟩
  | succ m =>
    have lt : i < xs.length := by omega
    refine .inr ⟨⟨xs, xs[i], q, List.getElem?_eq_getElem lt⟩, Pv (i + 1), fun H' z => ⟨m, Nat.lt_succ_self _, by omega, z⟩, fun x H' y => ?_⟩
    obtain ⟨rfl, y⟩ := y
    exact hs i x _ (y xs q) p
/-- a change of an object leaves a row -/
theorem sqa_put {K : PySem.W.Frag} {H : Hp} {p a C dx : Addr} {fs : List (Str × V)} {xs : List V} {o : HO} (hp : H p = some (.ins C dx fs)) (h : SqA K H a xs) : SqA K (upd H p o) a xs := by
  rcases h with ((h | ⟨q, h⟩) | h) | ((h | ⟨q, h⟩) | h)
  · refine .inl (.inl (.inl ?_))
    rw [upd_ne (ne_of h hp (by intro z; cases z))]
    exact h
  · refine .inl (.inl (.inr ⟨q, ?_⟩))
    rw [upd_ne (ne_of h hp (by intro z; cases z))]
    exact h
  · exact .inl (.inr h)
  · refine .inr (.inl (.inl ?_))
    rw [upd_ne (ne_of h hp (by intro z; cases z))]
    exact h
  · refine .inr (.inl (.inr ⟨q, ?_⟩))
    rw [upd_ne (ne_of h hp (by intro z; cases z))]
    exact h
  · exact .inr (.inr h)
theorem sqt_put {K : PySem.W.Frag} {H : Hp} {p a C dx : Addr} {fs : List (Str × V)} {xs : List V} {o : HO} (hp : H p = some (.ins C dx fs)) (h : SqT K H a xs) : SqT K (upd H p o) a xs := by
  rcases h with (h | ⟨q, h⟩) | h
  · refine .inl (.inl ?_)
    rw [upd_ne (ne_of h hp (by intro z; cases z))]
    exact h
  · refine .inl (.inr ⟨q, ?_⟩)
    rw [upd_ne (ne_of h hp (by intro z; cases z))]
    exact h
  · exact .inr h
theorem TupN.same {H H' : Hp} {a : Addr} {xs : List V} (g : Same H H') (h : TupN H a xs) : TupN H' a xs := by
  obtain ⟨o, nd, h⟩ := h
  exact ⟨o, nd, g _ _ h⟩
theorem tupn_put {H : Hp} {p a C dx : Addr} {fs : List (Str × V)} {xs : List V} {o : HO} (hp : H p = some (.ins C dx fs)) (h : TupN H a xs) : TupN (upd H p o) a xs := by
  obtain ⟨ob, nd, h⟩ := h
  refine ⟨ob, nd, ?_⟩
  rw [upd_ne (ne_of h hp (by intro z; cases z))]
  exact h
theorem but_put {H H' : Hp} {p : Addr} {o : HO} (g : But p H H') : But p H (upd H' p o) := fun b u n e => by
  rw [upd_ne n]
  exact g b u n e
theorem colsF1 (x y : V) : putF "_asked" y (putF "hashed" x []) = [(("hashed" : Str), x), (("_asked" : Str), y)] := (if_neg (by decide +kernel)).trans rfl
theorem colsF2 (x y z : V) : putF "summed" z (putF "_asked" y (putF "hashed" x [])) = [(("hashed" : Str), x), (("_asked" : Str), y), (("summed" : Str), z)] := by
  rw [colsF1]
  exact (if_neg (by decide +kernel)).trans (congrArg _ (if_neg (by decide +kernel)))
theorem look_tail {f g : Str} {v : V} {r : List (Str × V)} (h : (f == g) = false) : List.lookup f ((g, v) :: r) = List.lookup f r := by
  rw [List.lookup_cons, h]
theorem look_head {f : Str} {v : V} {r : List (Str × V)} : List.lookup f ((f, v) :: r) = some v := by
  rw [List.lookup_cons, beq_self_eq_true]
def sp_cinit (C CB : Addr) (K : PySem.W.Frag) : Sp := fun vs H Q E => ∃ (p dx : Addr) (hv av sv : V) (h : RowA) (a : DicA) (s : RowA), vs = [.ref p, hv, av, sv] ∧ H p = some (.ins C dx []) ∧ RowAt K H hv h ∧ DicAt K H av a ∧ RowAt K H sv s ∧ StrsOk h ∧ StrsOk s ∧ (∀ ds, h = .seq ds → ∃ a xs, hv = .ref a ∧ SqA K H a xs ∧ DpAll K H xs ds) ∧
  (wrongR h a s = none → ∀ H', But p H H' → ColsAt K C H' p (strsA h) (sortA (asA a)) (strsA s) → ColsOk (strsA h) (sortA (asA a)) (strsA s) → Q .non H') ∧
  (∀ w, wrongR h a s = some w → ∀ (dx : Addr) (H' : Hp), Same H H' → H' dx = some (.xd [("part", .str w)]) → E (.ref CB) (some dx) H')
theorem wrong_none {h : RowA} {a : DicA} {s : RowA} (e : wrongR h a s = none) : ∃ d1 kvs d3, h = .seq d1 ∧ a = .dic kvs ∧ s = .seq d3 ∧ d1.length ≤ 2 ∧ kvs.length ≤ 4 ∧ d3.length ≤ 2 ∧ (d1.all nameD) = true ∧ (kvs.all fun p => nameD (keyD p.1) && kindW p.2) = true ∧ (d3.all nameD) = true := by
  unfold wrongR at e
  cases c1 : namesR 2 h with
  | false =>
    rw [if_pos c1] at e
    cases e
  | true =>
  rw [if_neg (by rw [c1]; exact Bool.noConfusion)] at e
  cases c2 : askedR a with
  | false =>
    rw [if_pos c2] at e
    cases e
  | true =>
  rw [if_neg (by rw [c2]; exact Bool.noConfusion)] at e
  cases c3 : namesR 2 s with
  | false =>
    rw [if_pos c3] at e
    cases e
  | true =>
  obtain ⟨d1, rfl, l1, al1, _⟩ := names_of c1
  obtain ⟨kvs, rfl, l2, al2⟩ := asked_of c2
  obtain ⟨d3, rfl, l3, al3, _⟩ := names_of c3
  exact ⟨d1, kvs, d3, rfl, rfl, rfl, by omega, l2, by omega, al1, al2, al3⟩
theorem strs_name {ds : List PyData} (h : (ds.all nameD) = true) : ∀ n ∈ strsD ds, nameB n = true := fun n hn => by
  obtain ⟨d, hd, e⟩ := List.mem_filterMap.mp hn
  have := List.all_eq_true.mp h d hd
  cases d with
  | str s =>
    cases e
    exact this
  | _ => cases e
theorem keys_name {kvs : List (Key × V)} (h : (kvs.all fun p => nameD (keyD p.1) && kindW p.2) = true) : ∀ n ∈ keysS kvs, nameB n = true := fun n hn => by
  obtain ⟨d, hd, e⟩ := List.mem_filterMap.mp hn
  have := List.all_eq_true.mp h d hd
  rw [Bool.and_eq_true] at this
  obtain ⟨k, v⟩ := d
  cases k with
  | inr s =>
    cases e
    exact this.1
  | inl i => cases e
theorem name_cps {n : Str} (h : nameB n = true) : 1 ≤ n.length ∧ n.length ≤ 8 ∧ PyData.strOk n = true := by
  unfold nameB at h
  rw [Bool.and_eq_true, Bool.and_eq_true, Bool.and_eq_true] at h
  refine ⟨of_decide_eq_true h.1.1.1, of_decide_eq_true h.1.1.2, ?_⟩
  unfold PyData.strOk
  rw [← Array.all_toList, List.all_eq_true]
  intro c hc
  have := of_decide_eq_true (List.all_eq_true.mp h.2 c hc)
  have all_ : ∀ c ∈ letL.cps.toList, c < 1114112 := by decide +kernel
  exact decide_eq_true (all_ c this)

end
end My
set_option Elab.async false
set_option linter.all false
set_option maxRecDepth 100000
set_option maxHeartbeats 400000
namespace My
open PySem L2 PySem.Spec PyProof.Rows
section
variable {P : Program} {w : World} {K : PySem.W.Frag} {mg : Str → Option Value} {base : Heap}
theorem take_more' {α : Type} {l : List α} {i : Nat} {x : α} (h : l[i]? = some x) : l.take (i + 1) = l.take i ++ [x] := by
  rw [List.take_add_one, h]
  rfl
theorem sorted_nd {as : List (Str × Bool)} (h : (as.map Prod.fst).Nodup) : ((sortA as).map Prod.fst).Nodup := by
  unfold sortA
  rw [List.map_map]
  have : (Prod.fst ∘ fun n => ((n, (askOf as n).getD false) : Str × Bool)) = id := rfl
  rw [this, List.map_id]
  exact (sortS_perm _).nodup_iff.mpr h
theorem sorted_fst (as : List (Str × Bool)) : (sortA as).map Prod.fst = sortS (as.map Prod.fst) := by
  unfold sortA
  rw [List.map_map]
  have : (Prod.fst ∘ fun n => ((n, (askOf as n).getD false) : Str × Bool)) = id := rfl
  rw [this, List.map_id]
theorem sorted_len (as : List (Str × Bool)) : (sortA as).length = as.length := by
  rw [sortA, List.length_map, (sortS_perm _).length_eq, List.length_map]
theorem putK_new (kvs : List (Key × V)) (k : Key) (v : V) (h : k ∉ kvs.map Prod.fst) : putK kvs k v = kvs ++ [(k, v)] := by
  have n : ¬ (kvs.any fun kv => decide (kv.1 = k)) = true := fun e => by
    obtain ⟨x, hx, e⟩ := List.any_eq_true.mp e
    exact h (List.mem_map.mpr ⟨x, hx, of_decide_eq_true e⟩)
  rw [putK, if_neg n]
/-- tuple(x), x a list or a tuple -/
def rTupA (K : PySem.W.Frag) : List V → Hp → VK → Prop := fun xs H Q => ∃ p ys, xs = [V.ref p] ∧ SqA K H p ys ∧ ∀ t H2, Same H H2 → SqT K H2 t ys → Q (.ref t) H2
theorem call_tupA {X : Cx} : CallR X (.type "tuple") (rTupA X.K) := fun pins s σ H xs us Q I r want => call_tuple_of pins s σ H xs us Q I r (by
  obtain ⟨p, ys, e, h, k⟩ := want
  rcases h with h | h
  · exact ⟨p, ys, e, .inl ⟨h, fun l hl => k l _ (same_new hl _) (SqT.of upd_same)⟩⟩
  · exact ⟨p, ys, e, .inr ⟨h, k p H (Same.refl _) h⟩⟩)
theorem ok_Columns_init (T : Txt K mg) : FnOk P w K mg base (L2.CX P w) 4 T.a_Columns_init T.d_Columns_init ["self", "hashed", "asked", "summed"] (sp_cinit T.c_Columns T.c_BadColumns K) := by
  have G_wrong_part := ok_wrong_part (P := P) (w := w) (base := base) T
  have G_BadColumns_init := ok_BadColumns_init (P := P) (w := w) (base := base) T
  refine T.F_Columns_init.okX sc_Columns_init (fun vs H Q E h => ?_) (fun cdv A outer s H vs Q E hr h => ?_)
  · obtain ⟨p, dx, hv, av, sv, h, a, s, rfl, _⟩ := h
    rfl
  obtain ⟨p, dx, hv, av, sv, h, a, sm, rfl, hp, q1, q2, q3, o1, o3, tn, kQ, kE⟩ := h
  refine ⟨_, (pss_cons (ps_set (i := 4) sc_Columns_init.nd rfl (by first | exact Or.inl rfl | exact Or.inr rfl) (pe_call G_wrong_part (hr.mono (by first | decide | omega)) (by rfl) T.m_wrong_part T.F_wrong_part.kp T.b_wrong_part .nil pass0 (pa_cons (pv 1) (pa_cons (pv 2) (pa_cons (pv 3) pa_nil)))))
    (pss_cons (ps_if (pt_cmpR op_notN (pv 4) pe_non (nomark _)) (pss_one (ps_raise rfl (takes_of rfl rfl rfl rfl) (pmk_oex T.x_BadColumns T.xi_BadColumns T.xt_BadColumns G_BadColumns_init (hr.mono (by first | decide | omega)) T.b_BadColumns_init .nil pass0 (by rfl) T.m_BadColumns (pa_cons (pv 4) pa_nil)))) pss_nil)
    (pss_cons (ps_fld (pv 0) (pe_callTy call_tupA (by rfl) T.z_tuple (by decide +kernel) (pa_cons (pv 1) pa_nil)) rfl)
    (pss_cons (ps_fld (pv 0) (pe_dc (own := [("name", 5)]) rfl sc_Columns_init.nd (pi_list (pe_callB (call_sortedD rfl) (by rfl) T.z_sorted (by decide +kernel) (pa_cons (pv 2) pa_nil))) (blkOk_by (own := [("name", 5)]) (N := ["self", "hashed", "asked", "summed", "part", "name"]) (sc := defScope s_Columns_init) (by decide +kernel)) (fun _ _ _ _ _ => (pg_name (i := 5) sc_Columns_init.nd rfl (by first | exact Or.inl rfl | exact Or.inr rfl))) (fun _ _ _ _ _ => pts_nil) (fun _ _ _ _ _ => (pv 5)) (fun _ _ _ _ _ => (pe_dget (hu_of hr) (pv 2) (pv 5) (fun _ _ => rfl)))) rfl)
    (pss_one (ps_fld (pv 0) (pe_callTy call_tupA (by rfl) T.z_tuple (by decide +kernel) (pa_cons (pv 3) pa_nil)) rfl)))))), ?_⟩
  refine ⟨_, rfl, _, rfl, _, rfl, hv, av, sv, h, a, sm, rfl, q1, q2, q3, o1, o3, fun H1 g1 => ?_⟩
  cases ew : wrongR h a sm with
  | some bad =>
    refine ⟨_, rfl, rfl, _, rfl, iteT ?_⟩
    refine ⟨_, rfl, (by show 1 ≤ 1000; decide), fun e he => ⟨e, .str bad, rfl, upd_same, fun dx hdx ne => ⟨rfl, dx, [("part", .str bad)], upd_same, ?_, ?_, ?_⟩⟩⟩
    · rw [upd_ne ne]
      exact upd_same
    · rw [upd_ne ne] at hdx
      exact hdx
    · rw [upd_ne ne] at hdx
      refine kE bad ew dx _ (fun b o hb => ?_) upd_same
      have hb2 := g1 b o hb
      have n1 : b ≠ dx := ne_of_none hb2 hdx
      have n2 : b ≠ e := ne_of_none hb2 he
      rw [upd_ne n1, del_ne n2, upd_ne n2, upd_ne n1, upd_ne n2]
      exact hb2
  | none =>
  have kQ := kQ ew
  obtain ⟨d1, kvs, d3, rfl, rfl, rfl, l1, l2, l3, al1, al2, al3⟩ := wrong_none ew
  obtain ⟨h, xs1, rfl, s1, dp1⟩ := tn d1 rfl
  obtain ⟨ex1, n1⟩ := strs_of dp1 al1
  subst ex1
  obtain ⟨sm, rfl, s3, n3⟩ := seq_at q3 al3
  obtain ⟨a, rfl, s2, kok⟩ := q2
  obtain ⟨ekv, eks, elen⟩ := kvs_as al2
  have nda : ((asD kvs).map Prod.fst).Nodup := by
    have := kok.nd
    rw [ekv] at this
    have e : (kvsOf (asD kvs)).map Prod.fst = ((asD kvs).map Prod.fst).map Sum.inr := keys_kvs _
    rw [e] at this
    exact (List.pairwise_map.mp this).imp fun h e => h (congrArg Sum.inr e)
  have sh : strsA (.seq d1) = strsD d1 := rfl
  have ss_ : strsA (.seq d3) = strsD d3 := rfl
  have sa : asA (.dic kvs) = asD kvs := rfl
  rw [sh, ss_, sa] at kQ
  have nh := strs_name al1
  have ns := strs_name al3
  have nk := keys_name al2
  rw [eks] at nk
  rw [ekv] at s2
  have la : (asD kvs).length ≤ 4 := by omega
  have lh : (strsD d1).length ≤ 2 := by omega
  have ls : (strsD d3).length ≤ 2 := by omega
  generalize strsD d1 = hs at *
  generalize strsD d3 = ss at *
  generalize asD kvs = as at *
  refine ⟨_, rfl, rfl, _, rfl, ?_⟩
  refine iteF ?_
  have hp1 := g1 _ _ hp
  have hq1 : SqA K H1 h (hs.map V.str) := s1.same g1
  have hq2 := g1 _ _ s2
  have hq3 := s3.same g1
  have na : a ≠ p := ne_of s2 hp (by intro z; cases z)
  -- self.hashed = tuple(hashed)
  refine ⟨_, rfl, h, _, rfl, hq1, fun t H2 g2 t2 => ?_⟩
  refine ⟨_, rfl, p, T.c_Columns, dx, [], rfl, g2 _ _ hp1, T.cl_Columns, T.n_Columns_hashed, (by decide), ?_⟩
  have p2 := g2 _ _ hp1
  have b3 := but_put (o := .ins T.c_Columns dx (putF "hashed" (.ref t) [])) (Same.but (d := p) (g1.trans g2))
  have t3 : SqT K (upd H2 p (.ins T.c_Columns dx (putF "hashed" (.ref t) []))) t (hs.map V.str) := sqt_put p2 t2
  have p3 : upd H2 p (.ins T.c_Columns dx (putF "hashed" (.ref t) [])) p = some (.ins T.c_Columns dx (putF "hashed" (.ref t) [])) := upd_same
  have a3 := b3 _ _ na s2
  have s3' : SqA K (upd H2 p (.ins T.c_Columns dx (putF "hashed" (.ref t) []))) sm (ss.map V.str) := sqa_put p2 (hq3.same g2)
  generalize upd H2 p (.ins T.c_Columns dx (putF "hashed" (.ref t) [])) = H3 at *
  -- self._asked = {name: asked[name] for name in sorted(asked)}
  refine ⟨_, rfl, a, kvsOf as, as.map Prod.fst, rfl, Rd.of a3, keys_kvs as, (by rw [List.length_map]; omega), fun ys l pe so hl => ?_⟩
  obtain rfl := sort_eq pe so
  refine ⟨l, rfl, ⟨_, SqL.of upd_same⟩, fun D hD => ?_⟩
  have g4 := same_new hl (.lst ((sortS (as.map Prod.fst)).map V.str))
  have l4 : SqL K (upd H3 l (.lst ((sortS (as.map Prod.fst)).map V.str))) l ((sortS (as.map Prod.fst)).map V.str) := SqL.of upd_same
  have b4 := b3.same g4
  have a4 := g4 _ _ a3
  have t4 := Same.tup g4 t3
  have p4 := g4 _ _ p3
  have s4 := s3'.same g4
  generalize upd H3 l (.lst ((sortS (as.map Prod.fst)).map V.str)) = H4 at *
  have ndy : (sortS (as.map Prod.fst)).Nodup := pe.nodup_iff.mpr nda
  have ly : (sortS (as.map Prod.fst)).length ≤ 4 := by
    rw [pe.length_eq, List.length_map]
    exact la
  have lA : (sortA as).length = (sortS (as.map Prod.fst)).length := by rw [sortA, List.length_map]
  refine dc_list (K := K) (a := l) (xs := (sortS (as.map Prod.fst)).map V.str) (fun i H' => Same H4 H' ∧ H' D = some (.dK (kvsOf ((sortA as).take i)))) ⟨same_new hD _, upd_same⟩ (fun i H' z => z.1.seq l4) ?_ ?_
  · rintro i x H' hx ⟨g, e⟩
    rw [List.getElem?_map] at hx
    obtain ⟨n, hi, rfl⟩ := Option.map_eq_some_iff.mp hx
    have mem := pe.mem_iff.mp (List.mem_of_getElem? hi)
    obtain ⟨b, hb⟩ := askOf_mem mem
    have hv := askOf_val as n
    rw [hb] at hv
    have hli : i < (sortS (as.map Prod.fst)).length := (List.getElem?_eq_some_iff.mp hi).1
    have hA : (sortA as)[i]? = some (n, b) := by
      unfold sortA
      rw [List.getElem?_map, hi]
      show some (n, (askOf as n).getD false) = _
      rw [hb]
      rfl
    have tk := take_more' hA
    have nodup : (((sortA as).take i ++ [(n, b)]).map Prod.fst).Nodup := by
      rw [← tk]
      exact ((List.take_sublist _ _).map Prod.fst).nodup (sorted_nd nda)
    have fresh : (Sum.inr n : Key) ∉ (kvsOf ((sortA as).take i)).map Prod.fst := fun z => by
      have e : (kvsOf ((sortA as).take i)).map Prod.fst = (((sortA as).take i).map Prod.fst).map Sum.inr := keys_kvs _
      rw [e] at z
      obtain ⟨m, hm, em⟩ := List.mem_map.mp z
      cases em
      rw [List.map_append, List.nodup_append] at nodup
      exact nodup.2.2 n hm n (by simp) rfl
    refine ⟨rfl, _, rfl, _, rfl, _, rfl, a, kindV b, rfl, .inl ⟨kvsOf as, Sum.inr n, Rd.of (g _ _ a4), rfl, hv.symm⟩, _, Sum.inr n, rfl, e, ?_, same_upd g hD, ?_⟩
    · unfold kvsOf
      rw [List.length_map, List.length_take]
      exact small1000 (by omega)
    · rw [upd_same, putK_new _ _ _ fresh, tk]
      unfold kvsOf
      rw [List.map_append]
      rfl
  · rintro H' ⟨g, e⟩
    rw [List.length_map, ← lA, List.take_of_length_le (Nat.le_refl _)] at e
    have p5 := g _ _ p4
    refine ⟨_, rfl, p, T.c_Columns, dx, _, rfl, p5, T.cl_Columns, T.n_Columns__asked, (by show (1 : Nat) < 1000; decide), ?_⟩
    have b5 := but_put (o := .ins T.c_Columns dx (putF "_asked" (.ref D) (putF "hashed" (.ref t) []))) (b4.same g)
    have nD : D ≠ p := fun z => by
      rw [z, p4] at hD
      cases hD
    have d5 : upd H' p (.ins T.c_Columns dx (putF "_asked" (.ref D) (putF "hashed" (.ref t) []))) D = some (.dK (kvsOf (sortA as))) := by rw [upd_ne nD]; exact e
    have t5 : SqT K (upd H' p (.ins T.c_Columns dx (putF "_asked" (.ref D) (putF "hashed" (.ref t) [])))) t (hs.map V.str) := sqt_put p5 (Same.tup g t4)
    have s5 : SqA K (upd H' p (.ins T.c_Columns dx (putF "_asked" (.ref D) (putF "hashed" (.ref t) [])))) sm (ss.map V.str) := sqa_put p5 (s4.same g)
    have p6 : upd H' p (.ins T.c_Columns dx (putF "_asked" (.ref D) (putF "hashed" (.ref t) []))) p = some (.ins T.c_Columns dx (putF "_asked" (.ref D) (putF "hashed" (.ref t) []))) := upd_same
    generalize upd H' p (.ins T.c_Columns dx (putF "_asked" (.ref D) (putF "hashed" (.ref t) []))) = H6 at *
    -- self.summed = tuple(summed)
    refine ⟨_, rfl, sm, _, rfl, s5, fun u H7 gu u7 => ?_⟩
    refine ⟨_, rfl, p, T.c_Columns, dx, _, rfl, gu _ _ p6, T.cl_Columns, T.n_Columns_summed, (by rw [colsF1]; show (2 : Nat) < 1000; decide), ?_⟩
    have p7 := gu _ _ p6
    refine kQ _ (but_put (b5.same gu)) ⟨dx, t, D, u, ?_, sqt_put p7 (Same.tup gu t5), ?_, sqt_put p7 u7⟩ ⟨nh, fun n hn => nk n (pe.mem_iff.mp (by rw [← sorted_fst]; exact hn)), ns, sorted_nd nda, lh, by rw [sorted_len]; exact la, ls⟩
    · rw [upd_same, colsF2]
    · rw [upd_ne nD]
      exact gu _ _ d5

end
end My
set_option Elab.async false
set_option linter.all false
set_option maxRecDepth 100000
set_option maxHeartbeats 400000
namespace My
open PySem L2 PySem.Spec PyProof.Rows
section
variable {P : Program} {w : World} {K : PySem.W.Frag} {mg : Str → Option Value} {base : Heap}
theorem small1001 {n : Nat} (h : n ≤ 1010) : n < sizeLine := Nat.lt_of_le_of_lt h (by decide)
theorem look3 {v1 v2 v3 : V} : List.lookup ("hashed" : Str) [(("hashed" : Str), v1), (("_asked" : Str), v2), (("summed" : Str), v3)] = some v1 ∧ List.lookup ("_asked" : Str) [(("hashed" : Str), v1), (("_asked" : Str), v2), (("summed" : Str), v3)] = some v2 ∧ List.lookup ("summed" : Str) [(("hashed" : Str), v1), (("_asked" : Str), v2), (("summed" : Str), v3)] = some v3 :=
  ⟨look_head, (look_tail (by decide +kernel)).trans look_head, (look_tail (by decide +kernel)).trans ((look_tail (by decide +kernel)).trans look_head)⟩
def sp_casked (C : Addr) (K : PySem.W.Frag) : Sp := fun vs H Q _ => ∃ (p : Addr) (hs : List Str) (as : List (Str × Bool)) (ss : List Str), vs = [.ref p] ∧ ColsAt K C H p hs as ss ∧ ∀ q : Addr, H q = none → Q (.ref q) (upd H q (.dK (kvsOf as)))
theorem ok_Columns_asked (T : Txt K mg) : FnOk P w K mg base CX0 1 T.a_Columns_asked T.d_Columns_asked ["self"] (sp_casked T.c_Columns K) := by
  refine T.F_Columns_asked.ok sc_Columns_asked (fun vs H Q E h => ?_) (fun cdv A outer s H vs Q E hr h => ?_)
  · obtain ⟨p, hs, as, ss, rfl, _⟩ := h
    rfl
  obtain ⟨p, hs, as, ss, rfl, ⟨dx, t, D, u, h1, h2, h3, h4⟩, k⟩ := h
  refine ⟨_, (pss_one (ps_ret (pe_callTy call_dictD (by rfl) T.z_dict (by decide +kernel) (pa_cons (pe_fld (pv 0) rfl) pa_nil)))), ?_⟩
  exact ⟨_, rfl, p, T.c_Columns, dx, _, _, rfl, h1, T.cl_Columns, T.n_Columns__asked, look3.2.1, D, _, rfl, Rd.of h3, k⟩
/-! ### == of columns -/
theorem dp_strs {K : PySem.W.Frag} {H : Hp} : ∀ ns : List Str, DpAll K H (ns.map V.str) (ns.map PyData.str)
  | [] => .nil
  | n :: r => .cons (.str n) (dp_strs r)
def strT (ns : List Str) : PyData := .tuple (ns.map PyData.str)
def sp_ceq (C : Addr) (K : PySem.W.Frag) : Sp := fun vs H Q _ => ∃ (p q : Addr) (hs hs' : List Str) (as : List (Str × Bool)) (ss ss' : List Str), vs = [.ref p, .ref q] ∧ ColsAt K C H p hs as ss ∧ ColsAt K C H q hs' as ss' ∧ ColsOk hs as ss ∧ ColsOk hs' as ss' ∧ Q (.bl (decide (hs = hs') && decide (ss = ss'))) H

end
end My
set_option Elab.async false
set_option linter.all false
set_option maxRecDepth 100000
set_option maxHeartbeats 400000
namespace My
open PySem L2 PySem.Spec PyProof.Rows
section
variable {P : Program} {w : World} {K : PySem.W.Frag} {mg : Str → Option Value} {base : Heap}
theorem eqv_strs : ∀ a b : List Str, PyData.eqvAll (a.map PyData.str) (b.map PyData.str) = decide (a = b)
  | [], [] => rfl
  | [], _ :: _ => rfl
  | _ :: _, [] => rfl
  | x :: a, y :: b => by
    rw [List.map_cons, List.map_cons, PyData.eqvAll, eqv_strs a b, PyData.eqv]
    by_cases e : x = y
    · subst e
      simp
    · have e2 : (x == y) = false := beq_eq_false_iff_ne.mpr e
      rw [e2, Bool.false_and, decide_eq_false (fun z => e (List.cons.inj z).1)]
theorem lay_strsT : ∀ a : List Str, (∀ n ∈ a, PyData.strOk n = true) → PyData.canLayAll0 (a.map PyData.str) = true ∧ PyData.depthAll (a.map PyData.str) ≤ 1
  | [], _ => ⟨rfl, Nat.zero_le _⟩
  | x :: a, ok => by
    obtain ⟨h1, h2⟩ := lay_strsT a fun n hn => ok n (List.mem_cons_of_mem _ hn)
    rw [List.map_cons, PyData.canLayAll0, PyData.depthAll, h1]
    refine ⟨by rw [PyData.canLay0, ok x List.mem_cons_self]; rfl, ?_⟩
    have : (PyData.str x).depth ≤ 1 := by rw [PyData.depth] <;> decide
    omega
theorem shaped_strs (ns : List Str) (h : ∀ n ∈ ns, nameB n = true) : SeqAt.shaped (strT ns) = true := by
  obtain ⟨h1, h2⟩ := lay_strsT ns fun n hn => (name_cps (h n hn)).2.2
  have e : SeqAt.shaped (strT ns) = (PyData.canLay0 (strT ns) && decide ((strT ns).depth ≤ 64)) := rfl
  rw [e]
  unfold strT
  rw [PyData.canLay0, h1, PyData.depth, decide_eq_true (by omega)]
  rfl
theorem eqv_strT (a b : List Str) : PyData.eqv (strT a) (strT b) = decide (a = b) := by
  unfold strT
  rw [PyData.eqv, eqv_strs]
theorem dp_strT {K : PySem.W.Frag} {H : Hp} {t : Addr} {ns : List Str} (h : SqT K H t (ns.map V.str)) : Dp K H (.ref t) (strT ns) := .tup h (dp_strs ns)
theorem kit_self (K : PySem.W.Frag) (C : Addr) : PySem.W.kitOne K (.ref C) (.ref C) = some true := by
  unfold PySem.W.kitOne
  rw [if_pos (by simp)]
theorem ok_Columns_eq (T : Txt K mg) : FnOk P w K mg base CX0 1 T.a_Columns_eq T.d_Columns_eq ["self", "other"] (sp_ceq T.c_Columns K) := by

  refine T.F_Columns_eq.ok sc_Columns_eq (fun vs H Q E h => ?_) (fun cdv A outer s H vs Q E hr h => ?_)
  · obtain ⟨p, q, hs, hs', as, ss, ss', rfl, _⟩ := h
    rfl
  obtain ⟨p, q, hs, hs', as, ss, ss', rfl, ⟨dx, t, D, u, h1, h2, h3, h4⟩, ⟨dy, t', D', u', h1', h2', h3', h4'⟩, ok, ok', k⟩ := h
  have nd := ok.nda
  refine ⟨_, (pss_one (ps_ret (pe_and (pe_callB call_isi (by rfl) T.z_isinstance (by decide +kernel) (pa_cons (pv 1) (pa_cons (pe_glob (v := .ref T.c_Columns) (by rfl) T.m_Columns rfl) pa_nil))) (pe_and (pe_cmpR (op_eqD (hu64 hr)) (pe_fld (pv 0) rfl) (pe_fld (pv 1) rfl) (nomark _)) (pe_and (pe_cmpR (op_eq_dictA (hu64' hr)) (pe_fld (pv 0) rfl) (pe_fld (pv 1) rfl) (nomark _)) (pe_one (pe_cmpR (op_eqD (hu64 hr)) (pe_fld (pv 0) rfl) (pe_fld (pv 1) rfl) (nomark _)))))))), ?_⟩
  have l := @look3
  refine ⟨_, rfl, _, .ref T.c_Columns, _, _, true, rfl, .own _, T.ty_Columns h1', kit_self _ _, _, rfl, iteT ?_⟩
  refine ⟨_, rfl, p, T.c_Columns, dx, _, _, rfl, h1, T.cl_Columns, T.n_Columns_hashed, look3.1, _, rfl, q, T.c_Columns, dy, _, _, rfl, h1', T.cl_Columns, T.n_Columns_hashed, look3.1, _, _, dp_strT h2, dp_strT h2', shaped_strs _ ok.nh, shaped_strs _ ok'.nh, _, rfl, ?_⟩
  rw [eqv_strT]
  by_cases c1 : hs = hs'
  · rw [decide_eq_true c1]
    rw [decide_eq_true c1, Bool.true_and] at k
    refine iteT ⟨_, rfl, p, T.c_Columns, dx, _, _, rfl, h1, T.cl_Columns, T.n_Columns__asked, look3.2.1, _, rfl, q, T.c_Columns, dy, _, _, rfl, h1', T.cl_Columns, T.n_Columns__asked, look3.2.1, D, D', _, _, rfl, rfl, h3, h3', rfl, ?_, _, rfl, iteT ?_⟩
    · intro e he
      have nd2 : ((kvsOf as).map Prod.fst).Nodup := by
        have e2 : (kvsOf as).map Prod.fst = (as.map Prod.fst).map Sum.inr := keys_kvs _
        rw [e2]
        exact List.pairwise_map.mpr (nd.imp fun h z => h (Sum.inr.inj z))
      refine ⟨val_at nd2 he, ?_⟩
      obtain ⟨z, _, rfl⟩ := List.mem_map.mp he
      rfl
    · refine ⟨_, rfl, p, T.c_Columns, dx, _, _, rfl, h1, T.cl_Columns, T.n_Columns_summed, look3.2.2, _, rfl, q, T.c_Columns, dy, _, _, rfl, h1', T.cl_Columns, T.n_Columns_summed, look3.2.2, _, _, dp_strT h4, dp_strT h4', shaped_strs _ ok.ns, shaped_strs _ ok'.ns, ?_⟩
      rw [eqv_strT]
      exact k
  · rw [decide_eq_false c1]
    rw [decide_eq_false c1, Bool.false_and] at k
    exact iteF k

end
end My
set_option Elab.async false
set_option linter.all false
set_option maxRecDepth 100000
set_option maxHeartbeats 400000
namespace My
open PySem L2 PySem.Spec PyProof.Rows
section
variable {P : Program} {w : World} {K : PySem.W.Frag} {mg : Str → Option Value} {base : Heap}
/-! ### a row of a table, by data -/
def isStrD : PyData → Bool
  | .str _ => true
  | _ => false
def valueD (b : Bool) (d : PyData) : Bool := if b = true then nearD d else isStrD d
def sp_value (K : PySem.W.Frag) : Sp := fun vs H Q _ => ∃ (x : V) (d : PyData) (b : Bool), vs = [x, kindV b] ∧ Dp K H x d ∧ Q (.bl (valueD b d)) H
theorem ty_str {K : PySem.W.Frag} {H : Hp} {x : V} {d : PyData} (h : Dp K H x d) : PySem.W.kitOne K (.type (typN d)) (.type "str") = some (isStrD d) := by
  cases d with
  | dict _ => cases h
  | str _ => exact kit_ty (show kitB "str" "str" = some true by decide +kernel)
  | none => exact kit_ty (show kitB "NoneType" "str" = some false by decide +kernel)
  | bool _ => exact kit_ty (show kitB "bool" "str" = some false by decide +kernel)
  | int _ => exact kit_ty (show kitB "int" "str" = some false by decide +kernel)
  | list _ => exact kit_ty (show kitB "list" "str" = some false by decide +kernel)
  | tuple _ => exact kit_ty (show kitB "tuple" "str" = some false by decide +kernel)
theorem ok_is_value (T : Txt K mg) : FnOk P w K mg base CX0 4 T.a_is_value T.d_is_value ["value", "kind"] (sp_value K) := by
  have G_is_near := ok_is_near (P := P) (w := w) (base := base) T
  refine T.F_is_value.ok sc_is_value (fun vs H Q E h => ?_) (fun cdv A outer s H vs Q E hr h => ?_)
  · obtain ⟨x, d, b, rfl, _⟩ := h
    rfl
  obtain ⟨x, d, b, rfl, hd, k⟩ := h
  refine ⟨_, (pss_cons (ps_if (pt_cmpR op_eq (pv 1) pe_str (nomark _)) (pss_one (ps_ret (pe_call G_is_near (hr.mono (by first | decide | omega)) (by rfl) T.m_is_near T.F_is_near.kp T.b_is_near .nil pass0 (pa_cons (pv 0) pa_nil)))) pss_nil)
    (pss_one (ps_ret (pe_callB call_isi (by rfl) T.z_isinstance (by decide +kernel) (pa_cons (pv 0) (pa_cons (pe_bltn (v := .ty "str") (by rfl) T.z_str (by decide +kernel) rfl) pa_nil)))))), ?_⟩
  have e : decide (kindV b = V.str "number") = b := by
    cases b <;> decide +kernel
  refine ⟨_, rfl, rfl, ⟨_, rfl, ?_⟩⟩
  show if (decide (kindV b = V.str "number")) = true then _ else _
  rw [e]
  cases b with
  | true => exact iteT ⟨_, rfl, x, d, rfl, hd, k⟩
  | false => exact iteF ⟨_, rfl, x, .ty "str", _, .type "str", _, rfl, .ty _, dp_ty hd, ty_str hd, k⟩
def isTupD : PyData → Bool
  | .tuple _ => true
  | _ => false
theorem tup_ty {K : PySem.W.Frag} {H : Hp} {x : V} {d : PyData} (h : Dp K H x d) : PySem.W.kitOne K (.type (typN d)) (.type "tuple") = some (isTupD d) := by
  cases d with
  | dict _ => cases h
  | str _ => exact kit_ty (show kitB "str" "tuple" = some false by decide +kernel)
  | none => exact kit_ty (show kitB "NoneType" "tuple" = some false by decide +kernel)
  | bool _ => exact kit_ty (show kitB "bool" "tuple" = some false by decide +kernel)
  | int _ => exact kit_ty (show kitB "int" "tuple" = some false by decide +kernel)
  | list _ => exact kit_ty (show kitB "list" "tuple" = some false by decide +kernel)
  | tuple _ => exact kit_ty (show kitB "tuple" "tuple" = some true by decide +kernel)
theorem dp_tup {K : PySem.W.Frag} {H : Hp} {x : V} {ds : List PyData} (h : Dp K H x (.tuple ds)) : ∃ a xs, x = .ref a ∧ SqT K H a xs ∧ DpAll K H xs ds := by
  cases h with
  | tup h a => exact ⟨_, _, rfl, h, a⟩
def LenOk (d : PyData) : Prop := ∀ ds, d = .tuple ds → ds.length ≤ 1000
def numsD (n : Nat) : PyData → Bool
  | .tuple ds => if ds.length = n then ds.all nearD else false
  | _ => false
def sp_nums (K : PySem.W.Frag) : Sp := fun vs H Q _ => ∃ (x : V) (d : PyData) (n : Nat), vs = [x, .int (n : Int)] ∧ Dp K H x d ∧ LenOk d ∧ ∀ H', Same H H' → Q (.bl (numsD n d)) H'
theorem not_tup {d : PyData} (h : isTupD d = false) (n : Nat) : numsD n d = false := by
  cases d with
  | tuple _ => cases h
  | _ => rfl
theorem ok_are_numbers (T : Txt K mg) : FnOk P w K mg base CX0 4 T.a_are_numbers T.d_are_numbers ["numbers", "many"] (sp_nums K) := by
  have G_is_near := ok_is_near (P := P) (w := w) (base := base) T
  refine T.F_are_numbers.ok sc_are_numbers (fun vs H Q E h => ?_) (fun cdv A outer s H vs Q E hr h => ?_)
  · obtain ⟨x, d, b, rfl, _⟩ := h
    rfl
  obtain ⟨x, d, n, rfl, hd, lo, k⟩ := h
  refine ⟨_, (pss_cons (ps_if (PW.pt (pw_or (pt_not (pt_val (pe_callB call_isi (by rfl) T.z_isinstance (by decide +kernel) (pa_cons (pv 0) (pa_cons (pe_bltn (v := .ty "tuple") (by rfl) T.z_tuple (by decide +kernel) rfl) pa_nil))))) (pw_or1 (pt_cmpR op_ne (pe_callB call_len_seq (by rfl) T.z_len (by decide +kernel) (pa_cons (pv 0) pa_nil)) (pv 1) (nomark _))))) (pss_one (ps_ret pe_bl)) pss_nil)
    (pss_one (ps_ret (pe_callB (cr_all rfl) (by rfl) T.z_all (by decide +kernel) (pa_cons (pe_lc (own := [("number", 2)]) rfl sc_are_numbers.nd (pi_tup (pv 0)) (blkOk_by (own := [("number", 2)]) (N := ["numbers", "many", "number"]) (sc := defScope s_are_numbers) (by decide +kernel)) (fun _ _ _ _ _ => (pg_name (i := 2) sc_are_numbers.nd rfl (by first | exact Or.inl rfl | exact Or.inr rfl))) (fun _ _ _ _ _ => pts_nil) (fun _ _ _ _ _ => (pe_call G_is_near (hr.mono (by first | decide | omega)) (by rfl) T.m_is_near T.F_is_near.kp T.b_is_near .nil pass0 (pa_cons (pv 2) pa_nil)))) pa_nil))))), ?_⟩
  refine ⟨_, rfl, x, .ty "tuple", _, .type "tuple", _, rfl, .ty _, dp_ty hd, tup_ty hd, _, rfl, ?_⟩
  cases c : isTupD d with
  | false =>
    have k' := k H (Same.refl _)
    rw [not_tup c] at k'
    exact iteT k'
  | true =>
  obtain ⟨ds, rfl⟩ : ∃ ds, d = .tuple ds := by
    cases d with
    | tuple ds => exact ⟨ds, rfl⟩
    | _ => cases c
  obtain ⟨a, xs, rfl, ht, da⟩ := dp_tup hd
  have ln := dps_len da
  have l1 := lo ds rfl
  have e : numsD n (.tuple ds) = if ds.length = n then ds.all nearD else false := rfl
  rw [e] at k
  refine iteF ⟨_, rfl, a, _, rfl, .inr ht, _, rfl, rfl, ?_⟩
  refine ⟨_, rfl, ?_⟩
  rw [ln, len_dec]
  by_cases c : ds.length = n
  · rw [decide_eq_true c]
    rw [if_pos c] at k
    refine iteF ⟨_, rfl, a, rfl, ⟨xs, ht⟩, fun D hD => ?_⟩
    refine lc_it (walk_tup (xs := xs)) (fun i H' => Same H H' ∧ H' D = some (.lst (((ds.take i).map nearD).map V.bl))) ⟨same_new hD _, upd_same⟩ (fun i H' _ z => Same.tup z.1 ht) ?_ ?_
    · rintro i x H1 H' hi ⟨g, e⟩ ⟨e1, hx⟩
      subst e1
      obtain ⟨d, hd', dx⟩ : ∃ d, ds[i]? = some d ∧ Dp K H x d := by
        have hi2 : i < ds.length := by omega
        obtain ⟨y, hy, dy⟩ := dps_get da (List.getElem?_eq_getElem hi2)
        rw [hx] at hy
        cases hy
        exact ⟨_, List.getElem?_eq_getElem hi2, dy⟩
      refine ⟨rfl, _, rfl, x, d, rfl, dp_same g _ _ dx, _, e, ?_, same_upd g hD, ?_⟩
      · rw [List.length_map, List.length_map, List.length_take]
        exact small1000 (by omega)
      · rw [upd_same, List.take_add_one, hd', List.map_append, List.map_append]
        rfl
    · rintro H' ⟨g, e⟩
      rw [ln, List.take_of_length_le (Nat.le_refl _)] at e
      refine ⟨D, ds.map nearD, rfl, SqL.of e, ?_⟩
      have all_ : ((ds.map nearD).all id) = ds.all nearD := by rw [List.all_map]; rfl
      rw [all_]
      exact k _ g
  · rw [decide_eq_false c]
    rw [if_neg c] at k
    exact iteT (k _ (Same.refl _))
/-! the values -/
def zipD : List Bool → List PyData → Bool
  | b :: bs, d :: ds => valueD b d && zipD bs ds
  | _, _ => true
def valuesD (bs : List Bool) : PyData → Bool
  | .tuple ds => if ds.length = bs.length then zipD bs ds else false
  | _ => false
theorem not_tup2 {d : PyData} (h : isTupD d = false) (bs : List Bool) : valuesD bs d = false := by
  cases d with
  | tuple _ => cases h
  | _ => rfl
def zipL (bs : List Bool) (ds : List PyData) : List Bool := (bs.zip ds).map fun p => valueD p.1 p.2
theorem zipL_all : ∀ (bs : List Bool) (ds : List PyData), (zipL bs ds).all id = zipD bs ds
  | [], _ => by unfold zipL zipD; rfl
  | _ :: _, [] => by unfold zipL zipD; rfl
  | b :: bs, d :: ds => by
    have ih := zipL_all bs ds
    unfold zipL at ih ⊢
    rw [List.zip_cons_cons, List.map_cons, List.all_cons, ih, zipD]
    rfl
def sp_values (K : PySem.W.Frag) : Sp := fun vs H Q _ => ∃ (x : V) (l : Addr) (d : PyData) (bs : List Bool), vs = [x, .ref l] ∧ Dp K H x d ∧ LenOk d ∧ SqL K H l (bs.map kindV) ∧ ∀ H', Same H H' → Q (.bl (valuesD bs d)) H'
theorem ok_are_values (T : Txt K mg) : FnOk P w K mg base CX0 5 T.a_are_values T.d_are_values ["values", "kinds"] (sp_values K) := by
  have G_is_value := ok_is_value (P := P) (w := w) (base := base) T
  refine T.F_are_values.ok sc_are_values (fun vs H Q E h => ?_) (fun cdv A outer s H vs Q E hr h => ?_)
  · obtain ⟨x, l, d, b, rfl, _⟩ := h
    rfl
  obtain ⟨x, l, d, bs, rfl, hd, lo, hl, k⟩ := h
  refine ⟨_, (pss_cons (ps_if (PW.pt (pw_or (pt_not (pt_val (pe_callB call_isi (by rfl) T.z_isinstance (by decide +kernel) (pa_cons (pv 0) (pa_cons (pe_bltn (v := .ty "tuple") (by rfl) T.z_tuple (by decide +kernel) rfl) pa_nil))))) (pw_or1 (pt_cmpR op_ne (pe_callB call_len_seq (by rfl) T.z_len (by decide +kernel) (pa_cons (pv 0) pa_nil)) (pe_callB call_len_seq (by rfl) T.z_len (by decide +kernel) (pa_cons (pv 1) pa_nil)) (nomark _))))) (pss_one (ps_ret pe_bl)) pss_nil)
    (pss_one (ps_ret (pe_callB (cr_all rfl) (by rfl) T.z_all (by decide +kernel) (pa_cons (pe_lc (own := [("value", 2), ("kind", 3)]) rfl sc_are_values.nd (pi_zipM (by rfl) T.z_zip (pa_cons (pv 0) (pa_cons (pv 1) pa_nil))) (blkOk_by (own := [("value", 2), ("kind", 3)]) (N := ["values", "kinds", "value", "kind"]) (sc := defScope s_are_values) (by decide +kernel)) (fun _ _ _ _ _ => (show PG _ _ (gTup K 2 (gCons (gName 2) (gCons (gName 3) gNil))) from (pg_tup rfl (pgs_cons (pg_name (i := 2) sc_are_values.nd rfl (by first | exact Or.inl rfl | exact Or.inr rfl)) (pgs_cons (pg_name (i := 3) sc_are_values.nd rfl (by first | exact Or.inl rfl | exact Or.inr rfl)) pgs_nil))))) (fun _ _ _ _ _ => pts_nil) (fun _ _ _ _ _ => (pe_call G_is_value (hr.mono (by first | decide | omega)) (by rfl) T.m_is_value T.F_is_value.kp T.b_is_value .nil pass0 (pa_cons (pv 2) (pa_cons (pv 3) pa_nil))))) pa_nil))))), ?_⟩
  refine ⟨_, rfl, x, .ty "tuple", _, .type "tuple", _, rfl, .ty _, dp_ty hd, tup_ty hd, _, rfl, ?_⟩
  cases c : isTupD d with
  | false =>
    have k' := k H (Same.refl _)
    rw [not_tup2 c] at k'
    exact iteT k'
  | true =>
  obtain ⟨ds, rfl⟩ : ∃ ds, d = .tuple ds := by
    cases d with
    | tuple ds => exact ⟨ds, rfl⟩
    | _ => cases c
  obtain ⟨a, xs, rfl, ht, da⟩ := dp_tup hd
  have ln := dps_len da
  have l1 := lo ds rfl
  have e : valuesD bs (.tuple ds) = if ds.length = bs.length then zipD bs ds else false := rfl
  rw [e] at k
  refine iteF ⟨_, rfl, a, _, rfl, .inr ht, _, rfl, l, _, rfl, .inl hl, rfl, ⟨_, rfl, ?_⟩⟩
  rw [ln, List.length_map, len_dec]
  by_cases c : ds.length = bs.length
  · rw [decide_eq_true c]
    rw [if_pos c] at k
    refine iteF ⟨_, rfl, _, rfl, a, l, xs, _, rfl, ht, hl, fun D hD => ?_⟩
    have lz : xs.length = (bs.map kindV).length := by rw [ln, List.length_map, c]
    refine lc_it (walk_zipM (xs := xs) (ys := bs.map kindV) lz) (fun i H' => Same H H' ∧ H' D = some (.lst (((zipL bs ds).take i).map V.bl))) ⟨same_new hD _, upd_same⟩ (fun i H' _ z => ⟨Same.tup z.1 ht, z.1.seq hl⟩) ?_ ?_
    · rintro i x H1 H' hi ⟨g, e⟩ ⟨T, y, z, rfl, hT, rfl, hy, hz⟩
      dsimp only at hy hz
      have hi2 : i < ds.length := by omega
      obtain ⟨d, hd', dx⟩ : ∃ d, ds[i]? = some d ∧ Dp K H y d := by
        obtain ⟨v, hv, dv⟩ := dps_get da (List.getElem?_eq_getElem hi2)
        rw [hy] at hv
        cases hv
        exact ⟨_, List.getElem?_eq_getElem hi2, dv⟩
      rw [List.getElem?_map] at hz
      obtain ⟨b, hb, rfl⟩ := Option.map_eq_some_iff.mp hz
      have gT := g.trans (same_new hT (.tup [y, kindV b]))
      have e2 := same_new hT (.tup [y, kindV b]) _ _ e
      refine ⟨T, _, rfl, SqT.of upd_same, rfl, _, _, rfl, _, _, rfl, rfl, rfl, _, rfl, _, rfl, y, d, b, rfl, dp_same gT _ _ dx, _, e2, ?_, same_upd gT hD, ?_⟩
      · rw [List.length_map, List.length_take]
        exact small1000 (by omega)
      · have at_ : (zipL bs ds)[i]? = some (valueD b d) := by
          unfold zipL
          rw [List.getElem?_map, List.getElem?_zip_eq_some (z := (b, d)) |>.mpr ⟨hb, hd'⟩]
          rfl
        rw [upd_same, take_more' at_, List.map_append]
        rfl
    · rintro H' ⟨g, e⟩
      have lzz : (zipL bs ds).length = xs.length := by
        unfold zipL
        rw [List.length_map, List.length_zip, ln]
        omega
      rw [← lzz, List.take_of_length_le (Nat.le_refl _)] at e
      refine ⟨D, zipL bs ds, rfl, SqL.of e, ?_⟩
      rw [zipL_all]
      exact k _ g
  · rw [decide_eq_false c]
    rw [if_neg c] at k
    exact iteT (k _ (Same.refl _))

end
end My
set_option Elab.async false
set_option linter.all false
set_option maxRecDepth 100000
set_option maxHeartbeats 400000
namespace My
open PySem L2 PySem.Spec PyProof.Rows
section
variable {P : Program} {w : World} {K : PySem.W.Frag} {mg : Str → Option Value} {base : Heap}
/-! ### a whole row -/
def rowD (hn : Nat) (bs : List Bool) (sn : Nat) : PyData → Bool
  | .tuple [b, k, v, s] => betD 0 1000000 b && (numsD hn k && (valuesD bs v && numsD sn s))
  | _ => false
def RowOk (d : PyData) : Prop := ∀ ds, d = .tuple ds → ∀ e ∈ ds, LenOk e
def sp_trow (C : Addr) (K : PySem.W.Frag) : Sp := fun vs H Q _ => ∃ (p : Addr) (hs : List Str) (as : List (Str × Bool)) (ss : List Str) (x : V) (d : PyData), vs = [.ref p, x] ∧ ColsAt K C H p hs as ss ∧ Dp K H x d ∧ RowOk d ∧ ∀ H', Same H H' → Q (.bl (rowD hs.length (as.map Prod.snd) ss.length d)) H'
theorem row_not {d : PyData} {hn sn : Nat} {bs : List Bool} (h : isTupD d = false) : rowD hn bs sn d = false := by
  cases d with
  | tuple _ => cases h
  | _ => rfl
theorem row_four {ds : List PyData} {hn sn : Nat} {bs : List Bool} (h : ds.length ≠ 4) : rowD hn bs sn (.tuple ds) = false := by
  match ds, h with
  | [], _ => rfl
  | [_], _ => rfl
  | [_, _], _ => rfl
  | [_, _, _], _ => rfl
  | [_, _, _, _], h => exact absurd rfl h
  | _ :: _ :: _ :: _ :: _ :: _, _ => rfl
theorem four {ds : List PyData} (h : ds.length = 4) : ∃ a b c d, ds = [a, b, c, d] := by
  match ds, h with
  | [a, b, c, d], _ => exact ⟨a, b, c, d, rfl⟩
theorem dps_four {K : PySem.W.Frag} {H : Hp} {xs : List V} {a b c d : PyData} (h : DpAll K H xs [a, b, c, d]) : ∃ x y z t, xs = [x, y, z, t] ∧ Dp K H x a ∧ Dp K H y b ∧ Dp K H z c ∧ Dp K H t d := by
  cases h with
  | cons h1 h =>
    cases h with
    | cons h2 h =>
      cases h with
      | cons h3 h =>
        cases h with
        | cons h4 h =>
          cases h
          exact ⟨_, _, _, _, rfl, h1, h2, h3, h4⟩
theorem ok_is_table_row (T : Txt K mg) : FnOk P w K mg base CX0 6 T.a_is_table_row T.d_is_table_row ["columns", "row"] (sp_trow T.c_Columns K) := by
  have G_is_between := ok_is_between (P := P) (w := w) (base := base) T
  have G_are_numbers := ok_are_numbers (P := P) (w := w) (base := base) T
  have G_are_values := ok_are_values (P := P) (w := w) (base := base) T
  have G_Columns_asked := ok_Columns_asked (P := P) (w := w) (base := base) T
  refine T.F_is_table_row.ok sc_is_table_row (fun vs H Q E h => ?_) (fun cdv A outer s H vs Q E hr h => ?_)
  · obtain ⟨p, hs, as, ss, x, d, rfl, _⟩ := h
    rfl
  obtain ⟨p, hs, as, ss, x, d, rfl, hc, hd, ro, k⟩ := h
  refine ⟨_, (pss_cons (ps_if (PW.pt (pw_or (pt_not (pt_val (pe_callB call_isi (by rfl) T.z_isinstance (by decide +kernel) (pa_cons (pv 1) (pa_cons (pe_bltn (v := .ty "tuple") (by rfl) T.z_tuple (by decide +kernel) rfl) pa_nil))))) (pw_or1 (pt_cmpR op_ne (pe_callB call_len_seq (by rfl) T.z_len (by decide +kernel) (pa_cons (pv 1) pa_nil)) pe_int (nomark _))))) (pss_one (ps_ret pe_bl)) pss_nil)
    (pss_cons (ps_asg (pv 1) (pg_tup rfl (pgs_cons (pg_name (i := 2) sc_is_table_row.nd rfl (by first | exact Or.inl rfl | exact Or.inr rfl)) (pgs_cons (pg_name (i := 3) sc_is_table_row.nd rfl (by first | exact Or.inl rfl | exact Or.inr rfl)) (pgs_cons (pg_name (i := 4) sc_is_table_row.nd rfl (by first | exact Or.inl rfl | exact Or.inr rfl)) (pgs_cons (pg_name (i := 5) sc_is_table_row.nd rfl (by first | exact Or.inl rfl | exact Or.inr rfl)) pgs_nil))))))
    (pss_one (ps_ret (pe_and (pe_call G_is_between (hr.mono (by first | decide | omega)) (by rfl) T.m_is_between T.F_is_between.kp T.b_is_between .nil pass0 (pa_cons (pv 2) (pa_cons pe_int (pa_cons (pe_glob (v := .int 1000000) (by rfl) T.m_FAR ⟨_, rfl⟩) pa_nil)))) (pe_and (pe_call G_are_numbers (hr.mono (by first | decide | omega)) (by rfl) T.m_are_numbers T.F_are_numbers.kp T.b_are_numbers .nil pass0 (pa_cons (pv 3) (pa_cons (pe_callB call_len_seq (by rfl) T.z_len (by decide +kernel) (pa_cons (pe_fld (pv 0) rfl) pa_nil)) pa_nil))) (pe_and (pe_call G_are_values (hr.mono (by first | decide | omega)) (by rfl) T.m_are_values T.F_are_values.kp T.b_are_values .nil pass0 (pa_cons (pv 4) (pa_cons (pe_listvals rfl (by rfl) T.z_list (pe_prop (pv 0) T.cl_Columns T.p_Columns_asked G_Columns_asked (hr.mono (by first | decide | omega)) T.b_Columns_asked .nil pass0 rfl)) pa_nil))) (pe_one (pe_call G_are_numbers (hr.mono (by first | decide | omega)) (by rfl) T.m_are_numbers T.F_are_numbers.kp T.b_are_numbers .nil pass0 (pa_cons (pv 5) (pa_cons (pe_callB call_len_seq (by rfl) T.z_len (by decide +kernel) (pa_cons (pe_fld (pv 0) rfl) pa_nil)) pa_nil))))))))))), ?_⟩
  refine ⟨_, rfl, x, .ty "tuple", _, .type "tuple", _, rfl, .ty _, dp_ty hd, tup_ty hd, _, rfl, ?_⟩
  cases c : isTupD d with
  | false =>
    have k' := k H (Same.refl _)
    rw [row_not c] at k'
    exact iteT k'
  | true =>
  obtain ⟨ds, rfl⟩ : ∃ ds, d = .tuple ds := by
    cases d with
    | tuple ds => exact ⟨ds, rfl⟩
    | _ => cases c
  obtain ⟨a, xs, rfl, ht, da⟩ := dp_tup hd
  have ln := dps_len da
  refine iteF ⟨_, rfl, a, _, rfl, .inr ht, rfl, ⟨_, rfl, ?_⟩⟩
  rw [ln, show V.int 4 = V.int ((4 : Nat) : Int) from rfl, len_dec]
  by_cases c4 : ds.length = 4
  · obtain ⟨d1, d2, d3, d4, rfl⟩ := four c4
    rw [decide_eq_true c4]
    refine iteF ?_
    obtain ⟨x1, x2, x3, x4, rfl, b1, b2, b3, b4⟩ := dps_four da
    have l2 := ro _ rfl d2 (by simp)
    have l3 := ro _ rfl d3 (by simp)
    have l4 := ro _ rfl d4 (by simp)
    have ek : rowD hs.length (as.map Prod.snd) ss.length (.tuple [d1, d2, d3, d4]) = (betD 0 1000000 d1 && (numsD hs.length d2 && (valuesD (as.map Prod.snd) d3 && numsD ss.length d4))) := rfl
    rw [ek] at k
    obtain ⟨dx, t, D, u, h1, h2, h3, h4⟩ := hc
    refine ⟨_, rfl, a, _, rfl, ht, rfl, _, _, rfl, _, _, rfl, _, _, rfl, _, _, rfl, rfl, ?_⟩
    refine ⟨_, rfl, x1, d1, 0, 1000000, rfl, b1, _, rfl, ?_⟩
    cases c1 : betD 0 1000000 d1 with
    | false =>
      rw [c1, Bool.false_and] at k
      exact iteF (k _ (Same.refl _))
    | true =>
    rw [c1, Bool.true_and] at k
    refine iteT ⟨_, rfl, _, rfl, p, T.c_Columns, dx, _, _, rfl, h1, T.cl_Columns, T.n_Columns_hashed, look3.1, t, _, rfl, .inr h2, x2, d2, _, rfl, b2, l2, fun H1 g1 => ⟨_, rfl, ?_⟩⟩
    rw [List.length_map]
    cases c2 : numsD hs.length d2 with
    | false =>
      rw [c2, Bool.false_and] at k
      exact iteF (k _ g1)
    | true =>
    rw [c2, Bool.true_and] at k
    refine iteT ⟨_, rfl, ?_⟩
    have at1 : ColsAt K T.c_Columns H1 p hs as ss := ColsAt.same g1 ⟨dx, t, D, u, h1, h2, h3, h4⟩
    refine ⟨_, rfl, p, dx, _, rfl, g1 _ _ h1, p, hs, as, ss, rfl, at1, fun q hq => ⟨q, _, rfl, Rd.of upd_same, fun l hl => ?_⟩⟩
    have g2 := g1.trans ((same_new hq (.dK (kvsOf as))).trans (same_new hl (.lst ((kvsOf as).map Prod.snd))))
    have el : upd (upd H1 q (.dK (kvsOf as))) l (.lst ((kvsOf as).map Prod.snd)) l = some (.lst ((as.map Prod.snd).map kindV)) := by
      rw [upd_same]
      unfold kvsOf
      rw [List.map_map, List.map_map]
      rfl
    generalize upd (upd H1 q (.dK (kvsOf as))) l (.lst ((kvsOf as).map Prod.snd)) = H2 at *
    refine ⟨x3, l, d3, _, rfl, dp_same g2 _ _ b3, l3, SqL.of el, fun H3 g3 => ⟨_, rfl, ?_⟩⟩
    have g4 := g2.trans g3
    cases c3 : valuesD (as.map Prod.snd) d3 with
    | false =>
      rw [c3, Bool.false_and] at k
      exact iteF (k _ g4)
    | true =>
    rw [c3, Bool.true_and] at k
    refine iteT ⟨_, rfl, _, rfl, p, T.c_Columns, dx, _, _, rfl, g4 _ _ h1, T.cl_Columns, T.n_Columns_summed, look3.2.2, u, _, rfl, .inr (Same.tup g4 h4), x4, d4, _, rfl, dp_same g4 _ _ b4, l4, fun H5 g5 => ?_⟩
    rw [List.length_map]
    exact k _ (g4.trans g5)
  · rw [decide_eq_false c4]
    rw [row_four c4] at k
    exact iteT (k _ (Same.refl _))

end
end My
set_option Elab.async false
set_option linter.all false
set_option maxRecDepth 100000
set_option maxHeartbeats 400000
namespace My
open PySem L2 PySem.Spec PyProof.Rows
section
variable {P : Program} {w : World} {K : PySem.W.Frag} {mg : Str → Option Value} {base : Heap}
/-! ### a table -/
def firstBad (q : PyData → Bool) : Nat → List PyData → Option Nat
  | _, [] => none
  | i, d :: ds => if q d = true then firstBad q (i + 1) ds else some i
theorem first_at {q : PyData → Bool} {ds : List PyData} {i : Nat} {d : PyData} (h : ds[i]? = some d) (j : Nat) : firstBad q j (ds.drop i) = if q d = true then firstBad q (j + 1) (ds.drop (i + 1)) else some j := by
  have lt := (List.getElem?_eq_some_iff.mp h).1
  have e := (List.getElem?_eq_some_iff.mp h).2
  rw [List.drop_eq_getElem_cons lt, firstBad, e]
def tabR (hn : Nat) (bs : List Bool) (sn : Nat) : RowA → Option (Option Nat)
  | .oth _ => some none
  | .seq ds => if 60 < ds.length then some none else (firstBad (rowD hn bs sn) 0 ds).map some
def RowsOk : RowA → Prop
  | .oth _ => True
  | .seq ds => ∀ d ∈ ds, RowOk d
def optN : Option Nat → V
  | none => .non
  | some i => .int (i : Int)
/-- a table: its columns and its rows -/
def TabAt (K : PySem.W.Frag) (CT : Addr) (H : Hp) (p c : Addr) (xs : List V) : Prop := ∃ dx t, H p = some (.ins CT dx [("columns", .ref c), ("rows", .ref t)]) ∧ SqT K H t xs
def sp_tinit (C CT CB : Addr) (K : PySem.W.Frag) : Sp := fun vs H Q E => ∃ (p dx c : Addr) (hs : List Str) (as : List (Str × Bool)) (ss : List Str) (v : V) (r : RowA), vs = [.ref p, .ref c, v] ∧ H p = some (.ins CT dx []) ∧ ColsAt K C H c hs as ss ∧ RowAt K H v r ∧ RowsOk r ∧
  (tabR hs.length (as.map Prod.snd) ss.length r = none → ∀ a xs, v = .ref a → SqA K H a xs → (∀ ds, r = .seq ds → DpAll K H xs ds) → ∀ H', But p H H' → TabAt K CT H' p c xs → Q .non H') ∧
  (∀ n, tabR hs.length (as.map Prod.snd) ss.length r = some n → ∀ (dx : Addr) (H' : Hp), But p H H' → H' dx = some (.xd [("number", optN n)]) → E (.ref CB) (some dx) H')
theorem tabF (x y : V) : putF "rows" y (putF "columns" x []) = [(("columns" : Str), x), (("rows" : Str), y)] := (if_neg (by decide +kernel)).trans rfl
theorem ok_Table_init (T : Txt K mg) : FnOk P w K mg base (L2.CX P w) 7 T.a_Table_init T.d_Table_init ["self", "columns", "rows"] (sp_tinit T.c_Columns T.c_Table T.c_BadTable K) := by
  have G_BadTable_init := ok_BadTable_init (P := P) (w := w) (base := base) T
  have G_is_row := ok_is_row (P := P) (w := w) (base := base) T
  have G_is_table_row := ok_is_table_row (P := P) (w := w) (base := base) T
  refine T.F_Table_init.okX sc_Table_init (fun vs H Q E h => ?_) (fun cdv A outer s H vs Q E hr h => ?_)
  · obtain ⟨p, dx, c, hs, as, ss, v, r, rfl, _⟩ := h
    rfl
  obtain ⟨p, dx, c, hs, as, ss, v, r, rfl, hp, hc, hv, ro, kQ, kE⟩ := h
  refine ⟨_, (pss_cons (ps_if (PW.pt (pw_or (pt_not (pt_val (pe_call G_is_row (hr.mono (by first | decide | omega)) (by rfl) T.m_is_row T.F_is_row.kp T.b_is_row .nil pass0 (pa_cons (pv 2) pa_nil)))) (pw_or1 (pt_cmpR op_gt (pe_callB call_len_seq (by rfl) T.z_len (by decide +kernel) (pa_cons (pv 2) pa_nil)) (pe_glob (v := .int 60) (by rfl) T.m_MOST_ROWS ⟨_, rfl⟩) (nomark _))))) (pss_one (ps_raise rfl (takes_of rfl rfl rfl rfl) (pmk_oex T.x_BadTable T.xi_BadTable T.xt_BadTable G_BadTable_init (hr.mono (by first | decide | omega)) T.b_BadTable_init .nil pass0 (by rfl) T.m_BadTable (pa_cons pe_non pa_nil)))) pss_nil)
    (pss_cons (ps_for (passes_of rfl) rfl (pi_enumA (by rfl) T.z_enumerate (pa_cons (pv 2) pa_nil)) (pg_tup rfl (pgs_cons (pg_name (i := 3) sc_Table_init.nd rfl (by first | exact Or.inl rfl | exact Or.inr rfl)) (pgs_cons (pg_name (i := 4) sc_Table_init.nd rfl (by first | exact Or.inl rfl | exact Or.inr rfl)) pgs_nil)))
    (pss_one (ps_if (pt_not (pt_val (pe_call G_is_table_row (hr.mono (by first | decide | omega)) (by rfl) T.m_is_table_row T.F_is_table_row.kp T.b_is_table_row .nil pass0 (pa_cons (pv 1) (pa_cons (pv 4) pa_nil))))) (pss_one (ps_raise rfl (takes_of rfl rfl rfl rfl) (pmk_oex T.x_BadTable T.xi_BadTable T.xt_BadTable G_BadTable_init (hr.mono (by first | decide | omega)) T.b_BadTable_init .nil pass0 (by rfl) T.m_BadTable (pa_cons (pv 3) pa_nil)))) pss_nil)))
    (pss_cons (ps_fld (pv 0) (pv 1) rfl)
    (pss_one (ps_fld (pv 0) (pe_callTy call_tupA (by rfl) T.z_tuple (by decide +kernel) (pa_cons (pv 2) pa_nil)) rfl))))), ?_⟩
  have et : ∀ ds, tabR hs.length (as.map Prod.snd) ss.length (.seq ds) = if 60 < ds.length then some none else (firstBad (rowD hs.length (as.map Prod.snd) ss.length) 0 ds).map some := fun _ => rfl
  have err : ∀ (n : Option Nat) (σ1 : L2.St) (H1 : Hp), Same H H1 → tabR hs.length (as.map Prod.snd) ss.length r = some n → (∀ i, n = some i → i < 61) → tMkO T.c_BadTable (sp_btinit T.c_BadTable) [] (tCons (tC (optN n)) tNil) σ1 H1 (fun cls d H' => E cls d H') := fun n σ1 H1 g e bound => by
    refine ⟨(by show 1 ≤ 1000; decide), fun q hq => ⟨q, optN n, rfl, ?_, upd_same, fun dx hdx ne => ⟨rfl, dx, [("number", optN n)], upd_same, ?_, ?_, ?_⟩⟩⟩
    · cases n with
      | none => exact .inl rfl
      | some i => exact .inr ⟨i, rfl, bound i rfl⟩
    · rw [upd_ne ne]
      exact upd_same
    · rw [upd_ne ne] at hdx
      exact hdx
    · rw [upd_ne ne] at hdx
      refine kE n e dx _ (Same.but fun b o hb => ?_) upd_same
      have hb2 := g b o hb
      have n1 : b ≠ dx := ne_of_none hb2 hdx
      have n2 : b ≠ q := ne_of_none hb2 hq
      rw [upd_ne n1, del_ne n2, upd_ne n2, upd_ne n1, upd_ne n2]
      exact hb2
  obtain ⟨t, mem, keep, ety⟩ := row_ty hv
  refine ⟨_, rfl, v, t, rfl, keep _ (Same.refl _), mem, keep, fun H0 g0 => ⟨_, rfl, ?_⟩⟩
  cases r with
  | oth t' =>
    rw [ety]
    exact iteT (err none _ _ g0 rfl fun i h => by cases h)
  | seq ds =>
  rw [ety]
  obtain ⟨a, xs, rfl, sa, da, _⟩ := hv
  have ln := dps_len da
  refine iteF ⟨_, rfl, a, xs, rfl, sa.same g0, _, _, rfl, rfl, _, rfl, ?_⟩
  rw [ln]
  by_cases c60 : 60 < ds.length
  · rw [decide_eq_true (show (60 : Int) < (ds.length : Int) by omega)]
    refine iteT (err none _ _ g0 ?_ fun i h => by cases h)
    rw [et, if_pos c60]
  rw [decide_eq_false (show ¬ (60 : Int) < (ds.length : Int) by omega)]
  refine iteF ⟨_, rfl, a, rfl, ?_⟩
  rcases sa with h1 | h1
  · have sa : SqA K H a xs := .inl h1
    have h0 := g0.seq h1
    refine .inl ⟨xs, h0, for_it (walk_enum (xs := xs)) (fun i σ' H' => ∃ z3 z4, σ' = [some (.ref p), some (.ref c), some (.ref a), z3, z4] ∧ Same H H' ∧ firstBad (rowD hs.length (as.map Prod.snd) ss.length) 0 ds = firstBad (rowD hs.length (as.map Prod.snd) ss.length) i (ds.drop i)) ⟨_, _, rfl, g0, rfl⟩ (fun i σ' H' _ z => ?_) ?_ ?_⟩
    · obtain ⟨_, _, _, g, _⟩ := z
      exact g.seq h1
    · rintro i x σ1 H1 H2 hi ⟨z3, z4, rfl, g, e⟩ ⟨T2, x1, x2, rfl, hT, rfl, hx1, hx2⟩
      dsimp only at hx1 hx2
      cases hx1
      obtain ⟨d, hd', dx'⟩ : ∃ d, ds[i]? = some d ∧ Dp K H x2 d := by
        have hi2 : i < ds.length := by omega
        obtain ⟨y, hy, dy⟩ := dps_get da (List.getElem?_eq_getElem hi2)
        rw [hx2] at hy
        cases hy
        exact ⟨_, List.getElem?_eq_getElem hi2, dy⟩
      have gT := g.trans (same_new hT (.tup [.int (i : Nat), x2]))
      refine ⟨T2, _, rfl, SqT.of upd_same, rfl, _, _, rfl, _, _, rfl, rfl, ?_⟩
      refine ⟨_, rfl, _, rfl, c, hs, as, ss, x2, d, rfl, ColsAt.same gT hc, dp_same gT _ _ dx', ro d (List.mem_of_getElem? hd'), fun H3 g3 => ⟨_, rfl, ?_⟩⟩
      have g4 := gT.trans g3
      rw [first_at hd'] at e
      cases cr : rowD hs.length (as.map Prod.snd) ss.length d with
      | true =>
        rw [cr, if_pos rfl] at e
        exact iteF ⟨_, _, rfl, g4, e⟩
      | false =>
        rw [cr, if_neg Bool.false_ne_true] at e
        refine iteT ⟨_, rfl, err (some i) [] _ g4 ?_ ?_⟩
        · rw [et, if_neg c60, e]
          rfl
        · intro j hj
          cases hj
          omega
    · rintro σ1 H1 ⟨z3, z4, rfl, g, e⟩
      rw [ln, List.drop_of_length_le (Nat.le_refl _)] at e
      have en : tabR hs.length (as.map Prod.snd) ss.length (.seq ds) = none := by
        rw [et, if_neg c60, e]
        rfl
      have hp1 := g _ _ hp
      refine ⟨_, rfl, _, rfl, p, T.c_Table, dx, [], rfl, hp1, T.cl_Table, T.n_Table_columns, (by decide), ?_⟩
      have b2 := but_put (o := .ins T.c_Table dx (putF "columns" (.ref c) [])) (Same.but (d := p) g)
      have p2 : upd H1 p (.ins T.c_Table dx (putF "columns" (.ref c) [])) p = some (.ins T.c_Table dx (putF "columns" (.ref c) [])) := upd_same
      have s2 : SqA K (upd H1 p (.ins T.c_Table dx (putF "columns" (.ref c) []))) a xs := sqa_put hp1 (sa.same g)
      generalize upd H1 p (.ins T.c_Table dx (putF "columns" (.ref c) [])) = H2 at *
      refine ⟨_, rfl, a, _, rfl, s2, fun t H3 g3 t3 => ?_⟩
      have p3 := g3 _ _ p2
      refine ⟨_, rfl, p, T.c_Table, dx, _, rfl, p3, T.cl_Table, T.n_Table_rows, (by show (1 : Nat) < 1000; decide), ?_⟩
      refine kQ en a xs rfl sa (fun _ e => by cases e; exact da) _ (but_put (b2.same g3)) ⟨dx, t, ?_, sqt_put p3 t3⟩
      rw [upd_same, tabF]
  · have sa : SqA K H a xs := .inr h1
    have h0 := Same.tup g0 h1
    refine .inr ⟨xs, h0, for_it (walk_enumT (xs := xs)) (fun i σ' H' => ∃ z3 z4, σ' = [some (.ref p), some (.ref c), some (.ref a), z3, z4] ∧ Same H H' ∧ firstBad (rowD hs.length (as.map Prod.snd) ss.length) 0 ds = firstBad (rowD hs.length (as.map Prod.snd) ss.length) i (ds.drop i)) ⟨_, _, rfl, g0, rfl⟩ (fun i σ' H' _ z => ?_) ?_ ?_⟩
    · obtain ⟨_, _, _, g, _⟩ := z
      exact Same.tup g h1
    · rintro i x σ1 H1 H2 hi ⟨z3, z4, rfl, g, e⟩ ⟨T2, x1, x2, rfl, hT, rfl, hx1, hx2⟩
      dsimp only at hx1 hx2
      cases hx1
      obtain ⟨d, hd', dx'⟩ : ∃ d, ds[i]? = some d ∧ Dp K H x2 d := by
        have hi2 : i < ds.length := by omega
        obtain ⟨y, hy, dy⟩ := dps_get da (List.getElem?_eq_getElem hi2)
        rw [hx2] at hy
        cases hy
        exact ⟨_, List.getElem?_eq_getElem hi2, dy⟩
      have gT := g.trans (same_new hT (.tup [.int (i : Nat), x2]))
      refine ⟨T2, _, rfl, SqT.of upd_same, rfl, _, _, rfl, _, _, rfl, rfl, ?_⟩
      refine ⟨_, rfl, _, rfl, c, hs, as, ss, x2, d, rfl, ColsAt.same gT hc, dp_same gT _ _ dx', ro d (List.mem_of_getElem? hd'), fun H3 g3 => ⟨_, rfl, ?_⟩⟩
      have g4 := gT.trans g3
      rw [first_at hd'] at e
      cases cr : rowD hs.length (as.map Prod.snd) ss.length d with
      | true =>
        rw [cr, if_pos rfl] at e
        exact iteF ⟨_, _, rfl, g4, e⟩
      | false =>
        rw [cr, if_neg Bool.false_ne_true] at e
        refine iteT ⟨_, rfl, err (some i) [] _ g4 ?_ ?_⟩
        · rw [et, if_neg c60, e]
          rfl
        · intro j hj
          cases hj
          omega
    · rintro σ1 H1 ⟨z3, z4, rfl, g, e⟩
      rw [ln, List.drop_of_length_le (Nat.le_refl _)] at e
      have en : tabR hs.length (as.map Prod.snd) ss.length (.seq ds) = none := by
        rw [et, if_neg c60, e]
        rfl
      have hp1 := g _ _ hp
      refine ⟨_, rfl, _, rfl, p, T.c_Table, dx, [], rfl, hp1, T.cl_Table, T.n_Table_columns, (by decide), ?_⟩
      have b2 := but_put (o := .ins T.c_Table dx (putF "columns" (.ref c) [])) (Same.but (d := p) g)
      have p2 : upd H1 p (.ins T.c_Table dx (putF "columns" (.ref c) [])) p = some (.ins T.c_Table dx (putF "columns" (.ref c) [])) := upd_same
      have s2 : SqA K (upd H1 p (.ins T.c_Table dx (putF "columns" (.ref c) []))) a xs := sqa_put hp1 (sa.same g)
      generalize upd H1 p (.ins T.c_Table dx (putF "columns" (.ref c) [])) = H2 at *
      refine ⟨_, rfl, a, _, rfl, s2, fun t H3 g3 t3 => ?_⟩
      have p3 := g3 _ _ p2
      refine ⟨_, rfl, p, T.c_Table, dx, _, rfl, p3, T.cl_Table, T.n_Table_rows, (by show (1 : Nat) < 1000; decide), ?_⟩
      refine kQ en a xs rfl sa (fun _ e => by cases e; exact da) _ (but_put (b2.same g3)) ⟨dx, t, ?_, sqt_put p3 t3⟩
      rw [upd_same, tabF]

end
end My
set_option Elab.async false
set_option linter.all false
set_option maxRecDepth 100000
set_option maxHeartbeats 400000
namespace My
open PySem L2 PySem.Spec PyProof.Rows
section
variable {P : Program} {w : World} {K : PySem.W.Frag} {mg : Str → Option Value} {base : Heap}
theorem lookT {v1 v2 : V} : List.lookup ("columns" : Str) [(("columns" : Str), v1), (("rows" : Str), v2)] = some v1 ∧ List.lookup ("rows" : Str) [(("columns" : Str), v1), (("rows" : Str), v2)] = some v2 := ⟨look_head, (look_tail (by decide +kernel)).trans look_head⟩
/-! ### == of tables -/
def sp_teq (C CT : Addr) (K : PySem.W.Frag) : Sp := fun vs H Q _ => ∃ (p q c c' : Addr) (hs hs' : List Str) (as : List (Str × Bool)) (ss ss' : List Str) (xs ys : List V) (ds es : List PyData), vs = [.ref p, .ref q] ∧ TabAt K CT H p c xs ∧ TabAt K CT H q c' ys ∧ ColsAt K C H c hs as ss ∧ ColsAt K C H c' hs' as ss' ∧ ColsOk hs as ss ∧ ColsOk hs' as ss' ∧
  DpAll K H xs ds ∧ DpAll K H ys es ∧ SeqAt.shaped (.tuple ds) = true ∧ SeqAt.shaped (.tuple es) = true ∧ Q (.bl ((decide (hs = hs') && decide (ss = ss')) && PyData.eqvAll ds es)) H
theorem ok_Table_eq (T : Txt K mg) : FnOk P w K mg base CX0 3 T.a_Table_eq T.d_Table_eq ["self", "other"] (sp_teq T.c_Columns T.c_Table K) := by
  have G_Columns_eq := ok_Columns_eq (P := P) (w := w) (base := base) T
  refine T.F_Table_eq.ok sc_Table_eq (fun vs H Q E h => ?_) (fun cdv A outer s H vs Q E hr h => ?_)
  · obtain ⟨p, q, c, c', hs, hs', as, ss, ss', xs, ys, ds, es, rfl, _⟩ := h
    rfl
  obtain ⟨p, q, c, c', hs, hs', as, ss, ss', xs, ys, ds, es, rfl, ⟨dx, t, t1, t2⟩, ⟨dy, u, u1, u2⟩, h1, h2, ok1, ok2, da, db, s1, s2, k⟩ := h
  refine ⟨_, (pss_one (ps_ret (pe_and (pe_callB call_isi (by rfl) T.z_isinstance (by decide +kernel) (pa_cons (pv 1) (pa_cons (pe_glob (v := .ref T.c_Table) (by rfl) T.m_Table rfl) pa_nil))) (pe_and (pe_cmpR (op_ownEq G_Columns_eq T.q_Columns_eq.at_ T.q_Columns_eq.fn T.b_Columns_eq pass0 (hr.mono (by first | decide | omega))) (pe_fld (pv 0) rfl) (pe_fld (pv 1) rfl) (nomark _)) (pe_one (pe_cmpR (op_eqD (hu64 hr)) (pe_fld (pv 0) rfl) (pe_fld (pv 1) rfl) (nomark _))))))), ?_⟩
  have at1 := h1
  have at2 := h2
  obtain ⟨d1, _, _, _, i1, _⟩ := h1
  obtain ⟨d2, _, _, _, i2, _⟩ := h2
  refine ⟨_, rfl, _, .ref T.c_Table, _, _, true, rfl, .own _, T.ty_Table u1, kit_self _ _, _, rfl, iteT ?_⟩
  refine ⟨_, rfl, p, T.c_Table, dx, _, _, rfl, t1, T.cl_Table, T.n_Table_columns, lookT.1, _, rfl, q, T.c_Table, dy, _, _, rfl, u1, T.cl_Table, T.n_Table_columns, lookT.1, ?_⟩
  refine ⟨c, c', d1, d2, _, _, rfl, rfl, i1, i2, c, c', hs, hs', as, ss, ss', rfl, at1, at2, ok1, ok2, _, rfl, _, rfl, ?_⟩
  cases e : (decide (hs = hs') && decide (ss = ss')) with
  | false =>
    rw [e, Bool.false_and] at k
    exact iteF k
  | true =>
    rw [e, Bool.true_and] at k
    refine iteT ⟨_, rfl, p, T.c_Table, dx, _, _, rfl, t1, T.cl_Table, T.n_Table_rows, lookT.2, _, rfl, q, T.c_Table, dy, _, _, rfl, u1, T.cl_Table, T.n_Table_rows, lookT.2, .tuple ds, .tuple es, .tup t2 da, .tup u2 db, s1, s2, ?_⟩
    rw [PyData.eqv]
    exact k

end
end My
set_option Elab.async false
set_option linter.all false
set_option maxRecDepth 100000
set_option maxHeartbeats 400000
namespace My
open PySem L2 PySem.Spec PyProof.Rows
section
variable {P : Program} {w : World} {K : PySem.W.Frag} {mg : Str → Option Value} {base : Heap}
/-! ### {k: d[k] for k in d}: a copy -/
theorem upd_upd {H : Hp} {a : Addr} {o p : HO} : upd (upd H a o) a p = upd H a p := by
  funext b
  by_cases e : b = a
  · rw [e, upd_same, upd_same]
  · rw [upd_ne e, upd_ne e, upd_ne e]
theorem upd_back {H : Hp} {a D : Addr} {o p u : HO} (n : D ≠ a) (h : H a = some u) : upd (upd (upd H a o) D p) a u = upd H D p := by
  funext b
  by_cases e : b = a
  · rw [e, upd_same, upd_ne (Ne.symm n), h]
  · rw [upd_ne e]
    by_cases e2 : b = D
    · rw [e2, upd_same, upd_same]
    · rw [upd_ne e2, upd_ne e2, upd_ne e]
theorem wipe_one {σ : L2.St} {j : Nat} {v : Option V} : wipe ((wipe σ [j]).set j v) [j] = wipe σ [j] := by
  show (((σ.set j none).set j v).set j none) = σ.set j none
  rw [List.set_set, List.set_set]
theorem wiped_own {σ : L2.St} {j : Nat} {v : Option V} (h : j < σ.length) : ((wipe σ [j]).set j v)[j]? = some v := by
  show ((σ.set j none).set j v)[j]? = some v
  rw [List.set_set, List.getElem?_set_self h]
theorem wiped_oth {σ : L2.St} {i j : Nat} {v : Option V} (n : i ≠ j) : ((wipe σ [j]).set j v)[i]? = σ[i]? := by
  show ((σ.set j none).set j v)[i]? = _
  rw [List.set_set, List.getElem?_set_ne (Ne.symm n)]
theorem putK_end {κ : Type} [DecidableEq κ] (kvs : List (κ × V)) (k : κ) (v : V) (h : k ∉ kvs.map Prod.fst) : putK kvs k v = kvs ++ [(k, v)] := by
  have n : ¬ (kvs.any fun kv => decide (kv.1 = k)) = true := fun e => by
    obtain ⟨x, hx, e⟩ := List.any_eq_true.mp e
    exact h (List.mem_map.mpr ⟨x, hx, of_decide_eq_true e⟩)
  rw [putK, if_neg n]
theorem fresh_take {κ : Type} [DecidableEq κ] {kvs : List (κ × V)} {k : Nat} {x : κ × V} (nd : (kvs.map Prod.fst).Nodup) (hk : kvs[k]? = some x) : x.1 ∉ (kvs.take k).map Prod.fst := by
  have tk := take_more' hk
  have nodup : (((kvs.take k ++ [x])).map Prod.fst).Nodup := by
    rw [← tk]
    exact ((List.take_sublist _ _).map Prod.fst).nodup nd
  intro z
  rw [List.map_append, List.nodup_append] at nodup
  exact nodup.2.2 x.1 z x.1 (by simp) rfl
theorem valV_at {κ : Type} [DecidableEq κ] : ∀ {kvs : List (κ × V)} {x : κ × V}, (kvs.map Prod.fst).Nodup → x ∈ kvs → valV kvs x.1 = some x.2
  | [], _, _, h => by cases h
  | y :: r, x, nd, h => by
    rw [List.map_cons, List.nodup_cons] at nd
    unfold valV
    rcases List.mem_cons.mp h with h | h
    · subst h
      rw [List.find?_cons_of_pos (by simp)]
      rfl
    · have n : y.1 ≠ x.1 := fun e => nd.1 (e ▸ List.mem_map.mpr ⟨x, h, rfl⟩)
      rw [List.find?_cons_of_neg (by simpa using n)]
      exact valV_at nd.2 h
theorem copy_dK {σ : L2.St} {H : Hp} {Q : VK} {a : Addr} {kvs : List (Key × V)} {i j : Nat} (hi : σ[i]? = some (some (.ref a))) (hj : j < σ.length) (ne : i ≠ j) (ha : H a = some (.dK kvs)) (nd : (kvs.map Prod.fst).Nodup) (few : kvs.length ≤ 15) (q : ∀ D, H D = none → Q (.ref D) (upd H D (.dK kvs))) :
    tLockE (tDc (iKeys (tVar i)) (gName j) tYes (tVar j) (tDGet (tVar i) (tVar j)) [j]) σ H Q := by
  refine ⟨a, _, ha, trivial, fun od => ⟨_, hi, a, od, rfl, .inl ⟨kvs, upd_same, fun D hD => ?_⟩⟩⟩
  have nD : D ≠ a := fun z => by
    rw [z, upd_same] at hD
    cases hD
  rw [upd_ne nD] at hD
  refine ⟨fun i m H' => i + m = kvs.length ∧ H' = upd (upd H a (.frz od (.dK kvs))) D (.dK (kvs.take i)), ⟨kvs.length, by simp, rfl⟩, ?_⟩
  rintro k m H' ⟨e, rfl⟩
  have at_ : ∀ u, upd (upd H a (.frz od (.dK kvs))) D u a = some (.frz od (.dK kvs)) := fun u => by rw [upd_ne (Ne.symm nD), upd_same]
  by_cases lt : k < kvs.length
  · refine .inr ⟨⟨at_ _, lt⟩, fun H'' => H'' = upd (upd H a (.frz od (.dK kvs))) D (.dK (kvs.take (k + 1))), fun H'' z => ⟨m - 1, by omega, by omega, z⟩, ?_⟩
    rintro x H'' ⟨rfl, key, v, hk, rfl⟩
    refine ⟨wipe_one, ?_⟩
    refine ⟨_, wiped_own hj, _, (wiped_oth ne).trans hi, _, wiped_own hj, a, v, rfl, .inl ⟨kvs, key, .inr ⟨od, at_ _⟩, rfl, (valV_at nd (List.mem_of_getElem? hk)).symm⟩, _, key, rfl, upd_same, ?_, ?_⟩
    · rw [List.length_take]
      exact small1000 (by omega)
    · rw [upd_upd, putK_end _ _ _ (fresh_take nd hk), ← take_more' hk]
  · refine .inl ⟨⟨at_ _, by omega⟩, at_ _, ?_⟩
    rw [List.take_of_length_le (by omega), upd_back nD ha]
    exact q D hD
theorem copy_dT {σ : L2.St} {H : Hp} {Q : VK} {a : Addr} {kvs : List (List Key × V)} {i j : Nat} (hi : σ[i]? = some (some (.ref a))) (hj : j < σ.length) (ne : i ≠ j) (ha : H a = some (.dT kvs)) (nd : (kvs.map Prod.fst).Nodup) (few : kvs.length ≤ 15) (q : ∀ D, H D = none → Q (.ref D) (upd H D (.dT kvs))) :
    tLockE (tDcT (iKeys (tVar i)) (gName j) tYes (tVar j) (tDGet (tVar i) (tVar j)) [j]) σ H Q := by
  refine ⟨a, _, ha, trivial, fun od => ⟨_, hi, a, od, rfl, .inr ⟨kvs, upd_same, fun D hD => ?_⟩⟩⟩
  have nD : D ≠ a := fun z => by
    rw [z, upd_same] at hD
    cases hD
  rw [upd_ne nD] at hD
  refine ⟨fun i m H' => i + m = kvs.length ∧ H' = upd (upd H a (.frz od (.dT kvs))) D (.dT (kvs.take i)), ⟨kvs.length, by simp, rfl⟩, ?_⟩
  rintro k m H' ⟨e, rfl⟩
  have at_ : ∀ u, upd (upd H a (.frz od (.dT kvs))) D u a = some (.frz od (.dT kvs)) := fun u => by rw [upd_ne (Ne.symm nD), upd_same]
  by_cases lt : k < kvs.length
  · refine .inr ⟨⟨at_ _, lt⟩, fun H'' => H'' = upd (upd H a (.frz od (.dT kvs))) D (.dT (kvs.take (k + 1))), fun H'' z => ⟨m - 1, by omega, by omega, z⟩, ?_⟩
    rintro x H'' ⟨rfl, key, v, p, hk, rfl, hp⟩
    refine ⟨wipe_one, ?_⟩
    refine ⟨_, wiped_own hj, _, (wiped_oth ne).trans hi, _, wiped_own hj, a, v, rfl, .inr ⟨kvs, key, p, .inr ⟨od, at_ _⟩, rfl, hp, (valV_at nd (List.mem_of_getElem? hk)).symm⟩, p, key, _, rfl, hp, upd_same, ?_, ?_⟩
    · rw [List.length_take]
      exact small1000 (by omega)
    · rw [upd_upd, putK_end _ _ _ (fresh_take nd hk), ← take_more' hk]
  · refine .inl ⟨⟨at_ _, by omega⟩, at_ _, ?_⟩
    rw [List.take_of_length_le (by omega), upd_back nD ha]
    exact q D hD

end
end My
set_option Elab.async false
set_option linter.all false
set_option maxRecDepth 100000
set_option maxHeartbeats 400000
namespace My
open PySem L2 PySem.Spec PyProof.Rows
section
variable {P : Program} {w : World} {K : PySem.W.Frag} {mg : Str → Option Value} {base : Heap}
/-! ### what makes them -/
theorem fld2 {a b : Str} (h : ¬ a = b) (x y : V) : putF b y (putF a x []) = [(a, x), (b, y)] := (if_neg h).trans rfl
theorem fld3 {a b c : Str} (h : ¬ a = b) (h1 : ¬ a = c) (h2 : ¬ b = c) (x y z : V) : putF c z (putF b y (putF a x [])) = [(a, x), (b, y), (c, z)] := by
  rw [fld2 h]
  exact (if_neg h1).trans (congrArg _ (if_neg h2))
theorem lk2 {a b : Str} {x y : V} (h : (b == a) = false) : List.lookup b [(a, x), (b, y)] = some y := (look_tail h).trans look_head
theorem lk3b {a b c : Str} {x y z : V} (h : (b == a) = false) : List.lookup b [(a, x), (b, y), (c, z)] = some y := (look_tail h).trans look_head
theorem lk3c {a b c : Str} {x y z : V} (h : (c == a) = false) (h2 : (c == b) = false) : List.lookup c [(a, x), (b, y), (c, z)] = some z := (look_tail h).trans ((look_tail h2).trans look_head)
theorem put_at {H : Hp} {p m C dx : Addr} {fs : List (Str × V)} {o u : HO} (hp : H p = some (.ins C dx fs)) (hm : H m = some u) (no : ∀ C dx fs, u ≠ .ins C dx fs) : upd H p o m = some u := by
  rw [upd_ne (ne_of hm hp (fun z => no _ _ _ z))]
  exact hm
def sp_sinit (C : Addr) (K : PySem.W.Frag) : Sp := fun vs H Q _ => ∃ (p dx m : Addr) (kvs : List (Key × V)), vs = [.ref p, .ref m] ∧ H p = some (.ins C dx []) ∧ H m = some (.dK kvs) ∧ (kvs.map Prod.fst).Nodup ∧ kvs.length ≤ 15 ∧
  ∀ (D : Addr) (H' : Hp), But p H H' → H' p = some (.ins C dx [("maps", .ref D)]) → H' D = some (.dK kvs) → H D = none → Q .non H'
theorem ok_Same_init (T : Txt K mg) : FnOk P w K mg base CX0 1 T.a_Same_init T.d_Same_init ["self", "maps"] (sp_sinit T.c_Same K) := by
  refine T.F_Same_init.ok sc_Same_init (fun vs H Q E h => ?_) (fun cdv A outer s H vs Q E hr h => ?_)
  · obtain ⟨p, dx, m, kvs, rfl, _⟩ := h
    rfl
  obtain ⟨p, dx, m, kvs, rfl, hp, hm, nd, few, k⟩ := h
  refine ⟨_, (pss_one (ps_fld (pv 0) (pe_lock (pe_dc (own := [("kind", 2)]) rfl sc_Same_init.nd (pi_keys (pv 1)) (blkOk_by (own := [("kind", 2)]) (N := ["self", "maps", "kind"]) (sc := defScope s_Same_init) (by decide +kernel)) (fun _ _ _ _ _ => (pg_name (i := 2) sc_Same_init.nd rfl (by first | exact Or.inl rfl | exact Or.inr rfl))) (fun _ _ _ _ _ => pts_nil) (fun _ _ _ _ _ => (pv 2)) (fun _ _ _ _ _ => (pe_dget (hu_of hr) (pv 1) (pv 2) (fun _ _ => rfl))))) rfl)), ?_⟩
  refine copy_dK (i := 1) (j := 2) (by rfl) (by show (2 : Nat) < 3; decide) (by decide) hm nd few fun D hD => ?_
  have nD : p ≠ D := ne_of_none hp hD
  refine ⟨_, rfl, p, T.c_Same, dx, [], rfl, (upd_ne nD).trans hp, T.cl_Same, T.n_Same_maps, (by decide), ?_⟩
  refine k D _ (but_put (Same.but (same_new hD _))) upd_same ?_ hD
  rw [upd_ne (Ne.symm nD), upd_same]
def sp_uinit (C : Addr) (K : PySem.W.Frag) : Sp := fun vs H Q _ => ∃ (p dx : Addr) (w : V) (m c : Addr) (kvs : List (Key × V)) (ys : List V), vs = [.ref p, w, .ref m, .ref c] ∧ H p = some (.ins C dx []) ∧ H m = some (.dK kvs) ∧ (kvs.map Prod.fst).Nodup ∧ kvs.length ≤ 15 ∧ SqA K H c ys ∧
  ∀ (D t : Addr) (H' : Hp), But p H H' → H' p = some (.ins C dx [("which", w), ("chosen", .ref D), ("chances", .ref t)]) → H' D = some (.dK kvs) → H D = none → SqT K H' t ys → Q .non H'
theorem ok_Unlike_init (T : Txt K mg) : FnOk P w K mg base CX0 1 T.a_Unlike_init T.d_Unlike_init ["self", "which", "chosen", "chances"] (sp_uinit T.c_Unlike K) := by
  refine T.F_Unlike_init.ok sc_Unlike_init (fun vs H Q E h => ?_) (fun cdv A outer s H vs Q E hr h => ?_)
  · obtain ⟨p, dx, w, m, c, kvs, ys, rfl, _⟩ := h
    rfl
  obtain ⟨p, dx, w, m, c, kvs, ys, rfl, hp, hm, nd, few, hc, k⟩ := h
  refine ⟨_, (pss_cons (ps_fld (pv 0) (pv 1) rfl)
    (pss_cons (ps_fld (pv 0) (pe_lock (pe_dc (own := [("kind", 4)]) rfl sc_Unlike_init.nd (pi_keys (pv 2)) (blkOk_by (own := [("kind", 4)]) (N := ["self", "which", "chosen", "chances", "kind"]) (sc := defScope s_Unlike_init) (by decide +kernel)) (fun _ _ _ _ _ => (pg_name (i := 4) sc_Unlike_init.nd rfl (by first | exact Or.inl rfl | exact Or.inr rfl))) (fun _ _ _ _ _ => pts_nil) (fun _ _ _ _ _ => (pv 4)) (fun _ _ _ _ _ => (pe_dget (hu_of hr) (pv 2) (pv 4) (fun _ _ => rfl))))) rfl)
    (pss_one (ps_fld (pv 0) (pe_callTy call_tupA (by rfl) T.z_tuple (by decide +kernel) (pa_cons (pv 3) pa_nil)) rfl)))), ?_⟩
  refine ⟨_, rfl, _, rfl, p, T.c_Unlike, dx, [], rfl, hp, T.cl_Unlike, T.n_Unlike_which, (by decide), ?_⟩
  have b1 := but_put (o := .ins T.c_Unlike dx (putF "which" w [])) (Same.but (d := p) (Same.refl H))
  have p1 : upd H p (.ins T.c_Unlike dx (putF "which" w [])) p = some (.ins T.c_Unlike dx (putF "which" w [])) := upd_same
  have m1 := put_at (o := .ins T.c_Unlike dx (putF "which" w [])) hp hm (fun _ _ _ z => nomatch z)
  have c1 := sqa_put (o := .ins T.c_Unlike dx (putF "which" w [])) hp hc
  have fresh : ∀ D, upd H p (.ins T.c_Unlike dx (putF "which" w [])) D = none → H D = none := fun D hD => by
    by_cases e : D = p
    · rw [e, upd_same] at hD
      cases hD
    · rw [upd_ne e] at hD
      exact hD
  generalize upd H p (.ins T.c_Unlike dx (putF "which" w [])) = H1 at *
  dsimp only
  first | unfold tSeq sFld | unfold sFld
  refine copy_dK (σ := [some (.ref p), some w, some (.ref m), some (.ref c), none]) (i := 2) (j := 4) (by rfl) (by show (4 : Nat) < 5; decide) (by decide) m1 nd few fun D hD => ?_
  have nD : p ≠ D := ne_of_none p1 hD
  have g2 := same_new hD (.dK kvs)
  have d2 : upd H1 D (.dK kvs) D = some (.dK kvs) := upd_same
  generalize upd H1 D (.dK kvs) = H2 at *
  have p2 := g2 _ _ p1
  refine ⟨_, rfl, p, T.c_Unlike, dx, _, rfl, p2, T.cl_Unlike, T.n_Unlike_chosen, (by show (1 : Nat) < 1000; decide), ?_⟩
  have b3 := but_put (o := .ins T.c_Unlike dx (putF "chosen" (.ref D) (putF "which" w []))) (b1.same g2)
  have p3 : upd H2 p (.ins T.c_Unlike dx (putF "chosen" (.ref D) (putF "which" w []))) p = some (.ins T.c_Unlike dx (putF "chosen" (.ref D) (putF "which" w []))) := upd_same
  have d3 := put_at (o := .ins T.c_Unlike dx (putF "chosen" (.ref D) (putF "which" w []))) p2 d2 (fun _ _ _ z => nomatch z)
  have c3 := sqa_put (o := .ins T.c_Unlike dx (putF "chosen" (.ref D) (putF "which" w []))) p2 (c1.same g2)
  generalize upd H2 p (.ins T.c_Unlike dx (putF "chosen" (.ref D) (putF "which" w []))) = H3 at *
  refine ⟨_, rfl, c, _, rfl, c3, fun t H4 g4 t4 => ?_⟩
  have p4 := g4 _ _ p3
  refine ⟨_, rfl, p, T.c_Unlike, dx, _, rfl, p4, T.cl_Unlike, T.n_Unlike_chances, (by rw [fld2 (by decide +kernel)]; show (2 : Nat) < 1000; decide), ?_⟩
  refine k D t _ (but_put (b3.same g4)) ?_ (put_at p4 (g4 _ _ d3) fun _ _ _ z => nomatch z) (fresh D hD) (sqt_put p4 t4)
  rw [upd_same, fld3 (by decide +kernel) (by decide +kernel) (by decide +kernel)]
def sp_ainit (C : Addr) (K : PySem.W.Frag) : Sp := fun vs H Q _ => ∃ (p dx : Addr) (w : V) (c : Addr) (ys : List V), vs = [.ref p, w, .ref c] ∧ H p = some (.ins C dx []) ∧ SqA K H c ys ∧
  ∀ (t : Addr) (H' : Hp), But p H H' → H' p = some (.ins C dx [("table", w), ("chances", .ref t)]) → SqT K H' t ys → Q .non H'
theorem ok_Apart_init (T : Txt K mg) : FnOk P w K mg base CX0 1 T.a_Apart_init T.d_Apart_init ["self", "table", "chances"] (sp_ainit T.c_Apart K) := by
  refine T.F_Apart_init.ok sc_Apart_init (fun vs H Q E h => ?_) (fun cdv A outer s H vs Q E hr h => ?_)
  · obtain ⟨p, dx, w, c, ys, rfl, _⟩ := h
    rfl
  obtain ⟨p, dx, w, c, ys, rfl, hp, hc, k⟩ := h
  refine ⟨_, (pss_cons (ps_fld (pv 0) (pv 1) rfl)
    (pss_one (ps_fld (pv 0) (pe_callTy call_tupA (by rfl) T.z_tuple (by decide +kernel) (pa_cons (pv 2) pa_nil)) rfl))), ?_⟩
  refine ⟨_, rfl, _, rfl, p, T.c_Apart, dx, [], rfl, hp, T.cl_Apart, T.n_Apart_table, (by decide), ?_⟩
  have b1 := but_put (o := .ins T.c_Apart dx (putF "table" w [])) (Same.but (d := p) (Same.refl H))
  have p1 : upd H p (.ins T.c_Apart dx (putF "table" w [])) p = some (.ins T.c_Apart dx (putF "table" w [])) := upd_same
  have c1 := sqa_put (o := .ins T.c_Apart dx (putF "table" w [])) hp hc
  generalize upd H p (.ins T.c_Apart dx (putF "table" w [])) = H1 at *
  refine ⟨_, rfl, c, _, rfl, c1, fun t H4 g4 t4 => ?_⟩
  have p4 := g4 _ _ p1
  refine ⟨_, rfl, p, T.c_Apart, dx, _, rfl, p4, T.cl_Apart, T.n_Apart_chances, (by show (1 : Nat) < 1000; decide), ?_⟩
  refine k t _ (but_put (b1.same g4)) ?_ (sqt_put p4 t4)
  rw [upd_same, fld2 (by decide +kernel)]
def sp_oinit (C : Addr) (K : PySem.W.Frag) : Sp := fun vs H Q _ => ∃ (p dx r m : Addr) (xs : List V) (kvs : List (List Key × V)), vs = [.ref p, .ref r, .ref m] ∧ H p = some (.ins C dx []) ∧ SqA K H r xs ∧ H m = some (.dT kvs) ∧ (kvs.map Prod.fst).Nodup ∧ kvs.length ≤ 15 ∧
  ∀ (t D : Addr) (H' : Hp), But p H H' → H' p = some (.ins C dx [("row", .ref t), ("draws", .ref D)]) → H' D = some (.dT kvs) → H D = none → SqT K H' t xs → Q .non H'
theorem ok_Outside_init (T : Txt K mg) : FnOk P w K mg base CX0 1 T.a_Outside_init T.d_Outside_init ["self", "row", "draws"] (sp_oinit T.c_Outside K) := by
  refine T.F_Outside_init.ok sc_Outside_init (fun vs H Q E h => ?_) (fun cdv A outer s H vs Q E hr h => ?_)
  · obtain ⟨p, dx, r, m, xs, kvs, rfl, _⟩ := h
    rfl
  obtain ⟨p, dx, r, m, xs, kvs, rfl, hp, hr1, hm, nd, few, k⟩ := h
  refine ⟨_, (pss_cons (ps_fld (pv 0) (pe_callTy call_tupA (by rfl) T.z_tuple (by decide +kernel) (pa_cons (pv 1) pa_nil)) rfl)
    (pss_one (ps_fld (pv 0) (pe_lock (pe_dcT (own := [("test", 3)]) rfl (hu64' hr) sc_Outside_init.nd (pi_keys (pv 2)) (blkOk_by (own := [("test", 3)]) (N := ["self", "row", "draws", "test"]) (sc := defScope s_Outside_init) (by decide +kernel)) (fun _ _ _ _ _ => (pg_name (i := 3) sc_Outside_init.nd rfl (by first | exact Or.inl rfl | exact Or.inr rfl))) (fun _ _ _ _ _ => pts_nil) (fun _ _ _ _ _ => (pv 3)) (fun _ _ _ _ _ => (pe_dget (hu_of hr) (pv 2) (pv 3) (fun _ _ => rfl))))) rfl))), ?_⟩
  refine ⟨_, rfl, r, _, rfl, hr1, fun t H1 g1 t1 => ?_⟩
  have p0 := g1 _ _ hp
  have m0 := g1 _ _ hm
  refine ⟨_, rfl, p, T.c_Outside, dx, [], rfl, p0, T.cl_Outside, T.n_Outside_row, (by decide), ?_⟩
  have b1 := but_put (o := .ins T.c_Outside dx (putF "row" (.ref t) [])) (Same.but (d := p) g1)
  have p1 : upd H1 p (.ins T.c_Outside dx (putF "row" (.ref t) [])) p = some (.ins T.c_Outside dx (putF "row" (.ref t) [])) := upd_same
  have m1 := put_at (o := .ins T.c_Outside dx (putF "row" (.ref t) [])) p0 m0 (fun _ _ _ z => nomatch z)
  have t2 := sqt_put (o := .ins T.c_Outside dx (putF "row" (.ref t) [])) p0 t1
  generalize upd H1 p (.ins T.c_Outside dx (putF "row" (.ref t) [])) = H2 at *
  dsimp only
  first | unfold tSeq sFld | unfold sFld
  refine copy_dT (σ := [some (.ref p), some (.ref r), some (.ref m), none]) (i := 2) (j := 3) (by rfl) (by show (3 : Nat) < 4; decide) (by decide) m1 nd few fun D hD => ?_
  have fresh : H D = none := by
    cases e : H D with
    | none => rfl
    | some o =>
      by_cases z : D = p
      · rw [z, p1] at hD
        cases hD
      · rw [b1 D o z e] at hD
        cases hD
  have g2 := same_new hD (.dT kvs)
  have d2 : upd H2 D (.dT kvs) D = some (.dT kvs) := upd_same
  generalize upd H2 D (.dT kvs) = H3 at *
  have p3 := g2 _ _ p1
  refine ⟨_, rfl, p, T.c_Outside, dx, _, rfl, p3, T.cl_Outside, T.n_Outside_draws, (by show (1 : Nat) < 1000; decide), ?_⟩
  refine k t D _ (but_put (b1.same g2)) ?_ (put_at p3 d2 fun _ _ _ z => nomatch z) fresh (sqt_put p3 (Same.tup g2 t2))
  rw [upd_same, fld2 (by decide +kernel)]
def sp_chinit (C : Addr) (K : PySem.W.Frag) : Sp := fun vs H Q _ => ∃ (p dx : Addr) (w pa : V) (m : Addr) (kvs : List (Key × V)), vs = [.ref p, w, pa, .ref m] ∧ H p = some (.ins C dx []) ∧ H m = some (.dK kvs) ∧ (kvs.map Prod.fst).Nodup ∧ kvs.length ≤ 15 ∧
  ∀ (D : Addr) (H' : Hp), But p H H' → H' p = some (.ins C dx [("number", w), ("paper", pa), ("against", .ref D)]) → H' D = some (.dK kvs) → H D = none → Q .non H'
theorem ok_Cheapest_init (T : Txt K mg) : FnOk P w K mg base CX0 1 T.a_Cheapest_init T.d_Cheapest_init ["self", "number", "paper", "against"] (sp_chinit T.c_Cheapest K) := by
  refine T.F_Cheapest_init.ok sc_Cheapest_init (fun vs H Q E h => ?_) (fun cdv A outer s H vs Q E hr h => ?_)
  · obtain ⟨p, dx, w, pa, m, kvs, rfl, _⟩ := h
    rfl
  obtain ⟨p, dx, w, pa, m, kvs, rfl, hp, hm, nd, few, k⟩ := h
  refine ⟨_, (pss_cons (ps_fld (pv 0) (pv 1) rfl)
    (pss_cons (ps_fld (pv 0) (pv 2) rfl)
    (pss_one (ps_fld (pv 0) (pe_lock (pe_dc (own := [("at", 4)]) rfl sc_Cheapest_init.nd (pi_keys (pv 3)) (blkOk_by (own := [("at", 4)]) (N := ["self", "number", "paper", "against", "at"]) (sc := defScope s_Cheapest_init) (by decide +kernel)) (fun _ _ _ _ _ => (pg_name (i := 4) sc_Cheapest_init.nd rfl (by first | exact Or.inl rfl | exact Or.inr rfl))) (fun _ _ _ _ _ => pts_nil) (fun _ _ _ _ _ => (pv 4)) (fun _ _ _ _ _ => (pe_dget (hu_of hr) (pv 3) (pv 4) (fun _ _ => rfl))))) rfl)))), ?_⟩
  refine ⟨_, rfl, _, rfl, p, T.c_Cheapest, dx, [], rfl, hp, T.cl_Cheapest, T.n_Cheapest_number, (by decide), ?_⟩
  have b1 := but_put (o := .ins T.c_Cheapest dx (putF "number" w [])) (Same.but (d := p) (Same.refl H))
  have p1 : upd H p (.ins T.c_Cheapest dx (putF "number" w [])) p = some (.ins T.c_Cheapest dx (putF "number" w [])) := upd_same
  have m1 := put_at (o := .ins T.c_Cheapest dx (putF "number" w [])) hp hm (fun _ _ _ z => nomatch z)
  generalize upd H p (.ins T.c_Cheapest dx (putF "number" w [])) = H1 at *
  refine ⟨_, rfl, _, rfl, p, T.c_Cheapest, dx, _, rfl, p1, T.cl_Cheapest, T.n_Cheapest_paper, (by show (1 : Nat) < 1000; decide), ?_⟩
  have b2 := but_put (o := .ins T.c_Cheapest dx (putF "paper" pa (putF "number" w []))) b1
  have p2 : upd H1 p (.ins T.c_Cheapest dx (putF "paper" pa (putF "number" w []))) p = some (.ins T.c_Cheapest dx (putF "paper" pa (putF "number" w []))) := upd_same
  have m2 := put_at (o := .ins T.c_Cheapest dx (putF "paper" pa (putF "number" w []))) p1 m1 (fun _ _ _ z => nomatch z)
  generalize upd H1 p (.ins T.c_Cheapest dx (putF "paper" pa (putF "number" w []))) = H2 at *
  dsimp only
  first | unfold tSeq sFld | unfold sFld
  refine copy_dK (σ := [some (.ref p), some w, some pa, some (.ref m), none]) (i := 3) (j := 4) (by rfl) (by show (4 : Nat) < 5; decide) (by decide) m2 nd few fun D hD => ?_
  have fresh : H D = none := by
    cases e : H D with
    | none => rfl
    | some o =>
      by_cases z : D = p
      · rw [z, p2] at hD
        cases hD
      · rw [b2 D o z e] at hD
        cases hD
  have g2 := same_new hD (.dK kvs)
  have d2 : upd H2 D (.dK kvs) D = some (.dK kvs) := upd_same
  generalize upd H2 D (.dK kvs) = H3 at *
  have p3 := g2 _ _ p2
  refine ⟨_, rfl, p, T.c_Cheapest, dx, _, rfl, p3, T.cl_Cheapest, T.n_Cheapest_against, (by rw [fld2 (by decide +kernel)]; show (2 : Nat) < 1000; decide), ?_⟩
  refine k D _ (but_put (b2.same g2)) ?_ (put_at p3 d2 fun _ _ _ z => nomatch z) fresh
  rw [upd_same, fld3 (by decide +kernel) (by decide +kernel) (by decide +kernel)]

end
end My
set_option Elab.async false
set_option linter.all false
set_option maxRecDepth 100000
set_option maxHeartbeats 400000
namespace My
open PySem L2 PySem.Spec PyProof.Rows
section
variable {P : Program} {w : World} {K : PySem.W.Frag} {mg : Str → Option Value} {base : Heap}
/-! ### kernels and arrays: what makes them -/
def kBlock : Key := .inr ("block" : Str)
def kKey : Key := .inr ("key k" : Str)
theorem yes_if {σ : L2.St} {H : Hp} {a c : Hp → Prop} (h : a H) : tYes σ H (fun b H' => if b = true then a H' else c H') := h
theorem bk_ne : kBlock ≠ kKey := fun z => absurd (Sum.inr.inj z) (by decide +kernel)
theorem sort_two : sortS [("key k" : Str), ("block" : Str)] = [("block" : Str), ("key k" : Str)] := (sort_eq (List.Perm.swap _ _ _) (by decide +kernel)).symm
theorem fresh_of {H H' : Hp} {p D : Addr} {o : HO} (b : But p H H') (hp : H' p = some o) (h : H' D = none) : H D = none := by
  cases e : H D with
  | none => rfl
  | some u =>
    by_cases z : D = p
    · rw [z, hp] at h
      cases h
    · rw [b D u z e] at h
      cases h
def sp_arinit (C : Addr) (K : PySem.W.Frag) : Sp := fun vs H Q _ => ∃ (p dx m e c : Addr) (x y : V) (kvs : List (List Key × V)), vs = [.ref p, .ref m, .ref e] ∧ H p = some (.ins C dx []) ∧ H m = some (.dK [(kKey, x), (kBlock, y)]) ∧ SqL K H e [.ref c] ∧ H c = some (.dT kvs) ∧ (kvs.map Prod.fst).Nodup ∧ kvs.length ≤ 15 ∧
  ∀ (D t D2 : Addr) (H' : Hp), But p H H' → H' p = some (.ins C dx [("sizes", .ref D), ("entries", .ref t)]) → H' D = some (.dK [(kBlock, y), (kKey, x)]) → SqT K H' t [.ref D2] → H' D2 = some (.dT kvs) → H D = none → H D2 = none → H t = none → Q .non H'
theorem ok_Array_init (T : Txt K mg) : FnOk P w K mg base CX0 1 T.a_Array_init T.d_Array_init ["self", "sizes", "entries"] (sp_arinit T.c_Array K) := by
  refine T.F_Array_init.ok sc_Array_init (fun vs H Q E h => ?_) (fun cdv A outer s H vs Q E hr h => ?_)
  · obtain ⟨p, dx, m, e, c, x, y, kvs, rfl, _⟩ := h
    rfl
  obtain ⟨p, dx, m, e, c, x, y, kvs, rfl, hp, hm, he, hc, nd, few, k⟩ := h
  refine ⟨_, (pss_cons (ps_fld (pv 0) (pe_dc (own := [("kind", 3)]) rfl sc_Array_init.nd (pi_list (pe_callB (call_sortedD rfl) (by rfl) T.z_sorted (by decide +kernel) (pa_cons (pv 1) pa_nil))) (blkOk_by (own := [("kind", 3)]) (N := ["self", "sizes", "entries", "kind", "entities", "shares"]) (sc := defScope s_Array_init) (by decide +kernel)) (fun _ _ _ _ _ => (pg_name (i := 3) sc_Array_init.nd rfl (by first | exact Or.inl rfl | exact Or.inr rfl))) (fun _ _ _ _ _ => pts_nil) (fun _ _ _ _ _ => (pv 3)) (fun _ _ _ _ _ => (pe_dget (hu_of hr) (pv 1) (pv 3) (fun _ _ => rfl)))) rfl)
    (pss_one (ps_fld (pv 0) (pe_callTy call_tuple_of (by rfl) T.z_tuple (by decide +kernel) (pa_cons (pe_lc (own := [("shares", 5)]) rfl sc_Array_init.nd (pi_list (pv 2)) (blkOk_by (own := [("shares", 5)]) (N := ["self", "sizes", "entries", "kind", "entities", "shares"]) (sc := defScope s_Array_init) (by decide +kernel)) (fun _ _ _ _ _ => (pg_name (i := 5) sc_Array_init.nd rfl (by first | exact Or.inl rfl | exact Or.inr rfl))) (fun _ _ _ _ _ => pts_nil) (fun _ _ _ _ _ => (pe_lock (pe_dcT (own := [("entities", 4)]) rfl (hu64' hr) sc_Array_init.nd (pi_keys (pv 5)) (blkOk_by (own := [("entities", 4)]) (N := ["self", "sizes", "entries", "kind", "entities", "shares"]) (sc := relS _ (defScope s_Array_init)) (by decide +kernel)) (fun _ _ _ _ _ => (pg_name (i := 4) sc_Array_init.nd rfl (by first | exact Or.inl rfl | exact Or.inr rfl))) (fun _ _ _ _ _ => pts_nil) (fun _ _ _ _ _ => (pv 4)) (fun _ _ _ _ _ => (pe_dget (hu_of hr) (pv 5) (pv 4) (fun _ _ => rfl))))))) pa_nil)) rfl))), ?_⟩
  refine ⟨_, rfl, m, [(kKey, x), (kBlock, y)], [("key k" : Str), ("block" : Str)], rfl, Rd.of hm, rfl, (by decide), fun ys l pe so hl => ?_⟩
  obtain rfl := sort_eq pe so
  rw [sort_two]
  refine ⟨l, rfl, ⟨_, SqL.of upd_same⟩, fun D hD => ?_⟩
  have g1 := same_new hl (.lst ([("block" : Str), ("key k" : Str)].map V.str))
  have l1 : SqL K (upd H l (.lst ([("block" : Str), ("key k" : Str)].map V.str))) l ([("block" : Str), ("key k" : Str)].map V.str) := SqL.of upd_same
  generalize upd H l (.lst ([("block" : Str), ("key k" : Str)].map V.str)) = H1 at *
  have m1 := g1 _ _ hm
  refine dc_list (K := K) (a := l) (xs := [("block" : Str), ("key k" : Str)].map V.str) (fun i H' => Same H1 H' ∧ H' D = some (.dK ([(kBlock, y), (kKey, x)].take i))) ⟨same_new hD _, upd_same⟩ (fun i H' z => z.1.seq l1) ?_ ?_
  · rintro i z H' hx ⟨g, e1⟩
    have put : ∀ {j : Nat} {k : Key} {v : V}, H' D = some (.dK ([(kBlock, y), (kKey, x)].take j)) → [(kBlock, y), (kKey, x)][j]? = some (k, v) → ([(kBlock, y), (kKey, x)].map Prod.fst).Nodup → ∃ kvs k', V.str ("" : Str) = V.str "" ∧ H' D = some (.dK kvs) ∧ kvs.length < sizeLine ∧ k' = k ∧ Same H1 (upd H' D (.dK (putK kvs k v))) ∧ upd H' D (.dK (putK kvs k v)) D = some (.dK ([(kBlock, y), (kKey, x)].take (j + 1))) := fun {j k v} a b nd2 => by
      refine ⟨_, k, rfl, a, ?_, rfl, same_upd g hD, ?_⟩
      · rw [List.length_take]
        exact small1000 (by show min j 2 ≤ 1000; omega)
      · rw [upd_same, putK_end _ _ _ (fresh_take nd2 b), ← take_more' b]
    have nd2 : ([(kBlock, y), (kKey, x)].map Prod.fst).Nodup := by
      rw [List.map_cons, List.nodup_cons]
      refine ⟨fun z => ?_, by simp⟩
      rcases List.mem_singleton.mp z with h
      exact bk_ne h
    rcases i with _ | _ | i
    · cases hx
      obtain ⟨kk, k1, _, h1, h2, rfl, h3, h4⟩ := put e1 rfl nd2
      exact ⟨rfl, _, rfl, _, rfl, _, rfl, m, y, rfl, .inl ⟨_, kBlock, Rd.of (g _ _ m1), rfl, (by rw [valV_neg (fun z => bk_ne z.symm), valV_pos rfl])⟩, _, kBlock, rfl, h1, h2, h3, h4⟩
    · cases hx
      obtain ⟨kk, k1, _, h1, h2, rfl, h3, h4⟩ := put e1 rfl nd2
      exact ⟨rfl, _, rfl, _, rfl, _, rfl, m, x, rfl, .inl ⟨_, kKey, Rd.of (g _ _ m1), rfl, (by rw [valV_pos rfl])⟩, _, kKey, rfl, h1, h2, h3, h4⟩
    · simp at hx
  · rintro H2 ⟨g2, d2⟩
    have gS := g1.trans g2
    have p2 := gS _ _ hp
    have fD : H D = none := by
      cases e1 : H D with
      | none => rfl
      | some o =>
        rw [g1 _ _ e1] at hD
        cases hD
    refine ⟨_, rfl, p, T.c_Array, dx, [], rfl, p2, T.cl_Array, T.n_Array_sizes, (by decide), ?_⟩
    have d2 : H2 D = some (.dK [(kBlock, y), (kKey, x)]) := d2
    have b3 := but_put (o := .ins T.c_Array dx (putF "sizes" (.ref D) [])) (Same.but (d := p) gS)
    have p3 : upd H2 p (.ins T.c_Array dx (putF "sizes" (.ref D) [])) p = some (.ins T.c_Array dx (putF "sizes" (.ref D) [])) := upd_same
    have d3 := put_at (o := .ins T.c_Array dx (putF "sizes" (.ref D) [])) p2 d2 (fun _ _ _ z => nomatch z)
    have e3 : SqL K (upd H2 p (.ins T.c_Array dx (putF "sizes" (.ref D) []))) e [.ref c] := by
      rcases gS.seq he with (q | ⟨o, q⟩) | q
      · exact .inl (.inl (put_at p2 q fun _ _ _ z => nomatch z))
      · exact .inl (.inr ⟨o, put_at p2 q fun _ _ _ z => nomatch z⟩)
      · exact .inr q
    have c3 := put_at (o := .ins T.c_Array dx (putF "sizes" (.ref D) [])) p2 (gS _ _ hc) (fun _ _ _ z => nomatch z)
    generalize upd H2 p (.ins T.c_Array dx (putF "sizes" (.ref D) [])) = H3 at *
    dsimp only
    first | unfold tSeq sFld | unfold sFld
    refine ⟨_, rfl, e, rfl, ⟨_, e3⟩, fun L hL => ?_⟩
    refine lc_it (walk_list (xs := [.ref c])) (fun i H' => Same H3 H' ∧ (i = 0 → H' L = some (.lst [])) ∧ (i = 1 → ∃ D2, H' L = some (.lst [.ref D2]) ∧ H' D2 = some (.dT kvs) ∧ H3 D2 = none)) ⟨same_new hL _, fun _ => upd_same, fun z => by cases z⟩ (fun i H' _ z => z.1.seq e3) ?_ ?_
    · rintro i z H' H'' hi ⟨g, z0, z1⟩ ⟨rfl, hx⟩
      rcases i with _ | i
      · cases hx
        refine ⟨rfl, ?_⟩
        have c4 := g _ _ c3
        have p4 := g _ _ p3
        refine yes_if (copy_dT (σ := [some (.ref p), some (.ref m), some (.ref e), none, none, some (.ref c)]) (i := 5) (j := 4) (by rfl) (by show (4 : Nat) < 6; decide) (by decide) c4 nd few fun D2 hD2 => ?_)
        have nL : L ≠ D2 := ne_of_none (z0 rfl) hD2
        refine ⟨[], (by rw [upd_ne nL]; exact z0 rfl), (by decide), ?_, (fun z => by cases z), fun _ => ⟨D2, upd_same, ?_, ?_⟩⟩
        · exact same_upd (g.trans (same_new hD2 _)) hL
        · rw [upd_ne (Ne.symm nL), upd_same]
        · cases e9 : H3 D2 with
          | none => rfl
          | some o =>
            rw [g _ _ e9] at hD2
            cases hD2
      · simp at hi
    · rintro H4 ⟨g4, _, z1⟩
      obtain ⟨D2, L4, h4, n4⟩ := z1 rfl
      refine ⟨L, _, rfl, .inl ⟨SqL.of L4, fun t ht => ?_⟩⟩
      have p5 := g4 _ _ p3
      have g5 := same_new ht (.tup [.ref D2])
      have t5 : SqT K (upd H4 t (.tup [.ref D2])) t [.ref D2] := SqT.of upd_same
      have h5 := g5 _ _ h4
      have d5 := g5 _ _ (g4 _ _ d3)
      have p6 := g5 _ _ p5
      have ft : H t = none := by
        refine fresh_of (H' := H3) b3 p3 ?_
        cases e9 : H3 t with
        | none => rfl
        | some o =>
          rw [g4 _ _ e9] at ht
          cases ht
      generalize upd H4 t (.tup [.ref D2]) = H5 at *
      refine ⟨_, rfl, p, T.c_Array, dx, _, rfl, p6, T.cl_Array, T.n_Array_entries, (by show (1 : Nat) < 1000; decide), ?_⟩
      refine k D t D2 _ (but_put (b3.same (g4.trans g5))) ?_ (put_at p6 d5 fun _ _ _ z => nomatch z) (sqt_put p6 t5) (put_at p6 h5 fun _ _ _ z => nomatch z) fD (fresh_of b3 p3 n4) ft
      rw [upd_same, fld2 (by decide +kernel)]

end
end My
set_option Elab.async false
set_option linter.all false
set_option maxRecDepth 100000
set_option maxHeartbeats 400000
namespace My
open PySem L2 PySem.Spec PyProof.Rows
section
variable {P : Program} {w : World} {K : PySem.W.Frag} {mg : Str → Option Value} {base : Heap}
theorem same_free {H H' : Hp} {D : Addr} (g : Same H H') (h : H' D = none) : H D = none := by
  cases e : H D with
  | none => rfl
  | some o =>
    rw [g _ _ e] at h
    cases h
def sp_kinit (C : Addr) (K : PySem.W.Frag) : Sp := fun vs H Q _ => ∃ (p dx m f g kk ch a1 a2 : Addr) (xs1 xs2 ys : List V) (kvs : List (List Key × V)), vs = [.ref p, .ref m, .ref f] ∧ H p = some (.ins C dx []) ∧ H m = some (.dK [(kKey, .ref a1), (kBlock, .ref a2)]) ∧ SqA K H a1 xs1 ∧ SqA K H a2 xs2 ∧ SqL K H f [.ref g] ∧ SqT K H g [.ref kk, .ref ch] ∧ SqA K H kk ys ∧ H ch = some (.dT kvs) ∧ (kvs.map Prod.fst).Nodup ∧ kvs.length ≤ 15 ∧
  ∀ (D t u v D2 t1 t2 : Addr) (H' : Hp), But p H H' → H' p = some (.ins C dx [("weights", .ref D), ("functions", .ref t)]) → H' D = some (.dK [(kBlock, .ref t2), (kKey, .ref t1)]) → SqT K H' t1 xs1 → SqT K H' t2 xs2 → SqT K H' t [.ref u] → H' u = some (.tup [.ref v, .ref D2]) → SqT K H' v ys → H' D2 = some (.dT kvs) → H D = none → H D2 = none → H t = none → H u = none → Q .non H'
theorem ok_Kernel_init (T : Txt K mg) : FnOk P w K mg base CX0 1 T.a_Kernel_init T.d_Kernel_init ["self", "weights", "functions"] (sp_kinit T.c_Kernel K) := by
  refine T.F_Kernel_init.ok sc_Kernel_init (fun vs H Q E h => ?_) (fun cdv A outer s H vs Q E hr h => ?_)
  · obtain ⟨p, dx, m, f, g, kk, ch, a1, a2, xs1, xs2, ys, kvs, rfl, _⟩ := h
    rfl
  obtain ⟨p, dx, m, f, g, kk, ch, a1, a2, xs1, xs2, ys, kvs, rfl, hp, hm, ha1, ha2, hf, hg, hk, hc, nd, few, k⟩ := h
  refine ⟨_, (pss_cons (ps_fld (pv 0) (pe_dc (own := [("kind", 3)]) rfl sc_Kernel_init.nd (pi_list (pe_callB (call_sortedD rfl) (by rfl) T.z_sorted (by decide +kernel) (pa_cons (pv 1) pa_nil))) (blkOk_by (own := [("kind", 3)]) (N := ["self", "weights", "functions", "kind", "states", "kinds", "chances"]) (sc := defScope s_Kernel_init) (by decide +kernel)) (fun _ _ _ _ _ => (pg_name (i := 3) sc_Kernel_init.nd rfl (by first | exact Or.inl rfl | exact Or.inr rfl))) (fun _ _ _ _ _ => pts_nil) (fun _ _ _ _ _ => (pv 3)) (fun _ _ _ _ _ => (pe_callTy (show CallR _ (.type "tuple") (rTupA K) from call_tupA) (by rfl) T.z_tuple (by decide +kernel) (pa_cons (pe_dget (hu_of hr) (pv 1) (pv 3) (fun _ _ => rfl)) pa_nil)))) rfl)
    (pss_one (ps_fld (pv 0) (pe_callTy call_tuple_of (by rfl) T.z_tuple (by decide +kernel) (pa_cons (pe_lc (own := [("kinds", 5), ("chances", 6)]) rfl sc_Kernel_init.nd (pi_list (pv 2)) (blkOk_by (own := [("kinds", 5), ("chances", 6)]) (N := ["self", "weights", "functions", "kind", "states", "kinds", "chances"]) (sc := defScope s_Kernel_init) (by decide +kernel)) (fun _ _ _ _ _ => (show PG _ _ (gTup K 2 (gCons (gName 5) (gCons (gName 6) gNil))) from (pg_tup rfl (pgs_cons (pg_name (i := 5) sc_Kernel_init.nd rfl (by first | exact Or.inl rfl | exact Or.inr rfl)) (pgs_cons (pg_name (i := 6) sc_Kernel_init.nd rfl (by first | exact Or.inl rfl | exact Or.inr rfl)) pgs_nil))))) (fun _ _ _ _ _ => pts_nil) (fun _ _ _ _ _ => (pe_tup (pa_cons (pe_callTy (show CallR _ (.type "tuple") (rTupA K) from call_tupA) (by rfl) T.z_tuple (by decide +kernel) (pa_cons (pv 5) pa_nil)) (pa_cons (pe_lock (pe_dcT (own := [("states", 4)]) rfl (hu64' hr) sc_Kernel_init.nd (pi_keys (pv 6)) (blkOk_by (own := [("states", 4)]) (N := ["self", "weights", "functions", "kind", "states", "kinds", "chances"]) (sc := relS _ (defScope s_Kernel_init)) (by decide +kernel)) (fun _ _ _ _ _ => (pg_name (i := 4) sc_Kernel_init.nd rfl (by first | exact Or.inl rfl | exact Or.inr rfl))) (fun _ _ _ _ _ => pts_nil) (fun _ _ _ _ _ => (pv 4)) (fun _ _ _ _ _ => (pe_dget (hu_of hr) (pv 6) (pv 4) (fun _ _ => rfl))))) pa_nil))))) pa_nil)) rfl))), ?_⟩
  refine ⟨_, rfl, m, [(kKey, .ref a1), (kBlock, .ref a2)], [("key k" : Str), ("block" : Str)], rfl, Rd.of hm, rfl, (by decide), fun ys l pe so hl => ?_⟩
  obtain rfl := sort_eq pe so
  rw [sort_two]
  refine ⟨l, rfl, ⟨_, SqL.of upd_same⟩, fun D hD => ?_⟩
  have g1 := same_new hl (.lst ([("block" : Str), ("key k" : Str)].map V.str))
  have l1 : SqL K (upd H l (.lst ([("block" : Str), ("key k" : Str)].map V.str))) l ([("block" : Str), ("key k" : Str)].map V.str) := SqL.of upd_same
  generalize upd H l (.lst ([("block" : Str), ("key k" : Str)].map V.str)) = H1 at *
  have m1 := g1 _ _ hm
  have b1 := ha1.same g1
  have b2 := ha2.same g1
  refine dc_list (K := K) (a := l) (xs := [("block" : Str), ("key k" : Str)].map V.str) (fun i H' => Same H1 H' ∧ (i = 0 → H' D = some (.dK [])) ∧ (i = 1 → ∃ t2, H' D = some (.dK [(kBlock, .ref t2)]) ∧ SqT K H' t2 xs2) ∧ (i = 2 → ∃ t2 t1, H' D = some (.dK [(kBlock, .ref t2), (kKey, .ref t1)]) ∧ SqT K H' t2 xs2 ∧ SqT K H' t1 xs1)) ⟨same_new hD _, fun _ => upd_same, (fun z => by cases z), fun z => by cases z⟩ (fun i H' z => z.1.seq l1) ?_ ?_
  · rintro i z H' hx ⟨g, z0, z1, z2⟩
    have dput : ∀ {H' : Hp} {t : Addr} {xs : List V} {o u : HO}, (∀ xs, o ≠ .tup xs) → (∀ q xs, o ≠ .frz q (.tup xs)) → H' D = some o → SqT K H' t xs → SqT K (upd H' D u) t xs := fun {H' t xs o u} n1 n2 hd h => by
      rcases h with (h | ⟨q, h⟩) | h
      · exact .inl (.inl (by rw [upd_ne (ne_of h hd (fun z => n1 _ z.symm))]; exact h))
      · exact .inl (.inr ⟨q, by rw [upd_ne (ne_of h hd (fun z => n2 _ _ z.symm))]; exact h⟩)
      · exact .inr h
    rcases i with _ | _ | i
    · cases hx
      refine ⟨rfl, _, rfl, _, rfl, _, rfl, m, .ref a2, rfl, .inl ⟨_, kBlock, Rd.of (g _ _ m1), rfl, (by rw [valV_neg (fun z => bk_ne z.symm), valV_pos rfl])⟩, a2, _, rfl, b2.same g, fun t H2 g2 t2 => ?_⟩
      have d2 := g2 _ _ (z0 rfl)
      refine ⟨[], kBlock, rfl, d2, (by decide), same_upd (g.trans g2) hD, (fun z => by cases z), fun _ => ⟨t, upd_same, dput (fun _ z => by cases z) (fun _ _ z => by cases z) d2 t2⟩, fun z => by cases z⟩
    · cases hx
      obtain ⟨t2, d1, q2⟩ := z1 rfl
      refine ⟨rfl, _, rfl, _, rfl, _, rfl, m, .ref a1, rfl, .inl ⟨_, kKey, Rd.of (g _ _ m1), rfl, (by rw [valV_pos rfl])⟩, a1, _, rfl, b1.same g, fun t H2 g2 t1 => ?_⟩
      have d2 := g2 _ _ d1
      refine ⟨[(kBlock, .ref t2)], kKey, rfl, d2, (by show 1 < sizeLine; decide), same_upd (g.trans g2) hD, (fun z => by cases z), (fun z => by cases z), fun _ => ⟨t2, t, ?_, dput (fun _ z => by cases z) (fun _ _ z => by cases z) d2 (Same.tup g2 q2), dput (fun _ z => by cases z) (fun _ _ z => by cases z) d2 t1⟩⟩
      rw [upd_same, putK_end]
      · rfl
      · intro z
        exact bk_ne (List.mem_singleton.mp z).symm
    · simp at hx
  · rintro H2 ⟨g2, _, _, z2⟩
    obtain ⟨t2, t1, d2, q2, q1⟩ := z2 rfl
    have gS := g1.trans g2
    have p2 := gS _ _ hp
    have fD : H D = none := same_free g1 hD
    refine ⟨_, rfl, p, T.c_Kernel, dx, [], rfl, p2, T.cl_Kernel, T.n_Kernel_weights, (by decide), ?_⟩
    have b3 := but_put (o := .ins T.c_Kernel dx (putF "weights" (.ref D) [])) (Same.but (d := p) gS)
    have p3 : upd H2 p (.ins T.c_Kernel dx (putF "weights" (.ref D) [])) p = some (.ins T.c_Kernel dx (putF "weights" (.ref D) [])) := upd_same
    have d3 := put_at (o := .ins T.c_Kernel dx (putF "weights" (.ref D) [])) p2 d2 (fun _ _ _ z => nomatch z)
    have e3 : SqL K (upd H2 p (.ins T.c_Kernel dx (putF "weights" (.ref D) []))) f [.ref g] := by
      rcases gS.seq hf with (q | ⟨o, q⟩) | q
      · exact .inl (.inl (put_at p2 q fun _ _ _ z => nomatch z))
      · exact .inl (.inr ⟨o, put_at p2 q fun _ _ _ z => nomatch z⟩)
      · exact .inr q
    have c3 := put_at (o := .ins T.c_Kernel dx (putF "weights" (.ref D) [])) p2 (gS _ _ hc) (fun _ _ _ z => nomatch z)
    have w1 := sqt_put (o := .ins T.c_Kernel dx (putF "weights" (.ref D) [])) p2 q1
    have w2 := sqt_put (o := .ins T.c_Kernel dx (putF "weights" (.ref D) [])) p2 q2
    have f3 := sqt_put (o := .ins T.c_Kernel dx (putF "weights" (.ref D) [])) p2 (Same.tup gS hg)
    have k3 := sqa_put (o := .ins T.c_Kernel dx (putF "weights" (.ref D) [])) p2 (hk.same gS)
    generalize upd H2 p (.ins T.c_Kernel dx (putF "weights" (.ref D) [])) = H3 at *
    dsimp only
    first | unfold tSeq sFld | unfold sFld
    refine ⟨_, rfl, f, rfl, ⟨_, e3⟩, fun L hL => ?_⟩
    refine lc_it (walk_list (xs := [.ref g])) (fun i H' => Same H3 H' ∧ (i = 0 → H' L = some (.lst [])) ∧ (i = 1 → ∃ u v D2, H' L = some (.lst [.ref u]) ∧ H' u = some (.tup [.ref v, .ref D2]) ∧ SqT K H' v ys ∧ H' D2 = some (.dT kvs) ∧ H3 D2 = none ∧ H3 u = none)) ⟨same_new hL _, fun _ => upd_same, fun z => by cases z⟩ (fun i H' _ z => z.1.seq e3) ?_ ?_
    · rintro i z H' H'' hi ⟨g9, z0, z1⟩ ⟨rfl, hx⟩
      rcases i with _ | i
      · cases hx
        have L0 := z0 rfl
        refine ⟨g, _, rfl, Same.tup g9 f3, rfl, ?_⟩
        refine ⟨_, _, rfl, _, _, rfl, rfl, rfl, ?_⟩
        have c4 := g9 _ _ c3
        have p4 := g9 _ _ p3
        refine yes_if ?_
        refine ⟨_, rfl, kk, _, rfl, k3.same g9, fun v H6 g6 v6 => ?_⟩
        have L6 := g6 _ _ L0
        refine copy_dT (σ := [some (.ref p), some (.ref m), some (.ref f), none, none, some (.ref kk), some (.ref ch)]) (i := 6) (j := 4) (by rfl) (by show (4 : Nat) < 7; decide) (by decide) (g6 _ _ c4) nd few fun D2 hD2 => ?_
        have nL : L ≠ D2 := ne_of_none L6 hD2
        have g7 := same_new hD2 (.dT kvs)
        have e7 : upd H6 D2 (.dT kvs) D2 = some (.dT kvs) := upd_same
        have L7 := g7 _ _ L6
        have v7 := Same.tup g7 v6
        have n7 := same_free (g9.trans g6) hD2
        generalize upd H6 D2 (.dT kvs) = H7 at *
        refine ⟨(by show 2 ≤ sizeLine; decide), fun u hu => ?_⟩
        have g8 := same_new hu (.tup [.ref v, .ref D2])
        have u8 : upd H7 u (.tup [.ref v, .ref D2]) u = some (.tup [.ref v, .ref D2]) := upd_same
        have L8 := g8 _ _ L7
        have e8 := g8 _ _ e7
        have v8 := Same.tup g8 v7
        have nu := same_free (g9.trans (g6.trans g7)) hu
        generalize upd H7 u (.tup [.ref v, .ref D2]) = H8 at *
        refine ⟨[], L8, (by decide), same_upd (g9.trans (g6.trans (g7.trans g8))) hL, (fun z => by cases z), fun _ => ⟨u, v, D2, upd_same, ?_, ?_, ?_, n7, nu⟩⟩
        · rw [upd_ne (ne_of u8 L8 (fun z => by cases z))]
          exact u8
        · rcases v8 with (h | ⟨q, h⟩) | h
          · exact .inl (.inl (by rw [upd_ne (ne_of h L8 (fun z => by cases z))]; exact h))
          · exact .inl (.inr ⟨q, by rw [upd_ne (ne_of h L8 (fun z => by cases z))]; exact h⟩)
          · exact .inr h
        · rw [upd_ne (ne_of e8 L8 (fun z => by cases z))]
          exact e8
      · simp at hi
    · rintro H4 ⟨g4, _, z1⟩
      obtain ⟨u, v, D2, L4, u4, v4, h4, n4, nu⟩ := z1 rfl
      refine ⟨L, _, rfl, .inl ⟨SqL.of L4, fun t ht => ?_⟩⟩
      have p5 := g4 _ _ p3
      have g5 := same_new ht (.tup [.ref u])
      have t5 : SqT K (upd H4 t (.tup [.ref u])) t [.ref u] := SqT.of upd_same
      have h5 := g5 _ _ h4
      have u5 := g5 _ _ u4
      have v5 := Same.tup g5 v4
      have d5 := g5 _ _ (g4 _ _ d3)
      have p6 := g5 _ _ p5
      have ft : H t = none := fresh_of b3 p3 (same_free g4 ht)
      have w6 := Same.tup g5 (Same.tup g4 w1)
      have w7 := Same.tup g5 (Same.tup g4 w2)
      generalize upd H4 t (.tup [.ref u]) = H5 at *
      refine ⟨_, rfl, p, T.c_Kernel, dx, _, rfl, p6, T.cl_Kernel, T.n_Kernel_functions, (by show (1 : Nat) < 1000; decide), ?_⟩
      refine k D t u v D2 t1 t2 _ (but_put (b3.same (g4.trans g5))) ?_ (put_at p6 d5 fun _ _ _ z => nomatch z) (sqt_put p6 w6) (sqt_put p6 w7) (sqt_put p6 t5) (put_at p6 u5 fun _ _ _ z => nomatch z) (sqt_put p6 v5) (put_at p6 h5 fun _ _ _ z => nomatch z) fD (fresh_of b3 p3 n4) ft (fresh_of b3 p3 nu)
      rw [upd_same, fld2 (by decide +kernel)]

end
end My
set_option Elab.async false
set_option linter.all false
set_option maxRecDepth 100000
set_option maxHeartbeats 400000
namespace My
open PySem L2 PySem.Spec PyProof.Rows
section
variable {P : Program} {w : World} {K : PySem.W.Frag} {mg : Str → Option Value} {base : Heap}
/-! ### own == of evidence -/
theorem kit_no {K : PySem.W.Frag} {C : Addr} {t : Value} (k : KitT K C) (h : PySem.W.subIn K t (.ref C) = some false) (ne : t ≠ .ref C) : PySem.W.kitOne K t (.ref C) = some false := by
  unfold PySem.W.kitOne
  rw [if_neg (by simpa using ne)]
  unfold PySem.W.kitCls
  dsimp only
  rw [if_pos (by rw [k.ty, k.cls]; rfl)]
  exact h
theorem sub_tup (K : PySem.W.Frag) (C : Addr) : PySem.W.subIn K (.type "tuple") (.ref C) = some false := by
  have e : PySem.fastBuiltinMro "tuple" = some [.type "tuple", .type "object"] := by decide +kernel
  unfold PySem.W.subIn
  dsimp only
  rw [e]
  rfl
theorem sub_non (K : PySem.W.Frag) (C : Addr) : PySem.W.subIn K (.type "NoneType") (.ref C) = some false := by
  have e : PySem.fastBuiltinMro "NoneType" = some [.type "NoneType", .type "object"] := by decide +kernel
  unfold PySem.W.subIn
  dsimp only
  rw [e]
  rfl
theorem sub_int (K : PySem.W.Frag) (C : Addr) : PySem.W.subIn K (.type "int") (.ref C) = some false := by
  have e : PySem.fastBuiltinMro "int" = some [.type "int", .type "object"] := by decide +kernel
  unfold PySem.W.subIn
  dsimp only
  rw [e]
  rfl
/-- not of the class at C, nor of one made of it -/
def Kd (K : PySem.W.Frag) (C : Addr) (H : Hp) (y : V) : Prop := ∃ tb, TyX K H y tb ∧ PySem.W.kitOne K tb (.ref C) = some false ∧ PySem.W.notFirst K C tb = true
theorem Kd.mk {K : PySem.W.Frag} {C : Addr} {H : Hp} {y : V} {tb : Value} (k : KitT K C) (t : TyX K H y tb) (h : PySem.W.subIn K tb (.ref C) = some false) (ne : tb ≠ .ref C) : Kd K C H y := ⟨tb, t, kit_no k h ne, by
  unfold PySem.W.notFirst
  rw [h]
  simp⟩
def EqDD (K : PySem.W.Frag) (H : Hp) (m m' : Addr) (b : Bool) : Prop := ∃ (n : Nat) (r : Bool), n ≤ 20 ∧ ((∃ ks ls : List (Key × V), H m = some (.dK ks) ∧ H m' = some (.dK ls) ∧ Hits (EqT K H n) ls ks r ∧ b = (ks.length == ls.length && r)) ∨ ∃ ks ls : List (List Key × V), H m = some (.dT ks) ∧ H m' = some (.dT ls) ∧ Hits (EqT K H n) ls ks r ∧ b = (ks.length == ls.length && r))
theorem EqDD.go {K : PySem.W.Frag} {H : Hp} {m m' : Addr} {b : Bool} {Q : VK} (h : EqDD K H m m' b) (q : Q (.bl b) H) : rEqDD K (.ref m) (.ref m') H Q := by
  obtain ⟨n, r, hn, h⟩ := h
  exact ⟨m, m', n, b, r, rfl, rfl, hn, q, h⟩
def sp_seq (C : Addr) (K : PySem.W.Frag) : Sp := fun vs H Q _ => ∃ (a dx m : Addr) (y : V), vs = [.ref a, y] ∧ H a = some (.ins C dx [("maps", .ref m)]) ∧ ((Kd K C H y ∧ Q (.bl false) H) ∨ ∃ (b dy m' : Addr) (r : Bool), y = .ref b ∧ H b = some (.ins C dy [("maps", .ref m')]) ∧ EqDD K H m m' r ∧ Q (.bl r) H)
theorem ok_Same_eq (T : Txt K mg) : FnOk P w K mg base CX0 1 T.a_Same_eq T.d_Same_eq ["self", "other"] (sp_seq T.c_Same K) := by

  refine T.F_Same_eq.ok sc_Same_eq (fun vs H Q E h => ?_) (fun cdv A outer s H vs Q E hr h => ?_)
  · obtain ⟨a, dx, m, y, rfl, _⟩ := h
    rfl
  obtain ⟨a, dx, m, y, rfl, ha, h⟩ := h
  refine ⟨_, (pss_one (ps_ret (pe_and (pe_callB call_isi (by rfl) T.z_isinstance (by decide +kernel) (pa_cons (pv 1) (pa_cons (pe_glob (v := .ref T.c_Same) (by rfl) T.m_Same rfl) pa_nil))) (pe_one (pe_cmpR (op_eqDD (hu110 hr)) (pe_fld (pv 0) rfl) (pe_fld (pv 1) rfl) (nomark _)))))), ?_⟩
  rcases h with ⟨⟨tb, ty, ki, _⟩, q⟩ | ⟨b, dy, m', r, rfl, hb, e, q⟩
  · exact ⟨_, rfl, _, .ref T.c_Same, _, _, false, rfl, .own _, ty, ki, _, rfl, iteF q⟩
  · refine ⟨_, rfl, _, .ref T.c_Same, _, _, true, rfl, .own _, T.ty_Same hb, kit_self _ _, _, rfl, iteT ?_⟩
    exact ⟨_, rfl, a, T.c_Same, dx, _, _, rfl, ha, T.cl_Same, T.n_Same_maps, look_head, _, rfl, b, T.c_Same, dy, _, _, rfl, hb, T.cl_Same, T.n_Same_maps, look_head, e.go q⟩
def sp_ueq (C : Addr) (K : PySem.W.Frag) : Sp := fun vs H Q _ => ∃ (a dx : Addr) (w : V) (m t : Addr) (y : V), vs = [.ref a, y] ∧ H a = some (.ins C dx [("which", w), ("chosen", .ref m), ("chances", .ref t)]) ∧ ((Kd K C H y ∧ Q (.bl false) H) ∨
  ∃ (b dy : Addr) (w' : V) (m' t' : Addr) (r : Bool) (dw dw' dt dt' : PyData), y = .ref b ∧ H b = some (.ins C dy [("which", w'), ("chosen", .ref m'), ("chances", .ref t')]) ∧ Dp K H w dw ∧ Dp K H w' dw' ∧ SeqAt.shaped dw = true ∧ SeqAt.shaped dw' = true ∧ EqDD K H m m' r ∧ Dp K H (.ref t) dt ∧ Dp K H (.ref t') dt' ∧ SeqAt.shaped dt = true ∧ SeqAt.shaped dt' = true ∧ Q (.bl (PyData.eqv dw dw' && (r && PyData.eqv dt dt'))) H)
theorem ok_Unlike_eq (T : Txt K mg) : FnOk P w K mg base CX0 1 T.a_Unlike_eq T.d_Unlike_eq ["self", "other"] (sp_ueq T.c_Unlike K) := by

  refine T.F_Unlike_eq.ok sc_Unlike_eq (fun vs H Q E h => ?_) (fun cdv A outer s H vs Q E hr h => ?_)
  · obtain ⟨a, dx, w, m, t, y, rfl, _⟩ := h
    rfl
  obtain ⟨a, dx, w, m, t, y, rfl, ha, h⟩ := h
  refine ⟨_, (pss_one (ps_ret (pe_and (pe_callB call_isi (by rfl) T.z_isinstance (by decide +kernel) (pa_cons (pv 1) (pa_cons (pe_glob (v := .ref T.c_Unlike) (by rfl) T.m_Unlike rfl) pa_nil))) (pe_and (pe_cmpR (op_eqD (hu64 hr)) (pe_fld (pv 0) rfl) (pe_fld (pv 1) rfl) (nomark _)) (pe_and (pe_cmpR (op_eqDD (hu110 hr)) (pe_fld (pv 0) rfl) (pe_fld (pv 1) rfl) (nomark _)) (pe_one (pe_cmpR (op_eqD (hu64 hr)) (pe_fld (pv 0) rfl) (pe_fld (pv 1) rfl) (nomark _)))))))), ?_⟩
  have k2 : (("chosen" : Str) == ("which" : Str)) = false := by decide +kernel
  have k3 : (("chances" : Str) == ("which" : Str)) = false := by decide +kernel
  have k4 : (("chances" : Str) == ("chosen" : Str)) = false := by decide +kernel
  rcases h with ⟨⟨tb, ty, ki, _⟩, q⟩ | ⟨b, dy, w', m', t', r, dw, dw', dt, dt', rfl, hb, h1, h2, s1, s2, e, h3, h4, s3, s4, q⟩
  · exact ⟨_, rfl, _, .ref T.c_Unlike, _, _, false, rfl, .own _, ty, ki, _, rfl, iteF q⟩
  · refine ⟨_, rfl, _, .ref T.c_Unlike, _, _, true, rfl, .own _, T.ty_Unlike hb, kit_self _ _, _, rfl, iteT ?_⟩
    refine ⟨_, rfl, a, T.c_Unlike, dx, _, _, rfl, ha, T.cl_Unlike, T.n_Unlike_which, look_head, _, rfl, b, T.c_Unlike, dy, _, _, rfl, hb, T.cl_Unlike, T.n_Unlike_which, look_head, dw, dw', h1, h2, s1, s2, _, rfl, ?_⟩
    cases c1 : PyData.eqv dw dw' with
    | false =>
      rw [c1] at q
      exact iteF q
    | true =>
      rw [c1] at q
      refine iteT ⟨_, rfl, a, T.c_Unlike, dx, _, _, rfl, ha, T.cl_Unlike, T.n_Unlike_chosen, lk3b k2, _, rfl, b, T.c_Unlike, dy, _, _, rfl, hb, T.cl_Unlike, T.n_Unlike_chosen, lk3b k2, e.go ⟨_, rfl, ?_⟩⟩
      cases r with
      | false => exact iteF q
      | true =>
        refine iteT ⟨_, rfl, a, T.c_Unlike, dx, _, _, rfl, ha, T.cl_Unlike, T.n_Unlike_chances, lk3c k3 k4, _, rfl, b, T.c_Unlike, dy, _, _, rfl, hb, T.cl_Unlike, T.n_Unlike_chances, lk3c k3 k4, dt, dt', h3, h4, s3, s4, ?_⟩
        exact q
def sp_oeq (C : Addr) (K : PySem.W.Frag) : Sp := fun vs H Q _ => ∃ (a dx t m : Addr) (y : V), vs = [.ref a, y] ∧ H a = some (.ins C dx [("row", .ref t), ("draws", .ref m)]) ∧ ((Kd K C H y ∧ Q (.bl false) H) ∨
  ∃ (b dy t' m' : Addr) (r : Bool) (dt dt' : PyData), y = .ref b ∧ H b = some (.ins C dy [("row", .ref t'), ("draws", .ref m')]) ∧ EqDD K H m m' r ∧ Dp K H (.ref t) dt ∧ Dp K H (.ref t') dt' ∧ SeqAt.shaped dt = true ∧ SeqAt.shaped dt' = true ∧ Q (.bl (PyData.eqv dt dt' && r)) H)
theorem ok_Outside_eq (T : Txt K mg) : FnOk P w K mg base CX0 1 T.a_Outside_eq T.d_Outside_eq ["self", "other"] (sp_oeq T.c_Outside K) := by

  refine T.F_Outside_eq.ok sc_Outside_eq (fun vs H Q E h => ?_) (fun cdv A outer s H vs Q E hr h => ?_)
  · obtain ⟨a, dx, t, m, y, rfl, _⟩ := h
    rfl
  obtain ⟨a, dx, t, m, y, rfl, ha, h⟩ := h
  refine ⟨_, (pss_one (ps_ret (pe_and (pe_callB call_isi (by rfl) T.z_isinstance (by decide +kernel) (pa_cons (pv 1) (pa_cons (pe_glob (v := .ref T.c_Outside) (by rfl) T.m_Outside rfl) pa_nil))) (pe_and (pe_cmpR (op_eqD (hu64 hr)) (pe_fld (pv 0) rfl) (pe_fld (pv 1) rfl) (nomark _)) (pe_one (pe_cmpR (op_eqDD (hu110 hr)) (pe_fld (pv 0) rfl) (pe_fld (pv 1) rfl) (nomark _))))))), ?_⟩
  have k2 : (("draws" : Str) == ("row" : Str)) = false := by decide +kernel
  rcases h with ⟨⟨tb, ty, ki, _⟩, q⟩ | ⟨b, dy, t', m', r, dt, dt', rfl, hb, e, h3, h4, s3, s4, q⟩
  · exact ⟨_, rfl, _, .ref T.c_Outside, _, _, false, rfl, .own _, ty, ki, _, rfl, iteF q⟩
  · refine ⟨_, rfl, _, .ref T.c_Outside, _, _, true, rfl, .own _, T.ty_Outside hb, kit_self _ _, _, rfl, iteT ?_⟩
    refine ⟨_, rfl, a, T.c_Outside, dx, _, _, rfl, ha, T.cl_Outside, T.n_Outside_row, look_head, _, rfl, b, T.c_Outside, dy, _, _, rfl, hb, T.cl_Outside, T.n_Outside_row, look_head, dt, dt', h3, h4, s3, s4, _, rfl, ?_⟩
    cases c1 : PyData.eqv dt dt' with
    | false =>
      rw [c1] at q
      exact iteF q
    | true =>
      rw [c1] at q
      exact iteT ⟨_, rfl, a, T.c_Outside, dx, _, _, rfl, ha, T.cl_Outside, T.n_Outside_draws, lk2 k2, _, rfl, b, T.c_Outside, dy, _, _, rfl, hb, T.cl_Outside, T.n_Outside_draws, lk2 k2, e.go q⟩
def sp_weq (C : Addr) (K : PySem.W.Frag) : Sp := fun vs H Q _ => ∃ (a dx : Addr) (y : V), vs = [.ref a, y] ∧ H a = some (.ins C dx []) ∧ ((Kd K C H y ∧ Q (.bl false) H) ∨ ∃ (b dy : Addr), y = .ref b ∧ H b = some (.ins C dy []) ∧ Q (.bl true) H)
theorem ok_Within_eq (T : Txt K mg) : FnOk P w K mg base CX0 1 T.a_Within_eq T.d_Within_eq ["self", "other"] (sp_weq T.c_Within K) := by

  refine T.F_Within_eq.ok sc_Within_eq (fun vs H Q E h => ?_) (fun cdv A outer s H vs Q E hr h => ?_)
  · obtain ⟨a, dx, y, rfl, _⟩ := h
    rfl
  obtain ⟨a, dx, y, rfl, ha, h⟩ := h
  refine ⟨_, (pss_cons (ps_if (pt_not (pt_val (pe_callB call_isi (by rfl) T.z_isinstance (by decide +kernel) (pa_cons (pv 1) (pa_cons (pe_glob (v := .ref T.c_Within) (by rfl) T.m_Within rfl) pa_nil))))) (pss_one (ps_ret pe_bl)) pss_nil)
    (pss_one (ps_ret pe_bl))), ?_⟩
  rcases h with ⟨⟨tb, ty, ki, _⟩, q⟩ | ⟨b, dy, rfl, hb, q⟩
  · exact ⟨_, rfl, _, .ref T.c_Within, _, _, false, rfl, .own _, ty, ki, _, rfl, iteT q⟩
  · exact ⟨_, rfl, _, .ref T.c_Within, _, _, true, rfl, .own _, T.ty_Within hb, kit_self _ _, _, rfl, iteF q⟩
def sp_areq (C : Addr) (f g : Str) (K : PySem.W.Frag) : Sp := fun vs H Q _ => ∃ (a dx m t : Addr) (y : V), vs = [.ref a, y] ∧ H a = some (.ins C dx [(f, .ref m), (g, .ref t)]) ∧ ((Kd K C H y ∧ Q (.bl false) H) ∨
  ∃ (b dy m' t' : Addr) (r r2 : Bool) (xs ys : List V), y = .ref b ∧ H b = some (.ins C dy [(f, .ref m'), (g, .ref t')]) ∧ EqDD K H m m' r ∧ SqT K H t xs ∧ SqT K H t' ys ∧ Its (EqT K H 10) xs ys r2 ∧ Q (.bl (r && r2)) H)
theorem its_itM {X : Cx} {A : Around} {H : Hp} {n : Nat} (hu : A.units + 2 * n + 66 < cLine) : ∀ {xs ys : List V} {b : Bool} {k : Bool → Hp → Prop}, Its (EqT X.K H n) xs ys b → k b H → itM X A xs ys H k
  | _, _, _, k, .nil, q => q
  | x :: xs, y :: ys, _, k, .cons (b := b) (c := c) h t, q => by
    refine cmp_pure h hu ?_
    cases b with
    | true => exact its_itM hu t q
    | false => exact q
theorem in1_room {k : Nat} {A : Around} (hr : Room k A) : A.in1.units + 2 * 10 + 66 < cLine := by
  have := hr.un
  show A.units + 1 + 2 * 10 + 66 < cLine
  omega
theorem ok_Array_eq (T : Txt K mg) : FnOk P w K mg base CX0 1 T.a_Array_eq T.d_Array_eq ["self", "other"] (sp_areq T.c_Array "sizes" "entries" K) := by

  refine T.F_Array_eq.ok sc_Array_eq (fun vs H Q E h => ?_) (fun cdv A outer s H vs Q E hr h => ?_)
  · obtain ⟨a, dx, m, t, y, rfl, _⟩ := h
    rfl
  obtain ⟨a, dx, m, t, y, rfl, ha, h⟩ := h
  refine ⟨_, (pss_one (ps_ret (pe_and (pe_callB call_isi (by rfl) T.z_isinstance (by decide +kernel) (pa_cons (pv 1) (pa_cons (pe_glob (v := .ref T.c_Array) (by rfl) T.m_Array rfl) pa_nil))) (pe_and (pe_cmpR (op_eqDD (hu110 hr)) (pe_fld (pv 0) rfl) (pe_fld (pv 1) rfl) (nomark _)) (pe_one (pe_cmpR (op_eqTM (hu64' hr)) (pe_fld (pv 0) rfl) (pe_fld (pv 1) rfl) (nomark _))))))), ?_⟩
  have k2 : (("entries" : Str) == ("sizes" : Str)) = false := by decide +kernel
  rcases h with ⟨⟨tb, ty, ki, _⟩, q⟩ | ⟨b, dy, m', t', r, r2, xs, ys, rfl, hb, e, h3, h4, it, q⟩
  · exact ⟨_, rfl, _, .ref T.c_Array, _, _, false, rfl, .own _, ty, ki, _, rfl, iteF q⟩
  · refine ⟨_, rfl, _, .ref T.c_Array, _, _, true, rfl, .own _, T.ty_Array hb, kit_self _ _, _, rfl, iteT ?_⟩
    refine ⟨_, rfl, a, T.c_Array, dx, _, _, rfl, ha, T.cl_Array, T.n_Array_sizes, look_head, _, rfl, b, T.c_Array, dy, _, _, rfl, hb, T.cl_Array, T.n_Array_sizes, look_head, e.go ⟨_, rfl, ?_⟩⟩
    cases r with
    | false => exact iteF q
    | true =>
      exact iteT ⟨_, rfl, a, T.c_Array, dx, _, _, rfl, ha, T.cl_Array, T.n_Array_entries, lk2 k2, _, rfl, b, T.c_Array, dy, _, _, rfl, hb, T.cl_Array, T.n_Array_entries, lk2 k2, t, t', xs, ys, rfl, rfl, it.len, h3, h4, its_itM (in1_room hr) it q⟩
theorem ok_Kernel_eq (T : Txt K mg) : FnOk P w K mg base CX0 1 T.a_Kernel_eq T.d_Kernel_eq ["self", "other"] (sp_areq T.c_Kernel "weights" "functions" K) := by

  refine T.F_Kernel_eq.ok sc_Kernel_eq (fun vs H Q E h => ?_) (fun cdv A outer s H vs Q E hr h => ?_)
  · obtain ⟨a, dx, m, t, y, rfl, _⟩ := h
    rfl
  obtain ⟨a, dx, m, t, y, rfl, ha, h⟩ := h
  refine ⟨_, (pss_one (ps_ret (pe_and (pe_callB call_isi (by rfl) T.z_isinstance (by decide +kernel) (pa_cons (pv 1) (pa_cons (pe_glob (v := .ref T.c_Kernel) (by rfl) T.m_Kernel rfl) pa_nil))) (pe_and (pe_cmpR (op_eqDD (hu110 hr)) (pe_fld (pv 0) rfl) (pe_fld (pv 1) rfl) (nomark _)) (pe_one (pe_cmpR (op_eqTM (hu64' hr)) (pe_fld (pv 0) rfl) (pe_fld (pv 1) rfl) (nomark _))))))), ?_⟩
  have k2 : (("functions" : Str) == ("weights" : Str)) = false := by decide +kernel
  rcases h with ⟨⟨tb, ty, ki, _⟩, q⟩ | ⟨b, dy, m', t', r, r2, xs, ys, rfl, hb, e, h3, h4, it, q⟩
  · exact ⟨_, rfl, _, .ref T.c_Kernel, _, _, false, rfl, .own _, ty, ki, _, rfl, iteF q⟩
  · refine ⟨_, rfl, _, .ref T.c_Kernel, _, _, true, rfl, .own _, T.ty_Kernel hb, kit_self _ _, _, rfl, iteT ?_⟩
    refine ⟨_, rfl, a, T.c_Kernel, dx, _, _, rfl, ha, T.cl_Kernel, T.n_Kernel_weights, look_head, _, rfl, b, T.c_Kernel, dy, _, _, rfl, hb, T.cl_Kernel, T.n_Kernel_weights, look_head, e.go ⟨_, rfl, ?_⟩⟩
    cases r with
    | false => exact iteF q
    | true =>
      exact iteT ⟨_, rfl, a, T.c_Kernel, dx, _, _, rfl, ha, T.cl_Kernel, T.n_Kernel_functions, lk2 k2, _, rfl, b, T.c_Kernel, dy, _, _, rfl, hb, T.cl_Kernel, T.n_Kernel_functions, lk2 k2, t, t', xs, ys, rfl, rfl, it.len, h3, h4, its_itM (in1_room hr) it q⟩

end
end My
set_option Elab.async false
set_option linter.all false
set_option maxRecDepth 100000
set_option maxHeartbeats 400000
namespace My
open PySem L2 PySem.Spec PyProof.Rows
section
variable {P : Program} {w : World} {K : PySem.W.Frag} {mg : Str → Option Value} {base : Heap}
def sp_apeq (C CC CT : Addr) (K : PySem.W.Frag) : Sp := fun vs H Q _ => ∃ (a dx tb t : Addr) (y : V), vs = [.ref a, y] ∧ H a = some (.ins C dx [("table", .ref tb), ("chances", .ref t)]) ∧ ((Kd K C H y ∧ Q (.bl false) H) ∨
  ∃ (b dy tb' t' c c' : Addr) (xs ys : List V) (ds es : List PyData) (dt dt' : PyData), y = .ref b ∧ H b = some (.ins C dy [("table", .ref tb'), ("chances", .ref t')]) ∧ TabAt K CT H tb c xs ∧ TabAt K CT H tb' c' ys ∧ ColsAt K CC H c [] [] [] ∧ ColsAt K CC H c' [] [] [] ∧ DpAll K H xs ds ∧ DpAll K H ys es ∧ SeqAt.shaped (.tuple ds) = true ∧ SeqAt.shaped (.tuple es) = true ∧
    Dp K H (.ref t) dt ∧ Dp K H (.ref t') dt' ∧ SeqAt.shaped dt = true ∧ SeqAt.shaped dt' = true ∧ Q (.bl (PyData.eqvAll ds es && PyData.eqv dt dt')) H)
theorem cols_none : ColsOk [] [] [] := ⟨(fun _ h => by cases h), (fun _ h => by cases h), (fun _ h => by cases h), List.nodup_nil, Nat.zero_le _, Nat.zero_le _, Nat.zero_le _⟩
theorem ok_Apart_eq (T : Txt K mg) : FnOk P w K mg base CX0 5 T.a_Apart_eq T.d_Apart_eq ["self", "other"] (sp_apeq T.c_Apart T.c_Columns T.c_Table K) := by
  have G_Table_eq := ok_Table_eq (P := P) (w := w) (base := base) T
  refine T.F_Apart_eq.ok sc_Apart_eq (fun vs H Q E h => ?_) (fun cdv A outer s H vs Q E hr h => ?_)
  · obtain ⟨a, dx, tb, t, y, rfl, _⟩ := h
    rfl
  obtain ⟨a, dx, tb, t, y, rfl, ha, h⟩ := h
  refine ⟨_, (pss_one (ps_ret (pe_and (pe_callB call_isi (by rfl) T.z_isinstance (by decide +kernel) (pa_cons (pv 1) (pa_cons (pe_glob (v := .ref T.c_Apart) (by rfl) T.m_Apart rfl) pa_nil))) (pe_and (pe_cmpR (op_ownEq G_Table_eq T.q_Table_eq.at_ T.q_Table_eq.fn T.b_Table_eq pass0 (hr.mono (by first | decide | omega))) (pe_fld (pv 0) rfl) (pe_fld (pv 1) rfl) (nomark _)) (pe_one (pe_cmpR (op_eqD (hu64 hr)) (pe_fld (pv 0) rfl) (pe_fld (pv 1) rfl) (nomark _))))))), ?_⟩
  have k2 : (("chances" : Str) == ("table" : Str)) = false := by decide +kernel
  rcases h with ⟨⟨tb, ty, ki, _⟩, q⟩ | ⟨b, dy, tb', t', c, c', xs, ys, ds, es, dt, dt', rfl, hb, t1, t2, c1, c2, d1, d2, s1, s2, h3, h4, s3, s4, q⟩
  · exact ⟨_, rfl, _, .ref T.c_Apart, _, _, false, rfl, .own _, ty, ki, _, rfl, iteF q⟩
  · refine ⟨_, rfl, _, .ref T.c_Apart, _, _, true, rfl, .own _, T.ty_Apart hb, kit_self _ _, _, rfl, iteT ?_⟩
    have t1' := t1
    have t2' := t2
    obtain ⟨x1, u1, i1, _⟩ := t1
    obtain ⟨x2, u2, i2, _⟩ := t2
    refine ⟨_, rfl, a, T.c_Apart, dx, _, _, rfl, ha, T.cl_Apart, T.n_Apart_table, look_head, _, rfl, b, T.c_Apart, dy, _, _, rfl, hb, T.cl_Apart, T.n_Apart_table, look_head, ?_⟩
    refine ⟨tb, tb', x1, x2, _, _, rfl, rfl, i1, i2, tb, tb', c, c', [], [], [], [], [], xs, ys, ds, es, rfl, t1', t2', c1, c2, cols_none, cols_none, d1, d2, s1, s2, _, rfl, _, rfl, ?_⟩
    have ee : ((decide (([] : List Str) = []) && decide (([] : List Str) = [])) && PyData.eqvAll ds es) = PyData.eqvAll ds es := by simp
    rw [ee]
    cases c1 : PyData.eqvAll ds es with
    | false =>
      rw [c1] at q
      exact iteF q
    | true =>
      rw [c1] at q
      exact iteT ⟨_, rfl, a, T.c_Apart, dx, _, _, rfl, ha, T.cl_Apart, T.n_Apart_chances, lk2 k2, _, rfl, b, T.c_Apart, dy, _, _, rfl, hb, T.cl_Apart, T.n_Apart_chances, lk2 k2, dt, dt', h3, h4, s3, s4, q⟩
/-- Unlike(0, {}, ((0, 1), (1, 2))) -/
def pair2 (i j : Int) : PyData := .tuple [.int i, .int j]
def UnF (C : Addr) (K : PySem.W.Frag) (H : Hp) (U : Addr) : Prop := ∃ dx q t t1 t2 : Addr, H U = some (.ins C dx [("which", .int 0), ("chosen", .ref q), ("chances", .ref t)]) ∧ H q = some (.dK []) ∧ SqT K H t [.ref t1, .ref t2] ∧ SqT K H t1 [.int 0, .int 1] ∧ SqT K H t2 [.int 1, .int 2]
theorem sqt_dict {K : PySem.W.Frag} {H : Hp} {m t : Addr} {xs : List V} {o u : HO} (hm : H m = some o) (n1 : ∀ xs, o ≠ .tup xs) (n2 : ∀ q xs, o ≠ .frz q (.tup xs)) (h : SqT K H t xs) : SqT K (upd H m u) t xs := by
  rcases h with (h | ⟨q, h⟩) | h
  · exact .inl (.inl (by rw [upd_ne (ne_of h hm (fun z => n1 _ z.symm))]; exact h))
  · exact .inl (.inr ⟨q, by rw [upd_ne (ne_of h hm (fun z => n2 _ _ z.symm))]; exact h⟩)
  · exact .inr h
theorem UnF.dict {C : Addr} {K : PySem.W.Frag} {H : Hp} {U m : Addr} {x : Key × V} {r : List (Key × V)} {o : HO} (h : UnF C K H U) (hm : H m = some (.dK (x :: r))) : UnF C K (upd H m o) U := by
  obtain ⟨dx, q, t, t1, t2, h1, h2, h3, h4, h5⟩ := h
  have n1 : ∀ xs, HO.dK (x :: r) ≠ .tup xs := fun _ z => by cases z
  have n2 : ∀ q xs, HO.dK (x :: r) ≠ .frz q (.tup xs) := fun _ _ z => by cases z
  refine ⟨dx, q, t, t1, t2, ?_, ?_, sqt_dict hm n1 n2 h3, sqt_dict hm n1 n2 h4, sqt_dict hm n1 n2 h5⟩
  · rw [upd_ne (ne_of h1 hm (fun z => by cases z))]
    exact h1
  · rw [upd_ne (ne_of h2 hm (fun z => by cases z))]
    exact h2
theorem UnF.same {C : Addr} {K : PySem.W.Frag} {H H' : Hp} {U : Addr} (g : Same H H') (h : UnF C K H U) : UnF C K H' U := by
  obtain ⟨dx, q, t, t1, t2, h1, h2, h3, h4, h5⟩ := h
  exact ⟨dx, q, t, t1, t2, g _ _ h1, g _ _ h2, Same.tup g h3, Same.tup g h4, Same.tup g h5⟩
theorem dp_pair {K : PySem.W.Frag} {H : Hp} {t : Addr} {i j : Int} (h : SqT K H t [.int i, .int j]) : Dp K H (.ref t) (pair2 i j) := .tup h (.cons (.int i) (.cons (.int j) .nil))
theorem shaped_pair (i j : Int) : SeqAt.shaped (pair2 i j) = true := by rfl
theorem dp_pairs {K : PySem.W.Frag} {H : Hp} {t t1 t2 : Addr} {i j k l : Int} (h : SqT K H t [.ref t1, .ref t2]) (h1 : SqT K H t1 [.int i, .int j]) (h2 : SqT K H t2 [.int k, .int l]) : Dp K H (.ref t) (.tuple [pair2 i j, pair2 k l]) := .tup h (.cons (dp_pair h1) (.cons (dp_pair h2) .nil))
theorem UnF.eq {C : Addr} {K : PySem.W.Frag} {H : Hp} {a b : Addr} {Q : VK} {E : XK} (h1 : UnF C K H a) (h2 : UnF C K H b) (q : Q (.bl true) H) : sp_ueq C K [.ref a, .ref b] H Q E := by
  obtain ⟨dx, p, t, t1, t2, a1, a2, a3, a4, a5⟩ := h1
  obtain ⟨dy, p', t', t1', t2', b1, b2, b3, b4, b5⟩ := h2
  refine ⟨a, dx, _, p, t, .ref b, rfl, a1, .inr ⟨b, dy, _, p', t', true, .int 0, .int 0, _, _, rfl, b1, .int 0, .int 0, rfl, rfl, ⟨0, true, by omega, .inl ⟨[], [], a2, b2, .nil, rfl⟩⟩, dp_pairs a3 a4 a5, dp_pairs b3 b4 b5, rfl, rfl, q⟩⟩
def sp_cheq (C CU : Addr) (K : PySem.W.Frag) : Sp := fun vs H Q _ => ∃ (a dx : Addr) (w pa : V) (m : Addr) (y : V), vs = [.ref a, y] ∧ H a = some (.ins C dx [("number", w), ("paper", pa), ("against", .ref m)]) ∧ ((Kd K C H y ∧ Q (.bl false) H) ∨
  ∃ (b dy : Addr) (w' pa' : V) (m' : Addr) (dw dw' dp dp' : PyData), y = .ref b ∧ H b = some (.ins C dy [("number", w'), ("paper", pa'), ("against", .ref m')]) ∧ Dp K H w dw ∧ Dp K H w' dw' ∧ SeqAt.shaped dw = true ∧ SeqAt.shaped dw' = true ∧ Dp K H pa dp ∧ Dp K H pa' dp' ∧ SeqAt.shaped dp = true ∧ SeqAt.shaped dp' = true ∧
    ((PyData.eqv dw dw' = false ∧ Q (.bl false) H) ∨ (PyData.eqv dw dw' = true ∧ PyData.eqv dp dp' = true ∧ ((∃ r, EqDD K H m m' r ∧ Q (.bl r) H) ∨ ∃ (κ : Key) (U U' : Addr), m ≠ m' ∧ H m = some (.dK [(κ, .ref U)]) ∧ H m' = some (.dK [(κ, .ref U')]) ∧ U ≠ U' ∧ UnF CU K H U ∧ UnF CU K H U' ∧ Q (.bl true) H))))
theorem upd_self {H : Hp} {m : Addr} {o u : HO} (h : H m = some u) : upd (upd H m o) m u = H := by
  funext b
  by_cases e : b = m
  · rw [e, upd_same, h]
  · rw [upd_ne e, upd_ne e]
theorem ok_Cheapest_eq (T : Txt K mg) : FnOk P w K mg base CX0 3 T.a_Cheapest_eq T.d_Cheapest_eq ["self", "other"] (sp_cheq T.c_Cheapest T.c_Unlike K) := by
  have G_Unlike_eq := ok_Unlike_eq (P := P) (w := w) (base := base) T
  refine T.F_Cheapest_eq.ok sc_Cheapest_eq (fun vs H Q E h => ?_) (fun cdv A outer s H vs Q E hr h => ?_)
  · obtain ⟨a, dx, w, pa, m, y, rfl, _⟩ := h
    rfl
  obtain ⟨a, dx, w, pa, m, y, rfl, ha, h⟩ := h
  refine ⟨_, (pss_one (ps_ret (pe_and (pe_callB call_isi (by rfl) T.z_isinstance (by decide +kernel) (pa_cons (pv 1) (pa_cons (pe_glob (v := .ref T.c_Cheapest) (by rfl) T.m_Cheapest rfl) pa_nil))) (pe_and (pe_cmpR (op_eqD (hu64 hr)) (pe_fld (pv 0) rfl) (pe_fld (pv 1) rfl) (nomark _)) (pe_and (pe_cmpR (op_eqD (hu64 hr)) (pe_fld (pv 0) rfl) (pe_fld (pv 1) rfl) (nomark _)) (pe_one (pe_cmpR ((op_eqDD (hu110 hr)).or (op_eqD1 (hu64' hr))) (pe_fld (pv 0) rfl) (pe_fld (pv 1) rfl) (nomark _)))))))), ?_⟩
  have k2 : (("paper" : Str) == ("number" : Str)) = false := by decide +kernel
  have k3 : (("against" : Str) == ("number" : Str)) = false := by decide +kernel
  have k4 : (("against" : Str) == ("paper" : Str)) = false := by decide +kernel
  rcases h with ⟨⟨tb, ty, ki, _⟩, q⟩ | ⟨b, dy, w', pa', m', dw, dw', dp, dp', rfl, hb, h1, h2, s1, s2, h3, h4, s3, s4, z⟩
  · exact ⟨_, rfl, _, .ref T.c_Cheapest, _, _, false, rfl, .own _, ty, ki, _, rfl, iteF q⟩
  · refine ⟨_, rfl, _, .ref T.c_Cheapest, _, _, true, rfl, .own _, T.ty_Cheapest hb, kit_self _ _, _, rfl, iteT ?_⟩
    refine ⟨_, rfl, a, T.c_Cheapest, dx, _, _, rfl, ha, T.cl_Cheapest, T.n_Cheapest_number, look_head, _, rfl, b, T.c_Cheapest, dy, _, _, rfl, hb, T.cl_Cheapest, T.n_Cheapest_number, look_head, dw, dw', h1, h2, s1, s2, _, rfl, ?_⟩
    rcases z with ⟨c1, q⟩ | ⟨c1, c2, z⟩
    · rw [c1]
      exact iteF q
    · rw [c1]
      refine iteT ⟨_, rfl, a, T.c_Cheapest, dx, _, _, rfl, ha, T.cl_Cheapest, T.n_Cheapest_paper, lk3b k2, _, rfl, b, T.c_Cheapest, dy, _, _, rfl, hb, T.cl_Cheapest, T.n_Cheapest_paper, lk3b k2, dp, dp', h3, h4, s3, s4, _, rfl, ?_⟩
      rw [c2]
      refine iteT ⟨_, rfl, a, T.c_Cheapest, dx, _, _, rfl, ha, T.cl_Cheapest, T.n_Cheapest_against, lk3c k3 k4, _, rfl, b, T.c_Cheapest, dy, _, _, rfl, hb, T.cl_Cheapest, T.n_Cheapest_against, lk3c k3 k4, ?_⟩
      rcases z with ⟨r, e, q⟩ | ⟨κ, U, U', ne, e1, e2, nU, u1, u2, q⟩
      · exact .inl (e.go q)
      · refine .inr ⟨m, m', κ, .ref U, .ref U', rfl, rfl, ne, e1, e2, fun o => ?_⟩
        have v1 := u1.dict (o := .frz o (.dK [(κ, .ref U)])) e1
        have v2 := u2.dict (o := .frz o (.dK [(κ, .ref U)])) e1
        have v1' := v1
        have v2' := v2
        obtain ⟨d1, _, _, _, _, i1, _⟩ := v1'
        obtain ⟨d2, _, _, _, _, i2, _⟩ := v2'
        refine cmp_own (dy := d2) (gs := []) G_Unlike_eq T.q_Unlike_eq.at_ T.q_Unlike_eq.fn T.b_Unlike_eq pass0 (Room.in1 (hr.mono (by first | decide | omega))) rfl nU i1 (T.ty_Unlike i2) (by unfold PySem.W.notFirst; simp) (v1.eq v2 ⟨true, rfl, upd_same, ?_⟩)
        rw [upd_self e1]
        exact q
/-! ### truth -/
def sp_bool (b : Bool) : Sp := fun vs H Q _ => ∃ a : Addr, vs = [.ref a] ∧ Q (.bl b) H
theorem ok_Same_bool (T : Txt K mg) : FnOk P w K mg base CX0 1 T.a_Same_bool T.d_Same_bool ["self"] (sp_bool true) := by
  refine T.F_Same_bool.ok sc_Same_bool (fun vs H Q E h => ?_) (fun cdv A outer s H vs Q E hr h => ?_)
  · obtain ⟨a, rfl, _⟩ := h
    rfl
  obtain ⟨a, rfl, q⟩ := h
  exact ⟨_, (pss_one (ps_ret pe_bl)), q⟩
theorem ok_Within_bool (T : Txt K mg) : FnOk P w K mg base CX0 1 T.a_Within_bool T.d_Within_bool ["self"] (sp_bool true) := by
  refine T.F_Within_bool.ok sc_Within_bool (fun vs H Q E h => ?_) (fun cdv A outer s H vs Q E hr h => ?_)
  · obtain ⟨a, rfl, _⟩ := h
    rfl
  obtain ⟨a, rfl, q⟩ := h
  exact ⟨_, (pss_one (ps_ret pe_bl)), q⟩
theorem ok_Unlike_bool (T : Txt K mg) : FnOk P w K mg base CX0 1 T.a_Unlike_bool T.d_Unlike_bool ["self"] (sp_bool false) := by
  refine T.F_Unlike_bool.ok sc_Unlike_bool (fun vs H Q E h => ?_) (fun cdv A outer s H vs Q E hr h => ?_)
  · obtain ⟨a, rfl, _⟩ := h
    rfl
  obtain ⟨a, rfl, q⟩ := h
  exact ⟨_, (pss_one (ps_ret pe_bl)), q⟩
theorem ok_Outside_bool (T : Txt K mg) : FnOk P w K mg base CX0 1 T.a_Outside_bool T.d_Outside_bool ["self"] (sp_bool false) := by
  refine T.F_Outside_bool.ok sc_Outside_bool (fun vs H Q E h => ?_) (fun cdv A outer s H vs Q E hr h => ?_)
  · obtain ⟨a, rfl, _⟩ := h
    rfl
  obtain ⟨a, rfl, q⟩ := h
  exact ⟨_, (pss_one (ps_ret pe_bl)), q⟩
def sp_chbool (C : Addr) : Sp := fun vs H Q _ => ∃ (a dx : Addr) (w pa m : V), vs = [.ref a] ∧ H a = some (.ins C dx [("number", w), ("paper", pa), ("against", m)]) ∧ ((w = .non ∧ Q (.bl false) H) ∨ ((∃ i, w = .int i) ∧ Q (.bl true) H))
theorem ok_Cheapest_bool (T : Txt K mg) : FnOk P w K mg base CX0 1 T.a_Cheapest_bool T.d_Cheapest_bool ["self"] (sp_chbool T.c_Cheapest) := by
  refine T.F_Cheapest_bool.ok sc_Cheapest_bool (fun vs H Q E h => ?_) (fun cdv A outer s H vs Q E hr h => ?_)
  · obtain ⟨a, dx, w, pa, m, rfl, _⟩ := h
    rfl
  obtain ⟨a, dx, w, pa, m, rfl, ha, h⟩ := h
  refine ⟨_, (pss_one (ps_ret (pe_cmpR op_notN (pe_fld (pv 0) rfl) pe_non (nomark _)))), ?_⟩
  rcases h with ⟨rfl, q⟩ | ⟨⟨i, rfl⟩, q⟩
  · exact ⟨_, rfl, a, T.c_Cheapest, dx, _, _, rfl, ha, T.cl_Cheapest, T.n_Cheapest_number, look_head, rfl, q⟩
  · exact ⟨_, rfl, a, T.c_Cheapest, dx, _, _, rfl, ha, T.cl_Cheapest, T.n_Cheapest_number, look_head, rfl, q⟩

end
end My
set_option Elab.async false
set_option linter.all false
set_option maxRecDepth 100000
set_option maxHeartbeats 400000
namespace My
open PySem L2 PySem.Spec PyProof.Rows
section
variable {P : Program} {w : World} {K : PySem.W.Frag} {mg : Str → Option Value} {base : Heap}
/-! ### what the law makes -/
def rD (r : List Int) : PyData := .tuple (r.map PyData.int)
def kS : Key := .inr ("s" : Str)
def kBS : List Key := [kBlock, kS]
def kRS : List Key := [.inr ("row" : Str), kS]
def k00 : List Key := [.inl 0, .inl 0]
def k0 : List Key := [.inl 0]
def ch12 : PyData := .tuple [pair2 0 1, pair2 1 2]
/-- the seven kinds -/
inductive Kn
  | n0 | n1 | n2 | n3 | n4 | n5 | n6
deriving DecidableEq
def Kn.v : Kn → Int
  | .n0 => 0
  | .n1 => 1
  | .n2 => 2
  | .n3 => 3
  | .n4 => 4
  | .n5 => 5
  | .n6 => 6
inductive Ev (T : Txt K mg) (H : Hp) : Kn → List Int → Int → Addr → Addr → List Addr → Prop
  | e0 {r : List Int} {n : Int} {due one dx m d : Addr} {x y x' y' : V} (h1 : H one = some (.ins T.c_Same dx [("maps", .ref m)])) (h2 : H m = some (.dK [(kKey, x), (kBlock, y)])) (h3 : SqT K H due [.ref d]) (h4 : H d = some (.dK [(kBlock, y'), (kKey, x')])) (a1 : Dp K H x (rD r)) (a2 : Dp K H y (rD [n])) (a3 : Dp K H x' (rD r)) (a4 : Dp K H y' (rD [n])) (ne : m ≠ d) : Ev T H .n0 r n due one [d]
  | e1 {r : List Int} {n : Int} {due one dx m d c c' : Addr} {x x' : V} (h1 : H one = some (.ins T.c_Unlike dx [("which", .int n), ("chosen", .ref m), ("chances", .ref c')])) (h2 : H m = some (.dK [(kBlock, x)])) (h3 : SqT K H due [.int n, .ref d, .ref c]) (h4 : H d = some (.dK [(kBlock, x')])) (a1 : Dp K H x (rD r)) (a2 : Dp K H x' (rD r)) (a3 : Dp K H (.ref c) ch12) (a4 : Dp K H (.ref c') ch12) (ne : m ≠ d) : Ev T H .n1 r n due one [d]
  | e2 {r : List Int} {n : Int} {due one dx tb col c c' : Addr} {xs : List V} (h1 : H one = some (.ins T.c_Apart dx [("table", .ref tb), ("chances", .ref c')])) (h2 : TabAt K T.c_Table H tb col xs) (h3 : SqT K H due [.ref tb, .ref c]) (h4 : ColsAt K T.c_Columns H col [] [] []) (a1 : DpAll K H xs [.tuple [.int n, .tuple [], .tuple [], .tuple []]]) (a3 : Dp K H (.ref c) (.tuple [pair2 n 1, pair2 1 3])) (a4 : Dp K H (.ref c') (.tuple [pair2 n 1, pair2 1 3])) : Ev T H .n2 r n due one [tb]
  | e3 {r : List Int} {n : Int} {due one dx t t' m d : Addr} {x y x' y' : V} (h1 : H one = some (.ins T.c_Outside dx [("row", .ref t'), ("draws", .ref m)])) (h2 : H m = some (.dT [(kRS, x), (kBS, y)])) (h3 : SqT K H due [.ref t, .ref d]) (h4 : H d = some (.dT [(kBS, y'), (kRS, x')])) (a1 : Dp K H x (pair2 n 2)) (a2 : Dp K H y (pair2 0 1)) (a3 : Dp K H x' (pair2 n 2)) (a4 : Dp K H y' (pair2 0 1)) (a5 : Dp K H (.ref t) (rD r)) (a6 : Dp K H (.ref t') (rD r)) (ne : m ≠ d) : Ev T H .n3 r n due one [d]
  | e4 {r : List Int} {n : Int} {due one dx m d U : Addr} (h1 : H one = some (.ins T.c_Cheapest dx [("number", .int n), ("paper", .non), ("against", .ref m)])) (h2 : H m = some (.dK [(.inl n, .ref U)])) (h3 : SqT K H due [.int n, .non, .ref d]) (h4 : H d = some (.dK [(.inl n, .ref U)])) (a1 : UnF T.c_Unlike K H U) (ne : m ≠ d) : Ev T H .n4 r n due one []
  | e5 {r : List Int} {n : Int} {due one dx m t f d e f' : Addr} {x x' : V} (h1 : H one = some (.ins T.c_Array dx [("sizes", .ref m), ("entries", .ref t)])) (h2 : H m = some (.dK [(kBlock, .int 1), (kKey, .int 1)])) (h3 : SqT K H due [.ref d, .ref e]) (h4 : H d = some (.dK [(kBlock, .int 1), (kKey, .int 1)])) (h5 : SqT K H t [.ref f]) (h6 : H f = some (.dT [(k00, x)])) (h7 : H e = some (.tup [.ref f'])) (h8 : H f' = some (.dT [(k00, x')])) (a1 : Dp K H x (pair2 1 (2 + n))) (a2 : Dp K H x' (pair2 1 (2 + n))) (ne : m ≠ d) (ne2 : t ≠ e) (ne3 : f ≠ f') : Ev T H .n5 r n due one [d, e, f, f']
  | e6 {r : List Int} {n : Int} {due one dx m t u v D2 d e g kk ch : Addr} {x y z x' y' z' : V} (h1 : H one = some (.ins T.c_Kernel dx [("weights", .ref m), ("functions", .ref t)])) (h2 : H m = some (.dK [(kBlock, y), (kKey, x)])) (h3 : SqT K H due [.ref d, .ref e]) (h4 : H d = some (.dK [(kBlock, y'), (kKey, x')])) (h5 : SqT K H t [.ref u]) (h6 : H u = some (.tup [.ref v, .ref D2])) (h7 : H D2 = some (.dT [(k0, z)])) (h8 : H e = some (.tup [.ref g])) (h9 : H g = some (.tup [.ref kk, .ref ch])) (h10 : H ch = some (.dT [(k0, z')]))
      (a1 : Dp K H x (.tuple [pair2 1 2, pair2 1 2])) (a2 : Dp K H y (.tuple [pair2 1 1])) (a3 : Dp K H x' (.tuple [pair2 1 2, pair2 1 2])) (a4 : Dp K H y' (.tuple [pair2 1 1])) (a5 : Dp K H z (pair2 n 1)) (a6 : Dp K H z' (pair2 n 1)) (a7 : Dp K H (.ref v) (.tuple [.str "block"])) (a8 : Dp K H (.ref kk) (.tuple [.str "block"])) (ne : m ≠ d) (ne2 : t ≠ e) (ne3 : u ≠ g) (ne4 : D2 ≠ ch) : Ev T H .n6 r n due one [d, e, g, ch, u, D2]
theorem TabAt.same {C H H' p c} {xs : List V} (g : Same H H') (h : TabAt K C H p c xs) : TabAt K C H' p c xs := by
  obtain ⟨dx, t, h1, h2⟩ := h
  exact ⟨dx, t, g _ _ h1, Same.tup g h2⟩
theorem Ev.same {T : Txt K mg} {H H' : Hp} {k : Kn} {n : Int} {r : List Int} {due one : Addr} {ds : List Addr} (g : Same H H') (h : Ev T H k r n due one ds) : Ev T H' k r n due one ds := by
  have s : ∀ {d : PyData} {v : V}, Dp K H v d → Dp K H' v d := fun {d v} h => dp_same g d v h
  cases h with
  | e0 h1 h2 h3 h4 a1 a2 a3 a4 ne => exact .e0 (g _ _ h1) (g _ _ h2) (Same.tup g h3) (g _ _ h4) (s a1) (s a2) (s a3) (s a4) ne
  | e1 h1 h2 h3 h4 a1 a2 a3 a4 ne => exact .e1 (g _ _ h1) (g _ _ h2) (Same.tup g h3) (g _ _ h4) (s a1) (s a2) (s a3) (s a4) ne
  | e2 h1 h2 h3 h4 a1 a3 a4 => exact .e2 (g _ _ h1) (h2.same g) (Same.tup g h3) (ColsAt.same g h4) (dps_same g _ _ a1) (s a3) (s a4)
  | e3 h1 h2 h3 h4 a1 a2 a3 a4 a5 a6 ne => exact .e3 (g _ _ h1) (g _ _ h2) (Same.tup g h3) (g _ _ h4) (s a1) (s a2) (s a3) (s a4) (s a5) (s a6) ne
  | e4 h1 h2 h3 h4 a1 ne => exact .e4 (g _ _ h1) (g _ _ h2) (Same.tup g h3) (g _ _ h4) (a1.same g) ne
  | e5 h1 h2 h3 h4 h5 h6 h7 h8 a1 a2 ne ne2 ne3 => exact .e5 (g _ _ h1) (g _ _ h2) (Same.tup g h3) (g _ _ h4) (Same.tup g h5) (g _ _ h6) (g _ _ h7) (g _ _ h8) (s a1) (s a2) ne ne2 ne3
  | e6 h1 h2 h3 h4 h5 h6 h7 h8 h9 h10 a1 a2 a3 a4 a5 a6 a7 a8 ne ne2 ne3 ne4 => exact .e6 (g _ _ h1) (g _ _ h2) (Same.tup g h3) (g _ _ h4) (Same.tup g h5) (g _ _ h6) (g _ _ h7) (g _ _ h8) (g _ _ h9) (g _ _ h10) (s a1) (s a2) (s a3) (s a4) (s a5) (s a6) (s a7) (s a8) ne ne2 ne3 ne4
/-! ### the parts compared -/
theorem EqT.up {H : Hp} {x y : V} {b : Bool} (h : EqT K H 0 x y b) : ∀ n, EqT K H n x y b
  | 0 => h
  | n + 1 => .inl (EqT.up h n)
theorem atom {H : Hp} {x y : V} {d e : PyData} (h : Dp K H x d) (h' : Dp K H y e) (s : SeqAt.shaped d = true) (s' : SeqAt.shaped e = true) (n : Nat) : EqT K H n x y (PyData.eqv d e) := EqT.up ⟨d, e, h, h', s, s', rfl⟩ n
theorem eq_self {H : Hp} {a : Addr} (n : Nat) : EqT K H (n + 1) (.ref a) (.ref a) true := .inr (.inl ⟨a, rfl, rfl, rfl⟩)
theorem lay_ints : ∀ r : List Int, PyData.canLayAll0 (r.map PyData.int) = true ∧ PyData.depthAll (r.map PyData.int) ≤ 1
  | [] => ⟨rfl, Nat.zero_le _⟩
  | x :: a => by
    obtain ⟨h1, h2⟩ := lay_ints a
    rw [List.map_cons, PyData.canLayAll0, PyData.depthAll, h1]
    refine ⟨by rw [PyData.canLay0]; rfl, ?_⟩
    have : (PyData.int x).depth ≤ 1 := by rw [PyData.depth] <;> decide
    omega
theorem shaped_rD (r : List Int) : SeqAt.shaped (rD r) = true := by
  obtain ⟨h1, h2⟩ := lay_ints r
  have e : SeqAt.shaped (rD r) = (PyData.canLay0 (rD r) && decide ((rD r).depth ≤ 64)) := rfl
  rw [e]
  unfold rD
  rw [PyData.canLay0, h1, PyData.depth, decide_eq_true (by omega)]
  rfl
theorem eqv_intL : ∀ a b : List Int, PyData.eqvAll (a.map PyData.int) (b.map PyData.int) = decide (a = b)
  | [], [] => rfl
  | [], _ :: _ => rfl
  | _ :: _, [] => rfl
  | x :: a, y :: b => by
    rw [List.map_cons, List.map_cons, PyData.eqvAll, eqv_intL a b, PyData.eqv]
    by_cases e : x = y
    · subst e
      simp
    · have e2 : (x == y) = false := beq_eq_false_iff_ne.mpr e
      rw [e2, Bool.false_and, decide_eq_false (fun z => e (List.cons.inj z).1)]
theorem eqv_rD (a b : List Int) : PyData.eqv (rD a) (rD b) = decide (a = b) := by
  unfold rD
  rw [PyData.eqv, eqv_intL]
theorem eqv_p1 (n m j : Int) : PyData.eqv (pair2 n j) (pair2 m j) = decide (n = m) := by
  have := eqv_rD [n, j] [m, j]
  show PyData.eqv (rD [n, j]) (rD [m, j]) = _
  rw [this]
  simp
theorem eqv_p2 (n m j k : Int) : PyData.eqv (pair2 j (k + n)) (pair2 j (k + m)) = decide (n = m) := by
  show PyData.eqv (rD [j, k + n]) (rD [j, k + m]) = _
  rw [eqv_rD]
  simp
theorem eqv_int (n m : Int) : PyData.eqv (.int n) (.int m) = decide (n = m) := by
  rw [PyData.eqv]
  by_cases e : n = m
  · simp [e]
  · rw [decide_eq_false e]
    exact beq_eq_false_iff_ne.mpr e
theorem eqv_two (n m : Int) : PyData.eqv (.tuple [pair2 n 1, pair2 1 3]) (.tuple [pair2 m 1, pair2 1 3]) = decide (n = m) := by
  rw [PyData.eqv, PyData.eqvAll, PyData.eqvAll, eqv_p1]
  simp [PyData.eqvAll, pair2, PyData.eqv]
theorem eqv_row (n m : Int) : PyData.eqvAll [.tuple [.int n, .tuple [], .tuple [], .tuple []]] [.tuple [.int m, .tuple [], .tuple [], .tuple []]] = decide (n = m) := by
  have := eqv_int n m
  simp [PyData.eqvAll, PyData.eqv] at this ⊢
  exact this

end
end My
set_option Elab.async false
set_option linter.all false
set_option maxRecDepth 100000
set_option maxHeartbeats 400000
namespace My
open PySem L2 PySem.Spec PyProof.Rows
section
variable {P : Program} {w : World} {K : PySem.W.Frag} {mg : Str → Option Value} {base : Heap}
/-! ### one == two, due == late -/
def res (k : Kn) (r : List Int) (n : Int) (r' : List Int) (n' : Int) : Bool := match k with
  | .n0 => decide (r = r') && decide (n = n')
  | .n1 => decide (r = r') && decide (n = n')
  | .n3 => decide (r = r') && decide (n = n')
  | _ => decide (n = n')
theorem v_key {κ : Type} [DecidableEq κ] {k l : κ} {x y : V} (n : l ≠ k) : valV [(l, y), (k, x)] k = some x := (valV_neg n).trans (valV_pos rfl)
theorem dk_eq {H : Hp} {n : Nat} {d e : Addr} {ks ls : List (Key × V)} {b : Bool} (same : d = e → b = true) (h : H d = some (.dK ks)) (h' : H e = some (.dK ls)) (l : ks.length = ls.length) (hits : Hits (EqT K H n) ls ks b) : EqT K H (n + 1) (.ref d) (.ref e) b := by
  by_cases c : d = e
  · subst c
    rw [same rfl]
    exact eq_self n
  · exact .inr (.inr (.inr (.inl ⟨d, e, ks, ls, b, rfl, rfl, c, h, h', hits, by rw [l]; simp⟩)))
theorem dt_eq {H : Hp} {n : Nat} {d e : Addr} {ks ls : List (List Key × V)} {b : Bool} (same : d = e → b = true) (h : H d = some (.dT ks)) (h' : H e = some (.dT ls)) (l : ks.length = ls.length) (hits : Hits (EqT K H n) ls ks b) : EqT K H (n + 1) (.ref d) (.ref e) b := by
  by_cases c : d = e
  · subst c
    rw [same rfl]
    exact eq_self n
  · exact .inr (.inr (.inr (.inr ⟨d, e, ks, ls, b, rfl, rfl, c, h, h', hits, by rw [l]; simp⟩)))
theorem tup_eq {H : Hp} {n : Nat} {d e : Addr} {xs ys : List V} {b : Bool} (same : d = e → b = true) (h : SqT K H d xs) (h' : SqT K H e ys) (it : Its (EqT K H n) xs ys b) : EqT K H (n + 1) (.ref d) (.ref e) b := by
  by_cases c : d = e
  · subst c
    rw [same rfl]
    exact eq_self n
  · exact .inr (.inr (.inl ⟨d, e, xs, ys, rfl, rfl, c, h, h', it⟩))
theorem sh_p (i j : Int) : SeqAt.shaped (pair2 i j) = true := rfl
theorem rs_ne : kBS ≠ kRS := fun z => absurd (Sum.inr.inj (List.cons.inj z).1) (by decide +kernel)
/-- the answers, from parts that are as told -/
theorem two_hits {H : Hp} {x y x' y' : V} {r r' : List Int} {n n' : Int} (a1 : Dp K H x (rD r)) (a2 : Dp K H y (rD [n])) (b1 : Dp K H x' (rD r')) (b2 : Dp K H y' (rD [n'])) (m : Nat) :
    Hits (EqT K H m) [(kKey, x'), (kBlock, y')] [(kKey, x), (kBlock, y)] (decide (r = r') && decide (n = n')) := by
  have h := Hits.hit (F := EqT K H m) (ls := [(kKey, x'), (kBlock, y')]) (valV_pos rfl) (atom a1 b1 (shaped_rD r) (shaped_rD r') m) (.hit (v_key (Ne.symm bk_ne)) (atom a2 b2 (shaped_rD [n]) (shaped_rD [n']) m) .nil)
  rw [eqv_rD, eqv_rD] at h
  simpa using h
theorem two_hitsB {H : Hp} {x y x' y' : V} {r r' : List Int} {n n' : Int} (a1 : Dp K H x (rD r)) (a2 : Dp K H y (rD [n])) (b1 : Dp K H x' (rD r')) (b2 : Dp K H y' (rD [n'])) (m : Nat) :
    Hits (EqT K H m) [(kBlock, y'), (kKey, x')] [(kBlock, y), (kKey, x)] (decide (r = r') && decide (n = n')) := by
  have h := Hits.hit (F := EqT K H m) (ls := [(kBlock, y'), (kKey, x')]) (valV_pos rfl) (atom a2 b2 (shaped_rD [n]) (shaped_rD [n']) m) (.hit (v_key bk_ne) (atom a1 b1 (shaped_rD r) (shaped_rD r') m) .nil)
  rw [eqv_rD, eqv_rD] at h
  rw [Bool.and_comm]
  simpa using h
theorem two_hitsX {H : Hp} {x y x' y' : V} {r r' : List Int} {n n' : Int} (a1 : Dp K H x (rD r)) (a2 : Dp K H y (rD [n])) (b1 : Dp K H x' (rD r')) (b2 : Dp K H y' (rD [n'])) (m : Nat) :
    Hits (EqT K H m) [(kBlock, y'), (kKey, x')] [(kKey, x), (kBlock, y)] (decide (r = r') && decide (n = n')) := by
  have h := Hits.hit (F := EqT K H m) (ls := [(kBlock, y'), (kKey, x')]) (v_key bk_ne) (atom a1 b1 (shaped_rD r) (shaped_rD r') m) (.hit (valV_pos rfl) (atom a2 b2 (shaped_rD [n]) (shaped_rD [n']) m) .nil)
  rw [eqv_rD, eqv_rD] at h
  simpa using h
theorem one_hit {H : Hp} {x x' : V} {r r' : List Int} {k : Key} (a1 : Dp K H x (rD r)) (b1 : Dp K H x' (rD r')) (m : Nat) : Hits (EqT K H m) [(k, x')] [(k, x)] (decide (r = r')) := by
  have h := Hits.hit (F := EqT K H m) (ls := [(k, x')]) (valV_pos rfl) (atom a1 b1 (shaped_rD r) (shaped_rD r') m) .nil
  rw [eqv_rD] at h
  simpa using h
theorem pair_hit {H : Hp} {x x' : V} {d e : PyData} {k : List Key} (a1 : Dp K H x d) (b1 : Dp K H x' e) (s : SeqAt.shaped d = true) (s' : SeqAt.shaped e = true) (m : Nat) : Hits (EqT K H m) [(k, x')] [(k, x)] (PyData.eqv d e) := by
  have h := Hits.hit (F := EqT K H m) (ls := [(k, x')]) (valV_pos rfl) (atom a1 b1 s s' m) .nil
  rwa [Bool.and_true] at h
theorem dr_hits {H : Hp} {x y x' y' : V} {n n' : Int} (a1 : Dp K H x (pair2 n 2)) (a2 : Dp K H y (pair2 0 1)) (b1 : Dp K H x' (pair2 n' 2)) (b2 : Dp K H y' (pair2 0 1)) (m : Nat) :
    Hits (EqT K H m) [(kRS, x'), (kBS, y')] [(kRS, x), (kBS, y)] (decide (n = n')) ∧ Hits (EqT K H m) [(kBS, y'), (kRS, x')] [(kBS, y), (kRS, x)] (decide (n = n')) ∧ Hits (EqT K H m) [(kBS, y'), (kRS, x')] [(kRS, x), (kBS, y)] (decide (n = n')) := by
  have e : PyData.eqv (pair2 0 1) (pair2 0 1) = true := by rw [eqv_p1]; rfl
  refine ⟨?_, ?_, ?_⟩
  · have h := Hits.hit (F := EqT K H m) (ls := [(kRS, x'), (kBS, y')]) (valV_pos rfl) (atom a1 b1 (sh_p _ _) (sh_p _ _) m) (.hit (v_key (Ne.symm rs_ne)) (atom a2 b2 (sh_p _ _) (sh_p _ _) m) .nil)
    rw [eqv_p1, e] at h
    simpa using h
  · have h := Hits.hit (F := EqT K H m) (ls := [(kBS, y'), (kRS, x')]) (valV_pos rfl) (atom a2 b2 (sh_p _ _) (sh_p _ _) m) (.hit (v_key rs_ne) (atom a1 b1 (sh_p _ _) (sh_p _ _) m) .nil)
    rw [eqv_p1 n, e] at h
    simpa using h
  · have h := Hits.hit (F := EqT K H m) (ls := [(kBS, y'), (kRS, x')]) (v_key rs_ne) (atom a1 b1 (sh_p _ _) (sh_p _ _) m) (.hit (valV_pos rfl) (atom a2 b2 (sh_p _ _) (sh_p _ _) m) .nil)
    rw [eqv_p1 n, e] at h
    simpa using h
theorem int_hits {H : Hp} (m : Nat) : Hits (EqT K H m) [(kBlock, .int 1), (kKey, .int 1)] [(kBlock, .int 1), (kKey, .int 1)] true :=
  .hit (b := true) (valV_pos rfl) (atom (.int 1) (.int 1) rfl rfl m) (.hit (b := true) (c := true) (v_key bk_ne) (atom (.int 1) (.int 1) rfl rfl m) .nil)
def w12 : PyData := .tuple [pair2 1 2, pair2 1 2]
def w11 : PyData := .tuple [pair2 1 1]
theorem w_hits {H : Hp} {x y x' y' : V} (a1 : Dp K H x w12) (a2 : Dp K H y w11) (b1 : Dp K H x' w12) (b2 : Dp K H y' w11) (m : Nat) : Hits (EqT K H m) [(kBlock, y'), (kKey, x')] [(kBlock, y), (kKey, x)] true :=
  .hit (b := true) (valV_pos rfl) (atom a2 b2 rfl rfl m) (.hit (b := true) (c := true) (v_key bk_ne) (atom a1 b1 rfl rfl m) .nil)
theorem sh_blk : SeqAt.shaped (.tuple [.str ("block" : Str)]) = true := by decide +kernel
theorem fun_its {H : Hp} {u v D2 g kk ch : Addr} {z z' : V} {n n' : Int} (h6 : SqT K H u [.ref v, .ref D2]) (h7 : H D2 = some (.dT [(k0, z)])) (h9 : SqT K H g [.ref kk, .ref ch]) (h10 : H ch = some (.dT [(k0, z')])) (a5 : Dp K H z (pair2 n 1)) (a6 : Dp K H z' (pair2 n' 1)) (a7 : Dp K H (.ref v) (.tuple [.str "block"])) (a8 : Dp K H (.ref kk) (.tuple [.str "block"]))
    (s1 : D2 = ch → decide (n = n') = true) (s2 : u = g → decide (n = n') = true) (m : Nat) : Its (EqT K H (m + 2)) [.ref u] [.ref g] (decide (n = n')) := by
  have hh := pair_hit (k := k0) a5 a6 (sh_p _ _) (sh_p _ _) m
  rw [eqv_p1] at hh
  have e := dt_eq s1 h7 h10 rfl hh
  have at_ : EqT K H (m + 1) (.ref v) (.ref kk) true := atom a7 a8 sh_blk sh_blk (m + 1)
  have it : Its (EqT K H (m + 1)) [.ref v, .ref D2] [.ref kk, .ref ch] (decide (n = n')) := by
    have := Its.cons at_ (.cons e .nil)
    simpa using this
  have := Its.cons (tup_eq s2 h6 h9 it) .nil
  simpa using this
theorem ent_its {H : Hp} {f f' : Addr} {x x' : V} {n n' : Int} (h6 : H f = some (.dT [(k00, x)])) (h8 : H f' = some (.dT [(k00, x')])) (a1 : Dp K H x (pair2 1 (2 + n))) (a2 : Dp K H x' (pair2 1 (2 + n'))) (s : f = f' → decide (n = n') = true) (m : Nat) : Its (EqT K H (m + 1)) [.ref f] [.ref f'] (decide (n = n')) := by
  have hh := pair_hit (k := k00) a1 a2 (sh_p _ _) (sh_p _ _) m
  rw [eqv_p2] at hh
  have := Its.cons (dt_eq s h6 h8 rfl hh) .nil
  simpa using this
/-- what one's own == says of y -/
inductive Core (T : Txt K mg) (H : Hp) (one : Addr) (y : V) (b : Bool) : Prop
  | c0 {dx : Addr} {fs : List (Str × V)} {tb : Value} (h : H one = some (.ins T.c_Same dx fs)) (ty : TyX K H y tb) (nf : PySem.W.notFirst K T.c_Same tb = true) (sp : ∀ (Q : VK) (E : XK), Q (.bl b) H → sp_seq T.c_Same K [.ref one, y] H Q E)
  | c1 {dx : Addr} {fs : List (Str × V)} {tb : Value} (h : H one = some (.ins T.c_Unlike dx fs)) (ty : TyX K H y tb) (nf : PySem.W.notFirst K T.c_Unlike tb = true) (sp : ∀ (Q : VK) (E : XK), Q (.bl b) H → sp_ueq T.c_Unlike K [.ref one, y] H Q E)
  | c2 {dx : Addr} {fs : List (Str × V)} {tb : Value} (h : H one = some (.ins T.c_Apart dx fs)) (ty : TyX K H y tb) (nf : PySem.W.notFirst K T.c_Apart tb = true) (sp : ∀ (Q : VK) (E : XK), Q (.bl b) H → sp_apeq T.c_Apart T.c_Columns T.c_Table K [.ref one, y] H Q E)
  | c3 {dx : Addr} {fs : List (Str × V)} {tb : Value} (h : H one = some (.ins T.c_Outside dx fs)) (ty : TyX K H y tb) (nf : PySem.W.notFirst K T.c_Outside tb = true) (sp : ∀ (Q : VK) (E : XK), Q (.bl b) H → sp_oeq T.c_Outside K [.ref one, y] H Q E)
  | c4 {dx : Addr} {fs : List (Str × V)} {tb : Value} (h : H one = some (.ins T.c_Cheapest dx fs)) (ty : TyX K H y tb) (nf : PySem.W.notFirst K T.c_Cheapest tb = true) (sp : ∀ (Q : VK) (E : XK), Q (.bl b) H → sp_cheq T.c_Cheapest T.c_Unlike K [.ref one, y] H Q E)
  | c5 {dx : Addr} {fs : List (Str × V)} {tb : Value} (h : H one = some (.ins T.c_Array dx fs)) (ty : TyX K H y tb) (nf : PySem.W.notFirst K T.c_Array tb = true) (sp : ∀ (Q : VK) (E : XK), Q (.bl b) H → sp_areq T.c_Array "sizes" "entries" K [.ref one, y] H Q E)
  | c6 {dx : Addr} {fs : List (Str × V)} {tb : Value} (h : H one = some (.ins T.c_Kernel dx fs)) (ty : TyX K H y tb) (nf : PySem.W.notFirst K T.c_Kernel tb = true) (sp : ∀ (Q : VK) (E : XK), Q (.bl b) H → sp_areq T.c_Kernel "weights" "functions" K [.ref one, y] H Q E)
theorem nf_self (C : Addr) : PySem.W.notFirst K C (.ref C) = true := by
  unfold PySem.W.notFirst
  simp
theorem core_two {T : Txt K mg} {H : Hp} {k : Kn} {r r' : List Int} {n n' : Int} {due one late two : Addr} {ds ds' : List Addr} (h : Ev T H k r n due one ds) (h' : Ev T H k r' n' late two ds') (dis : (r = r' ∧ n = n') ∨ ∀ x ∈ ds, ∀ y ∈ ds', x ≠ y) : Core T H one (.ref two) (res k r n r' n') := by
  have dd : ∀ {x y : Addr}, x ∈ ds → y ∈ ds' → x = y → decide (n = n') = true := fun {x y} hx hy e => dis.elim (fun z => decide_eq_true z.2) (fun z => absurd e (z x hx y hy))
  cases h with
  | e0 h1 h2 h3 h4 a1 a2 a3 a4 ne =>
    cases h' with
    | e0 g1 g2 g3 g4 b1 b2 b3 b4 ne' =>
      exact .c0 h1 (T.ty_Same g1) (nf_self _) fun Q E q => ⟨one, _, _, .ref two, rfl, h1, .inr ⟨two, _, _, _, rfl, g1, ⟨2, _, by omega, .inl ⟨_, _, h2, g2, two_hits a1 a2 b1 b2 2, rfl⟩⟩, q⟩⟩
  | e1 h1 h2 h3 h4 a1 a2 a3 a4 ne =>
    cases h' with
    | e1 g1 g2 g3 g4 b1 b2 b3 b4 ne' =>
      refine .c1 h1 (T.ty_Unlike g1) (nf_self _) fun Q E q => ⟨one, _, _, _, _, .ref two, rfl, h1, .inr ⟨two, _, _, _, _, _, .int n, .int n', ch12, ch12, rfl, g1, .int n, .int n', rfl, rfl, ⟨2, _, by omega, .inl ⟨_, _, h2, g2, one_hit a1 b1 2, rfl⟩⟩, a4, b4, rfl, rfl, ?_⟩⟩
      have e : PyData.eqv ch12 ch12 = true := rfl
      rw [eqv_int, e]
      have e2 : (decide (n = n') && ((([(kBlock, (0 : Nat))].length == [(kBlock, (0 : Nat))].length) && decide (r = r')) && true)) = (decide (r = r') && decide (n = n')) := by
        rw [Bool.and_comm]
        simp
      exact e2 ▸ q
  | e2 h1 h2 h3 h4 a1 a3 a4 =>
    cases h' with
    | e2 g1 g2 g3 g4 b1 b3 b4 =>
      refine .c2 h1 (T.ty_Apart g1) (nf_self _) fun Q E q => ⟨one, _, _, _, .ref two, rfl, h1, .inr ⟨two, _, _, _, _, _, _, _, _, _, _, _, rfl, g1, h2, g2, h4, g4, a1, b1, rfl, rfl, a4, b4, rfl, rfl, ?_⟩⟩
      rw [eqv_row, eqv_two, Bool.and_self]
      exact q
  | e3 h1 h2 h3 h4 a1 a2 a3 a4 a5 a6 ne =>
    cases h' with
    | e3 g1 g2 g3 g4 b1 b2 b3 b4 b5 b6 ne' =>
      refine .c3 h1 (T.ty_Outside g1) (nf_self _) fun Q E q => ⟨one, _, _, _, .ref two, rfl, h1, .inr ⟨two, _, _, _, decide (n = n'), _, _, rfl, g1, ⟨2, _, by omega, .inr ⟨_, _, h2, g2, (dr_hits a1 a2 b1 b2 2).1, rfl⟩⟩, a6, b6, shaped_rD _, shaped_rD _, ?_⟩⟩
      rw [eqv_rD]
      exact q
  | e4 h1 h2 h3 h4 a1 ne =>
    cases h' with
    | e4 g1 g2 g3 g4 b1 ne' =>
      refine .c4 h1 (T.ty_Cheapest g1) (nf_self _) fun Q E q => ⟨one, _, _, _, _, .ref two, rfl, h1, .inr ⟨two, _, _, _, _, .int n, .int n', .none, .none, rfl, g1, .int n, .int n', rfl, rfl, .non, .non, rfl, rfl, ?_⟩⟩
      rw [eqv_int]
      by_cases e : n = n'
      · subst e
        have q : Q (.bl true) H := by
          have z : res .n4 r n r' n = true := decide_eq_true rfl
          rw [z] at q
          exact q
        refine .inr ⟨decide_eq_true rfl, rfl, ?_⟩
        rename_i dx m d U dx' m' d' U' _
        by_cases eU : U = U'
        · subst eU
          exact .inl ⟨true, ⟨2, true, by omega, .inl ⟨_, _, h2, g2, .hit (b := true) (c := true) (valV_pos rfl) (eq_self 1) .nil, rfl⟩⟩, q⟩
        · refine .inr ⟨.inl n, U, U', fun z => ?_, h2, g2, eU, a1, b1, q⟩
          rw [z, g2] at h2
          injection h2 with h2
          injection h2 with h2
          injection h2 with h2
          injection h2 with _ h2
          injection h2 with h2
          exact eU h2.symm
      · have q : Q (.bl false) H := by
          have z : res .n4 r n r' n' = false := decide_eq_false e
          rw [z] at q
          exact q
        exact .inl ⟨decide_eq_false e, q⟩
  | e5 h1 h2 h3 h4 h5 h6 h7 h8 a1 a2 ne ne2 ne3 =>
    cases h' with
    | e5 g1 g2 g3 g4 g5 g6 g7 g8 b1 b2 ne' ne2' ne3' =>
      refine .c5 h1 (T.ty_Array g1) (nf_self _) fun Q E q => ⟨one, _, _, _, .ref two, rfl, h1, .inr ⟨two, _, _, _, true, _, _, _, rfl, g1, ⟨2, true, by omega, .inl ⟨_, _, h2, g2, int_hits 2, rfl⟩⟩, h5, g5, ent_its h6 g6 a1 b1 (fun z => dd (by simp) (by simp) z) 9, ?_⟩⟩
      exact q
  | e6 h1 h2 h3 h4 h5 h6 h7 h8 h9 h10 a1 a2 a3 a4 a5 a6 a7 a8 ne ne2 ne3 ne4 =>
    cases h' with
    | e6 g1 g2 g3 g4 g5 g6 g7 g8 g9 g10 b1 b2 b3 b4 b5 b6 b7 b8 ne' ne2' ne3' ne4' =>
      refine .c6 h1 (T.ty_Kernel g1) (nf_self _) fun Q E q => ⟨one, _, _, _, .ref two, rfl, h1, .inr ⟨two, _, _, _, true, _, _, _, rfl, g1, ⟨2, true, by omega, .inl ⟨_, _, h2, g2, w_hits a1 a2 b1 b2 2, rfl⟩⟩, h5, g5, fun_its (SqT.of h6) h7 (SqT.of g6) g7 a5 b5 a7 b7 (fun z => dd (by simp) (by simp) z) (fun z => dd (by simp) (by simp) z) 8, ?_⟩⟩
      exact q

end
end My
set_option Elab.async false
set_option linter.all false
set_option maxRecDepth 100000
set_option maxHeartbeats 400000
namespace My
open PySem L2 PySem.Spec PyProof.Rows
section
variable {P : Program} {w : World} {K : PySem.W.Frag} {mg : Str → Option Value} {base : Heap}
/-! ### the class of a kind; other values -/
def clsK (T : Txt K mg) : Kn → Addr
  | .n0 => T.c_Same
  | .n1 => T.c_Unlike
  | .n2 => T.c_Apart
  | .n3 => T.c_Outside
  | .n4 => T.c_Cheapest
  | .n5 => T.c_Array
  | .n6 => T.c_Kernel
theorem kt_cls (T : Txt K mg) (k : Kn) : KitT K (clsK T k) := by
  cases k
  · exact T.kt_Same
  · exact T.kt_Unlike
  · exact T.kt_Apart
  · exact T.kt_Outside
  · exact T.kt_Cheapest
  · exact T.kt_Array
  · exact T.kt_Kernel
theorem sub_cls (T : Txt K mg) (k l : Kn) (ne : k ≠ l) : PySem.W.subIn K (.ref (clsK T k)) (.ref (clsK T l)) = some false := by
  cases k <;> cases l <;> first
    | exact absurd rfl ne
    | exact T.ys_Same_Unlike
    | exact T.ys_Same_Apart
    | exact T.ys_Same_Outside
    | exact T.ys_Same_Cheapest
    | exact T.ys_Same_Array
    | exact T.ys_Same_Kernel
    | exact T.ys_Unlike_Same
    | exact T.ys_Unlike_Apart
    | exact T.ys_Unlike_Outside
    | exact T.ys_Unlike_Cheapest
    | exact T.ys_Unlike_Array
    | exact T.ys_Unlike_Kernel
    | exact T.ys_Apart_Same
    | exact T.ys_Apart_Unlike
    | exact T.ys_Apart_Outside
    | exact T.ys_Apart_Cheapest
    | exact T.ys_Apart_Array
    | exact T.ys_Apart_Kernel
    | exact T.ys_Outside_Same
    | exact T.ys_Outside_Unlike
    | exact T.ys_Outside_Apart
    | exact T.ys_Outside_Cheapest
    | exact T.ys_Outside_Array
    | exact T.ys_Outside_Kernel
    | exact T.ys_Cheapest_Same
    | exact T.ys_Cheapest_Unlike
    | exact T.ys_Cheapest_Apart
    | exact T.ys_Cheapest_Outside
    | exact T.ys_Cheapest_Array
    | exact T.ys_Cheapest_Kernel
    | exact T.ys_Array_Same
    | exact T.ys_Array_Unlike
    | exact T.ys_Array_Apart
    | exact T.ys_Array_Outside
    | exact T.ys_Array_Cheapest
    | exact T.ys_Array_Kernel
    | exact T.ys_Kernel_Same
    | exact T.ys_Kernel_Unlike
    | exact T.ys_Kernel_Apart
    | exact T.ys_Kernel_Outside
    | exact T.ys_Kernel_Cheapest
    | exact T.ys_Kernel_Array
theorem ev_ty {T : Txt K mg} {H : Hp} {k : Kn} {r : List Int} {n : Int} {due one : Addr} {ds : List Addr} (h : Ev T H k r n due one ds) : TyX K H (.ref one) (.ref (clsK T k)) := by
  cases h with
  | e0 h => exact T.ty_Same h
  | e1 h => exact T.ty_Unlike h
  | e2 h => exact T.ty_Apart h
  | e3 h => exact T.ty_Outside h
  | e4 h => exact T.ty_Cheapest h
  | e5 h => exact T.ty_Array h
  | e6 h => exact T.ty_Kernel h
theorem sub_ne {K : PySem.W.Frag} {C D : Addr} (k : KitT K C) (h : PySem.W.subIn K (.ref D) (.ref C) = some false) : (Value.ref D) ≠ .ref C := fun e => by
  rw [e, k.self_] at h
  cases h
theorem ev_kd {T : Txt K mg} {H : Hp} {k l : Kn} {r : List Int} {n : Int} {due one : Addr} {ds : List Addr} (h : Ev T H l r n due one ds) (ne : l ≠ k) : Kd K (clsK T k) H (.ref one) :=
  Kd.mk (kt_cls T k) (ev_ty h) (sub_cls T l k ne) (sub_ne (kt_cls T k) (sub_cls T l k ne))
theorem core_kd {T : Txt K mg} {H : Hp} {k : Kn} {r : List Int} {n : Int} {due one : Addr} {ds : List Addr} {y : V} (h : Ev T H k r n due one ds) (hy : Kd K (clsK T k) H y) : Core T H one y false := by
  have hy' := hy
  obtain ⟨tb, ty, ki, nf⟩ := hy'
  cases h with
  | e0 h => exact .c0 h ty nf fun Q E q => ⟨_, _, _, y, rfl, h, .inl ⟨hy, q⟩⟩
  | e1 h => exact .c1 h ty nf fun Q E q => ⟨_, _, _, _, _, y, rfl, h, .inl ⟨hy, q⟩⟩
  | e2 h => exact .c2 h ty nf fun Q E q => ⟨_, _, _, _, y, rfl, h, .inl ⟨hy, q⟩⟩
  | e3 h => exact .c3 h ty nf fun Q E q => ⟨_, _, _, _, y, rfl, h, .inl ⟨hy, q⟩⟩
  | e4 h => exact .c4 h ty nf fun Q E q => ⟨_, _, _, _, _, y, rfl, h, .inl ⟨hy, q⟩⟩
  | e5 h => exact .c5 h ty nf fun Q E q => ⟨_, _, _, _, y, rfl, h, .inl ⟨hy, q⟩⟩
  | e6 h => exact .c6 h ty nf fun Q E q => ⟨_, _, _, _, y, rfl, h, .inl ⟨hy, q⟩⟩
theorem kd_tup {C : Addr} {H : Hp} {a : Addr} {xs : List V} (k : KitT K C) (h : SqT K H a xs) : Kd K C H (.ref a) := Kd.mk k (ty_tup h) (sub_tup K C) (fun z => by cases z)
theorem kd_non {C : Addr} {H : Hp} (k : KitT K C) : Kd K C H .non := Kd.mk k (.base .non) (sub_non K C) (fun z => by cases z)
theorem kd_int {C : Addr} {H : Hp} {i : Int} (k : KitT K C) : Kd K C H (.int i) := Kd.mk k (.base (.int i)) (sub_int K C) (fun z => by cases z)
/-! ### what is told -/
def fldsAt (T : Txt K mg) (H : Hp) (k : Kn) (one : Addr) (xs : List V) : Prop := match k with
  | .n0 => ∃ dx a, H one = some (.ins T.c_Same dx [("maps", a)]) ∧ xs = [a]
  | .n1 => ∃ dx a b c, H one = some (.ins T.c_Unlike dx [("which", a), ("chosen", b), ("chances", c)]) ∧ xs = [a, b, c]
  | .n2 => ∃ dx a b, H one = some (.ins T.c_Apart dx [("table", a), ("chances", b)]) ∧ xs = [a, b]
  | .n3 => ∃ dx a b, H one = some (.ins T.c_Outside dx [("row", a), ("draws", b)]) ∧ xs = [a, b]
  | .n4 => ∃ dx a b c, H one = some (.ins T.c_Cheapest dx [("number", a), ("paper", b), ("against", c)]) ∧ xs = [a, b, c]
  | .n5 => ∃ dx a b, H one = some (.ins T.c_Array dx [("sizes", a), ("entries", b)]) ∧ xs = [a, b]
  | .n6 => ∃ dx a b, H one = some (.ins T.c_Kernel dx [("weights", a), ("functions", b)]) ∧ xs = [a, b]
theorem told_its {T : Txt K mg} {H : Hp} {k : Kn} {r : List Int} {n : Int} {due one : Addr} {ds : List Addr} (h : Ev T H k r n due one ds) : ∃ xs ys, fldsAt T H k one xs ∧ SqT K H due ys ∧ Its (EqT K H 10) xs ys true := by
  have two : ∀ {a b c d : V}, EqT K H 10 a c true → EqT K H 10 b d true → Its (EqT K H 10) [a, b] [c, d] true := fun p q => .cons (b := true) (c := true) p (.cons (b := true) (c := true) q .nil)
  have tri : ∀ {a b c d e f : V}, EqT K H 10 a d true → EqT K H 10 b e true → EqT K H 10 c f true → Its (EqT K H 10) [a, b, c] [d, e, f] true := fun p q r => .cons (b := true) (c := true) p (.cons (b := true) (c := true) q (.cons (b := true) (c := true) r .nil))
  have ab : ∀ {a b : Addr} {v : Bool}, a ≠ b → a = b → v = true := fun n e => absurd e n
  cases h with
  | e0 h1 h2 h3 h4 a1 a2 a3 a4 ne =>
    have hh := two_hitsX (H := H) a1 a2 a3 a4 9
    rw [decide_eq_true rfl, decide_eq_true rfl] at hh
    exact ⟨_, _, ⟨_, _, h1, rfl⟩, h3, .cons (b := true) (c := true) (dk_eq (ab ne) h2 h4 rfl hh) .nil⟩
  | e1 h1 h2 h3 h4 a1 a2 a3 a4 ne =>
    have hh := one_hit (H := H) (k := kBlock) a1 a2 9
    rw [decide_eq_true rfl] at hh
    have e := atom (K := K) (H := H) (.int n) (.int n) rfl rfl 10
    rw [eqv_int, decide_eq_true rfl] at e
    exact ⟨_, _, ⟨_, _, _, _, h1, rfl⟩, h3, tri e (dk_eq (ab ne) h2 h4 rfl hh) (atom a4 a3 rfl rfl 10)⟩
  | e2 h1 h2 h3 h4 a1 a3 a4 =>
    have e := atom a4 a3 rfl rfl 10
    rw [eqv_two, decide_eq_true rfl] at e
    exact ⟨_, _, ⟨_, _, _, h1, rfl⟩, h3, two (eq_self 9) e⟩
  | e3 h1 h2 h3 h4 a1 a2 a3 a4 a5 a6 ne =>
    have hh := (dr_hits (H := H) a1 a2 a3 a4 9).2.2
    rw [decide_eq_true rfl] at hh
    have e := atom a6 a5 (shaped_rD _) (shaped_rD _) 10
    rw [eqv_rD, decide_eq_true rfl] at e
    exact ⟨_, _, ⟨_, _, _, h1, rfl⟩, h3, two e (dt_eq (ab ne) h2 h4 rfl hh)⟩
  | e4 h1 h2 h3 h4 a1 ne =>
    have e := atom (K := K) (H := H) (.int n) (.int n) rfl rfl 10
    rw [eqv_int, decide_eq_true rfl] at e
    exact ⟨_, _, ⟨_, _, _, _, h1, rfl⟩, h3, tri e (atom .non .non rfl rfl 10) (dk_eq (ab ne) h2 h4 rfl (.hit (b := true) (c := true) (valV_pos rfl) (eq_self 8) .nil))⟩
  | e5 h1 h2 h3 h4 h5 h6 h7 h8 a1 a2 ne ne2 ne3 =>
    have hh := ent_its h6 h8 a1 a2 (fun z => absurd z ne3) 8
    rw [decide_eq_true rfl] at hh
    exact ⟨_, _, ⟨_, _, _, h1, rfl⟩, h3, two (dk_eq (ab ne) h2 h4 rfl (int_hits 9)) (tup_eq (ab ne2) h5 (SqT.of h7) hh)⟩
  | e6 h1 h2 h3 h4 h5 h6 h7 h8 h9 h10 a1 a2 a3 a4 a5 a6 a7 a8 ne ne2 ne3 ne4 =>
    have hh := fun_its (SqT.of h6) h7 (SqT.of h9) h10 a5 a6 a7 a8 (fun z => absurd z ne4) (fun z => absurd z ne3) 7
    rw [decide_eq_true rfl] at hh
    exact ⟨_, _, ⟨_, _, _, h1, rfl⟩, h3, two (dk_eq (ab ne) h2 h4 rfl (w_hits a1 a2 a3 a4 9)) (tup_eq (ab ne2) h5 (SqT.of h8) hh)⟩
theorem ev_ds {T : Txt K mg} {H : Hp} {k : Kn} {r : List Int} {n : Int} {due one : Addr} {ds : List Addr} (h : Ev T H k r n due one ds) : ∀ x ∈ ds, ∃ o, H x = some o := by
  intro x hx
  cases h with
  | e0 h1 h2 h3 h4 =>
    obtain rfl := List.mem_singleton.mp hx
    exact ⟨_, h4⟩
  | e1 h1 h2 h3 h4 =>
    obtain rfl := List.mem_singleton.mp hx
    exact ⟨_, h4⟩
  | e2 h1 h2 h3 h4 =>
    obtain rfl := List.mem_singleton.mp hx
    obtain ⟨_, _, h, _⟩ := h2
    exact ⟨_, h⟩
  | e3 h1 h2 h3 h4 =>
    obtain rfl := List.mem_singleton.mp hx
    exact ⟨_, h4⟩
  | e4 => cases hx
  | e5 h1 h2 h3 h4 h5 h6 h7 h8 =>
    simp only [List.mem_cons, List.not_mem_nil, or_false] at hx
    rcases hx with rfl | rfl | rfl | rfl
    · exact ⟨_, h4⟩
    · exact ⟨_, h7⟩
    · exact ⟨_, h6⟩
    · exact ⟨_, h8⟩
  | e6 h1 h2 h3 h4 h5 h6 h7 h8 h9 h10 =>
    simp only [List.mem_cons, List.not_mem_nil, or_false] at hx
    rcases hx with rfl | rfl | rfl | rfl | rfl | rfl
    · exact ⟨_, h4⟩
    · exact ⟨_, h8⟩
    · exact ⟨_, h9⟩
    · exact ⟨_, h10⟩
    · exact ⟨_, h6⟩
    · exact ⟨_, h7⟩

end
end My
set_option Elab.async false
set_option linter.all false
set_option maxRecDepth 100000
set_option maxHeartbeats 400000
namespace My
open PySem L2 PySem.Spec PyProof.Rows
section
variable {P : Program} {w : World} {K : PySem.W.Frag} {mg : Str → Option Value} {base : Heap}
/-! ### due == late -/
theorem itM_pure2 {X : Cx} {A : Around} {H : Hp} {x y : V} {k : Bool → Hp → Prop} (h : CmpM X A x y H k) : itM X A [x] [y] H k := by
  show CmpM X A x y H fun b H' => if b = true then itM X A [] [] H' k else k false H'
  intro pins s σ u v I rx ry
  refine wpAny_mono (h pins s σ u v I rx ry) (fun b s' z => ?_) fun _ _ z => z
  obtain ⟨H', I', q⟩ := z
  refine ⟨H', I', ?_⟩
  cases b with
  | true => exact q
  | false => exact q
theorem due_cmp {X : Cx} {mg' : Str → Option Value} (T : Txt X.K mg') {nU nT : Nat} (G_U : FnOk X.prog X.w X.K X.mg X.base CX0 nU T.a_Unlike_eq T.d_Unlike_eq ["self", "other"] (sp_ueq T.c_Unlike X.K)) (G_T : FnOk X.prog X.w X.K X.mg X.base CX0 nT T.a_Table_eq T.d_Table_eq ["self", "other"] (sp_teq T.c_Columns T.c_Table X.K)) (hU : Room (nU + 2) X.A) (hT : Room (nT + 1) X.A)
    {H : Hp} {k : Kn} {r r' : List Int} {n n' : Int} {due one late two : Addr} {ds ds' : List Addr} (h : Ev T H k r n due one ds) (h' : Ev T H k r' n' late two ds') (dis : (r = r' ∧ n = n') ∨ ∀ x ∈ ds, ∀ y ∈ ds', x ≠ y) :
    ∃ xs ys, xs.length = ys.length ∧ SqT X.K H due xs ∧ SqT X.K H late ys ∧ ∀ k' : Bool → Hp → Prop, k' (res k r n r' n') H → itM X X.A.in1 xs ys H k' := by
  have dd : ∀ {x y : Addr}, x ∈ ds → y ∈ ds' → x = y → decide (n = n') = true := fun {x y} hx hy e => dis.elim (fun z => decide_eq_true z.2) (fun z => absurd e (z x hx y hy))
  have dr : ∀ {x y : Addr}, x ∈ ds → y ∈ ds' → x = y → (decide (r = r') && decide (n = n')) = true := fun {x y} hx hy e => dis.elim (fun z => by rw [decide_eq_true z.1, decide_eq_true z.2]; rfl) (fun z => absurd e (z x hx y hy))
  have dq : ∀ {x y : Addr}, x ∈ ds → y ∈ ds' → x = y → decide (r = r') = true := fun {x y} hx hy e => dis.elim (fun z => decide_eq_true z.1) (fun z => absurd e (z x hx y hy))
  have rm := in1_room hU
  cases h with
  | e0 h1 h2 h3 h4 a1 a2 a3 a4 ne =>
    cases h' with
    | e0 g1 g2 g3 g4 b1 b2 b3 b4 ne' =>
      exact ⟨_, _, (by rfl), h3, g3, fun k' q => its_itM rm (.cons (dk_eq (fun z => dr (by simp) (by simp) z) h4 g4 rfl (two_hitsB a3 a4 b3 b4 9)) .nil) (by rw [Bool.and_true]; exact q)⟩
  | e1 h1 h2 h3 h4 a1 a2 a3 a4 ne =>
    cases h' with
    | e1 g1 g2 g3 g4 b1 b2 b3 b4 ne' =>
      have e := atom (K := X.K) (H := H) (.int n) (.int n') rfl rfl 10
      rw [eqv_int] at e
      refine ⟨_, _, (by rfl), h3, g3, fun k' q => its_itM rm (.cons e (.cons (dk_eq (fun z => dq (by simp) (by simp) z) h4 g4 rfl (one_hit a2 b2 9)) (.cons (b := true) (atom a3 b3 rfl rfl 10) .nil))) ?_⟩
      have z : (decide (n = n') && (decide (r = r') && (true && true))) = res .n1 r n r' n' := by
        show _ = (decide (r = r') && decide (n = n'))
        rw [Bool.and_comm]
        simp
      rw [z]
      exact q
  | e2 h1 h2 h3 h4 a1 a3 a4 =>
    cases h' with
    | e2 g1 g2 g3 g4 b1 b3 b4 =>
      refine ⟨_, _, (by rfl), h3, g3, fun k' q => ?_⟩
      have last : itM X X.A.in1 [_] [_] H k' := itM_pure2 (cmp_pure (n := 10) (atom a3 b3 rfl rfl 10) rm (by rw [eqv_two]; exact q))
      rename_i tb col c c' xs dx' tb' col' c2 c2' xs'
      have cmpT : ∀ k2 : Bool → Hp → Prop, k2 (decide (n = n')) H → CmpM X X.A.in1 (.ref tb) (.ref tb') H k2 := fun k2 q2 => by
        by_cases e : tb = tb'
        · have := dd (by simp) (by simp) e
          rw [this] at q2
          subst e
          exact cmp_pure (eq_self 9) rm q2
        · have i1 := h2
          have i2 := g2
          obtain ⟨x1, u1, i1, _⟩ := i1
          obtain ⟨x2, u2, i2, _⟩ := i2
          refine cmp_own (dy := x2) (gs := []) G_T T.q_Table_eq.at_ T.q_Table_eq.fn T.b_Table_eq pass0 (Room.in1 hT) rfl e i1 (T.ty_Table i2) (nf_self _) ⟨tb, tb', _, _, [], [], [], [], [], _, _, _, _, rfl, h2, g2, h4, g4, cols_none, cols_none, a1, b1, rfl, rfl, _, rfl, ?_⟩
          have ee : ((decide (([] : List Str) = []) && decide (([] : List Str) = [])) && PyData.eqvAll [PyData.tuple [.int n, .tuple [], .tuple [], .tuple []]] [.tuple [.int n', .tuple [], .tuple [], .tuple []]]) = decide (n = n') := by
            rw [eqv_row]
            simp
          rw [ee]
          exact q2
      refine cmpT _ ?_
      cases e : decide (n = n') with
      | true => exact last
      | false =>
        have q : k' (decide (n = n')) H := q
        rw [e] at q
        exact q
  | e3 h1 h2 h3 h4 a1 a2 a3 a4 a5 a6 ne =>
    cases h' with
    | e3 g1 g2 g3 g4 b1 b2 b3 b4 b5 b6 ne' =>
      have e := atom a5 b5 (shaped_rD _) (shaped_rD _) 10
      rw [eqv_rD] at e
      refine ⟨_, _, (by rfl), h3, g3, fun k' q => its_itM rm (.cons e (.cons (dt_eq (fun z => dd (by simp) (by simp) z) h4 g4 rfl (dr_hits a3 a4 b3 b4 9).2.1) .nil)) ?_⟩
      rw [Bool.and_true]
      exact q
  | e4 h1 h2 h3 h4 a1 ne =>
    cases h' with
    | e4 g1 g2 g3 g4 b1 ne' =>
      refine ⟨_, _, (by rfl), h3, g3, fun k' q => ?_⟩
      have e := atom (K := X.K) (H := H) (.int n) (.int n') rfl rfl 10
      rw [eqv_int] at e
      refine cmp_pure e rm ?_
      by_cases en : n = n'
      · subst en
        have q : k' true H := by
          have z : res .n4 r n r' n = true := decide_eq_true rfl
          rw [z] at q
          exact q
        rw [decide_eq_true rfl]
        show itM X X.A.in1 (.non :: _) (.non :: _) H k'
        refine cmp_pure (b := true) (n := 10) (atom .non .non rfl rfl 10) rm ?_
        show itM X X.A.in1 [_] [_] H k'
        refine itM_pure2 ?_
        rename_i dx m d U dx' m' d' U' _
        by_cases eU : U = U'
        · subst eU
          exact cmp_pure (b := true) (n := 10) (dk_eq (b := true) (fun _ => rfl) h4 g4 rfl (.hit (b := true) (c := true) (valV_pos rfl) (eq_self 8) .nil)) rm q
        · have nd : d ≠ d' := fun z => by
            rw [z, g4] at h4
            injection h4 with h4
            injection h4 with h4
            injection h4 with h4
            injection h4 with _ h4
            injection h4 with h4
            exact eU h4.symm
          refine cmp_dk1 nd (by have := hU.un; show X.A.units + 1 < cLine; omega) h4 g4 fun o => ?_
          have v1 := a1.dict (o := .frz o (.dK [(.inl n, .ref U)])) h4
          have v2 := b1.dict (o := .frz o (.dK [(.inl n, .ref U)])) h4
          have v1' := v1
          have v2' := v2
          obtain ⟨d1, _, _, _, _, i1, _⟩ := v1'
          obtain ⟨d2, _, _, _, _, i2, _⟩ := v2'
          refine cmp_own (dy := d2) (gs := []) G_U T.q_Unlike_eq.at_ T.q_Unlike_eq.fn T.b_Unlike_eq pass0 (Room.in1 (Room.in1 hU)) rfl eU i1 (T.ty_Unlike i2) (nf_self _) (v1.eq v2 ⟨true, rfl, upd_same, ?_⟩)
          rw [upd_self h4]
          exact q
      · have q : k' false H := by
          have z : res .n4 r n r' n' = false := decide_eq_false en
          rw [z] at q
          exact q
        rw [decide_eq_false en]
        exact q
  | e5 h1 h2 h3 h4 h5 h6 h7 h8 a1 a2 ne ne2 ne3 =>
    cases h' with
    | e5 g1 g2 g3 g4 g5 g6 g7 g8 b1 b2 ne' ne2' ne3' =>
      refine ⟨_, _, (by rfl), h3, g3, fun k' q => its_itM rm (.cons (dk_eq (b := true) (fun _ => rfl) h4 g4 rfl (int_hits 9)) (.cons (tup_eq (fun z => dd (by simp) (by simp) z) (SqT.of h7) (SqT.of g7) (ent_its h8 g8 a2 b2 (fun z => dd (by simp) (by simp) z) 8)) .nil)) ?_⟩
      rw [Bool.and_true, Bool.true_and]
      exact q
  | e6 h1 h2 h3 h4 h5 h6 h7 h8 h9 h10 a1 a2 a3 a4 a5 a6 a7 a8 ne ne2 ne3 ne4 =>
    cases h' with
    | e6 g1 g2 g3 g4 g5 g6 g7 g8 g9 g10 b1 b2 b3 b4 b5 b6 b7 b8 ne' ne2' ne3' ne4' =>
      refine ⟨_, _, (by rfl), h3, g3, fun k' q => its_itM rm (.cons (dk_eq (b := true) (fun _ => rfl) h4 g4 rfl (w_hits a3 a4 b3 b4 9)) (.cons (tup_eq (fun z => dd (by simp) (by simp) z) (SqT.of h8) (SqT.of g8) (fun_its (SqT.of h9) h10 (SqT.of g9) g10 a6 b6 a8 b8 (fun z => dd (by simp) (by simp) z) (fun z => dd (by simp) (by simp) z) 7)) .nil)) ?_⟩
      rw [Bool.and_true, Bool.true_and]
      exact q

end
end My
set_option Elab.async false
set_option linter.all false
set_option maxRecDepth 100000
set_option maxHeartbeats 400000
namespace My
open PySem L2 PySem.Spec PyProof.Rows
section
variable {P : Program} {w : World} {K : PySem.W.Frag} {mg : Str → Option Value} {base : Heap}
def sp_told (T : Txt K mg) : Sp := fun vs H Q _ => ∃ (k : Kn) (one : Addr) (xs : List V), vs = [.int k.v, .ref one] ∧ fldsAt T H k one xs ∧ ∀ t, H t = none → Q (.ref t) (upd H t (.tup xs))
theorem ok__law_told (T : Txt K mg) : FnOk P w K mg base CX0 1 T.a__law_told T.d__law_told ["kind", "one"] (sp_told T) := by
  refine T.F__law_told.ok sc__law_told (fun vs H Q E h => ?_) (fun cdv A outer s H vs Q E hr h => ?_)
  · obtain ⟨k, one, xs, rfl, _⟩ := h
    rfl
  obtain ⟨k, one, xs, rfl, fl, q⟩ := h
  refine ⟨_, (pss_cons (ps_if (pt_cmpR op_eq (pv 0) pe_int (nomark _)) (pss_one (ps_ret (pe_tup (pa_cons (pe_fld (pv 1) rfl) pa_nil)))) pss_nil)
    (pss_cons (ps_if (pt_cmpR op_eq (pv 0) pe_int (nomark _)) (pss_one (ps_ret (pe_tup (pa_cons (pe_fld (pv 1) rfl) (pa_cons (pe_fld (pv 1) rfl) (pa_cons (pe_fld (pv 1) rfl) pa_nil)))))) pss_nil)
    (pss_cons (ps_if (pt_cmpR op_eq (pv 0) pe_int (nomark _)) (pss_one (ps_ret (pe_tup (pa_cons (pe_fld (pv 1) rfl) (pa_cons (pe_fld (pv 1) rfl) pa_nil))))) pss_nil)
    (pss_cons (ps_if (pt_cmpR op_eq (pv 0) pe_int (nomark _)) (pss_one (ps_ret (pe_tup (pa_cons (pe_fld (pv 1) rfl) (pa_cons (pe_fld (pv 1) rfl) pa_nil))))) pss_nil)
    (pss_cons (ps_if (pt_cmpR op_eq (pv 0) pe_int (nomark _)) (pss_one (ps_ret (pe_tup (pa_cons (pe_fld (pv 1) rfl) (pa_cons (pe_fld (pv 1) rfl) (pa_cons (pe_fld (pv 1) rfl) pa_nil)))))) pss_nil)
    (pss_one (ps_ret (pe_ifExp (pt_cmpR op_eq (pv 0) pe_int (nomark _)) (pe_tup (pa_cons (pe_fld (pv 1) rfl) (pa_cons (pe_fld (pv 1) rfl) pa_nil))) (pe_tup (pa_cons (pe_fld (pv 1) rfl) (pa_cons (pe_fld (pv 1) rfl) pa_nil))))))))))), ?_⟩
  have eqs : ∀ {a b : Str} {r : Bool}, (a == b) = r → (a == b) = r := id
  cases k with
  | n0 =>
    obtain ⟨dx, a, h, rfl⟩ := fl
    exact ⟨_, rfl, rfl, _, rfl, iteT ⟨_, rfl, one, _, dx, _, _, rfl, h, T.cl_Same, T.n_Same_maps, look_head, (by show 1 ≤ sizeLine; decide), q⟩⟩
  | n1 =>
    obtain ⟨dx, a, b, c, h, rfl⟩ := fl
    exact ⟨_, rfl, rfl, _, rfl, iteF ⟨_, rfl, rfl, _, rfl, iteT ⟨_, rfl, one, _, dx, _, _, rfl, h, T.cl_Unlike, T.n_Unlike_which, look_head, _, rfl, one, _, dx, _, _, rfl, h, T.cl_Unlike, T.n_Unlike_chosen, (lk3b (by decide +kernel)), _, rfl, one, _, dx, _, _, rfl, h, T.cl_Unlike, T.n_Unlike_chances, (lk3c (by decide +kernel) (by decide +kernel)), (by show 3 ≤ sizeLine; decide), q⟩⟩⟩
  | n2 =>
    obtain ⟨dx, a, b, h, rfl⟩ := fl
    exact ⟨_, rfl, rfl, _, rfl, iteF ⟨_, rfl, rfl, _, rfl, iteF ⟨_, rfl, rfl, _, rfl, iteT ⟨_, rfl, one, _, dx, _, _, rfl, h, T.cl_Apart, T.n_Apart_table, look_head, _, rfl, one, _, dx, _, _, rfl, h, T.cl_Apart, T.n_Apart_chances, (lk2 (by decide +kernel)), (by show 2 ≤ sizeLine; decide), q⟩⟩⟩⟩
  | n3 =>
    obtain ⟨dx, a, b, h, rfl⟩ := fl
    exact ⟨_, rfl, rfl, _, rfl, iteF ⟨_, rfl, rfl, _, rfl, iteF ⟨_, rfl, rfl, _, rfl, iteF ⟨_, rfl, rfl, _, rfl, iteT ⟨_, rfl, one, _, dx, _, _, rfl, h, T.cl_Outside, T.n_Outside_row, look_head, _, rfl, one, _, dx, _, _, rfl, h, T.cl_Outside, T.n_Outside_draws, (lk2 (by decide +kernel)), (by show 2 ≤ sizeLine; decide), q⟩⟩⟩⟩⟩
  | n4 =>
    obtain ⟨dx, a, b, c, h, rfl⟩ := fl
    exact ⟨_, rfl, rfl, _, rfl, iteF ⟨_, rfl, rfl, _, rfl, iteF ⟨_, rfl, rfl, _, rfl, iteF ⟨_, rfl, rfl, _, rfl, iteF ⟨_, rfl, rfl, _, rfl, iteT ⟨_, rfl, one, _, dx, _, _, rfl, h, T.cl_Cheapest, T.n_Cheapest_number, look_head, _, rfl, one, _, dx, _, _, rfl, h, T.cl_Cheapest, T.n_Cheapest_paper, (lk3b (by decide +kernel)), _, rfl, one, _, dx, _, _, rfl, h, T.cl_Cheapest, T.n_Cheapest_against, (lk3c (by decide +kernel) (by decide +kernel)), (by show 3 ≤ sizeLine; decide), q⟩⟩⟩⟩⟩⟩
  | n5 =>
    obtain ⟨dx, a, b, h, rfl⟩ := fl
    exact ⟨_, rfl, rfl, _, rfl, iteF ⟨_, rfl, rfl, _, rfl, iteF ⟨_, rfl, rfl, _, rfl, iteF ⟨_, rfl, rfl, _, rfl, iteF ⟨_, rfl, rfl, _, rfl, iteF ⟨_, rfl, rfl, _, rfl, iteT ⟨_, rfl, one, _, dx, _, _, rfl, h, T.cl_Array, T.n_Array_sizes, look_head, _, rfl, one, _, dx, _, _, rfl, h, T.cl_Array, T.n_Array_entries, (lk2 (by decide +kernel)), (by show 2 ≤ sizeLine; decide), q⟩⟩⟩⟩⟩⟩⟩
  | n6 =>
    obtain ⟨dx, a, b, h, rfl⟩ := fl
    exact ⟨_, rfl, rfl, _, rfl, iteF ⟨_, rfl, rfl, _, rfl, iteF ⟨_, rfl, rfl, _, rfl, iteF ⟨_, rfl, rfl, _, rfl, iteF ⟨_, rfl, rfl, _, rfl, iteF ⟨_, rfl, rfl, _, rfl, iteF ⟨_, rfl, one, _, dx, _, _, rfl, h, T.cl_Kernel, T.n_Kernel_weights, look_head, _, rfl, one, _, dx, _, _, rfl, h, T.cl_Kernel, T.n_Kernel_functions, (lk2 (by decide +kernel)), (by show 2 ≤ sizeLine; decide), q⟩⟩⟩⟩⟩⟩⟩

end
end My
set_option Elab.async false
set_option linter.all false
set_option maxRecDepth 100000
set_option maxHeartbeats 400000
namespace My
open PySem L2 PySem.Spec PyProof.Rows
section
variable {P : Program} {w : World} {K : PySem.W.Frag} {mg : Str → Option Value} {base : Heap}
/-! ### what the law makes: seven kinds -/
mutual
def noL : PyData → Bool
  | .tuple ds => noLs ds
  | .list _ => false
  | .dict _ => false
  | .none => true
  | .bool _ => true
  | .int _ => true
  | .str _ => true
def noLs : List PyData → Bool
  | [] => true
  | d :: ds => noL d && noLs ds
end
mutual
/-- data without lists hang on the tuples alone -/
theorem dp_tups {K : PySem.W.Frag} {H H' : Hp} (e : ∀ a xs, SqT K H a xs → SqT K H' a xs) : ∀ (d : PyData) (v : V), noL d = true → Dp K H v d → Dp K H' v d
  | .none, _, _, h => by cases h; exact .non
  | .bool b, _, _, h => by cases h; exact .bl b
  | .int i, _, _, h => by cases h; exact .int i
  | .str s, _, _, h => by cases h; exact .str s
  | .dict _, _, n, _ => by cases n
  | .list _, _, n, _ => by cases n
  | .tuple ds, _, n, h => by
    cases h with
    | tup hs ha => exact .tup (e _ _ hs) (dps_tups e ds _ n ha)
theorem dps_tups {K : PySem.W.Frag} {H H' : Hp} (e : ∀ a xs, SqT K H a xs → SqT K H' a xs) : ∀ (ds : List PyData) (vs : List V), noLs ds = true → DpAll K H vs ds → DpAll K H' vs ds
  | [], _, _, h => by cases h; exact .nil
  | d :: ds, _, n, h => by
    have n' : (noL d && noLs ds) = true := n
    rw [Bool.and_eq_true] at n'
    cases h with
    | cons a b => exact .cons (dp_tups e d _ n'.1 a) (dps_tups e ds _ n'.2 b)
end
theorem dps_insT {x C dx : Addr} {fs : List (Str × V)} {H H' : Hp} (e : H x = some (.ins C dx fs)) (b : But x H H') {vs : List V} {ds : List PyData} (n : noLs ds = true) (h : DpAll K H vs ds) : DpAll K H' vs ds := by
  have st : ∀ {a : Addr} {u : HO}, (u ≠ .ins C dx fs) → H a = some u → H' a = some u := fun {a u} n z => b a u (ne_of z e n) z
  refine dps_tups (fun a xs h => ?_) ds vs n h
  rcases h with (h | ⟨q, h⟩) | h
  · exact .inl (.inl (st (fun z => by cases z) h))
  · exact .inl (.inr ⟨q, st (fun z => by cases z) h⟩)
  · exact .inr h
theorem kvs_nil : KvsOk [] := ⟨List.nodup_nil, (fun _ h => by cases h), (fun _ h => by cases h), Nat.zero_le _⟩
theorem sortA_nil : sortA (asA (.dic [])) = [] := by
  show sortA [] = []
  unfold sortA sortS
  simp
theorem wrong_nil : wrongR (.seq []) (.dic []) (.seq []) = none := rfl
theorem row_ok (n : Int) : RowsOk (.seq [.tuple [.int n, .tuple [], .tuple [], .tuple []]]) := fun d hd ds e x hx y ey => by
  rw [List.mem_singleton.mp hd] at e
  cases e
  simp only [List.mem_cons, List.not_mem_nil, or_false] at hx
  rcases hx with rfl | rfl | rfl | rfl <;> cases ey <;> exact Nat.zero_le _
theorem tab_nil (n : Int) (h0 : 0 ≤ n) (h2 : n < 2) : tabR ([] : List Str).length (([] : List (Str × Bool)).map Prod.snd) ([] : List Str).length (.seq [.tuple [.int n, .tuple [], .tuple [], .tuple []]]) = none := by
  have e : rowD 0 [] 0 (.tuple [.int n, .tuple [], .tuple [], .tuple []]) = true := by
    have a : (decide (0 ≤ n) && decide (n ≤ 1000000)) = true := by
      rw [decide_eq_true h0, decide_eq_true (by omega)]
      rfl
    show ((decide (0 ≤ n) && decide (n ≤ 1000000)) && (numsD 0 (.tuple []) && (valuesD [] (.tuple []) && numsD 0 (.tuple [])))) = true
    rw [a]
    rfl
  show (if 60 < 1 then some none else (firstBad (rowD 0 [] 0) 0 [_]).map some) = none
  rw [if_neg (by decide)]
  show (if rowD 0 [] 0 _ = true then none else some 0).map some = none
  rw [if_pos e]
  rfl
def dels (D : List Addr) (H : Hp) : Hp := fun b => if b ∈ D then none else H b
theorem dels_in {D : List Addr} {H : Hp} {a : Addr} {o : HO} (h : dels D H a = some o) : a ∉ D ∧ H a = some o := by
  unfold dels at h
  by_cases c : a ∈ D
  · rw [if_pos c] at h
    cases h
  · rw [if_neg c] at h
    exact ⟨c, h⟩
theorem dels_at {D : List Addr} {H : Hp} {a : Addr} {o : HO} (n : a ∉ D) (h : H a = some o) : dels D H a = some o := by
  unfold dels
  rw [if_neg n]
  exact h
theorem drw_ne {H : Hp} {d p : Addr} (hD : Drw K H d) (h : H p = none) : p ≠ d := fun z => by
  obtain ⟨_, _, _, h1, _⟩ := hD
  rw [z, h1] at h
  cases h
theorem dels_same {D : List Addr} {H H' : Hp} (g : Same H H') : Same (dels D H) (dels D H') := fun b o h => dels_at (dels_in h).1 (g _ _ (dels_in h).2)
theorem dels_sub {D : List Addr} {H : Hp} : Same (dels D H) H := fun b o h => (dels_in h).2
def PartAt (H : Hp) (p : Addr) : Prop := (∃ kvs : List (Key × V), H p = some (.dK kvs) ∧ kvs.length ≤ 15) ∨ ∃ kvs : List (List Key × V), H p = some (.dT kvs) ∧ kvs ≠ [] ∧ kvs.length ≤ 15 ∧ ∀ kv ∈ kvs, SeqAt.shaped (.tuple (kv.1.map keyP)) = true
theorem merge1 {k : Key} {x : V} : mergeK [] [(k, x)] = [(k, x)] := rfl
theorem merge2 {k l : Key} {x y : V} (n : k ≠ l) : mergeK [] [(k, x), (l, y)] = [(k, x), (l, y)] := by
  show putK (putK [] k x) l y = _
  have e : putK [] k x = [(k, x)] := rfl
  rw [e, putK_end]
  · rfl
  · intro z
    exact n (List.mem_singleton.mp z).symm
theorem made_same {H H' : Hp} {x dx C : Addr} (hx : H x = none) (hdx : H dx = none) (b : But x (upd (upd H dx (.own x)) x (.ins C dx [])) H') : Same H H' := fun c o h => b c o (ne_of_none h hx) (by
  rw [upd_ne (ne_of_none h hx), upd_ne (ne_of_none h hdx)]
  exact h)
theorem made_start {H : Hp} {x dx C : Addr} (hx : H x = none) (hdx : H dx = none) : Same H (upd (upd H dx (.own x)) x (.ins C dx [])) := fun c o h => by
  rw [upd_ne (ne_of_none h hx), upd_ne (ne_of_none h hdx)]
  exact h
def sp_made (T : Txt K mg) : Sp := fun vs H Q _ => ∃ (d : Addr) (k : Kn), vs = [.ref d, .int k.v] ∧ Drw K H d ∧ ∀ (t part due one : Addr) (r : List Int) (n : Int) (ds : List Addr) (H' : Hp), But d H H' → Drw K H' d → H' t = some (.tup [.ref part, .ref due, .ref one]) → PartAt H' part → H part = none → part ≠ d → Ev T (dels [d, part] H') k r n due one ds → (∀ x ∈ ds, H x = none) → Q (.ref t) H'
/-- a part of what is made behind d and p -/
theorem off_dp {H : Hp} {d p x : Addr} {o : HO} (hD : Drw K H d) (hx : H x = some o) (n : ∀ ys, o ≠ .lst ys) (np : x ≠ p) : dels [d, p] H x = some o := by
  obtain ⟨a, ns, i, h1, _⟩ := hD
  refine dels_at (fun z => ?_) hx
  rcases List.mem_cons.mp z with z | z
  · rw [z, h1] at hx
    exact n _ (Option.some.inj hx).symm
  · exact np (List.mem_singleton.mp z)
theorem off_tup {H : Hp} {d p x : Addr} {xs : List V} (hD : Drw K H d) (hp : PartAt H p) (hx : SqT K H x xs) : SqT K (dels [d, p] H) x xs := by
  have np : ∀ o, H x = some o → (∀ kvs, o ≠ .dK kvs) → (∀ kvs, o ≠ .dT kvs) → x ≠ p := fun o h n1 n2 z => by
    rcases hp with ⟨kvs, e, _⟩ | ⟨kvs, e, _⟩
    · rw [z, e] at h
      exact n1 _ (Option.some.inj h).symm
    · rw [z, e] at h
      exact n2 _ (Option.some.inj h).symm
  rcases hx with (h | ⟨q, h⟩) | h
  · exact .inl (.inl (off_dp hD h (fun _ z => by cases z) (np _ h (fun _ z => by cases z) (fun _ z => by cases z))))
  · exact .inl (.inr ⟨q, off_dp hD h (fun _ z => by cases z) (np _ h (fun _ z => by cases z) (fun _ z => by cases z))⟩)
  · exact .inr h
theorem off_tup_at {H : Hp} {d p x : Addr} {xs : List V} (hD : Drw K H d) (hp : PartAt H p) (hx : H x = some (.tup xs)) : dels [d, p] H x = some (.tup xs) := by
  refine off_dp hD hx (fun _ z => by cases z) fun z => ?_
  rcases hp with ⟨kvs, e, _⟩ | ⟨kvs, e, _⟩
  · rw [z, e] at hx
    cases hx
  · rw [z, e] at hx
    cases hx
theorem PartAt.same {H H' : Hp} {p : Addr} (g : Same H H') (h : PartAt H p) : PartAt H' p := by
  rcases h with ⟨kvs, e, l⟩ | ⟨kvs, e, l⟩
  · exact .inl ⟨kvs, g _ _ e, l⟩
  · exact .inr ⟨kvs, g _ _ e, l⟩
theorem dp_rD {H : Hp} {a : Addr} {r : List Int} (h : SqT K H a (r.map V.int)) : Dp K H (.ref a) (rD r) := .tup h (dp_ints r)
theorem bk_nd {x y : V} : ([(kKey, x), (kBlock, y)].map Prod.fst).Nodup := by
  rw [List.map_cons, List.nodup_cons]
  exact ⟨fun z => bk_ne (List.mem_singleton.mp z).symm, by simp⟩
theorem sh_keys {x y : V} : ∀ kv ∈ [(kRS, x), (kBS, y)], SeqAt.shaped (.tuple (kv.1.map keyP)) = true := fun kv h => by
  simp only [List.mem_cons, List.not_mem_nil, or_false] at h
  rcases h with rfl | rfl
  · show SeqAt.shaped (.tuple (kRS.map keyP)) = true
    decide +kernel
  · show SeqAt.shaped (.tuple (kBS.map keyP)) = true
    decide +kernel
theorem un_put {C : Addr} {H : Hp} {U m : Addr} {u o : HO} (hm : H m = some u) (n : ∀ q, H q = some (.dK []) → q ≠ m) (h : UnF C K H U) (n1 : ∀ C dx fs, u ≠ .ins C dx fs) (n2 : ∀ xs, u ≠ .tup xs) (n3 : ∀ q xs, u ≠ .frz q (.tup xs)) : UnF C K (upd H m o) U := by
  obtain ⟨dx, q, t, t1, t2, h1, h2, h3, h4, h5⟩ := h
  refine ⟨dx, q, t, t1, t2, ?_, ?_, sqt_dict hm n2 n3 h3, sqt_dict hm n2 n3 h4, sqt_dict hm n2 n3 h5⟩
  · rw [upd_ne (ne_of h1 hm (fun z => n1 _ _ _ z.symm))]
    exact h1
  · rw [upd_ne (n q h2)]
    exact h2
theorem ok__law_made (T : Txt K mg) : FnOk P w K mg base CX0 9 T.a__law_made T.d__law_made ["draw", "kind"] (sp_made T) := by
  have G__law_take := ok__law_take (P := P) (w := w) (base := base) T
  have G_Table_init := ok_Table_init (P := P) (w := w) (base := base) T
  have G_Kernel_init := ok_Kernel_init (P := P) (w := w) (base := base) T
  have G_Same_init := ok_Same_init (P := P) (w := w) (base := base) T
  have G_Unlike_init := ok_Unlike_init (P := P) (w := w) (base := base) T
  have G_Columns_init := ok_Columns_init (P := P) (w := w) (base := base) T
  have G_Apart_init := ok_Apart_init (P := P) (w := w) (base := base) T
  have G_Outside_init := ok_Outside_init (P := P) (w := w) (base := base) T
  have G_Cheapest_init := ok_Cheapest_init (P := P) (w := w) (base := base) T
  have G_Array_init := ok_Array_init (P := P) (w := w) (base := base) T
  refine T.F__law_made.ok sc__law_made (fun vs H Q E h => ?_) (fun cdv A outer s H vs Q E hr h => ?_)
  · obtain ⟨d, k, rfl, _⟩ := h
    rfl
  obtain ⟨d, k, rfl, hD0, q⟩ := h
  refine ⟨_, (pss_cons (ps_par (i := 2) (j := 3) rfl sc__law_made.nd rfl rfl (by decide) rfl rfl (pa_cons (pe_lc (own := [("turn", 4)]) rfl sc__law_made.nd (pi_range1 (by rfl) T.z_range (pa_cons (pe_op op_add pe_int (pe_call G__law_take (hr.mono (by first | decide | omega)) (by rfl) T.m__law_take T.F__law_take.kp T.b__law_take .nil pass0 (pa_cons (pv 0) (pa_cons pe_int pa_nil)))) pa_nil)) (blkOk_by (own := [("turn", 4)]) (N := ["draw", "kind", "row", "number", "turn", "maps", "chosen", "table", "draws", "against", "sizes", "weights", "functions"]) (sc := defScope s__law_made) (by decide +kernel)) (fun _ _ _ _ _ => (pg_name (i := 4) sc__law_made.nd rfl (by first | exact Or.inl rfl | exact Or.inr rfl))) (fun _ _ _ _ _ => pts_nil) (fun _ _ _ _ _ => (pe_call G__law_take (hr.mono (by first | decide | omega)) (by rfl) T.m__law_take T.F__law_take.kp T.b__law_take .nil pass0 (pa_cons (pv 0) (pa_cons pe_int pa_nil))))) (pa_cons (pe_call G__law_take (hr.mono (by first | decide | omega)) (by rfl) T.m__law_take T.F__law_take.kp T.b__law_take .nil pass0 (pa_cons (pv 0) (pa_cons pe_int pa_nil))) pa_nil)) (by rfl))
    (pss_cons (ps_if (pt_cmpR op_eq (pv 1) pe_int (nomark _)) (pss_cons (ps_set (i := 5) sc__law_made.nd rfl (by first | exact Or.inl rfl | exact Or.inr rfl) (pe_disp (pps_cons pe_str (pe_callTy call_tuple_of (by rfl) T.z_tuple (by decide +kernel) (pa_cons (pv 2) pa_nil)) (pps_cons pe_str (pe_tup (pa_cons (pv 3) pa_nil)) pps_nil)) rfl rfl (List.cons_ne_nil _ _) (by decide)))
    (pss_one (ps_ret (pe_tup (pa_cons (pv 5) (pa_cons (pe_tup (pa_cons (pe_disp (pps_cons pe_str (pe_tup (pa_cons (pv 3) pa_nil)) (pps_cons pe_str (pe_callTy call_tuple_of (by rfl) T.z_tuple (by decide +kernel) (pa_cons (pv 2) pa_nil)) pps_nil)) rfl rfl (List.cons_ne_nil _ _) (by decide)) pa_nil)) (pa_cons (pe_make T.mk_Same G_Same_init (hr.mono (by first | decide | omega)) (by rfl) T.m_Same T.b_Same_init .nil pass0 (pa_cons (pv 5) pa_nil)) pa_nil))))))) pss_nil)
    (pss_cons (ps_if (pt_cmpR op_eq (pv 1) pe_int (nomark _)) (pss_cons (ps_set (i := 6) sc__law_made.nd rfl (by first | exact Or.inl rfl | exact Or.inr rfl) (pe_disp (pps_cons pe_str (pe_callTy call_tuple_of (by rfl) T.z_tuple (by decide +kernel) (pa_cons (pv 2) pa_nil)) pps_nil) rfl rfl (List.cons_ne_nil _ _) (by decide)))
    (pss_one (ps_ret (pe_tup (pa_cons (pv 6) (pa_cons (pe_tup (pa_cons (pv 3) (pa_cons (pe_disp (pps_cons pe_str (pe_callTy call_tuple_of (by rfl) T.z_tuple (by decide +kernel) (pa_cons (pv 2) pa_nil)) pps_nil) rfl rfl (List.cons_ne_nil _ _) (by decide)) (pa_cons (pe_tup (pa_cons (pe_tup (pa_cons pe_int (pa_cons pe_int pa_nil))) (pa_cons (pe_tup (pa_cons pe_int (pa_cons pe_int pa_nil))) pa_nil))) pa_nil)))) (pa_cons (pe_make T.mk_Unlike G_Unlike_init (hr.mono (by first | decide | omega)) (by rfl) T.m_Unlike T.b_Unlike_init .nil pass0 (pa_cons (pv 3) (pa_cons (pv 6) (pa_cons (pe_tup (pa_cons (pe_tup (pa_cons pe_int (pa_cons pe_int pa_nil))) (pa_cons (pe_tup (pa_cons pe_int (pa_cons pe_int pa_nil))) pa_nil))) pa_nil)))) pa_nil))))))) pss_nil)
    (pss_cons (ps_if (pt_cmpR op_eq (pv 1) pe_int (nomark _)) (pss_cons (ps_set (i := 7) sc__law_made.nd rfl (by first | exact Or.inl rfl | exact Or.inr rfl) (pe_make T.mk_Table G_Table_init (hr.mono (by first | decide | omega)) (by rfl) T.m_Table T.b_Table_init .nil L2.passL (pa_cons (pe_make T.mk_Columns G_Columns_init (hr.mono (by first | decide | omega)) (by rfl) T.m_Columns T.b_Columns_init .nil L2.passL (pa_cons (pe_tup pa_nil) (pa_cons pe_dnewK (pa_cons (pe_tup pa_nil) pa_nil)))) (pa_cons (pe_lst (pa_cons (pe_tup (pa_cons (pv 3) (pa_cons (pe_tup pa_nil) (pa_cons (pe_tup pa_nil) (pa_cons (pe_tup pa_nil) pa_nil))))) pa_nil)) pa_nil))))
    (pss_one (ps_ret (pe_tup (pa_cons pe_dnewK (pa_cons (pe_tup (pa_cons (pv 7) (pa_cons (pe_tup (pa_cons (pe_tup (pa_cons (pv 3) (pa_cons pe_int pa_nil))) (pa_cons (pe_tup (pa_cons pe_int (pa_cons pe_int pa_nil))) pa_nil))) pa_nil))) (pa_cons (pe_make T.mk_Apart G_Apart_init (hr.mono (by first | decide | omega)) (by rfl) T.m_Apart T.b_Apart_init .nil pass0 (pa_cons (pv 7) (pa_cons (pe_tup (pa_cons (pe_tup (pa_cons (pv 3) (pa_cons pe_int pa_nil))) (pa_cons (pe_tup (pa_cons pe_int (pa_cons pe_int pa_nil))) pa_nil))) pa_nil))) pa_nil))))))) pss_nil)
    (pss_cons (ps_if (pt_cmpR op_eq (pv 1) pe_int (nomark _)) (pss_cons (ps_set (i := 8) sc__law_made.nd rfl (by first | exact Or.inl rfl | exact Or.inr rfl) (pe_dispT (hu64' hr) (pps_cons (pe_tup (pa_cons pe_str (pa_cons pe_str pa_nil))) (pe_tup (pa_cons (pv 3) (pa_cons pe_int pa_nil))) (pps_cons (pe_tup (pa_cons pe_str (pa_cons pe_str pa_nil))) (pe_tup (pa_cons pe_int (pa_cons pe_int pa_nil))) pps_nil)) rfl rfl (List.cons_ne_nil _ _) (by decide)))
    (pss_one (ps_ret (pe_tup (pa_cons (pv 8) (pa_cons (pe_tup (pa_cons (pe_callTy call_tuple_of (by rfl) T.z_tuple (by decide +kernel) (pa_cons (pv 2) pa_nil)) (pa_cons (pe_dispT (hu64' hr) (pps_cons (pe_tup (pa_cons pe_str (pa_cons pe_str pa_nil))) (pe_tup (pa_cons pe_int (pa_cons pe_int pa_nil))) (pps_cons (pe_tup (pa_cons pe_str (pa_cons pe_str pa_nil))) (pe_tup (pa_cons (pv 3) (pa_cons pe_int pa_nil))) pps_nil)) rfl rfl (List.cons_ne_nil _ _) (by decide)) pa_nil))) (pa_cons (pe_make T.mk_Outside G_Outside_init (hr.mono (by first | decide | omega)) (by rfl) T.m_Outside T.b_Outside_init .nil pass0 (pa_cons (pv 2) (pa_cons (pv 8) pa_nil))) pa_nil))))))) pss_nil)
    (pss_cons (ps_if (pt_cmpR op_eq (pv 1) pe_int (nomark _)) (pss_cons (ps_set (i := 9) sc__law_made.nd rfl (by first | exact Or.inl rfl | exact Or.inr rfl) (pe_disp (pps_cons (pv 3) (pe_make T.mk_Unlike G_Unlike_init (hr.mono (by first | decide | omega)) (by rfl) T.m_Unlike T.b_Unlike_init .nil pass0 (pa_cons pe_int (pa_cons pe_dnewK (pa_cons (pe_tup (pa_cons (pe_tup (pa_cons pe_int (pa_cons pe_int pa_nil))) (pa_cons (pe_tup (pa_cons pe_int (pa_cons pe_int pa_nil))) pa_nil))) pa_nil)))) pps_nil) rfl rfl (List.cons_ne_nil _ _) (by decide)))
    (pss_one (ps_ret (pe_tup (pa_cons (pv 9) (pa_cons (pe_tup (pa_cons (pv 3) (pa_cons pe_non (pa_cons (pe_callTy call_dictD (by rfl) T.z_dict (by decide +kernel) (pa_cons (pv 9) pa_nil)) pa_nil)))) (pa_cons (pe_make T.mk_Cheapest G_Cheapest_init (hr.mono (by first | decide | omega)) (by rfl) T.m_Cheapest T.b_Cheapest_init .nil pass0 (pa_cons (pv 3) (pa_cons pe_non (pa_cons (pv 9) pa_nil)))) pa_nil))))))) pss_nil)
    (pss_cons (ps_if (pt_cmpR op_eq (pv 1) pe_int (nomark _)) (pss_cons (ps_set (i := 10) sc__law_made.nd rfl (by first | exact Or.inl rfl | exact Or.inr rfl) (pe_disp (pps_cons pe_str pe_int (pps_cons pe_str pe_int pps_nil)) rfl rfl (List.cons_ne_nil _ _) (by decide)))
    (pss_one (ps_ret (pe_tup (pa_cons (pv 10) (pa_cons (pe_tup (pa_cons (pe_disp (pps_cons pe_str pe_int (pps_cons pe_str pe_int pps_nil)) rfl rfl (List.cons_ne_nil _ _) (by decide)) (pa_cons (pe_tup (pa_cons (pe_dispT (hu64' hr) (pps_cons (pe_tup (pa_cons pe_int (pa_cons pe_int pa_nil))) (pe_tup (pa_cons pe_int (pa_cons (pe_op op_add pe_int (pv 3)) pa_nil))) pps_nil) rfl rfl (List.cons_ne_nil _ _) (by decide)) pa_nil)) pa_nil))) (pa_cons (pe_make T.mk_Array G_Array_init (hr.mono (by first | decide | omega)) (by rfl) T.m_Array T.b_Array_init .nil pass0 (pa_cons (pv 10) (pa_cons (pe_lst (pa_cons (pe_dispT (hu64' hr) (pps_cons (pe_tup (pa_cons pe_int (pa_cons pe_int pa_nil))) (pe_tup (pa_cons pe_int (pa_cons (pe_op op_add pe_int (pv 3)) pa_nil))) pps_nil) rfl rfl (List.cons_ne_nil _ _) (by decide)) pa_nil)) pa_nil))) pa_nil))))))) pss_nil)
    (pss_cons (ps_set (i := 11) sc__law_made.nd rfl (by first | exact Or.inl rfl | exact Or.inr rfl) (pe_disp (pps_cons pe_str (pe_tup (pa_cons (pe_tup (pa_cons pe_int (pa_cons pe_int pa_nil))) (pa_cons (pe_tup (pa_cons pe_int (pa_cons pe_int pa_nil))) pa_nil))) (pps_cons pe_str (pe_tup (pa_cons (pe_tup (pa_cons pe_int (pa_cons pe_int pa_nil))) pa_nil)) pps_nil)) rfl rfl (List.cons_ne_nil _ _) (by decide)))
    (pss_cons (ps_set (i := 12) sc__law_made.nd rfl (by first | exact Or.inl rfl | exact Or.inr rfl) (pe_lst (pa_cons (pe_tup (pa_cons (pe_tup (pa_cons pe_str pa_nil)) (pa_cons (pe_dispT (hu64' hr) (pps_cons (pe_tup (pa_cons pe_int pa_nil)) (pe_tup (pa_cons (pv 3) (pa_cons pe_int pa_nil))) pps_nil) rfl rfl (List.cons_ne_nil _ _) (by decide)) pa_nil))) pa_nil)))
    (pss_one (ps_ret (pe_tup (pa_cons (pv 11) (pa_cons (pe_tup (pa_cons (pe_disp (pps_cons pe_str (pe_tup (pa_cons (pe_tup (pa_cons pe_int (pa_cons pe_int pa_nil))) pa_nil)) (pps_cons pe_str (pe_tup (pa_cons (pe_tup (pa_cons pe_int (pa_cons pe_int pa_nil))) (pa_cons (pe_tup (pa_cons pe_int (pa_cons pe_int pa_nil))) pa_nil))) pps_nil)) rfl rfl (List.cons_ne_nil _ _) (by decide)) (pa_cons (pe_callTy call_tuple_of (by rfl) T.z_tuple (by decide +kernel) (pa_cons (pv 12) pa_nil)) pa_nil))) (pa_cons (pe_make T.mk_Kernel G_Kernel_init (hr.mono (by first | decide | omega)) (by rfl) T.m_Kernel T.b_Kernel_init .nil pass0 (pa_cons (pv 11) (pa_cons (pv 12) pa_nil))) pa_nil))))))))))))))), ?_⟩
  refine ⟨_, rfl, d, 2, rfl, hD0, by decide, fun m H1 m0 m2 hD1 b1 => ⟨_, _, rfl, rfl, 1 + m, rfl, by omega, by omega, fun L fL => ?_⟩⟩
  have nL : L ≠ d := drw_ne hD1 fL
  refine lc_range (fun i H' => Drw K H' d ∧ But d H1 H' ∧ ∃ xs : List Int, xs.length = i ∧ H' L = some (.lst (xs.map V.int))) ⟨hD1.same (same_new fL _), Same.but (same_new fL _), [], rfl, upd_same⟩ ?_ ?_
  · rintro i H' hi ⟨hD3, b3, xs, lx, e⟩
    refine ⟨rfl, _, rfl, d, 2, rfl, hD3, by decide, fun x H4 x0 x2 hD4 b4 => ⟨xs.map V.int, b4 _ _ nL e, ?_, hD4.but (b4 _ _ nL e) (Ne.symm nL) (fun b o n h => by rw [upd_ne n]; exact h), fun b o n h => ?_, xs ++ [x], by rw [List.length_append, lx]; rfl, ?_⟩⟩
    · rw [List.length_map]
      exact small1000 (by omega)
    · rw [upd_ne (ne_of_none h fL)]
      exact b4 _ _ n (b3 _ _ n h)
    · rw [upd_same, List.map_append]
      rfl
  rintro H2 ⟨hD2, b2, r, lr, eL⟩
  refine ⟨_, rfl, d, 2, rfl, hD2, by decide, fun n HB n0 n2 hD b3 => ⟨_, _, rfl, ?_⟩⟩
  have bB : But d H HB := (b1.trans b2).trans b3
  have eL := b3 _ _ nL eL
  have free : ∀ x, HB x = none → H x = none := fun x hx => by
    cases e : H x with
    | none => rfl
    | some o =>
      have nd : x ≠ d := fun z => by
        obtain ⟨_, _, _, h1, _⟩ := hD
        rw [z, h1] at hx
        cases hx
      rw [bB x o nd e] at hx
      cases hx
  clear b1 b2 b3 hD0 hD1 hD2 m0 m2 fL
  -- all that follows lays new objects alone
  have fin : ∀ (t p due one : Addr) (ds : List Addr) (G : Hp), Same HB G → G t = some (.tup [.ref p, .ref due, .ref one]) → PartAt G p → HB p = none → Ev T (dels [d, p] G) k r n due one ds → (∀ x ∈ ds, HB x = none) → Q (.ref t) G := fun t p due one ds G g ht hp fp ev fr =>
    q t p due one r n ds G (bB.same g) (hD.same g) ht hp (free p fp) (drw_ne hD fp) ev fun x hx => free x (fr x hx)
  clear q free bB
  dsimp only
  cases k with
  | n0 =>
    refine ⟨_, rfl, rfl, _, rfl, iteT ?_⟩
    have gB := Same.refl HB
    refine fun p fp => ?_
    have zp := same_free gB fp
    have nLp := ne_of_none eL fp
    have g1 := same_new fp (.dK [])
    have ep : upd HB p (.dK []) p = some (.dK []) := upd_same
    generalize upd HB p (.dK []) = H1 at *
    replace gB := gB.trans g1
    replace eL := g1 _ _ eL
    refine ⟨_, rfl, L, _, rfl, .inl ⟨SqL.of eL, fun a fa => ?_⟩⟩
    have za := same_free gB fa
    have npa := ne_of_none ep fa
    have nLa := ne_of_none eL fa
    have g2 := same_new fa (.tup (r.map V.int))
    have ea : upd H1 a (.tup (r.map V.int)) a = some (.tup (r.map V.int)) := upd_same
    generalize upd H1 a (.tup (r.map V.int)) = H2 at *
    replace gB := gB.trans g2
    replace eL := g2 _ _ eL
    replace ep := g2 _ _ ep
    refine ⟨_, rfl, (by show 1 ≤ sizeLine; decide), fun b fb => ?_⟩
    have zb := same_free gB fb
    have npb := ne_of_none ep fb
    have nLb := ne_of_none eL fb
    have nab := ne_of_none ea fb
    have g3 := same_new fb (.tup [.int n])
    have eb : upd H2 b (.tup [.int n]) b = some (.tup [.int n]) := upd_same
    generalize upd H2 b (.tup [.int n]) = H3 at *
    replace gB := gB.trans g3
    replace eL := g3 _ _ eL
    replace ep := g3 _ _ ep
    replace ea := g3 _ _ ea
    refine ⟨ep, [(kKey, .ref a), (kBlock, .ref b)], rfl, (by show 2 ≤ 15; decide), ?_⟩
    rw [merge2 (Ne.symm bk_ne)]
    replace eL := (upd_ne (o := .dK [(kKey, .ref a), (kBlock, .ref b)]) (by first | exact nLp | exact Ne.symm npL)).trans eL
    replace ea := (upd_ne (o := .dK [(kKey, .ref a), (kBlock, .ref b)]) (by first | exact nap | exact Ne.symm npa)).trans ea
    replace eb := (upd_ne (o := .dK [(kKey, .ref a), (kBlock, .ref b)]) (by first | exact nbp | exact Ne.symm npb)).trans eb
    replace gB := same_upd (o := .dK [(kKey, .ref a), (kBlock, .ref b)]) gB zp
    replace ep : upd H3 p (.dK [(kKey, .ref a), (kBlock, .ref b)]) p = some (.dK [(kKey, .ref a), (kBlock, .ref b)]) := upd_same
    generalize upd H3 p (.dK [(kKey, .ref a), (kBlock, .ref b)]) = H4 at *
    refine ⟨_, rfl, fun q fq => ?_⟩
    have zq := same_free gB fq
    have nLq := ne_of_none eL fq
    have npq := ne_of_none ep fq
    have naq := ne_of_none ea fq
    have nbq := ne_of_none eb fq
    have g5 := same_new fq (.dK [])
    have eq : upd H4 q (.dK []) q = some (.dK []) := upd_same
    generalize upd H4 q (.dK []) = H5 at *
    replace gB := gB.trans g5
    replace eL := g5 _ _ eL
    replace ep := g5 _ _ ep
    replace ea := g5 _ _ ea
    replace eb := g5 _ _ eb
    refine ⟨_, rfl, (by show 1 ≤ sizeLine; decide), fun b' fb' => ?_⟩
    have zb' := same_free gB fb'
    have nqb' := ne_of_none eq fb'
    have nLb' := ne_of_none eL fb'
    have npb' := ne_of_none ep fb'
    have nab' := ne_of_none ea fb'
    have nbb' := ne_of_none eb fb'
    have g6 := same_new fb' (.tup [.int n])
    have eb' : upd H5 b' (.tup [.int n]) b' = some (.tup [.int n]) := upd_same
    generalize upd H5 b' (.tup [.int n]) = H6 at *
    replace gB := gB.trans g6
    replace eL := g6 _ _ eL
    replace ep := g6 _ _ ep
    replace ea := g6 _ _ ea
    replace eb := g6 _ _ eb
    replace eq := g6 _ _ eq
    refine ⟨_, rfl, L, _, rfl, .inl ⟨SqL.of eL, fun a' fa' => ?_⟩⟩
    have za' := same_free gB fa'
    have nqa' := ne_of_none eq fa'
    have nLa' := ne_of_none eL fa'
    have npa' := ne_of_none ep fa'
    have naa' := ne_of_none ea fa'
    have nba' := ne_of_none eb fa'
    have nb'a' := ne_of_none eb' fa'
    have g7 := same_new fa' (.tup (r.map V.int))
    have ea' : upd H6 a' (.tup (r.map V.int)) a' = some (.tup (r.map V.int)) := upd_same
    generalize upd H6 a' (.tup (r.map V.int)) = H7 at *
    replace gB := gB.trans g7
    replace eL := g7 _ _ eL
    replace ep := g7 _ _ ep
    replace ea := g7 _ _ ea
    replace eb := g7 _ _ eb
    replace eq := g7 _ _ eq
    replace eb' := g7 _ _ eb'
    refine ⟨eq, [(kBlock, .ref b'), (kKey, .ref a')], rfl, (by show 2 ≤ 15; decide), ?_⟩
    rw [merge2 bk_ne]
    replace eL := (upd_ne (o := .dK [(kBlock, .ref b'), (kKey, .ref a')]) (by first | exact nLq | exact Ne.symm nqL)).trans eL
    replace ep := (upd_ne (o := .dK [(kBlock, .ref b'), (kKey, .ref a')]) (by first | exact npq | exact Ne.symm nqp)).trans ep
    replace ea := (upd_ne (o := .dK [(kBlock, .ref b'), (kKey, .ref a')]) (by first | exact naq | exact Ne.symm nqa)).trans ea
    replace eb := (upd_ne (o := .dK [(kBlock, .ref b'), (kKey, .ref a')]) (by first | exact nbq | exact Ne.symm nqb)).trans eb
    replace eb' := (upd_ne (o := .dK [(kBlock, .ref b'), (kKey, .ref a')]) (by first | exact nb'q | exact Ne.symm nqb')).trans eb'
    replace ea' := (upd_ne (o := .dK [(kBlock, .ref b'), (kKey, .ref a')]) (by first | exact na'q | exact Ne.symm nqa')).trans ea'
    replace gB := same_upd (o := .dK [(kBlock, .ref b'), (kKey, .ref a')]) gB zq
    replace eq : upd H7 q (.dK [(kBlock, .ref b'), (kKey, .ref a')]) q = some (.dK [(kBlock, .ref b'), (kKey, .ref a')]) := upd_same
    generalize upd H7 q (.dK [(kBlock, .ref b'), (kKey, .ref a')]) = H8 at *
    refine ⟨(by show 1 ≤ sizeLine; decide), fun due fdue => ?_⟩
    have zdue := same_free gB fdue
    have nLdue := ne_of_none eL fdue
    have npdue := ne_of_none ep fdue
    have nadue := ne_of_none ea fdue
    have nbdue := ne_of_none eb fdue
    have nqdue := ne_of_none eq fdue
    have nb'due := ne_of_none eb' fdue
    have na'due := ne_of_none ea' fdue
    have g9 := same_new fdue (.tup [.ref q])
    have edue : upd H8 due (.tup [.ref q]) due = some (.tup [.ref q]) := upd_same
    generalize upd H8 due (.tup [.ref q]) = H9 at *
    replace gB := gB.trans g9
    replace eL := g9 _ _ eL
    replace ep := g9 _ _ ep
    replace ea := g9 _ _ ea
    replace eb := g9 _ _ eb
    replace eq := g9 _ _ eq
    replace eb' := g9 _ _ eb'
    replace ea' := g9 _ _ ea'
    refine ⟨_, rfl, fun x dx fx fdx nx => ?_⟩
    refine ⟨x, dx, p, _, rfl, upd_same, made_start fx fdx _ _ ep, bk_nd, (by show 2 ≤ 15; decide), fun D G bG ex eD fD => ⟨rfl, ?_⟩⟩
    have fD2 := same_free (made_start fx fdx) fD
    have npD := ne_of_none ep fD2
    have nqD := ne_of_none eq fD2
    have zD := same_free gB fD2
    have gM := made_same fx fdx bG
    replace gB := gB.trans gM
    replace eL := gM _ _ eL
    replace ep := gM _ _ ep
    replace ea := gM _ _ ea
    replace eb := gM _ _ eb
    replace eq := gM _ _ eq
    replace eb' := gM _ _ eb'
    replace ea' := gM _ _ ea'
    replace edue := gM _ _ edue
    generalize hG : G = H10 at *
    clear hG gM
    refine ⟨(by show 3 ≤ sizeLine; decide), fun t ft => ?_⟩
    have zt := same_free gB ft
    have nLt := ne_of_none eL ft
    have npt := ne_of_none ep ft
    have nat := ne_of_none ea ft
    have nbt := ne_of_none eb ft
    have nqt := ne_of_none eq ft
    have nb't := ne_of_none eb' ft
    have na't := ne_of_none ea' ft
    have nduet := ne_of_none edue ft
    have nxt := ne_of_none ex ft
    have nDt := ne_of_none eD ft
    have g11 := same_new ft (.tup [.ref p, .ref due, .ref x])
    have et : upd H10 t (.tup [.ref p, .ref due, .ref x]) t = some (.tup [.ref p, .ref due, .ref x]) := upd_same
    generalize upd H10 t (.tup [.ref p, .ref due, .ref x]) = H11 at *
    replace gB := gB.trans g11
    replace eL := g11 _ _ eL
    replace ep := g11 _ _ ep
    replace ea := g11 _ _ ea
    replace eb := g11 _ _ eb
    replace eq := g11 _ _ eq
    replace eb' := g11 _ _ eb'
    replace ea' := g11 _ _ ea'
    replace edue := g11 _ _ edue
    replace ex := g11 _ _ ex
    replace eD := g11 _ _ eD
    have hDn := hD.same gB
    have O : ∀ {x : Addr} {o : HO}, H11 x = some o → (∀ ys, o ≠ .lst ys) → x ≠ p → dels [d, p] H11 x = some o := fun hx n np => off_dp hDn hx n np
    have hP : PartAt H11 p := .inl ⟨_, ep, (by show 2 ≤ 15; decide)⟩
    have OT : ∀ {x : Addr} {xs : List V}, H11 x = some (.tup xs) → SqT K (dels [d, p] H11) x xs := fun hx => off_tup hDn hP (SqT.of hx)
    have OS : ∀ {x : Addr} {xs : List V}, SqT K H11 x xs → SqT K (dels [d, p] H11) x xs := fun hx => off_tup hDn hP hx
    have OO : ∀ {x : Addr} {xs : List V}, H11 x = some (.tup xs) → dels [d, p] H11 x = some (.tup xs) := fun hx => (off_tup_at hDn hP hx)
    have OI : ∀ {x C dx : Addr} {fs : List (Str × V)}, H11 x = some (.ins C dx fs) → dels [d, p] H11 x = some (.ins C dx fs) := fun hx => O hx (fun _ z => by cases z) (ne_of hx ep (fun z => by cases z))
    have OK : ∀ {x : Addr} {kvs : List (Key × V)}, H11 x = some (.dK kvs) → x ≠ p → dels [d, p] H11 x = some (.dK kvs) := fun hx np => O hx (fun _ z => by cases z) np
    have OD : ∀ {x : Addr} {kvs : List (List Key × V)}, H11 x = some (.dT kvs) → x ≠ p → dels [d, p] H11 x = some (.dT kvs) := fun hx np => O hx (fun _ z => by cases z) np
    refine fin t p due x [q] H11 gB et hP zp (.e0 (OI ex) (OK eD (Ne.symm npD)) (OT edue) (OK eq (Ne.symm npq)) (dp_rD (OT ea)) (dp_rD (r := [n]) (OT eb)) (dp_rD (OT ea')) (dp_rD (r := [n]) (OT eb')) (Ne.symm nqD)) ?_
    exact fun y hy => by
      obtain rfl := List.mem_singleton.mp hy
      exact zq
  | n1 =>
    refine ⟨_, rfl, rfl, _, rfl, iteF ⟨_, rfl, rfl, _, rfl, iteT ?_⟩⟩
    have gB := Same.refl HB
    refine fun p fp => ?_
    have zp := same_free gB fp
    have nLp := ne_of_none eL fp
    have g1 := same_new fp (.dK [])
    have ep : upd HB p (.dK []) p = some (.dK []) := upd_same
    generalize upd HB p (.dK []) = H1 at *
    replace gB := gB.trans g1
    replace eL := g1 _ _ eL
    refine ⟨_, rfl, L, _, rfl, .inl ⟨SqL.of eL, fun a fa => ?_⟩⟩
    have za := same_free gB fa
    have npa := ne_of_none ep fa
    have nLa := ne_of_none eL fa
    have g2 := same_new fa (.tup (r.map V.int))
    have ea : upd H1 a (.tup (r.map V.int)) a = some (.tup (r.map V.int)) := upd_same
    generalize upd H1 a (.tup (r.map V.int)) = H2 at *
    replace gB := gB.trans g2
    replace eL := g2 _ _ eL
    replace ep := g2 _ _ ep
    refine ⟨ep, [(kBlock, .ref a)], rfl, (by show 1 ≤ 15; decide), ?_⟩
    rw [merge1]
    replace eL := (upd_ne (o := .dK [(kBlock, .ref a)]) (by first | exact nLp | exact Ne.symm npL)).trans eL
    replace ea := (upd_ne (o := .dK [(kBlock, .ref a)]) (by first | exact nap | exact Ne.symm npa)).trans ea
    replace gB := same_upd (o := .dK [(kBlock, .ref a)]) gB zp
    replace ep : upd H2 p (.dK [(kBlock, .ref a)]) p = some (.dK [(kBlock, .ref a)]) := upd_same
    generalize upd H2 p (.dK [(kBlock, .ref a)]) = H3 at *
    refine ⟨_, rfl, _, rfl, fun q fq => ?_⟩
    have zq := same_free gB fq
    have nLq := ne_of_none eL fq
    have npq := ne_of_none ep fq
    have naq := ne_of_none ea fq
    have g4 := same_new fq (.dK [])
    have eq : upd H3 q (.dK []) q = some (.dK []) := upd_same
    generalize upd H3 q (.dK []) = H4 at *
    replace gB := gB.trans g4
    replace eL := g4 _ _ eL
    replace ep := g4 _ _ ep
    replace ea := g4 _ _ ea
    refine ⟨_, rfl, L, _, rfl, .inl ⟨SqL.of eL, fun a' fa' => ?_⟩⟩
    have za' := same_free gB fa'
    have nqa' := ne_of_none eq fa'
    have nLa' := ne_of_none eL fa'
    have npa' := ne_of_none ep fa'
    have naa' := ne_of_none ea fa'
    have g5 := same_new fa' (.tup (r.map V.int))
    have ea' : upd H4 a' (.tup (r.map V.int)) a' = some (.tup (r.map V.int)) := upd_same
    generalize upd H4 a' (.tup (r.map V.int)) = H5 at *
    replace gB := gB.trans g5
    replace eL := g5 _ _ eL
    replace ep := g5 _ _ ep
    replace ea := g5 _ _ ea
    replace eq := g5 _ _ eq
    refine ⟨eq, [(kBlock, .ref a')], rfl, (by show 1 ≤ 15; decide), ?_⟩
    rw [merge1]
    replace eL := (upd_ne (o := .dK [(kBlock, .ref a')]) (by first | exact nLq | exact Ne.symm nqL)).trans eL
    replace ep := (upd_ne (o := .dK [(kBlock, .ref a')]) (by first | exact npq | exact Ne.symm nqp)).trans ep
    replace ea := (upd_ne (o := .dK [(kBlock, .ref a')]) (by first | exact naq | exact Ne.symm nqa)).trans ea
    replace ea' := (upd_ne (o := .dK [(kBlock, .ref a')]) (by first | exact na'q | exact Ne.symm nqa')).trans ea'
    replace gB := same_upd (o := .dK [(kBlock, .ref a')]) gB zq
    replace eq : upd H5 q (.dK [(kBlock, .ref a')]) q = some (.dK [(kBlock, .ref a')]) := upd_same
    generalize upd H5 q (.dK [(kBlock, .ref a')]) = H6 at *
    refine ⟨(by show 2 ≤ sizeLine; decide), fun t1 ft1 => ?_⟩
    have zt1 := same_free gB ft1
    have nLt1 := ne_of_none eL ft1
    have npt1 := ne_of_none ep ft1
    have nat1 := ne_of_none ea ft1
    have nqt1 := ne_of_none eq ft1
    have na't1 := ne_of_none ea' ft1
    have g7 := same_new ft1 (.tup [.int 0, .int 1])
    have et1 : upd H6 t1 (.tup [.int 0, .int 1]) t1 = some (.tup [.int 0, .int 1]) := upd_same
    generalize upd H6 t1 (.tup [.int 0, .int 1]) = H7 at *
    replace gB := gB.trans g7
    replace eL := g7 _ _ eL
    replace ep := g7 _ _ ep
    replace ea := g7 _ _ ea
    replace eq := g7 _ _ eq
    replace ea' := g7 _ _ ea'
    refine ⟨(by show 2 ≤ sizeLine; decide), fun t2 ft2 => ?_⟩
    have zt2 := same_free gB ft2
    have nLt2 := ne_of_none eL ft2
    have npt2 := ne_of_none ep ft2
    have nat2 := ne_of_none ea ft2
    have nqt2 := ne_of_none eq ft2
    have na't2 := ne_of_none ea' ft2
    have nt1t2 := ne_of_none et1 ft2
    have g8 := same_new ft2 (.tup [.int 1, .int 2])
    have et2 : upd H7 t2 (.tup [.int 1, .int 2]) t2 = some (.tup [.int 1, .int 2]) := upd_same
    generalize upd H7 t2 (.tup [.int 1, .int 2]) = H8 at *
    replace gB := gB.trans g8
    replace eL := g8 _ _ eL
    replace ep := g8 _ _ ep
    replace ea := g8 _ _ ea
    replace eq := g8 _ _ eq
    replace ea' := g8 _ _ ea'
    replace et1 := g8 _ _ et1
    refine ⟨(by show 2 ≤ sizeLine; decide), fun c fc => ?_⟩
    have zc := same_free gB fc
    have nLc := ne_of_none eL fc
    have npc := ne_of_none ep fc
    have nac := ne_of_none ea fc
    have nqc := ne_of_none eq fc
    have na'c := ne_of_none ea' fc
    have nt1c := ne_of_none et1 fc
    have nt2c := ne_of_none et2 fc
    have g9 := same_new fc (.tup [.ref t1, .ref t2])
    have ec : upd H8 c (.tup [.ref t1, .ref t2]) c = some (.tup [.ref t1, .ref t2]) := upd_same
    generalize upd H8 c (.tup [.ref t1, .ref t2]) = H9 at *
    replace gB := gB.trans g9
    replace eL := g9 _ _ eL
    replace ep := g9 _ _ ep
    replace ea := g9 _ _ ea
    replace eq := g9 _ _ eq
    replace ea' := g9 _ _ ea'
    replace et1 := g9 _ _ et1
    replace et2 := g9 _ _ et2
    refine ⟨(by show 3 ≤ sizeLine; decide), fun due fdue => ?_⟩
    have zdue := same_free gB fdue
    have nLdue := ne_of_none eL fdue
    have npdue := ne_of_none ep fdue
    have nadue := ne_of_none ea fdue
    have nqdue := ne_of_none eq fdue
    have na'due := ne_of_none ea' fdue
    have nt1due := ne_of_none et1 fdue
    have nt2due := ne_of_none et2 fdue
    have ncdue := ne_of_none ec fdue
    have g10 := same_new fdue (.tup [.int n, .ref q, .ref c])
    have edue : upd H9 due (.tup [.int n, .ref q, .ref c]) due = some (.tup [.int n, .ref q, .ref c]) := upd_same
    generalize upd H9 due (.tup [.int n, .ref q, .ref c]) = H10 at *
    replace gB := gB.trans g10
    replace eL := g10 _ _ eL
    replace ep := g10 _ _ ep
    replace ea := g10 _ _ ea
    replace eq := g10 _ _ eq
    replace ea' := g10 _ _ ea'
    replace et1 := g10 _ _ et1
    replace et2 := g10 _ _ et2
    replace ec := g10 _ _ ec
    refine ⟨_, rfl, _, rfl, ?_⟩
    refine ⟨(by show 2 ≤ sizeLine; decide), fun t3 ft3 => ?_⟩
    have zt3 := same_free gB ft3
    have nLt3 := ne_of_none eL ft3
    have npt3 := ne_of_none ep ft3
    have nat3 := ne_of_none ea ft3
    have nqt3 := ne_of_none eq ft3
    have na't3 := ne_of_none ea' ft3
    have nt1t3 := ne_of_none et1 ft3
    have nt2t3 := ne_of_none et2 ft3
    have nct3 := ne_of_none ec ft3
    have nduet3 := ne_of_none edue ft3
    have g11 := same_new ft3 (.tup [.int 0, .int 1])
    have et3 : upd H10 t3 (.tup [.int 0, .int 1]) t3 = some (.tup [.int 0, .int 1]) := upd_same
    generalize upd H10 t3 (.tup [.int 0, .int 1]) = H11 at *
    replace gB := gB.trans g11
    replace eL := g11 _ _ eL
    replace ep := g11 _ _ ep
    replace ea := g11 _ _ ea
    replace eq := g11 _ _ eq
    replace ea' := g11 _ _ ea'
    replace et1 := g11 _ _ et1
    replace et2 := g11 _ _ et2
    replace ec := g11 _ _ ec
    replace edue := g11 _ _ edue
    refine ⟨(by show 2 ≤ sizeLine; decide), fun t4 ft4 => ?_⟩
    have zt4 := same_free gB ft4
    have nLt4 := ne_of_none eL ft4
    have npt4 := ne_of_none ep ft4
    have nat4 := ne_of_none ea ft4
    have nqt4 := ne_of_none eq ft4
    have na't4 := ne_of_none ea' ft4
    have nt1t4 := ne_of_none et1 ft4
    have nt2t4 := ne_of_none et2 ft4
    have nct4 := ne_of_none ec ft4
    have nduet4 := ne_of_none edue ft4
    have nt3t4 := ne_of_none et3 ft4
    have g12 := same_new ft4 (.tup [.int 1, .int 2])
    have et4 : upd H11 t4 (.tup [.int 1, .int 2]) t4 = some (.tup [.int 1, .int 2]) := upd_same
    generalize upd H11 t4 (.tup [.int 1, .int 2]) = H12 at *
    replace gB := gB.trans g12
    replace eL := g12 _ _ eL
    replace ep := g12 _ _ ep
    replace ea := g12 _ _ ea
    replace eq := g12 _ _ eq
    replace ea' := g12 _ _ ea'
    replace et1 := g12 _ _ et1
    replace et2 := g12 _ _ et2
    replace ec := g12 _ _ ec
    replace edue := g12 _ _ edue
    replace et3 := g12 _ _ et3
    refine ⟨(by show 2 ≤ sizeLine; decide), fun c2 fc2 => ?_⟩
    have zc2 := same_free gB fc2
    have nLc2 := ne_of_none eL fc2
    have npc2 := ne_of_none ep fc2
    have nac2 := ne_of_none ea fc2
    have nqc2 := ne_of_none eq fc2
    have na'c2 := ne_of_none ea' fc2
    have nt1c2 := ne_of_none et1 fc2
    have nt2c2 := ne_of_none et2 fc2
    have ncc2 := ne_of_none ec fc2
    have nduec2 := ne_of_none edue fc2
    have nt3c2 := ne_of_none et3 fc2
    have nt4c2 := ne_of_none et4 fc2
    have g13 := same_new fc2 (.tup [.ref t3, .ref t4])
    have ec2 : upd H12 c2 (.tup [.ref t3, .ref t4]) c2 = some (.tup [.ref t3, .ref t4]) := upd_same
    generalize upd H12 c2 (.tup [.ref t3, .ref t4]) = H13 at *
    replace gB := gB.trans g13
    replace eL := g13 _ _ eL
    replace ep := g13 _ _ ep
    replace ea := g13 _ _ ea
    replace eq := g13 _ _ eq
    replace ea' := g13 _ _ ea'
    replace et1 := g13 _ _ et1
    replace et2 := g13 _ _ et2
    replace ec := g13 _ _ ec
    replace edue := g13 _ _ edue
    replace et3 := g13 _ _ et3
    replace et4 := g13 _ _ et4
    refine fun x dx fx fdx nx => ?_
    refine ⟨x, dx, .int n, p, c2, _, _, rfl, upd_same, made_start fx fdx _ _ ep, (by simp), (by show 1 ≤ 15; decide), .inr (SqT.of (made_start fx fdx _ _ ec2)), fun D u G bG ex eD fD eu => ⟨rfl, ?_⟩⟩
    have fD2 := same_free (made_start fx fdx) fD
    have npD := ne_of_none ep fD2
    have nqD := ne_of_none eq fD2
    have gM := made_same fx fdx bG
    replace gB := gB.trans gM
    replace eL := gM _ _ eL
    replace ep := gM _ _ ep
    replace ea := gM _ _ ea
    replace eq := gM _ _ eq
    replace ea' := gM _ _ ea'
    replace et1 := gM _ _ et1
    replace et2 := gM _ _ et2
    replace ec := gM _ _ ec
    replace edue := gM _ _ edue
    replace et3 := gM _ _ et3
    replace et4 := gM _ _ et4
    replace ec2 := gM _ _ ec2
    generalize hG : G = H14 at *
    clear hG gM
    refine ⟨(by show 3 ≤ sizeLine; decide), fun t ft => ?_⟩
    have zt := same_free gB ft
    have nLt := ne_of_none eL ft
    have npt := ne_of_none ep ft
    have nat := ne_of_none ea ft
    have nqt := ne_of_none eq ft
    have na't := ne_of_none ea' ft
    have nt1t := ne_of_none et1 ft
    have nt2t := ne_of_none et2 ft
    have nct := ne_of_none ec ft
    have nduet := ne_of_none edue ft
    have nt3t := ne_of_none et3 ft
    have nt4t := ne_of_none et4 ft
    have nc2t := ne_of_none ec2 ft
    have nxt := ne_of_none ex ft
    have nDt := ne_of_none eD ft
    have g15 := same_new ft (.tup [.ref p, .ref due, .ref x])
    have et : upd H14 t (.tup [.ref p, .ref due, .ref x]) t = some (.tup [.ref p, .ref due, .ref x]) := upd_same
    generalize upd H14 t (.tup [.ref p, .ref due, .ref x]) = H15 at *
    replace gB := gB.trans g15
    replace eL := g15 _ _ eL
    replace ep := g15 _ _ ep
    replace ea := g15 _ _ ea
    replace eq := g15 _ _ eq
    replace ea' := g15 _ _ ea'
    replace et1 := g15 _ _ et1
    replace et2 := g15 _ _ et2
    replace ec := g15 _ _ ec
    replace edue := g15 _ _ edue
    replace et3 := g15 _ _ et3
    replace et4 := g15 _ _ et4
    replace ec2 := g15 _ _ ec2
    replace ex := g15 _ _ ex
    replace eD := g15 _ _ eD
    replace eu := Same.tup g15 eu
    have hDn := hD.same gB
    have O : ∀ {x : Addr} {o : HO}, H15 x = some o → (∀ ys, o ≠ .lst ys) → x ≠ p → dels [d, p] H15 x = some o := fun hx n np => off_dp hDn hx n np
    have hP : PartAt H15 p := .inl ⟨_, ep, (by show 1 ≤ 15; decide)⟩
    have OT : ∀ {x : Addr} {xs : List V}, H15 x = some (.tup xs) → SqT K (dels [d, p] H15) x xs := fun hx => off_tup hDn hP (SqT.of hx)
    have OS : ∀ {x : Addr} {xs : List V}, SqT K H15 x xs → SqT K (dels [d, p] H15) x xs := fun hx => off_tup hDn hP hx
    have OO : ∀ {x : Addr} {xs : List V}, H15 x = some (.tup xs) → dels [d, p] H15 x = some (.tup xs) := fun hx => (off_tup_at hDn hP hx)
    have OI : ∀ {x C dx : Addr} {fs : List (Str × V)}, H15 x = some (.ins C dx fs) → dels [d, p] H15 x = some (.ins C dx fs) := fun hx => O hx (fun _ z => by cases z) (ne_of hx ep (fun z => by cases z))
    have OK : ∀ {x : Addr} {kvs : List (Key × V)}, H15 x = some (.dK kvs) → x ≠ p → dels [d, p] H15 x = some (.dK kvs) := fun hx np => O hx (fun _ z => by cases z) np
    have OD : ∀ {x : Addr} {kvs : List (List Key × V)}, H15 x = some (.dT kvs) → x ≠ p → dels [d, p] H15 x = some (.dT kvs) := fun hx np => O hx (fun _ z => by cases z) np
    refine fin t p due x [q] H15 gB et hP zp (.e1 (OI ex) (OK eD (Ne.symm npD)) (OT edue) (OK eq (Ne.symm npq)) (dp_rD (OT ea)) (dp_rD (OT ea')) (dp_pairs (OT ec) (OT et1) (OT et2)) (dp_pairs (OS eu) (OT et3) (OT et4)) (Ne.symm nqD)) ?_
    exact fun y hy => by
      obtain rfl := List.mem_singleton.mp hy
      exact zq
  | n2 =>
    refine ⟨_, rfl, rfl, _, rfl, iteF ⟨_, rfl, rfl, _, rfl, iteF ⟨_, rfl, rfl, _, rfl, iteT ?_⟩⟩⟩
    have gB := Same.refl HB
    refine ⟨(by show 0 ≤ sizeLine; decide), fun u fu => ?_⟩
    have zu := same_free gB fu
    have nLu := ne_of_none eL fu
    have g1 := same_new fu (.tup [])
    have eu : upd HB u (.tup []) u = some (.tup []) := upd_same
    generalize upd HB u (.tup []) = H1 at *
    replace gB := gB.trans g1
    replace eL := g1 _ _ eL
    refine fun m fm => ?_
    have zm := same_free gB fm
    have nLm := ne_of_none eL fm
    have num := ne_of_none eu fm
    have g2 := same_new fm (.dK [])
    have em : upd H1 m (.dK []) m = some (.dK []) := upd_same
    generalize upd H1 m (.dK []) = H2 at *
    replace gB := gB.trans g2
    replace eL := g2 _ _ eL
    replace eu := g2 _ _ eu
    refine ⟨(by show 0 ≤ sizeLine; decide), fun w fw => ?_⟩
    have zw := same_free gB fw
    have nLw := ne_of_none eL fw
    have nuw := ne_of_none eu fw
    have nmw := ne_of_none em fw
    have g3 := same_new fw (.tup [])
    have ew : upd H2 w (.tup []) w = some (.tup []) := upd_same
    generalize upd H2 w (.tup []) = H3 at *
    replace gB := gB.trans g3
    replace eL := g3 _ _ eL
    replace eu := g3 _ _ eu
    replace em := g3 _ _ em
    refine fun col dcol fcol fdcol ncol => ?_
    refine ⟨col, dcol, .ref u, .ref m, .ref w, .seq [], .dic [], .seq [], rfl, upd_same, ⟨u, [], rfl, .inr (SqT.of (made_start fcol fdcol _ _ eu)), .nil, Nat.zero_le _⟩, ⟨m, rfl, made_start fcol fdcol _ _ em, kvs_nil⟩, ⟨w, [], rfl, .inr (SqT.of (made_start fcol fdcol _ _ ew)), .nil, Nat.zero_le _⟩, (fun _ h => by cases h), (fun _ h => by cases h), (fun _ h => ⟨u, [], rfl, .inr (SqT.of (made_start fcol fdcol _ _ eu)), by cases h; exact .nil⟩), (fun _ G bG hcol _ => ⟨rfl, ?_⟩), fun w0 e0 => by rw [wrong_nil] at e0; cases e0⟩
    rw [sortA_nil] at hcol
    have hcol : ColsAt K T.c_Columns G col [] [] [] := hcol
    have gM := made_same fcol fdcol bG
    replace gB := gB.trans gM
    replace eL := gM _ _ eL
    replace eu := gM _ _ eu
    replace em := gM _ _ em
    replace ew := gM _ _ ew
    generalize hG : G = H4 at *
    clear hG gM
    refine ⟨_, rfl, (by show 0 ≤ sizeLine; decide), fun r1 fr1 => ?_⟩
    have zr1 := same_free gB fr1
    have nLr1 := ne_of_none eL fr1
    have nur1 := ne_of_none eu fr1
    have nmr1 := ne_of_none em fr1
    have nwr1 := ne_of_none ew fr1
    have g5 := same_new fr1 (.tup [])
    have er1 : upd H4 r1 (.tup []) r1 = some (.tup []) := upd_same
    generalize upd H4 r1 (.tup []) = H5 at *
    replace gB := gB.trans g5
    replace eL := g5 _ _ eL
    replace eu := g5 _ _ eu
    replace em := g5 _ _ em
    replace ew := g5 _ _ ew
    replace hcol := ColsAt.same g5 hcol
    refine ⟨(by show 0 ≤ sizeLine; decide), fun r2 fr2 => ?_⟩
    have zr2 := same_free gB fr2
    have nLr2 := ne_of_none eL fr2
    have nur2 := ne_of_none eu fr2
    have nmr2 := ne_of_none em fr2
    have nwr2 := ne_of_none ew fr2
    have nr1r2 := ne_of_none er1 fr2
    have g6 := same_new fr2 (.tup [])
    have er2 : upd H5 r2 (.tup []) r2 = some (.tup []) := upd_same
    generalize upd H5 r2 (.tup []) = H6 at *
    replace gB := gB.trans g6
    replace eL := g6 _ _ eL
    replace eu := g6 _ _ eu
    replace em := g6 _ _ em
    replace ew := g6 _ _ ew
    replace hcol := ColsAt.same g6 hcol
    replace er1 := g6 _ _ er1
    refine ⟨(by show 0 ≤ sizeLine; decide), fun r3 fr3 => ?_⟩
    have zr3 := same_free gB fr3
    have nLr3 := ne_of_none eL fr3
    have nur3 := ne_of_none eu fr3
    have nmr3 := ne_of_none em fr3
    have nwr3 := ne_of_none ew fr3
    have nr1r3 := ne_of_none er1 fr3
    have nr2r3 := ne_of_none er2 fr3
    have g7 := same_new fr3 (.tup [])
    have er3 : upd H6 r3 (.tup []) r3 = some (.tup []) := upd_same
    generalize upd H6 r3 (.tup []) = H7 at *
    replace gB := gB.trans g7
    replace eL := g7 _ _ eL
    replace eu := g7 _ _ eu
    replace em := g7 _ _ em
    replace ew := g7 _ _ ew
    replace hcol := ColsAt.same g7 hcol
    replace er1 := g7 _ _ er1
    replace er2 := g7 _ _ er2
    refine ⟨(by show 4 ≤ sizeLine; decide), fun row frow => ?_⟩
    have zrow := same_free gB frow
    have nLrow := ne_of_none eL frow
    have nurow := ne_of_none eu frow
    have nmrow := ne_of_none em frow
    have nwrow := ne_of_none ew frow
    have nr1row := ne_of_none er1 frow
    have nr2row := ne_of_none er2 frow
    have nr3row := ne_of_none er3 frow
    have g8 := same_new frow (.tup [.int n, .ref r1, .ref r2, .ref r3])
    have erow : upd H7 row (.tup [.int n, .ref r1, .ref r2, .ref r3]) row = some (.tup [.int n, .ref r1, .ref r2, .ref r3]) := upd_same
    generalize upd H7 row (.tup [.int n, .ref r1, .ref r2, .ref r3]) = H8 at *
    replace gB := gB.trans g8
    replace eL := g8 _ _ eL
    replace eu := g8 _ _ eu
    replace em := g8 _ _ em
    replace ew := g8 _ _ ew
    replace hcol := ColsAt.same g8 hcol
    replace er1 := g8 _ _ er1
    replace er2 := g8 _ _ er2
    replace er3 := g8 _ _ er3
    refine ⟨(by show 1 ≤ sizeLine; decide), fun l fl => ?_⟩
    have zl := same_free gB fl
    have nLl := ne_of_none eL fl
    have nul := ne_of_none eu fl
    have nml := ne_of_none em fl
    have nwl := ne_of_none ew fl
    have nr1l := ne_of_none er1 fl
    have nr2l := ne_of_none er2 fl
    have nr3l := ne_of_none er3 fl
    have nrowl := ne_of_none erow fl
    have g9 := same_new fl (.lst [.ref row])
    have el : upd H8 l (.lst [.ref row]) l = some (.lst [.ref row]) := upd_same
    generalize upd H8 l (.lst [.ref row]) = H9 at *
    replace gB := gB.trans g9
    replace eL := g9 _ _ eL
    replace eu := g9 _ _ eu
    replace em := g9 _ _ em
    replace ew := g9 _ _ ew
    replace hcol := ColsAt.same g9 hcol
    replace er1 := g9 _ _ er1
    replace er2 := g9 _ _ er2
    replace er3 := g9 _ _ er3
    replace erow := g9 _ _ erow
    refine fun tb dtb ftb fdtb ntb => ?_
    have ztb := same_free gB ftb
    have hrow : DpAll K H9 [.ref row] [.tuple [.int n, .tuple [], .tuple [], .tuple []]] := .cons (.tup (SqT.of erow) (.cons (.int n) (.cons (.tup (SqT.of er1) .nil) (.cons (.tup (SqT.of er2) .nil) (.cons (.tup (SqT.of er3) .nil) .nil))))) .nil
    refine ⟨tb, dtb, col, [], [], [], .ref l, .seq [.tuple [.int n, .tuple [], .tuple [], .tuple []]], rfl, upd_same, ColsAt.same (made_start ftb fdtb) hcol, ⟨l, [.ref row], rfl, .inl (SqL.of (made_start ftb fdtb _ _ el)), dps_same (made_start ftb fdtb) _ _ hrow, (by show 1 ≤ 1000; decide)⟩, row_ok n, (fun _ a xs _ _ da G bG htab => ⟨rfl, ?_⟩), fun n9 e9 => by rw [tab_nil n n0 n2] at e9; cases e9⟩
    have hz := dps_insT (upd_same (a := tb)) bG (ds := [.tuple [.int n, .tuple [], .tuple [], .tuple []]]) rfl (da _ rfl)
    have gM := made_same ftb fdtb bG
    replace gB := gB.trans gM
    replace eL := gM _ _ eL
    replace eu := gM _ _ eu
    replace em := gM _ _ em
    replace ew := gM _ _ ew
    replace hcol := ColsAt.same gM hcol
    replace er1 := gM _ _ er1
    replace er2 := gM _ _ er2
    replace er3 := gM _ _ er3
    replace erow := gM _ _ erow
    replace el := gM _ _ el
    generalize hG : G = H10 at *
    clear hG gM
    obtain ⟨cdx, ct, cD, cu, hc1, hc2, hc3, hc4⟩ := hcol
    obtain ⟨tdx, tt, ht1, ht2⟩ := htab
    refine fun p fp => ?_
    have zp := same_free gB fp
    have nLp := ne_of_none eL fp
    have nup := ne_of_none eu fp
    have nmp := ne_of_none em fp
    have nwp := ne_of_none ew fp
    have nr1p := ne_of_none er1 fp
    have nr2p := ne_of_none er2 fp
    have nr3p := ne_of_none er3 fp
    have nrowp := ne_of_none erow fp
    have nlp := ne_of_none el fp
    have ncolp := ne_of_none hc1 fp
    have ncDp := ne_of_none hc3 fp
    have ntbp := ne_of_none ht1 fp
    have g11 := same_new fp (.dK [])
    have ep : upd H10 p (.dK []) p = some (.dK []) := upd_same
    generalize upd H10 p (.dK []) = H11 at *
    replace gB := gB.trans g11
    replace eL := g11 _ _ eL
    replace eu := g11 _ _ eu
    replace em := g11 _ _ em
    replace ew := g11 _ _ ew
    replace er1 := g11 _ _ er1
    replace er2 := g11 _ _ er2
    replace er3 := g11 _ _ er3
    replace erow := g11 _ _ erow
    replace el := g11 _ _ el
    replace hz := dps_same g11 _ _ hz
    replace hc1 := g11 _ _ hc1
    replace hc2 := Same.tup g11 hc2
    replace hc3 := g11 _ _ hc3
    replace hc4 := Same.tup g11 hc4
    replace ht1 := g11 _ _ ht1
    replace ht2 := Same.tup g11 ht2
    refine ⟨_, rfl, ?_⟩
    refine ⟨_, rfl, (by show 2 ≤ sizeLine; decide), fun t1 ft1 => ?_⟩
    have zt1 := same_free gB ft1
    have nLt1 := ne_of_none eL ft1
    have nut1 := ne_of_none eu ft1
    have nmt1 := ne_of_none em ft1
    have nwt1 := ne_of_none ew ft1
    have nr1t1 := ne_of_none er1 ft1
    have nr2t1 := ne_of_none er2 ft1
    have nr3t1 := ne_of_none er3 ft1
    have nrowt1 := ne_of_none erow ft1
    have nlt1 := ne_of_none el ft1
    have ncolt1 := ne_of_none hc1 ft1
    have ncDt1 := ne_of_none hc3 ft1
    have ntbt1 := ne_of_none ht1 ft1
    have npt1 := ne_of_none ep ft1
    have g12 := same_new ft1 (.tup [.int n, .int 1])
    have et1 : upd H11 t1 (.tup [.int n, .int 1]) t1 = some (.tup [.int n, .int 1]) := upd_same
    generalize upd H11 t1 (.tup [.int n, .int 1]) = H12 at *
    replace gB := gB.trans g12
    replace eL := g12 _ _ eL
    replace eu := g12 _ _ eu
    replace em := g12 _ _ em
    replace ew := g12 _ _ ew
    replace er1 := g12 _ _ er1
    replace er2 := g12 _ _ er2
    replace er3 := g12 _ _ er3
    replace erow := g12 _ _ erow
    replace el := g12 _ _ el
    replace hz := dps_same g12 _ _ hz
    replace hc1 := g12 _ _ hc1
    replace hc2 := Same.tup g12 hc2
    replace hc3 := g12 _ _ hc3
    replace hc4 := Same.tup g12 hc4
    replace ht1 := g12 _ _ ht1
    replace ht2 := Same.tup g12 ht2
    replace ep := g12 _ _ ep
    refine ⟨(by show 2 ≤ sizeLine; decide), fun t2 ft2 => ?_⟩
    have zt2 := same_free gB ft2
    have nLt2 := ne_of_none eL ft2
    have nut2 := ne_of_none eu ft2
    have nmt2 := ne_of_none em ft2
    have nwt2 := ne_of_none ew ft2
    have nr1t2 := ne_of_none er1 ft2
    have nr2t2 := ne_of_none er2 ft2
    have nr3t2 := ne_of_none er3 ft2
    have nrowt2 := ne_of_none erow ft2
    have nlt2 := ne_of_none el ft2
    have ncolt2 := ne_of_none hc1 ft2
    have ncDt2 := ne_of_none hc3 ft2
    have ntbt2 := ne_of_none ht1 ft2
    have npt2 := ne_of_none ep ft2
    have nt1t2 := ne_of_none et1 ft2
    have g13 := same_new ft2 (.tup [.int 1, .int 3])
    have et2 : upd H12 t2 (.tup [.int 1, .int 3]) t2 = some (.tup [.int 1, .int 3]) := upd_same
    generalize upd H12 t2 (.tup [.int 1, .int 3]) = H13 at *
    replace gB := gB.trans g13
    replace eL := g13 _ _ eL
    replace eu := g13 _ _ eu
    replace em := g13 _ _ em
    replace ew := g13 _ _ ew
    replace er1 := g13 _ _ er1
    replace er2 := g13 _ _ er2
    replace er3 := g13 _ _ er3
    replace erow := g13 _ _ erow
    replace el := g13 _ _ el
    replace hz := dps_same g13 _ _ hz
    replace hc1 := g13 _ _ hc1
    replace hc2 := Same.tup g13 hc2
    replace hc3 := g13 _ _ hc3
    replace hc4 := Same.tup g13 hc4
    replace ht1 := g13 _ _ ht1
    replace ht2 := Same.tup g13 ht2
    replace ep := g13 _ _ ep
    replace et1 := g13 _ _ et1
    refine ⟨(by show 2 ≤ sizeLine; decide), fun c fc => ?_⟩
    have zc := same_free gB fc
    have nLc := ne_of_none eL fc
    have nuc := ne_of_none eu fc
    have nmc := ne_of_none em fc
    have nwc := ne_of_none ew fc
    have nr1c := ne_of_none er1 fc
    have nr2c := ne_of_none er2 fc
    have nr3c := ne_of_none er3 fc
    have nrowc := ne_of_none erow fc
    have nlc := ne_of_none el fc
    have ncolc := ne_of_none hc1 fc
    have ncDc := ne_of_none hc3 fc
    have ntbc := ne_of_none ht1 fc
    have npc := ne_of_none ep fc
    have nt1c := ne_of_none et1 fc
    have nt2c := ne_of_none et2 fc
    have g14 := same_new fc (.tup [.ref t1, .ref t2])
    have ec : upd H13 c (.tup [.ref t1, .ref t2]) c = some (.tup [.ref t1, .ref t2]) := upd_same
    generalize upd H13 c (.tup [.ref t1, .ref t2]) = H14 at *
    replace gB := gB.trans g14
    replace eL := g14 _ _ eL
    replace eu := g14 _ _ eu
    replace em := g14 _ _ em
    replace ew := g14 _ _ ew
    replace er1 := g14 _ _ er1
    replace er2 := g14 _ _ er2
    replace er3 := g14 _ _ er3
    replace erow := g14 _ _ erow
    replace el := g14 _ _ el
    replace hz := dps_same g14 _ _ hz
    replace hc1 := g14 _ _ hc1
    replace hc2 := Same.tup g14 hc2
    replace hc3 := g14 _ _ hc3
    replace hc4 := Same.tup g14 hc4
    replace ht1 := g14 _ _ ht1
    replace ht2 := Same.tup g14 ht2
    replace ep := g14 _ _ ep
    replace et1 := g14 _ _ et1
    replace et2 := g14 _ _ et2
    refine ⟨(by show 2 ≤ sizeLine; decide), fun due fdue => ?_⟩
    have zdue := same_free gB fdue
    have nLdue := ne_of_none eL fdue
    have nudue := ne_of_none eu fdue
    have nmdue := ne_of_none em fdue
    have nwdue := ne_of_none ew fdue
    have nr1due := ne_of_none er1 fdue
    have nr2due := ne_of_none er2 fdue
    have nr3due := ne_of_none er3 fdue
    have nrowdue := ne_of_none erow fdue
    have nldue := ne_of_none el fdue
    have ncoldue := ne_of_none hc1 fdue
    have ncDdue := ne_of_none hc3 fdue
    have ntbdue := ne_of_none ht1 fdue
    have npdue := ne_of_none ep fdue
    have nt1due := ne_of_none et1 fdue
    have nt2due := ne_of_none et2 fdue
    have ncdue := ne_of_none ec fdue
    have g15 := same_new fdue (.tup [.ref tb, .ref c])
    have edue : upd H14 due (.tup [.ref tb, .ref c]) due = some (.tup [.ref tb, .ref c]) := upd_same
    generalize upd H14 due (.tup [.ref tb, .ref c]) = H15 at *
    replace gB := gB.trans g15
    replace eL := g15 _ _ eL
    replace eu := g15 _ _ eu
    replace em := g15 _ _ em
    replace ew := g15 _ _ ew
    replace er1 := g15 _ _ er1
    replace er2 := g15 _ _ er2
    replace er3 := g15 _ _ er3
    replace erow := g15 _ _ erow
    replace el := g15 _ _ el
    replace hz := dps_same g15 _ _ hz
    replace hc1 := g15 _ _ hc1
    replace hc2 := Same.tup g15 hc2
    replace hc3 := g15 _ _ hc3
    replace hc4 := Same.tup g15 hc4
    replace ht1 := g15 _ _ ht1
    replace ht2 := Same.tup g15 ht2
    replace ep := g15 _ _ ep
    replace et1 := g15 _ _ et1
    replace et2 := g15 _ _ et2
    replace ec := g15 _ _ ec
    refine ⟨_, rfl, ?_⟩
    refine ⟨_, rfl, (by show 2 ≤ sizeLine; decide), fun t3 ft3 => ?_⟩
    have zt3 := same_free gB ft3
    have nLt3 := ne_of_none eL ft3
    have nut3 := ne_of_none eu ft3
    have nmt3 := ne_of_none em ft3
    have nwt3 := ne_of_none ew ft3
    have nr1t3 := ne_of_none er1 ft3
    have nr2t3 := ne_of_none er2 ft3
    have nr3t3 := ne_of_none er3 ft3
    have nrowt3 := ne_of_none erow ft3
    have nlt3 := ne_of_none el ft3
    have ncolt3 := ne_of_none hc1 ft3
    have ncDt3 := ne_of_none hc3 ft3
    have ntbt3 := ne_of_none ht1 ft3
    have npt3 := ne_of_none ep ft3
    have nt1t3 := ne_of_none et1 ft3
    have nt2t3 := ne_of_none et2 ft3
    have nct3 := ne_of_none ec ft3
    have nduet3 := ne_of_none edue ft3
    have g16 := same_new ft3 (.tup [.int n, .int 1])
    have et3 : upd H15 t3 (.tup [.int n, .int 1]) t3 = some (.tup [.int n, .int 1]) := upd_same
    generalize upd H15 t3 (.tup [.int n, .int 1]) = H16 at *
    replace gB := gB.trans g16
    replace eL := g16 _ _ eL
    replace eu := g16 _ _ eu
    replace em := g16 _ _ em
    replace ew := g16 _ _ ew
    replace er1 := g16 _ _ er1
    replace er2 := g16 _ _ er2
    replace er3 := g16 _ _ er3
    replace erow := g16 _ _ erow
    replace el := g16 _ _ el
    replace hz := dps_same g16 _ _ hz
    replace hc1 := g16 _ _ hc1
    replace hc2 := Same.tup g16 hc2
    replace hc3 := g16 _ _ hc3
    replace hc4 := Same.tup g16 hc4
    replace ht1 := g16 _ _ ht1
    replace ht2 := Same.tup g16 ht2
    replace ep := g16 _ _ ep
    replace et1 := g16 _ _ et1
    replace et2 := g16 _ _ et2
    replace ec := g16 _ _ ec
    replace edue := g16 _ _ edue
    refine ⟨(by show 2 ≤ sizeLine; decide), fun t4 ft4 => ?_⟩
    have zt4 := same_free gB ft4
    have nLt4 := ne_of_none eL ft4
    have nut4 := ne_of_none eu ft4
    have nmt4 := ne_of_none em ft4
    have nwt4 := ne_of_none ew ft4
    have nr1t4 := ne_of_none er1 ft4
    have nr2t4 := ne_of_none er2 ft4
    have nr3t4 := ne_of_none er3 ft4
    have nrowt4 := ne_of_none erow ft4
    have nlt4 := ne_of_none el ft4
    have ncolt4 := ne_of_none hc1 ft4
    have ncDt4 := ne_of_none hc3 ft4
    have ntbt4 := ne_of_none ht1 ft4
    have npt4 := ne_of_none ep ft4
    have nt1t4 := ne_of_none et1 ft4
    have nt2t4 := ne_of_none et2 ft4
    have nct4 := ne_of_none ec ft4
    have nduet4 := ne_of_none edue ft4
    have nt3t4 := ne_of_none et3 ft4
    have g17 := same_new ft4 (.tup [.int 1, .int 3])
    have et4 : upd H16 t4 (.tup [.int 1, .int 3]) t4 = some (.tup [.int 1, .int 3]) := upd_same
    generalize upd H16 t4 (.tup [.int 1, .int 3]) = H17 at *
    replace gB := gB.trans g17
    replace eL := g17 _ _ eL
    replace eu := g17 _ _ eu
    replace em := g17 _ _ em
    replace ew := g17 _ _ ew
    replace er1 := g17 _ _ er1
    replace er2 := g17 _ _ er2
    replace er3 := g17 _ _ er3
    replace erow := g17 _ _ erow
    replace el := g17 _ _ el
    replace hz := dps_same g17 _ _ hz
    replace hc1 := g17 _ _ hc1
    replace hc2 := Same.tup g17 hc2
    replace hc3 := g17 _ _ hc3
    replace hc4 := Same.tup g17 hc4
    replace ht1 := g17 _ _ ht1
    replace ht2 := Same.tup g17 ht2
    replace ep := g17 _ _ ep
    replace et1 := g17 _ _ et1
    replace et2 := g17 _ _ et2
    replace ec := g17 _ _ ec
    replace edue := g17 _ _ edue
    replace et3 := g17 _ _ et3
    refine ⟨(by show 2 ≤ sizeLine; decide), fun c2 fc2 => ?_⟩
    have zc2 := same_free gB fc2
    have nLc2 := ne_of_none eL fc2
    have nuc2 := ne_of_none eu fc2
    have nmc2 := ne_of_none em fc2
    have nwc2 := ne_of_none ew fc2
    have nr1c2 := ne_of_none er1 fc2
    have nr2c2 := ne_of_none er2 fc2
    have nr3c2 := ne_of_none er3 fc2
    have nrowc2 := ne_of_none erow fc2
    have nlc2 := ne_of_none el fc2
    have ncolc2 := ne_of_none hc1 fc2
    have ncDc2 := ne_of_none hc3 fc2
    have ntbc2 := ne_of_none ht1 fc2
    have npc2 := ne_of_none ep fc2
    have nt1c2 := ne_of_none et1 fc2
    have nt2c2 := ne_of_none et2 fc2
    have ncc2 := ne_of_none ec fc2
    have nduec2 := ne_of_none edue fc2
    have nt3c2 := ne_of_none et3 fc2
    have nt4c2 := ne_of_none et4 fc2
    have g18 := same_new fc2 (.tup [.ref t3, .ref t4])
    have ec2 : upd H17 c2 (.tup [.ref t3, .ref t4]) c2 = some (.tup [.ref t3, .ref t4]) := upd_same
    generalize upd H17 c2 (.tup [.ref t3, .ref t4]) = H18 at *
    replace gB := gB.trans g18
    replace eL := g18 _ _ eL
    replace eu := g18 _ _ eu
    replace em := g18 _ _ em
    replace ew := g18 _ _ ew
    replace er1 := g18 _ _ er1
    replace er2 := g18 _ _ er2
    replace er3 := g18 _ _ er3
    replace erow := g18 _ _ erow
    replace el := g18 _ _ el
    replace hz := dps_same g18 _ _ hz
    replace hc1 := g18 _ _ hc1
    replace hc2 := Same.tup g18 hc2
    replace hc3 := g18 _ _ hc3
    replace hc4 := Same.tup g18 hc4
    replace ht1 := g18 _ _ ht1
    replace ht2 := Same.tup g18 ht2
    replace ep := g18 _ _ ep
    replace et1 := g18 _ _ et1
    replace et2 := g18 _ _ et2
    replace ec := g18 _ _ ec
    replace edue := g18 _ _ edue
    replace et3 := g18 _ _ et3
    replace et4 := g18 _ _ et4
    refine fun x dx fx fdx nx => ?_
    refine ⟨x, dx, .ref tb, c2, _, rfl, upd_same, .inr (SqT.of (made_start fx fdx _ _ ec2)), fun u2 G bG ex eu2 => ⟨rfl, ?_⟩⟩
    have gM := made_same fx fdx bG
    replace gB := gB.trans gM
    replace eL := gM _ _ eL
    replace eu := gM _ _ eu
    replace em := gM _ _ em
    replace ew := gM _ _ ew
    replace er1 := gM _ _ er1
    replace er2 := gM _ _ er2
    replace er3 := gM _ _ er3
    replace erow := gM _ _ erow
    replace el := gM _ _ el
    replace hz := dps_same gM _ _ hz
    replace hc1 := gM _ _ hc1
    replace hc2 := Same.tup gM hc2
    replace hc3 := gM _ _ hc3
    replace hc4 := Same.tup gM hc4
    replace ht1 := gM _ _ ht1
    replace ht2 := Same.tup gM ht2
    replace ep := gM _ _ ep
    replace et1 := gM _ _ et1
    replace et2 := gM _ _ et2
    replace ec := gM _ _ ec
    replace edue := gM _ _ edue
    replace et3 := gM _ _ et3
    replace et4 := gM _ _ et4
    replace ec2 := gM _ _ ec2
    generalize hG : G = H19 at *
    clear hG gM
    refine ⟨(by show 3 ≤ sizeLine; decide), fun t ft => ?_⟩
    have zt := same_free gB ft
    have nLt := ne_of_none eL ft
    have nut := ne_of_none eu ft
    have nmt := ne_of_none em ft
    have nwt := ne_of_none ew ft
    have nr1t := ne_of_none er1 ft
    have nr2t := ne_of_none er2 ft
    have nr3t := ne_of_none er3 ft
    have nrowt := ne_of_none erow ft
    have nlt := ne_of_none el ft
    have ncolt := ne_of_none hc1 ft
    have ncDt := ne_of_none hc3 ft
    have ntbt := ne_of_none ht1 ft
    have npt := ne_of_none ep ft
    have nt1t := ne_of_none et1 ft
    have nt2t := ne_of_none et2 ft
    have nct := ne_of_none ec ft
    have nduet := ne_of_none edue ft
    have nt3t := ne_of_none et3 ft
    have nt4t := ne_of_none et4 ft
    have nc2t := ne_of_none ec2 ft
    have nxt := ne_of_none ex ft
    have g20 := same_new ft (.tup [.ref p, .ref due, .ref x])
    have et : upd H19 t (.tup [.ref p, .ref due, .ref x]) t = some (.tup [.ref p, .ref due, .ref x]) := upd_same
    generalize upd H19 t (.tup [.ref p, .ref due, .ref x]) = H20 at *
    replace gB := gB.trans g20
    replace eL := g20 _ _ eL
    replace eu := g20 _ _ eu
    replace em := g20 _ _ em
    replace ew := g20 _ _ ew
    replace er1 := g20 _ _ er1
    replace er2 := g20 _ _ er2
    replace er3 := g20 _ _ er3
    replace erow := g20 _ _ erow
    replace el := g20 _ _ el
    replace hz := dps_same g20 _ _ hz
    replace hc1 := g20 _ _ hc1
    replace hc2 := Same.tup g20 hc2
    replace hc3 := g20 _ _ hc3
    replace hc4 := Same.tup g20 hc4
    replace ht1 := g20 _ _ ht1
    replace ht2 := Same.tup g20 ht2
    replace ep := g20 _ _ ep
    replace et1 := g20 _ _ et1
    replace et2 := g20 _ _ et2
    replace ec := g20 _ _ ec
    replace edue := g20 _ _ edue
    replace et3 := g20 _ _ et3
    replace et4 := g20 _ _ et4
    replace ec2 := g20 _ _ ec2
    replace ex := g20 _ _ ex
    replace eu2 := Same.tup g20 eu2
    have hDn := hD.same gB
    have O : ∀ {x : Addr} {o : HO}, H20 x = some o → (∀ ys, o ≠ .lst ys) → x ≠ p → dels [d, p] H20 x = some o := fun hx n np => off_dp hDn hx n np
    have hP : PartAt H20 p := .inl ⟨_, ep, (by show 0 ≤ 15; decide)⟩
    have OT : ∀ {x : Addr} {xs : List V}, H20 x = some (.tup xs) → SqT K (dels [d, p] H20) x xs := fun hx => off_tup hDn hP (SqT.of hx)
    have OS : ∀ {x : Addr} {xs : List V}, SqT K H20 x xs → SqT K (dels [d, p] H20) x xs := fun hx => off_tup hDn hP hx
    have OO : ∀ {x : Addr} {xs : List V}, H20 x = some (.tup xs) → dels [d, p] H20 x = some (.tup xs) := fun hx => (off_tup_at hDn hP hx)
    have OI : ∀ {x C dx : Addr} {fs : List (Str × V)}, H20 x = some (.ins C dx fs) → dels [d, p] H20 x = some (.ins C dx fs) := fun hx => O hx (fun _ z => by cases z) (ne_of hx ep (fun z => by cases z))
    have OK : ∀ {x : Addr} {kvs : List (Key × V)}, H20 x = some (.dK kvs) → x ≠ p → dels [d, p] H20 x = some (.dK kvs) := fun hx np => O hx (fun _ z => by cases z) np
    have OD : ∀ {x : Addr} {kvs : List (List Key × V)}, H20 x = some (.dT kvs) → x ≠ p → dels [d, p] H20 x = some (.dT kvs) := fun hx np => O hx (fun _ z => by cases z) np
    refine fin t p due x [tb] H20 gB et hP zp (.e2 (OI ex) ⟨tdx, tt, OI ht1, OS ht2⟩ (OT edue) ⟨cdx, ct, cD, cu, OI hc1, OS hc2, OK hc3 ncDp, OS hc4⟩ (dps_tups (fun _ _ h => OS h) _ _ rfl hz) (dp_pairs (OT ec) (OT et1) (OT et2)) (dp_pairs (OS eu2) (OT et3) (OT et4))) ?_
    exact fun y hy => by
      obtain rfl := List.mem_singleton.mp hy
      exact ztb
  | n3 =>
    refine ⟨_, rfl, rfl, _, rfl, iteF ⟨_, rfl, rfl, _, rfl, iteF ⟨_, rfl, rfl, _, rfl, iteF ⟨_, rfl, rfl, _, rfl, iteT ?_⟩⟩⟩⟩
    have gB := Same.refl HB
    refine fun p fp => ?_
    have zp := same_free gB fp
    have nLp := ne_of_none eL fp
    have g1 := same_new fp (.dT [])
    have ep : upd HB p (.dT []) p = some (.dT []) := upd_same
    generalize upd HB p (.dT []) = H1 at *
    replace gB := gB.trans g1
    replace eL := g1 _ _ eL
    refine ⟨(by show 2 ≤ sizeLine; decide), fun q1 fq1 => ?_⟩
    have zq1 := same_free gB fq1
    have npq1 := ne_of_none ep fq1
    have nLq1 := ne_of_none eL fq1
    have g2 := same_new fq1 (.tup [.str "row", .str "s"])
    have eq1 : upd H1 q1 (.tup [.str "row", .str "s"]) q1 = some (.tup [.str "row", .str "s"]) := upd_same
    generalize upd H1 q1 (.tup [.str "row", .str "s"]) = H2 at *
    replace gB := gB.trans g2
    replace eL := g2 _ _ eL
    replace ep := g2 _ _ ep
    refine ⟨_, rfl, (by show 2 ≤ sizeLine; decide), fun v1 fv1 => ?_⟩
    have zv1 := same_free gB fv1
    have npv1 := ne_of_none ep fv1
    have nLv1 := ne_of_none eL fv1
    have nq1v1 := ne_of_none eq1 fv1
    have g3 := same_new fv1 (.tup [.int n, .int 2])
    have ev1 : upd H2 v1 (.tup [.int n, .int 2]) v1 = some (.tup [.int n, .int 2]) := upd_same
    generalize upd H2 v1 (.tup [.int n, .int 2]) = H3 at *
    replace gB := gB.trans g3
    replace eL := g3 _ _ eL
    replace ep := g3 _ _ ep
    replace eq1 := g3 _ _ eq1
    refine ⟨(by show 2 ≤ sizeLine; decide), fun q2 fq2 => ?_⟩
    have zq2 := same_free gB fq2
    have npq2 := ne_of_none ep fq2
    have nLq2 := ne_of_none eL fq2
    have nq1q2 := ne_of_none eq1 fq2
    have nv1q2 := ne_of_none ev1 fq2
    have g4 := same_new fq2 (.tup [.str "block", .str "s"])
    have eq2 : upd H3 q2 (.tup [.str "block", .str "s"]) q2 = some (.tup [.str "block", .str "s"]) := upd_same
    generalize upd H3 q2 (.tup [.str "block", .str "s"]) = H4 at *
    replace gB := gB.trans g4
    replace eL := g4 _ _ eL
    replace ep := g4 _ _ ep
    replace eq1 := g4 _ _ eq1
    replace ev1 := g4 _ _ ev1
    refine ⟨(by show 2 ≤ sizeLine; decide), fun v2 fv2 => ?_⟩
    have zv2 := same_free gB fv2
    have npv2 := ne_of_none ep fv2
    have nLv2 := ne_of_none eL fv2
    have nq1v2 := ne_of_none eq1 fv2
    have nv1v2 := ne_of_none ev1 fv2
    have nq2v2 := ne_of_none eq2 fv2
    have g5 := same_new fv2 (.tup [.int 0, .int 1])
    have ev2 : upd H4 v2 (.tup [.int 0, .int 1]) v2 = some (.tup [.int 0, .int 1]) := upd_same
    generalize upd H4 v2 (.tup [.int 0, .int 1]) = H5 at *
    replace gB := gB.trans g5
    replace eL := g5 _ _ eL
    replace ep := g5 _ _ ep
    replace eq1 := g5 _ _ eq1
    replace ev1 := g5 _ _ ev1
    replace eq2 := g5 _ _ eq2
    refine ⟨ep, ([(kRS, q1, .ref v1), (kBS, q2, .ref v2)] : List (List Key × Addr × V)), rfl, (fun y hy => by
      simp only [List.mem_cons, List.not_mem_nil, or_false] at hy
      rcases hy with rfl | rfl
      · exact eq1
      · exact eq2), (show [kRS, kBS].Nodup from by decide +kernel), (by show 2 ≤ 15; decide), ?_⟩
    rw [show (List.map (fun (r : List Key × Addr × V) => (r.1, r.2.2)) [(kRS, q1, .ref v1), (kBS, q2, .ref v2)]) = [(kRS, .ref v1), (kBS, .ref v2)] from rfl]
    replace eL := (upd_ne (o := .dT [(kRS, .ref v1), (kBS, .ref v2)]) (by first | exact nLp | exact Ne.symm npL)).trans eL
    replace eq1 := (upd_ne (o := .dT [(kRS, .ref v1), (kBS, .ref v2)]) (by first | exact nq1p | exact Ne.symm npq1)).trans eq1
    replace ev1 := (upd_ne (o := .dT [(kRS, .ref v1), (kBS, .ref v2)]) (by first | exact nv1p | exact Ne.symm npv1)).trans ev1
    replace eq2 := (upd_ne (o := .dT [(kRS, .ref v1), (kBS, .ref v2)]) (by first | exact nq2p | exact Ne.symm npq2)).trans eq2
    replace ev2 := (upd_ne (o := .dT [(kRS, .ref v1), (kBS, .ref v2)]) (by first | exact nv2p | exact Ne.symm npv2)).trans ev2
    replace gB := same_upd (o := .dT [(kRS, .ref v1), (kBS, .ref v2)]) gB zp
    replace ep : upd H5 p (.dT [(kRS, .ref v1), (kBS, .ref v2)]) p = some (.dT [(kRS, .ref v1), (kBS, .ref v2)]) := upd_same
    generalize upd H5 p (.dT [(kRS, .ref v1), (kBS, .ref v2)]) = H6 at *
    refine ⟨_, rfl, ?_⟩
    refine ⟨_, rfl, L, _, rfl, .inl ⟨SqL.of eL, fun a fa => ?_⟩⟩
    have za := same_free gB fa
    have nLa := ne_of_none eL fa
    have npa := ne_of_none ep fa
    have nq1a := ne_of_none eq1 fa
    have nv1a := ne_of_none ev1 fa
    have nq2a := ne_of_none eq2 fa
    have nv2a := ne_of_none ev2 fa
    have g7 := same_new fa (.tup (r.map V.int))
    have ea : upd H6 a (.tup (r.map V.int)) a = some (.tup (r.map V.int)) := upd_same
    generalize upd H6 a (.tup (r.map V.int)) = H7 at *
    replace gB := gB.trans g7
    replace eL := g7 _ _ eL
    replace ep := g7 _ _ ep
    replace eq1 := g7 _ _ eq1
    replace ev1 := g7 _ _ ev1
    replace eq2 := g7 _ _ eq2
    replace ev2 := g7 _ _ ev2
    refine fun q fq => ?_
    have zq := same_free gB fq
    have nLq := ne_of_none eL fq
    have npq := ne_of_none ep fq
    have nq1q := ne_of_none eq1 fq
    have nv1q := ne_of_none ev1 fq
    have nq2q := ne_of_none eq2 fq
    have nv2q := ne_of_none ev2 fq
    have naq := ne_of_none ea fq
    have g8 := same_new fq (.dT [])
    have eq : upd H7 q (.dT []) q = some (.dT []) := upd_same
    generalize upd H7 q (.dT []) = H8 at *
    replace gB := gB.trans g8
    replace eL := g8 _ _ eL
    replace ep := g8 _ _ ep
    replace eq1 := g8 _ _ eq1
    replace ev1 := g8 _ _ ev1
    replace eq2 := g8 _ _ eq2
    replace ev2 := g8 _ _ ev2
    replace ea := g8 _ _ ea
    refine ⟨(by show 2 ≤ sizeLine; decide), fun q3 fq3 => ?_⟩
    have zq3 := same_free gB fq3
    have nqq3 := ne_of_none eq fq3
    have nLq3 := ne_of_none eL fq3
    have npq3 := ne_of_none ep fq3
    have nq1q3 := ne_of_none eq1 fq3
    have nv1q3 := ne_of_none ev1 fq3
    have nq2q3 := ne_of_none eq2 fq3
    have nv2q3 := ne_of_none ev2 fq3
    have naq3 := ne_of_none ea fq3
    have g9 := same_new fq3 (.tup [.str "block", .str "s"])
    have eq3 : upd H8 q3 (.tup [.str "block", .str "s"]) q3 = some (.tup [.str "block", .str "s"]) := upd_same
    generalize upd H8 q3 (.tup [.str "block", .str "s"]) = H9 at *
    replace gB := gB.trans g9
    replace eL := g9 _ _ eL
    replace ep := g9 _ _ ep
    replace eq1 := g9 _ _ eq1
    replace ev1 := g9 _ _ ev1
    replace eq2 := g9 _ _ eq2
    replace ev2 := g9 _ _ ev2
    replace ea := g9 _ _ ea
    replace eq := g9 _ _ eq
    refine ⟨(by show 2 ≤ sizeLine; decide), fun v3 fv3 => ?_⟩
    have zv3 := same_free gB fv3
    have nqv3 := ne_of_none eq fv3
    have nLv3 := ne_of_none eL fv3
    have npv3 := ne_of_none ep fv3
    have nq1v3 := ne_of_none eq1 fv3
    have nv1v3 := ne_of_none ev1 fv3
    have nq2v3 := ne_of_none eq2 fv3
    have nv2v3 := ne_of_none ev2 fv3
    have nav3 := ne_of_none ea fv3
    have nq3v3 := ne_of_none eq3 fv3
    have g10 := same_new fv3 (.tup [.int 0, .int 1])
    have ev3 : upd H9 v3 (.tup [.int 0, .int 1]) v3 = some (.tup [.int 0, .int 1]) := upd_same
    generalize upd H9 v3 (.tup [.int 0, .int 1]) = H10 at *
    replace gB := gB.trans g10
    replace eL := g10 _ _ eL
    replace ep := g10 _ _ ep
    replace eq1 := g10 _ _ eq1
    replace ev1 := g10 _ _ ev1
    replace eq2 := g10 _ _ eq2
    replace ev2 := g10 _ _ ev2
    replace ea := g10 _ _ ea
    replace eq := g10 _ _ eq
    replace eq3 := g10 _ _ eq3
    refine ⟨(by show 2 ≤ sizeLine; decide), fun q4 fq4 => ?_⟩
    have zq4 := same_free gB fq4
    have nqq4 := ne_of_none eq fq4
    have nLq4 := ne_of_none eL fq4
    have npq4 := ne_of_none ep fq4
    have nq1q4 := ne_of_none eq1 fq4
    have nv1q4 := ne_of_none ev1 fq4
    have nq2q4 := ne_of_none eq2 fq4
    have nv2q4 := ne_of_none ev2 fq4
    have naq4 := ne_of_none ea fq4
    have nq3q4 := ne_of_none eq3 fq4
    have nv3q4 := ne_of_none ev3 fq4
    have g11 := same_new fq4 (.tup [.str "row", .str "s"])
    have eq4 : upd H10 q4 (.tup [.str "row", .str "s"]) q4 = some (.tup [.str "row", .str "s"]) := upd_same
    generalize upd H10 q4 (.tup [.str "row", .str "s"]) = H11 at *
    replace gB := gB.trans g11
    replace eL := g11 _ _ eL
    replace ep := g11 _ _ ep
    replace eq1 := g11 _ _ eq1
    replace ev1 := g11 _ _ ev1
    replace eq2 := g11 _ _ eq2
    replace ev2 := g11 _ _ ev2
    replace ea := g11 _ _ ea
    replace eq := g11 _ _ eq
    replace eq3 := g11 _ _ eq3
    replace ev3 := g11 _ _ ev3
    refine ⟨_, rfl, (by show 2 ≤ sizeLine; decide), fun v4 fv4 => ?_⟩
    have zv4 := same_free gB fv4
    have nqv4 := ne_of_none eq fv4
    have nLv4 := ne_of_none eL fv4
    have npv4 := ne_of_none ep fv4
    have nq1v4 := ne_of_none eq1 fv4
    have nv1v4 := ne_of_none ev1 fv4
    have nq2v4 := ne_of_none eq2 fv4
    have nv2v4 := ne_of_none ev2 fv4
    have nav4 := ne_of_none ea fv4
    have nq3v4 := ne_of_none eq3 fv4
    have nv3v4 := ne_of_none ev3 fv4
    have nq4v4 := ne_of_none eq4 fv4
    have g12 := same_new fv4 (.tup [.int n, .int 2])
    have ev4 : upd H11 v4 (.tup [.int n, .int 2]) v4 = some (.tup [.int n, .int 2]) := upd_same
    generalize upd H11 v4 (.tup [.int n, .int 2]) = H12 at *
    replace gB := gB.trans g12
    replace eL := g12 _ _ eL
    replace ep := g12 _ _ ep
    replace eq1 := g12 _ _ eq1
    replace ev1 := g12 _ _ ev1
    replace eq2 := g12 _ _ eq2
    replace ev2 := g12 _ _ ev2
    replace ea := g12 _ _ ea
    replace eq := g12 _ _ eq
    replace eq3 := g12 _ _ eq3
    replace ev3 := g12 _ _ ev3
    replace eq4 := g12 _ _ eq4
    refine ⟨eq, ([(kBS, q3, .ref v3), (kRS, q4, .ref v4)] : List (List Key × Addr × V)), rfl, (fun y hy => by
      simp only [List.mem_cons, List.not_mem_nil, or_false] at hy
      rcases hy with rfl | rfl
      · exact eq3
      · exact eq4), (show [kBS, kRS].Nodup from by decide +kernel), (by show 2 ≤ 15; decide), ?_⟩
    rw [show (List.map (fun (r : List Key × Addr × V) => (r.1, r.2.2)) [(kBS, q3, .ref v3), (kRS, q4, .ref v4)]) = [(kBS, .ref v3), (kRS, .ref v4)] from rfl]
    replace eL := (upd_ne (o := .dT [(kBS, .ref v3), (kRS, .ref v4)]) (by first | exact nLq | exact Ne.symm nqL)).trans eL
    replace ep := (upd_ne (o := .dT [(kBS, .ref v3), (kRS, .ref v4)]) (by first | exact npq | exact Ne.symm nqp)).trans ep
    replace eq1 := (upd_ne (o := .dT [(kBS, .ref v3), (kRS, .ref v4)]) (by first | exact nq1q | exact Ne.symm nqq1)).trans eq1
    replace ev1 := (upd_ne (o := .dT [(kBS, .ref v3), (kRS, .ref v4)]) (by first | exact nv1q | exact Ne.symm nqv1)).trans ev1
    replace eq2 := (upd_ne (o := .dT [(kBS, .ref v3), (kRS, .ref v4)]) (by first | exact nq2q | exact Ne.symm nqq2)).trans eq2
    replace ev2 := (upd_ne (o := .dT [(kBS, .ref v3), (kRS, .ref v4)]) (by first | exact nv2q | exact Ne.symm nqv2)).trans ev2
    replace ea := (upd_ne (o := .dT [(kBS, .ref v3), (kRS, .ref v4)]) (by first | exact naq | exact Ne.symm nqa)).trans ea
    replace eq3 := (upd_ne (o := .dT [(kBS, .ref v3), (kRS, .ref v4)]) (by first | exact nq3q | exact Ne.symm nqq3)).trans eq3
    replace ev3 := (upd_ne (o := .dT [(kBS, .ref v3), (kRS, .ref v4)]) (by first | exact nv3q | exact Ne.symm nqv3)).trans ev3
    replace eq4 := (upd_ne (o := .dT [(kBS, .ref v3), (kRS, .ref v4)]) (by first | exact nq4q | exact Ne.symm nqq4)).trans eq4
    replace ev4 := (upd_ne (o := .dT [(kBS, .ref v3), (kRS, .ref v4)]) (by first | exact nv4q | exact Ne.symm nqv4)).trans ev4
    replace gB := same_upd (o := .dT [(kBS, .ref v3), (kRS, .ref v4)]) gB zq
    replace eq : upd H12 q (.dT [(kBS, .ref v3), (kRS, .ref v4)]) q = some (.dT [(kBS, .ref v3), (kRS, .ref v4)]) := upd_same
    generalize upd H12 q (.dT [(kBS, .ref v3), (kRS, .ref v4)]) = H13 at *
    refine ⟨(by show 2 ≤ sizeLine; decide), fun due fdue => ?_⟩
    have zdue := same_free gB fdue
    have nLdue := ne_of_none eL fdue
    have npdue := ne_of_none ep fdue
    have nq1due := ne_of_none eq1 fdue
    have nv1due := ne_of_none ev1 fdue
    have nq2due := ne_of_none eq2 fdue
    have nv2due := ne_of_none ev2 fdue
    have nadue := ne_of_none ea fdue
    have nqdue := ne_of_none eq fdue
    have nq3due := ne_of_none eq3 fdue
    have nv3due := ne_of_none ev3 fdue
    have nq4due := ne_of_none eq4 fdue
    have nv4due := ne_of_none ev4 fdue
    have g14 := same_new fdue (.tup [.ref a, .ref q])
    have edue : upd H13 due (.tup [.ref a, .ref q]) due = some (.tup [.ref a, .ref q]) := upd_same
    generalize upd H13 due (.tup [.ref a, .ref q]) = H14 at *
    replace gB := gB.trans g14
    replace eL := g14 _ _ eL
    replace ep := g14 _ _ ep
    replace eq1 := g14 _ _ eq1
    replace ev1 := g14 _ _ ev1
    replace eq2 := g14 _ _ eq2
    replace ev2 := g14 _ _ ev2
    replace ea := g14 _ _ ea
    replace eq := g14 _ _ eq
    replace eq3 := g14 _ _ eq3
    replace ev3 := g14 _ _ ev3
    replace eq4 := g14 _ _ eq4
    replace ev4 := g14 _ _ ev4
    refine ⟨_, rfl, _, rfl, fun x dx fx fdx nx => ?_⟩
    refine ⟨x, dx, L, p, _, _, rfl, upd_same, .inl (SqL.of (made_start fx fdx _ _ eL)), made_start fx fdx _ _ ep, (show [kRS, kBS].Nodup from by decide +kernel), (by show 2 ≤ 15; decide), fun u D G bG ex eD fD eu => ⟨rfl, ?_⟩⟩
    have fD2 := same_free (made_start fx fdx) fD
    have npD := ne_of_none ep fD2
    have nqD := ne_of_none eq fD2
    have gM := made_same fx fdx bG
    replace gB := gB.trans gM
    replace eL := gM _ _ eL
    replace ep := gM _ _ ep
    replace eq1 := gM _ _ eq1
    replace ev1 := gM _ _ ev1
    replace eq2 := gM _ _ eq2
    replace ev2 := gM _ _ ev2
    replace ea := gM _ _ ea
    replace eq := gM _ _ eq
    replace eq3 := gM _ _ eq3
    replace ev3 := gM _ _ ev3
    replace eq4 := gM _ _ eq4
    replace ev4 := gM _ _ ev4
    replace edue := gM _ _ edue
    generalize hG : G = H15 at *
    clear hG gM
    refine ⟨(by show 3 ≤ sizeLine; decide), fun t ft => ?_⟩
    have zt := same_free gB ft
    have nLt := ne_of_none eL ft
    have npt := ne_of_none ep ft
    have nq1t := ne_of_none eq1 ft
    have nv1t := ne_of_none ev1 ft
    have nq2t := ne_of_none eq2 ft
    have nv2t := ne_of_none ev2 ft
    have nat := ne_of_none ea ft
    have nqt := ne_of_none eq ft
    have nq3t := ne_of_none eq3 ft
    have nv3t := ne_of_none ev3 ft
    have nq4t := ne_of_none eq4 ft
    have nv4t := ne_of_none ev4 ft
    have nduet := ne_of_none edue ft
    have nxt := ne_of_none ex ft
    have nDt := ne_of_none eD ft
    have g16 := same_new ft (.tup [.ref p, .ref due, .ref x])
    have et : upd H15 t (.tup [.ref p, .ref due, .ref x]) t = some (.tup [.ref p, .ref due, .ref x]) := upd_same
    generalize upd H15 t (.tup [.ref p, .ref due, .ref x]) = H16 at *
    replace gB := gB.trans g16
    replace eL := g16 _ _ eL
    replace ep := g16 _ _ ep
    replace eq1 := g16 _ _ eq1
    replace ev1 := g16 _ _ ev1
    replace eq2 := g16 _ _ eq2
    replace ev2 := g16 _ _ ev2
    replace ea := g16 _ _ ea
    replace eq := g16 _ _ eq
    replace eq3 := g16 _ _ eq3
    replace ev3 := g16 _ _ ev3
    replace eq4 := g16 _ _ eq4
    replace ev4 := g16 _ _ ev4
    replace edue := g16 _ _ edue
    replace ex := g16 _ _ ex
    replace eD := g16 _ _ eD
    replace eu := Same.tup g16 eu
    have hDn := hD.same gB
    have O : ∀ {x : Addr} {o : HO}, H16 x = some o → (∀ ys, o ≠ .lst ys) → x ≠ p → dels [d, p] H16 x = some o := fun hx n np => off_dp hDn hx n np
    have hP : PartAt H16 p := .inr ⟨_, ep, (by simp), (by show 2 ≤ 15; decide), sh_keys⟩
    have OT : ∀ {x : Addr} {xs : List V}, H16 x = some (.tup xs) → SqT K (dels [d, p] H16) x xs := fun hx => off_tup hDn hP (SqT.of hx)
    have OS : ∀ {x : Addr} {xs : List V}, SqT K H16 x xs → SqT K (dels [d, p] H16) x xs := fun hx => off_tup hDn hP hx
    have OO : ∀ {x : Addr} {xs : List V}, H16 x = some (.tup xs) → dels [d, p] H16 x = some (.tup xs) := fun hx => (off_tup_at hDn hP hx)
    have OI : ∀ {x C dx : Addr} {fs : List (Str × V)}, H16 x = some (.ins C dx fs) → dels [d, p] H16 x = some (.ins C dx fs) := fun hx => O hx (fun _ z => by cases z) (ne_of hx ep (fun z => by cases z))
    have OK : ∀ {x : Addr} {kvs : List (Key × V)}, H16 x = some (.dK kvs) → x ≠ p → dels [d, p] H16 x = some (.dK kvs) := fun hx np => O hx (fun _ z => by cases z) np
    have OD : ∀ {x : Addr} {kvs : List (List Key × V)}, H16 x = some (.dT kvs) → x ≠ p → dels [d, p] H16 x = some (.dT kvs) := fun hx np => O hx (fun _ z => by cases z) np
    refine fin t p due x [q] H16 gB et hP zp (.e3 (OI ex) (OD eD (Ne.symm npD)) (OT edue) (OD eq (Ne.symm npq)) (dp_pair (OT ev1)) (dp_pair (OT ev2)) (dp_pair (OT ev4)) (dp_pair (OT ev3)) (dp_rD (OT ea)) (dp_rD (OS eu)) (Ne.symm nqD)) ?_
    exact fun y hy => by
      obtain rfl := List.mem_singleton.mp hy
      exact zq
  | n4 =>
    refine ⟨_, rfl, rfl, _, rfl, iteF ⟨_, rfl, rfl, _, rfl, iteF ⟨_, rfl, rfl, _, rfl, iteF ⟨_, rfl, rfl, _, rfl, iteF ⟨_, rfl, rfl, _, rfl, iteT ?_⟩⟩⟩⟩⟩
    have gB := Same.refl HB
    refine fun p fp => ?_
    have zp := same_free gB fp
    have nLp := ne_of_none eL fp
    have g1 := same_new fp (.dK [])
    have ep : upd HB p (.dK []) p = some (.dK []) := upd_same
    generalize upd HB p (.dK []) = H1 at *
    replace gB := gB.trans g1
    replace eL := g1 _ _ eL
    refine ⟨_, rfl, fun m fm => ?_⟩
    have zm := same_free gB fm
    have npm := ne_of_none ep fm
    have nLm := ne_of_none eL fm
    have g2 := same_new fm (.dK [])
    have em : upd H1 m (.dK []) m = some (.dK []) := upd_same
    generalize upd H1 m (.dK []) = H2 at *
    replace gB := gB.trans g2
    replace eL := g2 _ _ eL
    replace ep := g2 _ _ ep
    refine ⟨(by show 2 ≤ sizeLine; decide), fun t1 ft1 => ?_⟩
    have zt1 := same_free gB ft1
    have npt1 := ne_of_none ep ft1
    have nLt1 := ne_of_none eL ft1
    have nmt1 := ne_of_none em ft1
    have g3 := same_new ft1 (.tup [.int 0, .int 1])
    have et1 : upd H2 t1 (.tup [.int 0, .int 1]) t1 = some (.tup [.int 0, .int 1]) := upd_same
    generalize upd H2 t1 (.tup [.int 0, .int 1]) = H3 at *
    replace gB := gB.trans g3
    replace eL := g3 _ _ eL
    replace ep := g3 _ _ ep
    replace em := g3 _ _ em
    refine ⟨(by show 2 ≤ sizeLine; decide), fun t2 ft2 => ?_⟩
    have zt2 := same_free gB ft2
    have npt2 := ne_of_none ep ft2
    have nLt2 := ne_of_none eL ft2
    have nmt2 := ne_of_none em ft2
    have nt1t2 := ne_of_none et1 ft2
    have g4 := same_new ft2 (.tup [.int 1, .int 2])
    have et2 : upd H3 t2 (.tup [.int 1, .int 2]) t2 = some (.tup [.int 1, .int 2]) := upd_same
    generalize upd H3 t2 (.tup [.int 1, .int 2]) = H4 at *
    replace gB := gB.trans g4
    replace eL := g4 _ _ eL
    replace ep := g4 _ _ ep
    replace em := g4 _ _ em
    replace et1 := g4 _ _ et1
    refine ⟨(by show 2 ≤ sizeLine; decide), fun c fc => ?_⟩
    have zc := same_free gB fc
    have npc := ne_of_none ep fc
    have nLc := ne_of_none eL fc
    have nmc := ne_of_none em fc
    have nt1c := ne_of_none et1 fc
    have nt2c := ne_of_none et2 fc
    have g5 := same_new fc (.tup [.ref t1, .ref t2])
    have ec : upd H4 c (.tup [.ref t1, .ref t2]) c = some (.tup [.ref t1, .ref t2]) := upd_same
    generalize upd H4 c (.tup [.ref t1, .ref t2]) = H5 at *
    replace gB := gB.trans g5
    replace eL := g5 _ _ eL
    replace ep := g5 _ _ ep
    replace em := g5 _ _ em
    replace et1 := g5 _ _ et1
    replace et2 := g5 _ _ et2
    refine fun U dU fU fdU nU => ?_
    refine ⟨U, dU, .int 0, m, c, [], _, rfl, upd_same, made_start fU fdU _ _ em, List.nodup_nil, (by show 0 ≤ 15; decide), .inr (SqT.of (made_start fU fdU _ _ ec)), fun D u G bG eU eD fD eu => ⟨rfl, ?_⟩⟩
    have npU := ne_of_none ep fU
    have fD2 := same_free (made_start fU fdU) fD
    have npD := ne_of_none ep fD2
    have gM := made_same fU fdU bG
    replace gB := gB.trans gM
    replace eL := gM _ _ eL
    replace ep := gM _ _ ep
    replace em := gM _ _ em
    replace et1 := gM _ _ et1
    replace et2 := gM _ _ et2
    replace ec := gM _ _ ec
    generalize hG : G = H6 at *
    clear hG gM
    refine ⟨ep, [(.inl n, .ref U)], rfl, (by show 1 ≤ 15; decide), ?_⟩
    rw [merge1]
    replace eL := (upd_ne (o := .dK [(.inl n, .ref U)]) (by first | exact nLp | exact Ne.symm npL)).trans eL
    replace em := (upd_ne (o := .dK [(.inl n, .ref U)]) (by first | exact nmp | exact Ne.symm npm)).trans em
    replace et1 := (upd_ne (o := .dK [(.inl n, .ref U)]) (by first | exact nt1p | exact Ne.symm npt1)).trans et1
    replace et2 := (upd_ne (o := .dK [(.inl n, .ref U)]) (by first | exact nt2p | exact Ne.symm npt2)).trans et2
    replace ec := (upd_ne (o := .dK [(.inl n, .ref U)]) (by first | exact ncp | exact Ne.symm npc)).trans ec
    replace eU := (upd_ne (o := .dK [(.inl n, .ref U)]) (by first | exact nUp | exact Ne.symm npU)).trans eU
    replace eD := (upd_ne (o := .dK [(.inl n, .ref U)]) (by first | exact nDp | exact Ne.symm npD)).trans eD
    replace eu := sqt_dict (u := .dK [(.inl n, .ref U)]) ep (fun _ z => by cases z) (fun _ _ z => by cases z) eu
    replace gB := same_upd (o := .dK [(.inl n, .ref U)]) gB zp
    replace ep : upd H6 p (.dK [(.inl n, .ref U)]) p = some (.dK [(.inl n, .ref U)]) := upd_same
    generalize upd H6 p (.dK [(.inl n, .ref U)]) = H7 at *
    refine ⟨_, rfl, _, rfl, _, rfl, p, _, rfl, Rd.of ep, fun q fq => ?_⟩
    have zq := same_free gB fq
    have nLq := ne_of_none eL fq
    have npq := ne_of_none ep fq
    have nmq := ne_of_none em fq
    have nt1q := ne_of_none et1 fq
    have nt2q := ne_of_none et2 fq
    have ncq := ne_of_none ec fq
    have nUq := ne_of_none eU fq
    have nDq := ne_of_none eD fq
    have g8 := same_new fq (.dK [(.inl n, .ref U)])
    have eq : upd H7 q (.dK [(.inl n, .ref U)]) q = some (.dK [(.inl n, .ref U)]) := upd_same
    generalize upd H7 q (.dK [(.inl n, .ref U)]) = H8 at *
    replace gB := gB.trans g8
    replace eL := g8 _ _ eL
    replace ep := g8 _ _ ep
    replace em := g8 _ _ em
    replace et1 := g8 _ _ et1
    replace et2 := g8 _ _ et2
    replace ec := g8 _ _ ec
    replace eU := g8 _ _ eU
    replace eD := g8 _ _ eD
    replace eu := Same.tup g8 eu
    refine ⟨(by show 3 ≤ sizeLine; decide), fun due fdue => ?_⟩
    have zdue := same_free gB fdue
    have nLdue := ne_of_none eL fdue
    have npdue := ne_of_none ep fdue
    have nmdue := ne_of_none em fdue
    have nt1due := ne_of_none et1 fdue
    have nt2due := ne_of_none et2 fdue
    have ncdue := ne_of_none ec fdue
    have nUdue := ne_of_none eU fdue
    have nDdue := ne_of_none eD fdue
    have nqdue := ne_of_none eq fdue
    have g9 := same_new fdue (.tup [.int n, .non, .ref q])
    have edue : upd H8 due (.tup [.int n, .non, .ref q]) due = some (.tup [.int n, .non, .ref q]) := upd_same
    generalize upd H8 due (.tup [.int n, .non, .ref q]) = H9 at *
    replace gB := gB.trans g9
    replace eL := g9 _ _ eL
    replace ep := g9 _ _ ep
    replace em := g9 _ _ em
    replace et1 := g9 _ _ et1
    replace et2 := g9 _ _ et2
    replace ec := g9 _ _ ec
    replace eU := g9 _ _ eU
    replace eD := g9 _ _ eD
    replace eu := Same.tup g9 eu
    replace eq := g9 _ _ eq
    refine ⟨_, rfl, _, rfl, fun x dx fx fdx nx => ?_⟩
    refine ⟨x, dx, .int n, .non, p, _, rfl, upd_same, made_start fx fdx _ _ ep, (by simp), (by show 1 ≤ 15; decide), fun D2 G bG ex eD2 fD2 => ⟨rfl, ?_⟩⟩
    have fD3 := same_free (made_start fx fdx) fD2
    have npD2 := ne_of_none ep fD3
    have nqD2 := ne_of_none eq fD3
    have gM := made_same fx fdx bG
    replace gB := gB.trans gM
    replace eL := gM _ _ eL
    replace ep := gM _ _ ep
    replace em := gM _ _ em
    replace et1 := gM _ _ et1
    replace et2 := gM _ _ et2
    replace ec := gM _ _ ec
    replace eU := gM _ _ eU
    replace eD := gM _ _ eD
    replace eu := Same.tup gM eu
    replace eq := gM _ _ eq
    replace edue := gM _ _ edue
    generalize hG : G = H10 at *
    clear hG gM
    refine ⟨(by show 3 ≤ sizeLine; decide), fun t ft => ?_⟩
    have zt := same_free gB ft
    have nLt := ne_of_none eL ft
    have npt := ne_of_none ep ft
    have nmt := ne_of_none em ft
    have nt1t := ne_of_none et1 ft
    have nt2t := ne_of_none et2 ft
    have nct := ne_of_none ec ft
    have nUt := ne_of_none eU ft
    have nDt := ne_of_none eD ft
    have nqt := ne_of_none eq ft
    have nduet := ne_of_none edue ft
    have nxt := ne_of_none ex ft
    have nD2t := ne_of_none eD2 ft
    have g11 := same_new ft (.tup [.ref p, .ref due, .ref x])
    have et : upd H10 t (.tup [.ref p, .ref due, .ref x]) t = some (.tup [.ref p, .ref due, .ref x]) := upd_same
    generalize upd H10 t (.tup [.ref p, .ref due, .ref x]) = H11 at *
    replace gB := gB.trans g11
    replace eL := g11 _ _ eL
    replace ep := g11 _ _ ep
    replace em := g11 _ _ em
    replace et1 := g11 _ _ et1
    replace et2 := g11 _ _ et2
    replace ec := g11 _ _ ec
    replace eU := g11 _ _ eU
    replace eD := g11 _ _ eD
    replace eu := Same.tup g11 eu
    replace eq := g11 _ _ eq
    replace edue := g11 _ _ edue
    replace ex := g11 _ _ ex
    replace eD2 := g11 _ _ eD2
    have hDn := hD.same gB
    have O : ∀ {x : Addr} {o : HO}, H11 x = some o → (∀ ys, o ≠ .lst ys) → x ≠ p → dels [d, p] H11 x = some o := fun hx n np => off_dp hDn hx n np
    have hP : PartAt H11 p := .inl ⟨_, ep, (by show 1 ≤ 15; decide)⟩
    have OT : ∀ {x : Addr} {xs : List V}, H11 x = some (.tup xs) → SqT K (dels [d, p] H11) x xs := fun hx => off_tup hDn hP (SqT.of hx)
    have OS : ∀ {x : Addr} {xs : List V}, SqT K H11 x xs → SqT K (dels [d, p] H11) x xs := fun hx => off_tup hDn hP hx
    have OO : ∀ {x : Addr} {xs : List V}, H11 x = some (.tup xs) → dels [d, p] H11 x = some (.tup xs) := fun hx => (off_tup_at hDn hP hx)
    have OI : ∀ {x C dx : Addr} {fs : List (Str × V)}, H11 x = some (.ins C dx fs) → dels [d, p] H11 x = some (.ins C dx fs) := fun hx => O hx (fun _ z => by cases z) (ne_of hx ep (fun z => by cases z))
    have OK : ∀ {x : Addr} {kvs : List (Key × V)}, H11 x = some (.dK kvs) → x ≠ p → dels [d, p] H11 x = some (.dK kvs) := fun hx np => O hx (fun _ z => by cases z) np
    have OD : ∀ {x : Addr} {kvs : List (List Key × V)}, H11 x = some (.dT kvs) → x ≠ p → dels [d, p] H11 x = some (.dT kvs) := fun hx np => O hx (fun _ z => by cases z) np
    refine fin t p due x [] H11 gB et hP zp (.e4 (OI ex) (OK eD2 (Ne.symm npD2)) (OT edue) (OK eq (Ne.symm npq)) ⟨dU, D, u, t1, t2, OI eU, OK eD (Ne.symm npD), OS eu, OT et1, OT et2⟩ (Ne.symm nqD2)) ?_
    exact fun y hy => by cases hy
  | n5 =>
    refine ⟨_, rfl, rfl, _, rfl, iteF ⟨_, rfl, rfl, _, rfl, iteF ⟨_, rfl, rfl, _, rfl, iteF ⟨_, rfl, rfl, _, rfl, iteF ⟨_, rfl, rfl, _, rfl, iteF ⟨_, rfl, rfl, _, rfl, iteT ?_⟩⟩⟩⟩⟩⟩
    have gB := Same.refl HB
    refine fun p fp => ?_
    have zp := same_free gB fp
    have nLp := ne_of_none eL fp
    have g1 := same_new fp (.dK [])
    have ep : upd HB p (.dK []) p = some (.dK []) := upd_same
    generalize upd HB p (.dK []) = H1 at *
    replace gB := gB.trans g1
    replace eL := g1 _ _ eL
    refine ⟨ep, [(kKey, .int 1), (kBlock, .int 1)], rfl, (by show 2 ≤ 15; decide), ?_⟩
    rw [merge2 (Ne.symm bk_ne)]
    replace eL := (upd_ne (o := .dK [(kKey, .int 1), (kBlock, .int 1)]) (by first | exact nLp | exact Ne.symm npL)).trans eL
    replace gB := same_upd (o := .dK [(kKey, .int 1), (kBlock, .int 1)]) gB zp
    replace ep : upd H1 p (.dK [(kKey, .int 1), (kBlock, .int 1)]) p = some (.dK [(kKey, .int 1), (kBlock, .int 1)]) := upd_same
    generalize upd H1 p (.dK [(kKey, .int 1), (kBlock, .int 1)]) = H2 at *
    refine ⟨_, rfl, fun q fq => ?_⟩
    have zq := same_free gB fq
    have nLq := ne_of_none eL fq
    have npq := ne_of_none ep fq
    have g3 := same_new fq (.dK [])
    have eq : upd H2 q (.dK []) q = some (.dK []) := upd_same
    generalize upd H2 q (.dK []) = H3 at *
    replace gB := gB.trans g3
    replace eL := g3 _ _ eL
    replace ep := g3 _ _ ep
    refine ⟨eq, [(kBlock, .int 1), (kKey, .int 1)], rfl, (by show 2 ≤ 15; decide), ?_⟩
    rw [merge2 bk_ne]
    replace eL := (upd_ne (o := .dK [(kBlock, .int 1), (kKey, .int 1)]) (by first | exact nLq | exact Ne.symm nqL)).trans eL
    replace ep := (upd_ne (o := .dK [(kBlock, .int 1), (kKey, .int 1)]) (by first | exact npq | exact Ne.symm nqp)).trans ep
    replace gB := same_upd (o := .dK [(kBlock, .int 1), (kKey, .int 1)]) gB zq
    replace eq : upd H3 q (.dK [(kBlock, .int 1), (kKey, .int 1)]) q = some (.dK [(kBlock, .int 1), (kKey, .int 1)]) := upd_same
    generalize upd H3 q (.dK [(kBlock, .int 1), (kKey, .int 1)]) = H4 at *
    refine fun f ff => ?_
    have zf := same_free gB ff
    have nLf := ne_of_none eL ff
    have npf := ne_of_none ep ff
    have nqf := ne_of_none eq ff
    have g5 := same_new ff (.dT [])
    have ef : upd H4 f (.dT []) f = some (.dT []) := upd_same
    generalize upd H4 f (.dT []) = H5 at *
    replace gB := gB.trans g5
    replace eL := g5 _ _ eL
    replace ep := g5 _ _ ep
    replace eq := g5 _ _ eq
    refine ⟨(by show 2 ≤ sizeLine; decide), fun q1 fq1 => ?_⟩
    have zq1 := same_free gB fq1
    have nfq1 := ne_of_none ef fq1
    have nLq1 := ne_of_none eL fq1
    have npq1 := ne_of_none ep fq1
    have nqq1 := ne_of_none eq fq1
    have g6 := same_new fq1 (.tup [.int 0, .int 0])
    have eq1 : upd H5 q1 (.tup [.int 0, .int 0]) q1 = some (.tup [.int 0, .int 0]) := upd_same
    generalize upd H5 q1 (.tup [.int 0, .int 0]) = H6 at *
    replace gB := gB.trans g6
    replace eL := g6 _ _ eL
    replace ep := g6 _ _ ep
    replace eq := g6 _ _ eq
    replace ef := g6 _ _ ef
    refine ⟨_, rfl, _, _, rfl, rfl, (by show 2 ≤ sizeLine; decide), fun v1 fv1 => ?_⟩
    have zv1 := same_free gB fv1
    have nfv1 := ne_of_none ef fv1
    have nLv1 := ne_of_none eL fv1
    have npv1 := ne_of_none ep fv1
    have nqv1 := ne_of_none eq fv1
    have nq1v1 := ne_of_none eq1 fv1
    have g7 := same_new fv1 (.tup [.int 1, .int (2 + n)])
    have ev1 : upd H6 v1 (.tup [.int 1, .int (2 + n)]) v1 = some (.tup [.int 1, .int (2 + n)]) := upd_same
    generalize upd H6 v1 (.tup [.int 1, .int (2 + n)]) = H7 at *
    replace gB := gB.trans g7
    replace eL := g7 _ _ eL
    replace ep := g7 _ _ ep
    replace eq := g7 _ _ eq
    replace ef := g7 _ _ ef
    replace eq1 := g7 _ _ eq1
    refine ⟨ef, ([(k00, q1, .ref v1)] : List (List Key × Addr × V)), rfl, (fun y hy => by
      simp only [List.mem_cons, List.not_mem_nil, or_false] at hy
      rcases hy with rfl
      · exact eq1), (by simp), (by show 1 ≤ 15; decide), ?_⟩
    rw [show (List.map (fun (r : List Key × Addr × V) => (r.1, r.2.2)) [(k00, q1, .ref v1)]) = [(k00, .ref v1)] from rfl]
    replace eL := (upd_ne (o := .dT [(k00, .ref v1)]) (by first | exact nLf | exact Ne.symm nfL)).trans eL
    replace ep := (upd_ne (o := .dT [(k00, .ref v1)]) (by first | exact npf | exact Ne.symm nfp)).trans ep
    replace eq := (upd_ne (o := .dT [(k00, .ref v1)]) (by first | exact nqf | exact Ne.symm nfq)).trans eq
    replace eq1 := (upd_ne (o := .dT [(k00, .ref v1)]) (by first | exact nq1f | exact Ne.symm nfq1)).trans eq1
    replace ev1 := (upd_ne (o := .dT [(k00, .ref v1)]) (by first | exact nv1f | exact Ne.symm nfv1)).trans ev1
    replace gB := same_upd (o := .dT [(k00, .ref v1)]) gB zf
    replace ef : upd H7 f (.dT [(k00, .ref v1)]) f = some (.dT [(k00, .ref v1)]) := upd_same
    generalize upd H7 f (.dT [(k00, .ref v1)]) = H8 at *
    refine ⟨(by show 1 ≤ sizeLine; decide), fun e fe => ?_⟩
    have ze := same_free gB fe
    have nLe := ne_of_none eL fe
    have npe := ne_of_none ep fe
    have nqe := ne_of_none eq fe
    have nfe := ne_of_none ef fe
    have nq1e := ne_of_none eq1 fe
    have nv1e := ne_of_none ev1 fe
    have g9 := same_new fe (.tup [.ref f])
    have ee : upd H8 e (.tup [.ref f]) e = some (.tup [.ref f]) := upd_same
    generalize upd H8 e (.tup [.ref f]) = H9 at *
    replace gB := gB.trans g9
    replace eL := g9 _ _ eL
    replace ep := g9 _ _ ep
    replace eq := g9 _ _ eq
    replace ef := g9 _ _ ef
    replace eq1 := g9 _ _ eq1
    replace ev1 := g9 _ _ ev1
    refine ⟨(by show 2 ≤ sizeLine; decide), fun due fdue => ?_⟩
    have zdue := same_free gB fdue
    have nLdue := ne_of_none eL fdue
    have npdue := ne_of_none ep fdue
    have nqdue := ne_of_none eq fdue
    have nfdue := ne_of_none ef fdue
    have nq1due := ne_of_none eq1 fdue
    have nv1due := ne_of_none ev1 fdue
    have nedue := ne_of_none ee fdue
    have g10 := same_new fdue (.tup [.ref q, .ref e])
    have edue : upd H9 due (.tup [.ref q, .ref e]) due = some (.tup [.ref q, .ref e]) := upd_same
    generalize upd H9 due (.tup [.ref q, .ref e]) = H10 at *
    replace gB := gB.trans g10
    replace eL := g10 _ _ eL
    replace ep := g10 _ _ ep
    replace eq := g10 _ _ eq
    replace ef := g10 _ _ ef
    replace eq1 := g10 _ _ eq1
    replace ev1 := g10 _ _ ev1
    replace ee := g10 _ _ ee
    refine ⟨_, rfl, fun f2 ff2 => ?_⟩
    have zf2 := same_free gB ff2
    have nLf2 := ne_of_none eL ff2
    have npf2 := ne_of_none ep ff2
    have nqf2 := ne_of_none eq ff2
    have nff2 := ne_of_none ef ff2
    have nq1f2 := ne_of_none eq1 ff2
    have nv1f2 := ne_of_none ev1 ff2
    have nef2 := ne_of_none ee ff2
    have nduef2 := ne_of_none edue ff2
    have g11 := same_new ff2 (.dT [])
    have ef2 : upd H10 f2 (.dT []) f2 = some (.dT []) := upd_same
    generalize upd H10 f2 (.dT []) = H11 at *
    replace gB := gB.trans g11
    replace eL := g11 _ _ eL
    replace ep := g11 _ _ ep
    replace eq := g11 _ _ eq
    replace ef := g11 _ _ ef
    replace eq1 := g11 _ _ eq1
    replace ev1 := g11 _ _ ev1
    replace ee := g11 _ _ ee
    replace edue := g11 _ _ edue
    refine ⟨(by show 2 ≤ sizeLine; decide), fun q3 fq3 => ?_⟩
    have zq3 := same_free gB fq3
    have nf2q3 := ne_of_none ef2 fq3
    have nLq3 := ne_of_none eL fq3
    have npq3 := ne_of_none ep fq3
    have nqq3 := ne_of_none eq fq3
    have nfq3 := ne_of_none ef fq3
    have nq1q3 := ne_of_none eq1 fq3
    have nv1q3 := ne_of_none ev1 fq3
    have neq3 := ne_of_none ee fq3
    have ndueq3 := ne_of_none edue fq3
    have g12 := same_new fq3 (.tup [.int 0, .int 0])
    have eq3 : upd H11 q3 (.tup [.int 0, .int 0]) q3 = some (.tup [.int 0, .int 0]) := upd_same
    generalize upd H11 q3 (.tup [.int 0, .int 0]) = H12 at *
    replace gB := gB.trans g12
    replace eL := g12 _ _ eL
    replace ep := g12 _ _ ep
    replace eq := g12 _ _ eq
    replace ef := g12 _ _ ef
    replace eq1 := g12 _ _ eq1
    replace ev1 := g12 _ _ ev1
    replace ee := g12 _ _ ee
    replace edue := g12 _ _ edue
    replace ef2 := g12 _ _ ef2
    refine ⟨_, rfl, _, _, rfl, rfl, (by show 2 ≤ sizeLine; decide), fun v3 fv3 => ?_⟩
    have zv3 := same_free gB fv3
    have nf2v3 := ne_of_none ef2 fv3
    have nLv3 := ne_of_none eL fv3
    have npv3 := ne_of_none ep fv3
    have nqv3 := ne_of_none eq fv3
    have nfv3 := ne_of_none ef fv3
    have nq1v3 := ne_of_none eq1 fv3
    have nv1v3 := ne_of_none ev1 fv3
    have nev3 := ne_of_none ee fv3
    have nduev3 := ne_of_none edue fv3
    have nq3v3 := ne_of_none eq3 fv3
    have g13 := same_new fv3 (.tup [.int 1, .int (2 + n)])
    have ev3 : upd H12 v3 (.tup [.int 1, .int (2 + n)]) v3 = some (.tup [.int 1, .int (2 + n)]) := upd_same
    generalize upd H12 v3 (.tup [.int 1, .int (2 + n)]) = H13 at *
    replace gB := gB.trans g13
    replace eL := g13 _ _ eL
    replace ep := g13 _ _ ep
    replace eq := g13 _ _ eq
    replace ef := g13 _ _ ef
    replace eq1 := g13 _ _ eq1
    replace ev1 := g13 _ _ ev1
    replace ee := g13 _ _ ee
    replace edue := g13 _ _ edue
    replace ef2 := g13 _ _ ef2
    replace eq3 := g13 _ _ eq3
    refine ⟨ef2, ([(k00, q3, .ref v3)] : List (List Key × Addr × V)), rfl, (fun y hy => by
      simp only [List.mem_cons, List.not_mem_nil, or_false] at hy
      rcases hy with rfl
      · exact eq3), (by simp), (by show 1 ≤ 15; decide), ?_⟩
    rw [show (List.map (fun (r : List Key × Addr × V) => (r.1, r.2.2)) [(k00, q3, .ref v3)]) = [(k00, .ref v3)] from rfl]
    replace eL := (upd_ne (o := .dT [(k00, .ref v3)]) (by first | exact nLf2 | exact Ne.symm nf2L)).trans eL
    replace ep := (upd_ne (o := .dT [(k00, .ref v3)]) (by first | exact npf2 | exact Ne.symm nf2p)).trans ep
    replace eq := (upd_ne (o := .dT [(k00, .ref v3)]) (by first | exact nqf2 | exact Ne.symm nf2q)).trans eq
    replace ef := (upd_ne (o := .dT [(k00, .ref v3)]) (by first | exact nff2 | exact Ne.symm nf2f)).trans ef
    replace eq1 := (upd_ne (o := .dT [(k00, .ref v3)]) (by first | exact nq1f2 | exact Ne.symm nf2q1)).trans eq1
    replace ev1 := (upd_ne (o := .dT [(k00, .ref v3)]) (by first | exact nv1f2 | exact Ne.symm nf2v1)).trans ev1
    replace ee := (upd_ne (o := .dT [(k00, .ref v3)]) (by first | exact nef2 | exact Ne.symm nf2e)).trans ee
    replace edue := (upd_ne (o := .dT [(k00, .ref v3)]) (by first | exact nduef2 | exact Ne.symm nf2due)).trans edue
    replace eq3 := (upd_ne (o := .dT [(k00, .ref v3)]) (by first | exact nq3f2 | exact Ne.symm nf2q3)).trans eq3
    replace ev3 := (upd_ne (o := .dT [(k00, .ref v3)]) (by first | exact nv3f2 | exact Ne.symm nf2v3)).trans ev3
    replace gB := same_upd (o := .dT [(k00, .ref v3)]) gB zf2
    replace ef2 : upd H13 f2 (.dT [(k00, .ref v3)]) f2 = some (.dT [(k00, .ref v3)]) := upd_same
    generalize upd H13 f2 (.dT [(k00, .ref v3)]) = H14 at *
    refine ⟨(by show 1 ≤ sizeLine; decide), fun l fl => ?_⟩
    have zl := same_free gB fl
    have nLl := ne_of_none eL fl
    have npl := ne_of_none ep fl
    have nql := ne_of_none eq fl
    have nfl := ne_of_none ef fl
    have nq1l := ne_of_none eq1 fl
    have nv1l := ne_of_none ev1 fl
    have nel := ne_of_none ee fl
    have nduel := ne_of_none edue fl
    have nf2l := ne_of_none ef2 fl
    have nq3l := ne_of_none eq3 fl
    have nv3l := ne_of_none ev3 fl
    have g15 := same_new fl (.lst [.ref f2])
    have el : upd H14 l (.lst [.ref f2]) l = some (.lst [.ref f2]) := upd_same
    generalize upd H14 l (.lst [.ref f2]) = H15 at *
    replace gB := gB.trans g15
    replace eL := g15 _ _ eL
    replace ep := g15 _ _ ep
    replace eq := g15 _ _ eq
    replace ef := g15 _ _ ef
    replace eq1 := g15 _ _ eq1
    replace ev1 := g15 _ _ ev1
    replace ee := g15 _ _ ee
    replace edue := g15 _ _ edue
    replace ef2 := g15 _ _ ef2
    replace eq3 := g15 _ _ eq3
    replace ev3 := g15 _ _ ev3
    refine fun x dx fx fdx nx => ?_
    refine ⟨x, dx, p, l, f2, _, _, _, rfl, upd_same, made_start fx fdx _ _ ep, SqL.of (made_start fx fdx _ _ el), made_start fx fdx _ _ ef2, (by simp), (by show 1 ≤ 15; decide), fun D u D2 G bG ex eD eu eD2 fD fD2 fu => ⟨rfl, ?_⟩⟩
    have kD := same_free (made_start fx fdx) fD
    have npD := ne_of_none ep kD
    have nqD := ne_of_none eq kD
    have nfD := ne_of_none ef kD
    have neD := ne_of_none ee kD
    have zD := same_free gB kD
    have kD2 := same_free (made_start fx fdx) fD2
    have npD2 := ne_of_none ep kD2
    have nqD2 := ne_of_none eq kD2
    have nfD2 := ne_of_none ef kD2
    have neD2 := ne_of_none ee kD2
    have zD2 := same_free gB kD2
    have ku := same_free (made_start fx fdx) fu
    have npu := ne_of_none ep ku
    have nqu := ne_of_none eq ku
    have nfu := ne_of_none ef ku
    have neu := ne_of_none ee ku
    have zu := same_free gB ku
    have gM := made_same fx fdx bG
    replace gB := gB.trans gM
    replace eL := gM _ _ eL
    replace ep := gM _ _ ep
    replace eq := gM _ _ eq
    replace ef := gM _ _ ef
    replace eq1 := gM _ _ eq1
    replace ev1 := gM _ _ ev1
    replace ee := gM _ _ ee
    replace edue := gM _ _ edue
    replace ef2 := gM _ _ ef2
    replace eq3 := gM _ _ eq3
    replace ev3 := gM _ _ ev3
    replace el := gM _ _ el
    generalize hG : G = H16 at *
    clear hG gM
    refine ⟨(by show 3 ≤ sizeLine; decide), fun t ft => ?_⟩
    have zt := same_free gB ft
    have nLt := ne_of_none eL ft
    have npt := ne_of_none ep ft
    have nqt := ne_of_none eq ft
    have nft := ne_of_none ef ft
    have nq1t := ne_of_none eq1 ft
    have nv1t := ne_of_none ev1 ft
    have net := ne_of_none ee ft
    have nduet := ne_of_none edue ft
    have nf2t := ne_of_none ef2 ft
    have nq3t := ne_of_none eq3 ft
    have nv3t := ne_of_none ev3 ft
    have nlt := ne_of_none el ft
    have nxt := ne_of_none ex ft
    have nDt := ne_of_none eD ft
    have nD2t := ne_of_none eD2 ft
    have g17 := same_new ft (.tup [.ref p, .ref due, .ref x])
    have et : upd H16 t (.tup [.ref p, .ref due, .ref x]) t = some (.tup [.ref p, .ref due, .ref x]) := upd_same
    generalize upd H16 t (.tup [.ref p, .ref due, .ref x]) = H17 at *
    replace gB := gB.trans g17
    replace eL := g17 _ _ eL
    replace ep := g17 _ _ ep
    replace eq := g17 _ _ eq
    replace ef := g17 _ _ ef
    replace eq1 := g17 _ _ eq1
    replace ev1 := g17 _ _ ev1
    replace ee := g17 _ _ ee
    replace edue := g17 _ _ edue
    replace ef2 := g17 _ _ ef2
    replace eq3 := g17 _ _ eq3
    replace ev3 := g17 _ _ ev3
    replace el := g17 _ _ el
    replace ex := g17 _ _ ex
    replace eD := g17 _ _ eD
    replace eu := Same.tup g17 eu
    replace eD2 := g17 _ _ eD2
    have hDn := hD.same gB
    have O : ∀ {x : Addr} {o : HO}, H17 x = some o → (∀ ys, o ≠ .lst ys) → x ≠ p → dels [d, p] H17 x = some o := fun hx n np => off_dp hDn hx n np
    have hP : PartAt H17 p := .inl ⟨_, ep, (by show 2 ≤ 15; decide)⟩
    have OT : ∀ {x : Addr} {xs : List V}, H17 x = some (.tup xs) → SqT K (dels [d, p] H17) x xs := fun hx => off_tup hDn hP (SqT.of hx)
    have OS : ∀ {x : Addr} {xs : List V}, SqT K H17 x xs → SqT K (dels [d, p] H17) x xs := fun hx => off_tup hDn hP hx
    have OO : ∀ {x : Addr} {xs : List V}, H17 x = some (.tup xs) → dels [d, p] H17 x = some (.tup xs) := fun hx => (off_tup_at hDn hP hx)
    have OI : ∀ {x C dx : Addr} {fs : List (Str × V)}, H17 x = some (.ins C dx fs) → dels [d, p] H17 x = some (.ins C dx fs) := fun hx => O hx (fun _ z => by cases z) (ne_of hx ep (fun z => by cases z))
    have OK : ∀ {x : Addr} {kvs : List (Key × V)}, H17 x = some (.dK kvs) → x ≠ p → dels [d, p] H17 x = some (.dK kvs) := fun hx np => O hx (fun _ z => by cases z) np
    have OD : ∀ {x : Addr} {kvs : List (List Key × V)}, H17 x = some (.dT kvs) → x ≠ p → dels [d, p] H17 x = some (.dT kvs) := fun hx np => O hx (fun _ z => by cases z) np
    refine fin t p due x [q, e, D2, f] H17 gB et hP zp (.e5 (OI ex) (OK eD (Ne.symm npD)) (OT edue) (OK eq (Ne.symm npq)) (OS eu) (OD eD2 (Ne.symm npD2)) (OO ee) (OD ef (Ne.symm npf)) (dp_pair (OT ev3)) (dp_pair (OT ev1)) (Ne.symm nqD) (Ne.symm neu) (Ne.symm nfD2)) ?_
    exact fun y hy => by
      simp only [List.mem_cons, List.not_mem_nil, or_false] at hy
      rcases hy with rfl | rfl | rfl | rfl
      · exact zq
      · exact ze
      · exact zD2
      · exact zf
  | n6 =>
    refine ⟨_, rfl, rfl, _, rfl, iteF ⟨_, rfl, rfl, _, rfl, iteF ⟨_, rfl, rfl, _, rfl, iteF ⟨_, rfl, rfl, _, rfl, iteF ⟨_, rfl, rfl, _, rfl, iteF ⟨_, rfl, rfl, _, rfl, iteF ?_⟩⟩⟩⟩⟩⟩
    have gB := Same.refl HB
    refine fun p fp => ?_
    have zp := same_free gB fp
    have nLp := ne_of_none eL fp
    have g1 := same_new fp (.dK [])
    have ep : upd HB p (.dK []) p = some (.dK []) := upd_same
    generalize upd HB p (.dK []) = H1 at *
    replace gB := gB.trans g1
    replace eL := g1 _ _ eL
    refine ⟨(by show 2 ≤ sizeLine; decide), fun t1 ft1 => ?_⟩
    have zt1 := same_free gB ft1
    have npt1 := ne_of_none ep ft1
    have nLt1 := ne_of_none eL ft1
    have g2 := same_new ft1 (.tup [.int 1, .int 2])
    have et1 : upd H1 t1 (.tup [.int 1, .int 2]) t1 = some (.tup [.int 1, .int 2]) := upd_same
    generalize upd H1 t1 (.tup [.int 1, .int 2]) = H2 at *
    replace gB := gB.trans g2
    replace eL := g2 _ _ eL
    replace ep := g2 _ _ ep
    refine ⟨(by show 2 ≤ sizeLine; decide), fun t2 ft2 => ?_⟩
    have zt2 := same_free gB ft2
    have npt2 := ne_of_none ep ft2
    have nLt2 := ne_of_none eL ft2
    have nt1t2 := ne_of_none et1 ft2
    have g3 := same_new ft2 (.tup [.int 1, .int 2])
    have et2 : upd H2 t2 (.tup [.int 1, .int 2]) t2 = some (.tup [.int 1, .int 2]) := upd_same
    generalize upd H2 t2 (.tup [.int 1, .int 2]) = H3 at *
    replace gB := gB.trans g3
    replace eL := g3 _ _ eL
    replace ep := g3 _ _ ep
    replace et1 := g3 _ _ et1
    refine ⟨(by show 2 ≤ sizeLine; decide), fun w1 fw1 => ?_⟩
    have zw1 := same_free gB fw1
    have npw1 := ne_of_none ep fw1
    have nLw1 := ne_of_none eL fw1
    have nt1w1 := ne_of_none et1 fw1
    have nt2w1 := ne_of_none et2 fw1
    have g4 := same_new fw1 (.tup [.ref t1, .ref t2])
    have ew1 : upd H3 w1 (.tup [.ref t1, .ref t2]) w1 = some (.tup [.ref t1, .ref t2]) := upd_same
    generalize upd H3 w1 (.tup [.ref t1, .ref t2]) = H4 at *
    replace gB := gB.trans g4
    replace eL := g4 _ _ eL
    replace ep := g4 _ _ ep
    replace et1 := g4 _ _ et1
    replace et2 := g4 _ _ et2
    refine ⟨(by show 2 ≤ sizeLine; decide), fun t3 ft3 => ?_⟩
    have zt3 := same_free gB ft3
    have npt3 := ne_of_none ep ft3
    have nLt3 := ne_of_none eL ft3
    have nt1t3 := ne_of_none et1 ft3
    have nt2t3 := ne_of_none et2 ft3
    have nw1t3 := ne_of_none ew1 ft3
    have g5 := same_new ft3 (.tup [.int 1, .int 1])
    have et3 : upd H4 t3 (.tup [.int 1, .int 1]) t3 = some (.tup [.int 1, .int 1]) := upd_same
    generalize upd H4 t3 (.tup [.int 1, .int 1]) = H5 at *
    replace gB := gB.trans g5
    replace eL := g5 _ _ eL
    replace ep := g5 _ _ ep
    replace et1 := g5 _ _ et1
    replace et2 := g5 _ _ et2
    replace ew1 := g5 _ _ ew1
    refine ⟨(by show 1 ≤ sizeLine; decide), fun w2 fw2 => ?_⟩
    have zw2 := same_free gB fw2
    have npw2 := ne_of_none ep fw2
    have nLw2 := ne_of_none eL fw2
    have nt1w2 := ne_of_none et1 fw2
    have nt2w2 := ne_of_none et2 fw2
    have nw1w2 := ne_of_none ew1 fw2
    have nt3w2 := ne_of_none et3 fw2
    have g6 := same_new fw2 (.tup [.ref t3])
    have ew2 : upd H5 w2 (.tup [.ref t3]) w2 = some (.tup [.ref t3]) := upd_same
    generalize upd H5 w2 (.tup [.ref t3]) = H6 at *
    replace gB := gB.trans g6
    replace eL := g6 _ _ eL
    replace ep := g6 _ _ ep
    replace et1 := g6 _ _ et1
    replace et2 := g6 _ _ et2
    replace ew1 := g6 _ _ ew1
    replace et3 := g6 _ _ et3
    refine ⟨ep, [(kKey, .ref w1), (kBlock, .ref w2)], rfl, (by show 2 ≤ 15; decide), ?_⟩
    rw [merge2 (Ne.symm bk_ne)]
    replace eL := (upd_ne (o := .dK [(kKey, .ref w1), (kBlock, .ref w2)]) (by first | exact nLp | exact Ne.symm npL)).trans eL
    replace et1 := (upd_ne (o := .dK [(kKey, .ref w1), (kBlock, .ref w2)]) (by first | exact nt1p | exact Ne.symm npt1)).trans et1
    replace et2 := (upd_ne (o := .dK [(kKey, .ref w1), (kBlock, .ref w2)]) (by first | exact nt2p | exact Ne.symm npt2)).trans et2
    replace ew1 := (upd_ne (o := .dK [(kKey, .ref w1), (kBlock, .ref w2)]) (by first | exact nw1p | exact Ne.symm npw1)).trans ew1
    replace et3 := (upd_ne (o := .dK [(kKey, .ref w1), (kBlock, .ref w2)]) (by first | exact nt3p | exact Ne.symm npt3)).trans et3
    replace ew2 := (upd_ne (o := .dK [(kKey, .ref w1), (kBlock, .ref w2)]) (by first | exact nw2p | exact Ne.symm npw2)).trans ew2
    replace gB := same_upd (o := .dK [(kKey, .ref w1), (kBlock, .ref w2)]) gB zp
    replace ep : upd H6 p (.dK [(kKey, .ref w1), (kBlock, .ref w2)]) p = some (.dK [(kKey, .ref w1), (kBlock, .ref w2)]) := upd_same
    generalize upd H6 p (.dK [(kKey, .ref w1), (kBlock, .ref w2)]) = H7 at *
    refine ⟨(by show 1 ≤ sizeLine; decide), fun kk fkk => ?_⟩
    have zkk := same_free gB fkk
    have nLkk := ne_of_none eL fkk
    have npkk := ne_of_none ep fkk
    have nt1kk := ne_of_none et1 fkk
    have nt2kk := ne_of_none et2 fkk
    have nw1kk := ne_of_none ew1 fkk
    have nt3kk := ne_of_none et3 fkk
    have nw2kk := ne_of_none ew2 fkk
    have g8 := same_new fkk (.tup [.str "block"])
    have ekk : upd H7 kk (.tup [.str "block"]) kk = some (.tup [.str "block"]) := upd_same
    generalize upd H7 kk (.tup [.str "block"]) = H8 at *
    replace gB := gB.trans g8
    replace eL := g8 _ _ eL
    replace ep := g8 _ _ ep
    replace et1 := g8 _ _ et1
    replace et2 := g8 _ _ et2
    replace ew1 := g8 _ _ ew1
    replace et3 := g8 _ _ et3
    replace ew2 := g8 _ _ ew2
    refine fun ch fch => ?_
    have zch := same_free gB fch
    have nLch := ne_of_none eL fch
    have npch := ne_of_none ep fch
    have nt1ch := ne_of_none et1 fch
    have nt2ch := ne_of_none et2 fch
    have nw1ch := ne_of_none ew1 fch
    have nt3ch := ne_of_none et3 fch
    have nw2ch := ne_of_none ew2 fch
    have nkkch := ne_of_none ekk fch
    have g9 := same_new fch (.dT [])
    have ech : upd H8 ch (.dT []) ch = some (.dT []) := upd_same
    generalize upd H8 ch (.dT []) = H9 at *
    replace gB := gB.trans g9
    replace eL := g9 _ _ eL
    replace ep := g9 _ _ ep
    replace et1 := g9 _ _ et1
    replace et2 := g9 _ _ et2
    replace ew1 := g9 _ _ ew1
    replace et3 := g9 _ _ et3
    replace ew2 := g9 _ _ ew2
    replace ekk := g9 _ _ ekk
    refine ⟨(by show 1 ≤ sizeLine; decide), fun q1 fq1 => ?_⟩
    have zq1 := same_free gB fq1
    have nchq1 := ne_of_none ech fq1
    have nLq1 := ne_of_none eL fq1
    have npq1 := ne_of_none ep fq1
    have nt1q1 := ne_of_none et1 fq1
    have nt2q1 := ne_of_none et2 fq1
    have nw1q1 := ne_of_none ew1 fq1
    have nt3q1 := ne_of_none et3 fq1
    have nw2q1 := ne_of_none ew2 fq1
    have nkkq1 := ne_of_none ekk fq1
    have g10 := same_new fq1 (.tup [.int 0])
    have eq1 : upd H9 q1 (.tup [.int 0]) q1 = some (.tup [.int 0]) := upd_same
    generalize upd H9 q1 (.tup [.int 0]) = H10 at *
    replace gB := gB.trans g10
    replace eL := g10 _ _ eL
    replace ep := g10 _ _ ep
    replace et1 := g10 _ _ et1
    replace et2 := g10 _ _ et2
    replace ew1 := g10 _ _ ew1
    replace et3 := g10 _ _ et3
    replace ew2 := g10 _ _ ew2
    replace ekk := g10 _ _ ekk
    replace ech := g10 _ _ ech
    refine ⟨_, rfl, (by show 2 ≤ sizeLine; decide), fun v1 fv1 => ?_⟩
    have zv1 := same_free gB fv1
    have nchv1 := ne_of_none ech fv1
    have nLv1 := ne_of_none eL fv1
    have npv1 := ne_of_none ep fv1
    have nt1v1 := ne_of_none et1 fv1
    have nt2v1 := ne_of_none et2 fv1
    have nw1v1 := ne_of_none ew1 fv1
    have nt3v1 := ne_of_none et3 fv1
    have nw2v1 := ne_of_none ew2 fv1
    have nkkv1 := ne_of_none ekk fv1
    have nq1v1 := ne_of_none eq1 fv1
    have g11 := same_new fv1 (.tup [.int n, .int 1])
    have ev1 : upd H10 v1 (.tup [.int n, .int 1]) v1 = some (.tup [.int n, .int 1]) := upd_same
    generalize upd H10 v1 (.tup [.int n, .int 1]) = H11 at *
    replace gB := gB.trans g11
    replace eL := g11 _ _ eL
    replace ep := g11 _ _ ep
    replace et1 := g11 _ _ et1
    replace et2 := g11 _ _ et2
    replace ew1 := g11 _ _ ew1
    replace et3 := g11 _ _ et3
    replace ew2 := g11 _ _ ew2
    replace ekk := g11 _ _ ekk
    replace ech := g11 _ _ ech
    replace eq1 := g11 _ _ eq1
    refine ⟨ech, ([(k0, q1, .ref v1)] : List (List Key × Addr × V)), rfl, (fun y hy => by
      simp only [List.mem_cons, List.not_mem_nil, or_false] at hy
      rcases hy with rfl
      · exact eq1), (by simp), (by show 1 ≤ 15; decide), ?_⟩
    rw [show (List.map (fun (r : List Key × Addr × V) => (r.1, r.2.2)) [(k0, q1, .ref v1)]) = [(k0, .ref v1)] from rfl]
    replace eL := (upd_ne (o := .dT [(k0, .ref v1)]) (by first | exact nLch | exact Ne.symm nchL)).trans eL
    replace ep := (upd_ne (o := .dT [(k0, .ref v1)]) (by first | exact npch | exact Ne.symm nchp)).trans ep
    replace et1 := (upd_ne (o := .dT [(k0, .ref v1)]) (by first | exact nt1ch | exact Ne.symm ncht1)).trans et1
    replace et2 := (upd_ne (o := .dT [(k0, .ref v1)]) (by first | exact nt2ch | exact Ne.symm ncht2)).trans et2
    replace ew1 := (upd_ne (o := .dT [(k0, .ref v1)]) (by first | exact nw1ch | exact Ne.symm nchw1)).trans ew1
    replace et3 := (upd_ne (o := .dT [(k0, .ref v1)]) (by first | exact nt3ch | exact Ne.symm ncht3)).trans et3
    replace ew2 := (upd_ne (o := .dT [(k0, .ref v1)]) (by first | exact nw2ch | exact Ne.symm nchw2)).trans ew2
    replace ekk := (upd_ne (o := .dT [(k0, .ref v1)]) (by first | exact nkkch | exact Ne.symm nchkk)).trans ekk
    replace eq1 := (upd_ne (o := .dT [(k0, .ref v1)]) (by first | exact nq1ch | exact Ne.symm nchq1)).trans eq1
    replace ev1 := (upd_ne (o := .dT [(k0, .ref v1)]) (by first | exact nv1ch | exact Ne.symm nchv1)).trans ev1
    replace gB := same_upd (o := .dT [(k0, .ref v1)]) gB zch
    replace ech : upd H11 ch (.dT [(k0, .ref v1)]) ch = some (.dT [(k0, .ref v1)]) := upd_same
    generalize upd H11 ch (.dT [(k0, .ref v1)]) = H12 at *
    refine ⟨(by show 2 ≤ sizeLine; decide), fun g fg => ?_⟩
    have zg := same_free gB fg
    have nLg := ne_of_none eL fg
    have npg := ne_of_none ep fg
    have nt1g := ne_of_none et1 fg
    have nt2g := ne_of_none et2 fg
    have nw1g := ne_of_none ew1 fg
    have nt3g := ne_of_none et3 fg
    have nw2g := ne_of_none ew2 fg
    have nkkg := ne_of_none ekk fg
    have nchg := ne_of_none ech fg
    have nq1g := ne_of_none eq1 fg
    have nv1g := ne_of_none ev1 fg
    have g13 := same_new fg (.tup [.ref kk, .ref ch])
    have eg : upd H12 g (.tup [.ref kk, .ref ch]) g = some (.tup [.ref kk, .ref ch]) := upd_same
    generalize upd H12 g (.tup [.ref kk, .ref ch]) = H13 at *
    replace gB := gB.trans g13
    replace eL := g13 _ _ eL
    replace ep := g13 _ _ ep
    replace et1 := g13 _ _ et1
    replace et2 := g13 _ _ et2
    replace ew1 := g13 _ _ ew1
    replace et3 := g13 _ _ et3
    replace ew2 := g13 _ _ ew2
    replace ekk := g13 _ _ ekk
    replace ech := g13 _ _ ech
    replace eq1 := g13 _ _ eq1
    replace ev1 := g13 _ _ ev1
    refine ⟨(by show 1 ≤ sizeLine; decide), fun f ff => ?_⟩
    have zf := same_free gB ff
    have nLf := ne_of_none eL ff
    have npf := ne_of_none ep ff
    have nt1f := ne_of_none et1 ff
    have nt2f := ne_of_none et2 ff
    have nw1f := ne_of_none ew1 ff
    have nt3f := ne_of_none et3 ff
    have nw2f := ne_of_none ew2 ff
    have nkkf := ne_of_none ekk ff
    have nchf := ne_of_none ech ff
    have nq1f := ne_of_none eq1 ff
    have nv1f := ne_of_none ev1 ff
    have ngf := ne_of_none eg ff
    have g14 := same_new ff (.lst [.ref g])
    have ef : upd H13 f (.lst [.ref g]) f = some (.lst [.ref g]) := upd_same
    generalize upd H13 f (.lst [.ref g]) = H14 at *
    replace gB := gB.trans g14
    replace eL := g14 _ _ eL
    replace ep := g14 _ _ ep
    replace et1 := g14 _ _ et1
    replace et2 := g14 _ _ et2
    replace ew1 := g14 _ _ ew1
    replace et3 := g14 _ _ et3
    replace ew2 := g14 _ _ ew2
    replace ekk := g14 _ _ ekk
    replace ech := g14 _ _ ech
    replace eq1 := g14 _ _ eq1
    replace ev1 := g14 _ _ ev1
    replace eg := g14 _ _ eg
    refine ⟨_, rfl, fun q fq => ?_⟩
    have zq := same_free gB fq
    have nLq := ne_of_none eL fq
    have npq := ne_of_none ep fq
    have nt1q := ne_of_none et1 fq
    have nt2q := ne_of_none et2 fq
    have nw1q := ne_of_none ew1 fq
    have nt3q := ne_of_none et3 fq
    have nw2q := ne_of_none ew2 fq
    have nkkq := ne_of_none ekk fq
    have nchq := ne_of_none ech fq
    have nq1q := ne_of_none eq1 fq
    have nv1q := ne_of_none ev1 fq
    have ngq := ne_of_none eg fq
    have nfq := ne_of_none ef fq
    have g15 := same_new fq (.dK [])
    have eq : upd H14 q (.dK []) q = some (.dK []) := upd_same
    generalize upd H14 q (.dK []) = H15 at *
    replace gB := gB.trans g15
    replace eL := g15 _ _ eL
    replace ep := g15 _ _ ep
    replace et1 := g15 _ _ et1
    replace et2 := g15 _ _ et2
    replace ew1 := g15 _ _ ew1
    replace et3 := g15 _ _ et3
    replace ew2 := g15 _ _ ew2
    replace ekk := g15 _ _ ekk
    replace ech := g15 _ _ ech
    replace eq1 := g15 _ _ eq1
    replace ev1 := g15 _ _ ev1
    replace eg := g15 _ _ eg
    replace ef := g15 _ _ ef
    refine ⟨(by show 2 ≤ sizeLine; decide), fun t4 ft4 => ?_⟩
    have zt4 := same_free gB ft4
    have nqt4 := ne_of_none eq ft4
    have nLt4 := ne_of_none eL ft4
    have npt4 := ne_of_none ep ft4
    have nt1t4 := ne_of_none et1 ft4
    have nt2t4 := ne_of_none et2 ft4
    have nw1t4 := ne_of_none ew1 ft4
    have nt3t4 := ne_of_none et3 ft4
    have nw2t4 := ne_of_none ew2 ft4
    have nkkt4 := ne_of_none ekk ft4
    have ncht4 := ne_of_none ech ft4
    have nq1t4 := ne_of_none eq1 ft4
    have nv1t4 := ne_of_none ev1 ft4
    have ngt4 := ne_of_none eg ft4
    have nft4 := ne_of_none ef ft4
    have g16 := same_new ft4 (.tup [.int 1, .int 1])
    have et4 : upd H15 t4 (.tup [.int 1, .int 1]) t4 = some (.tup [.int 1, .int 1]) := upd_same
    generalize upd H15 t4 (.tup [.int 1, .int 1]) = H16 at *
    replace gB := gB.trans g16
    replace eL := g16 _ _ eL
    replace ep := g16 _ _ ep
    replace et1 := g16 _ _ et1
    replace et2 := g16 _ _ et2
    replace ew1 := g16 _ _ ew1
    replace et3 := g16 _ _ et3
    replace ew2 := g16 _ _ ew2
    replace ekk := g16 _ _ ekk
    replace ech := g16 _ _ ech
    replace eq1 := g16 _ _ eq1
    replace ev1 := g16 _ _ ev1
    replace eg := g16 _ _ eg
    replace ef := g16 _ _ ef
    replace eq := g16 _ _ eq
    refine ⟨(by show 1 ≤ sizeLine; decide), fun x2 fx2 => ?_⟩
    have zx2 := same_free gB fx2
    have nqx2 := ne_of_none eq fx2
    have nLx2 := ne_of_none eL fx2
    have npx2 := ne_of_none ep fx2
    have nt1x2 := ne_of_none et1 fx2
    have nt2x2 := ne_of_none et2 fx2
    have nw1x2 := ne_of_none ew1 fx2
    have nt3x2 := ne_of_none et3 fx2
    have nw2x2 := ne_of_none ew2 fx2
    have nkkx2 := ne_of_none ekk fx2
    have nchx2 := ne_of_none ech fx2
    have nq1x2 := ne_of_none eq1 fx2
    have nv1x2 := ne_of_none ev1 fx2
    have ngx2 := ne_of_none eg fx2
    have nfx2 := ne_of_none ef fx2
    have nt4x2 := ne_of_none et4 fx2
    have g17 := same_new fx2 (.tup [.ref t4])
    have ex2 : upd H16 x2 (.tup [.ref t4]) x2 = some (.tup [.ref t4]) := upd_same
    generalize upd H16 x2 (.tup [.ref t4]) = H17 at *
    replace gB := gB.trans g17
    replace eL := g17 _ _ eL
    replace ep := g17 _ _ ep
    replace et1 := g17 _ _ et1
    replace et2 := g17 _ _ et2
    replace ew1 := g17 _ _ ew1
    replace et3 := g17 _ _ et3
    replace ew2 := g17 _ _ ew2
    replace ekk := g17 _ _ ekk
    replace ech := g17 _ _ ech
    replace eq1 := g17 _ _ eq1
    replace ev1 := g17 _ _ ev1
    replace eg := g17 _ _ eg
    replace ef := g17 _ _ ef
    replace eq := g17 _ _ eq
    replace et4 := g17 _ _ et4
    refine ⟨(by show 2 ≤ sizeLine; decide), fun t5 ft5 => ?_⟩
    have zt5 := same_free gB ft5
    have nqt5 := ne_of_none eq ft5
    have nLt5 := ne_of_none eL ft5
    have npt5 := ne_of_none ep ft5
    have nt1t5 := ne_of_none et1 ft5
    have nt2t5 := ne_of_none et2 ft5
    have nw1t5 := ne_of_none ew1 ft5
    have nt3t5 := ne_of_none et3 ft5
    have nw2t5 := ne_of_none ew2 ft5
    have nkkt5 := ne_of_none ekk ft5
    have ncht5 := ne_of_none ech ft5
    have nq1t5 := ne_of_none eq1 ft5
    have nv1t5 := ne_of_none ev1 ft5
    have ngt5 := ne_of_none eg ft5
    have nft5 := ne_of_none ef ft5
    have nt4t5 := ne_of_none et4 ft5
    have nx2t5 := ne_of_none ex2 ft5
    have g18 := same_new ft5 (.tup [.int 1, .int 2])
    have et5 : upd H17 t5 (.tup [.int 1, .int 2]) t5 = some (.tup [.int 1, .int 2]) := upd_same
    generalize upd H17 t5 (.tup [.int 1, .int 2]) = H18 at *
    replace gB := gB.trans g18
    replace eL := g18 _ _ eL
    replace ep := g18 _ _ ep
    replace et1 := g18 _ _ et1
    replace et2 := g18 _ _ et2
    replace ew1 := g18 _ _ ew1
    replace et3 := g18 _ _ et3
    replace ew2 := g18 _ _ ew2
    replace ekk := g18 _ _ ekk
    replace ech := g18 _ _ ech
    replace eq1 := g18 _ _ eq1
    replace ev1 := g18 _ _ ev1
    replace eg := g18 _ _ eg
    replace ef := g18 _ _ ef
    replace eq := g18 _ _ eq
    replace et4 := g18 _ _ et4
    replace ex2 := g18 _ _ ex2
    refine ⟨(by show 2 ≤ sizeLine; decide), fun t6 ft6 => ?_⟩
    have zt6 := same_free gB ft6
    have nqt6 := ne_of_none eq ft6
    have nLt6 := ne_of_none eL ft6
    have npt6 := ne_of_none ep ft6
    have nt1t6 := ne_of_none et1 ft6
    have nt2t6 := ne_of_none et2 ft6
    have nw1t6 := ne_of_none ew1 ft6
    have nt3t6 := ne_of_none et3 ft6
    have nw2t6 := ne_of_none ew2 ft6
    have nkkt6 := ne_of_none ekk ft6
    have ncht6 := ne_of_none ech ft6
    have nq1t6 := ne_of_none eq1 ft6
    have nv1t6 := ne_of_none ev1 ft6
    have ngt6 := ne_of_none eg ft6
    have nft6 := ne_of_none ef ft6
    have nt4t6 := ne_of_none et4 ft6
    have nx2t6 := ne_of_none ex2 ft6
    have nt5t6 := ne_of_none et5 ft6
    have g19 := same_new ft6 (.tup [.int 1, .int 2])
    have et6 : upd H18 t6 (.tup [.int 1, .int 2]) t6 = some (.tup [.int 1, .int 2]) := upd_same
    generalize upd H18 t6 (.tup [.int 1, .int 2]) = H19 at *
    replace gB := gB.trans g19
    replace eL := g19 _ _ eL
    replace ep := g19 _ _ ep
    replace et1 := g19 _ _ et1
    replace et2 := g19 _ _ et2
    replace ew1 := g19 _ _ ew1
    replace et3 := g19 _ _ et3
    replace ew2 := g19 _ _ ew2
    replace ekk := g19 _ _ ekk
    replace ech := g19 _ _ ech
    replace eq1 := g19 _ _ eq1
    replace ev1 := g19 _ _ ev1
    replace eg := g19 _ _ eg
    replace ef := g19 _ _ ef
    replace eq := g19 _ _ eq
    replace et4 := g19 _ _ et4
    replace ex2 := g19 _ _ ex2
    replace et5 := g19 _ _ et5
    refine ⟨(by show 2 ≤ sizeLine; decide), fun x1 fx1 => ?_⟩
    have zx1 := same_free gB fx1
    have nqx1 := ne_of_none eq fx1
    have nLx1 := ne_of_none eL fx1
    have npx1 := ne_of_none ep fx1
    have nt1x1 := ne_of_none et1 fx1
    have nt2x1 := ne_of_none et2 fx1
    have nw1x1 := ne_of_none ew1 fx1
    have nt3x1 := ne_of_none et3 fx1
    have nw2x1 := ne_of_none ew2 fx1
    have nkkx1 := ne_of_none ekk fx1
    have nchx1 := ne_of_none ech fx1
    have nq1x1 := ne_of_none eq1 fx1
    have nv1x1 := ne_of_none ev1 fx1
    have ngx1 := ne_of_none eg fx1
    have nfx1 := ne_of_none ef fx1
    have nt4x1 := ne_of_none et4 fx1
    have nx2x1 := ne_of_none ex2 fx1
    have nt5x1 := ne_of_none et5 fx1
    have nt6x1 := ne_of_none et6 fx1
    have g20 := same_new fx1 (.tup [.ref t5, .ref t6])
    have ex1 : upd H19 x1 (.tup [.ref t5, .ref t6]) x1 = some (.tup [.ref t5, .ref t6]) := upd_same
    generalize upd H19 x1 (.tup [.ref t5, .ref t6]) = H20 at *
    replace gB := gB.trans g20
    replace eL := g20 _ _ eL
    replace ep := g20 _ _ ep
    replace et1 := g20 _ _ et1
    replace et2 := g20 _ _ et2
    replace ew1 := g20 _ _ ew1
    replace et3 := g20 _ _ et3
    replace ew2 := g20 _ _ ew2
    replace ekk := g20 _ _ ekk
    replace ech := g20 _ _ ech
    replace eq1 := g20 _ _ eq1
    replace ev1 := g20 _ _ ev1
    replace eg := g20 _ _ eg
    replace ef := g20 _ _ ef
    replace eq := g20 _ _ eq
    replace et4 := g20 _ _ et4
    replace ex2 := g20 _ _ ex2
    replace et5 := g20 _ _ et5
    replace et6 := g20 _ _ et6
    refine ⟨eq, [(kBlock, .ref x2), (kKey, .ref x1)], rfl, (by show 2 ≤ 15; decide), ?_⟩
    rw [merge2 bk_ne]
    replace eL := (upd_ne (o := .dK [(kBlock, .ref x2), (kKey, .ref x1)]) (by first | exact nLq | exact Ne.symm nqL)).trans eL
    replace ep := (upd_ne (o := .dK [(kBlock, .ref x2), (kKey, .ref x1)]) (by first | exact npq | exact Ne.symm nqp)).trans ep
    replace et1 := (upd_ne (o := .dK [(kBlock, .ref x2), (kKey, .ref x1)]) (by first | exact nt1q | exact Ne.symm nqt1)).trans et1
    replace et2 := (upd_ne (o := .dK [(kBlock, .ref x2), (kKey, .ref x1)]) (by first | exact nt2q | exact Ne.symm nqt2)).trans et2
    replace ew1 := (upd_ne (o := .dK [(kBlock, .ref x2), (kKey, .ref x1)]) (by first | exact nw1q | exact Ne.symm nqw1)).trans ew1
    replace et3 := (upd_ne (o := .dK [(kBlock, .ref x2), (kKey, .ref x1)]) (by first | exact nt3q | exact Ne.symm nqt3)).trans et3
    replace ew2 := (upd_ne (o := .dK [(kBlock, .ref x2), (kKey, .ref x1)]) (by first | exact nw2q | exact Ne.symm nqw2)).trans ew2
    replace ekk := (upd_ne (o := .dK [(kBlock, .ref x2), (kKey, .ref x1)]) (by first | exact nkkq | exact Ne.symm nqkk)).trans ekk
    replace ech := (upd_ne (o := .dK [(kBlock, .ref x2), (kKey, .ref x1)]) (by first | exact nchq | exact Ne.symm nqch)).trans ech
    replace eq1 := (upd_ne (o := .dK [(kBlock, .ref x2), (kKey, .ref x1)]) (by first | exact nq1q | exact Ne.symm nqq1)).trans eq1
    replace ev1 := (upd_ne (o := .dK [(kBlock, .ref x2), (kKey, .ref x1)]) (by first | exact nv1q | exact Ne.symm nqv1)).trans ev1
    replace eg := (upd_ne (o := .dK [(kBlock, .ref x2), (kKey, .ref x1)]) (by first | exact ngq | exact Ne.symm nqg)).trans eg
    replace ef := (upd_ne (o := .dK [(kBlock, .ref x2), (kKey, .ref x1)]) (by first | exact nfq | exact Ne.symm nqf)).trans ef
    replace et4 := (upd_ne (o := .dK [(kBlock, .ref x2), (kKey, .ref x1)]) (by first | exact nt4q | exact Ne.symm nqt4)).trans et4
    replace ex2 := (upd_ne (o := .dK [(kBlock, .ref x2), (kKey, .ref x1)]) (by first | exact nx2q | exact Ne.symm nqx2)).trans ex2
    replace et5 := (upd_ne (o := .dK [(kBlock, .ref x2), (kKey, .ref x1)]) (by first | exact nt5q | exact Ne.symm nqt5)).trans et5
    replace et6 := (upd_ne (o := .dK [(kBlock, .ref x2), (kKey, .ref x1)]) (by first | exact nt6q | exact Ne.symm nqt6)).trans et6
    replace ex1 := (upd_ne (o := .dK [(kBlock, .ref x2), (kKey, .ref x1)]) (by first | exact nx1q | exact Ne.symm nqx1)).trans ex1
    replace gB := same_upd (o := .dK [(kBlock, .ref x2), (kKey, .ref x1)]) gB zq
    replace eq : upd H20 q (.dK [(kBlock, .ref x2), (kKey, .ref x1)]) q = some (.dK [(kBlock, .ref x2), (kKey, .ref x1)]) := upd_same
    generalize upd H20 q (.dK [(kBlock, .ref x2), (kKey, .ref x1)]) = H21 at *
    refine ⟨_, rfl, f, _, rfl, .inl ⟨SqL.of ef, fun e fe => ?_⟩⟩
    have ze := same_free gB fe
    have nLe := ne_of_none eL fe
    have npe := ne_of_none ep fe
    have nt1e := ne_of_none et1 fe
    have nt2e := ne_of_none et2 fe
    have nw1e := ne_of_none ew1 fe
    have nt3e := ne_of_none et3 fe
    have nw2e := ne_of_none ew2 fe
    have nkke := ne_of_none ekk fe
    have nche := ne_of_none ech fe
    have nq1e := ne_of_none eq1 fe
    have nv1e := ne_of_none ev1 fe
    have nge := ne_of_none eg fe
    have nfe := ne_of_none ef fe
    have nqe := ne_of_none eq fe
    have nt4e := ne_of_none et4 fe
    have nx2e := ne_of_none ex2 fe
    have nt5e := ne_of_none et5 fe
    have nt6e := ne_of_none et6 fe
    have nx1e := ne_of_none ex1 fe
    have g22 := same_new fe (.tup [.ref g])
    have ee : upd H21 e (.tup [.ref g]) e = some (.tup [.ref g]) := upd_same
    generalize upd H21 e (.tup [.ref g]) = H22 at *
    replace gB := gB.trans g22
    replace eL := g22 _ _ eL
    replace ep := g22 _ _ ep
    replace et1 := g22 _ _ et1
    replace et2 := g22 _ _ et2
    replace ew1 := g22 _ _ ew1
    replace et3 := g22 _ _ et3
    replace ew2 := g22 _ _ ew2
    replace ekk := g22 _ _ ekk
    replace ech := g22 _ _ ech
    replace eq1 := g22 _ _ eq1
    replace ev1 := g22 _ _ ev1
    replace eg := g22 _ _ eg
    replace ef := g22 _ _ ef
    replace eq := g22 _ _ eq
    replace et4 := g22 _ _ et4
    replace ex2 := g22 _ _ ex2
    replace et5 := g22 _ _ et5
    replace et6 := g22 _ _ et6
    replace ex1 := g22 _ _ ex1
    refine ⟨(by show 2 ≤ sizeLine; decide), fun due fdue => ?_⟩
    have zdue := same_free gB fdue
    have nLdue := ne_of_none eL fdue
    have npdue := ne_of_none ep fdue
    have nt1due := ne_of_none et1 fdue
    have nt2due := ne_of_none et2 fdue
    have nw1due := ne_of_none ew1 fdue
    have nt3due := ne_of_none et3 fdue
    have nw2due := ne_of_none ew2 fdue
    have nkkdue := ne_of_none ekk fdue
    have nchdue := ne_of_none ech fdue
    have nq1due := ne_of_none eq1 fdue
    have nv1due := ne_of_none ev1 fdue
    have ngdue := ne_of_none eg fdue
    have nfdue := ne_of_none ef fdue
    have nqdue := ne_of_none eq fdue
    have nt4due := ne_of_none et4 fdue
    have nx2due := ne_of_none ex2 fdue
    have nt5due := ne_of_none et5 fdue
    have nt6due := ne_of_none et6 fdue
    have nx1due := ne_of_none ex1 fdue
    have nedue := ne_of_none ee fdue
    have g23 := same_new fdue (.tup [.ref q, .ref e])
    have edue : upd H22 due (.tup [.ref q, .ref e]) due = some (.tup [.ref q, .ref e]) := upd_same
    generalize upd H22 due (.tup [.ref q, .ref e]) = H23 at *
    replace gB := gB.trans g23
    replace eL := g23 _ _ eL
    replace ep := g23 _ _ ep
    replace et1 := g23 _ _ et1
    replace et2 := g23 _ _ et2
    replace ew1 := g23 _ _ ew1
    replace et3 := g23 _ _ et3
    replace ew2 := g23 _ _ ew2
    replace ekk := g23 _ _ ekk
    replace ech := g23 _ _ ech
    replace eq1 := g23 _ _ eq1
    replace ev1 := g23 _ _ ev1
    replace eg := g23 _ _ eg
    replace ef := g23 _ _ ef
    replace eq := g23 _ _ eq
    replace et4 := g23 _ _ et4
    replace ex2 := g23 _ _ ex2
    replace et5 := g23 _ _ et5
    replace et6 := g23 _ _ et6
    replace ex1 := g23 _ _ ex1
    replace ee := g23 _ _ ee
    refine ⟨_, rfl, _, rfl, fun x dx fx fdx nx => ?_⟩
    refine ⟨x, dx, p, f, g, kk, ch, w1, w2, _, _, _, _, rfl, upd_same, made_start fx fdx _ _ ep, .inr (SqT.of (made_start fx fdx _ _ ew1)), .inr (SqT.of (made_start fx fdx _ _ ew2)), SqL.of (made_start fx fdx _ _ ef), SqT.of (made_start fx fdx _ _ eg), .inr (SqT.of (made_start fx fdx _ _ ekk)), made_start fx fdx _ _ ech, (by simp), (by show 1 ≤ 15; decide), fun D tt u v D2 y1 y2 G bG ex eD ey1 ey2 ett eu ev eD2 fD fD2 ftt fu => ⟨rfl, ?_⟩⟩
    have kD := same_free (made_start fx fdx) fD
    have npD := ne_of_none ep kD
    have nqD := ne_of_none eq kD
    have neD := ne_of_none ee kD
    have ngD := ne_of_none eg kD
    have nchD := ne_of_none ech kD
    have zD := same_free gB kD
    have kD2 := same_free (made_start fx fdx) fD2
    have npD2 := ne_of_none ep kD2
    have nqD2 := ne_of_none eq kD2
    have neD2 := ne_of_none ee kD2
    have ngD2 := ne_of_none eg kD2
    have nchD2 := ne_of_none ech kD2
    have zD2 := same_free gB kD2
    have ktt := same_free (made_start fx fdx) ftt
    have nptt := ne_of_none ep ktt
    have nqtt := ne_of_none eq ktt
    have nett := ne_of_none ee ktt
    have ngtt := ne_of_none eg ktt
    have nchtt := ne_of_none ech ktt
    have ztt := same_free gB ktt
    have ku := same_free (made_start fx fdx) fu
    have npu := ne_of_none ep ku
    have nqu := ne_of_none eq ku
    have neu := ne_of_none ee ku
    have ngu := ne_of_none eg ku
    have nchu := ne_of_none ech ku
    have zu := same_free gB ku
    have gM := made_same fx fdx bG
    replace gB := gB.trans gM
    replace eL := gM _ _ eL
    replace ep := gM _ _ ep
    replace et1 := gM _ _ et1
    replace et2 := gM _ _ et2
    replace ew1 := gM _ _ ew1
    replace et3 := gM _ _ et3
    replace ew2 := gM _ _ ew2
    replace ekk := gM _ _ ekk
    replace ech := gM _ _ ech
    replace eq1 := gM _ _ eq1
    replace ev1 := gM _ _ ev1
    replace eg := gM _ _ eg
    replace ef := gM _ _ ef
    replace eq := gM _ _ eq
    replace et4 := gM _ _ et4
    replace ex2 := gM _ _ ex2
    replace et5 := gM _ _ et5
    replace et6 := gM _ _ et6
    replace ex1 := gM _ _ ex1
    replace ee := gM _ _ ee
    replace edue := gM _ _ edue
    generalize hG : G = H24 at *
    clear hG gM
    refine ⟨(by show 3 ≤ sizeLine; decide), fun t ft => ?_⟩
    have zt := same_free gB ft
    have nLt := ne_of_none eL ft
    have npt := ne_of_none ep ft
    have nt1t := ne_of_none et1 ft
    have nt2t := ne_of_none et2 ft
    have nw1t := ne_of_none ew1 ft
    have nt3t := ne_of_none et3 ft
    have nw2t := ne_of_none ew2 ft
    have nkkt := ne_of_none ekk ft
    have ncht := ne_of_none ech ft
    have nq1t := ne_of_none eq1 ft
    have nv1t := ne_of_none ev1 ft
    have ngt := ne_of_none eg ft
    have nft := ne_of_none ef ft
    have nqt := ne_of_none eq ft
    have nt4t := ne_of_none et4 ft
    have nx2t := ne_of_none ex2 ft
    have nt5t := ne_of_none et5 ft
    have nt6t := ne_of_none et6 ft
    have nx1t := ne_of_none ex1 ft
    have net := ne_of_none ee ft
    have nduet := ne_of_none edue ft
    have nxt := ne_of_none ex ft
    have nDt := ne_of_none eD ft
    have nut := ne_of_none eu ft
    have nD2t := ne_of_none eD2 ft
    have g25 := same_new ft (.tup [.ref p, .ref due, .ref x])
    have et : upd H24 t (.tup [.ref p, .ref due, .ref x]) t = some (.tup [.ref p, .ref due, .ref x]) := upd_same
    generalize upd H24 t (.tup [.ref p, .ref due, .ref x]) = H25 at *
    replace gB := gB.trans g25
    replace eL := g25 _ _ eL
    replace ep := g25 _ _ ep
    replace et1 := g25 _ _ et1
    replace et2 := g25 _ _ et2
    replace ew1 := g25 _ _ ew1
    replace et3 := g25 _ _ et3
    replace ew2 := g25 _ _ ew2
    replace ekk := g25 _ _ ekk
    replace ech := g25 _ _ ech
    replace eq1 := g25 _ _ eq1
    replace ev1 := g25 _ _ ev1
    replace eg := g25 _ _ eg
    replace ef := g25 _ _ ef
    replace eq := g25 _ _ eq
    replace et4 := g25 _ _ et4
    replace ex2 := g25 _ _ ex2
    replace et5 := g25 _ _ et5
    replace et6 := g25 _ _ et6
    replace ex1 := g25 _ _ ex1
    replace ee := g25 _ _ ee
    replace edue := g25 _ _ edue
    replace ex := g25 _ _ ex
    replace eD := g25 _ _ eD
    replace ey1 := Same.tup g25 ey1
    replace ey2 := Same.tup g25 ey2
    replace ett := Same.tup g25 ett
    replace eu := g25 _ _ eu
    replace ev := Same.tup g25 ev
    replace eD2 := g25 _ _ eD2
    have hDn := hD.same gB
    have O : ∀ {x : Addr} {o : HO}, H25 x = some o → (∀ ys, o ≠ .lst ys) → x ≠ p → dels [d, p] H25 x = some o := fun hx n np => off_dp hDn hx n np
    have hP : PartAt H25 p := .inl ⟨_, ep, (by show 2 ≤ 15; decide)⟩
    have OT : ∀ {x : Addr} {xs : List V}, H25 x = some (.tup xs) → SqT K (dels [d, p] H25) x xs := fun hx => off_tup hDn hP (SqT.of hx)
    have OS : ∀ {x : Addr} {xs : List V}, SqT K H25 x xs → SqT K (dels [d, p] H25) x xs := fun hx => off_tup hDn hP hx
    have OO : ∀ {x : Addr} {xs : List V}, H25 x = some (.tup xs) → dels [d, p] H25 x = some (.tup xs) := fun hx => (off_tup_at hDn hP hx)
    have OI : ∀ {x C dx : Addr} {fs : List (Str × V)}, H25 x = some (.ins C dx fs) → dels [d, p] H25 x = some (.ins C dx fs) := fun hx => O hx (fun _ z => by cases z) (ne_of hx ep (fun z => by cases z))
    have OK : ∀ {x : Addr} {kvs : List (Key × V)}, H25 x = some (.dK kvs) → x ≠ p → dels [d, p] H25 x = some (.dK kvs) := fun hx np => O hx (fun _ z => by cases z) np
    have OD : ∀ {x : Addr} {kvs : List (List Key × V)}, H25 x = some (.dT kvs) → x ≠ p → dels [d, p] H25 x = some (.dT kvs) := fun hx np => O hx (fun _ z => by cases z) np
    refine fin t p due x [q, e, g, ch, u, D2] H25 gB et hP zp (.e6 (OI ex) (OK eD (Ne.symm npD)) (OT edue) (OK eq (Ne.symm npq)) (OS ett) (OO eu) (OD eD2 (Ne.symm npD2)) (OO ee) (OO eg) (OD ech (Ne.symm npch)) (dp_pairs (OS ey1) (OT et1) (OT et2)) (.tup (OS ey2) (.cons (dp_pair (OT et3)) .nil)) (dp_pairs (OT ex1) (OT et5) (OT et6)) (.tup (OT ex2) (.cons (dp_pair (OT et4)) .nil)) (dp_pair (OT ev1)) (dp_pair (OT ev1)) (.tup (OS ev) (.cons (.str _) .nil)) (.tup (OT ekk) (.cons (.str _) .nil)) (Ne.symm nqD) (Ne.symm nett) (Ne.symm ngu) (Ne.symm nchD2)) ?_
    exact fun y hy => by
      simp only [List.mem_cons, List.not_mem_nil, or_false] at hy
      rcases hy with rfl | rfl | rfl | rfl | rfl | rfl
      · exact zq
      · exact ze
      · exact zg
      · exact zch
      · exact zu
      · exact zD2

end
end My
set_option Elab.async false
set_option linter.all false
set_option maxRecDepth 100000
set_option maxHeartbeats 400000
namespace My
open PySem L2 PySem.Spec PyProof.Rows
section
variable {P : Program} {w : World} {K : PySem.W.Frag} {mg : Str → Option Value} {base : Heap}
/-! ### all but lists stays -/
def Nl (H H' : Hp) : Prop := ∀ x o, H x = some o → (∀ xs, o ≠ .lst xs) → H' x = some o
theorem Nl.tup {H H' : Hp} (g : Nl H H') {a : Addr} {xs : List V} (h : SqT K H a xs) : SqT K H' a xs := by
  rcases h with (h | ⟨q, h⟩) | h
  · exact .inl (.inl (g _ _ h (fun _ z => by cases z)))
  · exact .inl (.inr ⟨q, g _ _ h (fun _ z => by cases z)⟩)
  · exact .inr h
theorem Nl.trans {H H1 H2 : Hp} (a : Nl H H1) (b : Nl H1 H2) : Nl H H2 := fun x o h n => b x o (a x o h n) n
theorem Nl.same {H H' : Hp} (g : Same H H') : Nl H H' := fun x o h _ => g x o h
theorem Nl.but {H H' : Hp} {d : Addr} {ys : List V} (hd : H d = some (.lst ys)) (b : But d H H') : Nl H H' := fun x o h n => b x o (fun z => by
  rw [z, hd] at h
  exact n _ (Option.some.inj h).symm) h
theorem noL_ints : ∀ r : List Int, noLs (r.map PyData.int) = true
  | [] => rfl
  | x :: r => noL_ints r
theorem Ev.off {T : Txt K mg} {H H' : Hp} {k : Kn} {n : Int} {r : List Int} {due one : Addr} {ds : List Addr} (g : Nl H H') (h : Ev T H k r n due one ds) : Ev T H' k r n due one ds := by
  have s : ∀ {d : PyData} {v : V}, noL d = true → Dp K H v d → Dp K H' v d := fun {d v} n h => dp_tups (fun _ _ z => g.tup z) d v n h
  have sr : ∀ {r : List Int} {v : V}, Dp K H v (rD r) → Dp K H' v (rD r) := fun {r v} h => s (show noLs (r.map PyData.int) = true from noL_ints r) h
  have t : ∀ {x : Addr} {xs : List V}, SqT K H x xs → SqT K H' x xs := fun h => g.tup h
  have i : ∀ {x C dx : Addr} {fs : List (Str × V)}, H x = some (.ins C dx fs) → H' x = some (.ins C dx fs) := fun h => g _ _ h (fun _ z => by cases z)
  have kd : ∀ {x : Addr} {kvs : List (Key × V)}, H x = some (.dK kvs) → H' x = some (.dK kvs) := fun h => g _ _ h (fun _ z => by cases z)
  have td : ∀ {x : Addr} {kvs : List (List Key × V)}, H x = some (.dT kvs) → H' x = some (.dT kvs) := fun h => g _ _ h (fun _ z => by cases z)
  have tu : ∀ {x : Addr} {xs : List V}, H x = some (.tup xs) → H' x = some (.tup xs) := fun h => g _ _ h (fun _ z => by cases z)
  cases h with
  | e0 h1 h2 h3 h4 a1 a2 a3 a4 ne => exact .e0 (i h1) (kd h2) (t h3) (kd h4) (sr a1) (sr a2) (sr a3) (sr a4) ne
  | e1 h1 h2 h3 h4 a1 a2 a3 a4 ne => exact .e1 (i h1) (kd h2) (t h3) (kd h4) (sr a1) (sr a2) (s rfl a3) (s rfl a4) ne
  | e2 h1 h2 h3 h4 a1 a3 a4 =>
    obtain ⟨x1, x2, x3, x4⟩ := h2
    obtain ⟨y1, y2, y3, y4, y5, y6, y7, y8⟩ := h4
    exact .e2 (i h1) ⟨x1, x2, i x3, t x4⟩ (t h3) ⟨y1, y2, y3, y4, i y5, t y6, kd y7, t y8⟩ (dps_tups (fun _ _ z => g.tup z) _ _ rfl a1) (s rfl a3) (s rfl a4)
  | e3 h1 h2 h3 h4 a1 a2 a3 a4 a5 a6 ne => exact .e3 (i h1) (td h2) (t h3) (td h4) (s rfl a1) (s rfl a2) (s rfl a3) (s rfl a4) (sr a5) (sr a6) ne
  | e4 h1 h2 h3 h4 a1 ne =>
    obtain ⟨y1, y2, y3, y4, y5, y6, y7, y8, y9, y10⟩ := a1
    exact .e4 (i h1) (kd h2) (t h3) (kd h4) ⟨y1, y2, y3, y4, y5, i y6, kd y7, t y8, t y9, t y10⟩ ne
  | e5 h1 h2 h3 h4 h5 h6 h7 h8 a1 a2 ne ne2 ne3 => exact .e5 (i h1) (kd h2) (t h3) (kd h4) (t h5) (td h6) (tu h7) (td h8) (s rfl a1) (s rfl a2) ne ne2 ne3
  | e6 h1 h2 h3 h4 h5 h6 h7 h8 h9 h10 a1 a2 a3 a4 a5 a6 a7 a8 ne ne2 ne3 ne4 => exact .e6 (i h1) (kd h2) (t h3) (kd h4) (t h5) (tu h6) (td h7) (tu h8) (tu h9) (td h10) (s rfl a1) (s rfl a2) (s rfl a3) (s rfl a4) (s rfl a5) (s rfl a6) (s rfl a7) (s rfl a8) ne ne2 ne3 ne4

end
end My
set_option Elab.async false
set_option linter.all false
set_option maxRecDepth 100000
set_option maxHeartbeats 400000
namespace My
open PySem L2 PySem.Spec PyProof.Rows
section
variable {P : Program} {w : World} {K : PySem.W.Frag} {mg : Str → Option Value} {base : Heap}
/-! ### the law -/
theorem EqT.same {H H' : Hp} (g : Same H H') : ∀ (n : Nat) {x y : V} {b : Bool}, EqT K H n x y b → EqT K H' n x y b
  | 0, x, y, b, h => by
    obtain ⟨d, e, h1, h2, s1, s2, rfl⟩ := h
    exact ⟨d, e, dp_same g _ _ h1, dp_same g _ _ h2, s1, s2, rfl⟩
  | n + 1, x, y, b, h => by
    have ih := fun {x y : V} {b : Bool} (h : EqT K H n x y b) => EqT.same g n h
    have hit : ∀ {κ : Type} [DecidableEq κ] {ls ks : List (κ × V)} {r : Bool}, Hits (EqT K H n) ls ks r → Hits (EqT K H' n) ls ks r := fun h => by
      induction h with
      | nil => exact .nil
      | miss z => exact .miss z
      | hit z q _ i => exact .hit z (ih q) i
    have its : ∀ {xs ys : List V} {r : Bool}, Its (EqT K H n) xs ys r → Its (EqT K H' n) xs ys r := fun h => by
      induction h with
      | nil => exact .nil
      | cons q _ i => exact .cons (ih q) i
    rcases h with h | ⟨a, e1, e2, e3⟩ | ⟨a, c, xs, ys, e1, e2, ne, ha, hc, it⟩ | ⟨a, c, ks, ls, r, e1, e2, ne, ha, hc, hits, e3⟩ | ⟨a, c, ks, ls, r, e1, e2, ne, ha, hc, hits, e3⟩
    · exact .inl (ih h)
    · exact .inr (.inl ⟨a, e1, e2, e3⟩)
    · exact .inr (.inr (.inl ⟨a, c, xs, ys, e1, e2, ne, Same.tup g ha, Same.tup g hc, its it⟩))
    · exact .inr (.inr (.inr (.inl ⟨a, c, ks, ls, r, e1, e2, ne, g _ _ ha, g _ _ hc, hit hits, e3⟩)))
    · exact .inr (.inr (.inr (.inr ⟨a, c, ks, ls, r, e1, e2, ne, g _ _ ha, g _ _ hc, hit hits, e3⟩)))
theorem Its.same {H H' : Hp} (g : Same H H') {n : Nat} {xs ys : List V} {b : Bool} (h : Its (EqT K H n) xs ys b) : Its (EqT K H' n) xs ys b := by
  induction h with
  | nil => exact .nil
  | cons q _ i => exact .cons (EqT.same g n q) i
theorem kn_of {i : Int} (h0 : 0 ≤ i) (h7 : i < 7) : ∃ k : Kn, i = k.v := by
  have : i = 0 ∨ i = 1 ∨ i = 2 ∨ i = 3 ∨ i = 4 ∨ i = 5 ∨ i = 6 := by omega
  rcases this with rfl | rfl | rfl | rfl | rfl | rfl | rfl
  · exact ⟨.n0, rfl⟩
  · exact ⟨.n1, rfl⟩
  · exact ⟨.n2, rfl⟩
  · exact ⟨.n3, rfl⟩
  · exact ⟨.n4, rfl⟩
  · exact ⟨.n5, rfl⟩
  · exact ⟨.n6, rfl⟩
theorem kn_inj {k l : Kn} (h : k.v = l.v) : k = l := by
  cases k <;> cases l <;> first | rfl | exact absurd h (by decide)
structure RowI where
  t : Addr
  due : Addr
  one : Addr
  k : Kn
  r : List Int
  n : Int
  ds : List Addr
def RowIn (T : Txt K mg) (H : Hp) (x : RowI) : Prop := H x.t = some (.tup [.int x.k.v, .ref x.due, .ref x.one]) ∧ Ev T H x.k x.r x.n x.due x.one x.ds
theorem RowIn.off {T : Txt K mg} {H H' : Hp} {x : RowI} (g : Nl H H') (h : RowIn T H x) : RowIn T H' x := ⟨g _ _ h.1 (fun _ z => by cases z), h.2.off g⟩
theorem RowIn.same {T : Txt K mg} {H H' : Hp} {x : RowI} (g : Same H H') (h : RowIn T H x) : RowIn T H' x := ⟨g _ _ h.1, h.2.same g⟩
def RwsAt (T : Txt K mg) (rw : Addr) (H : Hp) (rs : List RowI) : Prop := H rw = some (.lst (rs.map fun x => V.ref x.t)) ∧ (∀ x ∈ rs, RowIn T H x) ∧ rs.Pairwise (fun x y => ∀ u ∈ x.ds, ∀ v ∈ y.ds, u ≠ v)
def sp_law (K : PySem.W.Frag) : Sp := fun vs H Q _ => ∃ (a : Addr) (ns : List Int), vs = [.ref a] ∧ SqF K H a (ns.map V.int) ∧ ns.length ≤ 63 ∧ ∀ H', Q (.bl true) H'
theorem dels_off {D E : List Addr} {H H' : Hp} (h : ∀ b o, b ∉ D → H b = some o → b ∉ E ∧ H' b = some o) : Same (dels D H) (dels E H') := fun b o e => dels_at (h b o (dels_in e).1 (dels_in e).2).1 (h b o (dels_in e).1 (dels_in e).2).2
theorem Core.eq {T : Txt K mg} {H : Hp} {one : Addr} {y : V} {b : Bool} {Q : VK} {E : XK} (h : Core T H one y b) (q : Q (.bl b) H) : rAnyEq K T.c_Same (sp_seq T.c_Same K) E (.ref one) y H Q ∨ rAnyEq K T.c_Unlike (sp_ueq T.c_Unlike K) E (.ref one) y H Q ∨ rAnyEq K T.c_Apart (sp_apeq T.c_Apart T.c_Columns T.c_Table K) E (.ref one) y H Q ∨ rAnyEq K T.c_Outside (sp_oeq T.c_Outside K) E (.ref one) y H Q ∨ rAnyEq K T.c_Cheapest (sp_cheq T.c_Cheapest T.c_Unlike K) E (.ref one) y H Q ∨ rAnyEq K T.c_Array (sp_areq T.c_Array "sizes" "entries" K) E (.ref one) y H Q ∨ rAnyEq K T.c_Kernel (sp_areq T.c_Kernel "weights" "functions" K) E (.ref one) y H Q := by
  cases h with
  | c0 h ty nf sp => exact .inl ⟨one, _, _, _, rfl, h, ty, nf, sp _ _ ⟨b, rfl, q⟩⟩
  | c1 h ty nf sp => exact .inr (.inl ⟨one, _, _, _, rfl, h, ty, nf, sp _ _ ⟨b, rfl, q⟩⟩)
  | c2 h ty nf sp => exact .inr (.inr (.inl ⟨one, _, _, _, rfl, h, ty, nf, sp _ _ ⟨b, rfl, q⟩⟩))
  | c3 h ty nf sp => exact .inr (.inr (.inr (.inl ⟨one, _, _, _, rfl, h, ty, nf, sp _ _ ⟨b, rfl, q⟩⟩)))
  | c4 h ty nf sp => exact .inr (.inr (.inr (.inr (.inl ⟨one, _, _, _, rfl, h, ty, nf, sp _ _ ⟨b, rfl, q⟩⟩))))
  | c5 h ty nf sp => exact .inr (.inr (.inr (.inr (.inr (.inl ⟨one, _, _, _, rfl, h, ty, nf, sp _ _ ⟨b, rfl, q⟩⟩)))))
  | c6 h ty nf sp => exact .inr (.inr (.inr (.inr (.inr (.inr ⟨one, _, _, _, rfl, h, ty, nf, sp _ _ ⟨b, rfl, q⟩⟩)))))
theorem Core.ne {T : Txt K mg} {H : Hp} {one : Addr} {y : V} {b : Bool} {Q : VK} {E : XK} (h : Core T H one y b) (q : Q (.bl (!b)) H) : rAnyNe K T.c_Same (sp_seq T.c_Same K) E (.ref one) y H Q ∨ rAnyNe K T.c_Unlike (sp_ueq T.c_Unlike K) E (.ref one) y H Q ∨ rAnyNe K T.c_Apart (sp_apeq T.c_Apart T.c_Columns T.c_Table K) E (.ref one) y H Q ∨ rAnyNe K T.c_Outside (sp_oeq T.c_Outside K) E (.ref one) y H Q ∨ rAnyNe K T.c_Cheapest (sp_cheq T.c_Cheapest T.c_Unlike K) E (.ref one) y H Q ∨ rAnyNe K T.c_Array (sp_areq T.c_Array "sizes" "entries" K) E (.ref one) y H Q ∨ rAnyNe K T.c_Kernel (sp_areq T.c_Kernel "weights" "functions" K) E (.ref one) y H Q := by
  cases h with
  | c0 h ty nf sp => exact .inl ⟨one, _, _, _, rfl, h, ty, nf, sp _ _ ⟨b, rfl, q⟩⟩
  | c1 h ty nf sp => exact .inr (.inl ⟨one, _, _, _, rfl, h, ty, nf, sp _ _ ⟨b, rfl, q⟩⟩)
  | c2 h ty nf sp => exact .inr (.inr (.inl ⟨one, _, _, _, rfl, h, ty, nf, sp _ _ ⟨b, rfl, q⟩⟩))
  | c3 h ty nf sp => exact .inr (.inr (.inr (.inl ⟨one, _, _, _, rfl, h, ty, nf, sp _ _ ⟨b, rfl, q⟩⟩)))
  | c4 h ty nf sp => exact .inr (.inr (.inr (.inr (.inl ⟨one, _, _, _, rfl, h, ty, nf, sp _ _ ⟨b, rfl, q⟩⟩))))
  | c5 h ty nf sp => exact .inr (.inr (.inr (.inr (.inr (.inl ⟨one, _, _, _, rfl, h, ty, nf, sp _ _ ⟨b, rfl, q⟩⟩)))))
  | c6 h ty nf sp => exact .inr (.inr (.inr (.inr (.inr (.inr ⟨one, _, _, _, rfl, h, ty, nf, sp _ _ ⟨b, rfl, q⟩⟩)))))
theorem due_eq {X : Cx} {mg' : Str → Option Value} (T : Txt X.K mg') {nU nT : Nat} (G_U : FnOk X.prog X.w X.K X.mg X.base CX0 nU T.a_Unlike_eq T.d_Unlike_eq ["self", "other"] (sp_ueq T.c_Unlike X.K)) (G_T : FnOk X.prog X.w X.K X.mg X.base CX0 nT T.a_Table_eq T.d_Table_eq ["self", "other"] (sp_teq T.c_Columns T.c_Table X.K)) (hU : Room (nU + 2) X.A) (hT : Room (nT + 1) X.A)
    {H : Hp} {k : Kn} {r r' : List Int} {n n' : Int} {due one late two : Addr} {ds ds' : List Addr} (h : Ev T H k r n due one ds) (h' : Ev T H k r' n' late two ds') (dis : (r = r' ∧ n = n') ∨ ∀ x ∈ ds, ∀ y ∈ ds', x ≠ y) {Q : VK} (q : Q (.bl (res k r n r' n')) H) : rEqTM X (.ref due) (.ref late) H Q := by
  obtain ⟨xs, ys, hl, s1, s2, it⟩ := due_cmp T G_U G_T hU hT h h' dis
  exact ⟨due, late, xs, ys, rfl, rfl, hl, s1, s2, it _ q⟩
theorem due_ne {X : Cx} {mg' : Str → Option Value} (T : Txt X.K mg') {nU nT : Nat} (G_U : FnOk X.prog X.w X.K X.mg X.base CX0 nU T.a_Unlike_eq T.d_Unlike_eq ["self", "other"] (sp_ueq T.c_Unlike X.K)) (G_T : FnOk X.prog X.w X.K X.mg X.base CX0 nT T.a_Table_eq T.d_Table_eq ["self", "other"] (sp_teq T.c_Columns T.c_Table X.K)) (hU : Room (nU + 2) X.A) (hT : Room (nT + 1) X.A)
    {H : Hp} {k : Kn} {r r' : List Int} {n n' : Int} {due one late two : Addr} {ds ds' : List Addr} (h : Ev T H k r n due one ds) (h' : Ev T H k r' n' late two ds') (dis : (r = r' ∧ n = n') ∨ ∀ x ∈ ds, ∀ y ∈ ds', x ≠ y) {Q : VK} (q : Q (.bl (!res k r n r' n')) H) : rNeTM X (.ref due) (.ref late) H Q := by
  obtain ⟨xs, ys, hl, s1, s2, it⟩ := due_cmp T G_U G_T hU hT h h' dis
  exact ⟨due, late, xs, ys, rfl, rfl, hl, s1, s2, it _ q⟩
theorem pair_dis {rs : List RowI} (h : rs.Pairwise (fun x y => ∀ u ∈ x.ds, ∀ v ∈ y.ds, u ≠ v)) {i j : Nat} {x y : RowI} (hx : rs[i]? = some x) (hy : rs[j]? = some y) : (x.r = y.r ∧ x.n = y.n) ∨ ∀ u ∈ x.ds, ∀ v ∈ y.ds, u ≠ v := by
  obtain ⟨li, ei⟩ := List.getElem?_eq_some_iff.mp hx
  obtain ⟨lj, ej⟩ := List.getElem?_eq_some_iff.mp hy
  have p := List.pairwise_iff_getElem.mp h
  rcases Nat.lt_trichotomy i j with c | c | c
  · right
    have := p i j li lj c
    rw [ei, ej] at this
    exact this
  · subst c
    rw [hx] at hy
    cases hy
    exact .inl ⟨rfl, rfl⟩
  · right
    have := p j i lj li c
    rw [ei, ej] at this
    exact fun u hu v hv e => this v hv u hu e.symm
theorem dec_v {k l : Kn} : decide (V.int k.v = V.int l.v) = decide (k = l) := by
  by_cases e : k = l
  · subst e
    simp
  · rw [decide_eq_false e]
    exact decide_eq_false fun z => e (kn_inj (V.int.inj z))
theorem eqv_bool (a b : Bool) : PyData.eqv (.bool a) (.bool b) = (a == b) := rfl
def truL : List Bool := [true, false, true, false, true, false]
def truD : PyData := .list [.bool true, .bool false, .bool true, .bool false, .bool true, .bool false]
theorem dp_tru {H : Hp} : DpAll K H [.bl true, .bl false, .bl true, .bl false, .bl true, .bl false] [.bool true, .bool false, .bool true, .bool false, .bool true, .bool false] := .cons (.bl _) (.cons (.bl _) (.cons (.bl _) (.cons (.bl _) (.cons (.bl _) (.cons (.bl _) .nil)))))

end
end My
set_option Elab.async false
set_option linter.all false
set_option maxRecDepth 100000
set_option maxHeartbeats 400000
namespace My
open PySem L2 PySem.Spec PyProof.Rows
section
variable {P : Program} {w : World} {K : PySem.W.Frag} {mg : Str → Option Value} {base : Heap}
theorem next_of {D : Ends} {σ : L2.St} {H : Hp} (h : D.nx σ H) : tNext D σ H := h
theorem ok_law (T : Txt K mg) : FnOk P w K mg base CX0 10 T.a_law T.d_law ["script"] (sp_law K) := by
  have G__law_take := ok__law_take (P := P) (w := w) (base := base) T
  have G__law_made := ok__law_made (P := P) (w := w) (base := base) T
  have G__law_told := ok__law_told (P := P) (w := w) (base := base) T
  have G_Same_init := ok_Same_init (P := P) (w := w) (base := base) T
  have G_Unlike_init := ok_Unlike_init (P := P) (w := w) (base := base) T
  have G_Outside_init := ok_Outside_init (P := P) (w := w) (base := base) T
  have G_Cheapest_init := ok_Cheapest_init (P := P) (w := w) (base := base) T
  have G_Same_eq := ok_Same_eq (P := P) (w := w) (base := base) T
  have G_Unlike_eq := ok_Unlike_eq (P := P) (w := w) (base := base) T
  have G_Apart_eq := ok_Apart_eq (P := P) (w := w) (base := base) T
  have G_Within_eq := ok_Within_eq (P := P) (w := w) (base := base) T
  have G_Outside_eq := ok_Outside_eq (P := P) (w := w) (base := base) T
  have G_Cheapest_eq := ok_Cheapest_eq (P := P) (w := w) (base := base) T
  have G_Array_eq := ok_Array_eq (P := P) (w := w) (base := base) T
  have G_Kernel_eq := ok_Kernel_eq (P := P) (w := w) (base := base) T
  have G_Same_bool := ok_Same_bool (P := P) (w := w) (base := base) T
  have G_Unlike_bool := ok_Unlike_bool (P := P) (w := w) (base := base) T
  have G_Within_bool := ok_Within_bool (P := P) (w := w) (base := base) T
  have G_Outside_bool := ok_Outside_bool (P := P) (w := w) (base := base) T
  have G_Cheapest_bool := ok_Cheapest_bool (P := P) (w := w) (base := base) T
  refine T.F_law.ok sc_law (fun vs H Q E h => ?_) (fun cdv A outer s H vs Q E hr h => ?_)
  · obtain ⟨a, ns, rfl, _⟩ := h
    rfl
  obtain ⟨a, ns, rfl, hs, hl, k⟩ := h
  refine ⟨_, (pss_cons (ps_set (i := 1) sc_law.nd rfl (by first | exact Or.inl rfl | exact Or.inr rfl) (pe_lst (pa_cons (pv 0) (pa_cons pe_int pa_nil))))
    (pss_cons (ps_set (i := 2) sc_law.nd rfl (by first | exact Or.inl rfl | exact Or.inr rfl) (pe_lst pa_nil))
    (pss_cons (ps_for PassesOwn.never rfl (pi_range1 (by rfl) T.z_range (pa_cons pe_int pa_nil)) (pg_name (i := 3) sc_law.nd rfl (by first | exact Or.inl rfl | exact Or.inr rfl))
    (pss_cons (ps_set (i := 4) sc_law.nd rfl (by first | exact Or.inl rfl | exact Or.inr rfl) (pe_call G__law_take (hr.mono (by first | decide | omega)) (by rfl) T.m__law_take T.F__law_take.kp T.b__law_take .nil pass0 (pa_cons (pv 1) (pa_cons pe_int pa_nil))))
    (pss_cons (ps_asg (pe_call G__law_made (hr.mono (by first | decide | omega)) (by rfl) T.m__law_made T.F__law_made.kp T.b__law_made .nil pass0 (pa_cons (pv 1) (pa_cons (pv 4) pa_nil))) (pg_tup rfl (pgs_cons (pg_name (i := 5) sc_law.nd rfl (by first | exact Or.inl rfl | exact Or.inr rfl)) (pgs_cons (pg_name (i := 6) sc_law.nd rfl (by first | exact Or.inl rfl | exact Or.inr rfl)) (pgs_cons (pg_name (i := 7) sc_law.nd rfl (by first | exact Or.inl rfl | exact Or.inr rfl)) pgs_nil)))))
    (pss_cons (ps_if (pt_cmpR (op_neTT (hu110 hr)) (pe_call G__law_told (hr.mono (by first | decide | omega)) (by rfl) T.m__law_told T.F__law_told.kp T.b__law_told .nil pass0 (pa_cons (pv 4) (pa_cons (pv 7) pa_nil))) (pv 6) (nomark _)) (pss_one (ps_ret pe_bl)) pss_nil)
    (pss_cons (ps_asg (pe_tup (pa_cons pe_int pa_nil)) (pg_sub (pv 5) pe_str (set_or (set_dict (hu1 hr)) (set_text (hu70 hr)))))
    (pss_cons (ps_if (PW.pt (pw_or (pt_cmpR (op_neTT (hu110 hr)) (pe_call G__law_told (hr.mono (by first | decide | omega)) (by rfl) T.m__law_told T.F__law_told.kp T.b__law_told .nil pass0 (pa_cons (pv 4) (pa_cons (pv 7) pa_nil))) (pv 6) (nomark _)) (pw_or (pt_cmpR ((op_anyEq G_Same_eq T.q_Same_eq.at_ T.q_Same_eq.fn T.b_Same_eq pass0 (hr.mono (by first | decide | omega))).or ((op_anyEq G_Unlike_eq T.q_Unlike_eq.at_ T.q_Unlike_eq.fn T.b_Unlike_eq pass0 (hr.mono (by first | decide | omega))).or ((op_anyEq G_Apart_eq T.q_Apart_eq.at_ T.q_Apart_eq.fn T.b_Apart_eq pass0 (hr.mono (by first | decide | omega))).or ((op_anyEq G_Outside_eq T.q_Outside_eq.at_ T.q_Outside_eq.fn T.b_Outside_eq pass0 (hr.mono (by first | decide | omega))).or ((op_anyEq G_Cheapest_eq T.q_Cheapest_eq.at_ T.q_Cheapest_eq.fn T.b_Cheapest_eq pass0 (hr.mono (by first | decide | omega))).or ((op_anyEq G_Array_eq T.q_Array_eq.at_ T.q_Array_eq.fn T.b_Array_eq pass0 (hr.mono (by first | decide | omega))).or (op_anyEq G_Kernel_eq T.q_Kernel_eq.at_ T.q_Kernel_eq.fn T.b_Kernel_eq pass0 (hr.mono (by first | decide | omega))))))))) (pv 7) (pv 6) (nomark _)) (pw_or1 (pt_cmpR ((op_anyEq G_Same_eq T.q_Same_eq.at_ T.q_Same_eq.fn T.b_Same_eq pass0 (hr.mono (by first | decide | omega))).or ((op_anyEq G_Unlike_eq T.q_Unlike_eq.at_ T.q_Unlike_eq.fn T.b_Unlike_eq pass0 (hr.mono (by first | decide | omega))).or ((op_anyEq G_Apart_eq T.q_Apart_eq.at_ T.q_Apart_eq.fn T.b_Apart_eq pass0 (hr.mono (by first | decide | omega))).or ((op_anyEq G_Outside_eq T.q_Outside_eq.at_ T.q_Outside_eq.fn T.b_Outside_eq pass0 (hr.mono (by first | decide | omega))).or ((op_anyEq G_Cheapest_eq T.q_Cheapest_eq.at_ T.q_Cheapest_eq.fn T.b_Cheapest_eq pass0 (hr.mono (by first | decide | omega))).or ((op_anyEq G_Array_eq T.q_Array_eq.at_ T.q_Array_eq.fn T.b_Array_eq pass0 (hr.mono (by first | decide | omega))).or (op_anyEq G_Kernel_eq T.q_Kernel_eq.at_ T.q_Kernel_eq.fn T.b_Kernel_eq pass0 (hr.mono (by first | decide | omega))))))))) (pv 7) pe_non (nomark _)))))) (pss_one (ps_ret pe_bl)) pss_nil)
    (pss_one (ps_expr (pe_bm PySem.F.plainAttrs_list PySem.F.slot_list_append PySem.F.type_list_append mt_append (pv 2) (pa_cons (pe_tup (pa_cons (pv 4) (pa_cons (pv 6) (pa_cons (pv 7) pa_nil)))) pa_nil))))))))))
    (pss_cons (ps_for PassesOwn.never rfl (pi_list (pv 2)) (pg_tup rfl (pgs_cons (pg_name (i := 4) sc_law.nd rfl (by first | exact Or.inl rfl | exact Or.inr rfl)) (pgs_cons (pg_name (i := 6) sc_law.nd rfl (by first | exact Or.inl rfl | exact Or.inr rfl)) (pgs_cons (pg_name (i := 7) sc_law.nd rfl (by first | exact Or.inl rfl | exact Or.inr rfl)) pgs_nil))))
    (pss_one (ps_for PassesOwn.never rfl (pi_list (pv 2)) (pg_tup rfl (pgs_cons (pg_name (i := 8) sc_law.nd rfl (by first | exact Or.inl rfl | exact Or.inr rfl)) (pgs_cons (pg_name (i := 9) sc_law.nd rfl (by first | exact Or.inl rfl | exact Or.inr rfl)) (pgs_cons (pg_name (i := 10) sc_law.nd rfl (by first | exact Or.inl rfl | exact Or.inr rfl)) pgs_nil))))
    (pss_one (ps_if (PW.pt (pw_or (pt_cmpR (op_neD (hu64 hr)) (pe_cmpR ((op_anyEq G_Same_eq T.q_Same_eq.at_ T.q_Same_eq.fn T.b_Same_eq pass0 (hr.mono (by first | decide | omega))).or ((op_anyEq G_Unlike_eq T.q_Unlike_eq.at_ T.q_Unlike_eq.fn T.b_Unlike_eq pass0 (hr.mono (by first | decide | omega))).or ((op_anyEq G_Apart_eq T.q_Apart_eq.at_ T.q_Apart_eq.fn T.b_Apart_eq pass0 (hr.mono (by first | decide | omega))).or ((op_anyEq G_Outside_eq T.q_Outside_eq.at_ T.q_Outside_eq.fn T.b_Outside_eq pass0 (hr.mono (by first | decide | omega))).or ((op_anyEq G_Cheapest_eq T.q_Cheapest_eq.at_ T.q_Cheapest_eq.fn T.b_Cheapest_eq pass0 (hr.mono (by first | decide | omega))).or ((op_anyEq G_Array_eq T.q_Array_eq.at_ T.q_Array_eq.fn T.b_Array_eq pass0 (hr.mono (by first | decide | omega))).or (op_anyEq G_Kernel_eq T.q_Kernel_eq.at_ T.q_Kernel_eq.fn T.b_Kernel_eq pass0 (hr.mono (by first | decide | omega))))))))) (pv 7) (pv 10) (nomark _)) (pe_and (pe_cmpR op_eq (pv 4) (pv 8) (nomark _)) (pe_one (pe_cmpR (op_eqTM (hu64' hr)) (pv 6) (pv 9) (nomark _)))) (nomark _)) (pw_or1 (pt_cmpR (op_neD (hu64 hr)) (pe_cmpR ((op_anyNe G_Same_eq T.q_Same_eq.at_ T.q_Same_eq.fn T.b_Same_eq pass0 (hr.mono (by first | decide | omega)) T.ne_Same T.mo_Same).or ((op_anyNe G_Unlike_eq T.q_Unlike_eq.at_ T.q_Unlike_eq.fn T.b_Unlike_eq pass0 (hr.mono (by first | decide | omega)) T.ne_Unlike T.mo_Unlike).or ((op_anyNe G_Apart_eq T.q_Apart_eq.at_ T.q_Apart_eq.fn T.b_Apart_eq pass0 (hr.mono (by first | decide | omega)) T.ne_Apart T.mo_Apart).or ((op_anyNe G_Outside_eq T.q_Outside_eq.at_ T.q_Outside_eq.fn T.b_Outside_eq pass0 (hr.mono (by first | decide | omega)) T.ne_Outside T.mo_Outside).or ((op_anyNe G_Cheapest_eq T.q_Cheapest_eq.at_ T.q_Cheapest_eq.fn T.b_Cheapest_eq pass0 (hr.mono (by first | decide | omega)) T.ne_Cheapest T.mo_Cheapest).or ((op_anyNe G_Array_eq T.q_Array_eq.at_ T.q_Array_eq.fn T.b_Array_eq pass0 (hr.mono (by first | decide | omega)) T.ne_Array T.mo_Array).or (op_anyNe G_Kernel_eq T.q_Kernel_eq.at_ T.q_Kernel_eq.fn T.b_Kernel_eq pass0 (hr.mono (by first | decide | omega)) T.ne_Kernel T.mo_Kernel))))))) (pv 7) (pv 10) (nomark _)) (pe_or (pe_cmpR op_ne (pv 4) (pv 8) (nomark _)) (pe_one (pe_cmpR (op_neTM (hu64' hr)) (pv 6) (pv 9) (nomark _)))) (nomark _))))) (pss_one (ps_ret pe_bl)) pss_nil)))))
    (pss_cons (ps_setLc (i := 11) (own := [("one", 7)]) rfl sc_law.nd rfl rfl (sw_true rfl rfl rfl (by decide +kernel)) (pi_tup (pe_tup (pa_cons (pe_make T.mk_Same G_Same_init (hr.mono (by first | decide | omega)) (by rfl) T.m_Same T.b_Same_init .nil pass0 (pa_cons pe_dnewK pa_nil)) (pa_cons (pe_make T.mk_Unlike G_Unlike_init (hr.mono (by first | decide | omega)) (by rfl) T.m_Unlike T.b_Unlike_init .nil pass0 (pa_cons pe_int (pa_cons pe_dnewK (pa_cons (pe_tup (pa_cons (pe_tup (pa_cons pe_int (pa_cons pe_int pa_nil))) (pa_cons (pe_tup (pa_cons pe_int (pa_cons pe_int pa_nil))) pa_nil))) pa_nil)))) (pa_cons (pe_makeN T.mk0_Within (by rfl) T.m_Within) (pa_cons (pe_make T.mk_Outside G_Outside_init (hr.mono (by first | decide | omega)) (by rfl) T.m_Outside T.b_Outside_init .nil pass0 (pa_cons (pe_tup pa_nil) (pa_cons pe_dnewT pa_nil))) (pa_cons (pe_make T.mk_Cheapest G_Cheapest_init (hr.mono (by first | decide | omega)) (by rfl) T.m_Cheapest T.b_Cheapest_init .nil pass0 (pa_cons pe_int (pa_cons pe_non (pa_cons pe_dnewK pa_nil)))) (pa_cons (pe_make T.mk_Cheapest G_Cheapest_init (hr.mono (by first | decide | omega)) (by rfl) T.m_Cheapest T.b_Cheapest_init .nil pass0 (pa_cons pe_non (pa_cons pe_non (pa_cons pe_dnewK pa_nil)))) pa_nil)))))))) (blkOk_by (own := [("one", 7)]) (N := ["script", "draw", "rows", "turn", "kind", "part", "due", "one", "other", "late", "two", "truths"]) (sc := defScope s_law) (by decide +kernel)) (fun _ _ _ _ _ => (pg_name (i := 7) sc_law.nd rfl (by first | exact Or.inl rfl | exact Or.inr rfl))) (fun _ _ _ _ _ => pts_nil) (fun _ _ _ _ _ => (pe_callTy (call_or (call_ownBool G_Same_bool T.q_Same_bool.at_ T.q_Same_bool.fn T.b_Same_bool pass0 (hr.mono (by first | decide | omega))) (call_or (call_ownBool G_Unlike_bool T.q_Unlike_bool.at_ T.q_Unlike_bool.fn T.b_Unlike_bool pass0 (hr.mono (by first | decide | omega))) (call_or (call_ownBool G_Within_bool T.q_Within_bool.at_ T.q_Within_bool.fn T.b_Within_bool pass0 (hr.mono (by first | decide | omega))) (call_or (call_ownBool G_Outside_bool T.q_Outside_bool.at_ T.q_Outside_bool.fn T.b_Outside_bool pass0 (hr.mono (by first | decide | omega))) (call_ownBool G_Cheapest_bool T.q_Cheapest_bool.at_ T.q_Cheapest_bool.fn T.b_Cheapest_bool pass0 (hr.mono (by first | decide | omega))))))) (by rfl) T.z_bool (by decide +kernel) (pa_cons (pv 7) pa_nil))))
    (pss_one (ps_ret (pe_and (pe_cmpR (op_eqD (hu64 hr)) (pv 11) (pe_lst (pa_cons pe_bl (pa_cons pe_bl (pa_cons pe_bl (pa_cons pe_bl (pa_cons pe_bl (pa_cons pe_bl pa_nil))))))) (nomark _)) (pe_and (pe_cmpR (op_anyEq G_Within_eq T.q_Within_eq.at_ T.q_Within_eq.fn T.b_Within_eq pass0 (hr.mono (by first | decide | omega))) (pe_makeN T.mk0_Within (by rfl) T.m_Within) (pe_makeN T.mk0_Within (by rfl) T.m_Within) (nomark _)) (pe_and (pe_cmpR (op_anyNe G_Within_eq T.q_Within_eq.at_ T.q_Within_eq.fn T.b_Within_eq pass0 (hr.mono (by first | decide | omega)) T.ne_Within T.mo_Within) (pe_makeN T.mk0_Within (by rfl) T.m_Within) (pe_make T.mk_Same G_Same_init (hr.mono (by first | decide | omega)) (by rfl) T.m_Same T.b_Same_init .nil pass0 (pa_cons pe_dnewK pa_nil)) (nomark _)) (pe_one (pe_not (pe_cmpR (op_anyEq G_Within_eq T.q_Within_eq.at_ T.q_Within_eq.fn T.b_Within_eq pass0 (hr.mono (by first | decide | omega))) (pe_makeN T.mk0_Within (by rfl) T.m_Within) pe_int (nomark _)))))))))))))), ?_⟩
  refine ⟨_, rfl, (by show 2 ≤ sizeLine; decide), fun d hd => ?_⟩
  have hD : Drw K (upd H d (.lst [.ref a, .int 0])) d := ⟨a, ns, 0, upd_same, hs.same (same_new hd _), hl⟩
  generalize upd H d (.lst [.ref a, .int 0]) = H1 at *
  refine ⟨(by show 0 ≤ sizeLine; decide), fun rw fw => ?_⟩
  have nw : rw ≠ d := drw_ne hD fw
  have hD1 := hD.same (same_new fw (.lst []))
  have ew : upd H1 rw (.lst []) rw = some (.lst []) := upd_same
  generalize upd H1 rw (.lst []) = H2 at *
  refine ⟨8, rfl, by decide, by decide, ?_⟩
  refine for_range (lo := 0) (n := 8) (fun i σ' H' => (∃ z3 z4 z5 z6 z7 z8 z9 z10 z11 : Option V, σ' = [some (.ref a), some (.ref d), some (.ref rw), z3, z4, z5, z6, z7, z8, z9, z10, z11]) ∧ Drw K H' d ∧ ∃ rs : List RowI, RwsAt T rw H' rs ∧ rs.length = i) ⟨⟨_, _, _, _, _, _, _, _, _, rfl⟩, hD1, [], ⟨ew, (fun x h => by cases h), List.Pairwise.nil⟩, rfl⟩ ?_ ?_
  · rintro i σ' H' hi ⟨⟨z3, z4, z5, z6, z7, z8, z9, z10, z11, rfl⟩, hD', rs, ⟨e1, e2, e3⟩, len⟩
    refine ⟨_, rfl, d, 7, rfl, hD', by decide, fun kr H2 k0 k7 hD2 b2 => ?_⟩
    obtain ⟨kn, rfl⟩ := kn_of k0 k7
    refine ⟨_, rfl, _, rfl, d, kn, rfl, hD2, fun t part due one r n ds H3 b3 hD3 et hP fp np ev fr => ?_⟩
    refine ⟨t, _, rfl, SqT.of et, rfl, _, _, rfl, _, _, rfl, _, _, rfl, rfl, ?_⟩
    obtain ⟨xa, xn, xi, hd', _⟩ := id hD'
    have hd2 := hD2
    obtain ⟨ya, yn, yi, hd2, _⟩ := hd2
    have fp' : H' part = none := by
      cases e : H' part with
      | none => rfl
      | some o =>
        rw [b2 part o np e] at fp
        cases fp
    have o3 : Nl H' H3 := (Nl.but hd' b2).trans (Nl.but hd2 b3)
    have w3 := b3 _ _ nw (b2 _ _ nw e1)
    have npw : part ≠ rw := fun z => by
      rw [z, b2 _ _ nw e1] at fp
      cases fp
    have ev3 : Ev T H3 kn r n due one ds := ev.same dels_sub
    obtain ⟨xs, ys, fl, sy, it⟩ := told_its ev3
    -- told
    refine ⟨_, rfl, _, rfl, kn, one, xs, rfl, fl, fun q fq => ⟨_, rfl, q, due, xs, ys, 10, true, rfl, rfl, by decide, SqT.of upd_same, Same.tup (same_new fq _) sy, it.same (same_new fq _), _, rfl, iteF ?_⟩⟩
    have g4 := same_new fq (.tup xs)
    generalize upd H3 q (.tup xs) = H4 at *
    refine next_of ?_
    dsimp only
    refine seq_cut (fun σ' H6 => σ' = [some (.ref a), some (.ref d), some (.ref rw), some (.int (0 + (i : Int))), some (.int kn.v), some (.ref part), some (.ref due), some (.ref one), z8, z9, z10, z11] ∧ ∃ H5, Same H4 H5 ∧ But part H5 H6) (fun σ' H6 h => ?_) (fun tail => ?_)
    rotate_left
    · refine ⟨(by show 1 ≤ sizeLine; decide), fun z fz => ?_⟩
      have g5 := same_new fz (.tup [.int 0])
      generalize upd H4 z (.tup [.int 0]) = H5 at *
      rcases hP.same (g4.trans g5) with ⟨kvs, e, l⟩ | ⟨kvs, e, ne, l, sh⟩
      · exact ⟨_, rfl, .inl ⟨part, _, rfl, .inl ⟨kvs, .inr ("late" : Str), e, rfl, small1000 (by omega), rfl⟩, tail _ _ ⟨rfl, H5, g5, fun b o n h => by rw [upd_ne n]; exact h⟩⟩⟩
      · exact ⟨_, rfl, .inr ⟨part, _, kvs, rfl, rfl, e, ne, small1000 (by omega), (by decide +kernel), sh, tail _ _ ⟨rfl, H5, g5, fun b o n h => by rw [upd_ne n]; exact h⟩⟩⟩
    obtain ⟨rfl, H5, g5, b6⟩ := h
    have g35 := g4.trans g5
    have o6 : Nl H' H6 := fun x o h n => b6 _ _ (fun z => by rw [z, fp'] at h; cases h) (g35 _ _ (o3 _ _ h n))
    have ev6 : Ev T H6 kn r n due one ds := ev.off fun x o h n => b6 _ _ (fun z => (dels_in h).1 (by rw [z]; simp)) (g35 _ _ (dels_in h).2)
    have tp : t ≠ part := fun z => by
      rcases hP with ⟨kvs, e, _⟩ | ⟨kvs, e, _⟩
      · rw [z, e] at et
        cases et
      · rw [z, e] at et
        cases et
    have et6 := b6 _ _ tp (g35 _ _ et)
    have w6 := b6 _ _ (Ne.symm npw) (g35 _ _ w3)
    have hD6 : Drw K H6 d := by
      obtain ⟨a', ns', i', h1, h2, h3⟩ := hD3.same g35
      refine ⟨a', ns', i', b6 _ _ (Ne.symm np) h1, ?_, h3⟩
      rcases h2 with ⟨o, h2⟩ | h2
      · refine .inl ⟨o, b6 _ _ (fun z => ?_) h2⟩
        rcases hP.same g35 with ⟨kvs, e, _⟩ | ⟨kvs, e, _⟩
        · rw [z, e] at h2
          cases h2
        · rw [z, e] at h2
          cases h2
      · exact .inr h2
    clear fl sy it xs ys b6 g35 g5 g4
    obtain ⟨xs, ys, fl, sy, it⟩ := told_its ev6
    refine ⟨_, rfl, _, rfl, kn, one, xs, rfl, fl, fun q2 fq2 => ⟨_, rfl, q2, due, xs, ys, 10, true, rfl, rfl, by decide, SqT.of upd_same, Same.tup (same_new fq2 _) sy, it.same (same_new fq2 _), _, rfl, iteF ?_⟩⟩
    have g7 := same_new fq2 (.tup xs)
    generalize upd H6 q2 (.tup xs) = H7 at *
    have ev7 := ev6.same g7
    refine ⟨_, rfl, _, rfl, Core.eq (core_kd ev7 (kd_tup (kt_cls T kn) (Same.tup g7 sy))) ⟨_, rfl, iteF ⟨_, rfl, Core.eq (core_kd ev7 (kd_non (kt_cls T kn))) ⟨_, rfl, iteF ?_⟩⟩⟩⟩
    -- rows.append((kind, due, one))
    have w7 := g7 _ _ w6
    refine ⟨_, rfl, .inl ⟨rfl, _, SqL.of w7⟩, _, rfl, _, rfl, _, rfl, (by show 3 ≤ sizeLine; decide), fun tn ftn => ?_⟩
    have g8 := same_new ftn (.tup [.int kn.v, .ref due, .ref one])
    have e8 : upd H7 tn (.tup [.int kn.v, .ref due, .ref one]) tn = some (.tup [.int kn.v, .ref due, .ref one]) := upd_same
    generalize upd H7 tn (.tup [.int kn.v, .ref due, .ref one]) = H8 at *
    have w8 := g8 _ _ w7
    have g68 := g7.trans g8
    have hD8 := hD6.same g68
    have o9 : Nl H8 (upd H8 rw (.lst ((rs.map fun x => V.ref x.t) ++ [.ref tn]))) := Nl.but w8 fun b o n h => by
      rw [upd_ne n]
      exact h
    refine ⟨rw, _, _, rfl, rfl, w8, (by rw [List.length_map, len]; exact small1000 (by omega)), ⟨_, _, _, _, _, _, _, _, _, rfl⟩, ?_, rs ++ [⟨tn, due, one, kn, r, n, ds⟩], ⟨?_, fun x hx => ?_, ?_⟩, by rw [List.length_append, len]; rfl⟩
    · refine hD8.but w8 (Ne.symm nw) fun b o n h => ?_
      rw [upd_ne n]
      exact h
    · rw [upd_same, List.map_append]
      rfl
    · rcases List.mem_append.mp hx with hx | hx
      · exact (e2 x hx).off (o6.trans ((Nl.same g68).trans o9))
      · obtain rfl := List.mem_singleton.mp hx
        exact ⟨o9 _ _ e8 (fun _ z => by cases z), (ev6.same g68).off o9⟩
    · refine List.pairwise_append.mpr ⟨e3, List.pairwise_singleton _ _, fun x hx y hy u hu v hv => ?_⟩
      obtain rfl := List.mem_singleton.mp hy
      obtain ⟨o, ho⟩ := ev_ds (e2 x hx).2 u hu
      have nd : u ≠ d ∨ u = d := (Decidable.em _).symm
      have hv2 := fr v hv
      intro z
      rcases nd with nd | nd
      · rw [← z, b2 u o nd ho] at hv2
        cases hv2
      · rw [← z, nd, hd2] at hv2
        cases hv2
  · rintro σ' G ⟨⟨z3, z4, z5, z6, z7, z8, z9, z10, z11, rfl⟩, hDG, rs, ⟨e1, e2, e3⟩, len⟩
    have G_Table_eq := ok_Table_eq (P := P) (w := w) (base := base) T
    clear hD1 ew hD hs
    refine ⟨_, rfl, rw, rfl, ⟨_, SqL.of e1⟩, ?_⟩
    refine for_it (walk_list (xs := rs.map fun x => V.ref x.t)) (fun i σ' H' => (∃ z3 z4 z5 z6 z7 z8 z9 z10 z11 : Option V, σ' = [some (.ref a), some (.ref d), some (.ref rw), z3, z4, z5, z6, z7, z8, z9, z10, z11]) ∧ Same G H') ⟨⟨_, _, _, _, _, _, _, _, _, rfl⟩, Same.refl G⟩ (fun i σ' H' _ z => SqL.of (z.2 _ _ e1)) ?_ ?_
    · rintro i v σ1 H1 H2 hi ⟨⟨z3, z4, z5, z6, z7, z8, z9, z10, z11, rfl⟩, g⟩ ⟨rfl, hx0⟩
      rw [List.getElem?_map] at hx0
      obtain ⟨x, hx, rfl⟩ := Option.map_eq_some_iff.mp hx0
      have x1 := (e2 x (List.mem_of_getElem? hx)).same g
      refine ⟨x.t, _, rfl, SqT.of x1.1, rfl, _, _, rfl, _, _, rfl, _, _, rfl, rfl, ?_⟩
      refine ⟨_, rfl, rw, rfl, ⟨_, SqL.of (g _ _ e1)⟩, ?_⟩
      refine for_it (walk_list (xs := rs.map fun x => V.ref x.t)) (fun i σ' H' => (∃ z3 z5 z8 z9 z10 z11 : Option V, σ' = [some (.ref a), some (.ref d), some (.ref rw), z3, some (.int x.k.v), z5, some (.ref x.due), some (.ref x.one), z8, z9, z10, z11]) ∧ Same G H') ⟨⟨_, _, _, _, _, _, rfl⟩, g⟩ (fun i σ' H' _ z => SqL.of (z.2 _ _ e1)) ?_ ?_
      · rintro j v σ1 H3 H2 hj ⟨⟨z3, z5, z8, z9, z10, z11, rfl⟩, g'⟩ ⟨rfl, hy0⟩
        rw [List.getElem?_map] at hy0
        obtain ⟨y, hy, rfl⟩ := Option.map_eq_some_iff.mp hy0
        have x2 := (e2 x (List.mem_of_getElem? hx)).same g'
        have y2 := (e2 y (List.mem_of_getElem? hy)).same g'
        have dis := pair_dis e3 hx hy
        refine ⟨y.t, _, rfl, SqT.of y2.1, rfl, _, _, rfl, _, _, rfl, _, _, rfl, rfl, ?_⟩
        by_cases ek : x.k = y.k
        · have cr := core_two (ek ▸ x2.2) y2.2 dis
          generalize hb : res y.k x.r x.n y.r y.n = b at cr
          have de : decide (V.int x.k.v = V.int y.k.v) = true := by
            rw [dec_v]
            exact decide_eq_true ek
          have ex : Ev T H2 y.k x.r x.n x.due x.one x.ds := ek ▸ x2.2
          have goal2 : ∀ {b : Bool}, res y.k x.r x.n y.r y.n = b → Core T H2 x.one (.ref y.one) b → True := fun _ _ => trivial
          refine ⟨_, rfl, _, rfl, Core.eq cr ⟨_, rfl, _, rfl, rfl, _, rfl, ?_⟩⟩
          rw [de]
          refine iteT ⟨_, rfl, _, rfl, due_eq T G_Unlike_eq G_Table_eq (hr.mono (by decide)) (hr.mono (by decide)) ex y2.2 dis ?_⟩
          rw [hb]
          refine ⟨.bool b, .bool b, .bl b, .bl b, rfl, rfl, _, rfl, ?_⟩
          rw [eqv_bool, beq_self_eq_true]
          refine iteF ⟨_, rfl, _, rfl, Core.ne cr ⟨_, rfl, _, rfl, rfl, _, rfl, ?_⟩⟩
          rw [de]
          refine iteF ⟨_, rfl, _, rfl, due_ne T G_Unlike_eq G_Table_eq (hr.mono (by decide)) (hr.mono (by decide)) ex y2.2 dis ?_⟩
          rw [hb]
          refine ⟨.bool (!b), .bool (!b), .bl (!b), .bl (!b), rfl, rfl, _, rfl, ?_⟩
          rw [eqv_bool, beq_self_eq_true]
          exact iteF ⟨⟨_, _, _, _, _, _, rfl⟩, g'⟩
        · have cr := core_kd x2.2 (ev_kd y2.2 (Ne.symm ek))
          have de : decide (V.int x.k.v = V.int y.k.v) = false := by
            rw [dec_v]
            exact decide_eq_false ek
          refine ⟨_, rfl, _, rfl, Core.eq cr ⟨_, rfl, _, rfl, rfl, _, rfl, ?_⟩⟩
          rw [de]
          refine iteF ⟨.bool false, .bool false, .bl false, .bl false, rfl, rfl, _, rfl, iteF ⟨_, rfl, _, rfl, Core.ne cr ⟨_, rfl, _, rfl, rfl, _, rfl, ?_⟩⟩⟩
          rw [de]
          exact iteT ⟨.bool true, .bool true, .bl true, .bl true, rfl, rfl, _, rfl, iteF ⟨⟨_, _, _, _, _, _, rfl⟩, g'⟩⟩
      · rintro σ' H' ⟨⟨z3, z5, z8, z9, z10, z11, rfl⟩, g'⟩
        exact ⟨⟨_, _, _, _, _, _, _, _, _, rfl⟩, g'⟩
    · rintro σ' G2 ⟨⟨z3, z4, z5, z6, z7, z8, z9, z10, z11, rfl⟩, g⟩
      have gB := Same.refl G2
      refine fun m1 fm1 => ?_
      have zm1 := same_free gB fm1
      have g1 := same_new fm1 (.dK [])
      have em1 : upd G2 m1 (.dK []) m1 = some (.dK []) := upd_same
      generalize upd G2 m1 (.dK []) = H1 at *
      replace gB := gB.trans g1
      refine fun o1 do1 fo1 fdo1 no1 => ?_
      refine ⟨o1, do1, m1, [], rfl, upd_same, made_start fo1 fdo1 _ _ em1, List.nodup_nil, (by show 0 ≤ 15; decide), fun D1 G bG eo1 _ _ => ⟨rfl, ?_⟩⟩
      have gM := made_same fo1 fdo1 bG
      replace gB := gB.trans gM
      replace em1 := gM _ _ em1
      generalize hG : G = H2 at *
      clear hG gM
      refine fun m2 fm2 => ?_
      have zm2 := same_free gB fm2
      have nm1m2 := ne_of_none em1 fm2
      have no1m2 := ne_of_none eo1 fm2
      have g3 := same_new fm2 (.dK [])
      have em2 : upd H2 m2 (.dK []) m2 = some (.dK []) := upd_same
      generalize upd H2 m2 (.dK []) = H3 at *
      replace gB := gB.trans g3
      replace em1 := g3 _ _ em1
      replace eo1 := g3 _ _ eo1
      refine ⟨(by show 2 ≤ sizeLine; decide), fun t1 ft1 => ?_⟩
      have zt1 := same_free gB ft1
      have nm1t1 := ne_of_none em1 ft1
      have no1t1 := ne_of_none eo1 ft1
      have nm2t1 := ne_of_none em2 ft1
      have g4 := same_new ft1 (.tup [.int 0, .int 1])
      have et1 : upd H3 t1 (.tup [.int 0, .int 1]) t1 = some (.tup [.int 0, .int 1]) := upd_same
      generalize upd H3 t1 (.tup [.int 0, .int 1]) = H4 at *
      replace gB := gB.trans g4
      replace em1 := g4 _ _ em1
      replace eo1 := g4 _ _ eo1
      replace em2 := g4 _ _ em2
      refine ⟨(by show 2 ≤ sizeLine; decide), fun t2 ft2 => ?_⟩
      have zt2 := same_free gB ft2
      have nm1t2 := ne_of_none em1 ft2
      have no1t2 := ne_of_none eo1 ft2
      have nm2t2 := ne_of_none em2 ft2
      have nt1t2 := ne_of_none et1 ft2
      have g5 := same_new ft2 (.tup [.int 1, .int 1])
      have et2 : upd H4 t2 (.tup [.int 1, .int 1]) t2 = some (.tup [.int 1, .int 1]) := upd_same
      generalize upd H4 t2 (.tup [.int 1, .int 1]) = H5 at *
      replace gB := gB.trans g5
      replace em1 := g5 _ _ em1
      replace eo1 := g5 _ _ eo1
      replace em2 := g5 _ _ em2
      replace et1 := g5 _ _ et1
      refine ⟨(by show 2 ≤ sizeLine; decide), fun c1 fc1 => ?_⟩
      have zc1 := same_free gB fc1
      have nm1c1 := ne_of_none em1 fc1
      have no1c1 := ne_of_none eo1 fc1
      have nm2c1 := ne_of_none em2 fc1
      have nt1c1 := ne_of_none et1 fc1
      have nt2c1 := ne_of_none et2 fc1
      have g6 := same_new fc1 (.tup [.ref t1, .ref t2])
      have ec1 : upd H5 c1 (.tup [.ref t1, .ref t2]) c1 = some (.tup [.ref t1, .ref t2]) := upd_same
      generalize upd H5 c1 (.tup [.ref t1, .ref t2]) = H6 at *
      replace gB := gB.trans g6
      replace em1 := g6 _ _ em1
      replace eo1 := g6 _ _ eo1
      replace em2 := g6 _ _ em2
      replace et1 := g6 _ _ et1
      replace et2 := g6 _ _ et2
      refine fun o2 do2 fo2 fdo2 no2 => ?_
      refine ⟨o2, do2, .int 0, m2, c1, [], _, rfl, upd_same, made_start fo2 fdo2 _ _ em2, List.nodup_nil, (by show 0 ≤ 15; decide), .inr (SqT.of (made_start fo2 fdo2 _ _ ec1)), fun D1 u2 G bG eo2 _ _ _ => ⟨rfl, ?_⟩⟩
      have gM := made_same fo2 fdo2 bG
      replace gB := gB.trans gM
      replace em1 := gM _ _ em1
      replace eo1 := gM _ _ eo1
      replace em2 := gM _ _ em2
      replace et1 := gM _ _ et1
      replace et2 := gM _ _ et2
      replace ec1 := gM _ _ ec1
      generalize hG : G = H7 at *
      clear hG gM
      refine fun o3 do3 fo3 fdo3 no3 => ?_
      have g8 := made_start (C := T.c_Within) fo3 fdo3
      have eo3 : upd (upd H7 do3 (.own o3)) o3 (.ins T.c_Within do3 []) o3 = some (.ins T.c_Within do3 []) := upd_same
      generalize upd (upd H7 do3 (.own o3)) o3 (.ins T.c_Within do3 []) = H8 at *
      replace gB := gB.trans g8
      replace em1 := g8 _ _ em1
      replace eo1 := g8 _ _ eo1
      replace em2 := g8 _ _ em2
      replace et1 := g8 _ _ et1
      replace et2 := g8 _ _ et2
      replace ec1 := g8 _ _ ec1
      replace eo2 := g8 _ _ eo2
      refine ⟨(by show 0 ≤ sizeLine; decide), fun u4 fu4 => ?_⟩
      have zu4 := same_free gB fu4
      have nm1u4 := ne_of_none em1 fu4
      have no1u4 := ne_of_none eo1 fu4
      have nm2u4 := ne_of_none em2 fu4
      have nt1u4 := ne_of_none et1 fu4
      have nt2u4 := ne_of_none et2 fu4
      have nc1u4 := ne_of_none ec1 fu4
      have no2u4 := ne_of_none eo2 fu4
      have no3u4 := ne_of_none eo3 fu4
      have g9 := same_new fu4 (.tup [])
      have eu4 : upd H8 u4 (.tup []) u4 = some (.tup []) := upd_same
      generalize upd H8 u4 (.tup []) = H9 at *
      replace gB := gB.trans g9
      replace em1 := g9 _ _ em1
      replace eo1 := g9 _ _ eo1
      replace em2 := g9 _ _ em2
      replace et1 := g9 _ _ et1
      replace et2 := g9 _ _ et2
      replace ec1 := g9 _ _ ec1
      replace eo2 := g9 _ _ eo2
      replace eo3 := g9 _ _ eo3
      refine fun m4 fm4 => ?_
      have zm4 := same_free gB fm4
      have nm1m4 := ne_of_none em1 fm4
      have no1m4 := ne_of_none eo1 fm4
      have nm2m4 := ne_of_none em2 fm4
      have nt1m4 := ne_of_none et1 fm4
      have nt2m4 := ne_of_none et2 fm4
      have nc1m4 := ne_of_none ec1 fm4
      have no2m4 := ne_of_none eo2 fm4
      have no3m4 := ne_of_none eo3 fm4
      have nu4m4 := ne_of_none eu4 fm4
      have g10 := same_new fm4 (.dT [])
      have em4 : upd H9 m4 (.dT []) m4 = some (.dT []) := upd_same
      generalize upd H9 m4 (.dT []) = H10 at *
      replace gB := gB.trans g10
      replace em1 := g10 _ _ em1
      replace eo1 := g10 _ _ eo1
      replace em2 := g10 _ _ em2
      replace et1 := g10 _ _ et1
      replace et2 := g10 _ _ et2
      replace ec1 := g10 _ _ ec1
      replace eo2 := g10 _ _ eo2
      replace eo3 := g10 _ _ eo3
      replace eu4 := g10 _ _ eu4
      refine fun o4 do4 fo4 fdo4 no4 => ?_
      refine ⟨o4, do4, u4, m4, [], [], rfl, upd_same, .inr (SqT.of (made_start fo4 fdo4 _ _ eu4)), made_start fo4 fdo4 _ _ em4, List.nodup_nil, (by show 0 ≤ 15; decide), fun tt4 D1 G bG eo4 _ _ _ => ⟨rfl, ?_⟩⟩
      have gM := made_same fo4 fdo4 bG
      replace gB := gB.trans gM
      replace em1 := gM _ _ em1
      replace eo1 := gM _ _ eo1
      replace em2 := gM _ _ em2
      replace et1 := gM _ _ et1
      replace et2 := gM _ _ et2
      replace ec1 := gM _ _ ec1
      replace eo2 := gM _ _ eo2
      replace eo3 := gM _ _ eo3
      replace eu4 := gM _ _ eu4
      replace em4 := gM _ _ em4
      generalize hG : G = H11 at *
      clear hG gM
      refine fun m5 fm5 => ?_
      have zm5 := same_free gB fm5
      have nm1m5 := ne_of_none em1 fm5
      have no1m5 := ne_of_none eo1 fm5
      have nm2m5 := ne_of_none em2 fm5
      have nt1m5 := ne_of_none et1 fm5
      have nt2m5 := ne_of_none et2 fm5
      have nc1m5 := ne_of_none ec1 fm5
      have no2m5 := ne_of_none eo2 fm5
      have no3m5 := ne_of_none eo3 fm5
      have nu4m5 := ne_of_none eu4 fm5
      have nm4m5 := ne_of_none em4 fm5
      have no4m5 := ne_of_none eo4 fm5
      have g12 := same_new fm5 (.dK [])
      have em5 : upd H11 m5 (.dK []) m5 = some (.dK []) := upd_same
      generalize upd H11 m5 (.dK []) = H12 at *
      replace gB := gB.trans g12
      replace em1 := g12 _ _ em1
      replace eo1 := g12 _ _ eo1
      replace em2 := g12 _ _ em2
      replace et1 := g12 _ _ et1
      replace et2 := g12 _ _ et2
      replace ec1 := g12 _ _ ec1
      replace eo2 := g12 _ _ eo2
      replace eo3 := g12 _ _ eo3
      replace eu4 := g12 _ _ eu4
      replace em4 := g12 _ _ em4
      replace eo4 := g12 _ _ eo4
      refine fun o5 do5 fo5 fdo5 no5 => ?_
      refine ⟨o5, do5, .int 0, .non, m5, [], rfl, upd_same, made_start fo5 fdo5 _ _ em5, List.nodup_nil, (by show 0 ≤ 15; decide), fun D1 G bG eo5 _ _ => ⟨rfl, ?_⟩⟩
      have gM := made_same fo5 fdo5 bG
      replace gB := gB.trans gM
      replace em1 := gM _ _ em1
      replace eo1 := gM _ _ eo1
      replace em2 := gM _ _ em2
      replace et1 := gM _ _ et1
      replace et2 := gM _ _ et2
      replace ec1 := gM _ _ ec1
      replace eo2 := gM _ _ eo2
      replace eo3 := gM _ _ eo3
      replace eu4 := gM _ _ eu4
      replace em4 := gM _ _ em4
      replace eo4 := gM _ _ eo4
      replace em5 := gM _ _ em5
      generalize hG : G = H13 at *
      clear hG gM
      refine fun m6 fm6 => ?_
      have zm6 := same_free gB fm6
      have nm1m6 := ne_of_none em1 fm6
      have no1m6 := ne_of_none eo1 fm6
      have nm2m6 := ne_of_none em2 fm6
      have nt1m6 := ne_of_none et1 fm6
      have nt2m6 := ne_of_none et2 fm6
      have nc1m6 := ne_of_none ec1 fm6
      have no2m6 := ne_of_none eo2 fm6
      have no3m6 := ne_of_none eo3 fm6
      have nu4m6 := ne_of_none eu4 fm6
      have nm4m6 := ne_of_none em4 fm6
      have no4m6 := ne_of_none eo4 fm6
      have nm5m6 := ne_of_none em5 fm6
      have no5m6 := ne_of_none eo5 fm6
      have g14 := same_new fm6 (.dK [])
      have em6 : upd H13 m6 (.dK []) m6 = some (.dK []) := upd_same
      generalize upd H13 m6 (.dK []) = H14 at *
      replace gB := gB.trans g14
      replace em1 := g14 _ _ em1
      replace eo1 := g14 _ _ eo1
      replace em2 := g14 _ _ em2
      replace et1 := g14 _ _ et1
      replace et2 := g14 _ _ et2
      replace ec1 := g14 _ _ ec1
      replace eo2 := g14 _ _ eo2
      replace eo3 := g14 _ _ eo3
      replace eu4 := g14 _ _ eu4
      replace em4 := g14 _ _ em4
      replace eo4 := g14 _ _ eo4
      replace em5 := g14 _ _ em5
      replace eo5 := g14 _ _ eo5
      refine fun o6 do6 fo6 fdo6 no6 => ?_
      refine ⟨o6, do6, .non, .non, m6, [], rfl, upd_same, made_start fo6 fdo6 _ _ em6, List.nodup_nil, (by show 0 ≤ 15; decide), fun D1 G bG eo6 _ _ => ⟨rfl, ?_⟩⟩
      have gM := made_same fo6 fdo6 bG
      replace gB := gB.trans gM
      replace em1 := gM _ _ em1
      replace eo1 := gM _ _ eo1
      replace em2 := gM _ _ em2
      replace et1 := gM _ _ et1
      replace et2 := gM _ _ et2
      replace ec1 := gM _ _ ec1
      replace eo2 := gM _ _ eo2
      replace eo3 := gM _ _ eo3
      replace eu4 := gM _ _ eu4
      replace em4 := gM _ _ em4
      replace eo4 := gM _ _ eo4
      replace em5 := gM _ _ em5
      replace eo5 := gM _ _ eo5
      replace em6 := gM _ _ em6
      generalize hG : G = H15 at *
      clear hG gM
      refine ⟨(by show 6 ≤ sizeLine; decide), fun tu ftu => ?_⟩
      have ztu := same_free gB ftu
      have nm1tu := ne_of_none em1 ftu
      have no1tu := ne_of_none eo1 ftu
      have nm2tu := ne_of_none em2 ftu
      have nt1tu := ne_of_none et1 ftu
      have nt2tu := ne_of_none et2 ftu
      have nc1tu := ne_of_none ec1 ftu
      have no2tu := ne_of_none eo2 ftu
      have no3tu := ne_of_none eo3 ftu
      have nu4tu := ne_of_none eu4 ftu
      have nm4tu := ne_of_none em4 ftu
      have no4tu := ne_of_none eo4 ftu
      have nm5tu := ne_of_none em5 ftu
      have no5tu := ne_of_none eo5 ftu
      have nm6tu := ne_of_none em6 ftu
      have no6tu := ne_of_none eo6 ftu
      have g16 := same_new ftu (.tup [.ref o1, .ref o2, .ref o3, .ref o4, .ref o5, .ref o6])
      have etu : upd H15 tu (.tup [.ref o1, .ref o2, .ref o3, .ref o4, .ref o5, .ref o6]) tu = some (.tup [.ref o1, .ref o2, .ref o3, .ref o4, .ref o5, .ref o6]) := upd_same
      generalize upd H15 tu (.tup [.ref o1, .ref o2, .ref o3, .ref o4, .ref o5, .ref o6]) = H16 at *
      replace gB := gB.trans g16
      replace em1 := g16 _ _ em1
      replace eo1 := g16 _ _ eo1
      replace em2 := g16 _ _ em2
      replace et1 := g16 _ _ et1
      replace et2 := g16 _ _ et2
      replace ec1 := g16 _ _ ec1
      replace eo2 := g16 _ _ eo2
      replace eo3 := g16 _ _ eo3
      replace eu4 := g16 _ _ eu4
      replace em4 := g16 _ _ em4
      replace eo4 := g16 _ _ eo4
      replace em5 := g16 _ _ em5
      replace eo5 := g16 _ _ eo5
      replace em6 := g16 _ _ em6
      replace eo6 := g16 _ _ eo6
      refine ⟨tu, rfl, ⟨_, SqT.of etu⟩, fun D hD => ?_⟩
      refine lc_it (walk_tup (xs := [.ref o1, .ref o2, .ref o3, .ref o4, .ref o5, .ref o6])) (fun i H' => Same H16 H' ∧ H' D = some (.lst ((truL.take i).map V.bl))) ⟨same_new hD _, upd_same⟩ (fun i H' _ z => SqT.of (z.1 _ _ etu)) ?_ ?_
      · rintro i z H' H'' hi ⟨g, e⟩ ⟨rfl, hx⟩
        have put : ∀ {b : Bool}, truL[i]? = some b → ∃ acc, H'' D = some (.lst acc) ∧ acc.length < sizeLine ∧ Same H16 (upd H'' D (.lst (acc ++ [.bl b]))) ∧ upd H'' D (.lst (acc ++ [.bl b])) D = some (.lst ((truL.take (i + 1)).map V.bl)) := fun {b} eb => ⟨_, e, (by rw [List.length_map, List.length_take]; exact small1000 (by show min i 6 ≤ 1000; omega)), same_upd g hD, (by rw [upd_same, take_more' eb, List.map_append]; rfl)⟩
        rcases i with _ | _ | _ | _ | _ | _ | i
        · cases hx
          exact ⟨rfl, _, rfl, .inl ⟨o1, _, _, rfl, g _ _ eo1, ⟨o1, rfl, true, rfl, put rfl⟩⟩⟩
        · cases hx
          exact ⟨rfl, _, rfl, .inr (.inl ⟨o2, _, _, rfl, g _ _ eo2, ⟨o2, rfl, false, rfl, put rfl⟩⟩)⟩
        · cases hx
          exact ⟨rfl, _, rfl, .inr (.inr (.inl ⟨o3, _, _, rfl, g _ _ eo3, ⟨o3, rfl, true, rfl, put rfl⟩⟩))⟩
        · cases hx
          exact ⟨rfl, _, rfl, .inr (.inr (.inr (.inl ⟨o4, _, _, rfl, g _ _ eo4, ⟨o4, rfl, false, rfl, put rfl⟩⟩)))⟩
        · cases hx
          exact ⟨rfl, _, rfl, .inr (.inr (.inr (.inr ⟨o5, _, _, rfl, g _ _ eo5, ⟨o5, _, _, _, _, rfl, g _ _ eo5, .inr ⟨⟨0, rfl⟩, true, rfl, put rfl⟩⟩⟩)))⟩
        · cases hx
          exact ⟨rfl, _, rfl, .inr (.inr (.inr (.inr ⟨o6, _, _, rfl, g _ _ eo6, ⟨o6, _, _, _, _, rfl, g _ _ eo6, .inl ⟨rfl, false, rfl, put rfl⟩⟩⟩)))⟩
        · simp at hx
      rintro HT ⟨gT, eT⟩
      replace gB := gB.trans gT
      replace em1 := gT _ _ em1
      replace eo1 := gT _ _ eo1
      replace em2 := gT _ _ em2
      replace et1 := gT _ _ et1
      replace et2 := gT _ _ et2
      replace ec1 := gT _ _ ec1
      replace eo2 := gT _ _ eo2
      replace eo3 := gT _ _ eo3
      replace eu4 := gT _ _ eu4
      replace em4 := gT _ _ em4
      replace eo4 := gT _ _ eo4
      replace em5 := gT _ _ em5
      replace eo5 := gT _ _ eo5
      replace em6 := gT _ _ em6
      replace eo6 := gT _ _ eo6
      replace etu := gT _ _ etu
      have eT : HT D = some (.lst [.bl true, .bl false, .bl true, .bl false, .bl true, .bl false]) := eT
      refine ⟨_, rfl, (by show 6 ≤ sizeLine; decide), fun l fl => ?_⟩
      have zl := same_free gB fl
      have nm1l := ne_of_none em1 fl
      have no1l := ne_of_none eo1 fl
      have nm2l := ne_of_none em2 fl
      have nt1l := ne_of_none et1 fl
      have nt2l := ne_of_none et2 fl
      have nc1l := ne_of_none ec1 fl
      have no2l := ne_of_none eo2 fl
      have no3l := ne_of_none eo3 fl
      have nu4l := ne_of_none eu4 fl
      have nm4l := ne_of_none em4 fl
      have no4l := ne_of_none eo4 fl
      have nm5l := ne_of_none em5 fl
      have no5l := ne_of_none eo5 fl
      have nm6l := ne_of_none em6 fl
      have no6l := ne_of_none eo6 fl
      have ntul := ne_of_none etu fl
      have nDl := ne_of_none eT fl
      have g17 := same_new fl (.lst [.bl true, .bl false, .bl true, .bl false, .bl true, .bl false])
      have el : upd HT l (.lst [.bl true, .bl false, .bl true, .bl false, .bl true, .bl false]) l = some (.lst [.bl true, .bl false, .bl true, .bl false, .bl true, .bl false]) := upd_same
      generalize upd HT l (.lst [.bl true, .bl false, .bl true, .bl false, .bl true, .bl false]) = H17 at *
      replace gB := gB.trans g17
      replace em1 := g17 _ _ em1
      replace eo1 := g17 _ _ eo1
      replace em2 := g17 _ _ em2
      replace et1 := g17 _ _ et1
      replace et2 := g17 _ _ et2
      replace ec1 := g17 _ _ ec1
      replace eo2 := g17 _ _ eo2
      replace eo3 := g17 _ _ eo3
      replace eu4 := g17 _ _ eu4
      replace em4 := g17 _ _ em4
      replace eo4 := g17 _ _ eo4
      replace em5 := g17 _ _ em5
      replace eo5 := g17 _ _ eo5
      replace em6 := g17 _ _ em6
      replace eo6 := g17 _ _ eo6
      replace etu := g17 _ _ etu
      replace eT := g17 _ _ eT
      refine ⟨truD, truD, .lst (SqL.of eT) dp_tru, .lst (SqL.of el) dp_tru, rfl, rfl, _, rfl, iteT ?_⟩
      refine fun w1 dw1 fw1 fdw1 nw1 => ?_
      have g18 := made_start (C := T.c_Within) fw1 fdw1
      have ew1 : upd (upd H17 dw1 (.own w1)) w1 (.ins T.c_Within dw1 []) w1 = some (.ins T.c_Within dw1 []) := upd_same
      generalize upd (upd H17 dw1 (.own w1)) w1 (.ins T.c_Within dw1 []) = H18 at *
      replace gB := gB.trans g18
      replace em1 := g18 _ _ em1
      replace eo1 := g18 _ _ eo1
      replace em2 := g18 _ _ em2
      replace et1 := g18 _ _ et1
      replace et2 := g18 _ _ et2
      replace ec1 := g18 _ _ ec1
      replace eo2 := g18 _ _ eo2
      replace eo3 := g18 _ _ eo3
      replace eu4 := g18 _ _ eu4
      replace em4 := g18 _ _ em4
      replace eo4 := g18 _ _ eo4
      replace em5 := g18 _ _ em5
      replace eo5 := g18 _ _ eo5
      replace em6 := g18 _ _ em6
      replace eo6 := g18 _ _ eo6
      replace etu := g18 _ _ etu
      replace eT := g18 _ _ eT
      replace el := g18 _ _ el
      refine fun w2 dw2 fw2 fdw2 nw2 => ?_
      have g19 := made_start (C := T.c_Within) fw2 fdw2
      have ew2 : upd (upd H18 dw2 (.own w2)) w2 (.ins T.c_Within dw2 []) w2 = some (.ins T.c_Within dw2 []) := upd_same
      generalize upd (upd H18 dw2 (.own w2)) w2 (.ins T.c_Within dw2 []) = H19 at *
      replace gB := gB.trans g19
      replace em1 := g19 _ _ em1
      replace eo1 := g19 _ _ eo1
      replace em2 := g19 _ _ em2
      replace et1 := g19 _ _ et1
      replace et2 := g19 _ _ et2
      replace ec1 := g19 _ _ ec1
      replace eo2 := g19 _ _ eo2
      replace eo3 := g19 _ _ eo3
      replace eu4 := g19 _ _ eu4
      replace em4 := g19 _ _ em4
      replace eo4 := g19 _ _ eo4
      replace em5 := g19 _ _ em5
      replace eo5 := g19 _ _ eo5
      replace em6 := g19 _ _ em6
      replace eo6 := g19 _ _ eo6
      replace etu := g19 _ _ etu
      replace eT := g19 _ _ eT
      replace el := g19 _ _ el
      replace ew1 := g19 _ _ ew1
      refine ⟨w1, _, _, _, rfl, ew1, T.ty_Within ew2, nf_self _, w1, _, _, rfl, ew1, .inr ⟨w2, _, rfl, ew2, true, rfl, _, rfl, iteT ?_⟩⟩
      refine fun w3 dw3 fw3 fdw3 nw3 => ?_
      have g20 := made_start (C := T.c_Within) fw3 fdw3
      have ew3 : upd (upd H19 dw3 (.own w3)) w3 (.ins T.c_Within dw3 []) w3 = some (.ins T.c_Within dw3 []) := upd_same
      generalize upd (upd H19 dw3 (.own w3)) w3 (.ins T.c_Within dw3 []) = H20 at *
      replace gB := gB.trans g20
      replace em1 := g20 _ _ em1
      replace eo1 := g20 _ _ eo1
      replace em2 := g20 _ _ em2
      replace et1 := g20 _ _ et1
      replace et2 := g20 _ _ et2
      replace ec1 := g20 _ _ ec1
      replace eo2 := g20 _ _ eo2
      replace eo3 := g20 _ _ eo3
      replace eu4 := g20 _ _ eu4
      replace em4 := g20 _ _ em4
      replace eo4 := g20 _ _ eo4
      replace em5 := g20 _ _ em5
      replace eo5 := g20 _ _ eo5
      replace em6 := g20 _ _ em6
      replace eo6 := g20 _ _ eo6
      replace etu := g20 _ _ etu
      replace eT := g20 _ _ eT
      replace el := g20 _ _ el
      replace ew1 := g20 _ _ ew1
      replace ew2 := g20 _ _ ew2
      refine fun m7 fm7 => ?_
      have zm7 := same_free gB fm7
      have nm1m7 := ne_of_none em1 fm7
      have no1m7 := ne_of_none eo1 fm7
      have nm2m7 := ne_of_none em2 fm7
      have nt1m7 := ne_of_none et1 fm7
      have nt2m7 := ne_of_none et2 fm7
      have nc1m7 := ne_of_none ec1 fm7
      have no2m7 := ne_of_none eo2 fm7
      have no3m7 := ne_of_none eo3 fm7
      have nu4m7 := ne_of_none eu4 fm7
      have nm4m7 := ne_of_none em4 fm7
      have no4m7 := ne_of_none eo4 fm7
      have nm5m7 := ne_of_none em5 fm7
      have no5m7 := ne_of_none eo5 fm7
      have nm6m7 := ne_of_none em6 fm7
      have no6m7 := ne_of_none eo6 fm7
      have ntum7 := ne_of_none etu fm7
      have nDm7 := ne_of_none eT fm7
      have nlm7 := ne_of_none el fm7
      have nw1m7 := ne_of_none ew1 fm7
      have nw2m7 := ne_of_none ew2 fm7
      have nw3m7 := ne_of_none ew3 fm7
      have g21 := same_new fm7 (.dK [])
      have em7 : upd H20 m7 (.dK []) m7 = some (.dK []) := upd_same
      generalize upd H20 m7 (.dK []) = H21 at *
      replace gB := gB.trans g21
      replace em1 := g21 _ _ em1
      replace eo1 := g21 _ _ eo1
      replace em2 := g21 _ _ em2
      replace et1 := g21 _ _ et1
      replace et2 := g21 _ _ et2
      replace ec1 := g21 _ _ ec1
      replace eo2 := g21 _ _ eo2
      replace eo3 := g21 _ _ eo3
      replace eu4 := g21 _ _ eu4
      replace em4 := g21 _ _ em4
      replace eo4 := g21 _ _ eo4
      replace em5 := g21 _ _ em5
      replace eo5 := g21 _ _ eo5
      replace em6 := g21 _ _ em6
      replace eo6 := g21 _ _ eo6
      replace etu := g21 _ _ etu
      replace eT := g21 _ _ eT
      replace el := g21 _ _ el
      replace ew1 := g21 _ _ ew1
      replace ew2 := g21 _ _ ew2
      replace ew3 := g21 _ _ ew3
      refine fun s2 ds2 fs2 fds2 ns2 => ?_
      refine ⟨s2, ds2, m7, [], rfl, upd_same, made_start fs2 fds2 _ _ em7, List.nodup_nil, (by show 0 ≤ 15; decide), fun D1 G bG es2 _ _ => ⟨rfl, ?_⟩⟩
      have gM := made_same fs2 fds2 bG
      replace gB := gB.trans gM
      replace em1 := gM _ _ em1
      replace eo1 := gM _ _ eo1
      replace em2 := gM _ _ em2
      replace et1 := gM _ _ et1
      replace et2 := gM _ _ et2
      replace ec1 := gM _ _ ec1
      replace eo2 := gM _ _ eo2
      replace eo3 := gM _ _ eo3
      replace eu4 := gM _ _ eu4
      replace em4 := gM _ _ em4
      replace eo4 := gM _ _ eo4
      replace em5 := gM _ _ em5
      replace eo5 := gM _ _ eo5
      replace em6 := gM _ _ em6
      replace eo6 := gM _ _ eo6
      replace etu := gM _ _ etu
      replace eT := gM _ _ eT
      replace el := gM _ _ el
      replace ew1 := gM _ _ ew1
      replace ew2 := gM _ _ ew2
      replace ew3 := gM _ _ ew3
      replace em7 := gM _ _ em7
      generalize hG : G = H22 at *
      clear hG gM
      have kd := Kd.mk T.kt_Within (T.ty_Same es2) T.ys_Same_Within (sub_ne T.kt_Within T.ys_Same_Within)
      have kd' := kd
      obtain ⟨tb, ty, _, nf⟩ := kd'
      refine ⟨w3, _, _, tb, rfl, ew3, ty, nf, w3, _, _, rfl, ew3, .inl ⟨kd, false, rfl, _, rfl, iteT ?_⟩⟩
      refine fun w4 dw4 fw4 fdw4 nw4 => ?_
      have g23 := made_start (C := T.c_Within) fw4 fdw4
      have ew4 : upd (upd H22 dw4 (.own w4)) w4 (.ins T.c_Within dw4 []) w4 = some (.ins T.c_Within dw4 []) := upd_same
      generalize upd (upd H22 dw4 (.own w4)) w4 (.ins T.c_Within dw4 []) = H23 at *
      replace gB := gB.trans g23
      replace em1 := g23 _ _ em1
      replace eo1 := g23 _ _ eo1
      replace em2 := g23 _ _ em2
      replace et1 := g23 _ _ et1
      replace et2 := g23 _ _ et2
      replace ec1 := g23 _ _ ec1
      replace eo2 := g23 _ _ eo2
      replace eo3 := g23 _ _ eo3
      replace eu4 := g23 _ _ eu4
      replace em4 := g23 _ _ em4
      replace eo4 := g23 _ _ eo4
      replace em5 := g23 _ _ em5
      replace eo5 := g23 _ _ eo5
      replace em6 := g23 _ _ em6
      replace eo6 := g23 _ _ eo6
      replace etu := g23 _ _ etu
      replace eT := g23 _ _ eT
      replace el := g23 _ _ el
      replace ew1 := g23 _ _ ew1
      replace ew2 := g23 _ _ ew2
      replace ew3 := g23 _ _ ew3
      replace em7 := g23 _ _ em7
      replace es2 := g23 _ _ es2
      have kd2 := kd_int (H := H23) (i := 5) T.kt_Within
      have kd3 := kd2
      obtain ⟨tb2, ty2, _, nf2⟩ := kd3
      exact ⟨w4, _, _, tb2, rfl, ew4, ty2, nf2, w4, _, _, rfl, ew4, .inl ⟨kd2, false, rfl, _, rfl, k _⟩⟩

end
end My
namespace My
open PySem L2 PySem.Spec PyProof.Rows
theorem cls_some {K : PySem.W.Frag} {C : Addr} (h : PySem.W.hasDictIn K C = true) : (PySem.W.clsIn K C).isSome = true := by
  unfold PySem.W.hasDictIn at h
  cases e : PySem.W.clsIn K C with
  | none =>
    rw [e] at h
    cases h
  | some _ => rfl
theorem all_mk {l : PySem.W.OpenLaw} {w : World} {K : PySem.W.Frag} {h : Heap} {mg : Str → Option Value} {fa f0 f1 f2 f3 f4 f5 f6 f7 f8 f9 f10 f11 f12 f13 f14 f15 f16 f17 f18 f19 f20 f21 f22 f23 f24 f25 f26 f27 f28 f29 f30 f31 f32 f33 f34 f35 f36 f37 f38 f39 f40 f41 f42 f43 : Addr} (X : K.In h) (G : h.Ns mainGlobals mg) (hfa : mg "law" = some (.ref fa))
    {od0 an0 : Option Addr} {sl0 : Array (Option Value)} {oc0 kV0 dc0 pm0 cd0 ct0 : Value}
    {od1 an1 : Option Addr} {sl1 : Array (Option Value)} {oc1 kV1 dc1 pm1 cd1 ct1 : Value}
    {od2 an2 : Option Addr} {sl2 : Array (Option Value)} {oc2 kV2 dc2 pm2 cd2 ct2 : Value}
    {od3 an3 : Option Addr} {sl3 : Array (Option Value)} {oc3 kV3 dc3 pm3 cd3 ct3 : Value}
    {od4 an4 : Option Addr} {sl4 : Array (Option Value)} {oc4 kV4 dc4 pm4 cd4 ct4 : Value}
    {od5 an5 : Option Addr} {sl5 : Array (Option Value)} {oc5 kV5 dc5 pm5 cd5 ct5 : Value}
    {od6 an6 : Option Addr} {sl6 : Array (Option Value)} {oc6 kV6 dc6 pm6 cd6 ct6 : Value}
    {od7 an7 : Option Addr} {sl7 : Array (Option Value)} {oc7 kV7 dc7 pm7 cd7 ct7 : Value}
    {od8 an8 : Option Addr} {sl8 : Array (Option Value)} {oc8 kV8 dc8 pm8 cd8 ct8 : Value}
    {o_Columns_asked : Addr} {rest_Columns_asked : List Value}
    {od9 an9 : Option Addr} {sl9 : Array (Option Value)} {oc9 kV9 dc9 pm9 cd9 ct9 : Value}
    {od10 an10 : Option Addr} {sl10 : Array (Option Value)} {oc10 kV10 dc10 pm10 cd10 ct10 : Value}
    {od11 an11 : Option Addr} {sl11 : Array (Option Value)} {oc11 kV11 dc11 pm11 cd11 ct11 : Value}
    {od12 an12 : Option Addr} {sl12 : Array (Option Value)} {oc12 kV12 dc12 pm12 cd12 ct12 : Value}
    {od13 an13 : Option Addr} {sl13 : Array (Option Value)} {oc13 kV13 dc13 pm13 cd13 ct13 : Value}
    {od14 an14 : Option Addr} {sl14 : Array (Option Value)} {oc14 kV14 dc14 pm14 cd14 ct14 : Value}
    {od15 an15 : Option Addr} {sl15 : Array (Option Value)} {oc15 kV15 dc15 pm15 cd15 ct15 : Value}
    {od16 an16 : Option Addr} {sl16 : Array (Option Value)} {oc16 kV16 dc16 pm16 cd16 ct16 : Value}
    {od17 an17 : Option Addr} {sl17 : Array (Option Value)} {oc17 kV17 dc17 pm17 cd17 ct17 : Value}
    {od18 an18 : Option Addr} {sl18 : Array (Option Value)} {oc18 kV18 dc18 pm18 cd18 ct18 : Value}
    {od19 an19 : Option Addr} {sl19 : Array (Option Value)} {oc19 kV19 dc19 pm19 cd19 ct19 : Value}
    {od20 an20 : Option Addr} {sl20 : Array (Option Value)} {oc20 kV20 dc20 pm20 cd20 ct20 : Value}
    {od21 an21 : Option Addr} {sl21 : Array (Option Value)} {oc21 kV21 dc21 pm21 cd21 ct21 : Value}
    {od22 an22 : Option Addr} {sl22 : Array (Option Value)} {oc22 kV22 dc22 pm22 cd22 ct22 : Value}
    {od23 an23 : Option Addr} {sl23 : Array (Option Value)} {oc23 kV23 dc23 pm23 cd23 ct23 : Value}
    {od24 an24 : Option Addr} {sl24 : Array (Option Value)} {oc24 kV24 dc24 pm24 cd24 ct24 : Value}
    {od25 an25 : Option Addr} {sl25 : Array (Option Value)} {oc25 kV25 dc25 pm25 cd25 ct25 : Value}
    {od26 an26 : Option Addr} {sl26 : Array (Option Value)} {oc26 kV26 dc26 pm26 cd26 ct26 : Value}
    {od27 an27 : Option Addr} {sl27 : Array (Option Value)} {oc27 kV27 dc27 pm27 cd27 ct27 : Value}
    {od28 an28 : Option Addr} {sl28 : Array (Option Value)} {oc28 kV28 dc28 pm28 cd28 ct28 : Value}
    {od29 an29 : Option Addr} {sl29 : Array (Option Value)} {oc29 kV29 dc29 pm29 cd29 ct29 : Value}
    {od30 an30 : Option Addr} {sl30 : Array (Option Value)} {oc30 kV30 dc30 pm30 cd30 ct30 : Value}
    {od31 an31 : Option Addr} {sl31 : Array (Option Value)} {oc31 kV31 dc31 pm31 cd31 ct31 : Value}
    {od32 an32 : Option Addr} {sl32 : Array (Option Value)} {oc32 kV32 dc32 pm32 cd32 ct32 : Value}
    {od33 an33 : Option Addr} {sl33 : Array (Option Value)} {oc33 kV33 dc33 pm33 cd33 ct33 : Value}
    {od34 an34 : Option Addr} {sl34 : Array (Option Value)} {oc34 kV34 dc34 pm34 cd34 ct34 : Value}
    {od35 an35 : Option Addr} {sl35 : Array (Option Value)} {oc35 kV35 dc35 pm35 cd35 ct35 : Value}
    {od36 an36 : Option Addr} {sl36 : Array (Option Value)} {oc36 kV36 dc36 pm36 cd36 ct36 : Value}
    {od37 an37 : Option Addr} {sl37 : Array (Option Value)} {oc37 kV37 dc37 pm37 cd37 ct37 : Value}
    {od38 an38 : Option Addr} {sl38 : Array (Option Value)} {oc38 kV38 dc38 pm38 cd38 ct38 : Value}
    {od39 an39 : Option Addr} {sl39 : Array (Option Value)} {oc39 kV39 dc39 pm39 cd39 ct39 : Value}
    {od40 an40 : Option Addr} {sl40 : Array (Option Value)} {oc40 kV40 dc40 pm40 cd40 ct40 : Value}
    {od41 an41 : Option Addr} {sl41 : Array (Option Value)} {oc41 kV41 dc41 pm41 cd41 ct41 : Value}
    {od42 an42 : Option Addr} {sl42 : Array (Option Value)} {oc42 kV42 dc42 pm42 cd42 ct42 : Value}
    {od43 an43 : Option Addr} {sl43 : Array (Option Value)} {oc43 kV43 dc43 pm43 cd43 ct43 : Value}
    {c_Columns : Addr}
    {c_Table : Addr}
    {c_Kernel : Addr}
    {c_Array : Addr}
    {c_Same : Addr}
    {c_Unlike : Addr}
    {c_Apart : Addr}
    {c_Within : Addr}
    {c_Outside : Addr}
    {c_Cheapest : Addr}
    {c_SieveError : Addr}
    {c_BadColumns : Addr}
    {c_BadTable : Addr}
    {nm_BadColumns q_BadColumns : Str} {N_BadColumns : Addr} {bs_BadColumns bm_BadColumns : List Value} {sn_BadColumns : List Str} {sub_BadColumns : List Value} {ab_BadColumns : Bool} {col_BadColumns : Option Bool} {dd_BadColumns : Option Addr} {k0_BadColumns k1_BadColumns k2_BadColumns k3_BadColumns k5_BadColumns : Option Value}
    {nm_BadTable q_BadTable : Str} {N_BadTable : Addr} {bs_BadTable bm_BadTable : List Value} {sn_BadTable : List Str} {sub_BadTable : List Value} {ab_BadTable : Bool} {col_BadTable : Option Bool} {dd_BadTable : Option Addr} {k0_BadTable k1_BadTable k2_BadTable k3_BadTable k5_BadTable : Option Value}
    {t_MOST_ROWS : Tok}
    {t_LETTERS : Tok}
    {t_FAR : Tok}
    {t_LONGEST_NAME : Tok}
    {t_MOST_HASHED : Tok}
    {t_MOST_ASKED : Tok}
    {t_MOST_SUMMED : Tok}
    {dd_RESERVED : Option Addr} {n_RESERVED : Nat} {sl_RESERVED : Array (Option Value)} {t_RESERVED_0 t_RESERVED_1 t_RESERVED_2 t_RESERVED_3 t_RESERVED_4 t_RESERVED_5 t_RESERVED_6 t_RESERVED_7 t_RESERVED_8 : Tok} {g_RESERVED : Addr}
    (ac_Columns : PySem.W.nsIn K mainGlobals "Columns" = some (some (.ref c_Columns)))
    (ac_Table : PySem.W.nsIn K mainGlobals "Table" = some (some (.ref c_Table)))
    (ac_Kernel : PySem.W.nsIn K mainGlobals "Kernel" = some (some (.ref c_Kernel)))
    (ac_Array : PySem.W.nsIn K mainGlobals "Array" = some (some (.ref c_Array)))
    (ac_Same : PySem.W.nsIn K mainGlobals "Same" = some (some (.ref c_Same)))
    (ac_Unlike : PySem.W.nsIn K mainGlobals "Unlike" = some (some (.ref c_Unlike)))
    (ac_Apart : PySem.W.nsIn K mainGlobals "Apart" = some (some (.ref c_Apart)))
    (ac_Within : PySem.W.nsIn K mainGlobals "Within" = some (some (.ref c_Within)))
    (ac_Outside : PySem.W.nsIn K mainGlobals "Outside" = some (some (.ref c_Outside)))
    (ac_Cheapest : PySem.W.nsIn K mainGlobals "Cheapest" = some (some (.ref c_Cheapest)))
    (ac_SieveError : PySem.W.nsIn K mainGlobals "SieveError" = some (some (.ref c_SieveError)))
    (ac_BadColumns : PySem.W.nsIn K mainGlobals "BadColumns" = some (some (.ref c_BadColumns)))
    (ac_BadTable : PySem.W.nsIn K mainGlobals "BadTable" = some (some (.ref c_BadTable)))
    (a0 : PySem.W.nsIn K mainGlobals "is_whole" = some (some (.ref f0)))
    (l0 : K.lookup f0 = some ⟨oc0, od0, .func (PySem.W.fnOf "is_whole" "is_whole" (defArgs s_is_whole) (defBody s_is_whole) (defScope s_is_whole) .none kV0 dc0 pm0 an0 cd0 ct0), sl0⟩)
    (c0 : PySem.W.codeIn K cd0 "is_whole" = true) (k0 : PySem.W.keepIn K (.ref f0) = true)
    (a1 : PySem.W.nsIn K mainGlobals "is_between" = some (some (.ref f1)))
    (l1 : K.lookup f1 = some ⟨oc1, od1, .func (PySem.W.fnOf "is_between" "is_between" (defArgs s_is_between) (defBody s_is_between) (defScope s_is_between) .none kV1 dc1 pm1 an1 cd1 ct1), sl1⟩)
    (c1 : PySem.W.codeIn K cd1 "is_between" = true) (k1 : PySem.W.keepIn K (.ref f1) = true)
    (a2 : PySem.W.nsIn K mainGlobals "is_near" = some (some (.ref f2)))
    (l2 : K.lookup f2 = some ⟨oc2, od2, .func (PySem.W.fnOf "is_near" "is_near" (defArgs s_is_near) (defBody s_is_near) (defScope s_is_near) .none kV2 dc2 pm2 an2 cd2 ct2), sl2⟩)
    (c2 : PySem.W.codeIn K cd2 "is_near" = true) (k2 : PySem.W.keepIn K (.ref f2) = true)
    (a3 : PySem.W.nsIn K mainGlobals "is_row" = some (some (.ref f3)))
    (l3 : K.lookup f3 = some ⟨oc3, od3, .func (PySem.W.fnOf "is_row" "is_row" (defArgs s_is_row) (defBody s_is_row) (defScope s_is_row) .none kV3 dc3 pm3 an3 cd3 ct3), sl3⟩)
    (c3 : PySem.W.codeIn K cd3 "is_row" = true) (k3 : PySem.W.keepIn K (.ref f3) = true)
    (a4 : PySem.W.nsIn K mainGlobals "is_name" = some (some (.ref f4)))
    (l4 : K.lookup f4 = some ⟨oc4, od4, .func (PySem.W.fnOf "is_name" "is_name" (defArgs s_is_name) (defBody s_is_name) (defScope s_is_name) .none kV4 dc4 pm4 an4 cd4 ct4), sl4⟩)
    (c4 : PySem.W.codeIn K cd4 "is_name" = true) (k4 : PySem.W.keepIn K (.ref f4) = true)
    (a5 : PySem.W.findIn K (.ref c_BadColumns) "__init__" = some (some (.ref f5)))
    (l5 : K.lookup f5 = some ⟨oc5, od5, .func (PySem.W.fnOf "__init__" "BadColumns.__init__" (defArgs s_BadColumns_init) (defBody s_BadColumns_init) (defScope s_BadColumns_init) .none kV5 dc5 pm5 an5 cd5 ct5), sl5⟩)
    (c5 : PySem.W.codeIn K cd5 "BadColumns.__init__" = true) (k5 : PySem.W.keepIn K (.ref f5) = true)
    (a6 : PySem.W.findIn K (.ref c_BadTable) "__init__" = some (some (.ref f6)))
    (l6 : K.lookup f6 = some ⟨oc6, od6, .func (PySem.W.fnOf "__init__" "BadTable.__init__" (defArgs s_BadTable_init) (defBody s_BadTable_init) (defScope s_BadTable_init) .none kV6 dc6 pm6 an6 cd6 ct6), sl6⟩)
    (c6 : PySem.W.codeIn K cd6 "BadTable.__init__" = true) (k6 : PySem.W.keepIn K (.ref f6) = true)
    (a7 : PySem.W.findIn K (.ref c_Columns) "__init__" = some (some (.ref f7)))
    (l7 : K.lookup f7 = some ⟨oc7, od7, .func (PySem.W.fnOf "__init__" "Columns.__init__" (defArgs s_Columns_init) (defBody s_Columns_init) (defScope s_Columns_init) .none kV7 dc7 pm7 an7 cd7 ct7), sl7⟩)
    (c7 : PySem.W.codeIn K cd7 "Columns.__init__" = true) (k7 : PySem.W.keepIn K (.ref f7) = true)
    (pa_Columns_asked : PySem.W.findIn K (.ref c_Columns) "asked" = some (some (.ref o_Columns_asked))) (pb_Columns_asked : PySem.W.specialIn K (.ref o_Columns_asked) "__get__" = some (some (.builtin "property.__get__"))) (pc_Columns_asked : PySem.W.takesIn K (.ref o_Columns_asked) = some true) (pd_Columns_asked : PySem.W.recIn K o_Columns_asked "property" = some (.ref f8 :: rest_Columns_asked))
    (l8 : K.lookup f8 = some ⟨oc8, od8, .func (PySem.W.fnOf "asked" "Columns.asked" (defArgs s_Columns_asked) (defBody s_Columns_asked) (defScope s_Columns_asked) .none kV8 dc8 pm8 an8 cd8 ct8), sl8⟩)
    (c8 : PySem.W.codeIn K cd8 "Columns.asked" = true) (k8 : PySem.W.keepIn K (.ref f8) = true)
    (a9 : PySem.W.findIn K (.ref c_Columns) "__eq__" = some (some (.ref f9))) (w9 : PySem.W.isFn K (.ref f9) = true)
    (l9 : K.lookup f9 = some ⟨oc9, od9, .func (PySem.W.fnOf "__eq__" "Columns.__eq__" (defArgs s_Columns_eq) (defBody s_Columns_eq) (defScope s_Columns_eq) .none kV9 dc9 pm9 an9 cd9 ct9), sl9⟩)
    (c9 : PySem.W.codeIn K cd9 "Columns.__eq__" = true) (k9 : PySem.W.keepIn K (.ref f9) = true)
    (a10 : PySem.W.findIn K (.ref c_Table) "__init__" = some (some (.ref f10)))
    (l10 : K.lookup f10 = some ⟨oc10, od10, .func (PySem.W.fnOf "__init__" "Table.__init__" (defArgs s_Table_init) (defBody s_Table_init) (defScope s_Table_init) .none kV10 dc10 pm10 an10 cd10 ct10), sl10⟩)
    (c10 : PySem.W.codeIn K cd10 "Table.__init__" = true) (k10 : PySem.W.keepIn K (.ref f10) = true)
    (a11 : PySem.W.findIn K (.ref c_Table) "__eq__" = some (some (.ref f11))) (w11 : PySem.W.isFn K (.ref f11) = true)
    (l11 : K.lookup f11 = some ⟨oc11, od11, .func (PySem.W.fnOf "__eq__" "Table.__eq__" (defArgs s_Table_eq) (defBody s_Table_eq) (defScope s_Table_eq) .none kV11 dc11 pm11 an11 cd11 ct11), sl11⟩)
    (c11 : PySem.W.codeIn K cd11 "Table.__eq__" = true) (k11 : PySem.W.keepIn K (.ref f11) = true)
    (a12 : PySem.W.nsIn K mainGlobals "wrong_part" = some (some (.ref f12)))
    (l12 : K.lookup f12 = some ⟨oc12, od12, .func (PySem.W.fnOf "wrong_part" "wrong_part" (defArgs s_wrong_part) (defBody s_wrong_part) (defScope s_wrong_part) .none kV12 dc12 pm12 an12 cd12 ct12), sl12⟩)
    (c12 : PySem.W.codeIn K cd12 "wrong_part" = true) (k12 : PySem.W.keepIn K (.ref f12) = true)
    (a13 : PySem.W.nsIn K mainGlobals "are_names" = some (some (.ref f13)))
    (l13 : K.lookup f13 = some ⟨oc13, od13, .func (PySem.W.fnOf "are_names" "are_names" (defArgs s_are_names) (defBody s_are_names) (defScope s_are_names) .none kV13 dc13 pm13 an13 cd13 ct13), sl13⟩)
    (c13 : PySem.W.codeIn K cd13 "are_names" = true) (k13 : PySem.W.keepIn K (.ref f13) = true)
    (a14 : PySem.W.nsIn K mainGlobals "are_asked" = some (some (.ref f14)))
    (l14 : K.lookup f14 = some ⟨oc14, od14, .func (PySem.W.fnOf "are_asked" "are_asked" (defArgs s_are_asked) (defBody s_are_asked) (defScope s_are_asked) .none kV14 dc14 pm14 an14 cd14 ct14), sl14⟩)
    (c14 : PySem.W.codeIn K cd14 "are_asked" = true) (k14 : PySem.W.keepIn K (.ref f14) = true)
    (a15 : PySem.W.nsIn K mainGlobals "is_table_row" = some (some (.ref f15)))
    (l15 : K.lookup f15 = some ⟨oc15, od15, .func (PySem.W.fnOf "is_table_row" "is_table_row" (defArgs s_is_table_row) (defBody s_is_table_row) (defScope s_is_table_row) .none kV15 dc15 pm15 an15 cd15 ct15), sl15⟩)
    (c15 : PySem.W.codeIn K cd15 "is_table_row" = true) (k15 : PySem.W.keepIn K (.ref f15) = true)
    (a16 : PySem.W.nsIn K mainGlobals "are_numbers" = some (some (.ref f16)))
    (l16 : K.lookup f16 = some ⟨oc16, od16, .func (PySem.W.fnOf "are_numbers" "are_numbers" (defArgs s_are_numbers) (defBody s_are_numbers) (defScope s_are_numbers) .none kV16 dc16 pm16 an16 cd16 ct16), sl16⟩)
    (c16 : PySem.W.codeIn K cd16 "are_numbers" = true) (k16 : PySem.W.keepIn K (.ref f16) = true)
    (a17 : PySem.W.nsIn K mainGlobals "are_values" = some (some (.ref f17)))
    (l17 : K.lookup f17 = some ⟨oc17, od17, .func (PySem.W.fnOf "are_values" "are_values" (defArgs s_are_values) (defBody s_are_values) (defScope s_are_values) .none kV17 dc17 pm17 an17 cd17 ct17), sl17⟩)
    (c17 : PySem.W.codeIn K cd17 "are_values" = true) (k17 : PySem.W.keepIn K (.ref f17) = true)
    (a18 : PySem.W.nsIn K mainGlobals "is_value" = some (some (.ref f18)))
    (l18 : K.lookup f18 = some ⟨oc18, od18, .func (PySem.W.fnOf "is_value" "is_value" (defArgs s_is_value) (defBody s_is_value) (defScope s_is_value) .none kV18 dc18 pm18 an18 cd18 ct18), sl18⟩)
    (c18 : PySem.W.codeIn K cd18 "is_value" = true) (k18 : PySem.W.keepIn K (.ref f18) = true)
    (a19 : PySem.W.findIn K (.ref c_Kernel) "__init__" = some (some (.ref f19)))
    (l19 : K.lookup f19 = some ⟨oc19, od19, .func (PySem.W.fnOf "__init__" "Kernel.__init__" (defArgs s_Kernel_init) (defBody s_Kernel_init) (defScope s_Kernel_init) .none kV19 dc19 pm19 an19 cd19 ct19), sl19⟩)
    (c19 : PySem.W.codeIn K cd19 "Kernel.__init__" = true) (k19 : PySem.W.keepIn K (.ref f19) = true)
    (a20 : PySem.W.findIn K (.ref c_Kernel) "__eq__" = some (some (.ref f20))) (w20 : PySem.W.isFn K (.ref f20) = true)
    (l20 : K.lookup f20 = some ⟨oc20, od20, .func (PySem.W.fnOf "__eq__" "Kernel.__eq__" (defArgs s_Kernel_eq) (defBody s_Kernel_eq) (defScope s_Kernel_eq) .none kV20 dc20 pm20 an20 cd20 ct20), sl20⟩)
    (c20 : PySem.W.codeIn K cd20 "Kernel.__eq__" = true) (k20 : PySem.W.keepIn K (.ref f20) = true)
    (a21 : PySem.W.findIn K (.ref c_Array) "__init__" = some (some (.ref f21)))
    (l21 : K.lookup f21 = some ⟨oc21, od21, .func (PySem.W.fnOf "__init__" "Array.__init__" (defArgs s_Array_init) (defBody s_Array_init) (defScope s_Array_init) .none kV21 dc21 pm21 an21 cd21 ct21), sl21⟩)
    (c21 : PySem.W.codeIn K cd21 "Array.__init__" = true) (k21 : PySem.W.keepIn K (.ref f21) = true)
    (a22 : PySem.W.findIn K (.ref c_Array) "__eq__" = some (some (.ref f22))) (w22 : PySem.W.isFn K (.ref f22) = true)
    (l22 : K.lookup f22 = some ⟨oc22, od22, .func (PySem.W.fnOf "__eq__" "Array.__eq__" (defArgs s_Array_eq) (defBody s_Array_eq) (defScope s_Array_eq) .none kV22 dc22 pm22 an22 cd22 ct22), sl22⟩)
    (c22 : PySem.W.codeIn K cd22 "Array.__eq__" = true) (k22 : PySem.W.keepIn K (.ref f22) = true)
    (a23 : PySem.W.findIn K (.ref c_Same) "__init__" = some (some (.ref f23)))
    (l23 : K.lookup f23 = some ⟨oc23, od23, .func (PySem.W.fnOf "__init__" "Same.__init__" (defArgs s_Same_init) (defBody s_Same_init) (defScope s_Same_init) .none kV23 dc23 pm23 an23 cd23 ct23), sl23⟩)
    (c23 : PySem.W.codeIn K cd23 "Same.__init__" = true) (k23 : PySem.W.keepIn K (.ref f23) = true)
    (a24 : PySem.W.findIn K (.ref c_Same) "__bool__" = some (some (.ref f24))) (w24 : PySem.W.isFn K (.ref f24) = true)
    (l24 : K.lookup f24 = some ⟨oc24, od24, .func (PySem.W.fnOf "__bool__" "Same.__bool__" (defArgs s_Same_bool) (defBody s_Same_bool) (defScope s_Same_bool) .none kV24 dc24 pm24 an24 cd24 ct24), sl24⟩)
    (c24 : PySem.W.codeIn K cd24 "Same.__bool__" = true) (k24 : PySem.W.keepIn K (.ref f24) = true)
    (a25 : PySem.W.findIn K (.ref c_Same) "__eq__" = some (some (.ref f25))) (w25 : PySem.W.isFn K (.ref f25) = true)
    (l25 : K.lookup f25 = some ⟨oc25, od25, .func (PySem.W.fnOf "__eq__" "Same.__eq__" (defArgs s_Same_eq) (defBody s_Same_eq) (defScope s_Same_eq) .none kV25 dc25 pm25 an25 cd25 ct25), sl25⟩)
    (c25 : PySem.W.codeIn K cd25 "Same.__eq__" = true) (k25 : PySem.W.keepIn K (.ref f25) = true)
    (a26 : PySem.W.findIn K (.ref c_Unlike) "__init__" = some (some (.ref f26)))
    (l26 : K.lookup f26 = some ⟨oc26, od26, .func (PySem.W.fnOf "__init__" "Unlike.__init__" (defArgs s_Unlike_init) (defBody s_Unlike_init) (defScope s_Unlike_init) .none kV26 dc26 pm26 an26 cd26 ct26), sl26⟩)
    (c26 : PySem.W.codeIn K cd26 "Unlike.__init__" = true) (k26 : PySem.W.keepIn K (.ref f26) = true)
    (a27 : PySem.W.findIn K (.ref c_Unlike) "__bool__" = some (some (.ref f27))) (w27 : PySem.W.isFn K (.ref f27) = true)
    (l27 : K.lookup f27 = some ⟨oc27, od27, .func (PySem.W.fnOf "__bool__" "Unlike.__bool__" (defArgs s_Unlike_bool) (defBody s_Unlike_bool) (defScope s_Unlike_bool) .none kV27 dc27 pm27 an27 cd27 ct27), sl27⟩)
    (c27 : PySem.W.codeIn K cd27 "Unlike.__bool__" = true) (k27 : PySem.W.keepIn K (.ref f27) = true)
    (a28 : PySem.W.findIn K (.ref c_Unlike) "__eq__" = some (some (.ref f28))) (w28 : PySem.W.isFn K (.ref f28) = true)
    (l28 : K.lookup f28 = some ⟨oc28, od28, .func (PySem.W.fnOf "__eq__" "Unlike.__eq__" (defArgs s_Unlike_eq) (defBody s_Unlike_eq) (defScope s_Unlike_eq) .none kV28 dc28 pm28 an28 cd28 ct28), sl28⟩)
    (c28 : PySem.W.codeIn K cd28 "Unlike.__eq__" = true) (k28 : PySem.W.keepIn K (.ref f28) = true)
    (a29 : PySem.W.findIn K (.ref c_Apart) "__init__" = some (some (.ref f29)))
    (l29 : K.lookup f29 = some ⟨oc29, od29, .func (PySem.W.fnOf "__init__" "Apart.__init__" (defArgs s_Apart_init) (defBody s_Apart_init) (defScope s_Apart_init) .none kV29 dc29 pm29 an29 cd29 ct29), sl29⟩)
    (c29 : PySem.W.codeIn K cd29 "Apart.__init__" = true) (k29 : PySem.W.keepIn K (.ref f29) = true)
    (a30 : PySem.W.findIn K (.ref c_Apart) "__eq__" = some (some (.ref f30))) (w30 : PySem.W.isFn K (.ref f30) = true)
    (l30 : K.lookup f30 = some ⟨oc30, od30, .func (PySem.W.fnOf "__eq__" "Apart.__eq__" (defArgs s_Apart_eq) (defBody s_Apart_eq) (defScope s_Apart_eq) .none kV30 dc30 pm30 an30 cd30 ct30), sl30⟩)
    (c30 : PySem.W.codeIn K cd30 "Apart.__eq__" = true) (k30 : PySem.W.keepIn K (.ref f30) = true)
    (a31 : PySem.W.findIn K (.ref c_Within) "__bool__" = some (some (.ref f31))) (w31 : PySem.W.isFn K (.ref f31) = true)
    (l31 : K.lookup f31 = some ⟨oc31, od31, .func (PySem.W.fnOf "__bool__" "Within.__bool__" (defArgs s_Within_bool) (defBody s_Within_bool) (defScope s_Within_bool) .none kV31 dc31 pm31 an31 cd31 ct31), sl31⟩)
    (c31 : PySem.W.codeIn K cd31 "Within.__bool__" = true) (k31 : PySem.W.keepIn K (.ref f31) = true)
    (a32 : PySem.W.findIn K (.ref c_Within) "__eq__" = some (some (.ref f32))) (w32 : PySem.W.isFn K (.ref f32) = true)
    (l32 : K.lookup f32 = some ⟨oc32, od32, .func (PySem.W.fnOf "__eq__" "Within.__eq__" (defArgs s_Within_eq) (defBody s_Within_eq) (defScope s_Within_eq) .none kV32 dc32 pm32 an32 cd32 ct32), sl32⟩)
    (c32 : PySem.W.codeIn K cd32 "Within.__eq__" = true) (k32 : PySem.W.keepIn K (.ref f32) = true)
    (a33 : PySem.W.findIn K (.ref c_Outside) "__init__" = some (some (.ref f33)))
    (l33 : K.lookup f33 = some ⟨oc33, od33, .func (PySem.W.fnOf "__init__" "Outside.__init__" (defArgs s_Outside_init) (defBody s_Outside_init) (defScope s_Outside_init) .none kV33 dc33 pm33 an33 cd33 ct33), sl33⟩)
    (c33 : PySem.W.codeIn K cd33 "Outside.__init__" = true) (k33 : PySem.W.keepIn K (.ref f33) = true)
    (a34 : PySem.W.findIn K (.ref c_Outside) "__bool__" = some (some (.ref f34))) (w34 : PySem.W.isFn K (.ref f34) = true)
    (l34 : K.lookup f34 = some ⟨oc34, od34, .func (PySem.W.fnOf "__bool__" "Outside.__bool__" (defArgs s_Outside_bool) (defBody s_Outside_bool) (defScope s_Outside_bool) .none kV34 dc34 pm34 an34 cd34 ct34), sl34⟩)
    (c34 : PySem.W.codeIn K cd34 "Outside.__bool__" = true) (k34 : PySem.W.keepIn K (.ref f34) = true)
    (a35 : PySem.W.findIn K (.ref c_Outside) "__eq__" = some (some (.ref f35))) (w35 : PySem.W.isFn K (.ref f35) = true)
    (l35 : K.lookup f35 = some ⟨oc35, od35, .func (PySem.W.fnOf "__eq__" "Outside.__eq__" (defArgs s_Outside_eq) (defBody s_Outside_eq) (defScope s_Outside_eq) .none kV35 dc35 pm35 an35 cd35 ct35), sl35⟩)
    (c35 : PySem.W.codeIn K cd35 "Outside.__eq__" = true) (k35 : PySem.W.keepIn K (.ref f35) = true)
    (a36 : PySem.W.findIn K (.ref c_Cheapest) "__init__" = some (some (.ref f36)))
    (l36 : K.lookup f36 = some ⟨oc36, od36, .func (PySem.W.fnOf "__init__" "Cheapest.__init__" (defArgs s_Cheapest_init) (defBody s_Cheapest_init) (defScope s_Cheapest_init) .none kV36 dc36 pm36 an36 cd36 ct36), sl36⟩)
    (c36 : PySem.W.codeIn K cd36 "Cheapest.__init__" = true) (k36 : PySem.W.keepIn K (.ref f36) = true)
    (a37 : PySem.W.findIn K (.ref c_Cheapest) "__bool__" = some (some (.ref f37))) (w37 : PySem.W.isFn K (.ref f37) = true)
    (l37 : K.lookup f37 = some ⟨oc37, od37, .func (PySem.W.fnOf "__bool__" "Cheapest.__bool__" (defArgs s_Cheapest_bool) (defBody s_Cheapest_bool) (defScope s_Cheapest_bool) .none kV37 dc37 pm37 an37 cd37 ct37), sl37⟩)
    (c37 : PySem.W.codeIn K cd37 "Cheapest.__bool__" = true) (k37 : PySem.W.keepIn K (.ref f37) = true)
    (a38 : PySem.W.findIn K (.ref c_Cheapest) "__eq__" = some (some (.ref f38))) (w38 : PySem.W.isFn K (.ref f38) = true)
    (l38 : K.lookup f38 = some ⟨oc38, od38, .func (PySem.W.fnOf "__eq__" "Cheapest.__eq__" (defArgs s_Cheapest_eq) (defBody s_Cheapest_eq) (defScope s_Cheapest_eq) .none kV38 dc38 pm38 an38 cd38 ct38), sl38⟩)
    (c38 : PySem.W.codeIn K cd38 "Cheapest.__eq__" = true) (k38 : PySem.W.keepIn K (.ref f38) = true)
    (a39 : PySem.W.nsIn K mainGlobals "_law_number" = some (some (.ref f39)))
    (l39 : K.lookup f39 = some ⟨oc39, od39, .func (PySem.W.fnOf "_law_number" "_law_number" (defArgs s__law_number) (defBody s__law_number) (defScope s__law_number) .none kV39 dc39 pm39 an39 cd39 ct39), sl39⟩)
    (c39 : PySem.W.codeIn K cd39 "_law_number" = true) (k39 : PySem.W.keepIn K (.ref f39) = true)
    (a40 : PySem.W.nsIn K mainGlobals "_law_take" = some (some (.ref f40)))
    (l40 : K.lookup f40 = some ⟨oc40, od40, .func (PySem.W.fnOf "_law_take" "_law_take" (defArgs s__law_take) (defBody s__law_take) (defScope s__law_take) .none kV40 dc40 pm40 an40 cd40 ct40), sl40⟩)
    (c40 : PySem.W.codeIn K cd40 "_law_take" = true) (k40 : PySem.W.keepIn K (.ref f40) = true)
    (a41 : PySem.W.nsIn K mainGlobals "_law_made" = some (some (.ref f41)))
    (l41 : K.lookup f41 = some ⟨oc41, od41, .func (PySem.W.fnOf "_law_made" "_law_made" (defArgs s__law_made) (defBody s__law_made) (defScope s__law_made) .none kV41 dc41 pm41 an41 cd41 ct41), sl41⟩)
    (c41 : PySem.W.codeIn K cd41 "_law_made" = true) (k41 : PySem.W.keepIn K (.ref f41) = true)
    (a42 : PySem.W.nsIn K mainGlobals "_law_told" = some (some (.ref f42)))
    (l42 : K.lookup f42 = some ⟨oc42, od42, .func (PySem.W.fnOf "_law_told" "_law_told" (defArgs s__law_told) (defBody s__law_told) (defScope s__law_told) .none kV42 dc42 pm42 an42 cd42 ct42), sl42⟩)
    (c42 : PySem.W.codeIn K cd42 "_law_told" = true) (k42 : PySem.W.keepIn K (.ref f42) = true)
    (a43 : PySem.W.nsIn K mainGlobals "law" = some (some (.ref f43)))
    (l43 : K.lookup f43 = some ⟨oc43, od43, .func (PySem.W.fnOf "law" "law" (defArgs s_law) (defBody s_law) (defScope s_law) .none kV43 dc43 pm43 an43 cd43 ct43), sl43⟩)
    (c43 : PySem.W.codeIn K cd43 "law" = true) (k43 : PySem.W.keepIn K (.ref f43) = true)
    (pg_Columns : PySem.W.plainGet K c_Columns Str.empty = true) (hd_Columns : PySem.W.hasDictIn K c_Columns = true) (po_Columns : PySem.W.plainOver K c_Columns = true) (sa_Columns : PySem.W.findIn K (.ref c_Columns) "__setattr__" = some (some (.builtin "object.__setattr__"))) (mk_Columns : PySem.W.makesIn K c_Columns = true) (kc_Columns : PySem.W.keepIn K (.ref c_Columns) = true)
    (fn_Columns : PySem.W.isFn K (.ref f7) = true)
    (n_Columns_hashed : PySem.W.findIn K (.ref c_Columns) "hashed" = some none)
    (n_Columns__asked : PySem.W.findIn K (.ref c_Columns) "_asked" = some none)
    (n_Columns_summed : PySem.W.findIn K (.ref c_Columns) "summed" = some none)
    (ne_Columns : PySem.W.findIn K (.ref c_Columns) "__ne__" = some (some (.builtin "object.__ne__"))) (mo_Columns : PySem.W.mroIn K c_Columns (.type "object") = some true)
    (xp_Columns : PySem.W.findIn K (.ref c_Columns) "__class__" = some (some (.builtin "object.__class__"))) (xq_Columns : PySem.W.specialIn K (.builtin "object.__class__") "__get__" = some (some (.builtin "getset_descriptor.__get__"))) (xr_Columns : PySem.W.takesIn K (.builtin "object.__class__") = some true)
    (pg_Table : PySem.W.plainGet K c_Table Str.empty = true) (hd_Table : PySem.W.hasDictIn K c_Table = true) (po_Table : PySem.W.plainOver K c_Table = true) (sa_Table : PySem.W.findIn K (.ref c_Table) "__setattr__" = some (some (.builtin "object.__setattr__"))) (mk_Table : PySem.W.makesIn K c_Table = true) (kc_Table : PySem.W.keepIn K (.ref c_Table) = true)
    (fn_Table : PySem.W.isFn K (.ref f10) = true)
    (n_Table_columns : PySem.W.findIn K (.ref c_Table) "columns" = some none)
    (n_Table_rows : PySem.W.findIn K (.ref c_Table) "rows" = some none)
    (ne_Table : PySem.W.findIn K (.ref c_Table) "__ne__" = some (some (.builtin "object.__ne__"))) (mo_Table : PySem.W.mroIn K c_Table (.type "object") = some true)
    (xp_Table : PySem.W.findIn K (.ref c_Table) "__class__" = some (some (.builtin "object.__class__"))) (xq_Table : PySem.W.specialIn K (.builtin "object.__class__") "__get__" = some (some (.builtin "getset_descriptor.__get__"))) (xr_Table : PySem.W.takesIn K (.builtin "object.__class__") = some true)
    (pg_Kernel : PySem.W.plainGet K c_Kernel Str.empty = true) (hd_Kernel : PySem.W.hasDictIn K c_Kernel = true) (po_Kernel : PySem.W.plainOver K c_Kernel = true) (sa_Kernel : PySem.W.findIn K (.ref c_Kernel) "__setattr__" = some (some (.builtin "object.__setattr__"))) (mk_Kernel : PySem.W.makesIn K c_Kernel = true) (kc_Kernel : PySem.W.keepIn K (.ref c_Kernel) = true)
    (fn_Kernel : PySem.W.isFn K (.ref f19) = true)
    (ke_Kernel : PySem.W.typeIn K (.ref c_Kernel) = some (.type "type")) (kf_Kernel : PySem.W.subIn K (.ref c_Kernel) (.ref c_Kernel) = some true)
    (n_Kernel_weights : PySem.W.findIn K (.ref c_Kernel) "weights" = some none)
    (n_Kernel_functions : PySem.W.findIn K (.ref c_Kernel) "functions" = some none)
    (ne_Kernel : PySem.W.findIn K (.ref c_Kernel) "__ne__" = some (some (.builtin "object.__ne__"))) (mo_Kernel : PySem.W.mroIn K c_Kernel (.type "object") = some true)
    (xp_Kernel : PySem.W.findIn K (.ref c_Kernel) "__class__" = some (some (.builtin "object.__class__"))) (xq_Kernel : PySem.W.specialIn K (.builtin "object.__class__") "__get__" = some (some (.builtin "getset_descriptor.__get__"))) (xr_Kernel : PySem.W.takesIn K (.builtin "object.__class__") = some true)
    (pg_Array : PySem.W.plainGet K c_Array Str.empty = true) (hd_Array : PySem.W.hasDictIn K c_Array = true) (po_Array : PySem.W.plainOver K c_Array = true) (sa_Array : PySem.W.findIn K (.ref c_Array) "__setattr__" = some (some (.builtin "object.__setattr__"))) (mk_Array : PySem.W.makesIn K c_Array = true) (kc_Array : PySem.W.keepIn K (.ref c_Array) = true)
    (fn_Array : PySem.W.isFn K (.ref f21) = true)
    (ke_Array : PySem.W.typeIn K (.ref c_Array) = some (.type "type")) (kf_Array : PySem.W.subIn K (.ref c_Array) (.ref c_Array) = some true)
    (n_Array_sizes : PySem.W.findIn K (.ref c_Array) "sizes" = some none)
    (n_Array_entries : PySem.W.findIn K (.ref c_Array) "entries" = some none)
    (ne_Array : PySem.W.findIn K (.ref c_Array) "__ne__" = some (some (.builtin "object.__ne__"))) (mo_Array : PySem.W.mroIn K c_Array (.type "object") = some true)
    (xp_Array : PySem.W.findIn K (.ref c_Array) "__class__" = some (some (.builtin "object.__class__"))) (xq_Array : PySem.W.specialIn K (.builtin "object.__class__") "__get__" = some (some (.builtin "getset_descriptor.__get__"))) (xr_Array : PySem.W.takesIn K (.builtin "object.__class__") = some true)
    (pg_Same : PySem.W.plainGet K c_Same Str.empty = true) (hd_Same : PySem.W.hasDictIn K c_Same = true) (po_Same : PySem.W.plainOver K c_Same = true) (sa_Same : PySem.W.findIn K (.ref c_Same) "__setattr__" = some (some (.builtin "object.__setattr__"))) (mk_Same : PySem.W.makesIn K c_Same = true) (kc_Same : PySem.W.keepIn K (.ref c_Same) = true)
    (fn_Same : PySem.W.isFn K (.ref f23) = true)
    (ke_Same : PySem.W.typeIn K (.ref c_Same) = some (.type "type")) (kf_Same : PySem.W.subIn K (.ref c_Same) (.ref c_Same) = some true)
    (n_Same_maps : PySem.W.findIn K (.ref c_Same) "maps" = some none)
    (ne_Same : PySem.W.findIn K (.ref c_Same) "__ne__" = some (some (.builtin "object.__ne__"))) (mo_Same : PySem.W.mroIn K c_Same (.type "object") = some true)
    (xp_Same : PySem.W.findIn K (.ref c_Same) "__class__" = some (some (.builtin "object.__class__"))) (xq_Same : PySem.W.specialIn K (.builtin "object.__class__") "__get__" = some (some (.builtin "getset_descriptor.__get__"))) (xr_Same : PySem.W.takesIn K (.builtin "object.__class__") = some true)
    (pg_Unlike : PySem.W.plainGet K c_Unlike Str.empty = true) (hd_Unlike : PySem.W.hasDictIn K c_Unlike = true) (po_Unlike : PySem.W.plainOver K c_Unlike = true) (sa_Unlike : PySem.W.findIn K (.ref c_Unlike) "__setattr__" = some (some (.builtin "object.__setattr__"))) (mk_Unlike : PySem.W.makesIn K c_Unlike = true) (kc_Unlike : PySem.W.keepIn K (.ref c_Unlike) = true)
    (fn_Unlike : PySem.W.isFn K (.ref f26) = true)
    (ke_Unlike : PySem.W.typeIn K (.ref c_Unlike) = some (.type "type")) (kf_Unlike : PySem.W.subIn K (.ref c_Unlike) (.ref c_Unlike) = some true)
    (n_Unlike_which : PySem.W.findIn K (.ref c_Unlike) "which" = some none)
    (n_Unlike_chosen : PySem.W.findIn K (.ref c_Unlike) "chosen" = some none)
    (n_Unlike_chances : PySem.W.findIn K (.ref c_Unlike) "chances" = some none)
    (ne_Unlike : PySem.W.findIn K (.ref c_Unlike) "__ne__" = some (some (.builtin "object.__ne__"))) (mo_Unlike : PySem.W.mroIn K c_Unlike (.type "object") = some true)
    (xp_Unlike : PySem.W.findIn K (.ref c_Unlike) "__class__" = some (some (.builtin "object.__class__"))) (xq_Unlike : PySem.W.specialIn K (.builtin "object.__class__") "__get__" = some (some (.builtin "getset_descriptor.__get__"))) (xr_Unlike : PySem.W.takesIn K (.builtin "object.__class__") = some true)
    (pg_Apart : PySem.W.plainGet K c_Apart Str.empty = true) (hd_Apart : PySem.W.hasDictIn K c_Apart = true) (po_Apart : PySem.W.plainOver K c_Apart = true) (sa_Apart : PySem.W.findIn K (.ref c_Apart) "__setattr__" = some (some (.builtin "object.__setattr__"))) (mk_Apart : PySem.W.makesIn K c_Apart = true) (kc_Apart : PySem.W.keepIn K (.ref c_Apart) = true)
    (fn_Apart : PySem.W.isFn K (.ref f29) = true)
    (ke_Apart : PySem.W.typeIn K (.ref c_Apart) = some (.type "type")) (kf_Apart : PySem.W.subIn K (.ref c_Apart) (.ref c_Apart) = some true)
    (n_Apart_table : PySem.W.findIn K (.ref c_Apart) "table" = some none)
    (n_Apart_chances : PySem.W.findIn K (.ref c_Apart) "chances" = some none)
    (ne_Apart : PySem.W.findIn K (.ref c_Apart) "__ne__" = some (some (.builtin "object.__ne__"))) (mo_Apart : PySem.W.mroIn K c_Apart (.type "object") = some true)
    (xp_Apart : PySem.W.findIn K (.ref c_Apart) "__class__" = some (some (.builtin "object.__class__"))) (xq_Apart : PySem.W.specialIn K (.builtin "object.__class__") "__get__" = some (some (.builtin "getset_descriptor.__get__"))) (xr_Apart : PySem.W.takesIn K (.builtin "object.__class__") = some true)
    (pg_Within : PySem.W.plainGet K c_Within Str.empty = true) (hd_Within : PySem.W.hasDictIn K c_Within = true) (po_Within : PySem.W.plainOver K c_Within = true) (sa_Within : PySem.W.findIn K (.ref c_Within) "__setattr__" = some (some (.builtin "object.__setattr__"))) (mk_Within : PySem.W.makesIn K c_Within = true) (kc_Within : PySem.W.keepIn K (.ref c_Within) = true)
    (mi_Within : PySem.W.findIn K (.ref c_Within) "__init__" = some (some (.builtin "object.__init__")))
    (ke_Within : PySem.W.typeIn K (.ref c_Within) = some (.type "type")) (kf_Within : PySem.W.subIn K (.ref c_Within) (.ref c_Within) = some true)
    (ne_Within : PySem.W.findIn K (.ref c_Within) "__ne__" = some (some (.builtin "object.__ne__"))) (mo_Within : PySem.W.mroIn K c_Within (.type "object") = some true)
    (xp_Within : PySem.W.findIn K (.ref c_Within) "__class__" = some (some (.builtin "object.__class__"))) (xq_Within : PySem.W.specialIn K (.builtin "object.__class__") "__get__" = some (some (.builtin "getset_descriptor.__get__"))) (xr_Within : PySem.W.takesIn K (.builtin "object.__class__") = some true)
    (pg_Outside : PySem.W.plainGet K c_Outside Str.empty = true) (hd_Outside : PySem.W.hasDictIn K c_Outside = true) (po_Outside : PySem.W.plainOver K c_Outside = true) (sa_Outside : PySem.W.findIn K (.ref c_Outside) "__setattr__" = some (some (.builtin "object.__setattr__"))) (mk_Outside : PySem.W.makesIn K c_Outside = true) (kc_Outside : PySem.W.keepIn K (.ref c_Outside) = true)
    (fn_Outside : PySem.W.isFn K (.ref f33) = true)
    (ke_Outside : PySem.W.typeIn K (.ref c_Outside) = some (.type "type")) (kf_Outside : PySem.W.subIn K (.ref c_Outside) (.ref c_Outside) = some true)
    (n_Outside_row : PySem.W.findIn K (.ref c_Outside) "row" = some none)
    (n_Outside_draws : PySem.W.findIn K (.ref c_Outside) "draws" = some none)
    (ne_Outside : PySem.W.findIn K (.ref c_Outside) "__ne__" = some (some (.builtin "object.__ne__"))) (mo_Outside : PySem.W.mroIn K c_Outside (.type "object") = some true)
    (xp_Outside : PySem.W.findIn K (.ref c_Outside) "__class__" = some (some (.builtin "object.__class__"))) (xq_Outside : PySem.W.specialIn K (.builtin "object.__class__") "__get__" = some (some (.builtin "getset_descriptor.__get__"))) (xr_Outside : PySem.W.takesIn K (.builtin "object.__class__") = some true)
    (pg_Cheapest : PySem.W.plainGet K c_Cheapest Str.empty = true) (hd_Cheapest : PySem.W.hasDictIn K c_Cheapest = true) (po_Cheapest : PySem.W.plainOver K c_Cheapest = true) (sa_Cheapest : PySem.W.findIn K (.ref c_Cheapest) "__setattr__" = some (some (.builtin "object.__setattr__"))) (mk_Cheapest : PySem.W.makesIn K c_Cheapest = true) (kc_Cheapest : PySem.W.keepIn K (.ref c_Cheapest) = true)
    (fn_Cheapest : PySem.W.isFn K (.ref f36) = true)
    (ke_Cheapest : PySem.W.typeIn K (.ref c_Cheapest) = some (.type "type")) (kf_Cheapest : PySem.W.subIn K (.ref c_Cheapest) (.ref c_Cheapest) = some true)
    (n_Cheapest_number : PySem.W.findIn K (.ref c_Cheapest) "number" = some none)
    (n_Cheapest_paper : PySem.W.findIn K (.ref c_Cheapest) "paper" = some none)
    (n_Cheapest_against : PySem.W.findIn K (.ref c_Cheapest) "against" = some none)
    (ne_Cheapest : PySem.W.findIn K (.ref c_Cheapest) "__ne__" = some (some (.builtin "object.__ne__"))) (mo_Cheapest : PySem.W.mroIn K c_Cheapest (.type "object") = some true)
    (xp_Cheapest : PySem.W.findIn K (.ref c_Cheapest) "__class__" = some (some (.builtin "object.__class__"))) (xq_Cheapest : PySem.W.specialIn K (.builtin "object.__class__") "__get__" = some (some (.builtin "getset_descriptor.__get__"))) (xr_Cheapest : PySem.W.takesIn K (.builtin "object.__class__") = some true)
    (ys_Same_Unlike : PySem.W.subIn K (.ref c_Same) (.ref c_Unlike) = some false)
    (ys_Same_Apart : PySem.W.subIn K (.ref c_Same) (.ref c_Apart) = some false)
    (ys_Same_Within : PySem.W.subIn K (.ref c_Same) (.ref c_Within) = some false)
    (ys_Same_Outside : PySem.W.subIn K (.ref c_Same) (.ref c_Outside) = some false)
    (ys_Same_Cheapest : PySem.W.subIn K (.ref c_Same) (.ref c_Cheapest) = some false)
    (ys_Same_Array : PySem.W.subIn K (.ref c_Same) (.ref c_Array) = some false)
    (ys_Same_Kernel : PySem.W.subIn K (.ref c_Same) (.ref c_Kernel) = some false)
    (ys_Unlike_Same : PySem.W.subIn K (.ref c_Unlike) (.ref c_Same) = some false)
    (ys_Unlike_Apart : PySem.W.subIn K (.ref c_Unlike) (.ref c_Apart) = some false)
    (ys_Unlike_Within : PySem.W.subIn K (.ref c_Unlike) (.ref c_Within) = some false)
    (ys_Unlike_Outside : PySem.W.subIn K (.ref c_Unlike) (.ref c_Outside) = some false)
    (ys_Unlike_Cheapest : PySem.W.subIn K (.ref c_Unlike) (.ref c_Cheapest) = some false)
    (ys_Unlike_Array : PySem.W.subIn K (.ref c_Unlike) (.ref c_Array) = some false)
    (ys_Unlike_Kernel : PySem.W.subIn K (.ref c_Unlike) (.ref c_Kernel) = some false)
    (ys_Apart_Same : PySem.W.subIn K (.ref c_Apart) (.ref c_Same) = some false)
    (ys_Apart_Unlike : PySem.W.subIn K (.ref c_Apart) (.ref c_Unlike) = some false)
    (ys_Apart_Within : PySem.W.subIn K (.ref c_Apart) (.ref c_Within) = some false)
    (ys_Apart_Outside : PySem.W.subIn K (.ref c_Apart) (.ref c_Outside) = some false)
    (ys_Apart_Cheapest : PySem.W.subIn K (.ref c_Apart) (.ref c_Cheapest) = some false)
    (ys_Apart_Array : PySem.W.subIn K (.ref c_Apart) (.ref c_Array) = some false)
    (ys_Apart_Kernel : PySem.W.subIn K (.ref c_Apart) (.ref c_Kernel) = some false)
    (ys_Within_Same : PySem.W.subIn K (.ref c_Within) (.ref c_Same) = some false)
    (ys_Within_Unlike : PySem.W.subIn K (.ref c_Within) (.ref c_Unlike) = some false)
    (ys_Within_Apart : PySem.W.subIn K (.ref c_Within) (.ref c_Apart) = some false)
    (ys_Within_Outside : PySem.W.subIn K (.ref c_Within) (.ref c_Outside) = some false)
    (ys_Within_Cheapest : PySem.W.subIn K (.ref c_Within) (.ref c_Cheapest) = some false)
    (ys_Within_Array : PySem.W.subIn K (.ref c_Within) (.ref c_Array) = some false)
    (ys_Within_Kernel : PySem.W.subIn K (.ref c_Within) (.ref c_Kernel) = some false)
    (ys_Outside_Same : PySem.W.subIn K (.ref c_Outside) (.ref c_Same) = some false)
    (ys_Outside_Unlike : PySem.W.subIn K (.ref c_Outside) (.ref c_Unlike) = some false)
    (ys_Outside_Apart : PySem.W.subIn K (.ref c_Outside) (.ref c_Apart) = some false)
    (ys_Outside_Within : PySem.W.subIn K (.ref c_Outside) (.ref c_Within) = some false)
    (ys_Outside_Cheapest : PySem.W.subIn K (.ref c_Outside) (.ref c_Cheapest) = some false)
    (ys_Outside_Array : PySem.W.subIn K (.ref c_Outside) (.ref c_Array) = some false)
    (ys_Outside_Kernel : PySem.W.subIn K (.ref c_Outside) (.ref c_Kernel) = some false)
    (ys_Cheapest_Same : PySem.W.subIn K (.ref c_Cheapest) (.ref c_Same) = some false)
    (ys_Cheapest_Unlike : PySem.W.subIn K (.ref c_Cheapest) (.ref c_Unlike) = some false)
    (ys_Cheapest_Apart : PySem.W.subIn K (.ref c_Cheapest) (.ref c_Apart) = some false)
    (ys_Cheapest_Within : PySem.W.subIn K (.ref c_Cheapest) (.ref c_Within) = some false)
    (ys_Cheapest_Outside : PySem.W.subIn K (.ref c_Cheapest) (.ref c_Outside) = some false)
    (ys_Cheapest_Array : PySem.W.subIn K (.ref c_Cheapest) (.ref c_Array) = some false)
    (ys_Cheapest_Kernel : PySem.W.subIn K (.ref c_Cheapest) (.ref c_Kernel) = some false)
    (ys_Array_Same : PySem.W.subIn K (.ref c_Array) (.ref c_Same) = some false)
    (ys_Array_Unlike : PySem.W.subIn K (.ref c_Array) (.ref c_Unlike) = some false)
    (ys_Array_Apart : PySem.W.subIn K (.ref c_Array) (.ref c_Apart) = some false)
    (ys_Array_Within : PySem.W.subIn K (.ref c_Array) (.ref c_Within) = some false)
    (ys_Array_Outside : PySem.W.subIn K (.ref c_Array) (.ref c_Outside) = some false)
    (ys_Array_Cheapest : PySem.W.subIn K (.ref c_Array) (.ref c_Cheapest) = some false)
    (ys_Array_Kernel : PySem.W.subIn K (.ref c_Array) (.ref c_Kernel) = some false)
    (ys_Kernel_Same : PySem.W.subIn K (.ref c_Kernel) (.ref c_Same) = some false)
    (ys_Kernel_Unlike : PySem.W.subIn K (.ref c_Kernel) (.ref c_Unlike) = some false)
    (ys_Kernel_Apart : PySem.W.subIn K (.ref c_Kernel) (.ref c_Apart) = some false)
    (ys_Kernel_Within : PySem.W.subIn K (.ref c_Kernel) (.ref c_Within) = some false)
    (ys_Kernel_Outside : PySem.W.subIn K (.ref c_Kernel) (.ref c_Outside) = some false)
    (ys_Kernel_Cheapest : PySem.W.subIn K (.ref c_Kernel) (.ref c_Cheapest) = some false)
    (ys_Kernel_Array : PySem.W.subIn K (.ref c_Kernel) (.ref c_Array) = some false)
    (ra_SieveError : PySem.W.readsIn K c_SieveError (.type "type") = true) (rb_SieveError : PySem.W.specialIn K (.ref c_SieveError) "__getattribute__" = some (some (.builtin "type.__getattribute__"))) (ri_SieveError : PySem.W.findCls K (.ref c_SieveError) (.type "type") "__init__" = some (.val (.builtin "ValueError.__init__"))) (yb_SieveError : PySem.W.subIn K (.ref c_SieveError) (.type "BaseException") = some true) (yh_SieveError : PySem.W.hasDictIn K c_SieveError = true) (yt_SieveError : PySem.W.typeIn K (.ref c_SieveError) = some (.type "type"))
    (xl_BadColumns : K.lookup c_BadColumns = some (excClassObj nm_BadColumns q_BadColumns c_BadColumns N_BadColumns bs_BadColumns bm_BadColumns true sn_BadColumns sub_BadColumns ab_BadColumns col_BadColumns dd_BadColumns k0_BadColumns k1_BadColumns k2_BadColumns k3_BadColumns k5_BadColumns "ValueError.__new__")) (xb_BadColumns : PySem.HandSPX.refsVE bm_BadColumns = true)
    (xs_BadColumns : PySem.W.findIn K (.ref c_BadColumns) "__setattr__" = some (some (.builtin "object.__setattr__"))) (xx_BadColumns : PySem.W.subIn K (.ref c_BadColumns) (.type "BaseException") = some true) (xy_BadColumns : PySem.W.typeIn K (.ref c_BadColumns) = some (.type "type")) (xc_BadColumns : PySem.W.keepIn K (.ref c_BadColumns) = true) (xt_BadColumns : PySem.W.typeIn K (.ref f5) = some (.type "function")) (xn_BadColumns : PySem.W.findIn K (.ref c_BadColumns) "part" = some none)
    (xg_BadColumns : PySem.W.findIn K (.ref c_BadColumns) "__getattribute__" = some (some (.builtin "BaseException.__getattribute__"))) (xh_BadColumns : PySem.W.findIn K (.ref c_BadColumns) "__getattr__" = some none) (xd_BadColumns : PySem.W.hasDictIn K c_BadColumns = true) (xv_BadColumns : PySem.W.subIn K (.ref c_BadColumns) (.ref c_BadColumns) = some true) (xw_BadColumns : PySem.W.subIn K (.ref c_BadColumns) (.ref c_SieveError) = some true)
    (xp_BadColumns : PySem.W.findIn K (.ref c_BadColumns) "__class__" = some (some (.builtin "object.__class__"))) (xq_BadColumns : PySem.W.specialIn K (.builtin "object.__class__") "__get__" = some (some (.builtin "getset_descriptor.__get__"))) (xr_BadColumns : PySem.W.takesIn K (.builtin "object.__class__") = some true) (xo_BadColumns : PySem.W.mroIn K c_BadColumns (.type "object") = some true)
    (xl_BadTable : K.lookup c_BadTable = some (excClassObj nm_BadTable q_BadTable c_BadTable N_BadTable bs_BadTable bm_BadTable true sn_BadTable sub_BadTable ab_BadTable col_BadTable dd_BadTable k0_BadTable k1_BadTable k2_BadTable k3_BadTable k5_BadTable "ValueError.__new__")) (xb_BadTable : PySem.HandSPX.refsVE bm_BadTable = true)
    (xs_BadTable : PySem.W.findIn K (.ref c_BadTable) "__setattr__" = some (some (.builtin "object.__setattr__"))) (xx_BadTable : PySem.W.subIn K (.ref c_BadTable) (.type "BaseException") = some true) (xy_BadTable : PySem.W.typeIn K (.ref c_BadTable) = some (.type "type")) (xc_BadTable : PySem.W.keepIn K (.ref c_BadTable) = true) (xt_BadTable : PySem.W.typeIn K (.ref f6) = some (.type "function")) (xn_BadTable : PySem.W.findIn K (.ref c_BadTable) "number" = some none)
    (xg_BadTable : PySem.W.findIn K (.ref c_BadTable) "__getattribute__" = some (some (.builtin "BaseException.__getattribute__"))) (xh_BadTable : PySem.W.findIn K (.ref c_BadTable) "__getattr__" = some none) (xd_BadTable : PySem.W.hasDictIn K c_BadTable = true) (xv_BadTable : PySem.W.subIn K (.ref c_BadTable) (.ref c_BadTable) = some true) (xw_BadTable : PySem.W.subIn K (.ref c_BadTable) (.ref c_SieveError) = some true)
    (xp_BadTable : PySem.W.findIn K (.ref c_BadTable) "__class__" = some (some (.builtin "object.__class__"))) (xq_BadTable : PySem.W.specialIn K (.builtin "object.__class__") "__get__" = some (some (.builtin "getset_descriptor.__get__"))) (xr_BadTable : PySem.W.takesIn K (.builtin "object.__class__") = some true) (xo_BadTable : PySem.W.mroIn K c_BadTable (.type "object") = some true)
    (yv_BadColumns : PySem.W.subIn K (.ref c_BadColumns) (.type "ValueError") = some true)
    (yz_BadColumns_BadTable : PySem.W.subIn K (.ref c_BadColumns) (.ref c_BadTable) = some false)
    (yv_BadTable : PySem.W.subIn K (.ref c_BadTable) (.type "ValueError") = some true)
    (yz_BadTable_BadColumns : PySem.W.subIn K (.ref c_BadTable) (.ref c_BadColumns) = some false)
    (g_MOST_ROWS : PySem.W.nsIn K mainGlobals "MOST_ROWS" = some (some (.int 60 t_MOST_ROWS)))
    (g_LETTERS : PySem.W.nsIn K mainGlobals "LETTERS" = some (some (.str "abcdefghijklmnopqrstuvwxyz" t_LETTERS)))
    (g_FAR : PySem.W.nsIn K mainGlobals "FAR" = some (some (.int 1000000 t_FAR)))
    (g_LONGEST_NAME : PySem.W.nsIn K mainGlobals "LONGEST_NAME" = some (some (.int 8 t_LONGEST_NAME)))
    (g_MOST_HASHED : PySem.W.nsIn K mainGlobals "MOST_HASHED" = some (some (.int 2 t_MOST_HASHED)))
    (g_MOST_ASKED : PySem.W.nsIn K mainGlobals "MOST_ASKED" = some (some (.int 4 t_MOST_ASKED)))
    (g_MOST_SUMMED : PySem.W.nsIn K mainGlobals "MOST_SUMMED" = some (some (.int 2 t_MOST_SUMMED)))
    (z_ValueError : PySem.W.nsIn K mainGlobals "ValueError" = some none)
    (z_isinstance : PySem.W.nsIn K mainGlobals "isinstance" = some none)
    (z_all : PySem.W.nsIn K mainGlobals "all" = some none)
    (z_str : PySem.W.nsIn K mainGlobals "str" = some none)
    (z_range : PySem.W.nsIn K mainGlobals "range" = some none)
    (z_int : PySem.W.nsIn K mainGlobals "int" = some none)
    (z_list : PySem.W.nsIn K mainGlobals "list" = some none)
    (z_tuple : PySem.W.nsIn K mainGlobals "tuple" = some none)
    (z_dict : PySem.W.nsIn K mainGlobals "dict" = some none)
    (z_enumerate : PySem.W.nsIn K mainGlobals "enumerate" = some none)
    (z_len : PySem.W.nsIn K mainGlobals "len" = some none)
    (z_bool : PySem.W.nsIn K mainGlobals "bool" = some none)
    (z_sorted : PySem.W.nsIn K mainGlobals "sorted" = some none)
    (z_set : PySem.W.nsIn K mainGlobals "set" = some none)
    (z_zip : PySem.W.nsIn K mainGlobals "zip" = some none)
    (a_RESERVED : PySem.W.nsIn K mainGlobals "RESERVED" = some (some (.ref g_RESERVED)))
    (l_RESERVED : K.lookup g_RESERVED = some ⟨.type "tuple", dd_RESERVED, .seq #[.str "row" t_RESERVED_0, .str "block" t_RESERVED_1, .str "hash" t_RESERVED_2, .str "not" t_RESERVED_3, .str "and" t_RESERVED_4, .str "or" t_RESERVED_5, .str "all" t_RESERVED_6, .str "none" t_RESERVED_7, .str "like" t_RESERVED_8] n_RESERVED, sl_RESERVED⟩) :
    ∃ fd : FuncData, (∀ (s : Shared) (v : Value), BindsTo s fd ⟨[v], []⟩ [("script", v)]) ∧ ∀ base : Heap, K.In base → base.Ns mainGlobals mg → FnOk l.prog w K mg base CX0 10 fa fd ["script"] (sp_law K) := by
  have e : fa = f43 := by
    have z := hfa.symm.trans (PySem.W.mg_of X G a43)
    injection z with z
    injection z
  let T : Txt K mg := {
    a_is_whole := f0
    d_is_whole := PySem.W.fnOf "is_whole" "is_whole" (defArgs s_is_whole) (defBody s_is_whole) (defScope s_is_whole) .none kV0 dc0 pm0 an0 cd0 ct0
    F_is_whole := fun_mk (st := s_is_whole) l0 c0 k0
    b_is_whole := (fun_mk (st := s_is_whole) l0 c0 k0).binds (ps := ["value"]) fun _ _ _ _ _ _ us hl => match us, hl with | [_], _ => rfl
    m_is_whole := PySem.W.mg_of X G a0
    a_is_between := f1
    d_is_between := PySem.W.fnOf "is_between" "is_between" (defArgs s_is_between) (defBody s_is_between) (defScope s_is_between) .none kV1 dc1 pm1 an1 cd1 ct1
    F_is_between := fun_mk (st := s_is_between) l1 c1 k1
    b_is_between := (fun_mk (st := s_is_between) l1 c1 k1).binds (ps := ["value", "low", "high"]) fun _ _ _ _ _ _ us hl => match us, hl with | [_, _, _], _ => rfl
    m_is_between := PySem.W.mg_of X G a1
    a_is_near := f2
    d_is_near := PySem.W.fnOf "is_near" "is_near" (defArgs s_is_near) (defBody s_is_near) (defScope s_is_near) .none kV2 dc2 pm2 an2 cd2 ct2
    F_is_near := fun_mk (st := s_is_near) l2 c2 k2
    b_is_near := (fun_mk (st := s_is_near) l2 c2 k2).binds (ps := ["value"]) fun _ _ _ _ _ _ us hl => match us, hl with | [_], _ => rfl
    m_is_near := PySem.W.mg_of X G a2
    a_is_row := f3
    d_is_row := PySem.W.fnOf "is_row" "is_row" (defArgs s_is_row) (defBody s_is_row) (defScope s_is_row) .none kV3 dc3 pm3 an3 cd3 ct3
    F_is_row := fun_mk (st := s_is_row) l3 c3 k3
    b_is_row := (fun_mk (st := s_is_row) l3 c3 k3).binds (ps := ["value"]) fun _ _ _ _ _ _ us hl => match us, hl with | [_], _ => rfl
    m_is_row := PySem.W.mg_of X G a3
    a_is_name := f4
    d_is_name := PySem.W.fnOf "is_name" "is_name" (defArgs s_is_name) (defBody s_is_name) (defScope s_is_name) .none kV4 dc4 pm4 an4 cd4 ct4
    F_is_name := fun_mk (st := s_is_name) l4 c4 k4
    b_is_name := (fun_mk (st := s_is_name) l4 c4 k4).binds (ps := ["value"]) fun _ _ _ _ _ _ us hl => match us, hl with | [_], _ => rfl
    m_is_name := PySem.W.mg_of X G a4
    a_BadColumns_init := f5
    d_BadColumns_init := PySem.W.fnOf "__init__" "BadColumns.__init__" (defArgs s_BadColumns_init) (defBody s_BadColumns_init) (defScope s_BadColumns_init) .none kV5 dc5 pm5 an5 cd5 ct5
    F_BadColumns_init := fun_mk (st := s_BadColumns_init) l5 c5 k5
    b_BadColumns_init := (fun_mk (st := s_BadColumns_init) l5 c5 k5).binds (ps := ["self", "part"]) fun _ _ _ _ _ _ us hl => match us, hl with | [_, _], _ => rfl
    a_BadTable_init := f6
    d_BadTable_init := PySem.W.fnOf "__init__" "BadTable.__init__" (defArgs s_BadTable_init) (defBody s_BadTable_init) (defScope s_BadTable_init) .none kV6 dc6 pm6 an6 cd6 ct6
    F_BadTable_init := fun_mk (st := s_BadTable_init) l6 c6 k6
    b_BadTable_init := (fun_mk (st := s_BadTable_init) l6 c6 k6).binds (ps := ["self", "number"]) fun _ _ _ _ _ _ us hl => match us, hl with | [_, _], _ => rfl
    a_Columns_init := f7
    d_Columns_init := PySem.W.fnOf "__init__" "Columns.__init__" (defArgs s_Columns_init) (defBody s_Columns_init) (defScope s_Columns_init) .none kV7 dc7 pm7 an7 cd7 ct7
    F_Columns_init := fun_mk (st := s_Columns_init) l7 c7 k7
    b_Columns_init := (fun_mk (st := s_Columns_init) l7 c7 k7).binds (ps := ["self", "hashed", "asked", "summed"]) fun _ _ _ _ _ _ us hl => match us, hl with | [_, _, _, _], _ => rfl
    a_Columns_asked := f8
    d_Columns_asked := PySem.W.fnOf "asked" "Columns.asked" (defArgs s_Columns_asked) (defBody s_Columns_asked) (defScope s_Columns_asked) .none kV8 dc8 pm8 an8 cd8 ct8
    F_Columns_asked := fun_mk (st := s_Columns_asked) l8 c8 k8
    b_Columns_asked := (fun_mk (st := s_Columns_asked) l8 c8 k8).binds (ps := ["self"]) fun _ _ _ _ _ _ us hl => match us, hl with | [_], _ => rfl
    a_Columns_eq := f9
    d_Columns_eq := PySem.W.fnOf "__eq__" "Columns.__eq__" (defArgs s_Columns_eq) (defBody s_Columns_eq) (defScope s_Columns_eq) .none kV9 dc9 pm9 an9 cd9 ct9
    F_Columns_eq := fun_mk (st := s_Columns_eq) l9 c9 k9
    b_Columns_eq := (fun_mk (st := s_Columns_eq) l9 c9 k9).binds (ps := ["self", "other"]) fun _ _ _ _ _ _ us hl => match us, hl with | [_, _], _ => rfl
    a_Table_init := f10
    d_Table_init := PySem.W.fnOf "__init__" "Table.__init__" (defArgs s_Table_init) (defBody s_Table_init) (defScope s_Table_init) .none kV10 dc10 pm10 an10 cd10 ct10
    F_Table_init := fun_mk (st := s_Table_init) l10 c10 k10
    b_Table_init := (fun_mk (st := s_Table_init) l10 c10 k10).binds (ps := ["self", "columns", "rows"]) fun _ _ _ _ _ _ us hl => match us, hl with | [_, _, _], _ => rfl
    a_Table_eq := f11
    d_Table_eq := PySem.W.fnOf "__eq__" "Table.__eq__" (defArgs s_Table_eq) (defBody s_Table_eq) (defScope s_Table_eq) .none kV11 dc11 pm11 an11 cd11 ct11
    F_Table_eq := fun_mk (st := s_Table_eq) l11 c11 k11
    b_Table_eq := (fun_mk (st := s_Table_eq) l11 c11 k11).binds (ps := ["self", "other"]) fun _ _ _ _ _ _ us hl => match us, hl with | [_, _], _ => rfl
    a_wrong_part := f12
    d_wrong_part := PySem.W.fnOf "wrong_part" "wrong_part" (defArgs s_wrong_part) (defBody s_wrong_part) (defScope s_wrong_part) .none kV12 dc12 pm12 an12 cd12 ct12
    F_wrong_part := fun_mk (st := s_wrong_part) l12 c12 k12
    b_wrong_part := (fun_mk (st := s_wrong_part) l12 c12 k12).binds (ps := ["hashed", "asked", "summed"]) fun _ _ _ _ _ _ us hl => match us, hl with | [_, _, _], _ => rfl
    m_wrong_part := PySem.W.mg_of X G a12
    a_are_names := f13
    d_are_names := PySem.W.fnOf "are_names" "are_names" (defArgs s_are_names) (defBody s_are_names) (defScope s_are_names) .none kV13 dc13 pm13 an13 cd13 ct13
    F_are_names := fun_mk (st := s_are_names) l13 c13 k13
    b_are_names := (fun_mk (st := s_are_names) l13 c13 k13).binds (ps := ["row", "most"]) fun _ _ _ _ _ _ us hl => match us, hl with | [_, _], _ => rfl
    m_are_names := PySem.W.mg_of X G a13
    a_are_asked := f14
    d_are_asked := PySem.W.fnOf "are_asked" "are_asked" (defArgs s_are_asked) (defBody s_are_asked) (defScope s_are_asked) .none kV14 dc14 pm14 an14 cd14 ct14
    F_are_asked := fun_mk (st := s_are_asked) l14 c14 k14
    b_are_asked := (fun_mk (st := s_are_asked) l14 c14 k14).binds (ps := ["asked"]) fun _ _ _ _ _ _ us hl => match us, hl with | [_], _ => rfl
    m_are_asked := PySem.W.mg_of X G a14
    a_is_table_row := f15
    d_is_table_row := PySem.W.fnOf "is_table_row" "is_table_row" (defArgs s_is_table_row) (defBody s_is_table_row) (defScope s_is_table_row) .none kV15 dc15 pm15 an15 cd15 ct15
    F_is_table_row := fun_mk (st := s_is_table_row) l15 c15 k15
    b_is_table_row := (fun_mk (st := s_is_table_row) l15 c15 k15).binds (ps := ["columns", "row"]) fun _ _ _ _ _ _ us hl => match us, hl with | [_, _], _ => rfl
    m_is_table_row := PySem.W.mg_of X G a15
    a_are_numbers := f16
    d_are_numbers := PySem.W.fnOf "are_numbers" "are_numbers" (defArgs s_are_numbers) (defBody s_are_numbers) (defScope s_are_numbers) .none kV16 dc16 pm16 an16 cd16 ct16
    F_are_numbers := fun_mk (st := s_are_numbers) l16 c16 k16
    b_are_numbers := (fun_mk (st := s_are_numbers) l16 c16 k16).binds (ps := ["numbers", "many"]) fun _ _ _ _ _ _ us hl => match us, hl with | [_, _], _ => rfl
    m_are_numbers := PySem.W.mg_of X G a16
    a_are_values := f17
    d_are_values := PySem.W.fnOf "are_values" "are_values" (defArgs s_are_values) (defBody s_are_values) (defScope s_are_values) .none kV17 dc17 pm17 an17 cd17 ct17
    F_are_values := fun_mk (st := s_are_values) l17 c17 k17
    b_are_values := (fun_mk (st := s_are_values) l17 c17 k17).binds (ps := ["values", "kinds"]) fun _ _ _ _ _ _ us hl => match us, hl with | [_, _], _ => rfl
    m_are_values := PySem.W.mg_of X G a17
    a_is_value := f18
    d_is_value := PySem.W.fnOf "is_value" "is_value" (defArgs s_is_value) (defBody s_is_value) (defScope s_is_value) .none kV18 dc18 pm18 an18 cd18 ct18
    F_is_value := fun_mk (st := s_is_value) l18 c18 k18
    b_is_value := (fun_mk (st := s_is_value) l18 c18 k18).binds (ps := ["value", "kind"]) fun _ _ _ _ _ _ us hl => match us, hl with | [_, _], _ => rfl
    m_is_value := PySem.W.mg_of X G a18
    a_Kernel_init := f19
    d_Kernel_init := PySem.W.fnOf "__init__" "Kernel.__init__" (defArgs s_Kernel_init) (defBody s_Kernel_init) (defScope s_Kernel_init) .none kV19 dc19 pm19 an19 cd19 ct19
    F_Kernel_init := fun_mk (st := s_Kernel_init) l19 c19 k19
    b_Kernel_init := (fun_mk (st := s_Kernel_init) l19 c19 k19).binds (ps := ["self", "weights", "functions"]) fun _ _ _ _ _ _ us hl => match us, hl with | [_, _, _], _ => rfl
    a_Kernel_eq := f20
    d_Kernel_eq := PySem.W.fnOf "__eq__" "Kernel.__eq__" (defArgs s_Kernel_eq) (defBody s_Kernel_eq) (defScope s_Kernel_eq) .none kV20 dc20 pm20 an20 cd20 ct20
    F_Kernel_eq := fun_mk (st := s_Kernel_eq) l20 c20 k20
    b_Kernel_eq := (fun_mk (st := s_Kernel_eq) l20 c20 k20).binds (ps := ["self", "other"]) fun _ _ _ _ _ _ us hl => match us, hl with | [_, _], _ => rfl
    a_Array_init := f21
    d_Array_init := PySem.W.fnOf "__init__" "Array.__init__" (defArgs s_Array_init) (defBody s_Array_init) (defScope s_Array_init) .none kV21 dc21 pm21 an21 cd21 ct21
    F_Array_init := fun_mk (st := s_Array_init) l21 c21 k21
    b_Array_init := (fun_mk (st := s_Array_init) l21 c21 k21).binds (ps := ["self", "sizes", "entries"]) fun _ _ _ _ _ _ us hl => match us, hl with | [_, _, _], _ => rfl
    a_Array_eq := f22
    d_Array_eq := PySem.W.fnOf "__eq__" "Array.__eq__" (defArgs s_Array_eq) (defBody s_Array_eq) (defScope s_Array_eq) .none kV22 dc22 pm22 an22 cd22 ct22
    F_Array_eq := fun_mk (st := s_Array_eq) l22 c22 k22
    b_Array_eq := (fun_mk (st := s_Array_eq) l22 c22 k22).binds (ps := ["self", "other"]) fun _ _ _ _ _ _ us hl => match us, hl with | [_, _], _ => rfl
    a_Same_init := f23
    d_Same_init := PySem.W.fnOf "__init__" "Same.__init__" (defArgs s_Same_init) (defBody s_Same_init) (defScope s_Same_init) .none kV23 dc23 pm23 an23 cd23 ct23
    F_Same_init := fun_mk (st := s_Same_init) l23 c23 k23
    b_Same_init := (fun_mk (st := s_Same_init) l23 c23 k23).binds (ps := ["self", "maps"]) fun _ _ _ _ _ _ us hl => match us, hl with | [_, _], _ => rfl
    a_Same_bool := f24
    d_Same_bool := PySem.W.fnOf "__bool__" "Same.__bool__" (defArgs s_Same_bool) (defBody s_Same_bool) (defScope s_Same_bool) .none kV24 dc24 pm24 an24 cd24 ct24
    F_Same_bool := fun_mk (st := s_Same_bool) l24 c24 k24
    b_Same_bool := (fun_mk (st := s_Same_bool) l24 c24 k24).binds (ps := ["self"]) fun _ _ _ _ _ _ us hl => match us, hl with | [_], _ => rfl
    a_Same_eq := f25
    d_Same_eq := PySem.W.fnOf "__eq__" "Same.__eq__" (defArgs s_Same_eq) (defBody s_Same_eq) (defScope s_Same_eq) .none kV25 dc25 pm25 an25 cd25 ct25
    F_Same_eq := fun_mk (st := s_Same_eq) l25 c25 k25
    b_Same_eq := (fun_mk (st := s_Same_eq) l25 c25 k25).binds (ps := ["self", "other"]) fun _ _ _ _ _ _ us hl => match us, hl with | [_, _], _ => rfl
    a_Unlike_init := f26
    d_Unlike_init := PySem.W.fnOf "__init__" "Unlike.__init__" (defArgs s_Unlike_init) (defBody s_Unlike_init) (defScope s_Unlike_init) .none kV26 dc26 pm26 an26 cd26 ct26
    F_Unlike_init := fun_mk (st := s_Unlike_init) l26 c26 k26
    b_Unlike_init := (fun_mk (st := s_Unlike_init) l26 c26 k26).binds (ps := ["self", "which", "chosen", "chances"]) fun _ _ _ _ _ _ us hl => match us, hl with | [_, _, _, _], _ => rfl
    a_Unlike_bool := f27
    d_Unlike_bool := PySem.W.fnOf "__bool__" "Unlike.__bool__" (defArgs s_Unlike_bool) (defBody s_Unlike_bool) (defScope s_Unlike_bool) .none kV27 dc27 pm27 an27 cd27 ct27
    F_Unlike_bool := fun_mk (st := s_Unlike_bool) l27 c27 k27
    b_Unlike_bool := (fun_mk (st := s_Unlike_bool) l27 c27 k27).binds (ps := ["self"]) fun _ _ _ _ _ _ us hl => match us, hl with | [_], _ => rfl
    a_Unlike_eq := f28
    d_Unlike_eq := PySem.W.fnOf "__eq__" "Unlike.__eq__" (defArgs s_Unlike_eq) (defBody s_Unlike_eq) (defScope s_Unlike_eq) .none kV28 dc28 pm28 an28 cd28 ct28
    F_Unlike_eq := fun_mk (st := s_Unlike_eq) l28 c28 k28
    b_Unlike_eq := (fun_mk (st := s_Unlike_eq) l28 c28 k28).binds (ps := ["self", "other"]) fun _ _ _ _ _ _ us hl => match us, hl with | [_, _], _ => rfl
    a_Apart_init := f29
    d_Apart_init := PySem.W.fnOf "__init__" "Apart.__init__" (defArgs s_Apart_init) (defBody s_Apart_init) (defScope s_Apart_init) .none kV29 dc29 pm29 an29 cd29 ct29
    F_Apart_init := fun_mk (st := s_Apart_init) l29 c29 k29
    b_Apart_init := (fun_mk (st := s_Apart_init) l29 c29 k29).binds (ps := ["self", "table", "chances"]) fun _ _ _ _ _ _ us hl => match us, hl with | [_, _, _], _ => rfl
    a_Apart_eq := f30
    d_Apart_eq := PySem.W.fnOf "__eq__" "Apart.__eq__" (defArgs s_Apart_eq) (defBody s_Apart_eq) (defScope s_Apart_eq) .none kV30 dc30 pm30 an30 cd30 ct30
    F_Apart_eq := fun_mk (st := s_Apart_eq) l30 c30 k30
    b_Apart_eq := (fun_mk (st := s_Apart_eq) l30 c30 k30).binds (ps := ["self", "other"]) fun _ _ _ _ _ _ us hl => match us, hl with | [_, _], _ => rfl
    a_Within_bool := f31
    d_Within_bool := PySem.W.fnOf "__bool__" "Within.__bool__" (defArgs s_Within_bool) (defBody s_Within_bool) (defScope s_Within_bool) .none kV31 dc31 pm31 an31 cd31 ct31
    F_Within_bool := fun_mk (st := s_Within_bool) l31 c31 k31
    b_Within_bool := (fun_mk (st := s_Within_bool) l31 c31 k31).binds (ps := ["self"]) fun _ _ _ _ _ _ us hl => match us, hl with | [_], _ => rfl
    a_Within_eq := f32
    d_Within_eq := PySem.W.fnOf "__eq__" "Within.__eq__" (defArgs s_Within_eq) (defBody s_Within_eq) (defScope s_Within_eq) .none kV32 dc32 pm32 an32 cd32 ct32
    F_Within_eq := fun_mk (st := s_Within_eq) l32 c32 k32
    b_Within_eq := (fun_mk (st := s_Within_eq) l32 c32 k32).binds (ps := ["self", "other"]) fun _ _ _ _ _ _ us hl => match us, hl with | [_, _], _ => rfl
    a_Outside_init := f33
    d_Outside_init := PySem.W.fnOf "__init__" "Outside.__init__" (defArgs s_Outside_init) (defBody s_Outside_init) (defScope s_Outside_init) .none kV33 dc33 pm33 an33 cd33 ct33
    F_Outside_init := fun_mk (st := s_Outside_init) l33 c33 k33
    b_Outside_init := (fun_mk (st := s_Outside_init) l33 c33 k33).binds (ps := ["self", "row", "draws"]) fun _ _ _ _ _ _ us hl => match us, hl with | [_, _, _], _ => rfl
    a_Outside_bool := f34
    d_Outside_bool := PySem.W.fnOf "__bool__" "Outside.__bool__" (defArgs s_Outside_bool) (defBody s_Outside_bool) (defScope s_Outside_bool) .none kV34 dc34 pm34 an34 cd34 ct34
    F_Outside_bool := fun_mk (st := s_Outside_bool) l34 c34 k34
    b_Outside_bool := (fun_mk (st := s_Outside_bool) l34 c34 k34).binds (ps := ["self"]) fun _ _ _ _ _ _ us hl => match us, hl with | [_], _ => rfl
    a_Outside_eq := f35
    d_Outside_eq := PySem.W.fnOf "__eq__" "Outside.__eq__" (defArgs s_Outside_eq) (defBody s_Outside_eq) (defScope s_Outside_eq) .none kV35 dc35 pm35 an35 cd35 ct35
    F_Outside_eq := fun_mk (st := s_Outside_eq) l35 c35 k35
    b_Outside_eq := (fun_mk (st := s_Outside_eq) l35 c35 k35).binds (ps := ["self", "other"]) fun _ _ _ _ _ _ us hl => match us, hl with | [_, _], _ => rfl
    a_Cheapest_init := f36
    d_Cheapest_init := PySem.W.fnOf "__init__" "Cheapest.__init__" (defArgs s_Cheapest_init) (defBody s_Cheapest_init) (defScope s_Cheapest_init) .none kV36 dc36 pm36 an36 cd36 ct36
    F_Cheapest_init := fun_mk (st := s_Cheapest_init) l36 c36 k36
    b_Cheapest_init := (fun_mk (st := s_Cheapest_init) l36 c36 k36).binds (ps := ["self", "number", "paper", "against"]) fun _ _ _ _ _ _ us hl => match us, hl with | [_, _, _, _], _ => rfl
    a_Cheapest_bool := f37
    d_Cheapest_bool := PySem.W.fnOf "__bool__" "Cheapest.__bool__" (defArgs s_Cheapest_bool) (defBody s_Cheapest_bool) (defScope s_Cheapest_bool) .none kV37 dc37 pm37 an37 cd37 ct37
    F_Cheapest_bool := fun_mk (st := s_Cheapest_bool) l37 c37 k37
    b_Cheapest_bool := (fun_mk (st := s_Cheapest_bool) l37 c37 k37).binds (ps := ["self"]) fun _ _ _ _ _ _ us hl => match us, hl with | [_], _ => rfl
    a_Cheapest_eq := f38
    d_Cheapest_eq := PySem.W.fnOf "__eq__" "Cheapest.__eq__" (defArgs s_Cheapest_eq) (defBody s_Cheapest_eq) (defScope s_Cheapest_eq) .none kV38 dc38 pm38 an38 cd38 ct38
    F_Cheapest_eq := fun_mk (st := s_Cheapest_eq) l38 c38 k38
    b_Cheapest_eq := (fun_mk (st := s_Cheapest_eq) l38 c38 k38).binds (ps := ["self", "other"]) fun _ _ _ _ _ _ us hl => match us, hl with | [_, _], _ => rfl
    a__law_number := f39
    d__law_number := PySem.W.fnOf "_law_number" "_law_number" (defArgs s__law_number) (defBody s__law_number) (defScope s__law_number) .none kV39 dc39 pm39 an39 cd39 ct39
    F__law_number := fun_mk (st := s__law_number) l39 c39 k39
    b__law_number := (fun_mk (st := s__law_number) l39 c39 k39).binds (ps := ["script", "index"]) fun _ _ _ _ _ _ us hl => match us, hl with | [_, _], _ => rfl
    m__law_number := PySem.W.mg_of X G a39
    a__law_take := f40
    d__law_take := PySem.W.fnOf "_law_take" "_law_take" (defArgs s__law_take) (defBody s__law_take) (defScope s__law_take) .none kV40 dc40 pm40 an40 cd40 ct40
    F__law_take := fun_mk (st := s__law_take) l40 c40 k40
    b__law_take := (fun_mk (st := s__law_take) l40 c40 k40).binds (ps := ["draw", "many"]) fun _ _ _ _ _ _ us hl => match us, hl with | [_, _], _ => rfl
    m__law_take := PySem.W.mg_of X G a40
    a__law_made := f41
    d__law_made := PySem.W.fnOf "_law_made" "_law_made" (defArgs s__law_made) (defBody s__law_made) (defScope s__law_made) .none kV41 dc41 pm41 an41 cd41 ct41
    F__law_made := fun_mk (st := s__law_made) l41 c41 k41
    b__law_made := (fun_mk (st := s__law_made) l41 c41 k41).binds (ps := ["draw", "kind"]) fun _ _ _ _ _ _ us hl => match us, hl with | [_, _], _ => rfl
    m__law_made := PySem.W.mg_of X G a41
    a__law_told := f42
    d__law_told := PySem.W.fnOf "_law_told" "_law_told" (defArgs s__law_told) (defBody s__law_told) (defScope s__law_told) .none kV42 dc42 pm42 an42 cd42 ct42
    F__law_told := fun_mk (st := s__law_told) l42 c42 k42
    b__law_told := (fun_mk (st := s__law_told) l42 c42 k42).binds (ps := ["kind", "one"]) fun _ _ _ _ _ _ us hl => match us, hl with | [_, _], _ => rfl
    m__law_told := PySem.W.mg_of X G a42
    a_law := f43
    d_law := PySem.W.fnOf "law" "law" (defArgs s_law) (defBody s_law) (defScope s_law) .none kV43 dc43 pm43 an43 cd43 ct43
    F_law := fun_mk (st := s_law) l43 c43 k43
    b_law := (fun_mk (st := s_law) l43 c43 k43).binds (ps := ["script"]) fun _ _ _ _ _ _ us hl => match us, hl with | [_], _ => rfl
    m_law := PySem.W.mg_of X G a43
    c_Columns := c_Columns
    m_Columns := PySem.W.mg_of X G ac_Columns
    c_Table := c_Table
    m_Table := PySem.W.mg_of X G ac_Table
    c_Kernel := c_Kernel
    m_Kernel := PySem.W.mg_of X G ac_Kernel
    c_Array := c_Array
    m_Array := PySem.W.mg_of X G ac_Array
    c_Same := c_Same
    m_Same := PySem.W.mg_of X G ac_Same
    c_Unlike := c_Unlike
    m_Unlike := PySem.W.mg_of X G ac_Unlike
    c_Apart := c_Apart
    m_Apart := PySem.W.mg_of X G ac_Apart
    c_Within := c_Within
    m_Within := PySem.W.mg_of X G ac_Within
    c_Outside := c_Outside
    m_Outside := PySem.W.mg_of X G ac_Outside
    c_Cheapest := c_Cheapest
    m_Cheapest := PySem.W.mg_of X G ac_Cheapest
    c_SieveError := c_SieveError
    m_SieveError := PySem.W.mg_of X G ac_SieveError
    c_BadColumns := c_BadColumns
    m_BadColumns := PySem.W.mg_of X G ac_BadColumns
    c_BadTable := c_BadTable
    m_BadTable := PySem.W.mg_of X G ac_BadTable
    cl_Columns := ⟨pg_Columns, hd_Columns, po_Columns, sa_Columns⟩
    mk_Columns := ⟨mk_Columns, a7, fn_Columns, kc_Columns⟩
    n_Columns_hashed := n_Columns_hashed
    n_Columns__asked := n_Columns__asked
    n_Columns_summed := n_Columns_summed
    q_Columns_eq := ⟨a9, w9, k9⟩
    ne_Columns := ne_Columns
    mo_Columns := mo_Columns
    ty_Columns := fun e => .base (.ins e ⟨pg_Columns, hd_Columns, po_Columns, sa_Columns⟩ xp_Columns xq_Columns xr_Columns mo_Columns)
    o_Columns_asked := o_Columns_asked
    p_Columns_asked := ⟨pa_Columns_asked, pb_Columns_asked, pc_Columns_asked, ⟨_, pd_Columns_asked⟩⟩
    cl_Table := ⟨pg_Table, hd_Table, po_Table, sa_Table⟩
    mk_Table := ⟨mk_Table, a10, fn_Table, kc_Table⟩
    n_Table_columns := n_Table_columns
    n_Table_rows := n_Table_rows
    q_Table_eq := ⟨a11, w11, k11⟩
    ne_Table := ne_Table
    mo_Table := mo_Table
    ty_Table := fun e => .base (.ins e ⟨pg_Table, hd_Table, po_Table, sa_Table⟩ xp_Table xq_Table xr_Table mo_Table)
    cl_Kernel := ⟨pg_Kernel, hd_Kernel, po_Kernel, sa_Kernel⟩
    mk_Kernel := ⟨mk_Kernel, a19, fn_Kernel, kc_Kernel⟩
    kt_Kernel := ⟨cls_some hd_Kernel, ke_Kernel, kf_Kernel⟩
    n_Kernel_weights := n_Kernel_weights
    n_Kernel_functions := n_Kernel_functions
    q_Kernel_eq := ⟨a20, w20, k20⟩
    ne_Kernel := ne_Kernel
    mo_Kernel := mo_Kernel
    ty_Kernel := fun e => .base (.ins e ⟨pg_Kernel, hd_Kernel, po_Kernel, sa_Kernel⟩ xp_Kernel xq_Kernel xr_Kernel mo_Kernel)
    cl_Array := ⟨pg_Array, hd_Array, po_Array, sa_Array⟩
    mk_Array := ⟨mk_Array, a21, fn_Array, kc_Array⟩
    kt_Array := ⟨cls_some hd_Array, ke_Array, kf_Array⟩
    n_Array_sizes := n_Array_sizes
    n_Array_entries := n_Array_entries
    q_Array_eq := ⟨a22, w22, k22⟩
    ne_Array := ne_Array
    mo_Array := mo_Array
    ty_Array := fun e => .base (.ins e ⟨pg_Array, hd_Array, po_Array, sa_Array⟩ xp_Array xq_Array xr_Array mo_Array)
    cl_Same := ⟨pg_Same, hd_Same, po_Same, sa_Same⟩
    mk_Same := ⟨mk_Same, a23, fn_Same, kc_Same⟩
    kt_Same := ⟨cls_some hd_Same, ke_Same, kf_Same⟩
    n_Same_maps := n_Same_maps
    q_Same_eq := ⟨a25, w25, k25⟩
    q_Same_bool := ⟨a24, w24, k24⟩
    ne_Same := ne_Same
    mo_Same := mo_Same
    ty_Same := fun e => .base (.ins e ⟨pg_Same, hd_Same, po_Same, sa_Same⟩ xp_Same xq_Same xr_Same mo_Same)
    cl_Unlike := ⟨pg_Unlike, hd_Unlike, po_Unlike, sa_Unlike⟩
    mk_Unlike := ⟨mk_Unlike, a26, fn_Unlike, kc_Unlike⟩
    kt_Unlike := ⟨cls_some hd_Unlike, ke_Unlike, kf_Unlike⟩
    n_Unlike_which := n_Unlike_which
    n_Unlike_chosen := n_Unlike_chosen
    n_Unlike_chances := n_Unlike_chances
    q_Unlike_eq := ⟨a28, w28, k28⟩
    q_Unlike_bool := ⟨a27, w27, k27⟩
    ne_Unlike := ne_Unlike
    mo_Unlike := mo_Unlike
    ty_Unlike := fun e => .base (.ins e ⟨pg_Unlike, hd_Unlike, po_Unlike, sa_Unlike⟩ xp_Unlike xq_Unlike xr_Unlike mo_Unlike)
    cl_Apart := ⟨pg_Apart, hd_Apart, po_Apart, sa_Apart⟩
    mk_Apart := ⟨mk_Apart, a29, fn_Apart, kc_Apart⟩
    kt_Apart := ⟨cls_some hd_Apart, ke_Apart, kf_Apart⟩
    n_Apart_table := n_Apart_table
    n_Apart_chances := n_Apart_chances
    q_Apart_eq := ⟨a30, w30, k30⟩
    ne_Apart := ne_Apart
    mo_Apart := mo_Apart
    ty_Apart := fun e => .base (.ins e ⟨pg_Apart, hd_Apart, po_Apart, sa_Apart⟩ xp_Apart xq_Apart xr_Apart mo_Apart)
    cl_Within := ⟨pg_Within, hd_Within, po_Within, sa_Within⟩
    mk0_Within := ⟨mk_Within, mi_Within, mo_Within, kc_Within⟩
    kt_Within := ⟨cls_some hd_Within, ke_Within, kf_Within⟩
    q_Within_eq := ⟨a32, w32, k32⟩
    q_Within_bool := ⟨a31, w31, k31⟩
    ne_Within := ne_Within
    mo_Within := mo_Within
    ty_Within := fun e => .base (.ins e ⟨pg_Within, hd_Within, po_Within, sa_Within⟩ xp_Within xq_Within xr_Within mo_Within)
    cl_Outside := ⟨pg_Outside, hd_Outside, po_Outside, sa_Outside⟩
    mk_Outside := ⟨mk_Outside, a33, fn_Outside, kc_Outside⟩
    kt_Outside := ⟨cls_some hd_Outside, ke_Outside, kf_Outside⟩
    n_Outside_row := n_Outside_row
    n_Outside_draws := n_Outside_draws
    q_Outside_eq := ⟨a35, w35, k35⟩
    q_Outside_bool := ⟨a34, w34, k34⟩
    ne_Outside := ne_Outside
    mo_Outside := mo_Outside
    ty_Outside := fun e => .base (.ins e ⟨pg_Outside, hd_Outside, po_Outside, sa_Outside⟩ xp_Outside xq_Outside xr_Outside mo_Outside)
    cl_Cheapest := ⟨pg_Cheapest, hd_Cheapest, po_Cheapest, sa_Cheapest⟩
    mk_Cheapest := ⟨mk_Cheapest, a36, fn_Cheapest, kc_Cheapest⟩
    kt_Cheapest := ⟨cls_some hd_Cheapest, ke_Cheapest, kf_Cheapest⟩
    n_Cheapest_number := n_Cheapest_number
    n_Cheapest_paper := n_Cheapest_paper
    n_Cheapest_against := n_Cheapest_against
    q_Cheapest_eq := ⟨a38, w38, k38⟩
    q_Cheapest_bool := ⟨a37, w37, k37⟩
    ne_Cheapest := ne_Cheapest
    mo_Cheapest := mo_Cheapest
    ty_Cheapest := fun e => .base (.ins e ⟨pg_Cheapest, hd_Cheapest, po_Cheapest, sa_Cheapest⟩ xp_Cheapest xq_Cheapest xr_Cheapest mo_Cheapest)
    ys_Same_Unlike := ys_Same_Unlike
    ys_Same_Apart := ys_Same_Apart
    ys_Same_Within := ys_Same_Within
    ys_Same_Outside := ys_Same_Outside
    ys_Same_Cheapest := ys_Same_Cheapest
    ys_Same_Array := ys_Same_Array
    ys_Same_Kernel := ys_Same_Kernel
    ys_Unlike_Same := ys_Unlike_Same
    ys_Unlike_Apart := ys_Unlike_Apart
    ys_Unlike_Within := ys_Unlike_Within
    ys_Unlike_Outside := ys_Unlike_Outside
    ys_Unlike_Cheapest := ys_Unlike_Cheapest
    ys_Unlike_Array := ys_Unlike_Array
    ys_Unlike_Kernel := ys_Unlike_Kernel
    ys_Apart_Same := ys_Apart_Same
    ys_Apart_Unlike := ys_Apart_Unlike
    ys_Apart_Within := ys_Apart_Within
    ys_Apart_Outside := ys_Apart_Outside
    ys_Apart_Cheapest := ys_Apart_Cheapest
    ys_Apart_Array := ys_Apart_Array
    ys_Apart_Kernel := ys_Apart_Kernel
    ys_Within_Same := ys_Within_Same
    ys_Within_Unlike := ys_Within_Unlike
    ys_Within_Apart := ys_Within_Apart
    ys_Within_Outside := ys_Within_Outside
    ys_Within_Cheapest := ys_Within_Cheapest
    ys_Within_Array := ys_Within_Array
    ys_Within_Kernel := ys_Within_Kernel
    ys_Outside_Same := ys_Outside_Same
    ys_Outside_Unlike := ys_Outside_Unlike
    ys_Outside_Apart := ys_Outside_Apart
    ys_Outside_Within := ys_Outside_Within
    ys_Outside_Cheapest := ys_Outside_Cheapest
    ys_Outside_Array := ys_Outside_Array
    ys_Outside_Kernel := ys_Outside_Kernel
    ys_Cheapest_Same := ys_Cheapest_Same
    ys_Cheapest_Unlike := ys_Cheapest_Unlike
    ys_Cheapest_Apart := ys_Cheapest_Apart
    ys_Cheapest_Within := ys_Cheapest_Within
    ys_Cheapest_Outside := ys_Cheapest_Outside
    ys_Cheapest_Array := ys_Cheapest_Array
    ys_Cheapest_Kernel := ys_Cheapest_Kernel
    ys_Array_Same := ys_Array_Same
    ys_Array_Unlike := ys_Array_Unlike
    ys_Array_Apart := ys_Array_Apart
    ys_Array_Within := ys_Array_Within
    ys_Array_Outside := ys_Array_Outside
    ys_Array_Cheapest := ys_Array_Cheapest
    ys_Array_Kernel := ys_Array_Kernel
    ys_Kernel_Same := ys_Kernel_Same
    ys_Kernel_Unlike := ys_Kernel_Unlike
    ys_Kernel_Apart := ys_Kernel_Apart
    ys_Kernel_Within := ys_Kernel_Within
    ys_Kernel_Outside := ys_Kernel_Outside
    ys_Kernel_Cheapest := ys_Kernel_Cheapest
    ys_Kernel_Array := ys_Kernel_Array
    r_SieveError := ⟨ra_SieveError, rb_SieveError⟩
    i_SieveError := ri_SieveError
    x_BadColumns := ⟨⟨_, _, _, _, _, _, _, _, _, _, _, _, _, _, _, xl_BadColumns, xb_BadColumns⟩, xs_BadColumns, xx_BadColumns, xy_BadColumns, xc_BadColumns⟩
    xi_BadColumns := a5
    xt_BadColumns := xt_BadColumns
    xn_BadColumns := xn_BadColumns
    xf_BadColumns := ⟨xg_BadColumns, xh_BadColumns, xx_BadColumns, xd_BadColumns⟩
    xm_BadColumns := PySem.W.exm_ref xx_BadColumns xd_BadColumns xy_BadColumns xv_BadColumns
    xe_BadColumns := ⟨xg_BadColumns, xh_BadColumns, xx_BadColumns, xd_BadColumns, xp_BadColumns, xq_BadColumns, xr_BadColumns, xo_BadColumns⟩
    xk_BadColumns := kit_of_exm (PySem.W.exm_ref yb_SieveError yh_SieveError yt_SieveError xw_BadColumns)
    x_BadTable := ⟨⟨_, _, _, _, _, _, _, _, _, _, _, _, _, _, _, xl_BadTable, xb_BadTable⟩, xs_BadTable, xx_BadTable, xy_BadTable, xc_BadTable⟩
    xi_BadTable := a6
    xt_BadTable := xt_BadTable
    xn_BadTable := xn_BadTable
    xf_BadTable := ⟨xg_BadTable, xh_BadTable, xx_BadTable, xd_BadTable⟩
    xm_BadTable := PySem.W.exm_ref xx_BadTable xd_BadTable xy_BadTable xv_BadTable
    xe_BadTable := ⟨xg_BadTable, xh_BadTable, xx_BadTable, xd_BadTable, xp_BadTable, xq_BadTable, xr_BadTable, xo_BadTable⟩
    xk_BadTable := kit_of_exm (PySem.W.exm_ref yb_SieveError yh_SieveError yt_SieveError xw_BadTable)
    yv_BadColumns := kit_value yv_BadColumns
    yz_BadColumns_BadTable := PySem.W.exm_ref xx_BadTable xd_BadTable xy_BadTable yz_BadColumns_BadTable
    yv_BadTable := kit_value yv_BadTable
    yz_BadTable_BadColumns := PySem.W.exm_ref xx_BadColumns xd_BadColumns xy_BadColumns yz_BadTable_BadColumns
    t_MOST_ROWS := t_MOST_ROWS
    m_MOST_ROWS := PySem.W.mg_of X G g_MOST_ROWS
    t_LETTERS := t_LETTERS
    m_LETTERS := PySem.W.mg_of X G g_LETTERS
    t_FAR := t_FAR
    m_FAR := PySem.W.mg_of X G g_FAR
    t_LONGEST_NAME := t_LONGEST_NAME
    m_LONGEST_NAME := PySem.W.mg_of X G g_LONGEST_NAME
    t_MOST_HASHED := t_MOST_HASHED
    m_MOST_HASHED := PySem.W.mg_of X G g_MOST_HASHED
    t_MOST_ASKED := t_MOST_ASKED
    m_MOST_ASKED := PySem.W.mg_of X G g_MOST_ASKED
    t_MOST_SUMMED := t_MOST_SUMMED
    m_MOST_SUMMED := PySem.W.mg_of X G g_MOST_SUMMED
    z_ValueError := PySem.W.mg_none_of X G z_ValueError
    z_isinstance := PySem.W.mg_none_of X G z_isinstance
    z_all := PySem.W.mg_none_of X G z_all
    z_str := PySem.W.mg_none_of X G z_str
    z_range := PySem.W.mg_none_of X G z_range
    z_int := PySem.W.mg_none_of X G z_int
    z_list := PySem.W.mg_none_of X G z_list
    z_tuple := PySem.W.mg_none_of X G z_tuple
    z_dict := PySem.W.mg_none_of X G z_dict
    z_enumerate := PySem.W.mg_none_of X G z_enumerate
    z_len := PySem.W.mg_none_of X G z_len
    z_bool := PySem.W.mg_none_of X G z_bool
    z_sorted := PySem.W.mg_none_of X G z_sorted
    z_set := PySem.W.mg_none_of X G z_set
    z_zip := PySem.W.mg_none_of X G z_zip
    a_RESERVED := g_RESERVED
    m_RESERVED := PySem.W.mg_of X G a_RESERVED
    q_RESERVED := fun H => .inr ⟨_, _, _, l_RESERVED, rfl, rfl, (by show 9 ≤ sizeLine; decide), (.cons ⟨_, rfl⟩ (.cons ⟨_, rfl⟩ (.cons ⟨_, rfl⟩ (.cons ⟨_, rfl⟩ (.cons ⟨_, rfl⟩ (.cons ⟨_, rfl⟩ (.cons ⟨_, rfl⟩ (.cons ⟨_, rfl⟩ (.cons ⟨_, rfl⟩ .nil)))))))))⟩ }
  rw [e]
  exact ⟨T.d_law, fun s v => .of_eq rfl, fun base _ _ => ok_law (P := l.prog) (w := w) (base := base) T⟩
theorem walk {l : PySem.W.OpenLaw} {q : Program} {loose : List Str} {XP : (Str → Option Value) → Heap → Prop} {YP : World → Heap → Prop} {d : DefRec} {K : Params → PySem.W.Frag} (hn : l.most = some 63) (hdf : d.params.defaults = [])
    (hY : ∀ (w : World) (h : Heap), YP w h → (K w.params).In h)
    (F : ∀ (w : World) (mg : Str → Option Value) (fa : Addr) (h : Heap), (K w.params).In h → h.Ns mainGlobals mg → mg d.name = some (.ref fa) →
      ∃ fd : FuncData, (∀ (s : Shared) (u : Value), BindsTo s fd ⟨[u], []⟩ [("script", u)]) ∧ ∀ base : Heap, (K w.params).In base → base.Ns mainGlobals mg → FnOk l.prog w (K w.params) mg base CX0 10 fa fd ["script"] (sp_law (K w.params))) :
    PySem.W.WalkO q loose XP YP l.row.toRowW d [] (fun f vs => PySem.call f vs) :=
  L2.walk_of (n := 63) (k := 10) (x := "script") (CX := fun _ => CX0) (sp := fun w => sp_law (K w.params)) hn (by decide) hdf ⟨rfl, by decide, by decide⟩ hY F (fun _ _ a ns hl hO hS => ⟨a, ns, rfl, SqF.only hO hS, hl, fun _ => rfl⟩) fun _ _ _ _ _ z => z
end My
open PySem PySem.W PyProof.Rows in
set_option maxRecDepth 100000 in
set_option maxHeartbeats 0 in
theorem PySem.Challenge.cw_evensieve_k61_whole_evidence_as_objects_holds : PySem.Challenge.rw_evensieve_k61_whole_evidence_as_objects.Holds := by
  w_on; o_law; k_head; (case hw => w_witness2)
  k_fill
  refine My.walk (l := PySem.Challenge.rw_evensieve_k61_whole_evidence_as_objects) rfl rfl (fun w h Y => PySem.W.kIn_of Y) ?F
  case F =>
    intro w mg fa h KX G hmg
    refine' My.all_mk KX G hmg ?ac_Columns ?ac_Table ?ac_Kernel ?ac_Array ?ac_Same ?ac_Unlike ?ac_Apart ?ac_Within ?ac_Outside ?ac_Cheapest ?ac_SieveError ?ac_BadColumns ?ac_BadTable ?a0 ?l0 ?c0 ?k0 ?a1 ?l1 ?c1 ?k1 ?a2 ?l2 ?c2 ?k2 ?a3 ?l3 ?c3 ?k3 ?a4 ?l4 ?c4 ?k4 ?a5 ?l5 ?c5 ?k5 ?a6 ?l6 ?c6 ?k6 ?a7 ?l7 ?c7 ?k7 ?pa_Columns_asked ?pb_Columns_asked ?pc_Columns_asked ?pd_Columns_asked ?l8 ?c8 ?k8 ?a9 ?w9 ?l9 ?c9 ?k9 ?a10 ?l10 ?c10 ?k10 ?a11 ?w11 ?l11 ?c11 ?k11 ?a12 ?l12 ?c12 ?k12 ?a13 ?l13 ?c13 ?k13 ?a14 ?l14 ?c14 ?k14 ?a15 ?l15 ?c15 ?k15 ?a16 ?l16 ?c16 ?k16 ?a17 ?l17 ?c17 ?k17 ?a18 ?l18 ?c18 ?k18 ?a19 ?l19 ?c19 ?k19 ?a20 ?w20 ?l20 ?c20 ?k20 ?a21 ?l21 ?c21 ?k21 ?a22 ?w22 ?l22 ?c22 ?k22 ?a23 ?l23 ?c23 ?k23 ?a24 ?w24 ?l24 ?c24 ?k24 ?a25 ?w25 ?l25 ?c25 ?k25 ?a26 ?l26 ?c26 ?k26 ?a27 ?w27 ?l27 ?c27 ?k27 ?a28 ?w28 ?l28 ?c28 ?k28 ?a29 ?l29 ?c29 ?k29 ?a30 ?w30 ?l30 ?c30 ?k30 ?a31 ?w31 ?l31 ?c31 ?k31 ?a32 ?w32 ?l32 ?c32 ?k32 ?a33 ?l33 ?c33 ?k33 ?a34 ?w34 ?l34 ?c34 ?k34 ?a35 ?w35 ?l35 ?c35 ?k35 ?a36 ?l36 ?c36 ?k36 ?a37 ?w37 ?l37 ?c37 ?k37 ?a38 ?w38 ?l38 ?c38 ?k38 ?a39 ?l39 ?c39 ?k39 ?a40 ?l40 ?c40 ?k40 ?a41 ?l41 ?c41 ?k41 ?a42 ?l42 ?c42 ?k42 ?a43 ?l43 ?c43 ?k43 ?pg_Columns ?hd_Columns ?po_Columns ?sa_Columns ?mk_Columns ?kc_Columns ?fn_Columns ?n_Columns_hashed ?n_Columns__asked ?n_Columns_summed ?ne_Columns ?mo_Columns ?xp_Columns ?xq_Columns ?xr_Columns ?pg_Table ?hd_Table ?po_Table ?sa_Table ?mk_Table ?kc_Table ?fn_Table ?n_Table_columns ?n_Table_rows ?ne_Table ?mo_Table ?xp_Table ?xq_Table ?xr_Table ?pg_Kernel ?hd_Kernel ?po_Kernel ?sa_Kernel ?mk_Kernel ?kc_Kernel ?fn_Kernel ?ke_Kernel ?kf_Kernel ?n_Kernel_weights ?n_Kernel_functions ?ne_Kernel ?mo_Kernel ?xp_Kernel ?xq_Kernel ?xr_Kernel ?pg_Array ?hd_Array ?po_Array ?sa_Array ?mk_Array ?kc_Array ?fn_Array ?ke_Array ?kf_Array ?n_Array_sizes ?n_Array_entries ?ne_Array ?mo_Array ?xp_Array ?xq_Array ?xr_Array ?pg_Same ?hd_Same ?po_Same ?sa_Same ?mk_Same ?kc_Same ?fn_Same ?ke_Same ?kf_Same ?n_Same_maps ?ne_Same ?mo_Same ?xp_Same ?xq_Same ?xr_Same ?pg_Unlike ?hd_Unlike ?po_Unlike ?sa_Unlike ?mk_Unlike ?kc_Unlike ?fn_Unlike ?ke_Unlike ?kf_Unlike ?n_Unlike_which ?n_Unlike_chosen ?n_Unlike_chances ?ne_Unlike ?mo_Unlike ?xp_Unlike ?xq_Unlike ?xr_Unlike ?pg_Apart ?hd_Apart ?po_Apart ?sa_Apart ?mk_Apart ?kc_Apart ?fn_Apart ?ke_Apart ?kf_Apart ?n_Apart_table ?n_Apart_chances ?ne_Apart ?mo_Apart ?xp_Apart ?xq_Apart ?xr_Apart ?pg_Within ?hd_Within ?po_Within ?sa_Within ?mk_Within ?kc_Within ?mi_Within ?ke_Within ?kf_Within ?ne_Within ?mo_Within ?xp_Within ?xq_Within ?xr_Within ?pg_Outside ?hd_Outside ?po_Outside ?sa_Outside ?mk_Outside ?kc_Outside ?fn_Outside ?ke_Outside ?kf_Outside ?n_Outside_row ?n_Outside_draws ?ne_Outside ?mo_Outside ?xp_Outside ?xq_Outside ?xr_Outside ?pg_Cheapest ?hd_Cheapest ?po_Cheapest ?sa_Cheapest ?mk_Cheapest ?kc_Cheapest ?fn_Cheapest ?ke_Cheapest ?kf_Cheapest ?n_Cheapest_number ?n_Cheapest_paper ?n_Cheapest_against ?ne_Cheapest ?mo_Cheapest ?xp_Cheapest ?xq_Cheapest ?xr_Cheapest ?ys_Same_Unlike ?ys_Same_Apart ?ys_Same_Within ?ys_Same_Outside ?ys_Same_Cheapest ?ys_Same_Array ?ys_Same_Kernel ?ys_Unlike_Same ?ys_Unlike_Apart ?ys_Unlike_Within ?ys_Unlike_Outside ?ys_Unlike_Cheapest ?ys_Unlike_Array ?ys_Unlike_Kernel ?ys_Apart_Same ?ys_Apart_Unlike ?ys_Apart_Within ?ys_Apart_Outside ?ys_Apart_Cheapest ?ys_Apart_Array ?ys_Apart_Kernel ?ys_Within_Same ?ys_Within_Unlike ?ys_Within_Apart ?ys_Within_Outside ?ys_Within_Cheapest ?ys_Within_Array ?ys_Within_Kernel ?ys_Outside_Same ?ys_Outside_Unlike ?ys_Outside_Apart ?ys_Outside_Within ?ys_Outside_Cheapest ?ys_Outside_Array ?ys_Outside_Kernel ?ys_Cheapest_Same ?ys_Cheapest_Unlike ?ys_Cheapest_Apart ?ys_Cheapest_Within ?ys_Cheapest_Outside ?ys_Cheapest_Array ?ys_Cheapest_Kernel ?ys_Array_Same ?ys_Array_Unlike ?ys_Array_Apart ?ys_Array_Within ?ys_Array_Outside ?ys_Array_Cheapest ?ys_Array_Kernel ?ys_Kernel_Same ?ys_Kernel_Unlike ?ys_Kernel_Apart ?ys_Kernel_Within ?ys_Kernel_Outside ?ys_Kernel_Cheapest ?ys_Kernel_Array ?ra_SieveError ?rb_SieveError ?ri_SieveError ?yb_SieveError ?yh_SieveError ?yt_SieveError ?xl_BadColumns ?xb_BadColumns ?xs_BadColumns ?xx_BadColumns ?xy_BadColumns ?xc_BadColumns ?xt_BadColumns ?xn_BadColumns ?xg_BadColumns ?xh_BadColumns ?xd_BadColumns ?xv_BadColumns ?xw_BadColumns ?xp_BadColumns ?xq_BadColumns ?xr_BadColumns ?xo_BadColumns ?xl_BadTable ?xb_BadTable ?xs_BadTable ?xx_BadTable ?xy_BadTable ?xc_BadTable ?xt_BadTable ?xn_BadTable ?xg_BadTable ?xh_BadTable ?xd_BadTable ?xv_BadTable ?xw_BadTable ?xp_BadTable ?xq_BadTable ?xr_BadTable ?xo_BadTable ?yv_BadColumns ?yz_BadColumns_BadTable ?yv_BadTable ?yz_BadTable_BadColumns ?g_MOST_ROWS ?g_LETTERS ?g_FAR ?g_LONGEST_NAME ?g_MOST_HASHED ?g_MOST_ASKED ?g_MOST_SUMMED ?z_ValueError ?z_isinstance ?z_all ?z_str ?z_range ?z_int ?z_list ?z_tuple ?z_dict ?z_enumerate ?z_len ?z_bool ?z_sorted ?z_set ?z_zip ?a_RESERVED ?l_RESERVED
    (case ac_Columns => k_is)
    (case ac_Table => k_is)
    (case ac_Kernel => k_is)
    (case ac_Array => k_is)
    (case ac_Same => k_is)
    (case ac_Unlike => k_is)
    (case ac_Apart => k_is)
    (case ac_Within => k_is)
    (case ac_Outside => k_is)
    (case ac_Cheapest => k_is)
    (case ac_SieveError => k_is)
    (case ac_BadColumns => k_is)
    (case ac_BadTable => k_is)
    (case a0 => k_is)
    (case l0 => k_is)
    (case c0 => k_is)
    (case k0 => k_is)
    (case a1 => k_is)
    (case l1 => k_is)
    (case c1 => k_is)
    (case k1 => k_is)
    (case a2 => k_is)
    (case l2 => k_is)
    (case c2 => k_is)
    (case k2 => k_is)
    (case a3 => k_is)
    (case l3 => k_is)
    (case c3 => k_is)
    (case k3 => k_is)
    (case a4 => k_is)
    (case l4 => k_is)
    (case c4 => k_is)
    (case k4 => k_is)
    (case a5 => k_is)
    (case l5 => k_is)
    (case c5 => k_is)
    (case k5 => k_is)
    (case a6 => k_is)
    (case l6 => k_is)
    (case c6 => k_is)
    (case k6 => k_is)
    (case a7 => k_is)
    (case l7 => k_is)
    (case c7 => k_is)
    (case k7 => k_is)
    (case pa_Columns_asked => k_is)
    (case pb_Columns_asked => k_is)
    (case pc_Columns_asked => k_is)
    (case pd_Columns_asked => k_is)
    (case l8 => k_is)
    (case c8 => k_is)
    (case k8 => k_is)
    (case a9 => k_is)
    (case w9 => k_is)
    (case l9 => k_is)
    (case c9 => k_is)
    (case k9 => k_is)
    (case a10 => k_is)
    (case l10 => k_is)
    (case c10 => k_is)
    (case k10 => k_is)
    (case a11 => k_is)
    (case w11 => k_is)
    (case l11 => k_is)
    (case c11 => k_is)
    (case k11 => k_is)
    (case a12 => k_is)
    (case l12 => k_is)
    (case c12 => k_is)
    (case k12 => k_is)
    (case a13 => k_is)
    (case l13 => k_is)
    (case c13 => k_is)
    (case k13 => k_is)
    (case a14 => k_is)
    (case l14 => k_is)
    (case c14 => k_is)
    (case k14 => k_is)
    (case a15 => k_is)
    (case l15 => k_is)
    (case c15 => k_is)
    (case k15 => k_is)
    (case a16 => k_is)
    (case l16 => k_is)
    (case c16 => k_is)
    (case k16 => k_is)
    (case a17 => k_is)
    (case l17 => k_is)
    (case c17 => k_is)
    (case k17 => k_is)
    (case a18 => k_is)
    (case l18 => k_is)
    (case c18 => k_is)
    (case k18 => k_is)
    (case a19 => k_is)
    (case l19 => k_is)
    (case c19 => k_is)
    (case k19 => k_is)
    (case a20 => k_is)
    (case w20 => k_is)
    (case l20 => k_is)
    (case c20 => k_is)
    (case k20 => k_is)
    (case a21 => k_is)
    (case l21 => k_is)
    (case c21 => k_is)
    (case k21 => k_is)
    (case a22 => k_is)
    (case w22 => k_is)
    (case l22 => k_is)
    (case c22 => k_is)
    (case k22 => k_is)
    (case a23 => k_is)
    (case l23 => k_is)
    (case c23 => k_is)
    (case k23 => k_is)
    (case a24 => k_is)
    (case w24 => k_is)
    (case l24 => k_is)
    (case c24 => k_is)
    (case k24 => k_is)
    (case a25 => k_is)
    (case w25 => k_is)
    (case l25 => k_is)
    (case c25 => k_is)
    (case k25 => k_is)
    (case a26 => k_is)
    (case l26 => k_is)
    (case c26 => k_is)
    (case k26 => k_is)
    (case a27 => k_is)
    (case w27 => k_is)
    (case l27 => k_is)
    (case c27 => k_is)
    (case k27 => k_is)
    (case a28 => k_is)
    (case w28 => k_is)
    (case l28 => k_is)
    (case c28 => k_is)
    (case k28 => k_is)
    (case a29 => k_is)
    (case l29 => k_is)
    (case c29 => k_is)
    (case k29 => k_is)
    (case a30 => k_is)
    (case w30 => k_is)
    (case l30 => k_is)
    (case c30 => k_is)
    (case k30 => k_is)
    (case a31 => k_is)
    (case w31 => k_is)
    (case l31 => k_is)
    (case c31 => k_is)
    (case k31 => k_is)
    (case a32 => k_is)
    (case w32 => k_is)
    (case l32 => k_is)
    (case c32 => k_is)
    (case k32 => k_is)
    (case a33 => k_is)
    (case l33 => k_is)
    (case c33 => k_is)
    (case k33 => k_is)
    (case a34 => k_is)
    (case w34 => k_is)
    (case l34 => k_is)
    (case c34 => k_is)
    (case k34 => k_is)
    (case a35 => k_is)
    (case w35 => k_is)
    (case l35 => k_is)
    (case c35 => k_is)
    (case k35 => k_is)
    (case a36 => k_is)
    (case l36 => k_is)
    (case c36 => k_is)
    (case k36 => k_is)
    (case a37 => k_is)
    (case w37 => k_is)
    (case l37 => k_is)
    (case c37 => k_is)
    (case k37 => k_is)
    (case a38 => k_is)
    (case w38 => k_is)
    (case l38 => k_is)
    (case c38 => k_is)
    (case k38 => k_is)
    (case a39 => k_is)
    (case l39 => k_is)
    (case c39 => k_is)
    (case k39 => k_is)
    (case a40 => k_is)
    (case l40 => k_is)
    (case c40 => k_is)
    (case k40 => k_is)
    (case a41 => k_is)
    (case l41 => k_is)
    (case c41 => k_is)
    (case k41 => k_is)
    (case a42 => k_is)
    (case l42 => k_is)
    (case c42 => k_is)
    (case k42 => k_is)
    (case a43 => k_is)
    (case l43 => k_is)
    (case c43 => k_is)
    (case k43 => k_is)
    (case pg_Columns => k_is)
    (case hd_Columns => k_is)
    (case po_Columns => k_is)
    (case sa_Columns => k_is)
    (case mk_Columns => k_is)
    (case kc_Columns => k_is)
    (case fn_Columns => k_is)
    (case n_Columns_hashed => k_is)
    (case n_Columns__asked => k_is)
    (case n_Columns_summed => k_is)
    (case ne_Columns => k_is)
    (case mo_Columns => k_is)
    (case xp_Columns => k_is)
    (case xq_Columns => k_is)
    (case xr_Columns => k_is)
    (case pg_Table => k_is)
    (case hd_Table => k_is)
    (case po_Table => k_is)
    (case sa_Table => k_is)
    (case mk_Table => k_is)
    (case kc_Table => k_is)
    (case fn_Table => k_is)
    (case n_Table_columns => k_is)
    (case n_Table_rows => k_is)
    (case ne_Table => k_is)
    (case mo_Table => k_is)
    (case xp_Table => k_is)
    (case xq_Table => k_is)
    (case xr_Table => k_is)
    (case pg_Kernel => k_is)
    (case hd_Kernel => k_is)
    (case po_Kernel => k_is)
    (case sa_Kernel => k_is)
    (case mk_Kernel => k_is)
    (case kc_Kernel => k_is)
    (case fn_Kernel => k_is)
    (case ke_Kernel => k_is)
    (case kf_Kernel => k_is)
    (case n_Kernel_weights => k_is)
    (case n_Kernel_functions => k_is)
    (case ne_Kernel => k_is)
    (case mo_Kernel => k_is)
    (case xp_Kernel => k_is)
    (case xq_Kernel => k_is)
    (case xr_Kernel => k_is)
    (case pg_Array => k_is)
    (case hd_Array => k_is)
    (case po_Array => k_is)
    (case sa_Array => k_is)
    (case mk_Array => k_is)
    (case kc_Array => k_is)
    (case fn_Array => k_is)
    (case ke_Array => k_is)
    (case kf_Array => k_is)
    (case n_Array_sizes => k_is)
    (case n_Array_entries => k_is)
    (case ne_Array => k_is)
    (case mo_Array => k_is)
    (case xp_Array => k_is)
    (case xq_Array => k_is)
    (case xr_Array => k_is)
    (case pg_Same => k_is)
    (case hd_Same => k_is)
    (case po_Same => k_is)
    (case sa_Same => k_is)
    (case mk_Same => k_is)
    (case kc_Same => k_is)
    (case fn_Same => k_is)
    (case ke_Same => k_is)
    (case kf_Same => k_is)
    (case n_Same_maps => k_is)
    (case ne_Same => k_is)
    (case mo_Same => k_is)
    (case xp_Same => k_is)
    (case xq_Same => k_is)
    (case xr_Same => k_is)
    (case pg_Unlike => k_is)
    (case hd_Unlike => k_is)
    (case po_Unlike => k_is)
    (case sa_Unlike => k_is)
    (case mk_Unlike => k_is)
    (case kc_Unlike => k_is)
    (case fn_Unlike => k_is)
    (case ke_Unlike => k_is)
    (case kf_Unlike => k_is)
    (case n_Unlike_which => k_is)
    (case n_Unlike_chosen => k_is)
    (case n_Unlike_chances => k_is)
    (case ne_Unlike => k_is)
    (case mo_Unlike => k_is)
    (case xp_Unlike => k_is)
    (case xq_Unlike => k_is)
    (case xr_Unlike => k_is)
    (case pg_Apart => k_is)
    (case hd_Apart => k_is)
    (case po_Apart => k_is)
    (case sa_Apart => k_is)
    (case mk_Apart => k_is)
    (case kc_Apart => k_is)
    (case fn_Apart => k_is)
    (case ke_Apart => k_is)
    (case kf_Apart => k_is)
    (case n_Apart_table => k_is)
    (case n_Apart_chances => k_is)
    (case ne_Apart => k_is)
    (case mo_Apart => k_is)
    (case xp_Apart => k_is)
    (case xq_Apart => k_is)
    (case xr_Apart => k_is)
    (case pg_Within => k_is)
    (case hd_Within => k_is)
    (case po_Within => k_is)
    (case sa_Within => k_is)
    (case mk_Within => k_is)
    (case kc_Within => k_is)
    (case mi_Within => k_is)
    (case ke_Within => k_is)
    (case kf_Within => k_is)
    (case ne_Within => k_is)
    (case mo_Within => k_is)
    (case xp_Within => k_is)
    (case xq_Within => k_is)
    (case xr_Within => k_is)
    (case pg_Outside => k_is)
    (case hd_Outside => k_is)
    (case po_Outside => k_is)
    (case sa_Outside => k_is)
    (case mk_Outside => k_is)
    (case kc_Outside => k_is)
    (case fn_Outside => k_is)
    (case ke_Outside => k_is)
    (case kf_Outside => k_is)
    (case n_Outside_row => k_is)
    (case n_Outside_draws => k_is)
    (case ne_Outside => k_is)
    (case mo_Outside => k_is)
    (case xp_Outside => k_is)
    (case xq_Outside => k_is)
    (case xr_Outside => k_is)
    (case pg_Cheapest => k_is)
    (case hd_Cheapest => k_is)
    (case po_Cheapest => k_is)
    (case sa_Cheapest => k_is)
    (case mk_Cheapest => k_is)
    (case kc_Cheapest => k_is)
    (case fn_Cheapest => k_is)
    (case ke_Cheapest => k_is)
    (case kf_Cheapest => k_is)
    (case n_Cheapest_number => k_is)
    (case n_Cheapest_paper => k_is)
    (case n_Cheapest_against => k_is)
    (case ne_Cheapest => k_is)
    (case mo_Cheapest => k_is)
    (case xp_Cheapest => k_is)
    (case xq_Cheapest => k_is)
    (case xr_Cheapest => k_is)
    (case ys_Same_Unlike => k_is)
    (case ys_Same_Apart => k_is)
    (case ys_Same_Within => k_is)
    (case ys_Same_Outside => k_is)
    (case ys_Same_Cheapest => k_is)
    (case ys_Same_Array => k_is)
    (case ys_Same_Kernel => k_is)
    (case ys_Unlike_Same => k_is)
    (case ys_Unlike_Apart => k_is)
    (case ys_Unlike_Within => k_is)
    (case ys_Unlike_Outside => k_is)
    (case ys_Unlike_Cheapest => k_is)
    (case ys_Unlike_Array => k_is)
    (case ys_Unlike_Kernel => k_is)
    (case ys_Apart_Same => k_is)
    (case ys_Apart_Unlike => k_is)
    (case ys_Apart_Within => k_is)
    (case ys_Apart_Outside => k_is)
    (case ys_Apart_Cheapest => k_is)
    (case ys_Apart_Array => k_is)
    (case ys_Apart_Kernel => k_is)
    (case ys_Within_Same => k_is)
    (case ys_Within_Unlike => k_is)
    (case ys_Within_Apart => k_is)
    (case ys_Within_Outside => k_is)
    (case ys_Within_Cheapest => k_is)
    (case ys_Within_Array => k_is)
    (case ys_Within_Kernel => k_is)
    (case ys_Outside_Same => k_is)
    (case ys_Outside_Unlike => k_is)
    (case ys_Outside_Apart => k_is)
    (case ys_Outside_Within => k_is)
    (case ys_Outside_Cheapest => k_is)
    (case ys_Outside_Array => k_is)
    (case ys_Outside_Kernel => k_is)
    (case ys_Cheapest_Same => k_is)
    (case ys_Cheapest_Unlike => k_is)
    (case ys_Cheapest_Apart => k_is)
    (case ys_Cheapest_Within => k_is)
    (case ys_Cheapest_Outside => k_is)
    (case ys_Cheapest_Array => k_is)
    (case ys_Cheapest_Kernel => k_is)
    (case ys_Array_Same => k_is)
    (case ys_Array_Unlike => k_is)
    (case ys_Array_Apart => k_is)
    (case ys_Array_Within => k_is)
    (case ys_Array_Outside => k_is)
    (case ys_Array_Cheapest => k_is)
    (case ys_Array_Kernel => k_is)
    (case ys_Kernel_Same => k_is)
    (case ys_Kernel_Unlike => k_is)
    (case ys_Kernel_Apart => k_is)
    (case ys_Kernel_Within => k_is)
    (case ys_Kernel_Outside => k_is)
    (case ys_Kernel_Cheapest => k_is)
    (case ys_Kernel_Array => k_is)
    (case ra_SieveError => k_is)
    (case rb_SieveError => k_is)
    (case ri_SieveError => k_is)
    (case yb_SieveError => k_is)
    (case yh_SieveError => k_is)
    (case yt_SieveError => k_is)
    (case xl_BadColumns => k_is)
    (case xb_BadColumns => decide +kernel)
    (case xs_BadColumns => k_is)
    (case xx_BadColumns => k_is)
    (case xy_BadColumns => k_is)
    (case xc_BadColumns => k_is)
    (case xt_BadColumns => k_is)
    (case xn_BadColumns => k_is)
    (case xg_BadColumns => k_is)
    (case xh_BadColumns => k_is)
    (case xd_BadColumns => k_is)
    (case xv_BadColumns => k_is)
    (case xw_BadColumns => k_is)
    (case xp_BadColumns => k_is)
    (case xq_BadColumns => k_is)
    (case xr_BadColumns => k_is)
    (case xo_BadColumns => k_is)
    (case xl_BadTable => k_is)
    (case xb_BadTable => decide +kernel)
    (case xs_BadTable => k_is)
    (case xx_BadTable => k_is)
    (case xy_BadTable => k_is)
    (case xc_BadTable => k_is)
    (case xt_BadTable => k_is)
    (case xn_BadTable => k_is)
    (case xg_BadTable => k_is)
    (case xh_BadTable => k_is)
    (case xd_BadTable => k_is)
    (case xv_BadTable => k_is)
    (case xw_BadTable => k_is)
    (case xp_BadTable => k_is)
    (case xq_BadTable => k_is)
    (case xr_BadTable => k_is)
    (case xo_BadTable => k_is)
    (case yv_BadColumns => k_is)
    (case yz_BadColumns_BadTable => k_is)
    (case yv_BadTable => k_is)
    (case yz_BadTable_BadColumns => k_is)
    (case g_MOST_ROWS => k_is)
    (case g_LETTERS => k_is)
    (case g_FAR => k_is)
    (case g_LONGEST_NAME => k_is)
    (case g_MOST_HASHED => k_is)
    (case g_MOST_ASKED => k_is)
    (case g_MOST_SUMMED => k_is)
    (case z_ValueError => k_is)
    (case z_isinstance => k_is)
    (case z_all => k_is)
    (case z_str => k_is)
    (case z_range => k_is)
    (case z_int => k_is)
    (case z_list => k_is)
    (case z_tuple => k_is)
    (case z_dict => k_is)
    (case z_enumerate => k_is)
    (case z_len => k_is)
    (case z_bool => k_is)
    (case z_sorted => k_is)
    (case z_set => k_is)
    (case z_zip => k_is)
    (case a_RESERVED => k_is)
    (case l_RESERVED => k_is)
