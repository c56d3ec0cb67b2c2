import PyProof.Rows.All
import Wide.All
import OpenK.AllK
import Wide.FinOn
import HandS.ForMost
import HandS.ForExc
import HandS.Wide
import HandS.Gcd
import HandS.IsInst
import HandS.ExcInit
import HandS.ExcField
import HandS.ExcIs
import HandS.Property
import HandS.DictComp
import HandS.ClsMeth
import HandS.Zip
import HandS.Walk
import HandS.Style
import HandS.TupAny
import HandS.More
import HandS.Strs
import KE.GoesEnum
import HandS.OwnEq
import PyProof.InstEq
import HandS.FStr
import HandS.TryMany
import HandS.TupSets
import KE.GoesSet
import HandS.Lambda
import HandS.EndTab
import KE.KDictList
import PyProof.DictValues
import KE.GoesZip
import KE.GoesMore
import HandS.Small
import PySem.Challenge.RW_evensieve_k01_tables
set_option Elab.async false
set_option linter.all false
set_option maxRecDepth 100000
set_option maxHeartbeats 4000000
namespace My
open PySem L2 PySem.Spec PyProof.Rows
section
variable {X : Cx}
/-! ### Base.__init__(self, ..), Base an own class over ValueError without one of its own -/
def tBaseI (K : PySem.W.Frag) (ta : TA) : TE := fun σ H Q => ta σ H fun vs H1 => ∃ (a C : Addr) (ws : List V), vs = .ref a :: ws ∧ ws.length ≤ 1000 ∧ OexC K C ∧ H1 a = some (exo a C none) ∧ Q .non H1
theorem pe_baseinit {x : Str} {S : Addr} {mc : Value} {e : Expr} {es : List Expr} {ta : TA} {p1 p2 pos : Pos} {pl : Sem Bool} (hg : Gl X x) (hm : X.mg x = some (.ref S)) (r : ClX.CRead X.K S mc) (at_ : PySem.W.findCls X.K (.ref S) mc "__init__" = some (.val (.builtin "ValueError.__init__"))) (ha : PA X (e :: es) ta)
    (hd : (x == ("__debug__" : Str)) = false := by decide)
    (hc : eval (.Call (.Attribute (.Name x p1) "__init__" p2) (e :: es) [] pos) X.env = (do
      let ov ← eval (.Name x p1) X.env
      standAt p2.atName
      let (f, first) ← holding [ov] (getMethod ov "__init__" pl)
      callWith pos f first (backTo pos (starEach (e :: es) X.env)) (backToKw pos (keywordEach [] X.env))) := by rfl)
    (he : starEach (e :: es) X.env = (false, eval e X.env) :: starEach es X.env := by rfl) (hpl : (backTo pos (starEach es X.env)).any (·.1) = false := by rfl) :
    PE X (.Call (.Attribute (.Name x p1) "__init__" p2) (e :: es) [] pos) (tBaseI X.K ta) := by
  refine ⟨fun pins s σ H Q I want => ?_⟩
  refine PySem.W.methodCall_KW (ld_glob I hg hm ?_ hd) hc
  refine PySem.W.method_cls I.kIn r.ga ?_
  refine PySem.W.cls_value I.kIn r.rd at_ (by decide +kernel) ?_
  refine PyProof.Rows.callWith_method1 (thn (ha.run pos pins _ σ H _ (I.tok _) want) fun us s1 ⟨vs, H1, I1, r1, a, C, ws, ev, hl, T, ea, q⟩ => ?_) he hpl
  subst ev
  cases r1 with
  | @cons _ u0 _ ur ra rest =>
    obtain rfl : u0 = Value.ref a := ra
    exact oinit_ok T I1 ea (by rw [← Paired.length rest, sizeLine_eq]; omega) fun s' J => ⟨.non, H1, J, rfl, q⟩
end
end My
set_option Elab.async false
set_option linter.all false
set_option maxRecDepth 100000
set_option maxHeartbeats 4000000
namespace My
open PySem L2 PySem.Spec PyProof.Rows HT
section
variable {prog : Program} {w : World} {A : Around} {E : Value → Shared → Prop} {s : Shared}
theorem back_take {α : Type} (l : List α) : ∀ m : Nat, m ≤ l.length → (List.range m).filterMap (fun k => l[l.length - 1 - k]?) = l.reverse.take m
  | 0, _ => by simp
  | m + 1, h => by
    have ih := back_take l m (by omega)
    rw [List.range_succ, List.filterMap_append, ih, List.take_add_one, List.getElem?_reverse (by omega)]
    cases e : l[l.length - 1 - m]? <;> simp [List.filterMap, e]
theorem fm_same {α β : Type} {f g : α → Option β} : ∀ l : List α, (∀ k, k ∈ l → f k = g k) → l.filterMap f = l.filterMap g
  | [], _ => rfl
  | a :: l, h => by
    rw [List.filterMap_cons, List.filterMap_cons, h a List.mem_cons_self, fm_same l fun k m => h k (List.mem_cons_of_mem _ m)]
theorem back_pick (items : Array Value) : (List.filterMap (fun k : Nat => items[((items.size : Int) - 1 + (k : Int) * -1).toNat]?) (List.range items.size)).toArray = items.toList.reverse.toArray := by
  have h := back_take items.toList items.toList.length (Nat.le_refl _)
  rw [List.take_of_length_le (by simp)] at h
  rw [← h]
  congr 1
  have e : items.toList.length = items.size := by simp
  rw [e]
  refine fm_same _ fun k hk => ?_
  have hk' := List.mem_range.mp hk
  rw [show ((items.size : Int) - 1 + (k : Int) * -1).toNat = items.size - 1 - k by omega]
  simp
theorem applied_back {sl : Addr} {vs : Value} {n : Nat} {Q : Int × Int × Nat → Shared → Prop} (hs : s.heap.IsSliceOf sl .none .none vs) (ps : IsPart vs (some (-1))) (h : Q ((n : Int) - 1, -1, n) s) :
    wpAny (model prog w) A (Builtin.Slice.sliceApplied (.ref sl) (pure (n : Int))) Q E s := by
  obtain ⟨rec, at_, _, data⟩ := id hs
  unfold Builtin.Slice.sliceApplied Builtin.Slice.sliceFields
  refine wpAny_bind (wpAny_bind (wpAny_field at_ data (x := .none) rfl (wpAny_bind (wpAny_field at_ data (x := .none) rfl (wpAny_bind (wpAny_field at_ data (x := vs) rfl (wpAny_pure ?_)))))))
  refine wpAny_bind (slicePart_ ps ?_)
  show wpAny _ _ (if ((-1 : Int) == 0) = true then _ else _) _ _ s
  rw [if_neg (by decide)]
  refine wpAny_bind (slicePart_none (wpAny_bind (slicePart_none (wpAny_bind (wpAny_pure ?_)))))
  show wpAny _ _ (match Builtin.Slice.sliceAdjust none none (-1) (n : Int) with | (lo, hi) => pure (lo, (-1 : Int), Builtin.Slice.slicePlaces lo hi (-1))) _ _ s
  have e : Builtin.Slice.sliceAdjust none none (-1) (n : Int) = ((n : Int) - 1, -1) := by simp [Builtin.Slice.sliceAdjust]
  rw [e]
  show wpAny _ _ (pure ((n : Int) - 1, (-1 : Int), Builtin.Slice.slicePlaces ((n : Int) - 1) (-1) (-1))) _ _ s
  have e2 : Builtin.Slice.slicePlaces ((n : Int) - 1) (-1) (-1) = n := by
    simp [Builtin.Slice.slicePlaces]
    try omega
  rw [e2]
  exact wpAny_pure h
theorem tuple_back {t sl : Addr} {items : Array Value} {vs : Value} {Q : Value → Shared → Prop} (ht : IsTup s.heap t items) (hs : s.heap.IsSliceOf sl .none .none vs) (ps : IsPart vs (some (-1)))
    (h : Q (.ref s.heap.objs.size) { s with heap := s.heap.push { cls := .type "tuple", data := .seq items.toList.reverse.toArray } }) (hsz : items.size ≤ sizeLine) : wpAny (model prog w) A (getItem (.ref t) (.ref sl)) Q E s := by
  have room : sizeOk (.seq items.toList.reverse.toArray) := by
    show items.toList.reverse.toArray.size ≤ sizeLine
    simpa using hsz
  obtain ⟨rec, at_, cls_, data⟩ := id hs
  have kind : s.TypeIs (.ref sl) "slice" := ⟨rec, at_, cls_⟩
  unfold getItem
  try with_reducible refine wpAny_holding ?_
  first | refine wpAny_bind (wpAny_pure ?_) | skip
  refine wpAny_bind (wpAny_sequenceKey ht.typeIs (by decide) ?_)
  refine wpAny_bind (wpAny_callSpecial?_slot (name := Str.ofString "__getitem__") ht.typeIs PyProof.Rows.slot_tuple_getitem
    (wpAny_call_entry PyProof.Rows.slot_tuple_getitem ht.typeIs entry_tuple_getitem ?_ (args_tuple_getitem _ _)))
  show wpAny _ _ (Builtin.Tuple.tupleItemsOf (.ref t) >>= _) _ _ s
  refine wpAny_bind (tupleItemsOf_ ht ?_)
  refine wpAny_bind (wpAny_typeOf kind ?_)
  rw [if_pos (by decide)]
  refine wpAny_bind (applied_back hs ps ?_)
  have no : ¬ (((items.size : Int) - 1 == 0 && (-1 : Int) == 1 && items.size == items.size) = true) := by simp
  dsimp only
  rw [if_neg no, back_pick]
  first
    | exact wpAny_bind (m := Builtin.Tuple.tupleExact _) (wpAny_newObj_type (wpAny_pure ⟨_, rfl, wpAny_pure h⟩) room)
    | exact wpAny_bind (m := Builtin.Tuple.tupleExact _) (wpAny_newObj_type (wpAny_bind (wpAny_pure (wpAny_pure ⟨_, rfl, wpAny_pure h⟩))) room)
    | exact wpAny_bind (wpAny_bind (m := Builtin.Tuple.tupleExact _) (wpAny_newObj_type (wpAny_pure ⟨_, rfl, wpAny_pure h⟩) room))
end
/-! ### t[::-1] of a tuple, x in a chain of three comparisons -/
section
variable {X : Cx}
def tRevT (K : PySem.W.Frag) (te : TE) : TE := fun σ H Q => te σ H fun x H1 => ∃ a xs, x = .ref a ∧ SqT K H1 a xs ∧ ∀ p, H1 p = none → Q (.ref p) (upd H1 p (.tup xs.reverse))
theorem pe_revT {e : Expr} {te : TE} {k : Nat} {p1 p2 p3 pos : Pos} (he : PE X e te) : PE X (.Subscript e (.Slice none none (some (.UnaryOp .USub (.Constant (.int 1) k p1) p2)) p3) pos) (tRevT X.K te) := by
  refine ⟨fun pins s σ H Q I want => ?_⟩
  refine Subscript_ (thn (he.run pins s σ H _ I want) fun v s1 ⟨x, H1, I1, rx, a, xs, ex, hx, q⟩ => ?_)
  subst ex
  cases rx
  refine wpAny_Slice (thn (po_none.run pins s1 σ H1 (fun o H2 => o = none ∧ H2 = H1) I1 ⟨rfl, rfl⟩) fun vl s2 ⟨l, H2, I2, pl, el, e2⟩ => ?_)
  subst el e2
  refine thn (po_none.run pins s2 σ H2 (fun o H3 => o = none ∧ H3 = H2) I2 ⟨rfl, rfl⟩) fun vu s3 ⟨u, H3, I3, pu, eu, e3⟩ => ?_
  subst eu e3
  have minus : PO X (some (.UnaryOp .USub (.Constant (.int 1) k p1) p2)) (tPart (tUn (rU fun i => .int (-i)) (tC (.int 1)))) := po_some (pe_un un_neg pe_int)
  refine thn (minus.run pins s3 σ H3 (fun o H4 => o = some (-1) ∧ H4 = H3) I3 ⟨1, rfl, -1, rfl, rfl, rfl⟩) fun vs s4 ⟨o, H4, I4, ps, eo, e4⟩ => ?_
  subst eo e4
  have I5 : Inv X pins σ H4 { s4 with heap := s4.heap.push { cls := .type "slice", data := .fields #[vl, vu, vs] } } := I4.kept (t' := s4.toks) fun b ob q => Heap.get?_push_of_some _ q
  obtain ⟨its, r, ht, hz⟩ := I5.tuple hx
  have hlen := r.length
  cases pl
  cases pu
  show wpAny (model X.prog X.w) X.A (subscriptTail e (.Slice none none (some (.UnaryOp .USub (.Constant (.int 1) k p1) p2)) p3) (.ref a) (.ref s4.heap.objs.size)) (EP X pins σ Q) X.xe { s4 with heap := s4.heap.push { cls := .type "slice", data := .fields #[.none, .none, vs] } }
  refine tail_any (ops := [.ref a, .ref s4.heap.objs.size]) ht.typeIs (PyProof.Rows.slot_tuple_getitem.lookup) ?_ (by with_unfolding_all rfl)
  refine tuple_back ht (Heap.IsSliceOf.new _ .none .none vs) ps ?_ (by rw [List.size_toArray]; omega)
  refine ⟨.ref _, _, I5.laid (t' := s4.toks) (o := .tup xs.reverse) (fun b ob q => Heap.get?_push_of_some _ q) (Nat.le_refl _) ?_, rfl, q _ (I5.hok.fresh (Nat.le_refl _))⟩
  have hz2 : xs.reverse.length ≤ sizeLine := by rw [List.length_reverse]; exact hz
  refine ⟨hz2, its.reverse, r.reverse, ?_⟩
  exact IsTup.new _ its.reverse.toArray
def tChain3 (r r' r'' : R2) (ta tb tc td : TE) : TE := fun σ H Q => ta σ H fun x H1 => tb σ H1 fun y H2 => r x y H2 fun z H3 => ∃ k, z = .bl k ∧
  (if k = true then tc σ H3 fun y' H4 => r' y y' H4 fun z' H5 => ∃ k', z' = .bl k' ∧ (if k' = true then td σ H5 fun y'' H6 => r'' y' y'' H6 Q else Q (.bl false) H5) else Q (.bl false) H3)
theorem pe_chain3 {op op' op'' : CmpOp} {r r' r'' : R2} {a b c d : Expr} {ta tb tc td : TE} {pos : Pos} (ho : OpR X (compareOp op) r) (ho' : OpR X (compareOp op') r') (ho'' : OpR X (compareOp op'') r'') (ha : PE X a ta) (hb : PE X b tb) (hc : PE X c tc) (hd : PE X d td)
    (hm : lastMarks [op, op', op''] [b, c, d] = false := by with_unfolding_all rfl) : PE X (.Compare a [op, op', op''] [b, c, d] pos) (tChain3 r r' r'' ta tb tc td) := by
  refine ⟨fun pins s σ H Q I want => ?_⟩
  refine Compare_chain (thn (ha.run pins s σ H _ I want) fun v s1 ⟨x, H1, I1, r1, q1⟩ => chain_link (thn (hb.run pins s1 σ H1 _ I1 q1) fun u s2 ⟨y, H2, I2, r2, q2⟩ => thn (ho pins s2 σ H2 x y v u _ I2 r1 r2 q2) fun t s3 ⟨z, H3, I3, r3, k, e, q3⟩ => ?_)) hm
  subst e
  cases r3
  refine wpAny_truthy_bool ?_
  cases k with
  | false => exact ite_ff ⟨.bl false, H3, I3, rfl, q3⟩
  | true =>
    refine ite_tt (chain_link (thn (hc.run pins s3 σ H3 _ I3 q3) fun u' s4 ⟨y', H4, I4, r4, q4⟩ => thn (ho' pins s4 σ H4 y y' u u' _ I4 r2 r4 q4) fun t' s5 ⟨z', H5, I5, r5, k', e', q5⟩ => ?_))
    subst e'
    cases r5
    refine wpAny_truthy_bool ?_
    cases k' with
    | false => exact ite_ff ⟨.bl false, H5, I5, rfl, q5⟩
    | true => exact ite_tt (chain_last (thn (hd.run pins s5 σ H5 _ I5 q5) fun w' s6 ⟨y'', H6, I6, r6, q6⟩ => ho'' pins s6 σ H6 y' y'' u' w' Q I6 r4 r6 q6))
end
end My
set_option Elab.async false
set_option linter.all false
set_option maxRecDepth 100000
set_option maxHeartbeats 4000000
/-! isinstance(e, Base) in the suite, e a caught error that has its dict -/
namespace My
open PySem L2 PySem.Spec PyProof.Rows PySem.W
section
variable {prog : Program} {w : World} {A : Around} {E : Value → Shared → Prop} {s : Shared} {K : Frag} {x D : Addr} {ox od : Obj}
theorem exc_class {Q : Option Value → Shared → Prop} (C : ExcC K D) (X : K.In s.heap) (I : InstAt s.heap x ox D (some od)) (h : Q (some (.ref D)) { s with toks := s.toks + 1 }) :
    wpAny (model prog w) A (getAttr? (.ref x) "__class__") Q E s := by
  have found : findObj K D (some od) "__class__" = some (.bind (.builtin "getset_descriptor.__get__") (.builtin "object.__class__")) := by
    obtain ⟨cd, hc, _⟩ := any_some C.hd
    exact findObj_data (by rw [hc]; rfl) C.ha C.hn C.ht
  obtain ⟨heap, gens, drawn, n, os⟩ := s
  have T0 := I.type (M := model prog w)
  have T1 := looks_findIn (M := model prog w) X C.hg
  have T2 := looks_findIn (M := model prog w) X C.hk
  have T3 := looks_find (M := model prog w) X I found
  have isB : Looks (model prog w) heap (isInstance (.ref x) (.type "BaseException")) true := T0.andThen (looks_subIn X C.hs)
  have unlike : (Value.builtin "BaseException.__getattribute__" == Value.builtin "object.__getattribute__") = false := by decide +kernel
  have c1 : (onTheHeap (Value.ref D) && Value.builtin "BaseException.__getattribute__" == Value.builtin "object.__getattribute__") = false := by rw [unlike]; rfl
  have c2 : (false && onTheHeap (Value.builtin "BaseException.__getattribute__")) = false := rfl
  unfold getAttr? getAttrBy? getAttrBy
  refine wpAny_bind (wpAny_mkText (wpAny_bind (wpAny_attempt (wpAny_holding (wpAny_bind (T0.at (wpAny_bind (T1.at ?_))))))))
  show wpAny _ _ (if (onTheHeap (Value.ref D) && Value.builtin "BaseException.__getattribute__" == Value.builtin "object.__getattribute__") = true then _ else _) _ _ _
  rw [c1, if_neg Bool.false_ne_true]
  unfold getAttrByItsOwn hookBefore
  refine wpAny_bind ?_
  rw [if_pos (show onTheHeap (Value.ref D) = true from rfl)]
  refine T2.at ?_
  refine wpAny_bind (wpAny_attempt (wpAny_holding ?_))
  unfold callGetattribute
  rw [c2, if_neg Bool.false_ne_true]
  unfold boundAndCalled
  rw [PySem.F.excAttr_ValueError.ga.bind (.ref x)]
  refine wpAny_bind (wpAny_pure ?_)
  show wpAny _ _ (call (.builtin "BaseException.__getattribute__") [.ref x, .str "__class__" n]) _ _ _
  refine wpAny_call (codeAny_call_builtin PySem.F.excAttr_ValueError.ga.plain PySem.F.entry_bexc_ga ?_)
  refine @check_slot (model prog w) _ _ ⟨heap, gens, drawn, n + 1, os⟩ "BaseException.__getattribute__" "BaseException" "__getattribute__" (.ref x) [.str "__class__" n] [] _ (by decide +kernel) (by decide +kernel) isB (PySem.F.args_bexc_ga (.ref x) (.str "__class__" n)) ?_
  unfold Builtin.«object.__getattribute__»
  refine wpAny_bind (wpAny_of_eq (a := ((Value.ref x : Value), [Value.str "__class__" n])) (by first | rfl | (simp only [slotArgs]; rfl)) ?_)
  refine wpAny_bind (wpAny_pure (wpAny_bind (T0.at (wpAny_bind (T3.at ?_)))))
  show wpAny _ _ (holding [Value.builtin "object.__class__"] (call (.builtin "getset_descriptor.__get__") [.builtin "object.__class__", .ref x, .ref D]) >>= ret) _ _ _
  refine wpAny_bind (wpAny_holding (wpAny_call (class_get (s := ⟨heap, gens, drawn, n + 1, os⟩) (ox := ox) (od := some od) X I C.hm ?_)))
  refine wpAny_pure ?_
  show wpAny _ _ (handedOut (.ref D)) _ _ _
  rw [handedOut_of (v := .ref D) rfl]
  first
    | exact wpAny_pure (wpAny_pure h)
    | exact wpAny_pure h
    | exact wpAny_pure (wpAny_bind (wpAny_pure (wpAny_pure h)))
theorem kit_caught (C : ExcC K D) : KitX K (.ref x) (.ref D) (fun h => InstAt h x ox D (some od)) where
  ty := fun _ _ _ I => I.type
  it := fun M h X _ => by
    obtain ⟨cd, hc, _⟩ := any_some C.hd
    unfold clsIn at hc
    split at hc
    · rename_i _ _ _ _ found
      intro A' Q' E' s' keep q
      unfold isType loadHead
      exact wpAny_bind (wpAny_loadPart (keep _ _ (X _ _ found)) (wpAny_pure q))
    · cases hc
  ne := fun h tp dd its n sl X htp => by
    obtain ⟨cd, hc, _⟩ := any_some C.hd
    refine Bool.eq_false_iff.mpr fun q => ?_
    obtain rfl : D = tp := Value.ref.inj (beq_iff_eq.mp q)
    unfold clsIn at hc
    split at hc
    · rename_i _ _ _ _ found
      cases (X _ _ found).symm.trans htp
    · cases hc
  ca := fun X I k => exc_class C X I k
end
theorem kit_of_exm {K : Frag} {t c : Value} (h : exmOne K t c = some true) : kitOne K t c = some true := by
  unfold exmOne at h
  split at h
  · unfold kitOne
    split
    · rfl
    · exact h
  · cases h
/-- isinstance(e, S), e the error that the suite holds, with its dict at dd -/
def rIsC (K : Frag) (D a dd : Addr) : List V → Hp → VK → Prop := fun xs H Q => ∃ (S : Addr) (b : Bool) (fs : List (Str × V)), xs = [.ref a, .ref S] ∧ H dd = some (.xd fs) ∧ kitOne K (.ref D) (.ref S) = some b ∧ Q (.bl b) H
theorem call_isC {X : Cx} {a D dd : Addr} {oe : Obj} {pn : List (Addr × Obj)} (C : ExcC X.K D) (hz : Zc (.ref D) (some dd) oe) (hf : ∃ vs, oe.data = .fields vs) : CallR (X.suite a ((a, oe) :: pn)) (.builtin "isinstance") (rIsC X.K D a dd) := by
  intro pins s σ H xs us Q I r want
  obtain ⟨S, b, fs, rfl, hd, e, q⟩ := want
  obtain ⟨u1, u2, rfl, r1, r2⟩ := vals2 r
  obtain rfl : u1 = Value.ref a := r1
  obtain rfl : u2 = Value.ref S := r2
  obtain ⟨at_, _⟩ := I.pin (a, oe) (List.mem_append_left _ List.mem_cons_self)
  obtain ⟨vs, hv⟩ := hf
  have held : ObjOk X.prog X.w H s.heap dd (.xd fs) := I.hok dd _ hd
  obtain ⟨mA, hns, _⟩ := held
  obtain ⟨od, ho, _⟩ := lookIn_ns hns
  have J : InstAt s.heap a oe D (some od) := ⟨at_, hz.1, by unfold notCls; rw [hv] <;> rfl, by rw [hz.2]; exact ho⟩
  exact kia_one (kit_caught C) I.kIn J e (fun z => nomatch z) fun tk => ⟨.bl b, H, I.kept (t' := tk) fun _ _ z => z, rfl, q⟩
end My
set_option Elab.async false
set_option linter.all false
set_option maxRecDepth 100000
set_option maxHeartbeats 4000000
/-! len(set(xs)), xs a list of texts no two of which are one -/
namespace My
open PySem L2 PySem.Spec PyProof.Rows
def hasT (xs : List Str) (i : Nat) : Str → Bool := fun y => (xs.take i).any fun z => z == y
theorem hasT_more {xs : List Str} {i : Nat} (h : i < xs.length) (y : Str) : (hasT xs i y || decide (y = xs.getD i Str.empty)) = hasT xs (i + 1) y := by
  have e : xs.take (i + 1) = xs.take i ++ [xs[i]] := by rw [List.take_add_one, List.getElem?_eq_getElem h]; rfl
  have d : xs.getD i Str.empty = xs[i] := by rw [List.getD_eq_getElem?_getD, List.getElem?_eq_getElem h]; rfl
  unfold hasT
  rw [e, d, List.any_append]
  congr 1
  rw [List.any_cons, List.any_nil, Bool.or_false]
  by_cases q : y = xs[i]
  · rw [decide_eq_true q, q, beq_self_eq_true]
  · rw [decide_eq_false q]
    exact (beq_eq_false_iff_ne.mpr fun z => q z.symm).symm
theorem hasT_not {xs : List Str} (nd : xs.Nodup) {i : Nat} (h : i < xs.length) : hasT xs i (xs.getD i Str.empty) = false := by
  unfold hasT
  rw [List.getD_eq_getElem?_getD, List.getElem?_eq_getElem h]
  refine Bool.eq_false_iff.mpr fun z => ?_
  obtain ⟨y, hy, e⟩ := List.any_eq_true.mp z
  obtain rfl := beq_iff_eq.mp e
  obtain ⟨j, hj, ej⟩ := List.mem_iff_getElem.mp hy
  rw [List.length_take] at hj
  rw [List.getElem_take] at ej
  have := (List.getElem_inj nd).mp ej
  omega
section
variable {prog : Program} {w : World} {A : Around} {s : Shared}
/-- the loop that puts them in -/
theorem put_texts {R : Result → Shared → Prop} {I : Addr} {fp wr : List Addr} {G : Array GenState → Array GenState → Prop} {P : Nat → Value → Prop} {St : Nat → Shared → Prop} {xs : List Str}
    (W : WalksS prog w A.in1 I fp wr G xs.length P St) (S : Addr) (out : S ∉ fp) (nd : xs.Nodup) (few : xs.length < 100) (tells : ∀ i v, P i v → ∃ t, v = .str (xs.getD i Str.empty) t) :
    ∀ (left i : Nat) (s : Shared), i + left = xs.length → St i s → s.heap.SetOf (PySem.strKind prog w) S (hasT xs i) i →
      (∀ s', Moved (S :: wr) G s s' → s'.heap.SetOf (PySem.strKind prog w) S (hasT xs xs.length) xs.length → R (.ok (.ret .none)) s') →
      codeAny (model prog w) A (.builtin "set.update.loop" ⟨[.ref S, .ref I], []⟩) R s := by
  have stays : ∀ {s s' : Shared} {i : Nat}, Moved wr G s s' → s.heap.SetOf (PySem.strKind prog w) S (hasT xs i) i → s'.heap.SetOf (PySem.strKind prog w) S (hasT xs i) i := fun m h => by
    obtain ⟨o, es, ep, t, ho, z⟩ := h
    exact ⟨o, es, ep, t, m.heap S _ (fun q => out (W.sub _ q)) ho, z⟩
  intro left
  induction left with
  | zero =>
    intro i s e st h k
    obtain rfl : i = xs.length := by omega
    refine codeAny_builtin F.entry_set_update_loop ?_
    rw [Around.under_plainId F.plain_set_update_loop _]
    show wpAny _ A.in1 (do let x ← pyNext (.ref I); _) _ _ s
    exact wpAny_bind (W.done s _ _ st fun s' m => wpAny_pure (k s' (m.mono fun b q => .tail _ q) (stays m h)))
  | succ left ih =>
    intro i s e st h k
    have lt : i < xs.length := by omega
    refine codeAny_builtin F.entry_set_update_loop ?_
    rw [Around.under_plainId F.plain_set_update_loop _]
    show wpAny _ A.in1 (do let x ← pyNext (.ref I); _) _ _ s
    refine wpAny_bind (W.item i s _ _ lt st fun v s1 p st1 m => ?_)
    obtain ⟨t, rfl⟩ := tells i v p
    have h1 := stays m h
    refine wpAny_bind (wpAny_holding ?_)
    unfold setAdd
    refine wpAny_holding (wpAny_bind ((PySem.strKind prog w).pyHash (k := xs.getD i Str.empty) (strKind_is _ _ _ _) ?_))
    refine wpAny_setAddHashed_of (knd := PySem.strKind prog w) (s := { s1 with toks := s1.toks + 1 }) (strKind_is _ _ _ _) rfl h1 (by unfold scanBound; omega) fun h' only h2 => ?_
    have h3 : h'.SetOf (PySem.strKind prog w) S (hasT xs (i + 1)) (i + 1) := SetOf_congr h2 (hasT_more lt) (by rw [hasT_not nd lt]; rfl)
    refine wpAny_pure ⟨plainId_quiet F.plain_set_update_loop _, ih (i + 1) _ (by omega) (W.frame _ s1 _ _ st1 (Nat.le_succ _) fun b q o z => ?_) h3 fun s2 m2 h4 => k s2 ?_ h4⟩
    · rw [only.2 b fun z => out (z ▸ q)]
      exact z
    · refine Moved.trans W.gtrans ((m.mono fun b q => .tail _ q).then_heap (Nat.le_succ _) fun b o q z => ?_) m2
      rw [only.2 b fun z => q (z ▸ .head _)]
      exact z
/-- set(l), by its loop -/
theorem set_of_list {Q : Value → Shared → Prop} {E : Value → Shared → Prop} {l : Addr} {items : Array Value} (calm : A.handled = none) (hl : s.heap.IsList l items) (Z : Heap → Addr → Prop)
    (loop : ∀ (B : Around) (R : Result → Shared → Prop) (I : Addr) (t : Shared), B.handled = none → s.heap.objs.size ≠ I → l ≠ I → s.heap.objs.size ≠ l → t.heap.IsListIter I l 0 → t.heap.IsList l items → t.heap.SetOf (PySem.strKind prog w) s.heap.objs.size (fun _ => false) 0 →
      (∀ t', Moved [s.heap.objs.size, I] (fun a b => b = a) t t' → Z t'.heap s.heap.objs.size → R (.ok (.ret .none)) t') →
      codeAny (model prog w) B (.builtin "set.update.loop" ⟨[.ref s.heap.objs.size, .ref I], []⟩) R t)
    (k : ∀ (h' : Heap) (tk : Nat), Z h' s.heap.objs.size → (∀ b o, s.heap.get? b = some o → h'.get? b = some o) → Q (.ref s.heap.objs.size) { s with heap := h', toks := tk }) :
    wpAny (model prog w) A (call (.type "set") [.ref l]) Q E s := by
  have born := PySem.F.called_set
  obtain ⟨cls, rest, eqm⟩ := born.mro
  have a1 := born.made
  have a2 := born.sub
  have a3 := born.notType
  have a4 := born.canCreate
  have a5 := PySem.F.typeCall_set_1 (.ref l)
  refine wpAny_call (codeAny_of_tree ?_)
  show wpAny _ _ (callAny (.type "set") _) _ _ _
  refine wpAny_pure ⟨Code.quiet_builtin _ (by decide +kernel), codeAny_builtin PySem.F.entry_type_call ?_⟩
  rw [Around.under_plain (weight_type_call_type "set" [.ref l] []) rfl]
  repeat (any_goals (first | assumption | wp_step))
  let fresh : Bool → Obj := fun b => { cls := .type "set", dict := none, data := .set #[] 0 (.fresh 0 0 b) }
  refine codeAny_mono (code_set_new_1 (.ref l) (E := E) (Q₁ := fun u t => ∃ b, u = .ref s.heap.objs.size ∧ t = { s with heap := s.heap.push (fresh b) }) fun b => ⟨b, rfl, rfl⟩) fun r t hr => ?_
  rcases r with e | fl
  · exact hr
  cases fl with
  | next => exact hr.elim
  | brk => exact hr.elim
  | cont => exact hr.elim
  | ret u =>
  obtain ⟨b, rfl, rfl⟩ := hr
  have at_ : (s.heap.push (fresh b)).get? s.heap.objs.size = some (fresh b) := Heap.get?_push_size _ rfl
  have a6 : Shared.TypeIs { s with heap := s.heap.push (fresh b) } (.ref s.heap.objs.size) "set" := ⟨_, at_, rfl⟩
  have a7 := born.init.lookup
  have a8 := born.init.bind (.ref s.heap.objs.size)
  repeat (any_goals (first | assumption | wp_step))
  have ll : l < s.heap.objs.size := by
    obtain ⟨o, ho, _⟩ := id hl
    exact Heap.lt_size ho
  have hl2 : (s.heap.push (fresh b)).IsList l items := hl.push _
  refine codeAny_mono (codeAny_call_builtin (R := wants (fun u t => u = .none ∧ ∃ h' tk, t = { s with heap := h', toks := tk } ∧ Z h' s.heap.objs.size ∧ ∀ b o, s.heap.get? b = some o → h'.get? b = some o) E) born.init.plain PySem.F.entry_set_init (check_set_init_1 a6 ?_)) fun r t hr => ?_
  · obtain ⟨ol, hol, hcl, nl, hdl⟩ := id hl
    obtain ⟨lc, ld_, ldat, lsl⟩ := ol
    dsimp only at hcl hdl
    subst hcl hdl
    have hol2 : (s.heap.push (fresh b)).get? l = some { cls := .type "list", dict := ld_, data := .seq items nl, slots := lsl } := Heap.get?_push_of_some _ hol
    have b1 := PySem.F.sub_list_set
    have b2 := PySem.F.sub_list_frozenset
    have b3 : (Value.type "list" == Value.type "dict") = false := by decide
    unfold Builtin.«set.__init__» noKeywords Builtin.Frozenset.updateFrom
    generalize hold : pyIter = it
    wp_walk
    subst hold
    refine wpAny_pyIter_list hl2 (wpAny_bind (wpAny_runValue ?_))
    have nI : (s.heap.push (fresh b)).objs.size = s.heap.objs.size + 1 := Heap.size_push _ _
    refine loop _ _ _ _ (by simp [calm]) (by rw [nI]; exact Nat.ne_of_lt (Nat.lt_succ_self _)) (by rw [nI]; exact Nat.ne_of_lt (Nat.lt_succ_of_lt ll)) (Nat.ne_of_gt ll) ?_ ?_ ?_ fun t' m z => ?_
    · exact ⟨_, Heap.get?_push_size _ rfl, rfl, rfl⟩
    · exact hl2.push _
    · exact SetOf_congr ((setObjOf_fresh (knd := PySem.strKind prog w) b).setOf (Heap.get?_push_of_some _ at_) (by unfold scanBound; omega)) (fun _ => rfl) rfl
    · obtain ⟨h', g', d', tk', os'⟩ := t'
      obtain rfl : g' = s.gens := m.gens
      obtain rfl : d' = s.drawn := m.drawn
      obtain rfl : os' = s.os := m.os
      refine wpAny_pure (wpAny_pure ⟨rfl, h', tk', rfl, z, fun c o q => ?_⟩)
      have lc := Heap.lt_size q
      refine m.heap c o (fun q2 => ?_) (Heap.get?_push_of_some _ (Heap.get?_push_of_some _ q))
      simp only [List.mem_cons, List.not_mem_nil, or_false] at q2
      rw [nI] at q2
      rcases q2 with q2 | q2
      · exact absurd lc (by rw [q2]; exact Nat.lt_irrefl _)
      · exact absurd lc (by rw [q2]; exact Nat.not_lt.mpr (Nat.le_succ _))
  · rcases r with e | fl
    · exact hr
    cases fl with
    | next => exact hr.elim
    | brk => exact hr.elim
    | cont => exact hr.elim
    | ret u =>
    obtain ⟨rfl, h', tk, rfl, z, keep⟩ := hr
    repeat (any_goals (first | assumption | wp_step))
    exact k h' tk z keep
end
section
variable {X : Cx}
/-- len(set(xs)), xs a list of texts -/
def tLenT (K : PySem.W.Frag) (ta : TE) : TE := fun σ H Q => ta σ H fun x H1 => ∃ (l : Addr) (xs : List Str), x = .ref l ∧ SqL K H1 l (xs.map V.str) ∧ xs.Nodup ∧ xs.length < 100 ∧ Q (.int xs.length) H1
theorem pe_lenT {a : Expr} {ta : TE} {p p2 q pos : Pos} (hc : X.calm = true) (hg : Gl X "len") (hm : X.mg "len" = none) (hg2 : Gl X "set") (hm2 : X.mg "set" = none) (ha : PE X a ta)
    (na : starEach [a] X.env = (false, eval a X.env) :: starEach [] X.env := by rfl) : PE X (.Call (.Name "len" p) [.Call (.Name "set" p2) [a] [] q] [] pos) (tLenT X.K ta) := by
  refine ⟨fun pins s σ H Q I want => ?_⟩
  refine Call_ (ld_blt I hg hm boot_len (PyProof.Rows.callWith_builtin1 (PyProof.Rows.args_cons (Call_ (ld_blt I hg2 hm2 boot_set ?_)) rfl) rfl rfl))
  refine PyProof.Rows.callWith_type1 (PyProof.Rows.args_cons (thn (ha.run pins s σ H _ I want) fun v s1 ⟨x, H1, I1, r1, l, xs, ex, hq, nd, few, q1⟩ => PyProof.Rows.args_nil ?_) na) na rfl
  subst ex
  cases r1
  obtain ⟨its, r, pl, hz⟩ := I1.list hq
  have he : its.length = xs.length := by rw [← r.length, List.length_map]
  have hs : its.toArray.size = xs.length := by rw [List.size_toArray, he]
  refine set_of_list (I1.ok.hd hc) pl.isList (fun h a => h.SetOf (PySem.strKind X.prog X.w) a (hasT xs xs.length) xs.length) (fun B R J t hh n1 n2 n3 i1 i2 i3 fin => ?_) fun h' tk hS keep => ?_
  · have W := (Walks.list (prog := X.prog) (w := X.w) (A := B.in1) (by simp [hh]) J l n2 its.toArray).toS
    rw [hs] at W
    refine put_texts W _ ?_ nd few (fun i v hv => SS.strs_at (L2.strsAre_of r) i v ?_) xs.length 0 t (by omega) ⟨i1, i2⟩ (SetOf_congr i3 (fun _ => rfl) rfl) fin
    · simp only [List.mem_cons, List.not_mem_nil, or_false, not_or]
      exact ⟨n1, n3⟩
    · rw [Array.getElem?_toList]
      exact hv
  · refine PyProof.Rows.args_nil ?_
    obtain ⟨o, es, ep, t, ho, hex, hd, _, _, _, hf, hn⟩ := hS
    have I2 : Inv X pins σ H1 { s1 with heap := h', toks := tk } := I1.kept fun b o e => keep b o e
    exact call_len_set ho hex hd hf (by rw [hn] <;> omega) ⟨.int xs.length, H1, I2.tok _, ⟨_, by rw [hn]⟩, q1⟩
end
end My
set_option Elab.async false
set_option linter.all false
set_option maxRecDepth 100000
set_option maxHeartbeats 4000000
/-! for i, x in enumerate(t), t a tuple -/
namespace My
open PySem L2 PySem.Spec PyProof.Rows PySem.W
abbrev walker (t : Addr) : Obj := { cls := .type "tuple_iterator", data := .fields #[.ref t, .int 0 0] }
abbrev counter (it : Addr) : Obj := { cls := .type "enumerate", data := .fields #[.none, .bool false, .ref it, rawInt 0, .none, .none] }
theorem born_enum (t : Addr) (items : Array Value) : Meets (Builtin.«enumerate.__new__» ⟨[.type "enumerate", .ref t], []⟩) (fun _ R s => s.heap.IsTuple t items ∧
      R (.ok (.ret (.ref (s.heap.push (walker t)).objs.size))) { s with heap := (s.heap.push (walker t)).push (counter s.heap.objs.size) }) := .of_wp fun prog w A R s want => by
  obtain ⟨hp, g, d, tk, os⟩ := s
  obtain ⟨is_, want⟩ := want
  have a1 := sub_enumerate
  have walks : ∀ {B : Around} {E : Value → Shared → Prop} {Q : Value → Shared → Prop}, Q (.ref hp.objs.size) ⟨hp.push (walker t), g, d, tk, os⟩ → wpAny (model prog w) B (pyIter (.ref t)) Q E ⟨hp, g, d, tk, os⟩ := fun q =>
    (begins_tuple t items).iter prog w _ _ ⟨hp, g, d, tk, os⟩ _ is_ q
  obtain ⟨ot, hot, hct, nt, hdt⟩ := id is_
  obtain ⟨c0, d0, dt0, s0⟩ := ot
  dsimp only at hct hdt
  subst hct hdt
  wp_walk using wpAny_loadPart' hot
  refine wpAny_stack_any fun st => wpAny_pure ?_
  split
  · rename_i c _ _ _ _ _
    cases (c == Value.type "enumerate") <;> (wp_walk using wpAny_loadPart' hot, walks; exact ⟨_, rfl, want⟩)
  · wp_walk using wpAny_loadPart' hot, walks
    exact ⟨_, rfl, want⟩
theorem call_enumT {prog : Program} {w : World} {A : Around} {E : Value → Shared → Prop} {s : Shared} {t : Addr} {items : Array Value} {Q : Value → Shared → Prop} (is_ : s.heap.IsTuple t items)
    (k : ∀ h', IsEnum h' (s.heap.objs.size + 1) s.heap.objs.size 0 .none → h'.IsTupleIter s.heap.objs.size t 0 → (∀ b o, s.heap.get? b = some o → h'.get? b = some o) → Q (.ref (s.heap.objs.size + 1)) { s with heap := h' }) :
    wpAny (model prog w) A (call (.type "enumerate") [.ref t]) Q E s := by
  have z1 : (s.heap.push (walker t)).objs.size = s.heap.objs.size + 1 := Heap.size_push ..
  have here : IsEnum ((s.heap.push (walker t)).push (counter s.heap.objs.size)) (s.heap.objs.size + 1) s.heap.objs.size 0 .none := by
    have q := Heap.get?_push_size (s.heap.push (walker t)) (o := counter s.heap.objs.size) rfl
    rw [z1] at q
    exact q
  refine callType_new F.called_enumerate (by decide) (F.typeCall_enumerate_1 _) (F.newCall_enumerate_1 _) (fun obj => F.args_object_init_2 obj _) F.entry_enumerate_new (born_enum t items) ⟨is_, ?_⟩
  show _ ∧ _
  rw [z1]
  exact ⟨⟨_, here, rfl⟩, k _ here ⟨_, Heap.get?_push_of_some _ (Heap.get?_push_size _ rfl), rfl, rfl⟩ fun b o x => Heap.get?_push_of_some _ (Heap.get?_push_of_some _ x)⟩
def IteT (K : PySem.W.Frag) (a : Addr) : It where
  go := fun i H => ∃ (xs : List V) (x : V), SqT K H a xs ∧ xs[i]? = some x
  yld := fun i H v H' => ∃ T x, v = .ref T ∧ H T = none ∧ H' = upd H T (.tup [.int (i : Nat), x]) ∧ ∀ xs, SqT K H a xs → xs[i]? = some x
  stop := fun i H => ∃ xs : List V, SqT K H a xs ∧ xs.length = i
theorem turn_enumT {P : Program} {w : World} {K : PySem.W.Frag} {elts : List Expr} {kk : Nat} {tpos : Pos} (a e it : Addr) :
    Turn P w K (.Tuple elts kk tpos) (IteT K a) [e, it] e (fun i h => (∃ old, IsEnum h e it ((i : Nat) : Int) old) ∧ h.IsTupleIter it a i ∧ e ≠ it) where
  mem := by simp
  obj := fun i h st b hb => by
    obtain ⟨⟨old, he⟩, ⟨o, ho, hc, hd⟩, _⟩ := st
    rcases (show b = e ∨ b = it by simpa using hb) with rfl | rfl
    · exact ⟨_, he, fun v q => nomatch q⟩
    · exact ⟨o, ho, fun v q => by rw [hd] at q; cases q⟩
  keep := fun i h h' st k => ⟨st.1.imp fun old he => k e (by simp) _ he, st.2.1.at fun o q => k it (by simp) o q, st.2.2⟩
  item := by
    intro X hP hw hK hc i pins s σ H E I hf st hg
    subst hP hw hK
    obtain ⟨⟨old, he⟩, hit, hne⟩ := st
    obtain ⟨xs, x, hq, hx⟩ := hg
    obtain ⟨its, rv, p, hz⟩ := I.tuple hq
    have isT : s.heap.IsTuple a its.toArray := p
    obtain ⟨u, hu, ru⟩ := rv.get hx
    have hel : e < s.heap.objs.size := Heap.lt_size he
    have hil : it < s.heap.objs.size := by obtain ⟨_, q, _⟩ := hit; exact Heap.lt_size q
    have nai : a ≠ it := fun z => by
      obtain ⟨o1, h1, c1, _⟩ := id isT
      obtain ⟨o2, h2, c2, _⟩ := id hit
      rw [z, h2] at h1
      cases h1
      rw [c2] at c1
      exact absurd c1 (by decide)
    have nea : e ≠ a := fun z => by
      obtain ⟨o1, h1, c1, _⟩ := id isT
      rw [← z, he] at h1
      cases h1
      exact absurd (show ("enumerate" : String) = "tuple" from Value.type.inj c1) (by decide)
    have li : i < its.toArray.size := by
      rw [List.size_toArray, ← rv.length]
      exact (List.getElem?_eq_some_iff.mp hx).1
    refine wpAny_pyNext_enum_itemD (Draws.tuple (by simpa using I.ok.hd hc) it a nai its.toArray) he ⟨hit, isT⟩ li hne (by simp [hne, nea]) fun x' h' tk hx' ho st' hT hsz hk => ?_
    obtain rfl : x' = u := by
      have e2 : its.toArray[i]? = some u := by simpa using hu
      rw [e2] at hx'
      exact (Option.some.inj hx').symm
    refine ⟨_, rfl, wpAny_letOwnedTupleGo_enum (s := { s with heap := h', toks := tk + 1 }) ho fun h'' he' sb => ?_⟩
    have hT2 : h''.get? s.heap.objs.size = some { cls := .type "tuple", data := .seq #[.int i tk, x'] } := (sb.2 _ (Nat.ne_of_gt hel)).trans hT
    have new : ObjOk X.prog X.w (upd H s.heap.objs.size (.tup [.int (i : Nat), x])) h'' s.heap.objs.size (.tup [.int (i : Nat), x]) :=
      ⟨by show 2 ≤ sizeLine; decide, [.int i tk, x'], .cons ⟨_, rfl⟩ (.cons ru .nil), ⟨_, hT2, rfl, _, rfl⟩⟩
    have I1 : Inv X pins σ (upd H s.heap.objs.size (.tup [.int (i : Nat), x])) { s with heap := h'', toks := tk + 1 } :=
      I.turnedNew (ch := [e, it]) (fun b ob hb q => (sb.2 b (fun z => hb (by simp [z]))).trans (hk b ob (fun z => hb (by simp [z])) (fun z => hb (by simp [z])) q)) hf (Nat.le_refl _) new
    refine ⟨.ref s.heap.objs.size, _, I1, rfl, ⟨_, x, rfl, I.hok.fresh (Nat.le_refl _), rfl, fun ys hy => by rw [I.tuple_inj hy hq]; exact hx⟩, ⟨⟨x', ?_⟩, st'.1.at fun o q => (sb.2 it (Ne.symm hne)).trans q, hne⟩, fun b hb => ?_⟩
    · rw [show ((i + 1 : Nat) : Int) = (i : Int) + 1 by omega]
      exact he'
    · have hb' : b < s.heap.objs.size := by
        rcases (show b = e ∨ b = it by simpa using hb) with rfl | rfl
        · exact hel
        · exact hil
      rw [upd_ne (Nat.ne_of_lt hb')]
      exact (hf b hb).1
  done := by
    intro X hP hw hK hc i pins s σ H E I hf st hg
    subst hP hw hK
    obtain ⟨⟨old, he⟩, hit, hne⟩ := st
    obtain ⟨xs, hq, hx⟩ := hg
    obtain ⟨its, rv, p, hz⟩ := I.tuple hq
    have isT : s.heap.IsTuple a its.toArray := p
    obtain ⟨f0, f1, f2, f3, f4, f5⟩ := hf it (by simp)
    have nai : a ≠ it := fun z => by
      obtain ⟨o1, h1, c1, _⟩ := id isT
      obtain ⟨o2, h2, c2, _⟩ := id hit
      rw [z, h2] at h1
      cases h1
      rw [c2] at c1
      exact absurd c1 (by decide)
    have hl : its.toArray.size = i := by rw [List.size_toArray, ← rv.length, hx]
    have D := Draws.tuple (prog := X.prog) (w := X.w) (A := X.A.in1) (by simpa using I.ok.hd hc) it a nai its.toArray
    rw [hl] at D
    exact wpAny_pyNext_enum_endD D he ⟨hit, isT⟩ fun h' eb => ⟨rfl, I.turned (t' := s.toks) (fun b o hb q => eb b o hb q) f0 f1 f3 f4 f5⟩
  self := fun A i s Q E st h => by
    obtain ⟨⟨_, he⟩, _⟩ := st
    exact wpAny_pyIter_enum he h
def iEnumT (K : PySem.W.Frag) (ta : TA) : TI := fun σ H R => ta σ H fun vs H1 => ∃ a xs, vs = [.ref a] ∧ SqT K H1 a xs ∧ R (IteT K a) H1
theorem pi_enumT {X : Cx} {e : Expr} {ta : TA} {p pos tpos : Pos} {elts : List Expr} {kk : Nat} (hg : Gl X "enumerate") (hm : X.mg "enumerate" = none) (ha : PA X [e] ta) (hs : starEach [e] X.env = [(false, eval e X.env)] := by rfl) :
    PI X (.Tuple elts kk tpos) (.Call (.Name "enumerate" p) [e] [] pos) (iEnumT X.K ta) := by
  refine ⟨fun pins s σ H R I want => ?_⟩
  refine Call_ (ld_blt I hg hm boot_enumerate (PyProof.Rows.callWith_type1 (thn (ha.run pos pins s σ H _ I want) fun us s1 ⟨vs, H1, I1, r1, a, xs, ev, hq, q⟩ => ?_) hs rfl))
  subst ev
  cases r1 with
  | @cons _ u0 _ ur ra rest =>
    cases rest
    obtain rfl : u0 = Value.ref a := ra
    obtain ⟨its, rv, p', hz⟩ := I1.tuple hq
    refine call_enumT (show s1.heap.IsTuple a its.toArray from p') fun h' he hit keep => wpAny_pyIter_enum he ?_
    have I2 : Inv X pins σ H1 { s1 with heap := h' } := I1.kept (t' := s1.toks) keep
    refine ⟨s1.heap.objs.size + 1, [s1.heap.objs.size + 1, s1.heap.objs.size], _, _, H1, rfl, I2, turn_enumT a (s1.heap.objs.size + 1) s1.heap.objs.size, ⟨⟨.none, he⟩, hit, Nat.succ_ne_self _⟩, fun b hb => ?_, q⟩
    have big : s1.heap.objs.size ≤ b := by
      rcases (show b = s1.heap.objs.size + 1 ∨ b = s1.heap.objs.size by simpa using hb) with rfl | rfl
      · exact Nat.le_add_right _ _
      · exact Nat.le_refl _
    exact I1.fpOk big (I1.hok.fresh big)
theorem walk_enumT {K : PySem.W.Frag} {a : Addr} {xs : List V} : Walk (IteT K a) xs.length (fun H => SqT K H a xs) (YPair (fun i => some (.int (i : Nat))) (fun i => xs[i]?)) := by
  refine ⟨fun i _ hi q => ⟨xs, xs[i], q, List.getElem?_eq_getElem hi⟩, fun _ q => ⟨xs, q, rfl⟩, fun i H v H' _ q y => ?_⟩
  obtain ⟨T, x, h1, h2, h3, h4⟩ := y
  exact ⟨T, _, x, h1, h2, h3, rfl, h4 xs q⟩
end My
set_option Elab.async false
set_option linter.all false
set_option maxRecDepth 100000
set_option maxHeartbeats 4000000
/-! a text times a number -/
namespace My
open PySem L2 PySem.Spec PyProof.Rows
def timesS (s : Str) (n : Nat) : Str := ⟨(List.replicate n s.cps).foldl (· ++ ·) #[]⟩
theorem times_size (a : Array Nat) : ∀ (n : Nat) (acc : Array Nat), ((List.replicate n a).foldl (· ++ ·) acc).size = acc.size + a.size * n
  | 0, acc => by simp
  | n + 1, acc => by
    rw [List.replicate_succ, List.foldl_cons, times_size a n, Array.size_append, Nat.mul_succ]
    omega
theorem op_mulS {X : Cx} : OpR X (binaryOp .Mult) (fun x y H Q => ∃ (s : Str) (n : Nat), x = .str s ∧ y = .int (n : Int) ∧ s.length ≤ 1000 ∧ s.length ≠ 0 ∧ 1 ≤ n ∧ n ≤ 1000 ∧ Q (.str (timesS s n)) H) := by
  intro pins st σ H x y v u Q I rx ry want
  obtain ⟨s, n, rfl, rfl, ls, l0, n1, n2, q⟩ := want
  obtain ⟨t, rfl⟩ := rx
  obtain ⟨t', rfl⟩ := ry
  refine P.mul_str ?_ (fun _ _ => ?_) (fun _ _ => ?_) ?_
  · rw [decide_eq_false (show ¬ (n : Int) < -(2 ^ 63) by omega), decide_eq_false (show ¬ (n : Int) ≥ 2 ^ 63 by omega)]
    rfl
  · intro z
    have h0 : s.length * n ≤ 1000 * 1000 := Nat.mul_le_mul ls n2
    have h1 : ((s.length : Nat) : Int) * (n : Int) ≤ 2 ^ 63 - 1 := by
      have : ((s.length * n : Nat) : Int) ≤ ((1000 * 1000 : Nat) : Int) := Int.ofNat_le.mpr h0
      rw [Int.natCast_mul] at this
      omega
    have h2 := Int.le_ediv_of_mul_le (show (0 : Int) < (n : Int) by omega) h1
    omega
  · refine decide_eq_false ?_
    have h1 : s.length * (n : Int).toNat ≤ 1000 * 1000 := by
      rw [Int.toNat_natCast]
      exact Nat.mul_le_mul ls n2
    exact Nat.not_lt.mpr (Nat.le_trans h1 (by decide))
  · rw [if_neg (show ¬ (n : Int) < 1 by omega)]
    by_cases c : n = 1
    · subst c
      rw [if_pos (by simp)]
      have e : timesS s 1 = s := by
        show (⟨#[] ++ s.cps⟩ : Str) = s
        rw [Array.empty_append]
      rw [e] at q
      exact ⟨.str s, H, I, ⟨_, rfl⟩, q⟩
    · rw [if_neg (by simp; omega)]
      refine ⟨?_, ⟨.str (timesS s n), H, I.tok _, ⟨_, by rw [Int.toNat_natCast]; rfl⟩, q⟩⟩
      rw [Int.toNat_natCast]
      have h0 : s.length * n ≤ 1000 * 1000 := Nat.mul_le_mul ls n2
      have e : (timesS s n).cps.size = s.length * n := by
        have z := times_size s.cps n #[]
        rw [Array.size_empty, Nat.zero_add] at z
        exact z
      exact Nat.le_trans (Nat.le_of_eq e) (Nat.le_trans h0 (by decide))
end My
set_option Elab.async false
set_option linter.all false
set_option maxRecDepth 100000
set_option maxHeartbeats 4000000
/-! == and != by an own __eq__ whose answer is whatever its promise says -/
namespace My
open PySem L2 PySem.Spec PyProof.Rows
section
variable {X : Cx} {n : Nat} {CX : CXT} {C f : Addr} {fd : FuncData} {ps : List Str} {sp : Sp} {E : XK}
/-- two instances of the class at C; the answer by the promise of __eq__ -/
def rOwnEq (C : Addr) (sp : Sp) (E : XK) : R2 := fun x y H Q => ∃ a b dx dy fs gs, x = .ref a ∧ y = .ref b ∧ H a = some (.ins C dx fs) ∧ H b = some (.ins C dy gs) ∧ sp [.ref a, .ref b] H (fun v H' => ∃ k, v = .bl k ∧ Q (.bl k) H') E
def rOwnNe (C : Addr) (sp : Sp) (E : XK) : R2 := fun x y H Q => ∃ a b dx dy fs gs, x = .ref a ∧ y = .ref b ∧ H a = some (.ins C dx fs) ∧ H b = some (.ins C dy gs) ∧ sp [.ref a, .ref b] H (fun v H' => ∃ k, v = .bl k ∧ Q (.bl (!k)) H') E
/-- the call of __eq__ itself, from any place with room -/
theorem own_call {A : Around} {pins : List (Addr × Obj)} {s : Shared} {σ : L2.St} {H : Hp} {a b : Addr} {Q : VK} (F : FnOk X.prog X.w X.K X.mg X.base CX n f fd ps sp) (hb : Binds X.K fd ps []) (hx : Passes CX X E) (hr : Room n A) (fr : A.frames = X.A.frames)
    (I : Inv X pins σ H s) (h : sp [.ref a, .ref b] H Q E) : wpAny (model X.prog X.w) A (call (.ref f) [.ref a, .ref b]) (EP X pins σ Q) X.xe s := by
  have e0 : Env0 X.prog X.w X.K X.mg X.base A X.stack s H := by
    have e := I.env0
    exact ⟨by rw [fr]; exact e.frames, e.mod, e.bs, e.bsz, e.funs, e.frf, e.hok, e.bare⟩
  have hl := F.len _ _ _ _ h
  refine wpAny_call (codeAny_mono (F.run A X.stack s H ⟨[.ref a, .ref b], []⟩ [.ref a, .ref b] [.ref a, .ref b] _ E hr e0 (by
    have := hb s [.ref a, .ref b] I.kIn (by simpa using hl)
    simpa using this) (.cons rfl (.cons rfl .nil)) h) fun r s' hq => ?_)
  cases r with
  | error e => exact hx pins σ H s e s' I hq
  | ok fl =>
    cases fl with
    | ret w => exact I.after hq
    | next => exact False.elim hq
    | brk => exact False.elim hq
    | cont => exact False.elim hq
theorem op_ownEq (F : FnOk X.prog X.w X.K X.mg X.base CX n f fd ps sp) (hs : PySem.W.findIn X.K (.ref C) "__eq__" = some (some (.ref f))) (hf : PySem.W.isFn X.K (.ref f) = true) (hb : Binds X.K fd ps []) (hx : Passes CX X E) (hr : Room n X.A) :
    OpR X (compareOp .Eq) (rOwnEq C sp E) := by
  intro pins s σ H x y v u Q I rx ry h
  obtain ⟨a, b, dx, dy, fs, gs, rfl, rfl, ha, hb', h⟩ := h
  cases rx
  cases ry
  obtain ⟨mA, J, _⟩ := ins_get I.hok ha
  obtain ⟨mB, J', _⟩ := ins_get I.hok hb'
  obtain ⟨od, J, _⟩ := J.look
  obtain ⟨od', J', _⟩ := J'.look
  obtain ⟨m, hF⟩ := I.fr
  show wpAny (model X.prog X.w) X.A (richCompare .Eq (.ref a) (.ref b)) (EP X pins σ Q) X.xe s
  refine PySem.W.cmp_K (op := .Eq) (tb := .ref C) (by have := hr.un; omega) hF I.ok.mod.kin J J'.type (by simp [PySem.W.notFirst]) hs hf ?_
  refine wpAny_mono (own_call F hb hx hr rfl I h) (fun r s' z => ?_) fun _ _ z => z
  obtain ⟨w, H', I', rw_, k, rfl, q⟩ := z
  cases rw_
  exact ⟨.bl k, H', I', rfl, q⟩
/-- a slot of object, bound and called -/
theorem ifBound_slot {M : Model} {A : Around} {E : Value → Shared → Prop} {K : PySem.W.Frag} {s : Shared} {x C : Addr} {ox : Obj} {od : Option Obj} {name : Str} {id : String} {args : List Value} {Q : Option Value → Shared → Prop} (KX : K.In s.heap) (I : PySem.W.InstAt s.heap x ox C od)
    (hs : PySem.W.findIn K (.ref C) name = some (some (.builtin id))) (bd : bindSpecial (.builtin id) (.ref x) = pure (.builtin id, [.ref x])) (h : wpAny M A (call (.builtin id) (.ref x :: args)) (fun v => Q (some v)) E s) :
    wpAny M A (callSpecialIfBound? (.ref x) name args) Q E s := by
  have told : wpAny M A (call (.builtin id) ([.ref x] ++ args) >>= fun v => pure (some v)) Q E s := wpAny_bind (wpAny_mono h (fun v s' z => wpAny_pure z) fun _ _ z => z)
  simp only [callSpecialIfBound?, bindSpecialIfBound?]
  refine wpAny_holding (wpAny_bind (wpAny_bind (wpAny_bind (I.type.here ((PySem.W.looks_findIn KX hs).here ?_)))))
  simp only [bd]
  refine wpAny_bind (wpAny_askSetting (wpAny_ite ?_))
  split
  · exact wpAny_bind (wpAny_pure (wpAny_pure told))
  · exact wpAny_tryCatch (wpAny_bind (wpAny_pure (wpAny_pure told)))
theorem ne_bind (x : Addr) : bindSpecial (.builtin "object.__ne__") (.ref x) = pure (.builtin "object.__ne__", [.ref x]) := F.cmp_object.ne.bind (.ref x)
theorem op_ownNe (F : FnOk X.prog X.w X.K X.mg X.base CX n f fd ps sp) (hs : PySem.W.findIn X.K (.ref C) "__eq__" = some (some (.ref f))) (hf : PySem.W.isFn X.K (.ref f) = true) (hb : Binds X.K fd ps []) (hx : Passes CX X E) (hr : Room (n + 1) X.A)
    (hn : PySem.W.findIn X.K (.ref C) "__ne__" = some (some (.builtin "object.__ne__"))) (hm : PySem.W.mroIn X.K C (.type "object") = some true) :
    OpR X (compareOp .NotEq) (rOwnNe C sp E) := by
  intro pins s σ H x y v u Q I rx ry h
  obtain ⟨a, b, dx, dy, fs, gs, rfl, rfl, ha, hb', h⟩ := h
  cases rx
  cases ry
  obtain ⟨mA, J, _⟩ := ins_get I.hok ha
  obtain ⟨mB, J', _⟩ := ins_get I.hok hb'
  obtain ⟨od, J, _⟩ := J.look
  obtain ⟨od', J', _⟩ := J'.look
  have KX := I.kIn
  have hu := hr.un
  have inner : wpAny (model X.prog X.w) X.A.in1 (Builtin.«object.__ne__» ⟨[.ref a, .ref b], []⟩) (fun t s' => ∃ k, t = .done (.ret (.bool k)) ∧ EP X pins σ Q (.bool k) s') X.xe s := by
    unfold Builtin.«object.__ne__»
    refine wpAny_bind (m := slotArgs "__ne__" 1 _) (wpAny_pure ?_)
    dsimp only
    refine wpAny_bind (wpAny_cRoomFor (by show X.A.units + 1 < cLine; omega) ?_)
    refine wpAny_bind (PySem.W.ifBound_K KX J hs hf (wpAny_mono (own_call F hb hx hr.in1 rfl I h) (fun r s' z => ?_) fun _ _ z => z))
    obtain ⟨w, H', I', rw_, k, rfl, q⟩ := z
    cases rw_
    dsimp only
    refine wpAny_bind (m := truthy (.bool k)) ?_
    refine wpAny_truthy_bool ?_
    exact wpAny_pure ⟨!k, rfl, .bl (!k), H', I', rfl, q⟩
  show wpAny (model X.prog X.w) X.A (richCompare .NotEq (.ref a) (.ref b)) (EP X pins σ Q) X.xe s
  have sub : PySem.W.Looks (model X.prog X.w) s.heap (isInstance (.ref a) (.type "object")) true := J.type.andThen (PySem.W.looks_mroIn KX hm)
  have one : wpAny (model X.prog X.w) X.A (tryCompare (.ref a) "__ne__" (.ref b)) (fun r s' => ∃ k, r = some (.bool k) ∧ EP X pins σ Q (.bool k) s') X.xe s := by
    unfold tryCompare
    refine wpAny_bind (ifBound_slot KX J hn (ne_bind a) (wpAny_call (codeAny_call_builtin PySem.F.cmp_object.ne.plain PySem.F.cmpEntry_ne (PySem.W.check_slot PySem.F.cmpKind_ne PySem.F.cmpSplit_ne sub (PySem.F.cmpArgs_ne _ _) (wpAny_mono inner (fun t s' z => ?_) fun _ _ z => z)))))
    obtain ⟨k, rfl, q⟩ := z
    exact wpAny_pure ⟨k, rfl, q⟩
  unfold richCompare
  simp only [PySem.oneThing_ref]
  refine wpAny_holding (wpAny_bind (wpAny_cRoomFor (by omega) ?_))
  refine wpAny_bind (J.type.here (wpAny_bind (J'.type.here ?_)))
  rw [if_neg (show ¬ (Value.ref C != Value.ref C) = true by simp)]
  refine wpAny_bind (wpAny_pure ?_)
  simp only [Bool.false_eq_true, if_false]
  refine wpAny_bind (wpAny_mono one (fun r s' z => ?_) fun _ _ z => z)
  obtain ⟨k, rfl, q⟩ := z
  exact wpAny_pure q
/-! ### len(x), x an instance with its own __len__ -/
def rOwnLen (C : Addr) (sp : Sp) (E : XK) : List V → Hp → VK → Prop := fun xs H Q => ∃ a dx fs, xs = [.ref a] ∧ H a = some (.ins C dx fs) ∧ sp [.ref a] H (fun v H' => ∃ k : Nat, v = .int (k : Int) ∧ (k : Int) < 2 ^ 63 ∧ Q (.int (k : Int)) H') E
theorem call_ownLen (F : FnOk X.prog X.w X.K X.mg X.base CX n f fd ps sp) (hs : PySem.W.findIn X.K (.ref C) "__len__" = some (some (.ref f))) (hf : PySem.W.isFn X.K (.ref f) = true) (hb : Binds X.K fd ps []) (hx : Passes CX X E) (hr : Room (n + 1) X.A) :
    CallR X (.builtin "len") (rOwnLen C sp E) := by
  intro pins s σ H xs us Q I r h
  obtain ⟨a, dx, fs, rfl, ha, h⟩ := h
  rw [Vals.ref1 r]
  obtain ⟨mA, J, _⟩ := ins_get I.hok ha
  obtain ⟨od, J, _⟩ := J.look
  obtain ⟨m, hF⟩ := I.fr
  refine PySem.W.len_K hF I.ok.mod.kin J hs hf ?_
  have e0 : Env0 X.prog X.w X.K X.mg X.base X.A.in1 X.stack s H := by
    have e := I.env0
    exact ⟨e.frames, e.mod, e.bs, e.bsz, e.funs, e.frf, e.hok, e.bare⟩
  have hl := F.len _ _ _ _ h
  refine wpAny_call (codeAny_mono (F.run X.A.in1 X.stack s H ⟨[.ref a], []⟩ [.ref a] [.ref a] _ E hr.in1 e0 (by
    have := hb s [.ref a] I.kIn (by simpa using hl)
    simpa using this) (.cons rfl .nil) h) fun r s' hq => ?_)
  cases r with
  | error e => exact hx pins σ H s e s' I hq
  | ok fl =>
    cases fl with
    | ret w =>
      obtain ⟨z, H', I', rz, k, rfl, hk, q⟩ := I.after hq
      obtain ⟨t, rfl⟩ := rz
      exact ⟨⟨Int.natCast_nonneg k, hk⟩, .int (k : Int), H', I'.tok _, ⟨_, rfl⟩, q⟩
    | next => exact False.elim hq
    | brk => exact False.elim hq
    | cont => exact False.elim hq
end
end My
set_option Elab.async false
set_option linter.all false
set_option maxRecDepth 100000
set_option maxHeartbeats 4000000
/-! f-strings of None, texts, ints; a try with several clauses, each of which may name its exception -/
namespace My
open PySem L2 PySem.Spec PyProof.Rows
section
variable {X : Cx}
/-- {x}, x None, a text or an int -/
def tFmtN (te : TE) : TE := fun σ H Q => te σ H fun x H1 => (x = .non ∧ Q (.str "None") H1) ∨ (∃ y : Str, x = .str y ∧ y.length ≤ sizeLine ∧ Q (.str y) H1) ∨ ∃ i : Int, x = .int i ∧ i.natAbs.log2 < 1920 ∧ Q (.str (toString i)) H1
theorem pe_fmtN {e : Expr} {te : TE} {pos : Pos} (he : PE X e te) : PE X (.FormattedValue e (-1) none pos) (tFmtN te) := by
  refine ⟨fun pins s σ H Q I h => wpAny_FormattedValue_plain (thn (he.run pins s σ H _ I h) fun v s1 ⟨x, H1, I1, r1, q⟩ => ?_)⟩
  rcases q with ⟨rfl, q⟩ | ⟨y, rfl, hz, q⟩ | ⟨i, rfl, hz, q⟩
  · cases r1
    exact wpAny_formatField_none ⟨.str "None", H1, I1.tok _, ⟨_, rfl⟩, q⟩
  · obtain ⟨t, rfl⟩ := r1
    exact wpAny_formatField_str ⟨.str y, H1, I1, ⟨t, rfl⟩, q⟩ ⟨.str y, H1, I1.tok _, ⟨_, rfl⟩, q⟩ hz
  · obtain ⟨t, rfl⟩ := r1
    exact wpAny_formatField_int hz ⟨.str (toString i), H1, I1.tok _, ⟨_, rfl⟩, q⟩
/-- an except clause: its class, the slot of its name, its suite -/
structure Clause where
  c : Value
  i : Nat
  ts : Addr → Value → Option Addr → TS
/-- behind a suite the clause's name is unbound -/
def unbound (i : Nat) (D : Ends) : Ends := { nx := fun σ H => D.nx (σ.set i none) H, rt := D.rt, bk := fun σ H => D.bk (σ.set i none) H, ct := fun σ H => D.ct (σ.set i none) H }
/-- what is wished for where an exception comes out of the body: the clauses one behind the other -/
def wClauses (K : PySem.W.Frag) (Wout : WX) (D : Ends) : List Clause → WX
  | [] => Wout
  | k :: r => fun cls d σ H => ∃ b, PySem.W.exmOne K cls k.c = some b ∧ (b = true → ∀ a, H a = none → k.ts a cls d (unbound k.i D) (σ.set k.i (some (.ref a))) H) ∧ (b = false → wClauses K Wout D r cls d σ H)
inductive ClausesOk (X : Cx) : List ExceptHandler → List Clause → Prop
  | nil : ClausesOk X [] []
  | cons {x n : Str} {k : Clause} {b₀ : Stmt} {suite : List Stmt} {np pos' : Pos} {hds : List ExceptHandler} {l : List Clause} (hi : X.N[k.i]? = some n) (hln : X.env.kindOf n = some .local) (hc : Names X x k.c)
      (hsu : ∀ (a : Addr) (oe : Obj) (cls : Value) (d : Option Addr) (pn : List (Addr × Obj)), Zc cls d oe → (∃ vs, oe.data = .fields vs) → PSs (X.suite a ((a, oe) :: pn)) (b₀ :: suite) (k.ts a cls d)) (r : ClausesOk X hds l) :
      ClausesOk X (.ExceptHandler (some (.Name x np)) (some n) (b₀ :: suite) pos' :: hds) (k :: l)
variable {body : List Stmt} {h₀ : ExceptHandler} {hds : List ExceptHandler} {l : List Clause} {pos : Pos} {tb : WX → TS} {Wout : WX}
theorem ps_try_clauses (hs : X.stack = X.env :: X.outer) (hf : X.env.frame = some X.env.locals) (hN : X.N.Nodup) (tk : Takes X Wout)
    (hb : ∀ (W : WX) (pn : List (Addr × Obj)) (xe : Value → Shared → Prop), Takes (X.tr pn xe) W → PassesOwn (model X.prog X.w) X.A X.env xe → PSs (X.tr pn xe) body (tb W))
    (hh : ClausesOk X (h₀ :: hds) l) : PS X (.Try body (h₀ :: hds) [] [] pos) (fun D σ H => tb (wClauses X.K Wout D l) D σ H) := by
  refine ⟨fun pins s σ H D I want => wpAny_Try_except ?_⟩
  have ok := I.ok
  have stacked : X.A.frames = some (X.env :: X.outer) := ok.frames.trans (congrArg some hs)
  let caught : Value → Shared → Prop := fun e s₁ => wpAny (model X.prog X.w) X.A (noteFrame e X.env) (fun _ s₂ => wpAny (model X.prog X.w) X.A (setFlight e none) (fun _ s₃ =>
    wpAny (model X.prog X.w) X.A (handleBy e X.env (h₀ :: hds)) (SP X pins D) X.xe s₃) X.xe s₂) X.xe s₁
  have takes : Takes (X.tr (X.pn ++ pins) caught) (wClauses X.K Wout D l) := by
    rintro u s' ⟨a, B, sI, pins', σ', H', cls, d, rfl, J', nb, up, sky, na, os, ag, wish⟩
    have J : Inv X pins σ' H' sI := J'.ofTry ok
    show wpAny (model X.prog X.w) X.A (noteFrame (.ref a) X.env) _ _ _
    refine Sky.land Zc.steady stacked hf (show Sky B (X.env :: X.outer) a (Zc cls d) X.env.locals s'.heap by rw [← hs]; exact sky) fun h3 landed up3 => ?_
    have J3 : Inv X pins σ' H' { s' with heap := h3 } := J.landed nb landed.1 (up.trans up3) os ag
    obtain ⟨oe, vs, at3, like3, fields3⟩ := landed.there
    have apart : a ∉ frs (X.env :: X.outer) := fun m => by
      obtain ⟨_, o, e, other⟩ := landed.2.2.1.mem m
      obtain rfl : oe = o := Option.some.inj (at3.symm.trans e)
      exact other _ fields3
    have off1 : a ≠ X.env.locals := fun z => apart (List.mem_filterMap.mpr ⟨X.env, List.mem_cons_self, by rw [hf, z]⟩)
    have off2 : a ∉ X.fs := fun m => by
      obtain ⟨e, he, q⟩ := List.mem_filterMap.mp m
      exact apart (List.mem_filterMap.mpr ⟨e, List.mem_cons_of_mem _ he, q⟩)
    have S3 := J3.suite at3 fields3 na off1 off2
    have go : ∀ {hs2 : List ExceptHandler} {l2 : List Clause}, ClausesOk X hs2 l2 → wClauses X.K Wout D l2 cls d σ' H' →
        wpAny (model X.prog X.w) X.A (handleBy (.ref a) X.env hs2) (SP X pins D) X.xe { s' with heap := h3 } := by
      intro hs2 l2 fit
      induction fit with
      | nil =>
        intro wish
        have on : wpAny (model X.prog X.w) X.A (setFlight (.ref a) X.env.frame) (fun _ s4 => wpAny (model X.prog X.w) X.A (throw (.ref a) : Sem Flow) (SP X pins D) X.xe s4) X.xe { s' with heap := h3 } := by
          rw [hf]
          exact HandSPX.setFlight_upZ landed fun h4 hot up4 => wpAny_throw (tk _ _ ⟨a, B, sI, pins, σ', H', cls, d, rfl, J, nb, (up.trans up3).trans up4, .inr (.inr (by rw [hs]; exact hot)), na, os, ag, wish⟩)
        obtain ⟨_, _, _, o4, vs4, T, oT, tb4, at4, like4, fields4, first4, _⟩ := id landed
        refine wpAny_handleBy_nil ?_
        unfold PySem.passOn
        refine wpAny_bind (wpAny_field at4 fields4 first4 ?_)
        rw [if_neg (show ¬ (Value.ref T == Value.none) = true by simp)]
        first
          | exact wpAny_bind on
          | exact wpAny_bind (wpAny_pure (wpAny_bind on))
      | @cons x n k b₀ suite np pos' hs3 l3 hi hln hc hsu rest ih =>
        rintro ⟨b, asks, yes, no⟩
        have kindOf : PySem.W.Looks (model X.prog X.w) h3 (typeOf (.ref a)) cls := fun A Q E s keep q => wpAny_typeOf_ref (keep _ _ at3) (by rw [like3.1]; exact q)
        have answer := PySem.W.exm_one (M := model X.prog X.w) J3.kIn kindOf asks
        have named : ∀ {Q : Value → Shared → Prop} {E : Value → Shared → Prop}, Q k.c { s' with heap := h3 } → wpAny (model X.prog X.w) (X.A.mark (some (.ref a))) (eval (.Name x np) X.env) Q E { s' with heap := h3 } := fun {Q E} q => by
          obtain ⟨gl, dbg, m | ⟨m, bt, nn⟩⟩ := hc
          · exact ld_glob (X := X.suite a ((a, oe) :: (X.pn ++ pins))) S3 gl m q dbg
          · exact ld_blt (X := X.suite a ((a, oe) :: (X.pn ++ pins))) S3 gl m bt q nn dbg
        refine wpAny_handleBy_cons (codeAny_handlers_test (named (answer.here ?_))) (by intro q; cases q)
        cases b with
        | false => exact ih (no rfl)
        | true =>
          refine codeAny_handlers_suite_as (HandSPX.lands_againZ landed fun h4 again up4 => ?_)
          obtain ⟨oe4, vs4, at4, like4, fields4⟩ := again.there
          have S4 := (J.landed nb again.1 ((up.trans up3).trans up4) os ag : Inv X pins σ' H' { s' with heap := h4 }).suite at4 fields4 na off1 off2
          refine store_ok (X := X.suite a ((a, oe4) :: (X.pn ++ pins))) (v := .ref a) S4 hN hi (.inl hln) rfl (fun s5 S5 => ?_) (.inr hln)
          refine wpAny_mono ((hsu a oe4 cls d (X.pn ++ pins) like4 ⟨_, fields4⟩).run [] s5 _ H' _ S5 (yes rfl a na)) (fun f s6 end_ => ?_) (fun _ _ z => False.elim z)
          have leave : ∀ {σ6 : L2.St} {H6 : Hp} {Q : Shared → Prop}, Inv (X.suite a ((a, oe4) :: (X.pn ++ pins))) [] σ6 H6 s6 → (∀ s7, Inv X pins (σ6.set k.i none) H6 s7 → Q s7) →
              wpAny (model X.prog X.w) X.A (do bindName X.env n .none; unbindBehindTheSuite X.env n pos') (fun _ s7 => Q s7) X.xe s6 := fun {σ6 H6 Q} S6 q => gone_ok (S6.unsuite ok) hN hi hln q
          cases f with
          | next =>
            obtain ⟨σ6, H6, S6, q6⟩ := end_
            exact leave S6 fun s7 J7 => ⟨_, _, J7, q6⟩
          | brk =>
            obtain ⟨σ6, H6, S6, q6⟩ := end_
            exact leave S6 fun s7 J7 => ⟨_, _, J7, q6⟩
          | cont =>
            obtain ⟨σ6, H6, S6, q6⟩ := end_
            exact leave S6 fun s7 J7 => ⟨_, _, J7, q6⟩
          | ret u =>
            obtain ⟨v6, σ6, H6, S6, r6, q6⟩ := end_
            exact leave S6 fun s7 J7 => ⟨_, _, _, J7, r6, q6⟩
    exact go hh wish
  refine wpAny_mono ((hb (wClauses X.K Wout D l) (X.pn ++ pins) caught takes PassesOwn.looking).run [] s σ H D (I.toTry _) want) (fun f s1 end_ => ?_) (fun e s1 he => he)
  cases f with
  | next =>
    obtain ⟨σ', H', J', q⟩ := end_
    exact wpAny_execs_nil ⟨σ', H', J'.ofTry ok, q⟩
  | brk =>
    obtain ⟨σ', H', J', q⟩ := end_
    exact ⟨σ', H', J'.ofTry ok, q⟩
  | cont =>
    obtain ⟨σ', H', J', q⟩ := end_
    exact ⟨σ', H', J'.ofTry ok, q⟩
  | ret u =>
    obtain ⟨v, σ', H', J', r, q⟩ := end_
    exact ⟨v, σ', H', J'.ofTry ok, r, q⟩
end
end My
set_option Elab.async false
set_option linter.all false
set_option maxRecDepth 100000
set_option maxHeartbeats 4000000
/-! set(x), x a list or a tuple of texts or of ints; len(set(x)), sorted(set(x)) -/
namespace My
open PySem L2 PySem.Spec PyProof.Rows
/-- how many of the first i are new where they stand -/
def newT (xs : List Str) : Nat → Nat
  | 0 => 0
  | i + 1 => if hasT xs i (xs.getD i Str.empty) = true then newT xs i else newT xs i + 1
theorem newT_le (xs : List Str) : ∀ i, newT xs i ≤ i
  | 0 => Nat.le_refl _
  | i + 1 => by
    have := newT_le xs i
    unfold newT
    split <;> omega
theorem newT_nodup {xs : List Str} (nd : xs.Nodup) : ∀ i, i ≤ xs.length → newT xs i = i
  | 0, _ => rfl
  | i + 1, h => by
    have := newT_nodup nd i (by omega)
    unfold newT
    rw [hasT_not nd (by omega), if_neg Bool.false_ne_true, this]
def hasI (xs : List Int) (i : Nat) : Int → Bool := fun y => (xs.take i).any fun z => z == y
theorem hasI_more {xs : List Int} {i : Nat} (h : i < xs.length) (y : Int) : (hasI xs i y || decide (y = xs.getD i 0)) = hasI xs (i + 1) y := by
  have e : xs.take (i + 1) = xs.take i ++ [xs[i]] := by rw [List.take_add_one, List.getElem?_eq_getElem h]; rfl
  have d : xs.getD i 0 = xs[i] := by rw [List.getD_eq_getElem?_getD, List.getElem?_eq_getElem h]; rfl
  unfold hasI
  rw [e, d, List.any_append, List.any_cons, List.any_nil, Bool.or_false]
  congr 1
  by_cases q : y = xs[i]
  · rw [decide_eq_true q, q, beq_self_eq_true]
  · rw [decide_eq_false q]
    exact (beq_eq_false_iff_ne.mpr fun z => q z.symm).symm
def newI (xs : List Int) : Nat → Nat
  | 0 => 0
  | i + 1 => if hasI xs i (xs.getD i 0) = true then newI xs i else newI xs i + 1
theorem newI_le (xs : List Int) : ∀ i, newI xs i ≤ i
  | 0 => Nat.le_refl _
  | i + 1 => by
    have := newI_le xs i
    unfold newI
    split <;> omega
section
variable {prog : Program} {w : World} {A : Around} {s : Shared}
/-- set.update's loop, whatever the items: B tells of the first i items what the set has -/
theorem put_any {R : Result → Shared → Prop} {I : Addr} {fp wr : List Addr} {G : Array GenState → Array GenState → Prop} {P : Nat → Value → Prop} {St : Nat → Shared → Prop} {n : Nat}
    (W : WalksS prog w A.in1 I fp wr G n P St) (S : Addr) (out : S ∉ fp) (B : Nat → Heap → Prop) (stays : ∀ i h h', B i h → (∀ o, h.get? S = some o → h'.get? S = some o) → B i h')
    (adds : ∀ i v (s : Shared) (Q : Shared → Prop) (E : Value → Shared → Prop), i < n → P i v → B i s.heap → (∀ h' tk, s.toks ≤ tk → Heap.SameBut S s.heap h' → B (i + 1) h' → Q { s with heap := h', toks := tk }) → wpAny (model prog w) A.in1 (setAdd S v) (fun _ s' => Q s') E s) :
    ∀ (left i : Nat) (s : Shared), i + left = n → St i s → B i s.heap →
      (∀ s', Moved (S :: wr) G s s' → B n s'.heap → R (.ok (.ret .none)) s') →
      codeAny (model prog w) A (.builtin "set.update.loop" ⟨[.ref S, .ref I], []⟩) R s := by
  have moved : ∀ {s s' : Shared} {i : Nat}, Moved wr G s s' → B i s.heap → B i s'.heap := fun m h => stays _ _ _ h fun o e => m.heap S o (fun q => out (W.sub _ q)) e
  intro left
  induction left with
  | zero =>
    intro i s e st h k
    obtain rfl : i = n := by omega
    refine codeAny_builtin F.entry_set_update_loop ?_
    rw [Around.under_plainId F.plain_set_update_loop _]
    show wpAny _ A.in1 (do let x ← pyNext (.ref I); _) _ _ s
    exact wpAny_bind (W.done s _ _ st fun s' m => wpAny_pure (k s' (m.mono fun b q => .tail _ q) (moved m h)))
  | succ left ih =>
    intro i s e st h k
    have lt : i < n := by omega
    refine codeAny_builtin F.entry_set_update_loop ?_
    rw [Around.under_plainId F.plain_set_update_loop _]
    show wpAny _ A.in1 (do let x ← pyNext (.ref I); _) _ _ s
    refine wpAny_bind (W.item i s _ _ lt st fun v s1 p st1 m => wpAny_bind (wpAny_holding (adds i v s1 (fun s' => wpAny (model prog w) A.in1 (again (Code.builtin "set.update.loop" ⟨[.ref S, .ref I], []⟩)) _ _ s') _ lt p (moved m h) fun h' tk le only h2 => ?_)))
    refine wpAny_pure ⟨plainId_quiet F.plain_set_update_loop _, ih (i + 1) _ (by omega) (W.frame _ s1 _ _ st1 le fun b q o z => ?_) h2 fun s2 m2 h4 => k s2 ?_ h4⟩
    · rw [only.2 b fun z => out (z ▸ q)]
      exact z
    · refine Moved.trans W.gtrans ((m.mono fun b q => .tail _ q).then_heap le fun b o q z => ?_) m2
      rw [only.2 b fun z => q (z ▸ .head _)]
      exact z
end
section
variable {prog : Program} {w : World} {A : Around} {s : Shared}
abbrev freshSet (w : World) : Obj := { cls := .type "set", dict := none, data := .set #[] 0 (.fresh 0 0 (!w.params.followText "set-order")) }
theorem set_from_list {Q : Value → Shared → Prop} {E : Value → Shared → Prop} {l : Addr} {items : Array Value} (calm : A.handled = none) (hl : s.heap.IsList l items) (B : Nat → Heap → Prop) (stays : ∀ i h h', B i h → (∀ o, h.get? s.heap.objs.size = some o → h'.get? s.heap.objs.size = some o) → B i h')
    (first : ∀ h : Heap, h.get? s.heap.objs.size = some (freshSet w) → B 0 h)
    (adds : ∀ (A' : Around) i v (t : Shared) (Q : Shared → Prop) (E : Value → Shared → Prop), i < items.size → items[i]? = some v → B i t.heap → (∀ h' tk, t.toks ≤ tk → Heap.SameBut s.heap.objs.size t.heap h' → B (i + 1) h' → Q { t with heap := h', toks := tk }) → wpAny (model prog w) A' (setAdd s.heap.objs.size v) (fun _ s' => Q s') E t)
    (k : ∀ (h' : Heap) (tk : Nat), B items.size h' → (∀ b o, s.heap.get? b = some o → h'.get? b = some o) → Q (.ref s.heap.objs.size) { s with heap := h', toks := tk }) :
    wpAny (model prog w) A (call (.type "set") [.ref l]) Q E s := by
  have born := PySem.F.called_set
  obtain ⟨cls, rest, eqm⟩ := born.mro
  have a1 := born.made
  have a2 := born.sub
  have a3 := born.notType
  have a4 := born.canCreate
  have a5 := PySem.F.typeCall_set_1 (.ref l)
  refine wpAny_call (codeAny_of_tree ?_)
  show wpAny _ _ (callAny (.type "set") _) _ _ _
  refine wpAny_pure ⟨Code.quiet_builtin _ (by decide +kernel), codeAny_builtin PySem.F.entry_type_call ?_⟩
  rw [Around.under_plain (weight_type_call_type "set" [.ref l] []) rfl]
  repeat (any_goals (first | assumption | wp_step))
  refine codeAny_mono (code_set_led1 (.ref l) (E := E) (Q₁ := fun u t => u = .ref s.heap.objs.size ∧ t = { s with heap := s.heap.push (freshSet w) }) ⟨rfl, rfl⟩) fun r t hr => ?_
  rcases r with e | fl
  · exact hr
  cases fl with
  | next => exact hr.elim
  | brk => exact hr.elim
  | cont => exact hr.elim
  | ret u =>
  obtain ⟨rfl, rfl⟩ := hr
  have at_ : (s.heap.push (freshSet w)).get? s.heap.objs.size = some (freshSet w) := Heap.get?_push_size _ rfl
  have a6 : Shared.TypeIs { s with heap := s.heap.push (freshSet w) } (.ref s.heap.objs.size) "set" := ⟨_, at_, rfl⟩
  have a7 := born.init.lookup
  have a8 := born.init.bind (.ref s.heap.objs.size)
  repeat (any_goals (first | assumption | wp_step))
  have ll : l < s.heap.objs.size := by
    obtain ⟨o, ho, _⟩ := id hl
    exact Heap.lt_size ho
  have hl2 : (s.heap.push (freshSet w)).IsList l items := hl.push _
  refine codeAny_mono (codeAny_call_builtin (R := wants (fun u t => u = .none ∧ ∃ h' tk, t = { s with heap := h', toks := tk } ∧ B items.size h' ∧ ∀ b o, s.heap.get? b = some o → h'.get? b = some o) E) born.init.plain PySem.F.entry_set_init (check_set_init_1 a6 ?_)) fun r t hr => ?_
  · obtain ⟨ol, hol, hcl, nl, hdl⟩ := id hl
    obtain ⟨lc, ld_, ldat, lsl⟩ := ol
    dsimp only at hcl hdl
    subst hcl hdl
    have hol2 : (s.heap.push (freshSet w)).get? l = some { cls := .type "list", dict := ld_, data := .seq items nl, slots := lsl } := Heap.get?_push_of_some _ hol
    have b1 := PySem.F.sub_list_set
    have b2 := PySem.F.sub_list_frozenset
    have b3 : (Value.type "list" == Value.type "dict") = false := by decide
    unfold Builtin.«set.__init__» noKeywords Builtin.Frozenset.updateFrom
    generalize hold : pyIter = it
    wp_walk
    subst hold
    refine wpAny_pyIter_list hl2 (wpAny_bind (wpAny_runValue ?_))
    have nI : (s.heap.push (freshSet w)).objs.size = s.heap.objs.size + 1 := Heap.size_push _ _
    have n2 : l ≠ (s.heap.push (freshSet w)).objs.size := by rw [nI]; exact Nat.ne_of_lt (Nat.lt_succ_of_lt ll)
    refine put_any ((Walks.list (by simp [calm]) (s.heap.push (freshSet w)).objs.size l n2 items).toS) s.heap.objs.size ?_ B stays (fun i v t Q E lt hv h q => adds _ i v t Q E lt hv h q) items.size 0 _ (by omega) ⟨⟨_, Heap.get?_push_size _ rfl, rfl, rfl⟩, hl2.push _⟩ (first _ (Heap.get?_push_of_some _ at_)) fun t' m z => ?_
    · simp only [List.mem_cons, List.not_mem_nil, or_false, not_or]
      exact ⟨by rw [nI]; exact Nat.ne_of_lt (Nat.lt_succ_self _), Nat.ne_of_gt ll⟩
    · obtain ⟨h', g', d', tk', os'⟩ := t'
      obtain rfl : g' = s.gens := m.gens
      obtain rfl : d' = s.drawn := m.drawn
      obtain rfl : os' = s.os := m.os
      refine wpAny_pure (wpAny_pure ⟨rfl, h', tk', rfl, z, fun c o q => ?_⟩)
      have lc := Heap.lt_size q
      refine m.heap c o (fun q2 => ?_) (Heap.get?_push_of_some _ (Heap.get?_push_of_some _ q))
      simp only [List.mem_cons, List.not_mem_nil, or_false] at q2
      rw [nI] at q2
      rcases q2 with q2 | q2
      · exact absurd lc (by rw [q2]; exact Nat.lt_irrefl _)
      · exact absurd lc (by rw [q2]; exact Nat.not_lt.mpr (Nat.le_succ _))
  · rcases r with e | fl
    · exact hr
    cases fl with
    | next => exact hr.elim
    | brk => exact hr.elim
    | cont => exact hr.elim
    | ret u =>
    obtain ⟨rfl, h', tk, rfl, z, keep⟩ := hr
    repeat (any_goals (first | assumption | wp_step))
    exact k h' tk z keep
end
section
variable {prog : Program} {w : World} {A : Around} {s : Shared}
theorem set_from_tuple {Q : Value → Shared → Prop} {E : Value → Shared → Prop} {l : Addr} {items : Array Value} (calm : A.handled = none) (hl : s.heap.IsTuple l items) (B : Nat → Heap → Prop) (stays : ∀ i h h', B i h → (∀ o, h.get? s.heap.objs.size = some o → h'.get? s.heap.objs.size = some o) → B i h')
    (first : ∀ h : Heap, h.get? s.heap.objs.size = some (freshSet w) → B 0 h)
    (adds : ∀ (A' : Around) i v (t : Shared) (Q : Shared → Prop) (E : Value → Shared → Prop), i < items.size → items[i]? = some v → B i t.heap → (∀ h' tk, t.toks ≤ tk → Heap.SameBut s.heap.objs.size t.heap h' → B (i + 1) h' → Q { t with heap := h', toks := tk }) → wpAny (model prog w) A' (setAdd s.heap.objs.size v) (fun _ s' => Q s') E t)
    (k : ∀ (h' : Heap) (tk : Nat), B items.size h' → (∀ b o, s.heap.get? b = some o → h'.get? b = some o) → Q (.ref s.heap.objs.size) { s with heap := h', toks := tk }) :
    wpAny (model prog w) A (call (.type "set") [.ref l]) Q E s := by
  have born := PySem.F.called_set
  obtain ⟨cls, rest, eqm⟩ := born.mro
  have a1 := born.made
  have a2 := born.sub
  have a3 := born.notType
  have a4 := born.canCreate
  have a5 := PySem.F.typeCall_set_1 (.ref l)
  refine wpAny_call (codeAny_of_tree ?_)
  show wpAny _ _ (callAny (.type "set") _) _ _ _
  refine wpAny_pure ⟨Code.quiet_builtin _ (by decide +kernel), codeAny_builtin PySem.F.entry_type_call ?_⟩
  rw [Around.under_plain (weight_type_call_type "set" [.ref l] []) rfl]
  repeat (any_goals (first | assumption | wp_step))
  refine codeAny_mono (code_set_led1 (.ref l) (E := E) (Q₁ := fun u t => u = .ref s.heap.objs.size ∧ t = { s with heap := s.heap.push (freshSet w) }) ⟨rfl, rfl⟩) fun r t hr => ?_
  rcases r with e | fl
  · exact hr
  cases fl with
  | next => exact hr.elim
  | brk => exact hr.elim
  | cont => exact hr.elim
  | ret u =>
  obtain ⟨rfl, rfl⟩ := hr
  have at_ : (s.heap.push (freshSet w)).get? s.heap.objs.size = some (freshSet w) := Heap.get?_push_size _ rfl
  have a6 : Shared.TypeIs { s with heap := s.heap.push (freshSet w) } (.ref s.heap.objs.size) "set" := ⟨_, at_, rfl⟩
  have a7 := born.init.lookup
  have a8 := born.init.bind (.ref s.heap.objs.size)
  repeat (any_goals (first | assumption | wp_step))
  have ll : l < s.heap.objs.size := by
    obtain ⟨o, ho, _⟩ := id hl
    exact Heap.lt_size ho
  have hl2 : (s.heap.push (freshSet w)).IsTuple l items := by
    obtain ⟨o, ho, z⟩ := id hl
    exact ⟨o, Heap.get?_push_of_some _ ho, z⟩
  refine codeAny_mono (codeAny_call_builtin (R := wants (fun u t => u = .none ∧ ∃ h' tk, t = { s with heap := h', toks := tk } ∧ B items.size h' ∧ ∀ b o, s.heap.get? b = some o → h'.get? b = some o) E) born.init.plain PySem.F.entry_set_init (check_set_init_1 a6 ?_)) fun r t hr => ?_
  · obtain ⟨ol, hol, hcl, nl, hdl⟩ := id hl
    obtain ⟨lc, ld_, ldat, lsl⟩ := ol
    dsimp only at hcl hdl
    subst hcl hdl
    have hol2 : (s.heap.push (freshSet w)).get? l = some { cls := .type "tuple", dict := ld_, data := .seq items nl, slots := lsl } := Heap.get?_push_of_some _ hol
    have b1 := PySem.F.sub_tuple_set
    have b2 := PySem.F.sub_tuple_frozenset
    have b3 : (Value.type "tuple" == Value.type "dict") = false := by decide
    unfold Builtin.«set.__init__» noKeywords Builtin.Frozenset.updateFrom
    generalize hold : pyIter = it
    wp_walk
    subst hold
    refine wpAny_pyIter_tuple hl2 (wpAny_bind (wpAny_runValue ?_))
    have nI : (s.heap.push (freshSet w)).objs.size = s.heap.objs.size + 1 := Heap.size_push _ _
    have n2 : l ≠ (s.heap.push (freshSet w)).objs.size := by rw [nI]; exact Nat.ne_of_lt (Nat.lt_succ_of_lt ll)
    refine put_any ((Walks.tuple (by simp [calm]) (s.heap.push (freshSet w)).objs.size l n2 items).toS) s.heap.objs.size ?_ B stays (fun i v t Q E lt hv h q => adds _ i v t Q E lt hv h q) items.size 0 _ (by omega) ⟨⟨_, Heap.get?_push_size _ rfl, rfl, rfl⟩, (by
      obtain ⟨o, ho, z⟩ := id hl2
      exact ⟨o, Heap.get?_push_of_some _ ho, z⟩)⟩ (first _ (Heap.get?_push_of_some _ at_)) fun t' m z => ?_
    · simp only [List.mem_cons, List.not_mem_nil, or_false, not_or]
      exact ⟨by rw [nI]; exact Nat.ne_of_lt (Nat.lt_succ_self _), Nat.ne_of_gt ll⟩
    · obtain ⟨h', g', d', tk', os'⟩ := t'
      obtain rfl : g' = s.gens := m.gens
      obtain rfl : d' = s.drawn := m.drawn
      obtain rfl : os' = s.os := m.os
      refine wpAny_pure (wpAny_pure ⟨rfl, h', tk', rfl, z, fun c o q => ?_⟩)
      have lc := Heap.lt_size q
      refine m.heap c o (fun q2 => ?_) (Heap.get?_push_of_some _ (Heap.get?_push_of_some _ q))
      simp only [List.mem_cons, List.not_mem_nil, or_false] at q2
      rw [nI] at q2
      rcases q2 with q2 | q2
      · exact absurd lc (by rw [q2]; exact Nat.lt_irrefl _)
      · exact absurd lc (by rw [q2]; exact Nat.not_lt.mpr (Nat.le_succ _))
  · rcases r with e | fl
    · exact hr
    cases fl with
    | next => exact hr.elim
    | brk => exact hr.elim
    | cont => exact hr.elim
    | ret u =>
    obtain ⟨rfl, h', tk, rfl, z, keep⟩ := hr
    repeat (any_goals (first | assumption | wp_step))
    exact k h' tk z keep
end
end My
set_option Elab.async false
set_option linter.all false
set_option maxRecDepth 100000
set_option maxHeartbeats 4000000
/-! len(set(x)), set(x) of ints, {elt for target in iter} of ints -/
namespace My
open PySem L2 PySem.Spec PyProof.Rows
section
variable {X : Cx}
/-- a list or a tuple -/
def SqA (K : PySem.W.Frag) (H : Hp) (l : Addr) (xs : List V) : Prop := SqL K H l xs ∨ SqT K H l xs
/-- len(set(x)), x of texts -/
def tLenU (K : PySem.W.Frag) (ta : TE) : TE := fun σ H Q => ta σ H fun x H1 => ∃ (l : Addr) (xs : List Str), x = .ref l ∧ SqA K H1 l (xs.map V.str) ∧ xs.length < 100 ∧ Q (.int (newT xs xs.length)) H1
theorem texts_put {P : Program} {w : World} {A : Around} {xs : List Str} {S : Addr} {i : Nat} {v : Value} {t : Shared} {Q : Shared → Prop} {E : Value → Shared → Prop} (lt : i < xs.length) (few : xs.length < 100) (tell : ∃ tk, v = .str (xs.getD i Str.empty) tk)
    (h : t.heap.SetOf (PySem.strKind P w) S (hasT xs i) (newT xs i)) (k : ∀ h' tk, t.toks ≤ tk → Heap.SameBut S t.heap h' → h'.SetOf (PySem.strKind P w) S (hasT xs (i + 1)) (newT xs (i + 1)) → Q { t with heap := h', toks := tk }) :
    wpAny (model P w) A (setAdd S v) (fun _ s' => Q s') E t := by
  obtain ⟨tk, rfl⟩ := tell
  unfold setAdd
  refine wpAny_holding (wpAny_bind ((PySem.strKind P w).pyHash (k := xs.getD i Str.empty) (strKind_is _ _ _ _) ?_))
  refine wpAny_setAddHashed_of (knd := PySem.strKind P w) (s := { t with toks := t.toks + 1 }) (strKind_is _ _ _ _) rfl h (by have := newT_le xs i; unfold scanBound; omega) fun h' only h2 => ?_
  exact k h' _ (Nat.le_succ _) only (SetOf_congr h2 (hasT_more lt) rfl)
theorem pe_lenU {a : Expr} {ta : TE} {p p2 q pos : Pos} (hc : X.calm = true) (hg : Gl X "len") (hm : X.mg "len" = none) (hg2 : Gl X "set") (hm2 : X.mg "set" = none) (ha : PE X a ta)
    (na : starEach [a] X.env = (false, eval a X.env) :: starEach [] X.env := by rfl) : PE X (.Call (.Name "len" p) [.Call (.Name "set" p2) [a] [] q] [] pos) (tLenU X.K ta) := by
  refine ⟨fun pins s σ H Q I want => ?_⟩
  refine Call_ (ld_blt I hg hm boot_len (PyProof.Rows.callWith_builtin1 (PyProof.Rows.args_cons (Call_ (ld_blt I hg2 hm2 boot_set ?_)) rfl) rfl rfl))
  refine PyProof.Rows.callWith_type1 (PyProof.Rows.args_cons (thn (ha.run pins s σ H _ I want) fun v s1 ⟨x, H1, I1, r1, l, xs, ex, hq, few, q1⟩ => PyProof.Rows.args_nil ?_) na) na rfl
  subst ex
  cases r1
  have told : ∀ (h' : Heap) (tk : Nat), h'.SetOf (PySem.strKind X.prog X.w) s1.heap.objs.size (hasT xs xs.length) (newT xs xs.length) → (∀ b o, s1.heap.get? b = some o → h'.get? b = some o) → wpAny (model X.prog X.w) X.A (spliced (backTo pos (starEach [] X.env))) (fun vs s' => wpAny (model X.prog X.w) X.A (call (.builtin "len") ([] ++ (.ref s1.heap.objs.size :: vs))) (EP X pins σ Q) X.xe s') X.xe { s1 with heap := h', toks := tk } := fun h' tk hS keep => by
    refine PyProof.Rows.args_nil ?_
    obtain ⟨o, es, ep, t, ho, hex, hd, _, _, _, hf, hn⟩ := hS
    have I2 : Inv X pins σ H1 { s1 with heap := h', toks := tk } := I1.kept fun b o e => keep b o e
    have := newT_le xs xs.length
    exact call_len_set ho hex hd hf (by rw [hn] <;> omega) ⟨.int (newT xs xs.length), H1, I2.tok _, ⟨_, by rw [hn]⟩, q1⟩
  have stays : ∀ (i : Nat) (h h' : Heap), h.SetOf (PySem.strKind X.prog X.w) s1.heap.objs.size (hasT xs i) (newT xs i) → (∀ o, h.get? s1.heap.objs.size = some o → h'.get? s1.heap.objs.size = some o) → h'.SetOf (PySem.strKind X.prog X.w) s1.heap.objs.size (hasT xs i) (newT xs i) := fun i h h' ⟨o, es, ep, t, ho, z⟩ m => ⟨o, es, ep, t, m _ ho, z⟩
  have first : ∀ h : Heap, h.get? s1.heap.objs.size = some (freshSet X.w) → h.SetOf (PySem.strKind X.prog X.w) s1.heap.objs.size (hasT xs 0) (newT xs 0) := fun h at_ => SetOf_congr ((setObjOf_fresh (knd := PySem.strKind X.prog X.w) _).setOf at_ (by unfold scanBound; omega)) (fun _ => rfl) rfl
  rcases hq with hq | hq
  · obtain ⟨its, r, pl, hz⟩ := I1.list hq
    have hs : its.toArray.size = xs.length := by rw [List.size_toArray, ← r.length, List.length_map]
    refine set_from_list (I1.ok.hd hc) pl.isList (fun i h => h.SetOf (PySem.strKind X.prog X.w) s1.heap.objs.size (hasT xs i) (newT xs i)) stays first (fun A' i v t Q E lt hv h k => texts_put (by omega) few (SS.strs_at (L2.strsAre_of r) i v (by simpa using hv)) h k) fun h' tk z keep => told h' tk (by rw [hs] at z; exact z) keep
  · obtain ⟨its, r, pl, hz⟩ := I1.tuple hq
    have hs : its.toArray.size = xs.length := by rw [List.size_toArray, ← r.length, List.length_map]
    refine set_from_tuple (I1.ok.hd hc) pl (fun i h => h.SetOf (PySem.strKind X.prog X.w) s1.heap.objs.size (hasT xs i) (newT xs i)) stays first (fun A' i v t Q E lt hv h k => texts_put (by omega) few (SS.strs_at (L2.strsAre_of r) i v (by simpa using hv)) h k) fun h' tk z keep => told h' tk (by rw [hs] at z; exact z) keep
/-- set(x), x a list of ints -/
def rSetI (K : PySem.W.Frag) (w : World) : List V → Hp → VK → Prop := fun xs H Q => ∃ (l : Addr) (ns : List Int), xs = [.ref l] ∧ SqL K H l (ns.map V.int) ∧ ns.length < 100 ∧ ∀ a, H a = none → Q (.ref a) (upd H a (SetO w a (hasI ns ns.length) (newI ns ns.length)))
theorem cr_setI (hc : X.calm = true) : CallR X (.type "set") (rSetI X.K X.w) := by
  intro pins s σ H xs us Q I r want
  obtain ⟨l, ns, rfl, hq, few, k⟩ := want
  rw [Vals.ref1 r]
  obtain ⟨its, rv, pl, hz⟩ := I.list hq
  have hs : its.toArray.size = ns.length := by rw [List.size_toArray, ← rv.length, List.length_map]
  have none_ : H s.heap.objs.size = none := I.hok.fresh (Nat.le_refl _)
  refine set_from_list (I.ok.hd hc) pl.isList (fun i h => SetR X.w h s.heap.objs.size (hasI ns i) (newI ns i)) (fun i h h' R m => R.at m) (fun h at_ => ?_) (fun A' i v t Q E lt hv h k => ?_) fun h' tk z keep => ?_
  · have e := Heap.get?_push_size s.heap (o := freshSet X.w) rfl
    have R := (setR_fresh (h := s.heap) X.w).at (h' := h) fun o z => by
      rw [e] at z
      rw [← Option.some.inj z]
      exact at_
    exact R.congr fun _ => rfl
  · rw [hs] at lt
    have hv2 : its[i]? = some v := by simpa using hv
    have hn : (ns.map V.int)[i]? = some (V.int ns[i]) := by rw [List.getElem?_map, List.getElem?_eq_getElem lt]; rfl
    obtain ⟨u, hu, ru⟩ := rv.get hn
    rw [hv2] at hu
    obtain rfl := Option.some.inj hu
    obtain ⟨tk, rfl⟩ := ru
    have e : ns.getD i 0 = ns[i] := by rw [List.getD_eq_getElem?_getD, List.getElem?_eq_getElem lt]; rfl
    unfold setAdd
    refine wpAny_holding (wpAny_bind ((intKind X.prog X.w).pyHash (k := ns[i]) (intKind_is _ _ _ _) ?_))
    refine setR_add_hashed (s := { t with toks := t.toks + 1 }) h (by have := newI_le ns i; unfold scanBound; omega) fun h' only R => k h' _ (Nat.le_succ _) only ?_
    have c := R.congr (S' := hasI ns (i + 1)) fun y => by rw [← hasI_more lt y, e]
    have e2 : newI ns (i + 1) = if hasI ns i ns[i] = true then newI ns i else newI ns i + 1 := by
      show (if hasI ns i (ns.getD i 0) = true then newI ns i else newI ns i + 1) = _
      rw [e]
    rw [e2]
    exact c
  · rw [hs] at z
    exact ⟨.ref s.heap.objs.size, upd H s.heap.objs.size (SetO X.w s.heap.objs.size (hasI ns ns.length) (newI ns ns.length)), I.laid (t' := tk) keep (Nat.le_refl _) (setO_new z), rfl, k _ none_⟩
/-- {elt for target in iter if ..}, ints: D the new set -/
def tSc (w : World) (wi : TI) (g : TG) (tt : TT) (te : TE) (vs : List Nat) : TE := fun σ H Q => wi σ H fun J H1 => ∀ D, H1 D = none → ∃ W : Nat → Nat → Hp → Prop, (∃ m, W 0 m (upd H1 D (SetO w D (fun _ => false) 0))) ∧ ∀ i m H, W i m H →
  (J.stop i H ∧ Q (.ref D) H) ∨ (J.go i H ∧ ∃ Nx : Hp → Prop, (∀ H', Nx H' → ∃ m', m' < m ∧ W (i + 1) m' H') ∧ ∀ x H', J.yld i H x H' → g x (wipe σ vs) H' fun σ2 H2 => wipe σ2 vs = wipe σ vs ∧ tt σ2 H2 fun b H3 =>
    if b = true then te σ2 H3 fun y H4 => ∃ (k : Int) (S : Int → Bool) (n : Nat), y = .int k ∧ H4 D = some (SetO w D S n) ∧ n + 1 < scanBound ∧ Nx (upd H4 D (SetO w D (fun j => S j || decide (j = k)) (if S k = true then n else n + 1))) else Nx H3)
theorem pe_sc {tg iter elt : Expr} {ifs : List Expr} {scope : Scope} {own : List (Str × Nat)} {pos : Pos} {wi : TI} {g : TG} {tt : TT} {te : TE} (hc : X.calm = true) (hN : X.N.Nodup) (hi : PI X tg iter wi) (ok : BlkOk X.N X.env.scope scope own)
    (hg : ∀ (s : Shared) (H : Hp) (C : Addr) (cl : List (Str × Addr)) (fp : List Addr), PG (X.blk s H scope (compEnvC scope cl C X.env) fp) tg g) (ht : ∀ (s : Shared) (H : Hp) (C : Addr) (cl : List (Str × Addr)) (fp : List Addr), PTs (X.blk s H scope (compEnvC scope cl C X.env) fp) ifs tt)
    (he : ∀ (s : Shared) (H : Hp) (C : Addr) (cl : List (Str × Addr)) (fp : List Addr), PE (X.blk s H scope (compEnvC scope cl C X.env) fp) elt te) (hs : ∀ x, foldedSetIterable iter X.env x = pure x := by intro _; rfl) :
    PE X (.SetComp elt [⟨tg, iter, ifs, 0⟩] scope pos) (tSc X.w wi g tt te (own.map (·.2))) := by
  refine ⟨fun pins s σ H Q I want => ?_⟩
  rw [arm_eval_SetComp]
  have caught : ∀ y ∈ scope.names, y.2 = .free → ∃ c, X.env.cells.lookup y.1 = some c := fun y hy e => (ok.free y hy e).elim (fun k => I.ok.has _ (.inl k)) fun k => I.ok.has _ (.inr k)
  refine wpAny_comprehension_free (use := none) rfl hs (closure_ok caught) ok.kind (fun y hy e => by rw [ok.uniq y hy, e])
    (thn (hi.run pins s σ H _ I want) fun xv s1 hx => thn hx fun itv s2 h2 => ?_)
  obtain ⟨it, fp, tn, J, H2, e, I2, T, st2, f2, q⟩ := h2
  subst e
  refine wpAny_newSet_raw fun led hled => newEnv_comp ?_
  subst hled
  generalize hD : s2.heap.objs.size = D
  have free_ : H2 D = none := I2.hok.fresh (Nat.le_of_eq hD)
  obtain ⟨W, ⟨m0, w0⟩, turn⟩ := q D free_
  generalize hs3 : ({ s2 with heap := s2.heap.push (freshSet X.w) } : Shared) = s3
  generalize hH3 : upd H2 D (SetO X.w D (fun _ => false) 0) = H3
  have at3 : s3.heap = s2.heap.push (freshSet X.w) := by rw [← hs3]
  have I3 : Inv X pins σ H3 s3 := by
    rw [← hs3, ← hH3]
    refine I2.laid (t' := s2.toks) (fun b o z => Heap.get?_push_of_some _ z) (Nat.le_of_eq hD) (setO_new ?_)
    rw [← hD]
    exact setR_fresh X.w
  have low : ∀ b ∈ fp, b < s2.heap.objs.size := fun b hb => by
    obtain ⟨o, z, _⟩ := T.obj _ _ st2 b hb
    exact Heap.lt_size z
  have f3 : ∀ b ∈ fp, FpOk X pins H3 b ∧ b < s3.heap.objs.size := fun b hb => by
    have lt := low b hb
    refine ⟨⟨?_, (f2 b hb).2⟩, by rw [at3, Heap.size_push]; exact Nat.lt_succ_of_lt lt⟩
    rw [← hH3, upd_ne (by rw [← hD]; exact Nat.ne_of_lt lt)]
    exact (f2 b hb).1
  have I4 := block_start I3 ok hN f3
  generalize hcells : cellsFrom (s3.heap.objs.size + 1) scope.names (cloFrom X.env.cells scope.names []) = cells at I4
  have pg := hg s3 H3 s3.heap.objs.size cells fp
  have pt := ht s3 H3 s3.heap.objs.size cells fp
  have pe := he s3 H3 s3.heap.objs.size cells fp
  have home : (compEnvC scope cells s3.heap.objs.size X.env).locals = s3.heap.objs.size := rfl
  show codeAny _ _ (.compStart (.SetComp elt [⟨tg, iter, ifs, 0⟩] scope pos) 0 (.ref it) (.ref D) (compEnvC scope cells s3.heap.objs.size X.env)) (compPost (model X.prog X.w) X.A X.xe none (EP X pins σ Q) (.ref D) s3.heap.objs.size) { s3 with heap := pushCells (s3.heap.push { cls := .type "dict", data := .dict #[] }) scope.names }
  have clear : ∀ b ∈ fp, H3 b = none := fun b hb => (f3 b hb).1.1
  have start : tn 0 (pushCells (s3.heap.push { cls := .type "dict", data := .dict #[] }) scope.names) := T.keep _ _ _ st2 fun b _ o z => pushCells_keeps _ _ _ _ (Heap.get?_push_of_some _ (by rw [at3]; exact Heap.get?_push_of_some _ z))
  generalize hce : compEnvC scope cells s3.heap.objs.size X.env = ce at I4 pg pt pe home ⊢
  generalize hs4 : ({ s3 with heap := pushCells (s3.heap.push { cls := .type "dict", data := .dict #[] }) scope.names } : Shared) = s4 at I4 ⊢
  have st4 : tn 0 s4.heap := by
    rw [← hs4]
    exact start
  have footing : ∀ {σ' : L2.St} {H' : Hp} {s' : Shared}, Inv (X.blk s3 H3 scope ce fp) [] σ' H' s' → (∀ b ∈ fp, H' b = none) → ∀ b ∈ fp, FpOk (X.blk s3 H3 scope ce fp) [] H' b := fun {σ' H' s'} I' n b hb =>
    ⟨n b hb, (I'.ok.exf b hb).1, I'.ok.exfs b hb, .inl hb, fun x c z => (I'.ok.exf b hb).2 x c z, fun p hp => absurd (show p ∈ ([] : List (Addr × Obj)) ++ [] from hp) (by simp)⟩
  have loop : codeAny (model X.prog X.w) X.A (.compLoop (.SetComp elt [⟨tg, iter, ifs, 0⟩] scope pos) 0 (.ref it) (.ref D) ce) (compPost (model X.prog X.w) X.A X.xe none (EP X pins σ Q) (.ref D) s3.heap.objs.size) s4 := by
    refine compLoop_set_any (fun n s' => ∃ i H', Inv (X.blk s3 H3 scope ce fp) [] (wipe σ (own.map (·.2))) H' s' ∧ tn i s'.heap ∧ (∀ b ∈ fp, H' b = none) ∧ W i n H') ?_ m0 ⟨0, H3, I4, st4, clear, by rw [← hH3]; exact w0⟩
    rintro n s5 ⟨i, H5, I5, st5, n5, w5⟩
    rcases turn i n H5 w5 with ⟨stop, qq⟩ | ⟨go, Nx, hNx, step⟩
    · refine thnF (T.done (X.blk s3 H3 scope ce fp) rfl rfl rfl hc i [] s5 _ H5 (fun _ _ => False) I5 (footing I5 n5) st5 stop) fun r s6 ⟨hr, I6⟩ => ?_
      subst hr
      have I7 : Inv X pins σ H5 s6 := I3.call' (ch := fp) I6.os I6.base I6.hok I6.bare fun b hb => ⟨(f3 b hb).1.2.2.2.1, (f3 b hb).1.2.1, (f3 b hb).1.2.2.2.2.1, (f3 b hb).1.2.2.2.2.2⟩
      have off : H5 s3.heap.objs.size = none := by
        rw [← home]
        exact I6.free
      obtain ⟨m, hn, _⟩ := I6.loc
      have hn : s6.heap.Ns ce.locals m := hn
      rw [home] at hn
      obtain ⟨f0, f1, _, g3, g4, g5⟩ := I3.fpOk (Nat.le_refl _) off
      refine ⟨m, hn, fun h'' only => ?_⟩
      exact ⟨.ref D, H5, I7.turned (t' := s6.toks) (fun b o hb z => (only.2 b hb).trans z) f0 f1 g3 g4 g5, rfl, qq⟩
    · refine thnF (T.item (X.blk s3 H3 scope ce fp) rfl rfl rfl hc i [] s5 _ H5 (fun _ _ => False) I5 (footing I5 n5) st5 go) fun r s6 ⟨u, hr, h6⟩ => ?_
      subst hr
      refine thnF h6 fun _ s7 ⟨x, H7, I7, r7, y7, st7, n7⟩ => ?_
      have I7' := I7.pinned (footing I7 n7) (T.obj _ _ st7)
      refine thnF (pg.run _ s7 _ H7 x u _ I7' r7 (step x H7 y7)) fun _ s8 ⟨σ8, H8, I8, hw8, q8⟩ => ?_
      refine thnF (pt.run _ s8 σ8 H8 _ I8 q8) fun b s9 ⟨H9, I9, q9⟩ => ?_
      have fin : ∀ {s' : Shared} {H' : Hp}, Inv (X.blk s3 H3 scope ce fp) ([] ++ pinsAt fp s7.heap) σ8 H' s' → Nx H' → ∃ m, m < n ∧ ∃ i H', Inv (X.blk s3 H3 scope ce fp) [] (wipe σ (own.map (·.2))) H' s' ∧ tn i s'.heap ∧ (∀ b ∈ fp, H' b = none) ∧ W i m H' := fun {s' H'} I' nx => by
        obtain ⟨m', hm, w'⟩ := hNx H' nx
        have held : ∀ b ∈ fp, ∀ o, s7.heap.get? b = some o → s'.heap.get? b = some o ∧ H' b = none := fun b hb o z =>
          let y := I'.pin (b, o) (List.mem_append_right _ (List.mem_append_right _ (mem_pinsAt hb z)))
          ⟨y.1, y.2.1⟩
        have same_len : (wipe σ (own.map (·.2))).length = σ8.length := by rw [← hw8, wipe_length]
        refine ⟨m', hm, i + 1, H', (I'.unpinned (pins := [])).weak same_len (fun j v z => ?_), T.keep _ _ _ st7 fun b hb o z => (held b hb o z).1, fun b hb => ?_, w'⟩
        · rw [← hw8] at z
          exact (wipe_some z).1
        · obtain ⟨o, z, _⟩ := T.obj _ _ st7 b hb
          exact (held b hb o z).2
      cases b with
      | false =>
        simp only [Bool.false_eq_true, if_false] at q9 ⊢
        exact fin I9 q9
      | true =>
        simp only [if_true] at q9 ⊢
        refine thnF (pe.run _ s9 σ8 H9 _ I9 q9) fun v s10 ⟨y, H10, I10, r10, k, S, c, ek, hD10, room, nx⟩ => ?_
        subst ek
        have add := (mt_sadd (X := X.blk s3 H3 scope ce fp)) _ s10 σ8 H10 (.ref D) [.int k] (.ref D) [v] (fun v' H' => v' = .non ∧ Nx H') I10 rfl (.cons r10 .nil) ⟨D, k, S, c, rfl, rfl, hD10, room, rfl, nx⟩
        refine wpAny_mono add (fun _ s11 z => ?_) fun _ _ z => False.elim z
        obtain ⟨v', H11, I11, _, _, nx⟩ := z
        exact fin I11 nx
  exact codeAny_compStart_set loop (T.self X.A 0 _ _ _ st4 loop)
end
end My
set_option Elab.async false
set_option linter.all false
set_option maxRecDepth 100000
set_option maxHeartbeats 4000000
/-! a walk over a list or a tuple; isinstance(e, a built-in class) of a caught error; what leaves a lambda's body; the end with the top's tables -/
namespace My
open PySem L2 PySem.Spec PyProof.Rows
section
variable {X : Cx} {tg : Expr}
def iLT (K : PySem.W.Frag) (te : TE) : TI := fun σ H R => te σ H fun x H1 => ∃ a, x = .ref a ∧ ((∃ xs, SqL K H1 a xs ∧ R (Itl K a) H1) ∨ ∃ xs, SqT K H1 a xs ∧ R (Itt K a) H1)
theorem pi_lt {e : Expr} {te : TE} (he : PE X e te) : PI X tg e (iLT X.K te) := by
  refine ⟨fun pins s σ H R I want => thn (he.run pins s σ H _ I want) fun v s1 ⟨x, H1, I1, r1, a, ex, q⟩ => ?_⟩
  subst ex
  cases r1
  have fresh_ : ∀ b ∈ [s1.heap.objs.size], FpOk X pins H1 b := fun b hb => by
    obtain rfl := List.mem_singleton.mp hb
    exact I1.fpOk (Nat.le_refl _) (I1.hok.fresh (Nat.le_refl _))
  rcases q with ⟨xs, hq, q⟩ | ⟨xs, hq, q⟩
  · obtain ⟨its, rv, pl, _⟩ := I1.list hq
    exact wpAny_pyIter_list pl.isList ⟨_, _, _, _, H1, rfl, I1.kept (t' := s1.toks) fun b o z => Heap.get?_push_of_some _ z, turn_list a _, ⟨_, Heap.get?_push_size _ rfl, rfl, rfl⟩, fresh_, q⟩
  · obtain ⟨its, rv, pl, _⟩ := I1.tuple hq
    exact wpAny_pyIter_tuple (show s1.heap.IsTuple a its.toArray from pl) ⟨_, _, _, _, H1, rfl, I1.kept (t' := s1.toks) fun b o z => Heap.get?_push_of_some _ z, turn_tuple a _, ⟨_, Heap.get?_push_size _ rfl, rfl, rfl⟩, fresh_, q⟩
end
/-- isinstance(e, T), T built in -/
def rIsV (K : PySem.W.Frag) (D a dd : Addr) (n : String) : List V → Hp → VK → Prop := fun xs H Q => ∃ (b : Bool) (fs : List (Str × V)), xs = [.ref a, .ty n] ∧ H dd = some (.xd fs) ∧ PySem.W.kitOne K (.ref D) (.type n) = some b ∧ Q (.bl b) H
theorem call_isV {X : Cx} {a D dd : Addr} {n : String} {oe : Obj} {pn : List (Addr × Obj)} (C : ExcC X.K D) (hz : Zc (.ref D) (some dd) oe) (hf : ∃ vs, oe.data = .fields vs) : CallR (X.suite a ((a, oe) :: pn)) (.builtin "isinstance") (rIsV X.K D a dd n) := by
  intro pins s σ H xs us Q I r want
  obtain ⟨b, fs, rfl, hd, e, q⟩ := want
  obtain ⟨u1, u2, rfl, r1, r2⟩ := vals2 r
  cases r1
  cases r2
  obtain ⟨at_, _⟩ := I.pin (a, oe) (List.mem_append_left _ List.mem_cons_self)
  obtain ⟨vs, hv⟩ := hf
  obtain ⟨mA, hns, _⟩ : ObjOk X.prog X.w H s.heap dd (.xd fs) := I.hok dd _ hd
  obtain ⟨od, ho, _⟩ := lookIn_ns hns
  have J : PySem.W.InstAt s.heap a oe D (some od) := ⟨at_, hz.1, by unfold PySem.W.notCls; rw [hv] <;> rfl, by rw [hz.2]; exact ho⟩
  exact PySem.W.kia_one (kit_caught C) I.kIn J e (fun z => nomatch z) fun tk => ⟨.bl b, H, I.kept (t' := tk) fun _ _ z => z, rfl, q⟩
/-- what a def called within a lambda lets out leaves the lambda -/
theorem pass_lam {X : Cx} {A : Around} {outer : List Env} {s : Shared} {H : Hp} {E : XK} {scope : Scope} {f c' : Addr} : Passes (L2.CX X.prog X.w) (LamX.lamCx X A outer s H E scope f c') E :=
  L2.passes_call (X := LamX.lamCx X A outer s H E scope f c') (W := fun cls d _ H => E cls d H) (takes_of rfl rfl rfl rfl) fun _ _ _ _ h => h
/-- the rule for a def whose code object is known -/
theorem fun_okC {P : Program} {w : World} {K : PySem.W.Frag} {mg : Str → Option Value} {base : Heap} {x qual : Str} {st : Stmt} {f c : Addr} {fd : FuncData} {N ps : List Str} {k : Nat} {sp : Sp} (F : Fun K x qual st f fd) (hc : fd.code = .ref c) (S : FnScope N ps (defScope st)) (len : ∀ vs H Q E, sp vs H Q E → vs.length = ps.length)
    (hbody : ∀ (A : Around) (outer : List Env) (s : Shared) (H : Hp) (vs : List V) (Q : VK) (E : XK), Room k (A.deeper (envOfC qual (defScope st) s.heap.objs.size f (.ref c))) → sp vs H Q E →
      ∃ t, PSs (cxOf CX0 P w K mg base N qual (defScope st) f (.ref c) A outer s H E) (defBody st) t ∧ t { nx := fun _ H' => Q .non H', rt := Q } (start N vs) H) : FnOk P w K mg base CX0 (k + 1) f fd ps sp := by
  obtain ⟨oc, od, kV, doc, pm, an, cdv, ct, osl, rfl, lk, hcd⟩ := F.ex
  obtain rfl : cdv = .ref c := hc
  exact fn_of lk hcd S len fun A outer s H vs Q E hr hsp => hbody A outer s H vs Q E hr hsp
open LamX in
/-- the end of a law whose text's defs, those of the names, hold lambdas -/
theorem walk_ofTabs {l : PySem.W.OpenLaw} {n k : Nat} {q : Program} {loose : List Str} {XP : (Str → Option Value) → Heap → Prop} {YP : World → Heap → Prop} {d : DefRec} {K : Params → PySem.W.Frag} {CX : World → CXT} {x : Str} (names : List Str)
    (hn : l.most = some n) (hn2 : n ≤ sizeLine) (hdf : d.params.defaults = []) (hr : Room k callerA) (known : (names.all fun y => (PyProof.Rows.recsOf q).any fun e => e.name == y) = true) (hY : ∀ (w : World) (h : Heap), YP w h → (K w.params).In h)
    (F : ∀ (w : World) (mg : Str → Option Value) (fa : Addr) (h : Heap), YP w h → (K w.params).In h → h.Ns mainGlobals mg → mg d.name = some (.ref fa) →
      (∀ y ∈ names, ∀ c P, PySem.W.tabIn (K w.params) y = some (c, P) → PySem.W.CodeHd h c P ∧ h.get? P = some { cls := .none, data := .fields #[] }) → LawAtS l w (K w.params) (CX w) k n x mg fa h)
    (hCX : ∀ (w : World) (H : Hp) (s : Shared) (e : Value) (s' : Shared), CX w [] H s (fun _ _ _ => False) e s' → False) :
    PySem.W.WalkO q loose XP YP l.row.toRowW d [] (fun f vs => PySem.call f vs) := by
  refine Att.attach_callB hn hdf fun w s₀ s₁ mg mb fa o pm cd doc a vs ns G Y ho hd hcd hmg hobj hints hlen hbits hg => ?_
  have KX := hY w _ Y
  have tables : ∀ y ∈ names, ∀ c P, PySem.W.tabIn (K w.params) y = some (c, P) → PySem.W.CodeHd s₁.heap c P ∧ s₁.heap.get? P = some { cls := .none, data := .fields #[] } := fun y hy c P ht => by
    have there := List.all_eq_true.mp known y hy
    have isSome : ((PyProof.Rows.recsOf q).find? fun e => e.name == y).isSome = true := by
      rw [List.find?_isSome]
      exact List.any_eq_true.mp there
    obtain ⟨r, hr2⟩ := Option.isSome_iff_exists.mp isSome
    exact PySem.W.tab_of G.T KX hr2 ht
  obtain ⟨fd, cs, sp, hT, nT, C, hb, hsp, hF⟩ := F w mg fa _ Y KX G.T.g hmg tables
  exact law_callTs KX G.T.g G.T.b G.T.builtins G.T.nolimit hg hT nT C G.T.bmain hobj hints (Nat.le_trans hlen hn2) hr hF hb (fun H hH hS => hsp H a ns hlen hbits hH hS) fun H e s' => hCX w H s₁ e s'
end My
set_option Elab.async false
set_option linter.all false
set_option maxRecDepth 100000
set_option maxHeartbeats 4000000
/-! list(d.values()); != of tuples whose items are like one another -/
namespace My
open PySem L2 PySem.Spec PyProof.Rows
section
variable {X : Cx}
theorem kv_get {kvs : List (Key × V)} {vs : List (Key × Value)} (r : KV kvs vs) : ∀ {us : List Value}, us.length = vs.length → (∀ (j : Nat) (v : Value), us[j]? = some v → ∃ k, vs[j]? = some (k, v)) → Vals (kvs.map Prod.snd) us := by
  unfold KV at r
  induction r with
  | nil =>
    intro us hl hv
    cases us with
    | nil => exact .nil
    | cons u us => simp at hl
  | @cons p q ps qs h t ih =>
    intro us hl hv
    cases us with
    | nil => simp at hl
    | cons u us =>
      obtain ⟨k, e⟩ := hv 0 u rfl
      have e2 : q = (k, u) := by simpa using e
      subst e2
      exact .cons h.2 (ih (by simpa using hl) fun j v z => by simpa using hv (j + 1) v (by simpa using z))
def tListV (te : TE) : TE := fun σ H Q => te σ H fun x H1 => ∃ d kvs, x = .ref d ∧ Rd H1 d (.dK kvs) ∧ ∀ q, H1 q = none → Q (.ref q) (upd H1 q (.lst (kvs.map Prod.snd)))
theorem pe_listvals {e : Expr} {te : TE} {p apos cpos pos : Pos} (hc : X.calm = true) (hg : Gl X "list") (hm : X.mg "list" = none) (he : PE X e te) (hbase : attributeBase e "values" X.env (eval e X.env) = eval e X.env := by rfl) (hline : (apos.endLine == cpos.line) = true := by rfl)
    (na : starEach [.Call (.Attribute e "values" apos) [] [] cpos] X.env = (false, eval (.Call (.Attribute e "values" apos) [] [] cpos) X.env) :: starEach [] X.env := by rfl) :
    PE X (.Call (.Name "list" p) [.Call (.Attribute e "values" apos) [] [] cpos] [] pos) (tListV te) := by
  refine ⟨fun pins s σ H Q I want => ?_⟩
  refine Call_ (ld_blt I hg hm boot_list (PyProof.Rows.callWith_type1 (PyProof.Rows.args_cons ?_ na) na rfl))
  refine wpAny_Call_method (T := "dict") (id := "dict.values") hbase rfl hline F.plainAttrs_dict F.slot_dict_values F.type_dict_values (thn (he.run pins s σ H _ I want) fun u s1 ⟨x, H1, I1, rx, d, kvs, ex, hd, q⟩ => ?_)
  subst ex
  obtain rfl : u = Value.ref d := rx
  obtain ⟨z, lo, vs, rel, dd⟩ := dk_rd I1.hok hd
  refine ⟨dd.typeIs, dd.mapOf.noDict, ?_⟩
  have I2 : Inv X pins σ H1 { s1 with heap := s1.heap.push { cls := .type "dict_values", data := .fields #[.ref d] } } := I1.kept (t' := s1.toks) fun b ob q => Heap.get?_push_of_some _ q
  obtain ⟨ep, hat⟩ := dd.dictAt
  have lt : d < s1.heap.objs.size := hat.lt_size
  have fin : wpAny (model X.prog X.w) X.A (spliced (backTo pos (starEach [] X.env))) (fun ws s' => wpAny (model X.prog X.w) X.A (call (.type "list") ([] ++ (.ref s1.heap.objs.size :: ws))) (EP X pins σ Q) X.xe s') X.xe { s1 with heap := s1.heap.push { cls := .type "dict_values", data := .fields #[.ref d] } } := by
    refine PyProof.Rows.args_nil ?_
    refine PySem.W.kdl_call (PySem.W.kdl_values (r := s1.heap.objs.size) (d := d) (knd := mixKind X.prog X.w) (kvs := vs) (ep := ep)) (I1.ok.hd hc) ⟨⟨_, Heap.get?_push_size _ rfl, rfl, rfl⟩, hat.push _⟩ (by rw [← rel.length]; exact z) fun h' tk acc c' hk hD hacc => ?_
    have hv : Vals (kvs.map Prod.snd) acc.toList := kv_get rel (by rw [Array.length_toList]; exact hacc.1) fun j v e => hacc.2 j v (by rw [← Array.getElem?_toList]; exact e)
    refine ⟨.ref (s1.heap.push { cls := .type "dict_values", data := .fields #[.ref d] }).objs.size, upd H1 (s1.heap.push { cls := .type "dict_values", data := .fields #[.ref d] }).objs.size (.lst (kvs.map Prod.snd)), I2.laid (t' := tk) hk (Nat.le_refl _)
      (show ObjOk X.prog X.w _ _ _ (.lst (kvs.map Prod.snd)) from ⟨by rw [List.length_map]; exact z, acc.toList, c', hv, by rw [Array.toArray_toList]; exact hD⟩), rfl, q _ (I2.hok.fresh (Nat.le_refl _))⟩
  show wpAny _ _ (callWith cpos (.builtin "dict.values") [.ref d] [] []) _ X.xe s1
  exact method_meetsIn F.slot_dict_values F.entry_dict_values rfl (PySem.evalArgs_none ⟨rfl, dd.typeIs, F.args_dict_values_1 _, _, meets_dict_values (mixKind X.prog X.w) d lo, ⟨vs, dd⟩, fin⟩)
end
end My
namespace My
open PySem PySem.SeqAt
open AutoSeq1 (wpAny_loadPart')
open MeetsSeq MeetsSeq2 MeetsSeq3 SeqRoads2
section
variable {prog : Program} {w : World} {A : Around} {E : Value → Shared → Prop} {s : Shared} {l b : Addr} {xs ys : Array Value} {Q : Value → Shared → Prop}
/-- the comparison's own walk over the pairs; every pair is alike -/
theorem ne_body {R : Result → Shared → Prop} {dl db : Option Addr} {nl nb : Nat} {sl sb : Array (Option Value)} (at1 : s.heap.get? l = some ⟨.type "tuple", dl, .seq xs nl, sl⟩) (at2 : s.heap.get? b = some ⟨.type "tuple", db, .seq ys nb, sb⟩) (same : xs.size = ys.size)
    (each : ∀ (p : Value × Value), p ∈ xs.toList.zip ys.toList → ∀ W : Bool → Shared → Prop, W true s → wpAny (model prog w) A.in1 (eqBool p.1 p.2) W (fun e t => R (.error e) t) s) (fin : R (.ok (.ret (.bool false))) s) :
    wpAny (model prog w) A.in1 (Builtin.«tuple.__ne__» ⟨[.ref l, .ref b], []⟩) (GQ.FinOf prog w A R) (fun e t => R (.error e) t) s := by
  have sub := AutoSeq1.sub_tuple_tuple
  have each0 := each
  have fin0 := fin
  obtain ⟨hp, gg, dd, tk, os⟩ := s
  wp_walk using wpAny_loadPart' at1, wpAny_loadPart' at2, wpAny_forIn_list _ (fun left acc t => acc.1 = none ∧ t = Shared.mk hp gg dd tk os ∧ ∀ p ∈ left, p ∈ xs.toList.zip ys.toList) _
  case h => exact ⟨rfl, rfl, fun p h => h⟩
  case turn =>
    rintro ⟨u, v⟩ left acc t ⟨none_, rfl, inside⟩
    refine wpAny_bind (each0 (u, v) (inside _ List.mem_cons_self) _ ?_)
    wp_walk
    exact ⟨rfl, rfl, fun p h => inside p (List.mem_cons_of_mem _ h)⟩
  case fin =>
    rintro ⟨c1, c2⟩ t ⟨none_, rfl, -⟩
    simp only at none_
    rw [none_]
    wp_walk
    simpa [Builtin.Tuple.tupleCompareSizes, same, bne] using fin0
theorem ne_tuples (hu : A.units < cLine) (hl : s.heap.IsTuple l xs) (hb : s.heap.IsTuple b ys) (same : xs.size = ys.size)
    (each : ∀ (p : Value × Value), p ∈ xs.toList.zip ys.toList → ∀ W : Bool → Shared → Prop, W true s → wpAny (model prog w) A.in1 (eqBool p.1 p.2) W E s) (q : Q (.bool false) s) : wpAny (model prog w) A (compareOp .NotEq (.ref l) (.ref b)) Q E s := by
  obtain ⟨⟨kl, dl, bl, sl⟩, ol, el, nl, fl⟩ := id hl
  obtain ⟨⟨kb, db, bb, sb⟩, ob, eb, nb, fb⟩ := id hb
  simp only at el fl eb fb
  subst el fl eb fb
  refine wpAny_richCompare_same_room (op := .NotEq) ⟨_, ol, rfl⟩ ⟨_, ob, rfl⟩ F.slot_tuple_ne (GQ.call_here F.slot_tuple_ne ⟨_, ol, rfl⟩ F.entry_tuple_ne (F.args_tuple_ne_2 _ _) ?_) hu
  exact ne_body (R := wants (fun v t => v ≠ .notImplemented ∧ Q v t) E) ol ob same each ⟨(fun x => nomatch x), q⟩
end
end My
set_option Elab.async false
set_option linter.all false
set_option maxRecDepth 100000
set_option maxHeartbeats 4000000
namespace My
open PySem L2 PySem.Spec PyProof.Rows
section
variable {X : Cx}
/-- two items that are like one another: data, or two dicts -/
inductive LikeD (K : PySem.W.Frag) (H : Hp) : V → V → Prop
  | dat {x y : V} {d e : PyData} (h1 : Dp K H x d) (h2 : Dp K H y e) (s1 : SeqAt.shaped d = true) (s2 : SeqAt.shaped e = true) (q : PyData.eqv d e = true) : LikeD K H x y
  | dic {a b : Addr} {ks ls : List (Key × V)} (ne : a ≠ b) (h1 : H a = some (.dK ks)) (h2 : H b = some (.dK ls)) (len : ks.length = ls.length) (hit : ∀ p ∈ ks, valV ls p.1 = some p.2 ∧ flatB p.2 = true) : LikeD K H (.ref a) (.ref b)
theorem like_eq {A : Around} {pins : List (Addr × Obj)} {s : Shared} {σ : L2.St} {H : Hp} {x y : V} {u v : Value} {E : Value → Shared → Prop} {W : Bool → Shared → Prop} (hu : A.units + 64 < cLine) (I : Inv X pins σ H s) (rx : RelV x u) (ry : RelV y v) (h : LikeD X.K H x y) (q : W true s) :
    wpAny (model X.prog X.w) A (eqBool u v) W E s := by
  cases h with
  | dat h1 h2 s1 s2 e =>
    obtain ⟨as, r1⟩ := Dp.reads I _ _ _ h1 rx
    obtain ⟨bs, r2⟩ := Dp.reads I _ _ _ h2 ry
    have z := SeqAt.eqAt_reads _ _ A s u v as bs r1 r2 (SeqAt.canLay_of_shaped s1) (SeqAt.canLay_of_shaped s2) (SeqAt.room_of_shaped s1 hu)
    rw [e] at z
    exact z _ _ _ _ q
  | @dic a b ks ls ne h1 h2 len hit =>
    cases rx
    cases ry
    obtain ⟨_, ya, va, ra, da⟩ := (show ObjOk X.prog X.w H s.heap a (.dK ks) from I.hok a _ h1)
    obtain ⟨_, yb, vb, rb, db⟩ := (show ObjOk X.prog X.w H s.heap b (.dK ls) from I.hok b _ h2)
    have hl : va.length = vb.length := by rw [← ra.length, ← rb.length]; exact len
    refine GQ.eqBool_refG ne ?_
    refine PySem.W.keq_eq (knd := mixKind X.prog X.w) (r := true) ya yb da db (by omega) (fun _ => hits_all rb ra hit) ⟨_, rfl, ?_⟩
    simpa [hl] using q
/-- !=, two tuples whose items are like one another -/
def rNeTup (K : PySem.W.Frag) : R2 := fun x y H Q => ∃ a b xs ys, x = .ref a ∧ y = .ref b ∧ SqT K H a xs ∧ SqT K H b ys ∧ xs.length = ys.length ∧ (∀ (j : Nat) (x y : V), xs[j]? = some x → ys[j]? = some y → LikeD K H x y) ∧ Q (.bl false) H
theorem zip_at {α β : Type} : ∀ {xs : List α} {ys : List β} {p : α × β}, p ∈ xs.zip ys → ∃ j : Nat, xs[j]? = some p.1 ∧ ys[j]? = some p.2
  | [], _, _, h => by simp at h
  | _ :: _, [], _, h => by simp at h
  | x :: xs, y :: ys, p, h => by
    rw [List.zip_cons_cons, List.mem_cons] at h
    rcases h with rfl | h
    · exact ⟨0, rfl, rfl⟩
    · obtain ⟨j, h1, h2⟩ := zip_at h
      exact ⟨j + 1, by simpa using h1, by simpa using h2⟩
theorem vals_back : ∀ {xs : List V} {us : List Value} {j : Nat} {u : Value}, Vals xs us → us[j]? = some u → ∃ x, xs[j]? = some x ∧ RelV x u
  | _, _, _, _, .nil, h => by simp at h
  | _, _, 0, _, .cons r _, h => by
    obtain rfl := Option.some.inj h
    exact ⟨_, rfl, r⟩
  | _, _, j + 1, _, .cons _ t, h => by
    obtain ⟨x, h1, h2⟩ := vals_back (j := j) t (by simpa using h)
    exact ⟨x, by simpa using h1, h2⟩
theorem op_neTup (hu : X.A.units + 65 < cLine) : OpR X (compareOp .NotEq) (rNeTup X.K) := by
  intro pins s σ H x y v u Q I rx ry h
  obtain ⟨a, b, xs, ys, rfl, rfl, ha, hb, len, like, q⟩ := h
  cases rx
  cases ry
  obtain ⟨its, r1, e1, _⟩ := I.tuple ha
  obtain ⟨its2, r2, e2, _⟩ := I.tuple hb
  refine ne_tuples (by omega) e1 e2 (by rw [List.size_toArray, List.size_toArray, ← r1.length, ← r2.length]; exact len) (fun p hp W hw => ?_) ⟨.bl false, H, I, rfl, q⟩
  obtain ⟨j, g1, g2⟩ := zip_at hp
  obtain ⟨x, gx, rx⟩ := vals_back r1 (by simpa using g1)
  obtain ⟨y, gy, ry⟩ := vals_back r2 (by simpa using g2)
  have un : X.A.in1.units + 64 < cLine := by
    have : X.A.in1.units = X.A.units + 1 := rfl
    omega
  exact like_eq un I rx ry (like j x y gx gy) hw
end
end My
set_option Elab.async false
set_option linter.all false
set_option maxRecDepth 100000
set_option maxHeartbeats 4000000
/-! for x, y in zip(t, l), t a tuple and l a list of as many items -/
namespace My
open PySem L2 PySem.Spec PyProof.Rows PySem.W
def ItzM (K : PySem.W.Frag) (a b : Addr) : It where
  go := fun i H => ∃ (xs ys : List V) (x y : V), SqT K H a xs ∧ SqL K H b ys ∧ xs[i]? = some x ∧ ys[i]? = some y
  yld := fun i H v H' => ∃ T x y, v = .ref T ∧ H T = none ∧ H' = upd H T (.tup [x, y]) ∧ (∀ xs, SqT K H a xs → xs[i]? = some x) ∧ ∀ ys, SqL K H b ys → ys[i]? = some y
  stop := fun i H => ∃ xs ys : List V, SqT K H a xs ∧ SqL K H b ys ∧ xs.length = i ∧ ys.length = i
theorem turn_zipM {P : Program} {w : World} {K : PySem.W.Frag} {elts : List Expr} {kk : Nat} {tpos : Pos} {a b z TI TO i1 i2 : Addr} (S : ZipSep2 z TI TO i1 i2 [i1, a] [i2, b]) :
    Turn P w K (.Tuple elts kk tpos) (ItzM K a b) [z, TI, TO, i1, i2] z (fun i h => IsZip h z TI TO .none ∧ IsTupOf2 h TI (.ref i1) (.ref i2) ∧ (∃ u v, IsTupOf2 h TO u v) ∧ h.IsTupleIter i1 a i ∧ h.IsListIter i2 b i) where
  mem := by simp
  obj := fun i h st c hc => by
    obtain ⟨g1, g2, ⟨u, v, g3⟩, ⟨o4, g4, _, d4⟩, ⟨o5, g5, _, d5⟩⟩ := st
    rcases (show c = z ∨ c = TI ∨ c = TO ∨ c = i1 ∨ c = i2 by simpa using hc) with rfl | rfl | rfl | rfl | rfl
    · exact ⟨_, g1, fun v q => nomatch q⟩
    · exact ⟨_, g2, fun v q => nomatch q⟩
    · exact ⟨_, g3, fun v q => nomatch q⟩
    · exact ⟨o4, g4, fun v q => by rw [d4] at q; cases q⟩
    · exact ⟨o5, g5, fun v q => by rw [d5] at q; cases q⟩
  keep := fun i h h' st k => by
    obtain ⟨g1, g2, ⟨u, v, g3⟩, g4, g5⟩ := st
    refine ⟨k z (by simp) _ g1, k TI (by simp) _ g2, ⟨u, v, k TO (by simp) _ g3⟩, g4.at fun o q => ?_, g5.at fun o q => ?_⟩
    · exact k i1 (by simp) o q
    · exact k i2 (by simp) o q
  item := by
    intro X hP hw hK hc i pins s σ H E I hf st hg
    subst hP hw hK
    obtain ⟨g1, g2, ⟨u0, v0, g3⟩, g4, g5⟩ := st
    obtain ⟨xs, ys, x, y, ha, hb, hx, hy⟩ := hg
    obtain ⟨its, rv, pa, _⟩ := I.tuple ha
    obtain ⟨its2, rv2, pb, _⟩ := I.list hb
    have isT : s.heap.IsTuple a its.toArray := pa
    have isL : s.heap.IsList b its2.toArray := pb.isList
    obtain ⟨u, hu, ru⟩ := rv.get hx
    obtain ⟨v, hv, rv'⟩ := rv2.get hy
    have zl : z < s.heap.objs.size := Heap.lt_size g1
    have nai : a ≠ i1 := fun q => by
      obtain ⟨o1, e1, c1, _⟩ := id isT
      obtain ⟨o2, e2, c2, _⟩ := id g4
      rw [q, e2] at e1
      cases e1
      rw [c2] at c1
      exact absurd c1 (by decide)
    have nbi : b ≠ i2 := fun q => by
      obtain ⟨o1, e1, c1, _⟩ := id isL
      obtain ⟨o2, e2, c2, _⟩ := id g5
      rw [q, e2] at e1
      cases e1
      rw [c2] at c1
      exact absurd c1 (by decide)
    have free : X.A.handled = none := I.ok.hd hc
    have lt1 : i < its.toArray.size := by
      rw [List.size_toArray, ← rv.length]
      exact (List.getElem?_eq_some_iff.mp hx).1
    have lt2 : i < its2.toArray.size := by
      rw [List.size_toArray, ← rv2.length]
      exact (List.getElem?_eq_some_iff.mp hy).1
    refine wpAny_pyNext_zipD2_item S (Draws.tuple (by simpa using free) i1 a nai its.toArray) (Draws.list (by simpa using free) i2 b nbi its2.toArray) g1 g2 g3 ⟨g4, isT⟩ ⟨g5, isL⟩ lt1 lt2 fun x' y' h' tk hx' hy' z' TO' st1 st2 hT hsz hk => ?_
    obtain rfl : x' = u := by
      have e : its.toArray[i]? = some u := by simpa using hu
      rw [e] at hx'
      exact (Option.some.inj hx').symm
    obtain rfl : y' = v := by
      have e : its2.toArray[i]? = some v := by simpa using hv
      rw [e] at hy'
      exact (Option.some.inj hy').symm
    refine ⟨_, rfl, wpAny_letOwnedTupleGo_zip (s := { s with heap := h', toks := tk }) z' fun h'' z'' sb => ?_⟩
    have there : h''.get? s.heap.objs.size = some { cls := .type "tuple", data := .seq #[x', y'] } := (sb.2 _ (Nat.ne_of_gt zl)).trans hT
    have born : ObjOk X.prog X.w (upd H s.heap.objs.size (.tup [x, y])) h'' s.heap.objs.size (.tup [x, y]) := ⟨by show 2 ≤ sizeLine; decide, [x', y'], .cons ru (.cons rv' .nil), ⟨_, there, rfl, _, rfl⟩⟩
    have I1 : Inv X pins σ (upd H s.heap.objs.size (.tup [x, y])) { s with heap := h'', toks := tk } := by
      refine I.turnedNew (ch := [z, TI, TO, i1, i2]) (fun c o hb q => ?_) hf (Nat.le_refl _) born
      have n : c ≠ z ∧ c ≠ TI ∧ c ≠ TO ∧ c ≠ i1 ∧ c ≠ i2 := by simpa using hb
      exact (sb.2 c n.1).trans (hk c o n.1 n.2.2.1 n.2.2.2.1 n.2.2.2.2 q)
    refine ⟨.ref s.heap.objs.size, _, I1, rfl, ⟨_, x, y, rfl, I.hok.fresh (Nat.le_refl _), rfl, fun l hl => ?_, fun l hl => ?_⟩, ⟨z'', ?_, ⟨x', y', ?_⟩, ?_, ?_⟩, fun c hcm => ?_⟩
    · rw [I.tuple_inj hl ha]
      exact hx
    · rw [I.list_inj hl hb]
      exact hy
    · exact (sb.2 _ S.TIz).trans (hk _ _ S.TIz S.TITO S.TIi1 S.TIi2 g2)
    · exact (sb.2 _ S.TOz).trans TO'
    · exact st1.1.at fun o q => (sb.2 _ (Ne.symm S.zi1)).trans q
    · exact st2.1.at fun o q => (sb.2 _ (Ne.symm S.zi2)).trans q
    · have low : c < s.heap.objs.size := by
        rcases (show c = z ∨ c = TI ∨ c = TO ∨ c = i1 ∨ c = i2 by simpa using hcm) with rfl | rfl | rfl | rfl | rfl
        · exact zl
        · exact Heap.lt_size g2
        · exact Heap.lt_size g3
        · obtain ⟨_, e, _⟩ := g4
          exact Heap.lt_size e
        · obtain ⟨_, e, _⟩ := g5
          exact Heap.lt_size e
      rw [upd_ne (Nat.ne_of_lt low)]
      exact (hf c hcm).1
  done := by
    intro X hP hw hK hc i pins s σ H E I hf st hg
    subst hP hw hK
    obtain ⟨g1, g2, ⟨u0, v0, g3⟩, g4, g5⟩ := st
    obtain ⟨xs, ys, ha, hb, l1, l2⟩ := hg
    obtain ⟨its, rv, pa, _⟩ := I.tuple ha
    obtain ⟨its2, rv2, pb, _⟩ := I.list hb
    have isT : s.heap.IsTuple a its.toArray := pa
    have isL : s.heap.IsList b its2.toArray := pb.isList
    have nai : a ≠ i1 := fun q => by
      obtain ⟨o1, e1, c1, _⟩ := id isT
      obtain ⟨o2, e2, c2, _⟩ := id g4
      rw [q, e2] at e1
      cases e1
      rw [c2] at c1
      exact absurd c1 (by decide)
    have nbi : b ≠ i2 := fun q => by
      obtain ⟨o1, e1, c1, _⟩ := id isL
      obtain ⟨o2, e2, c2, _⟩ := id g5
      rw [q, e2] at e1
      cases e1
      rw [c2] at c1
      exact absurd c1 (by decide)
    have free : X.A.handled = none := I.ok.hd hc
    have s1 : its.toArray.size = i := by rw [List.size_toArray, ← rv.length, l1]
    have s2 : its2.toArray.size = i := by rw [List.size_toArray, ← rv2.length, l2]
    refine wpAny_pyNext_zipD2_end S (Draws.tuple (by simpa using free) i1 a nai its.toArray) (Draws.list (by simpa using free) i2 b nbi its2.toArray) g1 g2 g3 ⟨g4, isT⟩ ⟨g5, isL⟩ (by omega) (by omega) (by omega) fun h' tk hk => ⟨rfl, ?_⟩
    refine I.turnedL (t' := tk) (ch := [z, TI, TO, i1, i2]) (fun c o hb q => ?_) hf
    have n : c ≠ z ∧ c ≠ TI ∧ c ≠ TO ∧ c ≠ i1 ∧ c ≠ i2 := by simpa using hb
    exact hk c o n.1 n.2.2.1 n.2.2.2.1 n.2.2.2.2 q
  self := fun A i s Q E st h => wpAny_pyIter_zip st.1 h
def iZipM (K : PySem.W.Frag) (ta : TA) : TI := fun σ H R => ta σ H fun vs H1 => ∃ a b xs ys, vs = [.ref a, .ref b] ∧ SqT K H1 a xs ∧ SqL K H1 b ys ∧ R (ItzM K a b) H1
theorem sep_of {n a b : Nat} (la : a < n) (lb : b < n) : ZipSep2 (n + 4) (n + 2) (n + 3) n (n + 1) [n, a] [n + 1, b] := by
  have ne : ∀ {x y : Nat}, x < y ∨ y < x → (x : Addr) ≠ y := fun h e => by
    rw [show _ = _ from e] at h
    omega
  have out : ∀ {x y z : Nat}, (x : Addr) ≠ y → (x : Addr) ≠ z → (x : Addr) ∉ ([y, z] : List Addr) := fun h1 h2 h => by
    rcases List.mem_cons.mp h with h | h
    · exact h1 h
    · exact h2 (List.mem_singleton.mp h)
  exact ⟨ne (by omega), ne (by omega), ne (by omega), ne (by omega), List.mem_cons_self, out (ne (by omega)) (ne (by omega)), out (ne (by omega)) (ne (by omega)), ne (by omega), List.mem_cons_self, out (ne (by omega)) (ne (by omega)), out (ne (by omega)) (ne (by omega)), out (ne (by omega)) (ne (by omega)), out (ne (by omega)) (ne (by omega))⟩
theorem pi_zipM {X : Cx} {e e2 : Expr} {ta : TA} {p pos tpos : Pos} {elts : List Expr} {kk : Nat} (hg : Gl X "zip") (hm : X.mg "zip" = none) (ha : PA X [e, e2] ta) (hs : starEach [e, e2] X.env = (false, eval e X.env) :: starEach [e2] X.env := by rfl) (hpl : (backTo pos (starEach [e2] X.env)).any (·.1) = false := by rfl) :
    PI X (.Tuple elts kk tpos) (.Call (.Name "zip" p) [e, e2] [] pos) (iZipM X.K ta) := by
  refine ⟨fun pins s σ H R I want => ?_⟩
  refine Call_ (ld_blt I hg hm PyProof.Rows.boot_zip (PyProof.Rows.callWith_type1 (thn (ha.run pos pins s σ H _ I want) fun us s1 ⟨vs, H1, I1, r1, a, b, xs, ys, ev, ht, hl, q⟩ => ?_) hs hpl))
  subst ev
  obtain ⟨u1, u2, rfl, ra, rb⟩ := vals2 r1
  cases ra
  cases rb
  obtain ⟨its, rv, pa, _⟩ := I1.tuple ht
  obtain ⟨its2, rv2, pb, _⟩ := I1.list hl
  have isT : s1.heap.IsTuple a its.toArray := pa
  have isL : s1.heap.IsList b its2.toArray := pb.isList
  obtain ⟨oa, ea, _⟩ := id isT
  obtain ⟨ob, eb, _⟩ := id isL
  have la := Heap.lt_size ea
  have lb := Heap.lt_size eb
  refine zip_begins2 (begins_tuple a its.toArray) (begins_list b its2.toArray) isT isL fun h' gz gT gO g1 g2 _ keep => wpAny_pyIter_zip gz ?_
  have I2 : Inv X pins σ H1 { s1 with heap := h' } := I1.kept (t' := s1.toks) keep
  have sep := sep_of la lb
  refine ⟨s1.heap.objs.size + 4, [s1.heap.objs.size + 4, s1.heap.objs.size + 2, s1.heap.objs.size + 3, s1.heap.objs.size, s1.heap.objs.size + 1], _, _, H1, rfl, I2, turn_zipM sep, ⟨gz, gT, ⟨_, _, gO⟩, ⟨_, g1, rfl, rfl⟩, ⟨_, g2, rfl, rfl⟩⟩, fun c hc => ?_, q⟩
  have big : s1.heap.objs.size ≤ c := by
    rcases (show c = s1.heap.objs.size + 4 ∨ c = s1.heap.objs.size + 2 ∨ c = s1.heap.objs.size + 3 ∨ c = s1.heap.objs.size ∨ c = s1.heap.objs.size + 1 by simpa using hc) with rfl | rfl | rfl | rfl | rfl <;> omega
  exact I1.fpOk big (I1.hok.fresh big)
theorem walk_zipM {K : PySem.W.Frag} {a b : Addr} {xs ys : List V} (len : xs.length = ys.length) : Walk (ItzM K a b) xs.length (fun H => SqT K H a xs ∧ SqL K H b ys) (YPair (fun i => xs[i]?) (fun i => ys[i]?)) := by
  refine ⟨fun i _ hi q => ?_, fun _ q => ⟨xs, ys, q.1, q.2, rfl, len.symm⟩, fun i H v H' _ q y => ?_⟩
  · have h2 : i < ys.length := by omega
    exact ⟨xs, ys, xs[i], ys[i], q.1, q.2, List.getElem?_eq_getElem hi, List.getElem?_eq_getElem h2⟩
  · obtain ⟨T, x, z, h1, h2, h3, h4, h5⟩ := y
    exact ⟨T, x, z, h1, h2, h3, h4 xs q.1, h5 ys q.2⟩
end My
set_option Elab.async false
set_option linter.all false
set_option maxRecDepth 100000
set_option maxHeartbeats 4000000
/-! for i, x in enumerate(r), r a list or a tuple -/
namespace My
open PySem L2 PySem.Spec PyProof.Rows PySem.W
def iEnumA (K : PySem.W.Frag) (ta : TA) : TI := fun σ H R => ta σ H fun vs H1 => ∃ a, vs = [.ref a] ∧ ((∃ xs, SqL K H1 a xs ∧ R (Ite K a) H1) ∨ ∃ xs, SqT K H1 a xs ∧ R (IteT K a) H1)
theorem pi_enumA {X : Cx} {e : Expr} {ta : TA} {p pos tpos : Pos} {elts : List Expr} {kk : Nat} (hg : Gl X "enumerate") (hm : X.mg "enumerate" = none) (ha : PA X [e] ta) (hs : starEach [e] X.env = [(false, eval e X.env)] := by rfl) :
    PI X (.Tuple elts kk tpos) (.Call (.Name "enumerate" p) [e] [] pos) (iEnumA X.K ta) := by
  refine ⟨fun pins s σ H R I want => ?_⟩
  refine Call_ (ld_blt I hg hm boot_enumerate (PyProof.Rows.callWith_type1 (thn (ha.run pos pins s σ H _ I want) fun us s1 ⟨vs, H1, I1, r1, a, ev, q⟩ => ?_) hs rfl))
  subst ev
  rw [Vals.ref1 r1]
  have fresh2 : ∀ b, b ∈ [s1.heap.objs.size + 1, s1.heap.objs.size] → FpOk X pins H1 b := fun b hb => by
    have big : s1.heap.objs.size ≤ b := by
      rcases (show b = s1.heap.objs.size + 1 ∨ b = s1.heap.objs.size by simpa using hb) with rfl | rfl
      · exact Nat.le_add_right _ _
      · exact Nat.le_refl _
    exact I1.fpOk big (I1.hok.fresh big)
  rcases q with ⟨xs, hq, q⟩ | ⟨xs, hq, q⟩
  · obtain ⟨its, rv, pl, _⟩ := I1.list hq
    refine call_enumerate_list pl.isList fun h' he hit _ keep => wpAny_pyIter_enum he ?_
    have I2 : Inv X pins σ H1 { s1 with heap := h' } := I1.kept (t' := s1.toks) keep
    exact ⟨_, _, _, _, H1, rfl, I2, turn_enum a (s1.heap.objs.size + 1) s1.heap.objs.size, ⟨⟨.none, he⟩, hit, Nat.succ_ne_self _⟩, fresh2, q⟩
  · obtain ⟨its, rv, pl, _⟩ := I1.tuple hq
    refine call_enumT (show s1.heap.IsTuple a its.toArray from pl) fun h' he hit keep => wpAny_pyIter_enum he ?_
    have I2 : Inv X pins σ H1 { s1 with heap := h' } := I1.kept (t' := s1.toks) keep
    exact ⟨_, _, _, _, H1, rfl, I2, turn_enumT a (s1.heap.objs.size + 1) s1.heap.objs.size, ⟨⟨.none, he⟩, hit, Nat.succ_ne_self _⟩, fresh2, q⟩
end My
set_option Elab.async false
set_option linter.all false
set_option maxRecDepth 100000
set_option maxHeartbeats 4000000
/-! tuples whose object is known to have no dict: made by tuple(list); methods of theirs -/
namespace My
open PySem L2 PySem.Spec PyProof.Rows
def TupN (H : Hp) (a : Addr) (xs : List V) : Prop := ∃ o : Obj, o.dict = none ∧ H a = some (.frz o (.tup xs))
theorem TupN.sq {K : PySem.W.Frag} {H : Hp} {a : Addr} {xs : List V} (h : TupN H a xs) : SqT K H a xs := by
  obtain ⟨o, _, h⟩ := h
  exact .inl (.inr ⟨o, h⟩)
section
variable {X : Cx}
/-- tuple(x), x a list or such a tuple -/
def rTupN (K : PySem.W.Frag) : List V → Hp → VK → Prop := fun xs H Q => ∃ p ys, xs = [.ref p] ∧ (SqL K H p ys ∨ TupN H p ys) ∧ ∀ t H2, (∀ b u, H b = some u → H2 b = some u) → TupN H2 t ys → Q (.ref t) H2
theorem call_tupN : CallR X (.type "tuple") (rTupN X.K) := by
  intro pins s σ H xs us Q I r want
  obtain ⟨p, ys, rfl, is_, k⟩ := want
  rw [Vals.ref1 r]
  rcases is_ with is_ | is_
  · obtain ⟨its, rv, pl, few⟩ := I.list is_
    have hl := rv.length
    refine call_tuple_list pl.isList (fun h' keep => ?_) (by simp only [List.size_toArray] <;> omega)
    have I1 : Inv X pins σ H { s with heap := h' } := I.kept (t' := s.toks) keep
    have free := I1.hok.fresh (Nat.le_refl h'.objs.size)
    have J := I1.laid (t' := s.toks) (a := h'.objs.size) (o := .frz { cls := .type "tuple", data := .seq its.toArray } (.tup ys)) (fun b o e => Heap.get?_push_of_some { cls := .type "tuple", data := .seq its.toArray } e) (Nat.le_refl _) ⟨Heap.get?_push_size _ rfl, few, its, rv, IsTup.new _ _⟩
    exact ⟨.ref h'.objs.size, _, J, rfl, k _ _ (fun b u e => by rw [upd_ne (ne_of_none e free)]; exact e) ⟨_, rfl, upd_same⟩⟩
  · obtain ⟨its, rv, pl, _⟩ := I.tuple (is_.sq (K := X.K))
    exact call_tuple_same pl ⟨.ref p, H, I, rfl, k p H (fun _ _ e => e) is_⟩
/-- x.m(e, ..), x such a tuple -/
def tBMT (r : V → List V → Hp → VK → Prop) (to : TE) (t : TA) : TE := fun σ H Q => to σ H fun x H1 => ∃ a ys, x = .ref a ∧ TupN H1 a ys ∧ t σ H1 fun xs H2 => r x xs H2 Q
theorem pe_bmT {o e : Expr} {es : List Expr} {to : TE} {t : TA} {name : Str} {apos cpos : Pos} {id : String} {r : V → List V → Hp → VK → Prop} (pa : PlainAttrs "tuple") (slot : Slot "tuple" name id) (ty : typeOf (.builtin id) = pure (.type "method_descriptor")) (hm : MtR X id r) (ho : PE X o to) (ha : PA X (e :: es) t)
    (h1 : attributeBase o name X.env (eval o X.env) = eval o X.env := by rfl) (h2 : ((backTo cpos (starEach (e :: es) X.env)).all (fun x => !x.1) && (backToKw cpos (keywordEach [] X.env)).all (fun x => x.1.isSome) && decide ((e :: es).length + ([] : List Keyword).length + (if ([] : List Keyword).isEmpty then 0 else 1) < 30)) = true := by rfl)
    (h3 : (apos.endLine == cpos.line) = true := by rfl) (h4 : starEach (e :: es) X.env = (false, eval e X.env) :: starEach es X.env := by rfl) (h5 : (backTo cpos (starEach es X.env)).any (·.1) = false := by rfl) :
    PE X (.Call (.Attribute o name apos) (e :: es) [] cpos) (tBMT r to t) := by
  refine ⟨fun pins s σ H Q I want => ?_⟩
  refine wpAny_Call_method_late h1 h2 h3 rfl (thn (ho.run pins s σ H _ I want) fun v s1 ⟨x, H1, I1, rx, a, ys, ex, ⟨ob, nd, at_⟩, q⟩ => ?_)
  subst ex
  cases rx
  obtain ⟨got, _, its, _, o2, got2, cls, _⟩ : ObjOk X.prog X.w H1 s1.heap a (.frz ob (.tup ys)) := I1.hok a _ at_
  refine ⟨"tuple", id, pa, slot, ty, ⟨o2, got2, cls⟩, fun b eb => ?_, ?_⟩
  · cases eb
    exact ⟨ob, got, nd⟩
  · have told := ha.run cpos pins s1 σ H1 _ I1 q
    rw [h4] at told ⊢
    refine Calls.callWith_builtin ?_ (Calls.evalArgs_plain (thn told fun us s2 ⟨vs, H2, I2, r2, q2⟩ => hm pins s2 σ H2 (.ref a) vs (.ref a) us Q I2 rfl r2 q2))
    show (false || (backTo cpos (starEach es X.env)).any (·.1)) = false
    rw [h5]
    rfl
end
end My
set_option Elab.async false
set_option linter.all false
set_option maxRecDepth 100000
set_option maxHeartbeats 4000000
namespace My
open PySem L2 PySem.Spec PyProof.Rows
/-! ### rules of my own: a list's item read for `draw[1] += 1`; an item of a list or a tuple; a quotient by any great number -/
theorem get_list {X : Cx} : PGet X (rIxL X.K) := by
  intro pins s σ H o i ov iv Q I ro ri want
  obtain ⟨l, items, at_, got, eo, ei, seq, place, end_⟩ := want
  subst eo ei
  cases ro
  obtain ⟨tok, rfl⟩ := ri
  obtain ⟨own, rel, plain, _⟩ := I.list seq
  obtain ⟨k, ix, gk, kl, lo, up⟩ := atI_get place
  obtain ⟨u, gu, ru⟩ := rel.get gk
  have len := rel.length
  have far := line63
  have done_ : EP X pins σ Q u s := ⟨got, H, I, ru, end_⟩
  rcases Int.lt_or_le at_ 0 with neg | pos
  · have ek : (at_ + (own.toArray.size : Int)).toNat = k := by
      rw [seqIndex_neg neg lo] at ix
      rw [List.size_toArray, ← len]
      exact Option.some.inj ix
    exact wpAny_getItem_list_neg plain.isList neg (by rw [List.size_toArray] <;> omega) (by omega) (by rw [ek]; simpa using gu) done_
  · have ek : at_.toNat = k := by
      rw [seqIndex_of pos up] at ix
      exact Option.some.inj ix
    exact wpAny_getItem_list plain.isList pos (by omega) (by rw [ek]; simpa using gu) done_
theorem ix_lt {X : Cx} : IxR X (fun x y H Q => rIxL X.K x y H Q ∨ rIxT X.K x y H Q) := ix_list.or ix_tup
theorem seq_cut {t u : TS} {D : Ends} {σ : L2.St} {H : Hp} (R : L2.St → Hp → Prop) (h2 : ∀ σ' H', R σ' H' → u D σ' H') (h1 : (∀ σ' H', R σ' H' → u D σ' H') → t { D with nx := u D } σ H) : tSeq t u D σ H := h1 h2
theorem eqv_nil_ints (ns : List Int) (h : ns ≠ []) : PyData.eqv (.list (ns.map PyData.int)) (.list []) = false := by
  cases ns with
  | nil => exact absurd rfl h
  | cons n r => rfl

def CDivA (_ j : Int) : Prop := j ≠ 0 ∧ j.natAbs.log2 < 9000
theorem op_fdivA {X : Cx} : OpR X (binaryOp .FloorDiv) (rI CDivA fun i j => .int (i.fdiv j)) := opI fun i j _ _ _ _ _ hc q =>
  floordiv_int hc.1 q (.inl (PyProof.noPylong_of_log2 hc.2))
theorem hu64 {A : Around} {k : Nat} (hr : Room k A) : A.units + 64 < cLine := by
  have := hr.un
  omega
theorem divA_small {i j : Int} (h : j ≠ 0) (h1 : j.natAbs < 4294967296) : CDivA i j := ⟨h, Nat.lt_trans (PySem.Flt.log2_lt_of (k := 32) (by decide) (by simpa using h1)) (by decide)⟩
theorem hu1 {A : Around} {k : Nat} (hr : Room k A) : A.units + 1 < cLine := by
  have := hr.un
  omega
theorem kit_value {K : PySem.W.Frag} {C : Addr} (h : PySem.W.subIn K (.ref C) (.type "ValueError") = some true) : PySem.W.kitOne K (.ref C) (.type "ValueError") = some true := by
  have m : PySem.W.kitMeta "ValueError" = true := by decide +kernel
  unfold PySem.W.kitOne PySem.W.kitCls
  rw [if_neg (by simp)]
  show (if PySem.W.kitMeta "ValueError" = true then _ else _) = _
  rw [if_pos m]
  exact h
/-! ### the text by places -/
def top (i : Nat) : Stmt := PySem.Challenge.pw_evensieve_k01_tables.main.body.getD i (.Pass ⟨0, 0, 0, 0⟩)
abbrev s_is_whole : Stmt := top 5
theorem sc_is_whole : FnScope ["value"] ["value"] (defScope s_is_whole) := ⟨rfl, rfl, rfl, by decide +kernel, rfl, by decide +kernel, by decide +kernel⟩
abbrev s_is_between : Stmt := top 6
theorem sc_is_between : FnScope ["value", "low", "high"] ["value", "low", "high"] (defScope s_is_between) := ⟨rfl, rfl, rfl, by decide +kernel, rfl, by decide +kernel, by decide +kernel⟩
abbrev s_is_near : Stmt := top 7
theorem sc_is_near : FnScope ["value"] ["value"] (defScope s_is_near) := ⟨rfl, rfl, rfl, by decide +kernel, rfl, by decide +kernel, by decide +kernel⟩
abbrev s_is_row : Stmt := top 8
theorem sc_is_row : FnScope ["value"] ["value"] (defScope s_is_row) := ⟨rfl, rfl, rfl, by decide +kernel, rfl, by decide +kernel, by decide +kernel⟩
abbrev s_is_name : Stmt := top 9
theorem sc_is_name : FnScope ["value", "sign"] ["value"] (defScope s_is_name) := ⟨rfl, rfl, rfl, by decide +kernel, rfl, by decide +kernel, by decide +kernel⟩
abbrev s_BadColumns_init : Stmt := inClass (top 12) 0
theorem sc_BadColumns_init : FnScope ["self", "part"] ["self", "part"] (defScope s_BadColumns_init) := ⟨rfl, rfl, rfl, by decide +kernel, rfl, by decide +kernel, by decide +kernel⟩
abbrev s_BadTable_init : Stmt := inClass (top 13) 0
theorem sc_BadTable_init : FnScope ["self", "number"] ["self", "number"] (defScope s_BadTable_init) := ⟨rfl, rfl, rfl, by decide +kernel, rfl, by decide +kernel, by decide +kernel⟩
abbrev s_Columns_init : Stmt := inClass (top 20) 0
theorem sc_Columns_init : FnScope ["self", "hashed", "asked", "summed", "part", "name"] ["self", "hashed", "asked", "summed"] (defScope s_Columns_init) := ⟨rfl, rfl, rfl, by decide +kernel, rfl, by decide +kernel, by decide +kernel⟩
abbrev s_Columns_asked : Stmt := inClass (top 20) 1
theorem sc_Columns_asked : FnScope ["self"] ["self"] (defScope s_Columns_asked) := ⟨rfl, rfl, rfl, by decide +kernel, rfl, by decide +kernel, by decide +kernel⟩
abbrev s_Columns_kinds : Stmt := inClass (top 20) 2
theorem sc_Columns_kinds : FnScope ["self", "name"] ["self"] (defScope s_Columns_kinds) := ⟨rfl, rfl, rfl, by decide +kernel, rfl, by decide +kernel, by decide +kernel⟩
abbrev s_Columns_eq : Stmt := inClass (top 20) 3
theorem sc_Columns_eq : FnScope ["self", "other"] ["self", "other"] (defScope s_Columns_eq) := ⟨rfl, rfl, rfl, by decide +kernel, rfl, by decide +kernel, by decide +kernel⟩
abbrev s_Table_init : Stmt := inClass (top 21) 0
theorem sc_Table_init : FnScope ["self", "columns", "rows", "number", "row"] ["self", "columns", "rows"] (defScope s_Table_init) := ⟨rfl, rfl, rfl, by decide +kernel, rfl, by decide +kernel, by decide +kernel⟩
abbrev s_Table_entity : Stmt := inClass (top 21) 1
theorem sc_Table_entity : FnScope ["self", "number", "kind", "row"] ["self", "number", "kind"] (defScope s_Table_entity) := ⟨rfl, rfl, rfl, by decide +kernel, rfl, by decide +kernel, by decide +kernel⟩
abbrev s_Table_entities : Stmt := inClass (top 21) 2
theorem sc_Table_entities : FnScope ["self", "kind", "number"] ["self", "kind"] (defScope s_Table_entities) := ⟨rfl, rfl, rfl, by decide +kernel, rfl, by decide +kernel, by decide +kernel⟩
abbrev s_Table_len : Stmt := inClass (top 21) 3
theorem sc_Table_len : FnScope ["self"] ["self"] (defScope s_Table_len) := ⟨rfl, rfl, rfl, by decide +kernel, rfl, by decide +kernel, by decide +kernel⟩
abbrev s_Table_eq : Stmt := inClass (top 21) 4
theorem sc_Table_eq : FnScope ["self", "other"] ["self", "other"] (defScope s_Table_eq) := ⟨rfl, rfl, rfl, by decide +kernel, rfl, by decide +kernel, by decide +kernel⟩
abbrev s_wrong_part : Stmt := top 22
theorem sc_wrong_part : FnScope ["hashed", "asked", "summed", "names"] ["hashed", "asked", "summed"] (defScope s_wrong_part) := ⟨rfl, rfl, rfl, by decide +kernel, rfl, by decide +kernel, by decide +kernel⟩
abbrev s_are_names : Stmt := top 23
theorem sc_are_names : FnScope ["row", "most", "name"] ["row", "most"] (defScope s_are_names) := ⟨rfl, rfl, rfl, by decide +kernel, rfl, by decide +kernel, by decide +kernel⟩
abbrev s_are_asked : Stmt := top 24
theorem sc_are_asked : FnScope ["asked", "name"] ["asked"] (defScope s_are_asked) := ⟨rfl, rfl, rfl, by decide +kernel, rfl, by decide +kernel, by decide +kernel⟩
abbrev s_is_table_row : Stmt := top 25
theorem sc_is_table_row : FnScope ["columns", "row", "block", "keys", "values", "sums"] ["columns", "row"] (defScope s_is_table_row) := ⟨rfl, rfl, rfl, by decide +kernel, rfl, by decide +kernel, by decide +kernel⟩
abbrev s_are_numbers : Stmt := top 26
theorem sc_are_numbers : FnScope ["numbers", "many", "number"] ["numbers", "many"] (defScope s_are_numbers) := ⟨rfl, rfl, rfl, by decide +kernel, rfl, by decide +kernel, by decide +kernel⟩
abbrev s_are_values : Stmt := top 27
theorem sc_are_values : FnScope ["values", "kinds", "value", "kind"] ["values", "kinds"] (defScope s_are_values) := ⟨rfl, rfl, rfl, by decide +kernel, rfl, by decide +kernel, by decide +kernel⟩
abbrev s_is_value : Stmt := top 28
theorem sc_is_value : FnScope ["value", "kind"] ["value", "kind"] (defScope s_is_value) := ⟨rfl, rfl, rfl, by decide +kernel, rfl, by decide +kernel, by decide +kernel⟩
abbrev s__law_number : Stmt := top 30
theorem sc__law_number : FnScope ["script", "index", "cell", "turn", "rest", "step", "blend"] ["script", "index"] (defScope s__law_number) := ⟨rfl, rfl, rfl, by decide +kernel, rfl, by decide +kernel, by decide +kernel⟩
abbrev s__law_take : Stmt := top 31
theorem sc__law_take : FnScope ["draw", "many"] ["draw", "many"] (defScope s__law_take) := ⟨rfl, rfl, rfl, by decide +kernel, rfl, by decide +kernel, by decide +kernel⟩
abbrev s__law_pick : Stmt := top 32
theorem sc__law_pick : FnScope ["draw", "items"] ["draw", "items"] (defScope s__law_pick) := ⟨rfl, rfl, rfl, by decide +kernel, rfl, by decide +kernel, by decide +kernel⟩
abbrev s__law_columns : Stmt := top 33
theorem sc__law_columns : FnScope ["draw", "values"] ["draw"] (defScope s__law_columns) := ⟨rfl, rfl, rfl, by decide +kernel, rfl, by decide +kernel, by decide +kernel⟩
abbrev s__law_rows : Stmt := top 34
theorem sc__law_rows : FnScope ["draw", "columns", "most", "keys", "values", "sums", "texts", "found", "far", "number", "row", "key", "late", "name"] ["draw", "columns", "most"] (defScope s__law_rows) := ⟨rfl, rfl, rfl, by decide +kernel, rfl, by decide +kernel, by decide +kernel⟩
abbrev s__law_refused : Stmt := top 35
theorem sc__law_refused : FnScope ["deed", "fault"] ["deed"] (defScope s__law_refused) := ⟨rfl, rfl, rfl, by decide +kernel, rfl, by decide +kernel, by decide +kernel⟩
abbrev s__law_columns_right : Stmt := top 36
theorem sc__law_columns_right : FnScope ["draw", "columns", "keys", "values", "sums", "bad", "name", "words", "told", "wrong", "word", "due", "twice"] ["draw", "columns"] (defScope s__law_columns_right) := ⟨rfl, rfl, rfl, by decide +kernel, rfl, by decide +kernel, by decide +kernel⟩
abbrev s__law_bent : Stmt := top 37
theorem sc__law_bent : FnScope ["draw", "columns", "row", "block", "keys", "values", "sums", "bad", "strange", "kind"] ["draw", "columns", "row"] (defScope s__law_bent) := ⟨rfl, rfl, rfl, by decide +kernel, rfl, by decide +kernel, by decide +kernel⟩
abbrev s_law : Stmt := top 38
theorem sc_law : FnScope ["script", "draw", "columns", "rows", "made", "given", "table", "key", "kind", "due", "row", "number", "at", "late"] ["script"] (defScope s_law) := ⟨rfl, rfl, rfl, by decide +kernel, rfl, by decide +kernel, by decide +kernel⟩
structure Txt (K : PySem.W.Frag) (mg : Str → Option Value) where
  a_is_whole : Addr
  d_is_whole : FuncData
  F_is_whole : Fun K "is_whole" "is_whole" s_is_whole a_is_whole d_is_whole
  b_is_whole : Binds K d_is_whole ["value"] []
  m_is_whole : mg "is_whole" = some (.ref a_is_whole)
  a_is_between : Addr
  d_is_between : FuncData
  F_is_between : Fun K "is_between" "is_between" s_is_between a_is_between d_is_between
  b_is_between : Binds K d_is_between ["value", "low", "high"] []
  m_is_between : mg "is_between" = some (.ref a_is_between)
  a_is_near : Addr
  d_is_near : FuncData
  F_is_near : Fun K "is_near" "is_near" s_is_near a_is_near d_is_near
  b_is_near : Binds K d_is_near ["value"] []
  m_is_near : mg "is_near" = some (.ref a_is_near)
  a_is_row : Addr
  d_is_row : FuncData
  F_is_row : Fun K "is_row" "is_row" s_is_row a_is_row d_is_row
  b_is_row : Binds K d_is_row ["value"] []
  m_is_row : mg "is_row" = some (.ref a_is_row)
  a_is_name : Addr
  d_is_name : FuncData
  F_is_name : Fun K "is_name" "is_name" s_is_name a_is_name d_is_name
  b_is_name : Binds K d_is_name ["value"] []
  m_is_name : mg "is_name" = some (.ref a_is_name)
  a_BadColumns_init : Addr
  d_BadColumns_init : FuncData
  F_BadColumns_init : Fun K "__init__" "BadColumns.__init__" s_BadColumns_init a_BadColumns_init d_BadColumns_init
  b_BadColumns_init : Binds K d_BadColumns_init ["self", "part"] []
  a_BadTable_init : Addr
  d_BadTable_init : FuncData
  F_BadTable_init : Fun K "__init__" "BadTable.__init__" s_BadTable_init a_BadTable_init d_BadTable_init
  b_BadTable_init : Binds K d_BadTable_init ["self", "number"] []
  a_Columns_init : Addr
  d_Columns_init : FuncData
  F_Columns_init : Fun K "__init__" "Columns.__init__" s_Columns_init a_Columns_init d_Columns_init
  b_Columns_init : Binds K d_Columns_init ["self", "hashed", "asked", "summed"] []
  a_Columns_asked : Addr
  d_Columns_asked : FuncData
  F_Columns_asked : Fun K "asked" "Columns.asked" s_Columns_asked a_Columns_asked d_Columns_asked
  b_Columns_asked : Binds K d_Columns_asked ["self"] []
  a_Columns_kinds : Addr
  d_Columns_kinds : FuncData
  F_Columns_kinds : Fun K "kinds" "Columns.kinds" s_Columns_kinds a_Columns_kinds d_Columns_kinds
  b_Columns_kinds : Binds K d_Columns_kinds ["self"] []
  a_Columns_eq : Addr
  d_Columns_eq : FuncData
  F_Columns_eq : Fun K "__eq__" "Columns.__eq__" s_Columns_eq a_Columns_eq d_Columns_eq
  b_Columns_eq : Binds K d_Columns_eq ["self", "other"] []
  a_Table_init : Addr
  d_Table_init : FuncData
  F_Table_init : Fun K "__init__" "Table.__init__" s_Table_init a_Table_init d_Table_init
  b_Table_init : Binds K d_Table_init ["self", "columns", "rows"] []
  a_Table_entity : Addr
  d_Table_entity : FuncData
  F_Table_entity : Fun K "entity" "Table.entity" s_Table_entity a_Table_entity d_Table_entity
  b_Table_entity : Binds K d_Table_entity ["self", "number", "kind"] []
  a_Table_entities : Addr
  d_Table_entities : FuncData
  F_Table_entities : Fun K "entities" "Table.entities" s_Table_entities a_Table_entities d_Table_entities
  b_Table_entities : Binds K d_Table_entities ["self", "kind"] []
  a_Table_len : Addr
  d_Table_len : FuncData
  F_Table_len : Fun K "__len__" "Table.__len__" s_Table_len a_Table_len d_Table_len
  b_Table_len : Binds K d_Table_len ["self"] []
  a_Table_eq : Addr
  d_Table_eq : FuncData
  F_Table_eq : Fun K "__eq__" "Table.__eq__" s_Table_eq a_Table_eq d_Table_eq
  b_Table_eq : Binds K d_Table_eq ["self", "other"] []
  a_wrong_part : Addr
  d_wrong_part : FuncData
  F_wrong_part : Fun K "wrong_part" "wrong_part" s_wrong_part a_wrong_part d_wrong_part
  b_wrong_part : Binds K d_wrong_part ["hashed", "asked", "summed"] []
  m_wrong_part : mg "wrong_part" = some (.ref a_wrong_part)
  a_are_names : Addr
  d_are_names : FuncData
  F_are_names : Fun K "are_names" "are_names" s_are_names a_are_names d_are_names
  b_are_names : Binds K d_are_names ["row", "most"] []
  m_are_names : mg "are_names" = some (.ref a_are_names)
  a_are_asked : Addr
  d_are_asked : FuncData
  F_are_asked : Fun K "are_asked" "are_asked" s_are_asked a_are_asked d_are_asked
  b_are_asked : Binds K d_are_asked ["asked"] []
  m_are_asked : mg "are_asked" = some (.ref a_are_asked)
  a_is_table_row : Addr
  d_is_table_row : FuncData
  F_is_table_row : Fun K "is_table_row" "is_table_row" s_is_table_row a_is_table_row d_is_table_row
  b_is_table_row : Binds K d_is_table_row ["columns", "row"] []
  m_is_table_row : mg "is_table_row" = some (.ref a_is_table_row)
  a_are_numbers : Addr
  d_are_numbers : FuncData
  F_are_numbers : Fun K "are_numbers" "are_numbers" s_are_numbers a_are_numbers d_are_numbers
  b_are_numbers : Binds K d_are_numbers ["numbers", "many"] []
  m_are_numbers : mg "are_numbers" = some (.ref a_are_numbers)
  a_are_values : Addr
  d_are_values : FuncData
  F_are_values : Fun K "are_values" "are_values" s_are_values a_are_values d_are_values
  b_are_values : Binds K d_are_values ["values", "kinds"] []
  m_are_values : mg "are_values" = some (.ref a_are_values)
  a_is_value : Addr
  d_is_value : FuncData
  F_is_value : Fun K "is_value" "is_value" s_is_value a_is_value d_is_value
  b_is_value : Binds K d_is_value ["value", "kind"] []
  m_is_value : mg "is_value" = some (.ref a_is_value)
  a__law_number : Addr
  d__law_number : FuncData
  F__law_number : Fun K "_law_number" "_law_number" s__law_number a__law_number d__law_number
  b__law_number : Binds K d__law_number ["script", "index"] []
  m__law_number : mg "_law_number" = some (.ref a__law_number)
  a__law_take : Addr
  d__law_take : FuncData
  F__law_take : Fun K "_law_take" "_law_take" s__law_take a__law_take d__law_take
  b__law_take : Binds K d__law_take ["draw", "many"] []
  m__law_take : mg "_law_take" = some (.ref a__law_take)
  a__law_pick : Addr
  d__law_pick : FuncData
  F__law_pick : Fun K "_law_pick" "_law_pick" s__law_pick a__law_pick d__law_pick
  b__law_pick : Binds K d__law_pick ["draw", "items"] []
  m__law_pick : mg "_law_pick" = some (.ref a__law_pick)
  a__law_columns : Addr
  d__law_columns : FuncData
  F__law_columns : Fun K "_law_columns" "_law_columns" s__law_columns a__law_columns d__law_columns
  b__law_columns : Binds K d__law_columns ["draw"] []
  m__law_columns : mg "_law_columns" = some (.ref a__law_columns)
  a__law_rows : Addr
  d__law_rows : FuncData
  F__law_rows : Fun K "_law_rows" "_law_rows" s__law_rows a__law_rows d__law_rows
  b__law_rows : Binds K d__law_rows ["draw", "columns", "most"] []
  m__law_rows : mg "_law_rows" = some (.ref a__law_rows)
  a__law_refused : Addr
  d__law_refused : FuncData
  F__law_refused : Fun K "_law_refused" "_law_refused" s__law_refused a__law_refused d__law_refused
  b__law_refused : Binds K d__law_refused ["deed"] []
  m__law_refused : mg "_law_refused" = some (.ref a__law_refused)
  a__law_columns_right : Addr
  d__law_columns_right : FuncData
  F__law_columns_right : Fun K "_law_columns_right" "_law_columns_right" s__law_columns_right a__law_columns_right d__law_columns_right
  b__law_columns_right : Binds K d__law_columns_right ["draw", "columns"] []
  m__law_columns_right : mg "_law_columns_right" = some (.ref a__law_columns_right)
  a__law_bent : Addr
  d__law_bent : FuncData
  F__law_bent : Fun K "_law_bent" "_law_bent" s__law_bent a__law_bent d__law_bent
  b__law_bent : Binds K d__law_bent ["draw", "columns", "row"] []
  m__law_bent : mg "_law_bent" = some (.ref a__law_bent)
  a_law : Addr
  d_law : FuncData
  F_law : Fun K "law" "law" s_law a_law d_law
  b_law : Binds K d_law ["script"] []
  m_law : mg "law" = some (.ref a_law)
  z_ValueError : mg "ValueError" = none
  z_isinstance : mg "isinstance" = none
  z_all : mg "all" = none
  z_str : mg "str" = none
  z_range : mg "range" = none
  z_int : mg "int" = none
  z_list : mg "list" = none
  z_tuple : mg "tuple" = none
  z_dict : mg "dict" = none
  z_enumerate : mg "enumerate" = none
  z_len : mg "len" = none
  z_sorted : mg "sorted" = none
  z_bool : mg "bool" = none
  z_set : mg "set" = none
  z_zip : mg "zip" = none
  z_max : mg "max" = none
  t_MOST_ROWS : Tok
  m_MOST_ROWS : mg "MOST_ROWS" = some (.int 60 t_MOST_ROWS)
  t_KEY : Tok
  m_KEY : mg "KEY" = some (.str "key " t_KEY)
  t_LETTERS : Tok
  m_LETTERS : mg "LETTERS" = some (.str "abcdefghijklmnopqrstuvwxyz" t_LETTERS)
  a_RESERVED : Addr
  m_RESERVED : mg "RESERVED" = some (.ref a_RESERVED)
  q_RESERVED : ∀ H : Hp, SqT K H a_RESERVED [.str "row", .str "block", .str "hash", .str "not", .str "and", .str "or", .str "all", .str "none", .str "like"]
  t_FAR : Tok
  m_FAR : mg "FAR" = some (.int 1000000 t_FAR)
  t_LONGEST_NAME : Tok
  m_LONGEST_NAME : mg "LONGEST_NAME" = some (.int 8 t_LONGEST_NAME)
  t_MOST_HASHED : Tok
  m_MOST_HASHED : mg "MOST_HASHED" = some (.int 2 t_MOST_HASHED)
  t_MOST_ASKED : Tok
  m_MOST_ASKED : mg "MOST_ASKED" = some (.int 4 t_MOST_ASKED)
  t_MOST_SUMMED : Tok
  m_MOST_SUMMED : mg "MOST_SUMMED" = some (.int 2 t_MOST_SUMMED)
  c_Columns : Addr
  m_Columns : mg "Columns" = some (.ref c_Columns)
  cl_Columns : Cls K c_Columns
  n_Columns_hashed : NoAttr K c_Columns "hashed"
  n_Columns__asked : NoAttr K c_Columns "_asked"
  n_Columns_summed : NoAttr K c_Columns "summed"
  mk_Columns : Mk K c_Columns a_Columns_init
  q_Columns_kinds : Meth K c_Columns "kinds" a_Columns_kinds
  q_Columns_eq : Meth K c_Columns "__eq__" a_Columns_eq
  ne_Columns : PySem.W.findIn K (.ref c_Columns) "__ne__" = some (some (.builtin "object.__ne__"))
  mo_Columns : PySem.W.mroIn K c_Columns (.type "object") = some true
  ty_Columns : ∀ {H : Hp} {a dx : Addr} {fs : List (Str × V)}, H a = some (.ins c_Columns dx fs) → TyX K H (.ref a) (.ref c_Columns)
  o_Columns_asked : Addr
  p_Columns_asked : PropOf K c_Columns "asked" o_Columns_asked a_Columns_asked
  c_Table : Addr
  m_Table : mg "Table" = some (.ref c_Table)
  cl_Table : Cls K c_Table
  n_Table_columns : NoAttr K c_Table "columns"
  n_Table_rows : NoAttr K c_Table "rows"
  mk_Table : Mk K c_Table a_Table_init
  q_Table_entity : Meth K c_Table "entity" a_Table_entity
  q_Table_entities : Meth K c_Table "entities" a_Table_entities
  q_Table_len : Meth K c_Table "__len__" a_Table_len
  q_Table_eq : Meth K c_Table "__eq__" a_Table_eq
  ne_Table : PySem.W.findIn K (.ref c_Table) "__ne__" = some (some (.builtin "object.__ne__"))
  mo_Table : PySem.W.mroIn K c_Table (.type "object") = some true
  ty_Table : ∀ {H : Hp} {a dx : Addr} {fs : List (Str × V)}, H a = some (.ins c_Table dx fs) → TyX K H (.ref a) (.ref c_Table)
  c_SieveError : Addr
  m_SieveError : mg "SieveError" = some (.ref c_SieveError)
  r_SieveError : ClX.CRead K c_SieveError (.type "type")
  i_SieveError : PySem.W.findCls K (.ref c_SieveError) (.type "type") "__init__" = some (.val (.builtin "ValueError.__init__"))
  c_BadColumns : Addr
  m_BadColumns : mg "BadColumns" = some (.ref c_BadColumns)
  x_BadColumns : OexC K c_BadColumns
  xi_BadColumns : PySem.W.findIn K (.ref c_BadColumns) "__init__" = some (some (.ref a_BadColumns_init))
  xt_BadColumns : PySem.W.typeIn K (.ref a_BadColumns_init) = some (.type "function")
  xn_BadColumns : PySem.W.findIn K (.ref c_BadColumns) "part" = some none
  xf_BadColumns : XfC K c_BadColumns
  xm_BadColumns : PySem.W.exmOne K (.ref c_BadColumns) (.ref c_BadColumns) = some true
  xe_BadColumns : ExcC K c_BadColumns
  xk_BadColumns : PySem.W.kitOne K (.ref c_BadColumns) (.ref c_SieveError) = some true
  c_BadTable : Addr
  m_BadTable : mg "BadTable" = some (.ref c_BadTable)
  x_BadTable : OexC K c_BadTable
  xi_BadTable : PySem.W.findIn K (.ref c_BadTable) "__init__" = some (some (.ref a_BadTable_init))
  xt_BadTable : PySem.W.typeIn K (.ref a_BadTable_init) = some (.type "function")
  xn_BadTable : PySem.W.findIn K (.ref c_BadTable) "number" = some none
  xf_BadTable : XfC K c_BadTable
  xm_BadTable : PySem.W.exmOne K (.ref c_BadTable) (.ref c_BadTable) = some true
  xe_BadTable : ExcC K c_BadTable
  xk_BadTable : PySem.W.kitOne K (.ref c_BadTable) (.ref c_SieveError) = some true
  yv_BadColumns : PySem.W.kitOne K (.ref c_BadColumns) (.type "ValueError") = some true
  yz_BadColumns_BadTable : PySem.W.exmOne K (.ref c_BadColumns) (.ref c_BadTable) = some false
  yv_BadTable : PySem.W.kitOne K (.ref c_BadTable) (.type "ValueError") = some true
  yz_BadTable_BadColumns : PySem.W.exmOne K (.ref c_BadTable) (.ref c_BadColumns) = some false
/-! ### drawn numbers -/
/-- the script: a list that is locked, or one of the module's own -/
def SqF (K : PySem.W.Frag) (H : Hp) (a : Addr) (xs : List V) : Prop := (∃ o, H a = some (.frz o (.lst xs))) ∨ ∀ H' : Hp, SqL K H' a xs
theorem SqF.sq {K : PySem.W.Frag} {H : Hp} {a : Addr} {xs : List V} (h : SqF K H a xs) : SqL K H a xs := by
  rcases h with ⟨o, h⟩ | h
  · exact .inl (.inr ⟨o, h⟩)
  · exact h H
theorem SqF.same {K : PySem.W.Frag} {H H' : Hp} {a : Addr} {xs : List V} (h : SqF K H a xs) (e : Same H H') : SqF K H' a xs := by
  rcases h with ⟨o, h⟩ | h
  · exact .inl ⟨o, e _ _ h⟩
  · exact .inr h
theorem SqF.only {K : PySem.W.Frag} {H : Hp} {a : Addr} {xs : List V} (hO : Only H) (h : SqL K H a xs) : SqF K H a xs := by
  rcases h with (h | ⟨o, h⟩) | h
  · rcases hO a with z | ⟨o, ys, z⟩
    · rw [h] at z
      cases z
    · rw [h] at z
      cases z
  · exact .inl ⟨o, h⟩
  · exact .inr fun _ => .inr h
/-- at d stands [the script, how many were drawn] -/
def Drw (K : PySem.W.Frag) (H : Hp) (d : Addr) : Prop := ∃ (a : Addr) (ns : List Int) (i : Int), H d = some (.lst [.ref a, .int i]) ∧ SqF K H a (ns.map V.int) ∧ ns.length ≤ 63
/-- all that was tracked but what stands at d is as it was -/
def But (d : Addr) (H H' : Hp) : Prop := ∀ b o, b ≠ d → H b = some o → H' b = some o
theorem But.refl (d : Addr) (H : Hp) : But d H H := fun _ _ _ h => h
theorem But.trans {d : Addr} {H H1 H2 : Hp} (a : But d H H1) (b : But d H1 H2) : But d H H2 := fun c o n h => b c o n (a c o n h)
theorem But.same {d : Addr} {H H1 H2 : Hp} (a : But d H H1) (b : Same H1 H2) : But d H H2 := fun c o n h => b c o (a c o n h)
theorem Same.but {d : Addr} {H H1 : Hp} (a : Same H H1) : But d H H1 := fun c o _ h => a c o h
theorem same_new {H : Hp} {p : Addr} (h : H p = none) (o : HO) : Same H (upd H p o) := fun b u q => by rw [upd_ne (ne_of_none q h)]; exact q
theorem Drw.same {K : PySem.W.Frag} {H H' : Hp} {d : Addr} (h : Drw K H d) (e : Same H H') : Drw K H' d := by
  obtain ⟨a, ns, i, h1, h2, h3⟩ := h
  exact ⟨a, ns, i, e _ _ h1, h2.same e, h3⟩
/-- a change of a list leaves the script -/
theorem SqF.but {K : PySem.W.Frag} {H H' : Hp} {d a : Addr} {xs ys : List V} (h : SqF K H a xs) (hd : H d = some (.lst ys)) (e : But d H H') : SqF K H' a xs := by
  rcases h with ⟨o, h⟩ | h
  · exact .inl ⟨o, e _ _ (ne_of h hd (by intro z; cases z)) h⟩
  · exact .inr h
theorem Drw.but {K : PySem.W.Frag} {H H' : Hp} {d p : Addr} {ys : List V} (h : Drw K H d) (hp : H p = some (.lst ys)) (n : d ≠ p) (e : But p H H') : Drw K H' d := by
  obtain ⟨a, ns, i, h1, h2, h3⟩ := h
  exact ⟨a, ns, i, e _ _ n h1, h2.but hp e, h3⟩
def sp_number (K : PySem.W.Frag) : Sp := fun vs H Q _ => ∃ (a : Addr) (ns : List Int) (i : Int), vs = [.ref a, .int i] ∧ SqL K H a (ns.map V.int) ∧ ns.length ≤ 63 ∧ ∀ (n : Int) (H' : Hp), Same H H' → Q (.int n) H'
def sp_take (K : PySem.W.Frag) : Sp := fun vs H Q _ => ∃ (d : Addr) (m : Int), vs = [.ref d, .int m] ∧ Drw K H d ∧ 0 < m ∧ ∀ (r : Int) (H' : Hp), 0 ≤ r → r < m → Drw K H' d → But d H H' → Q (.int r) H'
/-- a list that is not the draw's, or a tuple -/
def SqD (K : PySem.W.Frag) (d : Addr) (H : Hp) (p : Addr) (xs : List V) : Prop := (SqL K H p xs ∧ p ≠ d) ∨ SqT K H p xs
def sp_pick (K : PySem.W.Frag) : Sp := fun vs H Q _ => ∃ (d p : Addr) (xs : List V), vs = [.ref d, .ref p] ∧ Drw K H d ∧ SqD K d H p xs ∧ 0 < xs.length ∧ ∀ (j : Nat) (x : V) (H' : Hp), xs[j]? = some x → Drw K H' d → But d H H' → Q x H'
theorem But.seq {K : PySem.W.Frag} {H H' : Hp} {d a : Addr} {xs : List V} (e : But d H H') (n : a ≠ d) (h : SqL K H a xs) : SqL K H' a xs := by
  rcases h with (h | ⟨o, h⟩) | h
  · exact .inl (.inl (e _ _ n h))
  · exact .inl (.inr ⟨o, e _ _ n h⟩)
  · exact .inr h
theorem But.tup {K : PySem.W.Frag} {H H' : Hp} {d a : Addr} {xs ys : List V} (e : But d H H') (hd : H d = some (.lst ys)) (h : SqT K H a xs) : SqT K H' a xs := by
  rcases h with (h | ⟨o, h⟩) | h
  · exact .inl (.inl (e _ _ (ne_of h hd (by intro z; cases z)) h))
  · exact .inl (.inr ⟨o, e _ _ (ne_of h hd (by intro z; cases z)) h⟩)
  · exact .inr h
theorem dp_ints {K : PySem.W.Frag} {H : Hp} : ∀ ns : List Int, DpAll K H (ns.map V.int) (ns.map PyData.int)
  | [] => .nil
  | n :: r => .cons (.int n) (dp_ints r)

end My
set_option Elab.async false
set_option linter.all false
set_option maxRecDepth 100000
set_option maxHeartbeats 400000
namespace My
open PySem L2 PySem.Spec PyProof.Rows
section
variable {P : Program} {w : World} {K : PySem.W.Frag} {mg : Str → Option Value} {base : Heap}
/-! ### data and their types -/
def typN : PyData → String
  | .none => "NoneType"
  | .bool _ => "bool"
  | .int _ => "int"
  | .str _ => "str"
  | .list _ => "list"
  | .tuple _ => "tuple"
  | .dict _ => "dict"
theorem ty_tup {K : PySem.W.Frag} {H : Hp} {a : Addr} {xs : List V} (h : SqT K H a xs) : TyX K H (.ref a) (.type "tuple") := by
  rcases h with (h | ⟨o, h⟩) | ⟨o, _, _, h, c, _⟩
  · exact .base (.tup h)
  · exact .fTuple h
  · exact .kTuple h c
theorem ty_lst {K : PySem.W.Frag} {H : Hp} {a : Addr} {xs : List V} (h : SqL K H a xs) : TyX K H (.ref a) (.type "list") := by
  rcases h with (h | ⟨o, h⟩) | ⟨o, _, _, h, c, _⟩
  · exact .base (.lst h)
  · exact .base (.frz h)
  · exact .kList h c
theorem dp_ty {K : PySem.W.Frag} {H : Hp} {v : V} {d : PyData} (h : Dp K H v d) : TyX K H v (.type (typN d)) := by
  cases h with
  | non => exact .base .non
  | bl b => exact .base (.bl b)
  | int i => exact .base (.int i)
  | str x => exact .base (.str x)
  | lst h _ => exact ty_lst h
  | tup h _ => exact ty_tup h
theorem Same.tup {K : PySem.W.Frag} {H H' : Hp} {a : Addr} {xs : List V} (e : Same H H') (h : SqT K H a xs) : SqT K H' a xs := by
  rcases h with (h | ⟨o, h⟩) | h
  · exact .inl (.inl (e _ _ h))
  · exact .inl (.inr ⟨o, e _ _ h⟩)
  · exact .inr h
mutual
theorem dp_same {K : PySem.W.Frag} {H H' : Hp} (e : Same H H') : ∀ (d : PyData) (v : V), Dp K H v d → Dp K H' v d
  | .none, _, h => by cases h; exact .non
  | .bool b, _, h => by cases h; exact .bl b
  | .int i, _, h => by cases h; exact .int i
  | .str x, _, h => by cases h; exact .str x
  | .list ds, _, h => by
    cases h with
    | lst h a => exact .lst (e.seq h) (dps_same e ds _ a)
  | .tuple ds, _, h => by
    cases h with
    | tup h a => exact .tup (Same.tup e h) (dps_same e ds _ a)
  | .dict _, _, h => by cases h
theorem dps_same {K : PySem.W.Frag} {H H' : Hp} (e : Same H H') : ∀ (ds : List PyData) (vs : List V), DpAll K H vs ds → DpAll K H' vs ds
  | [], _, h => by cases h; exact .nil
  | d :: ds, _, h => by
    cases h with
    | cons a b => exact .cons (dp_same e d _ a) (dps_same e ds _ b)
end
theorem dps_len {K : PySem.W.Frag} {H : Hp} : ∀ {vs : List V} {ds : List PyData}, DpAll K H vs ds → vs.length = ds.length
  | _, _, .nil => rfl
  | _, _, .cons _ b => by rw [List.length_cons, List.length_cons, dps_len b]
theorem dps_get {K : PySem.W.Frag} {H : Hp} : ∀ {vs : List V} {ds : List PyData} {i : Nat} {d : PyData}, DpAll K H vs ds → ds[i]? = some d → ∃ v, vs[i]? = some v ∧ Dp K H v d
  | _, _, _, _, .nil, h => by simp at h
  | _, _, 0, _, .cons a _, h => ⟨_, rfl, by cases h; exact a⟩
  | _, _, i + 1, _, .cons _ b, h => by
    obtain ⟨v, h1, h2⟩ := dps_get (i := i) b (by simpa using h)
    exact ⟨v, by simpa using h1, h2⟩
theorem dp_int {K : PySem.W.Frag} {H : Hp} {v : V} {i : Int} (h : Dp K H v (.int i)) : v = .int i := by cases h; rfl
theorem dp_str {K : PySem.W.Frag} {H : Hp} {v : V} {x : Str} (h : Dp K H v (.str x)) : v = .str x := by cases h; rfl
theorem dp_bl {K : PySem.W.Frag} {H : Hp} {v : V} {x : Bool} (h : Dp K H v (.bool x)) : v = .bl x := by cases h; rfl
theorem dp_non {K : PySem.W.Frag} {H : Hp} {v : V} (h : Dp K H v .none) : v = .non := by cases h; rfl
/-! ### what is a whole number, near, a row, a name, a fraction, a threshold, a short string: by data -/
def wholeD : PyData → Bool
  | .int _ => true
  | _ => false
def nearI (i : Int) : Bool := decide (-1000000 ≤ i) && decide (i ≤ 1000000)
def nearD : PyData → Bool
  | .int i => nearI i
  | _ => false
def resL : List Str := ["row", "block", "hash", "not", "and", "or", "all", "none", "like"]
def letL : Str := "abcdefghijklmnopqrstuvwxyz"
def nameB (s : Str) : Bool := decide (1 ≤ s.length) && decide (s.length ≤ 8) && !resL.contains s && s.cps.toList.all fun c => decide (c ∈ letL.cps.toList)
def nameD : PyData → Bool
  | .str s => nameB s
  | _ => false
def fracD : PyData → Bool
  | .tuple [.int a, .int b] => decide (1 ≤ b) && decide (((Nat.gcd a.natAbs b.natAbs : Nat) : Int) = 1)
  | _ => false
def chanceD : PyData → Bool
  | .tuple [.int a, .int b] => fracD (.tuple [.int a, .int b]) && (decide (0 ≤ a) && decide (a ≤ b) && decide (b ≤ 1000))
  | _ => false
def shortD : PyData → Bool
  | .str s => decide (s.length ≤ 12) && !decide (10 ∈ s.cps.toList)
  | _ => false
def sp_whole (K : PySem.W.Frag) : Sp := fun vs H Q _ => ∃ (x : V) (d : PyData), vs = [x] ∧ Dp K H x d ∧ Q (.bl (wholeD d)) H
theorem ok_is_whole (T : Txt K mg) : FnOk P w K mg base CX0 1 T.a_is_whole T.d_is_whole ["value"] (sp_whole K) := by
  refine T.F_is_whole.ok sc_is_whole (fun vs H Q E h => ?_) (fun cdv A outer s H vs Q E hr h => ?_)
  · obtain ⟨x, b, rfl, _⟩ := h
    rfl
  obtain ⟨x, d, rfl, hd, k⟩ := h
  refine ⟨_, (pss_one (ps_ret (pe_and (pe_callB call_isi (by rfl) T.z_isinstance (by decide +kernel) (pa_cons (pv 0) (pa_cons (pe_bltn (v := .ty "int") (by rfl) T.z_int (by decide +kernel) rfl) pa_nil))) (pe_one (pe_not (pe_callB call_isi (by rfl) T.z_isinstance (by decide +kernel) (pa_cons (pv 0) (pa_cons (pe_bltn (v := .ty "bool") (by rfl) T.z_bool (by decide +kernel) rfl) pa_nil)))))))), ?_⟩
  have ty := dp_ty hd
  cases d with
  | int i => exact ⟨_, rfl, x, .ty "int", .type "int", .type "int", true, rfl, .ty _, ty, kit_ty (by decide +kernel), _, rfl, iteT ⟨_, rfl, x, .ty "bool", .type "int", .type "bool", false, rfl, .ty _, ty, kit_ty (by decide +kernel), _, rfl, k⟩⟩
  | bool i => exact ⟨_, rfl, x, .ty "int", .type "bool", .type "int", true, rfl, .ty _, ty, kit_ty (by decide +kernel), _, rfl, iteT ⟨_, rfl, x, .ty "bool", .type "bool", .type "bool", true, rfl, .ty _, ty, kit_ty (by decide +kernel), _, rfl, k⟩⟩
  | str i => exact ⟨_, rfl, x, .ty "int", .type "str", .type "int", false, rfl, .ty _, ty, kit_ty (by decide +kernel), _, rfl, iteF k⟩
  | none => exact ⟨_, rfl, x, .ty "int", .type "NoneType", .type "int", false, rfl, .ty _, ty, kit_ty (by decide +kernel), _, rfl, iteF k⟩
  | list ds => exact ⟨_, rfl, x, .ty "int", .type "list", .type "int", false, rfl, .ty _, ty, kit_ty (by decide +kernel), _, rfl, iteF k⟩
  | tuple ds => exact ⟨_, rfl, x, .ty "int", .type "tuple", .type "int", false, rfl, .ty _, ty, kit_ty (by decide +kernel), _, rfl, iteF k⟩
  | dict ds => cases hd
def betD (lo hi : Int) : PyData → Bool
  | .int i => decide (lo ≤ i) && decide (i ≤ hi)
  | _ => false
def sp_between (K : PySem.W.Frag) : Sp := fun vs H Q _ => ∃ (x : V) (d : PyData) (lo hi : Int), vs = [x, .int lo, .int hi] ∧ Dp K H x d ∧ Q (.bl (betD lo hi d)) H
theorem ok_is_between (T : Txt K mg) : FnOk P w K mg base CX0 2 T.a_is_between T.d_is_between ["value", "low", "high"] (sp_between K) := by
  have G_is_whole := ok_is_whole (P := P) (w := w) (base := base) T
  refine T.F_is_between.ok sc_is_between (fun vs H Q E h => ?_) (fun cdv A outer s H vs Q E hr h => ?_)
  · obtain ⟨x, b, lo, hi, rfl, _⟩ := h
    rfl
  obtain ⟨x, d, lo, hi, rfl, hd, k⟩ := h
  refine ⟨_, (pss_one (ps_ret (pe_and (pe_call G_is_whole (hr.mono (by first | decide | omega)) (by rfl) T.m_is_whole T.F_is_whole.kp T.b_is_whole .nil pass0 (pa_cons (pv 0) pa_nil)) (pe_one (pe_chain op_le op_le (pv 1) (pv 0) (pv 2)))))), ?_⟩
  refine ⟨_, rfl, x, d, rfl, hd, _, rfl, ?_⟩
  cases d with
  | int i =>
    obtain rfl := dp_int hd
    refine iteT ⟨_, rfl, _, rfl, _, _, rfl, rfl, _, rfl, ?_⟩
    have k' : Q (.bl (decide (lo ≤ i) && decide (i ≤ hi))) H := k
    refine ite2 (fun c => ?_) (fun c => ?_)
    · rw [c, Bool.true_and] at k'
      exact ⟨_, rfl, _, _, rfl, rfl, k'⟩
    · rw [Bool.eq_false_iff.mpr c, Bool.false_and] at k'
      exact k'
  | dict ds => cases hd
  | _ => exact iteF k
theorem near_bet (d : PyData) : betD (-1000000) 1000000 d = nearD d := by
  cases d <;> rfl
def sp_near (K : PySem.W.Frag) : Sp := fun vs H Q _ => ∃ (x : V) (d : PyData), vs = [x] ∧ Dp K H x d ∧ Q (.bl (nearD d)) H
theorem ok_is_near (T : Txt K mg) : FnOk P w K mg base CX0 3 T.a_is_near T.d_is_near ["value"] (sp_near K) := by
  have G_is_between := ok_is_between (P := P) (w := w) (base := base) T
  refine T.F_is_near.ok sc_is_near (fun vs H Q E h => ?_) (fun cdv A outer s H vs Q E hr h => ?_)
  · obtain ⟨x, b, rfl, _⟩ := h
    rfl
  obtain ⟨x, d, rfl, hd, k⟩ := h
  refine ⟨_, (pss_one (ps_ret (pe_call G_is_between (hr.mono (by first | decide | omega)) (by rfl) T.m_is_between T.F_is_between.kp T.b_is_between .nil pass0 (pa_cons (pv 0) (pa_cons (pe_un un_neg (pe_glob (v := .int 1000000) (by rfl) T.m_FAR ⟨_, rfl⟩)) (pa_cons (pe_glob (v := .int 1000000) (by rfl) T.m_FAR ⟨_, rfl⟩) pa_nil)))))), ?_⟩
  refine ⟨_, rfl, _, rfl, x, d, _, _, rfl, hd, ?_⟩
  have e := near_bet d
  rw [show (-(1000000 : Int)) = -1000000 from rfl]
  rw [e]
  exact k

end
end My
set_option Elab.async false
set_option linter.all false
set_option maxRecDepth 100000
set_option maxHeartbeats 400000
namespace My
open PySem L2 PySem.Spec PyProof.Rows
section
variable {P : Program} {w : World} {K : PySem.W.Frag} {mg : Str → Option Value} {base : Heap}
theorem str_in {s : Str} : ∀ l : List Str, inV (.str s) (l.map V.str) = l.contains s
  | [] => rfl
  | a :: l => by
    have ih := str_in (s := s) l
    have e : eqV (V.str a) (V.str s) = (s == a) := by
      show (a == s) = (s == a)
      exact BEq.comm
    unfold inV at ih ⊢
    rw [List.map_cons, List.any_cons, List.contains_cons, ih, e]
theorem flat_str : ∀ l : List Str, (l.map V.str).all flatV = true
  | [] => rfl
  | _ :: l => by
    rw [List.map_cons, List.all_cons, flat_str l]
    rfl
theorem res_str : ([.str "row", .str "block", .str "hash", .str "not", .str "and", .str "or", .str "all", .str "none", .str "like"] : List V) = resL.map V.str := rfl
/-- a text, if it is one, is not too long -/
def StrOk (d : PyData) : Prop := ∀ s, d = .str s → s.length ≤ 1000
def sp_name (K : PySem.W.Frag) : Sp := fun vs H Q _ => ∃ (x : V) (d : PyData), vs = [x] ∧ Dp K H x d ∧ StrOk d ∧ ∀ H', Same H H' → Q (.bl (nameD d)) H'
theorem not_str {K : PySem.W.Frag} {H : Hp} {x : V} {d : PyData} (h : Dp K H x d) (n : ∀ s, d ≠ .str s) : TyX K H x (.type (typN d)) ∧ kitB (typN d) "str" = some false := by
  refine ⟨dp_ty h, ?_⟩
  cases d with
  | str s => exact absurd rfl (n s)
  | dict _ => cases h
  | none =>
    show kitB "NoneType" "str" = some false
    decide +kernel
  | bool _ =>
    show kitB "bool" "str" = some false
    decide +kernel
  | int _ =>
    show kitB "int" "str" = some false
    decide +kernel
  | list _ =>
    show kitB "list" "str" = some false
    decide +kernel
  | tuple _ =>
    show kitB "tuple" "str" = some false
    decide +kernel
theorem ok_is_name (T : Txt K mg) : FnOk P w K mg base CX0 1 T.a_is_name T.d_is_name ["value"] (sp_name K) := by
  refine T.F_is_name.ok sc_is_name (fun vs H Q E h => ?_) (fun cdv A outer s H vs Q E hr h => ?_)
  · obtain ⟨x, b, rfl, _⟩ := h
    rfl
  obtain ⟨x, d, rfl, hd, ok, k⟩ := h
  refine ⟨_, (pss_cons (ps_if (PW.pt (pw_or (pt_not (pt_val (pe_callB call_isi (by rfl) T.z_isinstance (by decide +kernel) (pa_cons (pv 0) (pa_cons (pe_bltn (v := .ty "str") (by rfl) T.z_str (by decide +kernel) rfl) pa_nil))))) (pw_or1 (pt_not (pt_chain op_le op_le pe_int (pe_callB call_len_str (by rfl) T.z_len (by decide +kernel) (pa_cons (pv 0) pa_nil)) (pe_glob (v := .int 8) (by rfl) T.m_LONGEST_NAME ⟨_, rfl⟩)))))) (pss_one (ps_ret pe_bl)) pss_nil)
    (pss_one (ps_ret (pe_and (pe_cmpR op_notIn_seq (pv 0) (pe_glob (v := .ref T.a_RESERVED) (by rfl) T.m_RESERVED rfl) (by with_unfolding_all rfl)) (pe_one (pe_callB (cr_all rfl) (by rfl) T.z_all (by decide +kernel) (pa_cons (pe_lc (own := [("sign", 1)]) rfl sc_is_name.nd (pi_str (pv 0)) (blkOk_by (own := [("sign", 1)]) (N := ["value", "sign"]) (sc := defScope s_is_name) (by decide +kernel)) (fun _ _ _ _ _ => (pg_name (i := 1) sc_is_name.nd rfl (by first | exact Or.inl rfl | exact Or.inr rfl))) (fun _ _ _ _ _ => pts_nil) (fun _ _ _ _ _ => (pe_cmpR op_in_sign (pv 1) (pe_glob (v := .str "abcdefghijklmnopqrstuvwxyz") (by rfl) T.m_LETTERS ⟨_, rfl⟩) (by with_unfolding_all rfl)))) pa_nil))))))), ?_⟩
  by_cases hs : ∀ s, d ≠ .str s
  · obtain ⟨ty, kb⟩ := not_str hd hs
    have e : nameD d = false := by
      cases d with
      | str s => exact absurd rfl (hs s)
      | _ => rfl
    have k' := k H (Same.refl _)
    rw [e] at k'
    exact ⟨_, rfl, x, .ty "str", _, .type "str", false, rfl, .ty _, ty, kit_ty kb, _, rfl, iteT k'⟩
  obtain ⟨z, rfl⟩ : ∃ z, d = .str z := by
    cases d with
    | str z => exact ⟨z, rfl⟩
    | _ => exact absurd (fun s q => by cases q) hs
  obtain rfl := dp_str hd
  have hz := ok z rfl
  have hline : z.length ≤ sizeLine := Nat.le_of_lt (small1000 hz)
  have kk : ∀ H', Same H H' → Q (.bl (nameB z)) H' := k
  unfold nameB at kk
  -- the two tests
  refine seq_cut (fun σ' H' => σ' = [some (.str z), none] ∧ H' = H ∧ 1 ≤ z.length ∧ z.length ≤ 8) ?_ (fun tail => ?_)
  rotate_left
  · refine ⟨_, rfl, .str z, .ty "str", .type "str", .type "str", true, rfl, .ty _, .base (.str z), kit_ty (by decide +kernel), _, rfl, ?_⟩
    refine iteF ⟨_, rfl, z, rfl, hline, _, _, rfl, rfl, _, rfl, ?_⟩
    have kH := kk H (Same.refl _)
    by_cases c1 : 1 ≤ z.length
    · rw [decide_eq_true (show (1 : Int) ≤ ((z.length : Nat) : Int) by omega)]
      refine iteT ⟨_, _, rfl, rfl, _, rfl, ?_⟩
      by_cases c2 : z.length ≤ 8
      · rw [decide_eq_true (show ((z.length : Nat) : Int) ≤ 8 by omega)]
        exact iteF (tail _ _ ⟨rfl, rfl, c1, c2⟩)
      · rw [decide_eq_false (show ¬ ((z.length : Nat) : Int) ≤ 8 by omega)]
        rw [decide_eq_false c2, Bool.and_false, Bool.false_and, Bool.false_and] at kH
        exact iteT kH
    · rw [decide_eq_false (show ¬ (1 : Int) ≤ ((z.length : Nat) : Int) by omega)]
      rw [decide_eq_false c1, Bool.false_and, Bool.false_and, Bool.false_and] at kH
      exact iteF ⟨_, rfl, iteT kH⟩
  rintro σ' H' ⟨rfl, rfl, c1, c2⟩
  rw [decide_eq_true c1, decide_eq_true c2, Bool.true_and, Bool.true_and] at kk
  refine ⟨_, rfl, _, _, rfl, .inr (T.q_RESERVED _), rfl, (by rw [res_str]; exact flat_str _), _, rfl, ?_⟩
  rw [res_str, str_in]
  refine ite2 (fun c => ?_) (fun c => ?_)
  rotate_left
  · have c' : resL.contains z = true := by
      have c2 := Bool.eq_false_iff.mpr c
      simpa using c2
    have kH := kk H' (Same.refl _)
    rw [c', Bool.not_true, Bool.false_and] at kH
    exact kH
  have c' : (!resL.contains z) = true := c
  rw [c', Bool.true_and] at kk
  refine ⟨_, rfl, z, rfl, fun D hD => ?_⟩
  have hn : z.cps.size ≤ 1000 := hz
  refine lc_it (walk_str (z := z)) (fun i H2 => (∀ b o, b ≠ D → H' b = some o → H2 b = some o) ∧ H2 D = some (.lst ((z.cps.toList.take i).map fun c => V.bl (decide (c ∈ letL.cps.toList))))) ⟨fun b o n e => by rw [upd_ne n]; exact e, upd_same⟩ (fun _ _ _ _ => trivial) ?_ ?_
  · rintro i x H2 H3 hi ⟨g, e⟩ ⟨rfl, c, hc, rfl⟩
    refine ⟨rfl, _, rfl, c, letL, rfl, rfl, _, e, ?_, ?_, ?_⟩
    · rw [List.length_map, List.length_take]
      exact Nat.lt_of_le_of_lt (Nat.min_le_left _ _) (small1000 (by omega))
    · exact fun b o n e => by rw [upd_ne n]; exact g b o n e
    · have hcl : z.cps.toList[i]? = some c := by simpa using hc
      rw [List.take_add_one, hcl, List.map_append]
      exact upd_same
  · rintro H2 ⟨g, e⟩
    have el : z.cps.toList.take z.cps.size = z.cps.toList := List.take_of_length_le (by simp)
    rw [el] at e
    have em : (z.cps.toList.map fun c => V.bl (decide (c ∈ letL.cps.toList))) = (z.cps.toList.map fun c => decide (c ∈ letL.cps.toList)).map V.bl := by rw [List.map_map]; rfl
    rw [em] at e
    refine ⟨D, _, rfl, SqL.of e, ?_⟩
    have ea : ((z.cps.toList.map fun c => decide (c ∈ letL.cps.toList)).all id) = z.cps.toList.all fun c => decide (c ∈ letL.cps.toList) := by rw [List.all_map]; rfl
    rw [ea]
    exact kk _ fun b o q => g b o (ne_of_none q hD) q

end
end My
set_option Elab.async false
set_option linter.all false
set_option maxRecDepth 100000
set_option maxHeartbeats 400000
namespace My
open PySem L2 PySem.Spec PyProof.Rows
section
variable {P : Program} {w : World} {K : PySem.W.Frag} {mg : Str → Option Value} {base : Heap}
theorem ok__law_number (T : Txt K mg) : FnOk P w K mg base CX0 1 T.a__law_number T.d__law_number ["script", "index"] (sp_number K) := by

  refine T.F__law_number.ok sc__law_number (fun vs H Q E h => ?_) (fun cdv A outer s H vs Q E hr h => ?_)
  · obtain ⟨a, ns, i, rfl, _⟩ := h
    rfl
  obtain ⟨a, ns, i, rfl, hS, h63, k⟩ := h
  refine ⟨_, (pss_cons (ps_asg (pe_ifExp (pt_cmpR (op_neD (hu64 hr)) (pv 0) (pe_lst pa_nil) (nomark _)) (pe_tup (pa_cons (pe_ix ix_list (pv 0) (pe_op op_mod (pv 1) (pe_callB call_len_seq (by rfl) T.z_len (by decide +kernel) (pa_cons (pv 0) pa_nil))) (fun _ _ => rfl)) (pa_cons (pe_op op_fdivA (pv 1) (pe_callB call_len_seq (by rfl) T.z_len (by decide +kernel) (pa_cons (pv 0) pa_nil))) pa_nil))) (pe_tup (pa_cons pe_int (pa_cons pe_int pa_nil)))) (pg_tup rfl (pgs_cons (pg_name (i := 2) sc__law_number.nd rfl (by first | exact Or.inl rfl | exact Or.inr rfl)) (pgs_cons (pg_name (i := 3) sc__law_number.nd rfl (by first | exact Or.inl rfl | exact Or.inr rfl)) pgs_nil))))
    (pss_cons (ps_set (i := 4) sc__law_number.nd rfl (by first | exact Or.inl rfl | exact Or.inr rfl) (pe_ifExp (pt_cmpR op_lt (pv 3) pe_int (nomark _)) (pe_op op_sub (pv 2) (pe_op op_pow pe_int pe_int)) pe_int))
    (pss_cons (ps_for PassesOwn.never rfl (pi_range1 (by rfl) T.z_range (pa_cons (pe_op op_mod (pe_callTy call_int1 (by rfl) T.z_int (by decide +kernel) (pa_cons (pv 3) pa_nil)) pe_int) pa_nil)) (pg_name (i := 5) sc__law_number.nd rfl (by first | exact Or.inl rfl | exact Or.inr rfl))
    (pss_one (ps_set (i := 4) sc__law_number.nd rfl (by first | exact Or.inl rfl | exact Or.inr rfl) (pe_op op_fdivA (pv 4) pe_int))))
    (pss_cons (ps_if (pt_cmpR op_gt (pv 4) pe_int (nomark _)) (pss_one (ps_ret (pe_op op_mod (pe_callTy call_int1 (by rfl) T.z_int (by decide +kernel) (pa_cons (pv 4) pa_nil)) pe_int))) pss_nil)
    (pss_cons (ps_set (i := 6) sc__law_number.nd rfl (by first | exact Or.inl rfl | exact Or.inr rfl) (pe_op op_mod (pe_op op_add (pe_op op_mul (pe_callTy call_int1 (by rfl) T.z_int (by decide +kernel) (pa_cons (pe_op op_add (pv 2) (pe_op op_mul pe_int (pv 1))) pa_nil)) pe_int) (pe_op op_mul pe_int (pe_callB call_len_seq (by rfl) T.z_len (by decide +kernel) (pa_cons (pv 0) pa_nil)))) pe_int))
    (pss_cons (ps_set (i := 6) sc__law_number.nd rfl (by first | exact Or.inl rfl | exact Or.inr rfl) (pe_op op_mod (pe_op op_add (pe_op op_mul (pv 6) (pv 6)) (pe_op op_mul pe_int (pv 1))) pe_int))
    (pss_one (ps_ret (pe_callTy call_int1 (by rfl) T.z_int (by decide +kernel) (pa_cons (pe_op op_mod (pe_op op_add (pe_op op_mul (pv 6) pe_int) (pe_op op_fdivA (pv 6) pe_int)) pe_int) pa_nil)))))))))), ?_⟩
  -- cell, turn = ..
  refine seq_cut (fun σ' H' => ∃ c t : Int, σ' = [some (.ref a), some (.int i), some (.int c), some (.int t), none, none, none] ∧ Same H H') ?_ (fun tail => ?_)
  · rintro σ' H' ⟨c, t, rfl, g⟩
    have hS' := g.seq hS
    -- rest = ..
    refine seq_cut (fun σ' H' => ∃ r : Int, σ' = [some (.ref a), some (.int i), some (.int c), some (.int t), some (.int r), none, none] ∧ Same H H') ?_ (fun tail => ?_)
    · rintro σ' H' ⟨r, rfl, g⟩
      have hS' := g.seq hS
      -- for step in range(int(turn) % 60)
      refine ⟨_, rfl, .inl ⟨t, rfl, _, _, rfl, rfl, (by show (0 : Int) < 60; decide), ?_⟩⟩
      have m0 : 0 ≤ t % 60 := Int.emod_nonneg _ (by decide)
      have m1 : t % 60 < 60 := Int.emod_lt_of_pos _ (by decide)
      refine ⟨t % 60, rfl, by omega, by omega, for_range (lo := 0) (n := (t % 60).toNat) (fun _ σ' H' => ∃ (r : Int) (z : Option V), σ' = [some (.ref a), some (.int i), some (.int c), some (.int t), some (.int r), z, none] ∧ Same H H') ⟨r, none, rfl, g⟩ ?_ ?_⟩
      · rintro j σ' H' hj ⟨r, z, rfl, g⟩
        exact ⟨_, rfl, _, _, rfl, rfl, divA_small (by decide) (by decide), _, _, rfl, g⟩
      · rintro σ' H' ⟨r, z, rfl, g⟩
        have hS' := g.seq hS
        dsimp only
        refine seq_cut (fun σ' H'' => σ' = [some (.ref a), some (.int i), some (.int c), some (.int t), some (.int r), z, none] ∧ H'' = H') ?_ (fun tail => ?_)
        rotate_left
        · refine ⟨_, rfl, _, _, rfl, rfl, _, rfl, ?_⟩
          refine ite2 (fun _ => ?_) (fun _ => ?_)
          · exact ⟨_, rfl, .inl ⟨_, rfl, _, _, rfl, rfl, (by show (0 : Int) < 1009; decide), k _ _ g⟩⟩
          · exact tail _ _ ⟨rfl, rfl⟩
        · rintro σ' H'' ⟨rfl, rfl⟩
          refine seq_cut (fun σ' H' => ∃ (b : Int) (z : Option V), σ' = [some (.ref a), some (.int i), some (.int c), some (.int t), some (.int r), z, some (.int b)] ∧ 0 ≤ b ∧ b < 2147483647 ∧ Same H H') ?_ (fun tail => ?_)
          · rintro σ' H' ⟨b, z, rfl, b0, b1, g⟩
            refine ⟨_, rfl, _, rfl, _, _, rfl, rfl, .inl ⟨by omega, by omega⟩, _, rfl, _, _, rfl, rfl, .inl ⟨by decide, by decide⟩, _, _, rfl, rfl, _, _, rfl, rfl, (by show (0 : Int) < 2147483629; decide), ?_⟩
            exact ⟨_, rfl, _, _, rfl, rfl, .inr ⟨by decide, by decide⟩, _, rfl, _, _, rfl, rfl, divA_small (by decide) (by decide), _, _, rfl, rfl, _, _, rfl, rfl, (by show (0 : Int) < 2147483587; decide), .inl ⟨_, rfl, k _ _ g⟩⟩
          · refine ⟨_, rfl, _, rfl, _, _, rfl, rfl, .inl ⟨by decide, by decide⟩, _, _, rfl, rfl, .inl ⟨_, rfl, _, _, rfl, rfl, .inr ⟨by decide, by decide⟩, ?_⟩⟩
            refine ⟨_, rfl, a, _, rfl, .inl hS', _, _, rfl, rfl, .inl ⟨by decide, by decide⟩, _, _, rfl, rfl, _, _, rfl, rfl, (by show (0 : Int) < 2147483647; decide), ?_⟩
            exact tail _ _ ⟨_, _, rfl, Int.emod_nonneg _ (by decide), Int.emod_lt_of_pos _ (by decide), g⟩
    · refine ⟨_, rfl, _, _, rfl, rfl, _, rfl, ?_⟩
      refine ite2 (fun _ => ?_) (fun _ => ?_)
      · exact ⟨_, rfl, _, _, rfl, rfl, ⟨by decide, by decide, by decide⟩, _, _, rfl, rfl, tail _ _ ⟨_, rfl, g⟩⟩
      · exact tail _ _ ⟨_, rfl, g⟩
  · refine ⟨_, rfl, (by show 0 ≤ sizeLine; decide), fun p hp => ?_⟩
    have g1 : Same H (upd H p (.lst [])) := same_new hp _
    have hS1 := g1.seq hS
    refine ⟨.list (ns.map .int), .list [], .lst hS1 (dp_ints ns), .lst (SqL.of upd_same) .nil, PySem.W.ke_shaped_ints ns, rfl, _, rfl, ?_⟩
    by_cases e : ns = []
    · subst e
      refine iteF ⟨(by show 2 ≤ sizeLine; decide), fun q hq => ?_⟩
      exact ⟨_, _, rfl, SqT.of upd_same, rfl, _, _, rfl, _, _, rfl, rfl, tail _ _ ⟨_, _, rfl, g1.trans (same_new hq _)⟩⟩
    · rw [eqv_nil_ints ns e]
      have hl : 0 < ns.length := List.length_pos_iff.mpr e
      have em : (ns.map V.int).length = ns.length := List.length_map _
      have j0 : 0 ≤ i % ((ns.map V.int).length : Int) := Int.emod_nonneg _ (by omega)
      have j1 : i % ((ns.map V.int).length : Int) < ((ns.map V.int).length : Int) := Int.emod_lt_of_pos _ (by omega)
      obtain ⟨c, hc⟩ : ∃ c : Int, atI (ns.map V.int) (i % ((ns.map V.int).length : Int)) = some (.int c) := by
        have hj : (i % ((ns.map V.int).length : Int)).toNat < ns.length := by omega
        refine ⟨ns[(i % ((ns.map V.int).length : Int)).toNat], at_of (j := (i % ((ns.map V.int).length : Int)).toNat) (by omega) ?_⟩
        rw [List.getElem?_map, List.getElem?_eq_getElem hj]
        rfl
      refine iteT ?_
      refine ⟨_, rfl, _, rfl, _, rfl, a, _, rfl, .inl hS1, _, _, rfl, rfl, (by show (0 : Int) < ((ns.map V.int).length : Int); omega), a, _, _, _, rfl, rfl, hS1, hc, ?_⟩
      refine ⟨_, rfl, _, rfl, a, _, rfl, .inl hS1, _, _, rfl, rfl, divA_small (by omega) (by omega), (by show 2 ≤ sizeLine; decide), fun q hq => ?_⟩
      exact ⟨_, _, rfl, SqT.of upd_same, rfl, _, _, rfl, _, _, rfl, rfl, tail _ _ ⟨_, _, rfl, g1.trans (same_new hq _)⟩⟩

theorem ok__law_take (T : Txt K mg) : FnOk P w K mg base CX0 2 T.a__law_take T.d__law_take ["draw", "many"] (sp_take K) := by
  have G__law_number := ok__law_number (P := P) (w := w) (base := base) T
  refine T.F__law_take.ok sc__law_take (fun vs H Q E h => ?_) (fun cdv A outer s H vs Q E hr h => ?_)
  · obtain ⟨d, m, rfl, _⟩ := h
    rfl
  obtain ⟨d, m, rfl, ⟨a, ns, i, hd, hS, h63⟩, m0, k⟩ := h
  refine ⟨_, (pss_cons (ps_augS (pv 0) pe_int get_list pe_int ip_add set_list)
    (pss_one (ps_ret (pe_op op_mod (pe_callTy call_int1 (by rfl) T.z_int (by decide +kernel) (pa_cons (pe_call G__law_number (hr.mono (by first | decide | omega)) (by rfl) T.m__law_number T.F__law_number.kp T.b__law_number .nil pass0 (pa_cons (pe_ix ix_list (pv 0) pe_int (fun _ _ => rfl)) (pa_cons (pe_callTy call_int1 (by rfl) T.z_int (by decide +kernel) (pa_cons (pe_ix ix_list (pv 0) pe_int (fun _ _ => rfl)) pa_nil)) pa_nil))) pa_nil)) (pv 1))))), ?_⟩
  have b1 : But d H (upd H d (.lst [.ref a, .int (i + 1)])) := fun b o n e => by rw [upd_ne n]; exact e
  have hS1 := hS.but hd b1
  refine ⟨_, rfl, d, _, _, _, rfl, rfl, SqL.of hd, at_of (j := 1) rfl rfl, i, 1, rfl, rfl, d, _, _, 1, rfl, rfl, hd, rfl, ?_⟩
  have e1 : upd H d (.lst [.ref a, .int (i + 1)]) d = some (.lst [.ref a, .int (i + 1)]) := upd_same
  refine ⟨_, rfl, d, _, _, _, rfl, rfl, SqL.of e1, at_of (j := 0) rfl rfl, ?_⟩
  refine ⟨_, rfl, d, _, _, _, rfl, rfl, SqL.of e1, at_of (j := 1) rfl rfl, .inl ⟨_, rfl, a, ns, i + 1, rfl, hS1.sq, h63, fun n H' g => ?_⟩⟩
  refine .inl ⟨n, rfl, _, rfl, _, _, rfl, rfl, m0, ?_⟩
  exact k _ _ (Int.emod_nonneg _ (by omega)) (Int.emod_lt_of_pos _ m0) ⟨a, ns, i + 1, g _ _ e1, hS1.same g, h63⟩ (b1.same g)
theorem ok__law_pick (T : Txt K mg) : FnOk P w K mg base CX0 3 T.a__law_pick T.d__law_pick ["draw", "items"] (sp_pick K) := by
  have G__law_take := ok__law_take (P := P) (w := w) (base := base) T
  refine T.F__law_pick.ok sc__law_pick (fun vs H Q E h => ?_) (fun cdv A outer s H vs Q E hr h => ?_)
  · obtain ⟨d, p, xs, rfl, _⟩ := h
    rfl
  obtain ⟨d, p, xs, rfl, hd, hx, hl, k⟩ := h
  refine ⟨_, (pss_one (ps_ret (pe_ix ix_lt (pv 1) (pe_call G__law_take (hr.mono (by first | decide | omega)) (by rfl) T.m__law_take T.F__law_take.kp T.b__law_take .nil pass0 (pa_cons (pv 0) (pa_cons (pe_callB call_len_seq (by rfl) T.z_len (by decide +kernel) (pa_cons (pv 1) pa_nil)) pa_nil))) (fun _ _ => rfl)))), ?_⟩
  have hlen : SqL K H p xs ∨ SqT K H p xs := hx.imp (fun z => z.1) fun z => z
  refine ⟨_, rfl, _, rfl, _, rfl, p, xs, rfl, hlen, d, _, rfl, hd, (by show (0 : Int) < (xs.length : Int); omega), fun r H' r0 r1 hd' b => ?_⟩
  have hj : r.toNat < xs.length := by omega
  have ha : atI xs r = some xs[r.toNat] := at_of (j := r.toNat) (by omega) (List.getElem?_eq_getElem hj)
  have fin := k r.toNat _ H' (List.getElem?_eq_getElem hj) hd' b
  obtain ⟨a, ns, i, h1, _⟩ := hd
  rcases hx with ⟨z, n⟩ | z
  · exact .inl ⟨p, xs, r, _, rfl, rfl, b.seq n z, ha, fin⟩
  · exact .inr ⟨p, xs, r, _, rfl, rfl, b.tup h1 z, ha, fin⟩


end
end My
set_option Elab.async false
set_option linter.all false
set_option maxRecDepth 100000
set_option maxHeartbeats 400000
namespace My
open PySem L2 PySem.Spec PyProof.Rows
section
variable {P : Program} {w : World} {K : PySem.W.Frag} {mg : Str → Option Value} {base : Heap}
/-! ### rows and names, whatever is given -/
theorem len_dec {n m : Nat} : decide (V.int (n : Int) = V.int (m : Int)) = decide (n = m) := by
  by_cases e : n = m
  · subst e
    simp
  · rw [decide_eq_false e, decide_eq_false (fun q => e (by injection q with q; omega))]
theorem same_upd {H0 H : Hp} {q : Addr} {o : HO} (g : Same H0 H) (n : H0 q = none) : Same H0 (upd H q o) := fun b u e => by rw [upd_ne (ne_of_none e n)]; exact g b u e
def tys : List String := ["NoneType", "bool", "int", "str", "list", "tuple", "dict"]
def rowT (t : String) : Bool := t == "list" || t == "tuple"
theorem kit_row {K : PySem.W.Frag} : ∀ t, t ∈ tys → PySem.W.kitAny K (.type t) [.type "list", .type "tuple"] = some (rowT t) := by
  have step : ∀ (t : String) (b c : Bool), PySem.W.kitOne K (.type t) (.type "list") = some b → PySem.W.kitOne K (.type t) (.type "tuple") = some c → PySem.W.kitAny K (.type t) [.type "list", .type "tuple"] = some (b || c) := fun t b c e1 e2 => by
    unfold PySem.W.kitAny
    rw [e1]
    cases b with
    | true => rfl
    | false =>
      unfold PySem.W.kitAny
      rw [e2]
      cases c <;> rfl
  intro t h
  have all_ : t = "NoneType" ∨ t = "bool" ∨ t = "int" ∨ t = "str" ∨ t = "list" ∨ t = "tuple" ∨ t = "dict" := by simpa [tys] using h
  rcases all_ with rfl | rfl | rfl | rfl | rfl | rfl | rfl
  · exact (step _ false false (kit_ty (by decide +kernel)) (kit_ty (by decide +kernel))).trans (by decide +kernel)
  · exact (step _ false false (kit_ty (by decide +kernel)) (kit_ty (by decide +kernel))).trans (by decide +kernel)
  · exact (step _ false false (kit_ty (by decide +kernel)) (kit_ty (by decide +kernel))).trans (by decide +kernel)
  · exact (step _ false false (kit_ty (by decide +kernel)) (kit_ty (by decide +kernel))).trans (by decide +kernel)
  · exact (step _ true false (kit_ty (by decide +kernel)) (kit_ty (by decide +kernel))).trans (by decide +kernel)
  · exact (step _ false true (kit_ty (by decide +kernel)) (kit_ty (by decide +kernel))).trans (by decide +kernel)
  · exact (step _ false false (kit_ty (by decide +kernel)) (kit_ty (by decide +kernel))).trans (by decide +kernel)
def sp_isrow (K : PySem.W.Frag) : Sp := fun vs H Q _ => ∃ (v : V) (t : String), vs = [v] ∧ TyX K H v (.type t) ∧ t ∈ tys ∧ (∀ H', Same H H' → TyX K H' v (.type t)) ∧ ∀ H', Same H H' → Q (.bl (rowT t)) H'
theorem ok_is_row (T : Txt K mg) : FnOk P w K mg base CX0 1 T.a_is_row T.d_is_row ["value"] (sp_isrow K) := by
  refine T.F_is_row.ok sc_is_row (fun vs H Q E h => ?_) (fun cdv A outer s H vs Q E hr h => ?_)
  · obtain ⟨v, t, rfl, _⟩ := h
    rfl
  obtain ⟨v, t, rfl, ty, mem, keep, k⟩ := h
  refine ⟨_, (pss_one (ps_ret (pe_callB call_isiT (by rfl) T.z_isinstance (by decide +kernel) (pa_cons (pv 0) (pa_cons (pe_tup (pa_cons (pe_bltn (v := .ty "list") (by rfl) T.z_list (by decide +kernel) rfl) (pa_cons (pe_bltn (v := .ty "tuple") (by rfl) T.z_tuple (by decide +kernel) rfl) pa_nil))) pa_nil))))), ?_⟩
  refine ⟨_, rfl, (by show 2 ≤ sizeLine; decide), fun q hq => ?_⟩
  have g := same_new hq (.tup [.ty "list", .ty "tuple"])
  exact ⟨v, q, _, _, [.type "list", .type "tuple"], rowT t, rfl, upd_same, .cons (.ty _) (.cons (.ty _) .nil), keep _ g, kit_row t mem, k _ g⟩
/-- what may be given for a row: something else, by its type; or a list or a tuple of data -/
inductive RowA
  | oth (t : String)
  | seq (ds : List PyData)
def RowAt (K : PySem.W.Frag) (H : Hp) (v : V) : RowA → Prop
  | .oth t => t ∈ tys ∧ rowT t = false ∧ ∀ H', Same H H' → TyX K H' v (.type t)
  | .seq ds => ∃ a xs, v = .ref a ∧ SqA K H a xs ∧ DpAll K H xs ds ∧ ds.length ≤ 1000
theorem SqA.same {K : PySem.W.Frag} {H H' : Hp} {a : Addr} {xs : List V} (g : Same H H') (h : SqA K H a xs) : SqA K H' a xs := h.elim (fun h => .inl (g.seq h)) fun h => .inr (Same.tup g h)
theorem RowAt.same {K : PySem.W.Frag} {H H' : Hp} {v : V} {r : RowA} (g : Same H H') (h : RowAt K H v r) : RowAt K H' v r := by
  cases r with
  | oth t => exact ⟨h.1, h.2.1, fun H2 g2 => h.2.2 H2 (g.trans g2)⟩
  | seq ds =>
    obtain ⟨a, xs, rfl, h1, h2, h3⟩ := h
    exact ⟨a, xs, rfl, h1.same g, dps_same g _ _ h2, h3⟩
def isSeq : RowA → Bool
  | .oth _ => false
  | .seq _ => true
theorem row_ty {K : PySem.W.Frag} {H : Hp} {v : V} {r : RowA} (h : RowAt K H v r) : ∃ t, t ∈ tys ∧ (∀ H', Same H H' → TyX K H' v (.type t)) ∧ rowT t = isSeq r := by
  cases r with
  | oth t => exact ⟨t, h.1, h.2.2, h.2.1⟩
  | seq ds =>
    obtain ⟨a, xs, rfl, h1, _⟩ := h
    rcases h1 with h1 | h1
    · exact ⟨"list", by decide +kernel, fun H' g => ty_lst (g.seq h1), show rowT "list" = true by decide +kernel⟩
    · exact ⟨"tuple", by decide +kernel, fun H' g => ty_tup (Same.tup g h1), show rowT "tuple" = true by decide +kernel⟩
def strsD (ds : List PyData) : List Str := ds.filterMap fun d => match d with | .str s => some s | _ => none
def namesR (m : Int) : RowA → Bool
  | .oth _ => false
  | .seq ds => if m < (ds.length : Int) then false else if (ds.all nameD) = true then decide (newT (strsD ds) (strsD ds).length = ds.length) else false
def StrsOk : RowA → Prop
  | .oth _ => True
  | .seq ds => ∀ d ∈ ds, StrOk d
theorem strs_of {K : PySem.W.Frag} {H : Hp} : ∀ {xs : List V} {ds : List PyData}, DpAll K H xs ds → (ds.all nameD) = true → xs = (strsD ds).map V.str ∧ (strsD ds).length = ds.length
  | _, _, .nil, _ => ⟨rfl, rfl⟩
  | _, _, .cons (d := d) (ds := ds) h r, e => by
    rw [List.all_cons, Bool.and_eq_true] at e
    obtain ⟨s, rfl⟩ : ∃ s, d = .str s := by
      cases d with
      | str s => exact ⟨s, rfl⟩
      | _ => cases e.1
    obtain ⟨e1, e2⟩ := strs_of r e.2
    cases h
    refine ⟨?_, ?_⟩
    · show _ = ((strsD (.str s :: ds)).map V.str)
      have : strsD (.str s :: ds) = s :: strsD ds := rfl
      rw [this, List.map_cons, ← e1]
    · have : strsD (.str s :: ds) = s :: strsD ds := rfl
      rw [this, List.length_cons, List.length_cons, e2]
def sp_names (K : PySem.W.Frag) : Sp := fun vs H Q _ => ∃ (v : V) (m : Int) (r : RowA), vs = [v, .int m] ∧ RowAt K H v r ∧ StrsOk r ∧ m ≤ 10 ∧ ∀ H', Same H H' → Q (.bl (namesR m r)) H'
theorem ok_are_names (T : Txt K mg) : FnOk P w K mg base CX0 2 T.a_are_names T.d_are_names ["row", "most"] (sp_names K) := by
  have G_is_row := ok_is_row (P := P) (w := w) (base := base) T
  have G_is_name := ok_is_name (P := P) (w := w) (base := base) T
  refine T.F_are_names.ok sc_are_names (fun vs H Q E h => ?_) (fun cdv A outer s H vs Q E hr h => ?_)
  · obtain ⟨v, m, r, rfl, _⟩ := h
    rfl
  obtain ⟨v, m, r, rfl, hr0, so, lm, k⟩ := h
  refine ⟨_, (pss_cons (ps_if (PW.pt (pw_or (pt_not (pt_val (pe_call G_is_row (hr.mono (by first | decide | omega)) (by rfl) T.m_is_row T.F_is_row.kp T.b_is_row .nil pass0 (pa_cons (pv 0) pa_nil)))) (pw_or (pt_cmpR op_gt (pe_callB call_len_seq (by rfl) T.z_len (by decide +kernel) (pa_cons (pv 0) pa_nil)) (pv 1) (nomark _)) (pw_or1 (pt_not (pt_val (pe_callB (cr_all rfl) (by rfl) T.z_all (by decide +kernel) (pa_cons (pe_lc (own := [("name", 2)]) rfl sc_are_names.nd (pi_lt (pv 0)) (blkOk_by (own := [("name", 2)]) (N := ["row", "most", "name"]) (sc := defScope s_are_names) (by decide +kernel)) (fun _ _ _ _ _ => (pg_name (i := 2) sc_are_names.nd rfl (by first | exact Or.inl rfl | exact Or.inr rfl))) (fun _ _ _ _ _ => pts_nil) (fun _ _ _ _ _ => (pe_call G_is_name (hr.mono (by first | decide | omega)) (by rfl) T.m_is_name T.F_is_name.kp T.b_is_name .nil pass0 (pa_cons (pv 2) pa_nil)))) pa_nil)))))))) (pss_one (ps_ret pe_bl)) pss_nil)
    (pss_one (ps_ret (pe_cmpR op_eq (pe_lenU rfl (by rfl) T.z_len (by rfl) T.z_set (pv 0)) (pe_callB call_len_seq (by rfl) T.z_len (by decide +kernel) (pa_cons (pv 0) pa_nil)) (nomark _))))), ?_⟩
  obtain ⟨t, mem, keep, et⟩ := row_ty hr0
  refine ⟨_, rfl, v, t, rfl, keep _ (Same.refl _), mem, keep, fun H1 g1 => ⟨_, rfl, ?_⟩⟩
  cases r with
  | oth t' =>
    rw [et]
    exact iteT (k _ g1)
  | seq ds =>
    rw [et]
    refine iteF ?_
    obtain ⟨a, xs, rfl, hs, da, l1000⟩ := hr0
    have hs1 := hs.same g1
    have da1 := dps_same g1 _ _ da
    have ln := dps_len da
    have len2 : ∀ {H' : Hp}, SqA K H' a xs → SqL K H' a xs ∨ SqT K H' a xs := fun h => h
    refine ⟨_, rfl, a, xs, rfl, len2 hs1, _, rfl, _, _, rfl, rfl, _, rfl, ?_⟩
    rw [ln]
    have many : namesR m (.seq ds) = if m < (ds.length : Int) then false else if (ds.all nameD) = true then decide (newT (strsD ds) (strsD ds).length = ds.length) else false := rfl
    by_cases c : m < (ds.length : Int)
    · rw [decide_eq_true c]
      rw [if_pos c] at many
      rw [many] at k
      exact iteT (k _ g1)
    rw [decide_eq_false c]
    rw [if_neg c] at many
    have small : ds.length ≤ 10 := by omega
    refine iteF ⟨_, rfl, a, rfl, ?_⟩
    have all_ : ((ds.map nameD).all id) = ds.all nameD := by rw [List.all_map]; rfl
    rcases hs1 with h1 | h1
    · refine .inl ⟨xs, h1, fun D hD => lc_it (walk_list (xs := xs)) (fun i H' => Same H1 H' ∧ H' D = some (.lst (((ds.take i).map nameD).map V.bl))) ⟨same_new hD _, upd_same⟩ (fun i H' _ z => z.1.seq h1) ?_ ?_⟩
      · rintro i x H' H'' hi ⟨g, e⟩ ⟨e1, hx⟩
        subst e1
        obtain ⟨d, hd, dx⟩ : ∃ d, ds[i]? = some d ∧ Dp K H1 x d := by
          have hi2 : i < ds.length := by omega
          obtain ⟨y, hy, dy⟩ := dps_get da1 (List.getElem?_eq_getElem hi2)
          rw [hx] at hy
          cases hy
          exact ⟨_, List.getElem?_eq_getElem hi2, dy⟩
        refine ⟨rfl, _, rfl, x, d, rfl, dp_same g _ _ dx, so d (List.mem_of_getElem? hd), fun H2 g2 => ⟨_, g2 _ _ e, ?_, same_upd (g.trans g2) hD, ?_⟩⟩
        · rw [List.length_map, List.length_map, List.length_take]
          exact small1000 (by omega)
        · rw [upd_same, List.take_add_one, hd, List.map_append, List.map_append]
          rfl
      · rintro H' ⟨g, e⟩
        rw [ln, List.take_of_length_le (Nat.le_refl _)] at e
        refine ⟨D, ds.map nameD, rfl, SqL.of e, _, rfl, ?_⟩
        rw [all_]
        have g02 := g1.trans g
        cases ea : ds.all nameD with
        | false =>
          rw [ea, if_neg Bool.false_ne_true] at many
          rw [many] at k
          exact iteT (k _ g02)
        | true =>
          rw [ea, if_pos rfl] at many
          rw [many] at k
          obtain ⟨ex, el⟩ := strs_of da1 ea
          refine iteF ⟨_, rfl, a, strsD ds, rfl, ?_, by omega, _, rfl, a, xs, rfl, hs.same g02, rfl, ?_⟩
          · rw [← ex]
            exact hs.same g02
          · rw [ln, len_dec]
            exact k _ g02
    · refine .inr ⟨xs, h1, fun D hD => lc_it (walk_tup (xs := xs)) (fun i H' => Same H1 H' ∧ H' D = some (.lst (((ds.take i).map nameD).map V.bl))) ⟨same_new hD _, upd_same⟩ (fun i H' _ z => Same.tup z.1 h1) ?_ ?_⟩
      · rintro i x H' H'' hi ⟨g, e⟩ ⟨e1, hx⟩
        subst e1
        obtain ⟨d, hd, dx⟩ : ∃ d, ds[i]? = some d ∧ Dp K H1 x d := by
          have hi2 : i < ds.length := by omega
          obtain ⟨y, hy, dy⟩ := dps_get da1 (List.getElem?_eq_getElem hi2)
          rw [hx] at hy
          cases hy
          exact ⟨_, List.getElem?_eq_getElem hi2, dy⟩
        refine ⟨rfl, _, rfl, x, d, rfl, dp_same g _ _ dx, so d (List.mem_of_getElem? hd), fun H2 g2 => ⟨_, g2 _ _ e, ?_, same_upd (g.trans g2) hD, ?_⟩⟩
        · rw [List.length_map, List.length_map, List.length_take]
          exact small1000 (by omega)
        · rw [upd_same, List.take_add_one, hd, List.map_append, List.map_append]
          rfl
      · rintro H' ⟨g, e⟩
        rw [ln, List.take_of_length_le (Nat.le_refl _)] at e
        refine ⟨D, ds.map nameD, rfl, SqL.of e, _, rfl, ?_⟩
        rw [all_]
        have g02 := g1.trans g
        cases ea : ds.all nameD with
        | false =>
          rw [ea, if_neg Bool.false_ne_true] at many
          rw [many] at k
          exact iteT (k _ g02)
        | true =>
          rw [ea, if_pos rfl] at many
          rw [many] at k
          obtain ⟨ex, el⟩ := strs_of da1 ea
          refine iteF ⟨_, rfl, a, strsD ds, rfl, ?_, by omega, _, rfl, a, xs, rfl, hs.same g02, rfl, ?_⟩
          · rw [← ex]
            exact hs.same g02
          · rw [ln, len_dec]
            exact k _ g02

end
end My
set_option Elab.async false
set_option linter.all false
set_option maxRecDepth 100000
set_option maxHeartbeats 400000
namespace My
open PySem L2 PySem.Spec PyProof.Rows
section
variable {P : Program} {w : World} {K : PySem.W.Frag} {mg : Str → Option Value} {base : Heap}
/-! ### the dict of what is asked, whatever is given -/
def kindV (b : Bool) : V := .str (if b then "number" else "text")
def keyD : Key → PyData
  | .inl i => .int i
  | .inr s => .str s
def kindW : V → Bool
  | .str s => s == ("number" : Str) || s == ("text" : Str)
  | _ => false
def flatA : V → Bool
  | .str _ => true
  | .non => true
  | _ => false
inductive DicA
  | oth (t : String)
  | dic (kvs : List (Key × V))
/-- its keys are short, each stands once, its values are texts or None -/
structure KvsOk (kvs : List (Key × V)) : Prop where
  nd : (kvs.map Prod.fst).Nodup
  key : ∀ p ∈ kvs, StrOk (keyD p.1)
  val : ∀ p ∈ kvs, flatA p.2 = true
  few : kvs.length ≤ 20
def DicAt (K : PySem.W.Frag) (H : Hp) (v : V) : DicA → Prop
  | .oth t => t ∈ tys ∧ t ≠ "dict" ∧ ∀ H', Same H H' → TyX K H' v (.type t)
  | .dic kvs => ∃ a, v = .ref a ∧ H a = some (.dK kvs) ∧ KvsOk kvs
theorem DicAt.same {K : PySem.W.Frag} {H H' : Hp} {v : V} {r : DicA} (g : Same H H') (h : DicAt K H v r) : DicAt K H' v r := by
  cases r with
  | oth t => exact ⟨h.1, h.2.1, fun H2 g2 => h.2.2 H2 (g.trans g2)⟩
  | dic kvs =>
    obtain ⟨a, rfl, h1, h2⟩ := h
    exact ⟨a, rfl, g _ _ h1, h2⟩
def askedR : DicA → Bool
  | .oth _ => false
  | .dic kvs => if 4 < kvs.length then false else kvs.all fun p => nameD (keyD p.1) && kindW p.2
theorem val_at : ∀ {kvs : List (Key × V)} {k : Key} {v : V}, (kvs.map Prod.fst).Nodup → (k, v) ∈ kvs → valV kvs k = some v
  | [], _, _, _, h => by cases h
  | (m, c) :: as, n, b, nd, h => by
    rw [List.map_cons, List.nodup_cons] at nd
    rcases List.mem_cons.mp h with h | h
    · cases h
      exact valV_pos rfl
    · have ne : ¬ m = n := fun e => nd.1 (by rw [e]; exact List.mem_map.mpr ⟨_, h, rfl⟩)
      rw [valV_neg ne]
      exact val_at nd.2 h
theorem key_dp {K : PySem.W.Frag} {H : Hp} (k : Key) : Dp K H (kV k) (keyD k) := by
  cases k with
  | inl i => exact .int i
  | inr s => exact .str s
theorem kind_in {K : PySem.W.Frag} {H : Hp} {x : V} {Q : VK} {q : Addr} (f : flatA x = true) (hq : H q = some (.tup [.str "number", .str "text"])) (k : Q (.bl (kindW x)) H) : rIn K false x (.ref q) H Q := by
  have e : inV x [.str "number", .str "text"] = kindW x := by
    cases x with
    | str s =>
      show (eqV (.str "number") (.str s) || (eqV (.str "text") (.str s) || false)) = _
      rw [Bool.or_false]
      show ((("number" : Str) == s) || (("text" : Str) == s)) = (s == ("number" : Str) || s == ("text" : Str))
      rw [BEq.comm (a := ("number" : Str)), BEq.comm (a := ("text" : Str))]
    | non => rfl
    | _ => cases f
  have ff : flatV x = true := by cases x <;> first | rfl | cases f
  refine ⟨q, _, rfl, .inr (SqT.of hq), ff, rfl, ?_⟩
  show Q (.bl (inV x [.str "number", .str "text"])) H
  rw [e]
  exact k
theorem kit_dict {K : PySem.W.Frag} : ∀ t, t ∈ tys → PySem.W.kitOne K (.type t) (.type "dict") = some (t == "dict") := by
  intro t h
  have all_ : t = "NoneType" ∨ t = "bool" ∨ t = "int" ∨ t = "str" ∨ t = "list" ∨ t = "tuple" ∨ t = "dict" := by simpa [tys] using h
  rcases all_ with rfl | rfl | rfl | rfl | rfl | rfl | rfl <;> exact kit_ty (by decide +kernel)
def sp_arasked (K : PySem.W.Frag) : Sp := fun vs H Q _ => ∃ (v : V) (r : DicA), vs = [v] ∧ DicAt K H v r ∧ ∀ H', Same H H' → Q (.bl (askedR r)) H'
theorem ok_are_asked (T : Txt K mg) : FnOk P w K mg base CX0 2 T.a_are_asked T.d_are_asked ["asked"] (sp_arasked K) := by
  have G_is_name := ok_is_name (P := P) (w := w) (base := base) T
  refine T.F_are_asked.ok sc_are_asked (fun vs H Q E h => ?_) (fun cdv A outer s H vs Q E hr h => ?_)
  · obtain ⟨v, r, rfl, _⟩ := h
    rfl
  obtain ⟨v, r, rfl, hd, k⟩ := h
  refine ⟨_, (pss_cons (ps_if (PW.pt (pw_or (pt_not (pt_val (pe_callB call_isi (by rfl) T.z_isinstance (by decide +kernel) (pa_cons (pv 0) (pa_cons (pe_bltn (v := .ty "dict") (by rfl) T.z_dict (by decide +kernel) rfl) pa_nil))))) (pw_or1 (pt_cmpR op_gt (pe_callB call_lenD (by rfl) T.z_len (by decide +kernel) (pa_cons (pv 0) pa_nil)) (pe_glob (v := .int 4) (by rfl) T.m_MOST_ASKED ⟨_, rfl⟩) (nomark _))))) (pss_one (ps_ret pe_bl)) pss_nil)
    (pss_one (ps_ret (pe_callB (cr_all rfl) (by rfl) T.z_all (by decide +kernel) (pa_cons (pe_lock (pe_lc (own := [("name", 1)]) rfl sc_are_asked.nd (pi_keys (pv 0)) (blkOk_by (own := [("name", 1)]) (N := ["asked", "name"]) (sc := defScope s_are_asked) (by decide +kernel)) (fun _ _ _ _ _ => (pg_name (i := 1) sc_are_asked.nd rfl (by first | exact Or.inl rfl | exact Or.inr rfl))) (fun _ _ _ _ _ => pts_nil) (fun _ _ _ _ _ => (pe_and (pe_call G_is_name (hr.mono (by first | decide | omega)) (by rfl) T.m_is_name T.F_is_name.kp T.b_is_name .nil pass0 (pa_cons (pv 1) pa_nil)) (pe_one (pe_cmpR (show OpR _ _ (rIn K false) from op_in_seq) (pe_dget (hu_of hr) (pv 0) (pv 1) (fun _ _ => rfl)) (pe_tup (pa_cons pe_str (pa_cons pe_str pa_nil))) (by with_unfolding_all rfl))))))) pa_nil))))), ?_⟩
  cases r with
  | oth t =>
    obtain ⟨mem, ne, keep⟩ := hd
    have e : (t == "dict") = false := beq_eq_false_iff_ne.mpr ne
    refine ⟨_, rfl, v, .ty "dict", .type t, .type "dict", t == "dict", rfl, .ty _, keep _ (Same.refl _), kit_dict t mem, _, rfl, ?_⟩
    rw [e]
    exact iteT (k _ (Same.refl _))
  | dic kvs =>
  obtain ⟨a, rfl, hs, ok⟩ := hd
  have few := ok.few
  refine ⟨_, rfl, .ref a, .ty "dict", .type "dict", .type "dict", true, rfl, .ty _, .base (.dK hs), kit_ty (by decide +kernel), _, rfl, iteF ⟨_, rfl, a, _, rfl, hs, _, _, rfl, rfl, _, rfl, ?_⟩⟩
  have many : askedR (.dic kvs) = if 4 < kvs.length then false else kvs.all fun p => nameD (keyD p.1) && kindW p.2 := rfl
  by_cases c : 4 < kvs.length
  · rw [if_pos c] at many
    rw [many] at k
    rw [decide_eq_true (show (4 : Int) < (kvs.length : Int) by omega)]
    exact iteT (k _ (Same.refl _))
  rw [if_neg c] at many
  rw [many] at k
  rw [decide_eq_false (show ¬ (4 : Int) < (kvs.length : Int) by omega)]
  have back : ∀ H' : Hp, (∀ b o, b ≠ a → H b = some o → H' b = some o) → H' a = some (.dK kvs) → Same H H' := fun H' g1 g2 b o hb => by
    by_cases e : b = a
    · rw [e] at hb ⊢
      rw [hs] at hb
      rw [← hb]
      exact g2
    · exact g1 b o e hb
  refine iteF ⟨a, _, hs, trivial, fun od => ⟨_, rfl, a, od, rfl, .inl ⟨_, upd_same, fun D hD => ?_⟩⟩⟩
  have nD : D ≠ a := fun z => by
    rw [z, upd_same] at hD
    cases hD
  rw [upd_ne nD] at hD
  let good : Key × V → Bool := fun p => nameD (keyD p.1) && kindW p.2
  refine lc_it walk_keys (fun i H' => H' a = some (.frz od (.dK kvs)) ∧ (∀ b o, b ≠ a → H b = some o → H' b = some o) ∧ H' D = some (.lst (((kvs.take i).map good).map V.bl))) ⟨?_, ?_, upd_same⟩ (fun i H' _ z => z.1) ?_ ?_
  · rw [upd_ne (Ne.symm nD), upd_same]
  · intro b o n hb
    rw [upd_ne (ne_of_none hb hD), upd_ne n]
    exact hb
  · rintro i x H1 H' hi ⟨f1, f2, f3⟩ ⟨rfl, key, v, hk, rfl⟩
    have mem := List.mem_of_getElem? hk
    have put : ∀ {b : Bool} {H2 : Hp}, good (key, v) = b → H2 D = some (.lst (((kvs.take i).map good).map V.bl)) → H2 a = some (.frz od (.dK kvs)) → (∀ c o, c ≠ a → H c = some o → H2 c = some o) →
        ∃ acc, H2 D = some (.lst acc) ∧ acc.length < sizeLine ∧ upd H2 D (.lst (acc ++ [.bl b])) a = some (.frz od (.dK kvs)) ∧ (∀ c o, c ≠ a → H c = some o → upd H2 D (.lst (acc ++ [.bl b])) c = some o) ∧ upd H2 D (.lst (acc ++ [.bl b])) D = some (.lst (((kvs.take (i + 1)).map good).map V.bl)) := fun {b H2} eb e1 e2 e3 => by
      refine ⟨_, e1, ?_, ?_, fun c o z hc => ?_, ?_⟩
      · rw [List.length_map, List.length_map, List.length_take]
        exact small1000 (by omega)
      · rw [upd_ne (Ne.symm nD)]
        exact e2
      · rw [upd_ne (ne_of_none hc hD)]
        exact e3 c o z hc
      · rw [upd_same, List.take_add_one, hk, List.map_append, List.map_append, ← eb]
        rfl
    refine ⟨rfl, _, rfl, _, keyD key, rfl, key_dp key, ok.key _ mem, fun H2 g2 => ⟨_, rfl, ite2 (fun c => ?_) (fun c => ?_)⟩⟩
    · refine ⟨_, rfl, _, rfl, a, v, rfl, .inl ⟨kvs, key, .inr ⟨od, g2 _ _ f1⟩, rfl, (val_at ok.nd mem).symm⟩, (by show 2 ≤ sizeLine; decide), fun q hq => ?_⟩
      have gq := same_new hq (.tup [.str "number", .str "text"])
      refine kind_in (ok.val _ mem) upd_same (put ?_ (gq _ _ (g2 _ _ f3)) (gq _ _ (g2 _ _ f1)) fun c o z hc => gq _ _ (g2 _ _ (f2 c o z hc)))
      show (nameD (keyD key) && kindW v) = kindW v
      rw [c]
      rfl
    · refine put ?_ (g2 _ _ f3) (g2 _ _ f1) fun c o z hc => g2 _ _ (f2 c o z hc)
      show (nameD (keyD key) && kindW v) = false
      rw [Bool.eq_false_iff.mpr c]
      rfl
  · rintro H' ⟨f1, f2, f3⟩
    rw [List.take_of_length_le (Nat.le_refl _)] at f3
    refine ⟨f1, D, kvs.map good, rfl, SqL.of (by rw [upd_ne nD, f3]), ?_⟩
    have e : ((kvs.map good).all id) = kvs.all good := by rw [List.all_map]; rfl
    rw [e]
    refine k _ (back _ (fun b o n hb => ?_) upd_same)
    rw [upd_ne n]
    exact f2 b o n hb

end
end My
set_option Elab.async false
set_option linter.all false
set_option maxRecDepth 100000
set_option maxHeartbeats 400000
namespace My
open PySem L2 PySem.Spec PyProof.Rows
section
variable {P : Program} {w : World} {K : PySem.W.Frag} {mg : Str → Option Value} {base : Heap}
/-! ### which part of columns is wrong -/
theorem names_of {m : Int} {r : RowA} (h : namesR m r = true) : ∃ ds, r = .seq ds ∧ (ds.length : Int) ≤ m ∧ (ds.all nameD) = true ∧ newT (strsD ds) (strsD ds).length = ds.length := by
  cases r with
  | oth t => cases h
  | seq ds =>
    have e : namesR m (.seq ds) = if m < (ds.length : Int) then false else if (ds.all nameD) = true then decide (newT (strsD ds) (strsD ds).length = ds.length) else false := rfl
    rw [e] at h
    by_cases c : m < (ds.length : Int)
    · rw [if_pos c] at h
      cases h
    · rw [if_neg c] at h
      by_cases c2 : (ds.all nameD) = true
      · rw [if_pos c2] at h
        exact ⟨ds, rfl, by omega, c2, of_decide_eq_true h⟩
      · rw [if_neg c2] at h
        cases h
def keysS (kvs : List (Key × V)) : List Str := kvs.filterMap fun p => match p.1 with | .inr s => some s | _ => none
theorem keys_of : ∀ {kvs : List (Key × V)}, (kvs.all fun p => nameD (keyD p.1) && kindW p.2) = true → (kvs.map fun kv => kV kv.1) = (keysS kvs).map V.str ∧ (keysS kvs).length = kvs.length
  | [], _ => ⟨rfl, rfl⟩
  | (k, v) :: r, h => by
    rw [List.all_cons, Bool.and_eq_true, Bool.and_eq_true] at h
    obtain ⟨e1, e2⟩ := keys_of h.2
    cases k with
    | inl i => cases h.1.1
    | inr s =>
      have e : keysS ((.inr s, v) :: r) = s :: keysS r := rfl
      rw [e, List.map_cons, List.map_cons, e1, List.length_cons, List.length_cons, e2]
      exact ⟨rfl, rfl⟩
theorem asked_of {r : DicA} (h : askedR r = true) : ∃ kvs, r = .dic kvs ∧ kvs.length ≤ 4 ∧ (kvs.all fun p => nameD (keyD p.1) && kindW p.2) = true := by
  cases r with
  | oth t => cases h
  | dic kvs =>
    have e : askedR (.dic kvs) = if 4 < kvs.length then false else kvs.all fun p => nameD (keyD p.1) && kindW p.2 := rfl
    rw [e] at h
    by_cases c : 4 < kvs.length
    · rw [if_pos c] at h
      cases h
    · rw [if_neg c] at h
      exact ⟨kvs, rfl, by omega, h⟩
def strsA : RowA → List Str
  | .oth _ => []
  | .seq ds => strsD ds
def keysA : DicA → List Str
  | .oth _ => []
  | .dic kvs => keysS kvs
def namesAll (h : RowA) (a : DicA) (s : RowA) : List Str := strsA h ++ keysA a ++ strsA s
def wrongR (h : RowA) (a : DicA) (s : RowA) : Option Str :=
  if namesR 2 h = false then some "hashed" else if askedR a = false then some "asked" else if namesR 2 s = false then some "summed" else
    if newT (namesAll h a s) (namesAll h a s).length < (namesAll h a s).length then some "names" else none
def optV : Option Str → V
  | none => .non
  | some s => .str s
def sp_wrong (K : PySem.W.Frag) : Sp := fun vs H Q _ => ∃ (hv av sv : V) (h : RowA) (a : DicA) (s : RowA), vs = [hv, av, sv] ∧ RowAt K H hv h ∧ DicAt K H av a ∧ RowAt K H sv s ∧ StrsOk h ∧ StrsOk s ∧ ∀ H', Same H H' → Q (optV (wrongR h a s)) H'
theorem seq_at {K : PySem.W.Frag} {H : Hp} {v : V} {ds : List PyData} (h : RowAt K H v (.seq ds)) (al : (ds.all nameD) = true) : ∃ a, v = .ref a ∧ SqA K H a ((strsD ds).map V.str) ∧ (strsD ds).length = ds.length := by
  obtain ⟨a, xs, rfl, h1, h2, _⟩ := h
  obtain ⟨e1, e2⟩ := strs_of h2 al
  exact ⟨a, rfl, e1 ▸ h1, e2⟩
theorem ok_wrong_part (T : Txt K mg) : FnOk P w K mg base CX0 3 T.a_wrong_part T.d_wrong_part ["hashed", "asked", "summed"] (sp_wrong K) := by
  have G_are_names := ok_are_names (P := P) (w := w) (base := base) T
  have G_are_asked := ok_are_asked (P := P) (w := w) (base := base) T
  refine T.F_wrong_part.ok sc_wrong_part (fun vs H Q E h => ?_) (fun cdv A outer s H vs Q E hr h => ?_)
  · obtain ⟨hv, av, sv, h, a, s, rfl, _⟩ := h
    rfl
  obtain ⟨hv, av, sv, h, a, sm, rfl, q1, q2, q3, ok1, ok3, k⟩ := h
  refine ⟨_, (pss_cons (ps_if (pt_not (pt_val (pe_call G_are_names (hr.mono (by first | decide | omega)) (by rfl) T.m_are_names T.F_are_names.kp T.b_are_names .nil pass0 (pa_cons (pv 0) (pa_cons (pe_glob (v := .int 2) (by rfl) T.m_MOST_HASHED ⟨_, rfl⟩) pa_nil))))) (pss_one (ps_ret pe_str)) pss_nil)
    (pss_cons (ps_if (pt_not (pt_val (pe_call G_are_asked (hr.mono (by first | decide | omega)) (by rfl) T.m_are_asked T.F_are_asked.kp T.b_are_asked .nil pass0 (pa_cons (pv 1) pa_nil)))) (pss_one (ps_ret pe_str)) pss_nil)
    (pss_cons (ps_if (pt_not (pt_val (pe_call G_are_names (hr.mono (by first | decide | omega)) (by rfl) T.m_are_names T.F_are_names.kp T.b_are_names .nil pass0 (pa_cons (pv 2) (pa_cons (pe_glob (v := .int 2) (by rfl) T.m_MOST_SUMMED ⟨_, rfl⟩) pa_nil))))) (pss_one (ps_ret pe_str)) pss_nil)
    (pss_cons (ps_set (i := 3) sc_wrong_part.nd rfl (by first | exact Or.inl rfl | exact Or.inr rfl) (pe_op op_cat (pe_op op_cat (pe_callTy call_list_of (by rfl) T.z_list (by decide +kernel) (pa_cons (pv 0) pa_nil)) (pe_callTy (call_listD rfl) (by rfl) T.z_list (by decide +kernel) (pa_cons (pv 1) pa_nil))) (pe_callTy call_list_of (by rfl) T.z_list (by decide +kernel) (pa_cons (pv 2) pa_nil))))
    (pss_cons (ps_if (pt_cmpR op_lt (pe_lenU rfl (by rfl) T.z_len (by rfl) T.z_set (pv 3)) (pe_callB call_len_seq (by rfl) T.z_len (by decide +kernel) (pa_cons (pv 3) pa_nil)) (nomark _)) (pss_one (ps_ret pe_str)) pss_nil)
    (pss_one (ps_ret pe_non))))))), ?_⟩
  unfold wrongR at k
  refine ⟨_, rfl, hv, 2, h, rfl, q1, ok1, by omega, fun H1 g1 => ⟨_, rfl, ?_⟩⟩
  cases c1 : namesR 2 h with
  | false =>
    rw [if_pos c1] at k
    exact iteT (k _ g1)
  | true =>
  rw [if_neg (by rw [c1]; exact Bool.noConfusion)] at k
  refine iteF ⟨_, rfl, av, a, rfl, q2.same g1, fun H2 g2 => ⟨_, rfl, ?_⟩⟩
  have g12 := g1.trans g2
  cases c2 : askedR a with
  | false =>
    rw [if_pos c2] at k
    exact iteT (k _ g12)
  | true =>
  rw [if_neg (by rw [c2]; exact Bool.noConfusion)] at k
  refine iteF ⟨_, rfl, sv, 2, sm, rfl, q3.same g12, ok3, by omega, fun H3 g3 => ⟨_, rfl, ?_⟩⟩
  have g13 := g12.trans g3
  cases c3 : namesR 2 sm with
  | false =>
    rw [if_pos c3] at k
    exact iteT (k _ g13)
  | true =>
  rw [if_neg (by rw [c3]; exact Bool.noConfusion)] at k
  refine iteF ?_
  obtain ⟨d1, rfl, l1, al1, _⟩ := names_of c1
  obtain ⟨kvs, rfl, l2, al2⟩ := asked_of c2
  obtain ⟨d3, rfl, l3, al3, _⟩ := names_of c3
  obtain ⟨h, rfl, s1, n1⟩ := seq_at q1 al1
  obtain ⟨sp, rfl, s3, n3⟩ := seq_at q3 al3
  obtain ⟨a, rfl, s2, _⟩ := q2
  obtain ⟨ek, n2⟩ := keys_of al2
  have en : namesAll (.seq d1) (.dic kvs) (.seq d3) = strsD d1 ++ keysS kvs ++ strsD d3 := rfl
  rw [en] at k
  generalize strsD d1 = hs at *
  generalize strsD d3 = ss at *
  generalize keysS kvs = as at *
  refine ⟨_, rfl, h, _, rfl, s1.same g13, fun p1 f1 => ?_⟩
  have g4 := g13.trans (same_new f1 (.lst (hs.map V.str)))
  have e1 : upd H3 p1 (.lst (hs.map V.str)) p1 = some (.lst (hs.map V.str)) := upd_same
  generalize upd H3 p1 (.lst (hs.map V.str)) = H4 at *
  refine ⟨_, rfl, a, _, rfl, Rd.of (g4 _ _ s2), fun p2 f2 => ?_⟩
  rw [ek]
  have g45 := same_new f2 (.lst (as.map V.str))
  have g5 := g4.trans g45
  have e2 : upd H4 p2 (.lst (as.map V.str)) p2 = some (.lst (as.map V.str)) := upd_same
  have e1' := g45 _ _ e1
  generalize upd H4 p2 (.lst (as.map V.str)) = H5 at *
  refine ⟨p1, p2, _, _, rfl, rfl, e1', e2, ?_, fun p3 f3 => ?_⟩
  · rw [List.length_map, List.length_map]
    exact Nat.le_of_lt (small1000 (by omega))
  have g56 := same_new f3 (.lst (hs.map V.str ++ as.map V.str))
  have g6 := g5.trans g56
  have e3 : upd H5 p3 (.lst (hs.map V.str ++ as.map V.str)) p3 = some (.lst (hs.map V.str ++ as.map V.str)) := upd_same
  generalize upd H5 p3 (.lst (hs.map V.str ++ as.map V.str)) = H6 at *
  refine ⟨_, rfl, sp, _, rfl, s3.same g6, fun p4 f4 => ?_⟩
  have g67 := same_new f4 (.lst (ss.map V.str))
  have g7 := g6.trans g67
  have e4 : upd H6 p4 (.lst (ss.map V.str)) p4 = some (.lst (ss.map V.str)) := upd_same
  have e3' := g67 _ _ e3
  generalize upd H6 p4 (.lst (ss.map V.str)) = H7 at *
  refine ⟨p3, p4, _, _, rfl, rfl, e3', e4, ?_, fun p5 f5 => ?_⟩
  · rw [List.length_append, List.length_map, List.length_map, List.length_map]
    exact Nat.le_of_lt (small1000 (by omega))
  rw [← List.map_append, ← List.map_append]
  have g8 := g7.trans (same_new f5 (.lst ((hs ++ as ++ ss).map V.str)))
  have e5 : upd H7 p5 (.lst ((hs ++ as ++ ss).map V.str)) p5 = some (.lst ((hs ++ as ++ ss).map V.str)) := upd_same
  generalize upd H7 p5 (.lst ((hs ++ as ++ ss).map V.str)) = H8 at *
  have ll : (hs ++ as ++ ss).length < 100 := by
    rw [List.length_append, List.length_append]
    omega
  refine ⟨_, rfl, p5, _, rfl, .inl (SqL.of e5), ll, _, rfl, p5, _, rfl, .inl (SqL.of e5), _, _, rfl, rfl, _, rfl, ?_⟩
  rw [List.length_map]
  by_cases c : newT (hs ++ as ++ ss) (hs ++ as ++ ss).length < (hs ++ as ++ ss).length
  · rw [if_pos c] at k
    rw [decide_eq_true (by omega)]
    exact iteT (k _ g8)
  · rw [if_neg c] at k
    rw [decide_eq_false (by omega)]
    exact iteF (k _ g8)
/-! ### the two errors -/
def sp_bcinit (C : Addr) : Sp := fun vs H Q _ => ∃ (a : Addr) (v : V), vs = [.ref a, v] ∧ H a = some (exo a C none) ∧ ∀ dx : Addr, H dx = none → dx ≠ a → Q .non (upd (upd H dx (exd dx [("part", v)])) a (exo a C (some dx)))
theorem ok_BadColumns_init (T : Txt K mg) : FnOk P w K mg base CX0 1 T.a_BadColumns_init T.d_BadColumns_init ["self", "part"] (sp_bcinit T.c_BadColumns) := by

  refine T.F_BadColumns_init.ok sc_BadColumns_init (fun vs H Q E h => ?_) (fun cdv A outer s H vs Q E hr h => ?_)
  · obtain ⟨a, v, rfl, _⟩ := h
    rfl
  obtain ⟨a, v, rfl, he, k⟩ := h
  refine ⟨_, (pss_cons (ps_expr (pe_baseinit (by rfl) T.m_SieveError T.r_SieveError T.i_SieveError (pa_cons (pv 0) (pa_cons pe_str pa_nil))))
    (pss_one (ps_ost (pv 0) (pv 1)))), ?_⟩
  refine ⟨_, rfl, a, T.c_BadColumns, _, rfl, (by show 1 ≤ 1000; decide), T.x_BadColumns, he, ?_⟩
  exact ⟨_, rfl, _, rfl, a, T.c_BadColumns, rfl, T.x_BadColumns, T.xn_BadColumns, .inl ⟨he, fun dx n ne => k dx n ne⟩⟩

end
end My
set_option Elab.async false
set_option linter.all false
set_option maxRecDepth 100000
set_option maxHeartbeats 400000
namespace My
open PySem L2 PySem.Spec PyProof.Rows
section
variable {P : Program} {w : World} {K : PySem.W.Frag} {mg : Str → Option Value} {base : Heap}
/-! ### sorted texts are told by what is in them -/
theorem cps_nil_r : ∀ a : List Nat, Spec.ltCps a [] = false
  | [] => rfl
  | _ :: _ => rfl
theorem cps_cons (a b : Nat) (l m : List Nat) : Spec.ltCps (a :: l) (b :: m) = (decide (a < b) || a == b && Spec.ltCps l m) := by
  rw [Spec.ltCps]
theorem cps_anti : ∀ a b : List Nat, Spec.ltCps a b = false → Spec.ltCps b a = false → a = b
  | [], [], _, _ => rfl
  | [], _ :: _, h, _ => by cases h
  | _ :: _, [], _, h => by cases h
  | a :: l, b :: m, h1, h2 => by
    rw [cps_cons, Bool.or_eq_false_iff] at h1 h2
    have n1 := of_decide_eq_false h1.1
    have n2 := of_decide_eq_false h2.1
    obtain rfl : a = b := by omega
    have e1 : Spec.ltCps l m = false := by simpa using h1.2
    have e2 : Spec.ltCps m l = false := by simpa using h2.2
    rw [cps_anti l m e1 e2]
/-- a is not behind b -/
theorem cps_trans : ∀ a b c : List Nat, Spec.ltCps b a = false → Spec.ltCps c b = false → Spec.ltCps c a = false
  | [], _, c, _, _ => cps_nil_r c
  | a :: l, [], _, h1, _ => by cases h1
  | a :: l, b :: m, [], _, h2 => by cases h2
  | a :: l, b :: m, c :: n, h1, h2 => by
    rw [cps_cons, Bool.or_eq_false_iff] at h1 h2 ⊢
    have n1 := of_decide_eq_false h1.1
    have n2 := of_decide_eq_false h2.1
    refine ⟨decide_eq_false (by omega), ?_⟩
    by_cases e : c = a
    · subst e
      obtain rfl : c = b := by omega
      have e1 : Spec.ltCps m l = false := by simpa using h1.2
      have e2 : Spec.ltCps n m = false := by simpa using h2.2
      rw [cps_trans l m n e1 e2, Bool.and_false]
    · have : (c == a) = false := beq_eq_false_iff_ne.mpr e
      rw [this, Bool.false_and]
def leS (a b : Str) : Prop := Spec.ltCps b.cps.toList a.cps.toList = false
theorem rising_pair : ∀ (l : List Str) (p : Str), risingS p l = true → (∀ q ∈ l, leS p q) ∧ l.Pairwise leS
  | [], _, _ => ⟨fun _ h => (by cases h), List.Pairwise.nil⟩
  | x :: r, p, h => by
    rw [risingS, Bool.and_eq_true] at h
    obtain ⟨h1, h2⟩ := rising_pair r x h.2
    have hx : leS p x := by
      have := h.1
      unfold leS
      simpa using this
    refine ⟨fun q hq => ?_, .cons h1 h2⟩
    rcases List.mem_cons.mp hq with rfl | hq
    · exact hx
    · exact cps_trans _ _ _ hx (h1 q hq)
theorem sorted_pair {l : List Str} (h : sortedS l = true) : l.Pairwise leS := by
  cases l with
  | nil => exact .nil
  | cons p r =>
    obtain ⟨h1, h2⟩ := rising_pair r p h
    exact .cons h1 h2
theorem sort_one {l m : List Str} (p : l.Perm m) (h1 : sortedS l = true) (h2 : sortedS m = true) : l = m :=
  List.Perm.eq_of_pairwise (le := leS) (fun a b _ _ x y => by
    obtain ⟨a⟩ := a
    obtain ⟨b⟩ := b
    have e := cps_anti _ _ y x
    exact congrArg Str.mk (Array.ext' e)) (sorted_pair h1) (sorted_pair h2) p
def leB (a b : Str) : Bool := !Spec.ltCps b.cps.toList a.cps.toList
/-- a row of texts in order -/
def sortS (l : List Str) : List Str := l.mergeSort leB
theorem sortS_perm (l : List Str) : (sortS l).Perm l := List.mergeSort_perm l leB
theorem sortS_sorted (l : List Str) : sortedS (sortS l) = true := by
  let le : Str → Str → Bool := leB
  have tr : ∀ a b c : Str, le a b = true → le b c = true → le a c = true := fun a b c x y => by
    have := cps_trans a.cps.toList b.cps.toList c.cps.toList (by simpa [le, leB] using x) (by simpa [le, leB] using y)
    simpa [le, leB] using this
  have tot : ∀ a b : Str, (le a b || le b a) = true := fun a b => by
    cases e : Spec.ltCps b.cps.toList a.cps.toList with
    | false => simp [le, leB, e]
    | true =>
      have : Spec.ltCps a.cps.toList b.cps.toList = false := by
        have go : ∀ x y : List Nat, Spec.ltCps x y = true → Spec.ltCps y x = false := fun x => by
          induction x with
          | nil => exact fun y _ => cps_nil_r y
          | cons i x ih =>
            intro y h
            cases y with
            | nil => cases h
            | cons j y =>
              rw [cps_cons] at h ⊢
              rw [Bool.or_eq_true] at h
              rcases h with h | h
              · have := of_decide_eq_true h
                rw [decide_eq_false (by omega), beq_eq_false_iff_ne.mpr (by omega)]
                rfl
              · rw [Bool.and_eq_true] at h
                have ij : i = j := by simpa using h.1
                subst ij
                rw [ih y h.2, decide_eq_false (by omega), Bool.and_false]
                rfl
        exact go _ _ e
      simp [le, leB, this]
  refine sortedS_of_pairwise _ ?_
  have := List.pairwise_mergeSort (le := le) tr tot l
  exact this.imp fun {a b} h => by simpa [le, leB] using h
theorem sort_eq {l m : List Str} (p : l.Perm m) (h : sortedS l = true) : l = sortS m := sort_one (p.trans (sortS_perm m).symm) h (sortS_sorted m)

end
end My
set_option Elab.async false
set_option linter.all false
set_option maxRecDepth 100000
set_option maxHeartbeats 400000
namespace My
open PySem L2 PySem.Spec PyProof.Rows
section
variable {P : Program} {w : World} {K : PySem.W.Frag} {mg : Str → Option Value} {base : Heap}
theorem told_len : ∀ i : Nat, i < 61 → ((Str.empty ++ (Str.ofString "wrong row of a table: ")) ++ Str.ofString (toString (i : Int))).length ≤ sizeLine := by decide +kernel
def sp_btinit (C : Addr) : Sp := fun vs H Q _ => ∃ (a : Addr) (v : V), vs = [.ref a, v] ∧ (v = .non ∨ ∃ i : Nat, v = .int (i : Int) ∧ i < 61) ∧ H a = some (exo a C none) ∧ ∀ dx : Addr, H dx = none → dx ≠ a → Q .non (upd (upd H dx (exd dx [("number", v)])) a (exo a C (some dx)))
theorem ok_BadTable_init (T : Txt K mg) : FnOk P w K mg base CX0 1 T.a_BadTable_init T.d_BadTable_init ["self", "number"] (sp_btinit T.c_BadTable) := by

  refine T.F_BadTable_init.ok sc_BadTable_init (fun vs H Q E h => ?_) (fun cdv A outer s H vs Q E hr h => ?_)
  · obtain ⟨a, v, rfl, _⟩ := h
    rfl
  obtain ⟨a, v, rfl, hv, he, k⟩ := h
  refine ⟨_, (pss_cons (ps_expr (pe_baseinit (by rfl) T.m_SieveError T.r_SieveError T.i_SieveError (pa_cons (pv 0) (pa_cons (pe_joined (.cons pe_str (.cons (pe_fmtN (pv 1)) .nil))) pa_nil))))
    (pss_one (ps_ost (pv 0) (pv 1)))), ?_⟩
  refine ⟨_, rfl, ?_⟩
  have next : ∃ y : Str, (v = .non ∧ y = "None" ∨ ∃ i : Nat, v = .int (i : Int) ∧ y = Str.ofString (toString (i : Int)) ∧ i < 61) ∧ ((Str.empty ++ (Str.ofString "wrong row of a table: ")) ++ y).length ≤ sizeLine := by
    rcases hv with rfl | ⟨i, rfl, hi⟩
    · exact ⟨_, .inl ⟨rfl, rfl⟩, by decide +kernel⟩
    · exact ⟨_, .inr ⟨i, rfl, rfl, hi⟩, told_len i hi⟩
  obtain ⟨y, hy, room⟩ := next
  refine ⟨_, rfl, (by decide +kernel), ⟨_, rfl, ?_⟩⟩
  have rest : ∀ z : V, ∃ a_1 C ws, [V.ref a, z] = V.ref a_1 :: ws ∧ ws.length ≤ 1000 ∧ OexC K C ∧ H a_1 = some (exo a_1 C none) ∧
      (tOst K "number" (tVar 0) (tVar 1) { nx := fun x H' => Q V.non H', rt := Q }) (L2.start [("self" : Str), "number"] [V.ref a, v]) H := fun z =>
    ⟨a, T.c_BadTable, [z], rfl, (by show 1 ≤ 1000; decide), T.x_BadTable, he, ⟨_, rfl, _, rfl, a, T.c_BadTable, rfl, T.x_BadTable, T.xn_BadTable, .inl ⟨he, fun dx n ne => k dx n ne⟩⟩⟩
  rcases hy with ⟨rfl, rfl⟩ | ⟨i, rfl, rfl, hi⟩
  · exact .inl ⟨rfl, _, rfl, room, rest _⟩
  · refine .inr (.inr ⟨_, rfl, ?_, _, rfl, room, rest _⟩)
    have : (i : Int).natAbs.log2 < 1920 := by
      show i.log2 < 1920
      exact Nat.lt_trans (PySem.Flt.log2_lt_of (k := 6) (by decide) (by omega)) (by decide)
    exact this

end
end My
set_option Elab.async false
set_option linter.all false
set_option maxRecDepth 100000
set_option maxHeartbeats 400000
namespace My
open PySem L2 PySem.Spec PyProof.Rows
section
variable {P : Program} {w : World} {K : PySem.W.Frag} {mg : Str → Option Value} {base : Heap}
/-! ### columns -/
def asD (kvs : List (Key × V)) : List (Str × Bool) := kvs.filterMap fun p => match p with | (.inr s, .str k) => some (s, k == ("number" : Str)) | _ => none
def kvsOf (as : List (Str × Bool)) : List (Key × V) := as.map fun p => (Sum.inr p.1, kindV p.2)
theorem kvs_as : ∀ {kvs : List (Key × V)}, (kvs.all fun p => nameD (keyD p.1) && kindW p.2) = true → kvs = kvsOf (asD kvs) ∧ keysS kvs = (asD kvs).map Prod.fst ∧ (asD kvs).length = kvs.length
  | [], _ => ⟨rfl, rfl, rfl⟩
  | (k, v) :: r, h => by
    rw [List.all_cons, Bool.and_eq_true, Bool.and_eq_true] at h
    obtain ⟨e1, e2, e3⟩ := kvs_as h.2
    cases k with
    | inl i => cases h.1.1
    | inr s =>
      cases v with
      | str x =>
        have e : asD ((.inr s, .str x) :: r) = (s, x == ("number" : Str)) :: asD r := rfl
        have hv : V.str x = kindV (x == ("number" : Str)) := by
          have hw : (x == ("number" : Str) || x == ("text" : Str)) = true := h.1.2
          cases c : (x == ("number" : Str)) with
          | true =>
            rw [eq_of_beq c]
            rfl
          | false =>
            rw [c, Bool.false_or] at hw
            rw [eq_of_beq hw]
            rfl
        rw [e]
        refine ⟨?_, ?_, by rw [List.length_cons, List.length_cons, e3]⟩
        · show _ = ((Sum.inr s : Key), kindV _) :: kvsOf (asD r)
          rw [← e1, ← hv]
        · show s :: keysS r = s :: _
          rw [e2]
      | _ => cases h.1.2
theorem keys_kvs (as : List (Str × Bool)) : (kvsOf as).map (fun x => x.1) = (as.map Prod.fst).map Sum.inr := by
  unfold kvsOf
  rw [List.map_map, List.map_map]
  rfl
def askOf (as : List (Str × Bool)) (n : Str) : Option Bool := (as.find? fun p => decide (p.1 = n)).map Prod.snd
theorem askOf_val (as : List (Str × Bool)) (n : Str) : valV (kvsOf as) (Sum.inr n) = (askOf as n).map kindV := by
  induction as with
  | nil => rfl
  | cons p as ih =>
    unfold askOf at ih ⊢
    by_cases e : p.1 = n
    · have e1 : valV (kvsOf (p :: as)) (Sum.inr n) = some (kindV p.2) := valV_pos (congrArg Sum.inr e)
      rw [e1, List.find?_cons_of_pos (by simpa using e)]
      rfl
    · have e1 : valV (kvsOf (p :: as)) (Sum.inr n) = valV (kvsOf as) (Sum.inr n) := valV_neg (fun z => e (Sum.inr.inj z))
      rw [e1, ih, List.find?_cons_of_neg (by simpa using e)]
/-- what is asked, in order -/
def sortA (as : List (Str × Bool)) : List (Str × Bool) := (sortS (as.map Prod.fst)).map fun n => (n, (askOf as n).getD false)
theorem askOf_mem {as : List (Str × Bool)} {n : Str} (h : n ∈ as.map Prod.fst) : ∃ b, askOf as n = some b := by
  induction as with
  | nil => cases h
  | cons p as ih =>
    unfold askOf at ih ⊢
    by_cases e : p.1 = n
    · exact ⟨p.2, by rw [List.find?_cons_of_pos (by simpa using e)]; rfl⟩
    · rw [List.find?_cons_of_neg (by simpa using e)]
      rw [List.map_cons, List.mem_cons] at h
      exact ih (h.resolve_left (Ne.symm e))
/-- an instance of the class: its three parts -/
def ColsAt (K : PySem.W.Frag) (C : Addr) (H : Hp) (p : Addr) (hs : List Str) (as : List (Str × Bool)) (ss : List Str) : Prop := ∃ dx t D u, H p = some (.ins C dx [("hashed", .ref t), ("_asked", .ref D), ("summed", .ref u)]) ∧ TupN H t (hs.map V.str) ∧ H D = some (.dK (kvsOf as)) ∧ SqT K H u (ss.map V.str)
theorem ColsAt.same {K : PySem.W.Frag} {C : Addr} {H H' : Hp} {p : Addr} {hs : List Str} {as : List (Str × Bool)} {ss : List Str} (g : Same H H') (h : ColsAt K C H p hs as ss) : ColsAt K C H' p hs as ss := by
  obtain ⟨dx, t, D, u, h1, h2, h3, h4⟩ := h
  obtain ⟨o, nd, h2⟩ := h2
  exact ⟨dx, t, D, u, g _ _ h1, ⟨o, nd, g _ _ h2⟩, g _ _ h3, Same.tup g h4⟩
def asA : DicA → List (Str × Bool)
  | .oth _ => []
  | .dic kvs => asD kvs
/-- what holds of parts that are taken -/
structure ColsOk (hs : List Str) (as : List (Str × Bool)) (ss : List Str) : Prop where
  nh : ∀ n ∈ hs, nameB n = true
  na : ∀ n ∈ as.map Prod.fst, nameB n = true
  ns : ∀ n ∈ ss, nameB n = true
  nda : (as.map Prod.fst).Nodup
  lh : hs.length ≤ 2
  la : as.length ≤ 4
  ls : ss.length ≤ 2
theorem dc_list {K : PySem.W.Frag} {a : Addr} {xs : List V} {g : TG} {tt : TT} {tk tv : TE} {vs : List Nat} {σ : L2.St} {H1 : Hp} {D : Addr} {Qd : Hp → Prop} (Pv : Nat → Hp → Prop) (h0 : Pv 0 (upd H1 D (.dK []))) (hl : ∀ i H, Pv i H → SqL K H a xs)
    (hs : ∀ i x H, xs[i]? = some x → Pv i H → g x (wipe σ vs) H fun σ2 H2 => wipe σ2 vs = wipe σ vs ∧ tt σ2 H2 fun b H3 =>
      if b = true then tk σ2 H3 fun y H4 => tv σ2 H4 fun z H5 => ∃ kvs k, y = kV k ∧ H5 D = some (.dK kvs) ∧ kvs.length < sizeLine ∧ Pv (i + 1) (upd H5 D (.dK (putK kvs k z))) else Pv (i + 1) H3) (hd : ∀ H, Pv xs.length H → Qd H) :
    ∃ W : Nat → Nat → Hp → Prop, (∃ m, W 0 m (upd H1 D (.dK []))) ∧ ∀ i m H, W i m H →
      ((Itl K a).stop i H ∧ Qd H) ∨ ((Itl K a).go i H ∧ ∃ Nx : Hp → Prop, (∀ H', Nx H' → ∃ m', m' < m ∧ W (i + 1) m' H') ∧ ∀ x H', (Itl K a).yld i H x H' → g x (wipe σ vs) H' fun σ2 H2 => wipe σ2 vs = wipe σ vs ∧ tt σ2 H2 fun b H3 =>
        if b = true then tk σ2 H3 fun y H4 => tv σ2 H4 fun z H5 => ∃ kvs k, y = kV k ∧ H5 D = some (.dK kvs) ∧ kvs.length < sizeLine ∧ Nx (upd H5 D (.dK (putK kvs k z))) else Nx H3) := by
  refine ⟨fun i m H => i + m = xs.length ∧ Pv i H, ⟨xs.length, by simp, h0⟩, fun i m H w => ?_⟩
  obtain ⟨e, p⟩ := w
  have q := hl i H p
  cases m with
  | zero =>
    obtain rfl : i = xs.length := by omega
    exact .inl ⟨⟨xs, q, Nat.le_refl _⟩, hd H p⟩
  | succ m =>
    have lt : i < xs.length := by omega
    refine .inr ⟨⟨xs, xs[i], q, List.getElem?_eq_getElem lt⟩, Pv (i + 1), fun H' z => ⟨m, Nat.lt_succ_self _, by omega, z⟩, fun x H' y => ?_⟩
    obtain ⟨rfl, y⟩ := y
    exact hs i x _ (y xs q) p
/-- a change of an object leaves a row -/
theorem sqa_put {K : PySem.W.Frag} {H : Hp} {p a C dx : Addr} {fs : List (Str × V)} {xs : List V} {o : HO} (hp : H p = some (.ins C dx fs)) (h : SqA K H a xs) : SqA K (upd H p o) a xs := by
  rcases h with ((h | ⟨q, h⟩) | h) | ((h | ⟨q, h⟩) | h)
  · refine .inl (.inl (.inl ?_))
    rw [upd_ne (ne_of h hp (by intro z; cases z))]
    exact h
  · refine .inl (.inl (.inr ⟨q, ?_⟩))
    rw [upd_ne (ne_of h hp (by intro z; cases z))]
    exact h
  · exact .inl (.inr h)
  · refine .inr (.inl (.inl ?_))
    rw [upd_ne (ne_of h hp (by intro z; cases z))]
    exact h
  · refine .inr (.inl (.inr ⟨q, ?_⟩))
    rw [upd_ne (ne_of h hp (by intro z; cases z))]
    exact h
  · exact .inr (.inr h)
theorem sqt_put {K : PySem.W.Frag} {H : Hp} {p a C dx : Addr} {fs : List (Str × V)} {xs : List V} {o : HO} (hp : H p = some (.ins C dx fs)) (h : SqT K H a xs) : SqT K (upd H p o) a xs := by
  rcases h with (h | ⟨q, h⟩) | h
  · refine .inl (.inl ?_)
    rw [upd_ne (ne_of h hp (by intro z; cases z))]
    exact h
  · refine .inl (.inr ⟨q, ?_⟩)
    rw [upd_ne (ne_of h hp (by intro z; cases z))]
    exact h
  · exact .inr h
theorem TupN.same {H H' : Hp} {a : Addr} {xs : List V} (g : Same H H') (h : TupN H a xs) : TupN H' a xs := by
  obtain ⟨o, nd, h⟩ := h
  exact ⟨o, nd, g _ _ h⟩
theorem tupn_put {H : Hp} {p a C dx : Addr} {fs : List (Str × V)} {xs : List V} {o : HO} (hp : H p = some (.ins C dx fs)) (h : TupN H a xs) : TupN (upd H p o) a xs := by
  obtain ⟨ob, nd, h⟩ := h
  refine ⟨ob, nd, ?_⟩
  rw [upd_ne (ne_of h hp (by intro z; cases z))]
  exact h
theorem but_put {H H' : Hp} {p : Addr} {o : HO} (g : But p H H') : But p H (upd H' p o) := fun b u n e => by
  rw [upd_ne n]
  exact g b u n e
theorem colsF1 (x y : V) : putF "_asked" y (putF "hashed" x []) = [(("hashed" : Str), x), (("_asked" : Str), y)] := (if_neg (by decide +kernel)).trans rfl
theorem colsF2 (x y z : V) : putF "summed" z (putF "_asked" y (putF "hashed" x [])) = [(("hashed" : Str), x), (("_asked" : Str), y), (("summed" : Str), z)] := by
  rw [colsF1]
  exact (if_neg (by decide +kernel)).trans (congrArg _ (if_neg (by decide +kernel)))
theorem look_tail {f g : Str} {v : V} {r : List (Str × V)} (h : (f == g) = false) : List.lookup f ((g, v) :: r) = List.lookup f r := by
  rw [List.lookup_cons, h]
theorem look_head {f : Str} {v : V} {r : List (Str × V)} : List.lookup f ((f, v) :: r) = some v := by
  rw [List.lookup_cons, beq_self_eq_true]
def sp_cinit (C CB : Addr) (K : PySem.W.Frag) : Sp := fun vs H Q E => ∃ (p dx : Addr) (hv av sv : V) (h : RowA) (a : DicA) (s : RowA), vs = [.ref p, hv, av, sv] ∧ H p = some (.ins C dx []) ∧ RowAt K H hv h ∧ DicAt K H av a ∧ RowAt K H sv s ∧ StrsOk h ∧ StrsOk s ∧ (∀ ds, h = .seq ds → ∃ a xs, hv = .ref a ∧ (SqL K H a xs ∨ TupN H a xs) ∧ DpAll K H xs ds) ∧
  (wrongR h a s = none → ∀ H', But p H H' → ColsAt K C H' p (strsA h) (sortA (asA a)) (strsA s) → ColsOk (strsA h) (sortA (asA a)) (strsA s) → Q .non H') ∧
  (∀ w, wrongR h a s = some w → ∀ (dx : Addr) (H' : Hp), Same H H' → H' dx = some (.xd [("part", .str w)]) → E (.ref CB) (some dx) H')
theorem wrong_none {h : RowA} {a : DicA} {s : RowA} (e : wrongR h a s = none) : ∃ d1 kvs d3, h = .seq d1 ∧ a = .dic kvs ∧ s = .seq d3 ∧ d1.length ≤ 2 ∧ kvs.length ≤ 4 ∧ d3.length ≤ 2 ∧ (d1.all nameD) = true ∧ (kvs.all fun p => nameD (keyD p.1) && kindW p.2) = true ∧ (d3.all nameD) = true := by
  unfold wrongR at e
  cases c1 : namesR 2 h with
  | false =>
    rw [if_pos c1] at e
    cases e
  | true =>
  rw [if_neg (by rw [c1]; exact Bool.noConfusion)] at e
  cases c2 : askedR a with
  | false =>
    rw [if_pos c2] at e
    cases e
  | true =>
  rw [if_neg (by rw [c2]; exact Bool.noConfusion)] at e
  cases c3 : namesR 2 s with
  | false =>
    rw [if_pos c3] at e
    cases e
  | true =>
  obtain ⟨d1, rfl, l1, al1, _⟩ := names_of c1
  obtain ⟨kvs, rfl, l2, al2⟩ := asked_of c2
  obtain ⟨d3, rfl, l3, al3, _⟩ := names_of c3
  exact ⟨d1, kvs, d3, rfl, rfl, rfl, by omega, l2, by omega, al1, al2, al3⟩
theorem strs_name {ds : List PyData} (h : (ds.all nameD) = true) : ∀ n ∈ strsD ds, nameB n = true := fun n hn => by
  obtain ⟨d, hd, e⟩ := List.mem_filterMap.mp hn
  have := List.all_eq_true.mp h d hd
  cases d with
  | str s =>
    cases e
    exact this
  | _ => cases e
theorem keys_name {kvs : List (Key × V)} (h : (kvs.all fun p => nameD (keyD p.1) && kindW p.2) = true) : ∀ n ∈ keysS kvs, nameB n = true := fun n hn => by
  obtain ⟨d, hd, e⟩ := List.mem_filterMap.mp hn
  have := List.all_eq_true.mp h d hd
  rw [Bool.and_eq_true] at this
  obtain ⟨k, v⟩ := d
  cases k with
  | inr s =>
    cases e
    exact this.1
  | inl i => cases e
theorem name_cps {n : Str} (h : nameB n = true) : 1 ≤ n.length ∧ n.length ≤ 8 ∧ PyData.strOk n = true := by
  unfold nameB at h
  rw [Bool.and_eq_true, Bool.and_eq_true, Bool.and_eq_true] at h
  refine ⟨of_decide_eq_true h.1.1.1, of_decide_eq_true h.1.1.2, ?_⟩
  unfold PyData.strOk
  rw [← Array.all_toList, List.all_eq_true]
  intro c hc
  have := of_decide_eq_true (List.all_eq_true.mp h.2 c hc)
  have all_ : ∀ c ∈ letL.cps.toList, c < 1114112 := by decide +kernel
  exact decide_eq_true (all_ c this)

end
end My
set_option Elab.async false
set_option linter.all false
set_option maxRecDepth 100000
set_option maxHeartbeats 400000
namespace My
open PySem L2 PySem.Spec PyProof.Rows
section
variable {P : Program} {w : World} {K : PySem.W.Frag} {mg : Str → Option Value} {base : Heap}
theorem take_more' {α : Type} {l : List α} {i : Nat} {x : α} (h : l[i]? = some x) : l.take (i + 1) = l.take i ++ [x] := by
  rw [List.take_add_one, h]
  rfl
theorem sorted_nd {as : List (Str × Bool)} (h : (as.map Prod.fst).Nodup) : ((sortA as).map Prod.fst).Nodup := by
  unfold sortA
  rw [List.map_map]
  have : (Prod.fst ∘ fun n => ((n, (askOf as n).getD false) : Str × Bool)) = id := rfl
  rw [this, List.map_id]
  exact (sortS_perm _).nodup_iff.mpr h
theorem sorted_fst (as : List (Str × Bool)) : (sortA as).map Prod.fst = sortS (as.map Prod.fst) := by
  unfold sortA
  rw [List.map_map]
  have : (Prod.fst ∘ fun n => ((n, (askOf as n).getD false) : Str × Bool)) = id := rfl
  rw [this, List.map_id]
theorem sorted_len (as : List (Str × Bool)) : (sortA as).length = as.length := by
  rw [sortA, List.length_map, (sortS_perm _).length_eq, List.length_map]
theorem putK_new (kvs : List (Key × V)) (k : Key) (v : V) (h : k ∉ kvs.map Prod.fst) : putK kvs k v = kvs ++ [(k, v)] := by
  have n : ¬ (kvs.any fun kv => decide (kv.1 = k)) = true := fun e => by
    obtain ⟨x, hx, e⟩ := List.any_eq_true.mp e
    exact h (List.mem_map.mpr ⟨x, hx, of_decide_eq_true e⟩)
  rw [putK, if_neg n]
/-- tuple(x), x a list or a tuple -/
def rTupA (K : PySem.W.Frag) : List V → Hp → VK → Prop := fun xs H Q => ∃ p ys, xs = [V.ref p] ∧ SqA K H p ys ∧ ∀ t H2, Same H H2 → SqT K H2 t ys → Q (.ref t) H2
theorem call_tupA {X : Cx} : CallR X (.type "tuple") (rTupA X.K) := fun pins s σ H xs us Q I r want => call_tuple_of pins s σ H xs us Q I r (by
  obtain ⟨p, ys, e, h, k⟩ := want
  rcases h with h | h
  · exact ⟨p, ys, e, .inl ⟨h, fun l hl => k l _ (same_new hl _) (SqT.of upd_same)⟩⟩
  · exact ⟨p, ys, e, .inr ⟨h, k p H (Same.refl _) h⟩⟩)
theorem ok_Columns_init (T : Txt K mg) : FnOk P w K mg base (L2.CX P w) 4 T.a_Columns_init T.d_Columns_init ["self", "hashed", "asked", "summed"] (sp_cinit T.c_Columns T.c_BadColumns K) := by
  have G_wrong_part := ok_wrong_part (P := P) (w := w) (base := base) T
  have G_BadColumns_init := ok_BadColumns_init (P := P) (w := w) (base := base) T
  refine T.F_Columns_init.okX sc_Columns_init (fun vs H Q E h => ?_) (fun cdv A outer s H vs Q E hr h => ?_)
  · obtain ⟨p, dx, hv, av, sv, h, a, s, rfl, _⟩ := h
    rfl
  obtain ⟨p, dx, hv, av, sv, h, a, sm, rfl, hp, q1, q2, q3, o1, o3, tn, kQ, kE⟩ := h
  refine ⟨_, (pss_cons (ps_set (i := 4) sc_Columns_init.nd rfl (by first | exact Or.inl rfl | exact Or.inr rfl) (pe_call G_wrong_part (hr.mono (by first | decide | omega)) (by rfl) T.m_wrong_part T.F_wrong_part.kp T.b_wrong_part .nil pass0 (pa_cons (pv 1) (pa_cons (pv 2) (pa_cons (pv 3) pa_nil)))))
    (pss_cons (ps_if (pt_cmpR op_notN (pv 4) pe_non (nomark _)) (pss_one (ps_raise rfl (takes_of rfl rfl rfl rfl) (pmk_oex T.x_BadColumns T.xi_BadColumns T.xt_BadColumns G_BadColumns_init (hr.mono (by first | decide | omega)) T.b_BadColumns_init .nil pass0 (by rfl) T.m_BadColumns (pa_cons (pv 4) pa_nil)))) pss_nil)
    (pss_cons (ps_fld (pv 0) (pe_callTy call_tupN (by rfl) T.z_tuple (by decide +kernel) (pa_cons (pv 1) pa_nil)) rfl)
    (pss_cons (ps_fld (pv 0) (pe_dc (own := [("name", 5)]) rfl sc_Columns_init.nd (pi_list (pe_callB (call_sortedD rfl) (by rfl) T.z_sorted (by decide +kernel) (pa_cons (pv 2) pa_nil))) (blkOk_by (own := [("name", 5)]) (N := ["self", "hashed", "asked", "summed", "part", "name"]) (sc := defScope s_Columns_init) (by decide +kernel)) (fun _ _ _ _ _ => (pg_name (i := 5) sc_Columns_init.nd rfl (by first | exact Or.inl rfl | exact Or.inr rfl))) (fun _ _ _ _ _ => pts_nil) (fun _ _ _ _ _ => (pv 5)) (fun _ _ _ _ _ => (pe_dget (hu_of hr) (pv 2) (pv 5) (fun _ _ => rfl)))) rfl)
    (pss_one (ps_fld (pv 0) (pe_callTy call_tupA (by rfl) T.z_tuple (by decide +kernel) (pa_cons (pv 3) pa_nil)) rfl)))))), ?_⟩
  refine ⟨_, rfl, _, rfl, _, rfl, hv, av, sv, h, a, sm, rfl, q1, q2, q3, o1, o3, fun H1 g1 => ?_⟩
  cases ew : wrongR h a sm with
  | some bad =>
    refine ⟨_, rfl, rfl, _, rfl, iteT ?_⟩
    refine ⟨_, rfl, (by show 1 ≤ 1000; decide), fun e he => ⟨e, .str bad, rfl, upd_same, fun dx hdx ne => ⟨rfl, dx, [("part", .str bad)], upd_same, ?_, ?_, ?_⟩⟩⟩
    · rw [upd_ne ne]
      exact upd_same
    · rw [upd_ne ne] at hdx
      exact hdx
    · rw [upd_ne ne] at hdx
      refine kE bad ew dx _ (fun b o hb => ?_) upd_same
      have hb2 := g1 b o hb
      have n1 : b ≠ dx := ne_of_none hb2 hdx
      have n2 : b ≠ e := ne_of_none hb2 he
      rw [upd_ne n1, del_ne n2, upd_ne n2, upd_ne n1, upd_ne n2]
      exact hb2
  | none =>
  have kQ := kQ ew
  obtain ⟨d1, kvs, d3, rfl, rfl, rfl, l1, l2, l3, al1, al2, al3⟩ := wrong_none ew
  obtain ⟨h, xs1, rfl, s1, dp1⟩ := tn d1 rfl
  obtain ⟨ex1, n1⟩ := strs_of dp1 al1
  subst ex1
  obtain ⟨sm, rfl, s3, n3⟩ := seq_at q3 al3
  obtain ⟨a, rfl, s2, kok⟩ := q2
  obtain ⟨ekv, eks, elen⟩ := kvs_as al2
  have nda : ((asD kvs).map Prod.fst).Nodup := by
    have := kok.nd
    rw [ekv] at this
    have e : (kvsOf (asD kvs)).map Prod.fst = ((asD kvs).map Prod.fst).map Sum.inr := keys_kvs _
    rw [e] at this
    exact (List.pairwise_map.mp this).imp fun h e => h (congrArg Sum.inr e)
  have sh : strsA (.seq d1) = strsD d1 := rfl
  have ss_ : strsA (.seq d3) = strsD d3 := rfl
  have sa : asA (.dic kvs) = asD kvs := rfl
  rw [sh, ss_, sa] at kQ
  have nh := strs_name al1
  have ns := strs_name al3
  have nk := keys_name al2
  rw [eks] at nk
  rw [ekv] at s2
  have la : (asD kvs).length ≤ 4 := by omega
  have lh : (strsD d1).length ≤ 2 := by omega
  have ls : (strsD d3).length ≤ 2 := by omega
  generalize strsD d1 = hs at *
  generalize strsD d3 = ss at *
  generalize asD kvs = as at *
  refine ⟨_, rfl, rfl, _, rfl, ?_⟩
  refine iteF ?_
  have hp1 := g1 _ _ hp
  have hq1 : SqL K H1 h (hs.map V.str) ∨ TupN H1 h (hs.map V.str) := s1.elim (fun z => .inl (g1.seq z)) fun z => .inr (z.same g1)
  have hq2 := g1 _ _ s2
  have hq3 := s3.same g1
  have na : a ≠ p := ne_of s2 hp (by intro z; cases z)
  -- self.hashed = tuple(hashed)
  refine ⟨_, rfl, h, _, rfl, hq1, fun t H2 g2 t2 => ?_⟩
  refine ⟨_, rfl, p, T.c_Columns, dx, [], rfl, g2 _ _ hp1, T.cl_Columns, T.n_Columns_hashed, (by decide), ?_⟩
  have p2 := g2 _ _ hp1
  have b3 := but_put (o := .ins T.c_Columns dx (putF "hashed" (.ref t) [])) (Same.but (d := p) (g1.trans g2))
  have t3 : TupN (upd H2 p (.ins T.c_Columns dx (putF "hashed" (.ref t) []))) t (hs.map V.str) := tupn_put p2 t2
  have p3 : upd H2 p (.ins T.c_Columns dx (putF "hashed" (.ref t) [])) p = some (.ins T.c_Columns dx (putF "hashed" (.ref t) [])) := upd_same
  have a3 := b3 _ _ na s2
  have s3' : SqA K (upd H2 p (.ins T.c_Columns dx (putF "hashed" (.ref t) []))) sm (ss.map V.str) := sqa_put p2 (hq3.same g2)
  generalize upd H2 p (.ins T.c_Columns dx (putF "hashed" (.ref t) [])) = H3 at *
  -- self._asked = {name: asked[name] for name in sorted(asked)}
  refine ⟨_, rfl, a, kvsOf as, as.map Prod.fst, rfl, Rd.of a3, keys_kvs as, (by rw [List.length_map]; omega), fun ys l pe so hl => ?_⟩
  obtain rfl := sort_eq pe so
  refine ⟨l, rfl, ⟨_, SqL.of upd_same⟩, fun D hD => ?_⟩
  have g4 := same_new hl (.lst ((sortS (as.map Prod.fst)).map V.str))
  have l4 : SqL K (upd H3 l (.lst ((sortS (as.map Prod.fst)).map V.str))) l ((sortS (as.map Prod.fst)).map V.str) := SqL.of upd_same
  have b4 := b3.same g4
  have a4 := g4 _ _ a3
  have t4 := t3.same g4
  have p4 := g4 _ _ p3
  have s4 := s3'.same g4
  generalize upd H3 l (.lst ((sortS (as.map Prod.fst)).map V.str)) = H4 at *
  have ndy : (sortS (as.map Prod.fst)).Nodup := pe.nodup_iff.mpr nda
  have ly : (sortS (as.map Prod.fst)).length ≤ 4 := by
    rw [pe.length_eq, List.length_map]
    exact la
  have lA : (sortA as).length = (sortS (as.map Prod.fst)).length := by rw [sortA, List.length_map]
  refine dc_list (K := K) (a := l) (xs := (sortS (as.map Prod.fst)).map V.str) (fun i H' => Same H4 H' ∧ H' D = some (.dK (kvsOf ((sortA as).take i)))) ⟨same_new hD _, upd_same⟩ (fun i H' z => z.1.seq l4) ?_ ?_
  · rintro i x H' hx ⟨g, e⟩
    rw [List.getElem?_map] at hx
    obtain ⟨n, hi, rfl⟩ := Option.map_eq_some_iff.mp hx
    have mem := pe.mem_iff.mp (List.mem_of_getElem? hi)
    obtain ⟨b, hb⟩ := askOf_mem mem
    have hv := askOf_val as n
    rw [hb] at hv
    have hli : i < (sortS (as.map Prod.fst)).length := (List.getElem?_eq_some_iff.mp hi).1
    have hA : (sortA as)[i]? = some (n, b) := by
      unfold sortA
      rw [List.getElem?_map, hi]
      show some (n, (askOf as n).getD false) = _
      rw [hb]
      rfl
    have tk := take_more' hA
    have nodup : (((sortA as).take i ++ [(n, b)]).map Prod.fst).Nodup := by
      rw [← tk]
      exact ((List.take_sublist _ _).map Prod.fst).nodup (sorted_nd nda)
    have fresh : (Sum.inr n : Key) ∉ (kvsOf ((sortA as).take i)).map Prod.fst := fun z => by
      have e : (kvsOf ((sortA as).take i)).map Prod.fst = (((sortA as).take i).map Prod.fst).map Sum.inr := keys_kvs _
      rw [e] at z
      obtain ⟨m, hm, em⟩ := List.mem_map.mp z
      cases em
      rw [List.map_append, List.nodup_append] at nodup
      exact nodup.2.2 n hm n (by simp) rfl
    refine ⟨rfl, _, rfl, _, rfl, _, rfl, a, kindV b, rfl, .inl ⟨kvsOf as, Sum.inr n, Rd.of (g _ _ a4), rfl, hv.symm⟩, _, Sum.inr n, rfl, e, ?_, same_upd g hD, ?_⟩
    · unfold kvsOf
      rw [List.length_map, List.length_take]
      exact small1000 (by omega)
    · rw [upd_same, putK_new _ _ _ fresh, tk]
      unfold kvsOf
      rw [List.map_append]
      rfl
  · rintro H' ⟨g, e⟩
    rw [List.length_map, ← lA, List.take_of_length_le (Nat.le_refl _)] at e
    have p5 := g _ _ p4
    refine ⟨_, rfl, p, T.c_Columns, dx, _, rfl, p5, T.cl_Columns, T.n_Columns__asked, (by show (1 : Nat) < 1000; decide), ?_⟩
    have b5 := but_put (o := .ins T.c_Columns dx (putF "_asked" (.ref D) (putF "hashed" (.ref t) []))) (b4.same g)
    have nD : D ≠ p := fun z => by
      rw [z, p4] at hD
      cases hD
    have d5 : upd H' p (.ins T.c_Columns dx (putF "_asked" (.ref D) (putF "hashed" (.ref t) []))) D = some (.dK (kvsOf (sortA as))) := by rw [upd_ne nD]; exact e
    have t5 : TupN (upd H' p (.ins T.c_Columns dx (putF "_asked" (.ref D) (putF "hashed" (.ref t) [])))) t (hs.map V.str) := tupn_put p5 (t4.same g)
    have s5 : SqA K (upd H' p (.ins T.c_Columns dx (putF "_asked" (.ref D) (putF "hashed" (.ref t) [])))) sm (ss.map V.str) := sqa_put p5 (s4.same g)
    have p6 : upd H' p (.ins T.c_Columns dx (putF "_asked" (.ref D) (putF "hashed" (.ref t) []))) p = some (.ins T.c_Columns dx (putF "_asked" (.ref D) (putF "hashed" (.ref t) []))) := upd_same
    generalize upd H' p (.ins T.c_Columns dx (putF "_asked" (.ref D) (putF "hashed" (.ref t) []))) = H6 at *
    -- self.summed = tuple(summed)
    refine ⟨_, rfl, sm, _, rfl, s5, fun u H7 gu u7 => ?_⟩
    refine ⟨_, rfl, p, T.c_Columns, dx, _, rfl, gu _ _ p6, T.cl_Columns, T.n_Columns_summed, (by rw [colsF1]; show (2 : Nat) < 1000; decide), ?_⟩
    have p7 := gu _ _ p6
    refine kQ _ (but_put (b5.same gu)) ⟨dx, t, D, u, ?_, tupn_put p7 (t5.same gu), ?_, sqt_put p7 u7⟩ ⟨nh, fun n hn => nk n (pe.mem_iff.mp (by rw [← sorted_fst]; exact hn)), ns, sorted_nd nda, lh, by rw [sorted_len]; exact la, ls⟩
    · rw [upd_same, colsF2]
    · rw [upd_ne nD]
      exact gu _ _ d5

end
end My
set_option Elab.async false
set_option linter.all false
set_option maxRecDepth 100000
set_option maxHeartbeats 400000
namespace My
open PySem L2 PySem.Spec PyProof.Rows
section
variable {P : Program} {w : World} {K : PySem.W.Frag} {mg : Str → Option Value} {base : Heap}
theorem small1001 {n : Nat} (h : n ≤ 1010) : n < sizeLine := Nat.lt_of_le_of_lt h (by decide)
theorem hu64' {A : Around} {k : Nat} (hr : Room k A) : A.units < cLine := by
  have := hr.un
  omega
theorem look3 {v1 v2 v3 : V} : List.lookup ("hashed" : Str) [(("hashed" : Str), v1), (("_asked" : Str), v2), (("summed" : Str), v3)] = some v1 ∧ List.lookup ("_asked" : Str) [(("hashed" : Str), v1), (("_asked" : Str), v2), (("summed" : Str), v3)] = some v2 ∧ List.lookup ("summed" : Str) [(("hashed" : Str), v1), (("_asked" : Str), v2), (("summed" : Str), v3)] = some v3 :=
  ⟨look_head, (look_tail (by decide +kernel)).trans look_head, (look_tail (by decide +kernel)).trans ((look_tail (by decide +kernel)).trans look_head)⟩
def sp_casked (C : Addr) (K : PySem.W.Frag) : Sp := fun vs H Q _ => ∃ (p : Addr) (hs : List Str) (as : List (Str × Bool)) (ss : List Str), vs = [.ref p] ∧ ColsAt K C H p hs as ss ∧ ∀ q : Addr, H q = none → Q (.ref q) (upd H q (.dK (kvsOf as)))
theorem ok_Columns_asked (T : Txt K mg) : FnOk P w K mg base CX0 1 T.a_Columns_asked T.d_Columns_asked ["self"] (sp_casked T.c_Columns K) := by
  refine T.F_Columns_asked.ok sc_Columns_asked (fun vs H Q E h => ?_) (fun cdv A outer s H vs Q E hr h => ?_)
  · obtain ⟨p, hs, as, ss, rfl, _⟩ := h
    rfl
  obtain ⟨p, hs, as, ss, rfl, ⟨dx, t, D, u, h1, h2, h3, h4⟩, k⟩ := h
  refine ⟨_, (pss_one (ps_ret (pe_callTy call_dictD (by rfl) T.z_dict (by decide +kernel) (pa_cons (pe_fld (pv 0) rfl) pa_nil)))), ?_⟩
  exact ⟨_, rfl, p, T.c_Columns, dx, _, _, rfl, h1, T.cl_Columns, T.n_Columns__asked, look3.2.1, D, _, rfl, Rd.of h3, k⟩
def catS (x y : Str) : Str := x ++ y
def kindsL (hs : List Str) : List Str := sortS (("block" : Str) :: hs.map fun n => ("key " : Str) ++ n)
def sp_kinds (C : Addr) (K : PySem.W.Frag) : Sp := fun vs H Q _ => ∃ (p : Addr) (hs : List Str) (as : List (Str × Bool)) (ss : List Str), vs = [.ref p] ∧ ColsAt K C H p hs as ss ∧ ColsOk hs as ss ∧ ∀ (q : Addr) (H' : Hp), Same H H' → H' q = some (.tup ((kindsL hs).map V.str)) → Q (.ref q) H'
theorem ok_Columns_kinds (T : Txt K mg) : FnOk P w K mg base CX0 1 T.a_Columns_kinds T.d_Columns_kinds ["self"] (sp_kinds T.c_Columns K) := by

  refine T.F_Columns_kinds.ok sc_Columns_kinds (fun vs H Q E h => ?_) (fun cdv A outer s H vs Q E hr h => ?_)
  · obtain ⟨p, hs, as, ss, rfl, _⟩ := h
    rfl
  obtain ⟨p, hs, as, ss, rfl, ⟨dx, t, D, u, h1, h2, h3, h4⟩, ok, k⟩ := h
  have h2 := h2.sq (K := K)
  refine ⟨_, (pss_one (ps_ret (pe_callTy call_tuple_of (by rfl) T.z_tuple (by decide +kernel) (pa_cons (pe_callB cr_sortedS (by rfl) T.z_sorted (by decide +kernel) (pa_cons (pe_op op_cat (pe_lst (pa_cons pe_str pa_nil)) (pe_lc (own := [("name", 1)]) rfl sc_Columns_kinds.nd (pi_tup (pe_fld (pv 0) rfl)) (blkOk_by (own := [("name", 1)]) (N := ["self", "name"]) (sc := defScope s_Columns_kinds) (by decide +kernel)) (fun _ _ _ _ _ => (pg_name (i := 1) sc_Columns_kinds.nd rfl (by first | exact Or.inl rfl | exact Or.inr rfl))) (fun _ _ _ _ _ => pts_nil) (fun _ _ _ _ _ => (pe_op op_add_str (pe_glob (v := .str "key ") (by rfl) T.m_KEY ⟨_, rfl⟩) (pv 1))))) pa_nil)) pa_nil)))), ?_⟩
  refine ⟨(by show 1 ≤ sizeLine; decide), fun l1 f1 => ?_⟩
  have g1 := same_new f1 (.lst [V.str "block"])
  have e1 : upd H l1 (.lst [V.str "block"]) l1 = some (.lst [V.str "block"]) := upd_same
  generalize upd H l1 (.lst [V.str "block"]) = H1 at *
  refine ⟨_, rfl, p, T.c_Columns, dx, _, _, rfl, g1 _ _ h1, T.cl_Columns, T.n_Columns_hashed, look3.1, t, rfl, ⟨_, Same.tup g1 h2⟩, fun D hD => ?_⟩
  have lh := ok.lh
  refine lc_it (walk_tup (xs := hs.map V.str)) (fun i H' => Same H1 H' ∧ H' D = some (.lst ((hs.take i).map fun n => V.str (("key " : Str) ++ n)))) ⟨same_new hD _, upd_same⟩ (fun i H' _ z => Same.tup z.1 (Same.tup g1 h2)) ?_ ?_
  · rintro i x H' H'' hi ⟨g, e⟩ ⟨e1, hx⟩
    subst e1
    rw [List.getElem?_map] at hx
    obtain ⟨n, hn, rfl⟩ := Option.map_eq_some_iff.mp hx
    have hl := (name_cps (ok.nh n (List.mem_of_getElem? hn))).2.1
    refine ⟨rfl, _, rfl, _, _, rfl, rfl, ?_, _, e, ?_, same_upd g hD, ?_⟩
    · refine Nat.le_of_lt (small1001 ?_)
      have e4 : (("key " : Str)).length = 4 := by decide +kernel
      rw [e4]
      omega
    · rw [List.length_map, List.length_take]
      exact small1000 (by omega)
    · rw [upd_same, take_more' hn, List.map_append]
      rfl
  · rintro H' ⟨g, e⟩
    rw [List.length_map, List.take_of_length_le (Nat.le_refl _)] at e
    refine ⟨l1, D, _, _, rfl, rfl, g _ _ e1, e, ?_, fun l2 f2 => ?_⟩
    · rw [List.length_map]
      exact Nat.le_of_lt (small1000 (by show 1 + hs.length ≤ 1000; omega))
    have em : ([V.str "block"] ++ hs.map fun n => V.str (("key " : Str) ++ n)) = (("block" : Str) :: hs.map fun n => ("key " : Str) ++ n).map V.str := by
      rw [List.map_cons, List.map_map]
      rfl
    rw [em]
    have g2 := g1.trans (g.trans (same_new f2 (.lst ((("block" : Str) :: hs.map fun n => ("key " : Str) ++ n).map V.str))))
    have e2 : upd H' l2 (.lst ((("block" : Str) :: hs.map fun n => ("key " : Str) ++ n).map V.str)) l2 = some (.lst ((("block" : Str) :: hs.map fun n => ("key " : Str) ++ n).map V.str)) := upd_same
    generalize upd H' l2 (.lst ((("block" : Str) :: hs.map fun n => ("key " : Str) ++ n).map V.str)) = H2 at *
    refine ⟨l2, _, rfl, SqL.of e2, ?_, fun ys l3 pe so f3 => ?_⟩
    · rw [List.length_cons, List.length_map]
      omega
    obtain rfl := sort_eq pe so
    refine ⟨l3, _, rfl, .inl ⟨SqL.of upd_same, fun l4 f4 => k l4 _ (g2.trans ((same_new f3 _).trans (same_new f4 _))) upd_same⟩⟩
/-! ### == of columns -/
theorem dp_strs {K : PySem.W.Frag} {H : Hp} : ∀ ns : List Str, DpAll K H (ns.map V.str) (ns.map PyData.str)
  | [] => .nil
  | n :: r => .cons (.str n) (dp_strs r)
def strT (ns : List Str) : PyData := .tuple (ns.map PyData.str)
def sp_ceq (C : Addr) (K : PySem.W.Frag) : Sp := fun vs H Q _ => ∃ (p q : Addr) (hs hs' : List Str) (as : List (Str × Bool)) (ss ss' : List Str), vs = [.ref p, .ref q] ∧ ColsAt K C H p hs as ss ∧ ColsAt K C H q hs' as ss' ∧ ColsOk hs as ss ∧ ColsOk hs' as ss' ∧ Q (.bl (decide (hs = hs') && decide (ss = ss'))) H

end
end My
set_option Elab.async false
set_option linter.all false
set_option maxRecDepth 100000
set_option maxHeartbeats 400000
namespace My
open PySem L2 PySem.Spec PyProof.Rows
section
variable {P : Program} {w : World} {K : PySem.W.Frag} {mg : Str → Option Value} {base : Heap}
theorem eqv_strs : ∀ a b : List Str, PyData.eqvAll (a.map PyData.str) (b.map PyData.str) = decide (a = b)
  | [], [] => rfl
  | [], _ :: _ => rfl
  | _ :: _, [] => rfl
  | x :: a, y :: b => by
    rw [List.map_cons, List.map_cons, PyData.eqvAll, eqv_strs a b, PyData.eqv]
    by_cases e : x = y
    · subst e
      simp
    · have e2 : (x == y) = false := beq_eq_false_iff_ne.mpr e
      rw [e2, Bool.false_and, decide_eq_false (fun z => e (List.cons.inj z).1)]
theorem lay_strsT : ∀ a : List Str, (∀ n ∈ a, PyData.strOk n = true) → PyData.canLayAll0 (a.map PyData.str) = true ∧ PyData.depthAll (a.map PyData.str) ≤ 1
  | [], _ => ⟨rfl, Nat.zero_le _⟩
  | x :: a, ok => by
    obtain ⟨h1, h2⟩ := lay_strsT a fun n hn => ok n (List.mem_cons_of_mem _ hn)
    rw [List.map_cons, PyData.canLayAll0, PyData.depthAll, h1]
    refine ⟨by rw [PyData.canLay0, ok x List.mem_cons_self]; rfl, ?_⟩
    have : (PyData.str x).depth ≤ 1 := by rw [PyData.depth] <;> decide
    omega
theorem shaped_strs (ns : List Str) (h : ∀ n ∈ ns, nameB n = true) : SeqAt.shaped (strT ns) = true := by
  obtain ⟨h1, h2⟩ := lay_strsT ns fun n hn => (name_cps (h n hn)).2.2
  have e : SeqAt.shaped (strT ns) = (PyData.canLay0 (strT ns) && decide ((strT ns).depth ≤ 64)) := rfl
  rw [e]
  unfold strT
  rw [PyData.canLay0, h1, PyData.depth, decide_eq_true (by omega)]
  rfl
theorem eqv_strT (a b : List Str) : PyData.eqv (strT a) (strT b) = decide (a = b) := by
  unfold strT
  rw [PyData.eqv, eqv_strs]
theorem dp_strT {K : PySem.W.Frag} {H : Hp} {t : Addr} {ns : List Str} (h : SqT K H t (ns.map V.str)) : Dp K H (.ref t) (strT ns) := .tup h (dp_strs ns)
theorem kit_self (K : PySem.W.Frag) (C : Addr) : PySem.W.kitOne K (.ref C) (.ref C) = some true := by
  unfold PySem.W.kitOne
  rw [if_pos (by simp)]
theorem ok_Columns_eq (T : Txt K mg) : FnOk P w K mg base CX0 1 T.a_Columns_eq T.d_Columns_eq ["self", "other"] (sp_ceq T.c_Columns K) := by

  refine T.F_Columns_eq.ok sc_Columns_eq (fun vs H Q E h => ?_) (fun cdv A outer s H vs Q E hr h => ?_)
  · obtain ⟨p, q, hs, hs', as, ss, ss', rfl, _⟩ := h
    rfl
  obtain ⟨p, q, hs, hs', as, ss, ss', rfl, ⟨dx, t, D, u, h1, h2, h3, h4⟩, ⟨dy, t', D', u', h1', h2', h3', h4'⟩, ok, ok', k⟩ := h
  have h2 := h2.sq (K := K)
  have h2' := h2'.sq (K := K)
  have nd := ok.nda
  refine ⟨_, (pss_one (ps_ret (pe_and (pe_callB call_isi (by rfl) T.z_isinstance (by decide +kernel) (pa_cons (pv 1) (pa_cons (pe_glob (v := .ref T.c_Columns) (by rfl) T.m_Columns rfl) pa_nil))) (pe_and (pe_cmpR (op_eqD (hu64 hr)) (pe_fld (pv 0) rfl) (pe_fld (pv 1) rfl) (nomark _)) (pe_and (pe_cmpR (op_eq_dictA (hu64' hr)) (pe_fld (pv 0) rfl) (pe_fld (pv 1) rfl) (nomark _)) (pe_one (pe_cmpR (op_eqD (hu64 hr)) (pe_fld (pv 0) rfl) (pe_fld (pv 1) rfl) (nomark _)))))))), ?_⟩
  have l := @look3
  refine ⟨_, rfl, _, .ref T.c_Columns, _, _, true, rfl, .own _, T.ty_Columns h1', kit_self _ _, _, rfl, iteT ?_⟩
  refine ⟨_, rfl, p, T.c_Columns, dx, _, _, rfl, h1, T.cl_Columns, T.n_Columns_hashed, look3.1, _, rfl, q, T.c_Columns, dy, _, _, rfl, h1', T.cl_Columns, T.n_Columns_hashed, look3.1, _, _, dp_strT h2, dp_strT h2', shaped_strs _ ok.nh, shaped_strs _ ok'.nh, _, rfl, ?_⟩
  rw [eqv_strT]
  by_cases c1 : hs = hs'
  · rw [decide_eq_true c1]
    rw [decide_eq_true c1, Bool.true_and] at k
    refine iteT ⟨_, rfl, p, T.c_Columns, dx, _, _, rfl, h1, T.cl_Columns, T.n_Columns__asked, look3.2.1, _, rfl, q, T.c_Columns, dy, _, _, rfl, h1', T.cl_Columns, T.n_Columns__asked, look3.2.1, D, D', _, _, rfl, rfl, h3, h3', rfl, ?_, _, rfl, iteT ?_⟩
    · intro e he
      have nd2 : ((kvsOf as).map Prod.fst).Nodup := by
        have e2 : (kvsOf as).map Prod.fst = (as.map Prod.fst).map Sum.inr := keys_kvs _
        rw [e2]
        exact List.pairwise_map.mpr (nd.imp fun h z => h (Sum.inr.inj z))
      refine ⟨val_at nd2 he, ?_⟩
      obtain ⟨z, _, rfl⟩ := List.mem_map.mp he
      rfl
    · refine ⟨_, rfl, p, T.c_Columns, dx, _, _, rfl, h1, T.cl_Columns, T.n_Columns_summed, look3.2.2, _, rfl, q, T.c_Columns, dy, _, _, rfl, h1', T.cl_Columns, T.n_Columns_summed, look3.2.2, _, _, dp_strT h4, dp_strT h4', shaped_strs _ ok.ns, shaped_strs _ ok'.ns, ?_⟩
      rw [eqv_strT]
      exact k
  · rw [decide_eq_false c1]
    rw [decide_eq_false c1, Bool.false_and] at k
    exact iteF k

end
end My
set_option Elab.async false
set_option linter.all false
set_option maxRecDepth 100000
set_option maxHeartbeats 400000
namespace My
open PySem L2 PySem.Spec PyProof.Rows
section
variable {P : Program} {w : World} {K : PySem.W.Frag} {mg : Str → Option Value} {base : Heap}
/-! ### a row of a table, by data -/
def isStrD : PyData → Bool
  | .str _ => true
  | _ => false
def valueD (b : Bool) (d : PyData) : Bool := if b = true then nearD d else isStrD d
def sp_value (K : PySem.W.Frag) : Sp := fun vs H Q _ => ∃ (x : V) (d : PyData) (b : Bool), vs = [x, kindV b] ∧ Dp K H x d ∧ Q (.bl (valueD b d)) H
theorem ty_str {K : PySem.W.Frag} {H : Hp} {x : V} {d : PyData} (h : Dp K H x d) : PySem.W.kitOne K (.type (typN d)) (.type "str") = some (isStrD d) := by
  cases d with
  | dict _ => cases h
  | str _ => exact kit_ty (show kitB "str" "str" = some true by decide +kernel)
  | none => exact kit_ty (show kitB "NoneType" "str" = some false by decide +kernel)
  | bool _ => exact kit_ty (show kitB "bool" "str" = some false by decide +kernel)
  | int _ => exact kit_ty (show kitB "int" "str" = some false by decide +kernel)
  | list _ => exact kit_ty (show kitB "list" "str" = some false by decide +kernel)
  | tuple _ => exact kit_ty (show kitB "tuple" "str" = some false by decide +kernel)
theorem ok_is_value (T : Txt K mg) : FnOk P w K mg base CX0 4 T.a_is_value T.d_is_value ["value", "kind"] (sp_value K) := by
  have G_is_near := ok_is_near (P := P) (w := w) (base := base) T
  refine T.F_is_value.ok sc_is_value (fun vs H Q E h => ?_) (fun cdv A outer s H vs Q E hr h => ?_)
  · obtain ⟨x, d, b, rfl, _⟩ := h
    rfl
  obtain ⟨x, d, b, rfl, hd, k⟩ := h
  refine ⟨_, (pss_cons (ps_if (pt_cmpR op_eq (pv 1) pe_str (nomark _)) (pss_one (ps_ret (pe_call G_is_near (hr.mono (by first | decide | omega)) (by rfl) T.m_is_near T.F_is_near.kp T.b_is_near .nil pass0 (pa_cons (pv 0) pa_nil)))) pss_nil)
    (pss_one (ps_ret (pe_callB call_isi (by rfl) T.z_isinstance (by decide +kernel) (pa_cons (pv 0) (pa_cons (pe_bltn (v := .ty "str") (by rfl) T.z_str (by decide +kernel) rfl) pa_nil)))))), ?_⟩
  have e : decide (kindV b = V.str "number") = b := by
    cases b <;> decide +kernel
  refine ⟨_, rfl, rfl, ⟨_, rfl, ?_⟩⟩
  show if (decide (kindV b = V.str "number")) = true then _ else _
  rw [e]
  cases b with
  | true => exact iteT ⟨_, rfl, x, d, rfl, hd, k⟩
  | false => exact iteF ⟨_, rfl, x, .ty "str", _, .type "str", _, rfl, .ty _, dp_ty hd, ty_str hd, k⟩
def isTupD : PyData → Bool
  | .tuple _ => true
  | _ => false
theorem tup_ty {K : PySem.W.Frag} {H : Hp} {x : V} {d : PyData} (h : Dp K H x d) : PySem.W.kitOne K (.type (typN d)) (.type "tuple") = some (isTupD d) := by
  cases d with
  | dict _ => cases h
  | str _ => exact kit_ty (show kitB "str" "tuple" = some false by decide +kernel)
  | none => exact kit_ty (show kitB "NoneType" "tuple" = some false by decide +kernel)
  | bool _ => exact kit_ty (show kitB "bool" "tuple" = some false by decide +kernel)
  | int _ => exact kit_ty (show kitB "int" "tuple" = some false by decide +kernel)
  | list _ => exact kit_ty (show kitB "list" "tuple" = some false by decide +kernel)
  | tuple _ => exact kit_ty (show kitB "tuple" "tuple" = some true by decide +kernel)
theorem dp_tup {K : PySem.W.Frag} {H : Hp} {x : V} {ds : List PyData} (h : Dp K H x (.tuple ds)) : ∃ a xs, x = .ref a ∧ SqT K H a xs ∧ DpAll K H xs ds := by
  cases h with
  | tup h a => exact ⟨_, _, rfl, h, a⟩
def LenOk (d : PyData) : Prop := ∀ ds, d = .tuple ds → ds.length ≤ 1000
def numsD (n : Nat) : PyData → Bool
  | .tuple ds => if ds.length = n then ds.all nearD else false
  | _ => false
def sp_nums (K : PySem.W.Frag) : Sp := fun vs H Q _ => ∃ (x : V) (d : PyData) (n : Nat), vs = [x, .int (n : Int)] ∧ Dp K H x d ∧ LenOk d ∧ ∀ H', Same H H' → Q (.bl (numsD n d)) H'
theorem not_tup {d : PyData} (h : isTupD d = false) (n : Nat) : numsD n d = false := by
  cases d with
  | tuple _ => cases h
  | _ => rfl
theorem ok_are_numbers (T : Txt K mg) : FnOk P w K mg base CX0 4 T.a_are_numbers T.d_are_numbers ["numbers", "many"] (sp_nums K) := by
  have G_is_near := ok_is_near (P := P) (w := w) (base := base) T
  refine T.F_are_numbers.ok sc_are_numbers (fun vs H Q E h => ?_) (fun cdv A outer s H vs Q E hr h => ?_)
  · obtain ⟨x, d, b, rfl, _⟩ := h
    rfl
  obtain ⟨x, d, n, rfl, hd, lo, k⟩ := h
  refine ⟨_, (pss_cons (ps_if (PW.pt (pw_or (pt_not (pt_val (pe_callB call_isi (by rfl) T.z_isinstance (by decide +kernel) (pa_cons (pv 0) (pa_cons (pe_bltn (v := .ty "tuple") (by rfl) T.z_tuple (by decide +kernel) rfl) pa_nil))))) (pw_or1 (pt_cmpR op_ne (pe_callB call_len_seq (by rfl) T.z_len (by decide +kernel) (pa_cons (pv 0) pa_nil)) (pv 1) (nomark _))))) (pss_one (ps_ret pe_bl)) pss_nil)
    (pss_one (ps_ret (pe_callB (cr_all rfl) (by rfl) T.z_all (by decide +kernel) (pa_cons (pe_lc (own := [("number", 2)]) rfl sc_are_numbers.nd (pi_tup (pv 0)) (blkOk_by (own := [("number", 2)]) (N := ["numbers", "many", "number"]) (sc := defScope s_are_numbers) (by decide +kernel)) (fun _ _ _ _ _ => (pg_name (i := 2) sc_are_numbers.nd rfl (by first | exact Or.inl rfl | exact Or.inr rfl))) (fun _ _ _ _ _ => pts_nil) (fun _ _ _ _ _ => (pe_call G_is_near (hr.mono (by first | decide | omega)) (by rfl) T.m_is_near T.F_is_near.kp T.b_is_near .nil pass0 (pa_cons (pv 2) pa_nil)))) pa_nil))))), ?_⟩
  refine ⟨_, rfl, x, .ty "tuple", _, .type "tuple", _, rfl, .ty _, dp_ty hd, tup_ty hd, _, rfl, ?_⟩
  cases c : isTupD d with
  | false =>
    have k' := k H (Same.refl _)
    rw [not_tup c] at k'
    exact iteT k'
  | true =>
  obtain ⟨ds, rfl⟩ : ∃ ds, d = .tuple ds := by
    cases d with
    | tuple ds => exact ⟨ds, rfl⟩
    | _ => cases c
  obtain ⟨a, xs, rfl, ht, da⟩ := dp_tup hd
  have ln := dps_len da
  have l1 := lo ds rfl
  have e : numsD n (.tuple ds) = if ds.length = n then ds.all nearD else false := rfl
  rw [e] at k
  refine iteF ⟨_, rfl, a, _, rfl, .inr ht, _, rfl, rfl, ?_⟩
  refine ⟨_, rfl, ?_⟩
  rw [ln, len_dec]
  by_cases c : ds.length = n
  · rw [decide_eq_true c]
    rw [if_pos c] at k
    refine iteF ⟨_, rfl, a, rfl, ⟨xs, ht⟩, fun D hD => ?_⟩
    refine lc_it (walk_tup (xs := xs)) (fun i H' => Same H H' ∧ H' D = some (.lst (((ds.take i).map nearD).map V.bl))) ⟨same_new hD _, upd_same⟩ (fun i H' _ z => Same.tup z.1 ht) ?_ ?_
    · rintro i x H1 H' hi ⟨g, e⟩ ⟨e1, hx⟩
      subst e1
      obtain ⟨d, hd', dx⟩ : ∃ d, ds[i]? = some d ∧ Dp K H x d := by
        have hi2 : i < ds.length := by omega
        obtain ⟨y, hy, dy⟩ := dps_get da (List.getElem?_eq_getElem hi2)
        rw [hx] at hy
        cases hy
        exact ⟨_, List.getElem?_eq_getElem hi2, dy⟩
      refine ⟨rfl, _, rfl, x, d, rfl, dp_same g _ _ dx, _, e, ?_, same_upd g hD, ?_⟩
      · rw [List.length_map, List.length_map, List.length_take]
        exact small1000 (by omega)
      · rw [upd_same, List.take_add_one, hd', List.map_append, List.map_append]
        rfl
    · rintro H' ⟨g, e⟩
      rw [ln, List.take_of_length_le (Nat.le_refl _)] at e
      refine ⟨D, ds.map nearD, rfl, SqL.of e, ?_⟩
      have all_ : ((ds.map nearD).all id) = ds.all nearD := by rw [List.all_map]; rfl
      rw [all_]
      exact k _ g
  · rw [decide_eq_false c]
    rw [if_neg c] at k
    exact iteT (k _ (Same.refl _))
/-! the values -/
def zipD : List Bool → List PyData → Bool
  | b :: bs, d :: ds => valueD b d && zipD bs ds
  | _, _ => true
def valuesD (bs : List Bool) : PyData → Bool
  | .tuple ds => if ds.length = bs.length then zipD bs ds else false
  | _ => false
theorem not_tup2 {d : PyData} (h : isTupD d = false) (bs : List Bool) : valuesD bs d = false := by
  cases d with
  | tuple _ => cases h
  | _ => rfl
def zipL (bs : List Bool) (ds : List PyData) : List Bool := (bs.zip ds).map fun p => valueD p.1 p.2
theorem zipL_all : ∀ (bs : List Bool) (ds : List PyData), (zipL bs ds).all id = zipD bs ds
  | [], _ => by unfold zipL zipD; rfl
  | _ :: _, [] => by unfold zipL zipD; rfl
  | b :: bs, d :: ds => by
    have ih := zipL_all bs ds
    unfold zipL at ih ⊢
    rw [List.zip_cons_cons, List.map_cons, List.all_cons, ih, zipD]
    rfl
def sp_values (K : PySem.W.Frag) : Sp := fun vs H Q _ => ∃ (x : V) (l : Addr) (d : PyData) (bs : List Bool), vs = [x, .ref l] ∧ Dp K H x d ∧ LenOk d ∧ SqL K H l (bs.map kindV) ∧ ∀ H', Same H H' → Q (.bl (valuesD bs d)) H'
theorem ok_are_values (T : Txt K mg) : FnOk P w K mg base CX0 5 T.a_are_values T.d_are_values ["values", "kinds"] (sp_values K) := by
  have G_is_value := ok_is_value (P := P) (w := w) (base := base) T
  refine T.F_are_values.ok sc_are_values (fun vs H Q E h => ?_) (fun cdv A outer s H vs Q E hr h => ?_)
  · obtain ⟨x, l, d, b, rfl, _⟩ := h
    rfl
  obtain ⟨x, l, d, bs, rfl, hd, lo, hl, k⟩ := h
  refine ⟨_, (pss_cons (ps_if (PW.pt (pw_or (pt_not (pt_val (pe_callB call_isi (by rfl) T.z_isinstance (by decide +kernel) (pa_cons (pv 0) (pa_cons (pe_bltn (v := .ty "tuple") (by rfl) T.z_tuple (by decide +kernel) rfl) pa_nil))))) (pw_or1 (pt_cmpR op_ne (pe_callB call_len_seq (by rfl) T.z_len (by decide +kernel) (pa_cons (pv 0) pa_nil)) (pe_callB call_len_seq (by rfl) T.z_len (by decide +kernel) (pa_cons (pv 1) pa_nil)) (nomark _))))) (pss_one (ps_ret pe_bl)) pss_nil)
    (pss_one (ps_ret (pe_callB (cr_all rfl) (by rfl) T.z_all (by decide +kernel) (pa_cons (pe_lc (own := [("value", 2), ("kind", 3)]) rfl sc_are_values.nd (pi_zipM (by rfl) T.z_zip (pa_cons (pv 0) (pa_cons (pv 1) pa_nil))) (blkOk_by (own := [("value", 2), ("kind", 3)]) (N := ["values", "kinds", "value", "kind"]) (sc := defScope s_are_values) (by decide +kernel)) (fun _ _ _ _ _ => (show PG _ _ (gTup K 2 (gCons (gName 2) (gCons (gName 3) gNil))) from (pg_tup rfl (pgs_cons (pg_name (i := 2) sc_are_values.nd rfl (by first | exact Or.inl rfl | exact Or.inr rfl)) (pgs_cons (pg_name (i := 3) sc_are_values.nd rfl (by first | exact Or.inl rfl | exact Or.inr rfl)) pgs_nil))))) (fun _ _ _ _ _ => pts_nil) (fun _ _ _ _ _ => (pe_call G_is_value (hr.mono (by first | decide | omega)) (by rfl) T.m_is_value T.F_is_value.kp T.b_is_value .nil pass0 (pa_cons (pv 2) (pa_cons (pv 3) pa_nil))))) pa_nil))))), ?_⟩
  refine ⟨_, rfl, x, .ty "tuple", _, .type "tuple", _, rfl, .ty _, dp_ty hd, tup_ty hd, _, rfl, ?_⟩
  cases c : isTupD d with
  | false =>
    have k' := k H (Same.refl _)
    rw [not_tup2 c] at k'
    exact iteT k'
  | true =>
  obtain ⟨ds, rfl⟩ : ∃ ds, d = .tuple ds := by
    cases d with
    | tuple ds => exact ⟨ds, rfl⟩
    | _ => cases c
  obtain ⟨a, xs, rfl, ht, da⟩ := dp_tup hd
  have ln := dps_len da
  have l1 := lo ds rfl
  have e : valuesD bs (.tuple ds) = if ds.length = bs.length then zipD bs ds else false := rfl
  rw [e] at k
  refine iteF ⟨_, rfl, a, _, rfl, .inr ht, _, rfl, l, _, rfl, .inl hl, rfl, ⟨_, rfl, ?_⟩⟩
  rw [ln, List.length_map, len_dec]
  by_cases c : ds.length = bs.length
  · rw [decide_eq_true c]
    rw [if_pos c] at k
    refine iteF ⟨_, rfl, _, rfl, a, l, xs, _, rfl, ht, hl, fun D hD => ?_⟩
    have lz : xs.length = (bs.map kindV).length := by rw [ln, List.length_map, c]
    refine lc_it (walk_zipM (xs := xs) (ys := bs.map kindV) lz) (fun i H' => Same H H' ∧ H' D = some (.lst (((zipL bs ds).take i).map V.bl))) ⟨same_new hD _, upd_same⟩ (fun i H' _ z => ⟨Same.tup z.1 ht, z.1.seq hl⟩) ?_ ?_
    · rintro i x H1 H' hi ⟨g, e⟩ ⟨T, y, z, rfl, hT, rfl, hy, hz⟩
      dsimp only at hy hz
      have hi2 : i < ds.length := by omega
      obtain ⟨d, hd', dx⟩ : ∃ d, ds[i]? = some d ∧ Dp K H y d := by
        obtain ⟨v, hv, dv⟩ := dps_get da (List.getElem?_eq_getElem hi2)
        rw [hy] at hv
        cases hv
        exact ⟨_, List.getElem?_eq_getElem hi2, dv⟩
      rw [List.getElem?_map] at hz
      obtain ⟨b, hb, rfl⟩ := Option.map_eq_some_iff.mp hz
      have gT := g.trans (same_new hT (.tup [y, kindV b]))
      have e2 := same_new hT (.tup [y, kindV b]) _ _ e
      refine ⟨T, _, rfl, SqT.of upd_same, rfl, _, _, rfl, _, _, rfl, rfl, rfl, _, rfl, _, rfl, y, d, b, rfl, dp_same gT _ _ dx, _, e2, ?_, same_upd gT hD, ?_⟩
      · rw [List.length_map, List.length_take]
        exact small1000 (by omega)
      · have at_ : (zipL bs ds)[i]? = some (valueD b d) := by
          unfold zipL
          rw [List.getElem?_map, List.getElem?_zip_eq_some (z := (b, d)) |>.mpr ⟨hb, hd'⟩]
          rfl
        rw [upd_same, take_more' at_, List.map_append]
        rfl
    · rintro H' ⟨g, e⟩
      have lzz : (zipL bs ds).length = xs.length := by
        unfold zipL
        rw [List.length_map, List.length_zip, ln]
        omega
      rw [← lzz, List.take_of_length_le (Nat.le_refl _)] at e
      refine ⟨D, zipL bs ds, rfl, SqL.of e, ?_⟩
      rw [zipL_all]
      exact k _ g
  · rw [decide_eq_false c]
    rw [if_neg c] at k
    exact iteT (k _ (Same.refl _))

end
end My
set_option Elab.async false
set_option linter.all false
set_option maxRecDepth 100000
set_option maxHeartbeats 400000
namespace My
open PySem L2 PySem.Spec PyProof.Rows
section
variable {P : Program} {w : World} {K : PySem.W.Frag} {mg : Str → Option Value} {base : Heap}
/-! ### a whole row -/
def rowD (hn : Nat) (bs : List Bool) (sn : Nat) : PyData → Bool
  | .tuple [b, k, v, s] => betD 0 1000000 b && (numsD hn k && (valuesD bs v && numsD sn s))
  | _ => false
def RowOk (d : PyData) : Prop := ∀ ds, d = .tuple ds → ∀ e ∈ ds, LenOk e
def sp_trow (C : Addr) (K : PySem.W.Frag) : Sp := fun vs H Q _ => ∃ (p : Addr) (hs : List Str) (as : List (Str × Bool)) (ss : List Str) (x : V) (d : PyData), vs = [.ref p, x] ∧ ColsAt K C H p hs as ss ∧ Dp K H x d ∧ RowOk d ∧ ∀ H', Same H H' → Q (.bl (rowD hs.length (as.map Prod.snd) ss.length d)) H'
theorem row_not {d : PyData} {hn sn : Nat} {bs : List Bool} (h : isTupD d = false) : rowD hn bs sn d = false := by
  cases d with
  | tuple _ => cases h
  | _ => rfl
theorem row_four {ds : List PyData} {hn sn : Nat} {bs : List Bool} (h : ds.length ≠ 4) : rowD hn bs sn (.tuple ds) = false := by
  match ds, h with
  | [], _ => rfl
  | [_], _ => rfl
  | [_, _], _ => rfl
  | [_, _, _], _ => rfl
  | [_, _, _, _], h => exact absurd rfl h
  | _ :: _ :: _ :: _ :: _ :: _, _ => rfl
theorem four {ds : List PyData} (h : ds.length = 4) : ∃ a b c d, ds = [a, b, c, d] := by
  match ds, h with
  | [a, b, c, d], _ => exact ⟨a, b, c, d, rfl⟩
theorem dps_four {K : PySem.W.Frag} {H : Hp} {xs : List V} {a b c d : PyData} (h : DpAll K H xs [a, b, c, d]) : ∃ x y z t, xs = [x, y, z, t] ∧ Dp K H x a ∧ Dp K H y b ∧ Dp K H z c ∧ Dp K H t d := by
  cases h with
  | cons h1 h =>
    cases h with
    | cons h2 h =>
      cases h with
      | cons h3 h =>
        cases h with
        | cons h4 h =>
          cases h
          exact ⟨_, _, _, _, rfl, h1, h2, h3, h4⟩
theorem ok_is_table_row (T : Txt K mg) : FnOk P w K mg base CX0 6 T.a_is_table_row T.d_is_table_row ["columns", "row"] (sp_trow T.c_Columns K) := by
  have G_is_between := ok_is_between (P := P) (w := w) (base := base) T
  have G_are_numbers := ok_are_numbers (P := P) (w := w) (base := base) T
  have G_are_values := ok_are_values (P := P) (w := w) (base := base) T
  have G_Columns_asked := ok_Columns_asked (P := P) (w := w) (base := base) T
  refine T.F_is_table_row.ok sc_is_table_row (fun vs H Q E h => ?_) (fun cdv A outer s H vs Q E hr h => ?_)
  · obtain ⟨p, hs, as, ss, x, d, rfl, _⟩ := h
    rfl
  obtain ⟨p, hs, as, ss, x, d, rfl, hc, hd, ro, k⟩ := h
  refine ⟨_, (pss_cons (ps_if (PW.pt (pw_or (pt_not (pt_val (pe_callB call_isi (by rfl) T.z_isinstance (by decide +kernel) (pa_cons (pv 1) (pa_cons (pe_bltn (v := .ty "tuple") (by rfl) T.z_tuple (by decide +kernel) rfl) pa_nil))))) (pw_or1 (pt_cmpR op_ne (pe_callB call_len_seq (by rfl) T.z_len (by decide +kernel) (pa_cons (pv 1) pa_nil)) pe_int (nomark _))))) (pss_one (ps_ret pe_bl)) pss_nil)
    (pss_cons (ps_asg (pv 1) (pg_tup rfl (pgs_cons (pg_name (i := 2) sc_is_table_row.nd rfl (by first | exact Or.inl rfl | exact Or.inr rfl)) (pgs_cons (pg_name (i := 3) sc_is_table_row.nd rfl (by first | exact Or.inl rfl | exact Or.inr rfl)) (pgs_cons (pg_name (i := 4) sc_is_table_row.nd rfl (by first | exact Or.inl rfl | exact Or.inr rfl)) (pgs_cons (pg_name (i := 5) sc_is_table_row.nd rfl (by first | exact Or.inl rfl | exact Or.inr rfl)) pgs_nil))))))
    (pss_one (ps_ret (pe_and (pe_call G_is_between (hr.mono (by first | decide | omega)) (by rfl) T.m_is_between T.F_is_between.kp T.b_is_between .nil pass0 (pa_cons (pv 2) (pa_cons pe_int (pa_cons (pe_glob (v := .int 1000000) (by rfl) T.m_FAR ⟨_, rfl⟩) pa_nil)))) (pe_and (pe_call G_are_numbers (hr.mono (by first | decide | omega)) (by rfl) T.m_are_numbers T.F_are_numbers.kp T.b_are_numbers .nil pass0 (pa_cons (pv 3) (pa_cons (pe_callB call_len_seq (by rfl) T.z_len (by decide +kernel) (pa_cons (pe_fld (pv 0) rfl) pa_nil)) pa_nil))) (pe_and (pe_call G_are_values (hr.mono (by first | decide | omega)) (by rfl) T.m_are_values T.F_are_values.kp T.b_are_values .nil pass0 (pa_cons (pv 4) (pa_cons (pe_listvals rfl (by rfl) T.z_list (pe_prop (pv 0) T.cl_Columns T.p_Columns_asked G_Columns_asked (hr.mono (by first | decide | omega)) T.b_Columns_asked .nil pass0 rfl)) pa_nil))) (pe_one (pe_call G_are_numbers (hr.mono (by first | decide | omega)) (by rfl) T.m_are_numbers T.F_are_numbers.kp T.b_are_numbers .nil pass0 (pa_cons (pv 5) (pa_cons (pe_callB call_len_seq (by rfl) T.z_len (by decide +kernel) (pa_cons (pe_fld (pv 0) rfl) pa_nil)) pa_nil))))))))))), ?_⟩
  refine ⟨_, rfl, x, .ty "tuple", _, .type "tuple", _, rfl, .ty _, dp_ty hd, tup_ty hd, _, rfl, ?_⟩
  cases c : isTupD d with
  | false =>
    have k' := k H (Same.refl _)
    rw [row_not c] at k'
    exact iteT k'
  | true =>
  obtain ⟨ds, rfl⟩ : ∃ ds, d = .tuple ds := by
    cases d with
    | tuple ds => exact ⟨ds, rfl⟩
    | _ => cases c
  obtain ⟨a, xs, rfl, ht, da⟩ := dp_tup hd
  have ln := dps_len da
  refine iteF ⟨_, rfl, a, _, rfl, .inr ht, rfl, ⟨_, rfl, ?_⟩⟩
  rw [ln, show V.int 4 = V.int ((4 : Nat) : Int) from rfl, len_dec]
  by_cases c4 : ds.length = 4
  · obtain ⟨d1, d2, d3, d4, rfl⟩ := four c4
    rw [decide_eq_true c4]
    refine iteF ?_
    obtain ⟨x1, x2, x3, x4, rfl, b1, b2, b3, b4⟩ := dps_four da
    have l2 := ro _ rfl d2 (by simp)
    have l3 := ro _ rfl d3 (by simp)
    have l4 := ro _ rfl d4 (by simp)
    have ek : rowD hs.length (as.map Prod.snd) ss.length (.tuple [d1, d2, d3, d4]) = (betD 0 1000000 d1 && (numsD hs.length d2 && (valuesD (as.map Prod.snd) d3 && numsD ss.length d4))) := rfl
    rw [ek] at k
    obtain ⟨dx, t, D, u, h1, h2, h3, h4⟩ := hc
    refine ⟨_, rfl, a, _, rfl, ht, rfl, _, _, rfl, _, _, rfl, _, _, rfl, _, _, rfl, rfl, ?_⟩
    refine ⟨_, rfl, x1, d1, 0, 1000000, rfl, b1, _, rfl, ?_⟩
    cases c1 : betD 0 1000000 d1 with
    | false =>
      rw [c1, Bool.false_and] at k
      exact iteF (k _ (Same.refl _))
    | true =>
    rw [c1, Bool.true_and] at k
    refine iteT ⟨_, rfl, _, rfl, p, T.c_Columns, dx, _, _, rfl, h1, T.cl_Columns, T.n_Columns_hashed, look3.1, t, _, rfl, .inr h2.sq, x2, d2, _, rfl, b2, l2, fun H1 g1 => ⟨_, rfl, ?_⟩⟩
    rw [List.length_map]
    cases c2 : numsD hs.length d2 with
    | false =>
      rw [c2, Bool.false_and] at k
      exact iteF (k _ g1)
    | true =>
    rw [c2, Bool.true_and] at k
    refine iteT ⟨_, rfl, ?_⟩
    have at1 : ColsAt K T.c_Columns H1 p hs as ss := ColsAt.same g1 ⟨dx, t, D, u, h1, h2, h3, h4⟩
    refine ⟨_, rfl, p, dx, _, rfl, g1 _ _ h1, p, hs, as, ss, rfl, at1, fun q hq => ⟨q, _, rfl, Rd.of upd_same, fun l hl => ?_⟩⟩
    have g2 := g1.trans ((same_new hq (.dK (kvsOf as))).trans (same_new hl (.lst ((kvsOf as).map Prod.snd))))
    have el : upd (upd H1 q (.dK (kvsOf as))) l (.lst ((kvsOf as).map Prod.snd)) l = some (.lst ((as.map Prod.snd).map kindV)) := by
      rw [upd_same]
      unfold kvsOf
      rw [List.map_map, List.map_map]
      rfl
    generalize upd (upd H1 q (.dK (kvsOf as))) l (.lst ((kvsOf as).map Prod.snd)) = H2 at *
    refine ⟨x3, l, d3, _, rfl, dp_same g2 _ _ b3, l3, SqL.of el, fun H3 g3 => ⟨_, rfl, ?_⟩⟩
    have g4 := g2.trans g3
    cases c3 : valuesD (as.map Prod.snd) d3 with
    | false =>
      rw [c3, Bool.false_and] at k
      exact iteF (k _ g4)
    | true =>
    rw [c3, Bool.true_and] at k
    refine iteT ⟨_, rfl, _, rfl, p, T.c_Columns, dx, _, _, rfl, g4 _ _ h1, T.cl_Columns, T.n_Columns_summed, look3.2.2, u, _, rfl, .inr (Same.tup g4 h4), x4, d4, _, rfl, dp_same g4 _ _ b4, l4, fun H5 g5 => ?_⟩
    rw [List.length_map]
    exact k _ (g4.trans g5)
  · rw [decide_eq_false c4]
    rw [row_four c4] at k
    exact iteT (k _ (Same.refl _))

end
end My
set_option Elab.async false
set_option linter.all false
set_option maxRecDepth 100000
set_option maxHeartbeats 400000
namespace My
open PySem L2 PySem.Spec PyProof.Rows
section
variable {P : Program} {w : World} {K : PySem.W.Frag} {mg : Str → Option Value} {base : Heap}
/-! ### a table -/
def firstBad (q : PyData → Bool) : Nat → List PyData → Option Nat
  | _, [] => none
  | i, d :: ds => if q d = true then firstBad q (i + 1) ds else some i
theorem first_at {q : PyData → Bool} {ds : List PyData} {i : Nat} {d : PyData} (h : ds[i]? = some d) (j : Nat) : firstBad q j (ds.drop i) = if q d = true then firstBad q (j + 1) (ds.drop (i + 1)) else some j := by
  have lt := (List.getElem?_eq_some_iff.mp h).1
  have e := (List.getElem?_eq_some_iff.mp h).2
  rw [List.drop_eq_getElem_cons lt, firstBad, e]
def tabR (hn : Nat) (bs : List Bool) (sn : Nat) : RowA → Option (Option Nat)
  | .oth _ => some none
  | .seq ds => if 60 < ds.length then some none else (firstBad (rowD hn bs sn) 0 ds).map some
def RowsOk : RowA → Prop
  | .oth _ => True
  | .seq ds => ∀ d ∈ ds, RowOk d
def optN : Option Nat → V
  | none => .non
  | some i => .int (i : Int)
/-- a table: its columns and its rows -/
def TabAt (K : PySem.W.Frag) (CT : Addr) (H : Hp) (p c : Addr) (xs : List V) : Prop := ∃ dx t, H p = some (.ins CT dx [("columns", .ref c), ("rows", .ref t)]) ∧ SqT K H t xs
def sp_tinit (C CT CB : Addr) (K : PySem.W.Frag) : Sp := fun vs H Q E => ∃ (p dx c : Addr) (hs : List Str) (as : List (Str × Bool)) (ss : List Str) (v : V) (r : RowA), vs = [.ref p, .ref c, v] ∧ H p = some (.ins CT dx []) ∧ ColsAt K C H c hs as ss ∧ RowAt K H v r ∧ RowsOk r ∧
  (tabR hs.length (as.map Prod.snd) ss.length r = none → ∀ a xs, v = .ref a → SqA K H a xs → (∀ ds, r = .seq ds → DpAll K H xs ds) → ∀ H', But p H H' → TabAt K CT H' p c xs → Q .non H') ∧
  (∀ n, tabR hs.length (as.map Prod.snd) ss.length r = some n → ∀ (dx : Addr) (H' : Hp), But p H H' → H' dx = some (.xd [("number", optN n)]) → E (.ref CB) (some dx) H')
theorem tabF (x y : V) : putF "rows" y (putF "columns" x []) = [(("columns" : Str), x), (("rows" : Str), y)] := (if_neg (by decide +kernel)).trans rfl
theorem ok_Table_init (T : Txt K mg) : FnOk P w K mg base (L2.CX P w) 7 T.a_Table_init T.d_Table_init ["self", "columns", "rows"] (sp_tinit T.c_Columns T.c_Table T.c_BadTable K) := by
  have G_BadTable_init := ok_BadTable_init (P := P) (w := w) (base := base) T
  have G_is_row := ok_is_row (P := P) (w := w) (base := base) T
  have G_is_table_row := ok_is_table_row (P := P) (w := w) (base := base) T
  refine T.F_Table_init.okX sc_Table_init (fun vs H Q E h => ?_) (fun cdv A outer s H vs Q E hr h => ?_)
  · obtain ⟨p, dx, c, hs, as, ss, v, r, rfl, _⟩ := h
    rfl
  obtain ⟨p, dx, c, hs, as, ss, v, r, rfl, hp, hc, hv, ro, kQ, kE⟩ := h
  refine ⟨_, (pss_cons (ps_if (PW.pt (pw_or (pt_not (pt_val (pe_call G_is_row (hr.mono (by first | decide | omega)) (by rfl) T.m_is_row T.F_is_row.kp T.b_is_row .nil pass0 (pa_cons (pv 2) pa_nil)))) (pw_or1 (pt_cmpR op_gt (pe_callB call_len_seq (by rfl) T.z_len (by decide +kernel) (pa_cons (pv 2) pa_nil)) (pe_glob (v := .int 60) (by rfl) T.m_MOST_ROWS ⟨_, rfl⟩) (nomark _))))) (pss_one (ps_raise rfl (takes_of rfl rfl rfl rfl) (pmk_oex T.x_BadTable T.xi_BadTable T.xt_BadTable G_BadTable_init (hr.mono (by first | decide | omega)) T.b_BadTable_init .nil pass0 (by rfl) T.m_BadTable (pa_cons pe_non pa_nil)))) pss_nil)
    (pss_cons (ps_for (passes_of rfl) rfl (pi_enumA (by rfl) T.z_enumerate (pa_cons (pv 2) pa_nil)) (pg_tup rfl (pgs_cons (pg_name (i := 3) sc_Table_init.nd rfl (by first | exact Or.inl rfl | exact Or.inr rfl)) (pgs_cons (pg_name (i := 4) sc_Table_init.nd rfl (by first | exact Or.inl rfl | exact Or.inr rfl)) pgs_nil)))
    (pss_one (ps_if (pt_not (pt_val (pe_call G_is_table_row (hr.mono (by first | decide | omega)) (by rfl) T.m_is_table_row T.F_is_table_row.kp T.b_is_table_row .nil pass0 (pa_cons (pv 1) (pa_cons (pv 4) pa_nil))))) (pss_one (ps_raise rfl (takes_of rfl rfl rfl rfl) (pmk_oex T.x_BadTable T.xi_BadTable T.xt_BadTable G_BadTable_init (hr.mono (by first | decide | omega)) T.b_BadTable_init .nil pass0 (by rfl) T.m_BadTable (pa_cons (pv 3) pa_nil)))) pss_nil)))
    (pss_cons (ps_fld (pv 0) (pv 1) rfl)
    (pss_one (ps_fld (pv 0) (pe_callTy call_tupA (by rfl) T.z_tuple (by decide +kernel) (pa_cons (pv 2) pa_nil)) rfl))))), ?_⟩
  have et : ∀ ds, tabR hs.length (as.map Prod.snd) ss.length (.seq ds) = if 60 < ds.length then some none else (firstBad (rowD hs.length (as.map Prod.snd) ss.length) 0 ds).map some := fun _ => rfl
  have err : ∀ (n : Option Nat) (σ1 : L2.St) (H1 : Hp), Same H H1 → tabR hs.length (as.map Prod.snd) ss.length r = some n → (∀ i, n = some i → i < 61) → tMkO T.c_BadTable (sp_btinit T.c_BadTable) [] (tCons (tC (optN n)) tNil) σ1 H1 (fun cls d H' => E cls d H') := fun n σ1 H1 g e bound => by
    refine ⟨(by show 1 ≤ 1000; decide), fun q hq => ⟨q, optN n, rfl, ?_, upd_same, fun dx hdx ne => ⟨rfl, dx, [("number", optN n)], upd_same, ?_, ?_, ?_⟩⟩⟩
    · cases n with
      | none => exact .inl rfl
      | some i => exact .inr ⟨i, rfl, bound i rfl⟩
    · rw [upd_ne ne]
      exact upd_same
    · rw [upd_ne ne] at hdx
      exact hdx
    · rw [upd_ne ne] at hdx
      refine kE n e dx _ (Same.but fun b o hb => ?_) upd_same
      have hb2 := g b o hb
      have n1 : b ≠ dx := ne_of_none hb2 hdx
      have n2 : b ≠ q := ne_of_none hb2 hq
      rw [upd_ne n1, del_ne n2, upd_ne n2, upd_ne n1, upd_ne n2]
      exact hb2
  obtain ⟨t, mem, keep, ety⟩ := row_ty hv
  refine ⟨_, rfl, v, t, rfl, keep _ (Same.refl _), mem, keep, fun H0 g0 => ⟨_, rfl, ?_⟩⟩
  cases r with
  | oth t' =>
    rw [ety]
    exact iteT (err none _ _ g0 rfl fun i h => by cases h)
  | seq ds =>
  rw [ety]
  obtain ⟨a, xs, rfl, sa, da, _⟩ := hv
  have ln := dps_len da
  refine iteF ⟨_, rfl, a, xs, rfl, sa.same g0, _, _, rfl, rfl, _, rfl, ?_⟩
  rw [ln]
  by_cases c60 : 60 < ds.length
  · rw [decide_eq_true (show (60 : Int) < (ds.length : Int) by omega)]
    refine iteT (err none _ _ g0 ?_ fun i h => by cases h)
    rw [et, if_pos c60]
  rw [decide_eq_false (show ¬ (60 : Int) < (ds.length : Int) by omega)]
  refine iteF ⟨_, rfl, a, rfl, ?_⟩
  rcases sa with h1 | h1
  · have sa : SqA K H a xs := .inl h1
    have h0 := g0.seq h1
    refine .inl ⟨xs, h0, for_it (walk_enum (xs := xs)) (fun i σ' H' => ∃ z3 z4, σ' = [some (.ref p), some (.ref c), some (.ref a), z3, z4] ∧ Same H H' ∧ firstBad (rowD hs.length (as.map Prod.snd) ss.length) 0 ds = firstBad (rowD hs.length (as.map Prod.snd) ss.length) i (ds.drop i)) ⟨_, _, rfl, g0, rfl⟩ (fun i σ' H' _ z => ?_) ?_ ?_⟩
    · obtain ⟨_, _, _, g, _⟩ := z
      exact g.seq h1
    · rintro i x σ1 H1 H2 hi ⟨z3, z4, rfl, g, e⟩ ⟨T2, x1, x2, rfl, hT, rfl, hx1, hx2⟩
      dsimp only at hx1 hx2
      cases hx1
      obtain ⟨d, hd', dx'⟩ : ∃ d, ds[i]? = some d ∧ Dp K H x2 d := by
        have hi2 : i < ds.length := by omega
        obtain ⟨y, hy, dy⟩ := dps_get da (List.getElem?_eq_getElem hi2)
        rw [hx2] at hy
        cases hy
        exact ⟨_, List.getElem?_eq_getElem hi2, dy⟩
      have gT := g.trans (same_new hT (.tup [.int (i : Nat), x2]))
      refine ⟨T2, _, rfl, SqT.of upd_same, rfl, _, _, rfl, _, _, rfl, rfl, ?_⟩
      refine ⟨_, rfl, _, rfl, c, hs, as, ss, x2, d, rfl, ColsAt.same gT hc, dp_same gT _ _ dx', ro d (List.mem_of_getElem? hd'), fun H3 g3 => ⟨_, rfl, ?_⟩⟩
      have g4 := gT.trans g3
      rw [first_at hd'] at e
      cases cr : rowD hs.length (as.map Prod.snd) ss.length d with
      | true =>
        rw [cr, if_pos rfl] at e
        exact iteF ⟨_, _, rfl, g4, e⟩
      | false =>
        rw [cr, if_neg Bool.false_ne_true] at e
        refine iteT ⟨_, rfl, err (some i) [] _ g4 ?_ ?_⟩
        · rw [et, if_neg c60, e]
          rfl
        · intro j hj
          cases hj
          omega
    · rintro σ1 H1 ⟨z3, z4, rfl, g, e⟩
      rw [ln, List.drop_of_length_le (Nat.le_refl _)] at e
      have en : tabR hs.length (as.map Prod.snd) ss.length (.seq ds) = none := by
        rw [et, if_neg c60, e]
        rfl
      have hp1 := g _ _ hp
      refine ⟨_, rfl, _, rfl, p, T.c_Table, dx, [], rfl, hp1, T.cl_Table, T.n_Table_columns, (by decide), ?_⟩
      have b2 := but_put (o := .ins T.c_Table dx (putF "columns" (.ref c) [])) (Same.but (d := p) g)
      have p2 : upd H1 p (.ins T.c_Table dx (putF "columns" (.ref c) [])) p = some (.ins T.c_Table dx (putF "columns" (.ref c) [])) := upd_same
      have s2 : SqA K (upd H1 p (.ins T.c_Table dx (putF "columns" (.ref c) []))) a xs := sqa_put hp1 (sa.same g)
      generalize upd H1 p (.ins T.c_Table dx (putF "columns" (.ref c) [])) = H2 at *
      refine ⟨_, rfl, a, _, rfl, s2, fun t H3 g3 t3 => ?_⟩
      have p3 := g3 _ _ p2
      refine ⟨_, rfl, p, T.c_Table, dx, _, rfl, p3, T.cl_Table, T.n_Table_rows, (by show (1 : Nat) < 1000; decide), ?_⟩
      refine kQ en a xs rfl sa (fun _ e => by cases e; exact da) _ (but_put (b2.same g3)) ⟨dx, t, ?_, sqt_put p3 t3⟩
      rw [upd_same, tabF]
  · have sa : SqA K H a xs := .inr h1
    have h0 := Same.tup g0 h1
    refine .inr ⟨xs, h0, for_it (walk_enumT (xs := xs)) (fun i σ' H' => ∃ z3 z4, σ' = [some (.ref p), some (.ref c), some (.ref a), z3, z4] ∧ Same H H' ∧ firstBad (rowD hs.length (as.map Prod.snd) ss.length) 0 ds = firstBad (rowD hs.length (as.map Prod.snd) ss.length) i (ds.drop i)) ⟨_, _, rfl, g0, rfl⟩ (fun i σ' H' _ z => ?_) ?_ ?_⟩
    · obtain ⟨_, _, _, g, _⟩ := z
      exact Same.tup g h1
    · rintro i x σ1 H1 H2 hi ⟨z3, z4, rfl, g, e⟩ ⟨T2, x1, x2, rfl, hT, rfl, hx1, hx2⟩
      dsimp only at hx1 hx2
      cases hx1
      obtain ⟨d, hd', dx'⟩ : ∃ d, ds[i]? = some d ∧ Dp K H x2 d := by
        have hi2 : i < ds.length := by omega
        obtain ⟨y, hy, dy⟩ := dps_get da (List.getElem?_eq_getElem hi2)
        rw [hx2] at hy
        cases hy
        exact ⟨_, List.getElem?_eq_getElem hi2, dy⟩
      have gT := g.trans (same_new hT (.tup [.int (i : Nat), x2]))
      refine ⟨T2, _, rfl, SqT.of upd_same, rfl, _, _, rfl, _, _, rfl, rfl, ?_⟩
      refine ⟨_, rfl, _, rfl, c, hs, as, ss, x2, d, rfl, ColsAt.same gT hc, dp_same gT _ _ dx', ro d (List.mem_of_getElem? hd'), fun H3 g3 => ⟨_, rfl, ?_⟩⟩
      have g4 := gT.trans g3
      rw [first_at hd'] at e
      cases cr : rowD hs.length (as.map Prod.snd) ss.length d with
      | true =>
        rw [cr, if_pos rfl] at e
        exact iteF ⟨_, _, rfl, g4, e⟩
      | false =>
        rw [cr, if_neg Bool.false_ne_true] at e
        refine iteT ⟨_, rfl, err (some i) [] _ g4 ?_ ?_⟩
        · rw [et, if_neg c60, e]
          rfl
        · intro j hj
          cases hj
          omega
    · rintro σ1 H1 ⟨z3, z4, rfl, g, e⟩
      rw [ln, List.drop_of_length_le (Nat.le_refl _)] at e
      have en : tabR hs.length (as.map Prod.snd) ss.length (.seq ds) = none := by
        rw [et, if_neg c60, e]
        rfl
      have hp1 := g _ _ hp
      refine ⟨_, rfl, _, rfl, p, T.c_Table, dx, [], rfl, hp1, T.cl_Table, T.n_Table_columns, (by decide), ?_⟩
      have b2 := but_put (o := .ins T.c_Table dx (putF "columns" (.ref c) [])) (Same.but (d := p) g)
      have p2 : upd H1 p (.ins T.c_Table dx (putF "columns" (.ref c) [])) p = some (.ins T.c_Table dx (putF "columns" (.ref c) [])) := upd_same
      have s2 : SqA K (upd H1 p (.ins T.c_Table dx (putF "columns" (.ref c) []))) a xs := sqa_put hp1 (sa.same g)
      generalize upd H1 p (.ins T.c_Table dx (putF "columns" (.ref c) [])) = H2 at *
      refine ⟨_, rfl, a, _, rfl, s2, fun t H3 g3 t3 => ?_⟩
      have p3 := g3 _ _ p2
      refine ⟨_, rfl, p, T.c_Table, dx, _, rfl, p3, T.cl_Table, T.n_Table_rows, (by show (1 : Nat) < 1000; decide), ?_⟩
      refine kQ en a xs rfl sa (fun _ e => by cases e; exact da) _ (but_put (b2.same g3)) ⟨dx, t, ?_, sqt_put p3 t3⟩
      rw [upd_same, tabF]

end
end My
set_option Elab.async false
set_option linter.all false
set_option maxRecDepth 100000
set_option maxHeartbeats 400000
namespace My
open PySem L2 PySem.Spec PyProof.Rows
section
variable {P : Program} {w : World} {K : PySem.W.Frag} {mg : Str → Option Value} {base : Heap}
/-! ### entities -/
/-- a good row: its block and its keys -/
structure Row4 where
  b : Int
  ks : List Int
  v : PyData
  s : PyData
def Row4.d (r : Row4) : PyData := .tuple [.int r.b, .tuple (r.ks.map PyData.int), r.v, r.s]
theorem near_ints : ∀ {ds : List PyData}, (ds.all nearD) = true → ∃ ks : List Int, ds = ks.map PyData.int
  | [], _ => ⟨[], rfl⟩
  | d :: ds, h => by
    rw [List.all_cons, Bool.and_eq_true] at h
    obtain ⟨ks, rfl⟩ := near_ints h.2
    cases d with
    | int i => exact ⟨i :: ks, rfl⟩
    | _ => cases h.1
theorem row_good {hn sn : Nat} {bs : List Bool} {d : PyData} (h : rowD hn bs sn d = true) : ∃ r : Row4, d = r.d ∧ r.ks.length = hn := by
  match d, h with
  | .tuple [b, k, v, s], h =>
    have h' : (betD 0 1000000 b && (numsD hn k && (valuesD bs v && numsD sn s))) = true := h
    rw [Bool.and_eq_true, Bool.and_eq_true] at h'
    obtain ⟨hb, hk, _⟩ := h'
    cases b with
    | int i =>
      cases k with
      | tuple ds =>
        have hk' : (if ds.length = hn then ds.all nearD else false) = true := hk
        by_cases c : ds.length = hn
        · rw [if_pos c] at hk'
          obtain ⟨ks, rfl⟩ := near_ints hk'
          exact ⟨⟨i, ks, v, s⟩, rfl, by rw [← c, List.length_map]⟩
        · rw [if_neg c] at hk'
          cases hk'
      | _ => cases hk
    | _ => cases hb
/-- the entity of a row of a kind: its block, or the key at a place -/
inductive KindAt (hs : List Str) : Str → Option Nat → Prop
  | block : KindAt hs "block" none
  | key {j : Nat} {n : Str} (at_ : hs[j]? = some n) (first : ∀ m, m < j → hs[m]? ≠ some n) (len : n.length ≤ 8) : KindAt hs (("key " : Str) ++ n) (some j)
def entI (r : Row4) : Option Nat → Int
  | none => r.b
  | some j => r.ks.getD j 0
def sp_entity (C CT : Addr) (K : PySem.W.Frag) : Sp := fun vs H Q _ => ∃ (p c : Addr) (hs : List Str) (as : List (Str × Bool)) (ss : List Str) (xs : List V) (rs : List Row4) (i : Nat) (r : Row4) (k : Str) (o : Option Nat), vs = [.ref p, .int (i : Int), .str k] ∧ TabAt K CT H p c xs ∧ ColsAt K C H c hs as ss ∧ DpAll K H xs (rs.map Row4.d) ∧
  rs[i]? = some r ∧ r.ks.length = hs.length ∧ KindAt hs k o ∧ Q (.int (entI r o)) H
theorem cut_key (n : Str) : cutS (("key " : Str) ++ n) (some (4 : Int)) none = n := by
  obtain ⟨c⟩ := n
  have e4 : (("key " : Str)).cps.size = 4 := by decide +kernel
  have el : (("key " : Str) ++ ⟨c⟩ : Str).cps = ("key " : Str).cps ++ c := rfl
  have e0 : (("key " : Str) ++ ⟨c⟩ : Str).length = 4 + c.size := by
    show (("key " : Str) ++ ⟨c⟩ : Str).cps.size = _
    rw [el, Array.size_append, e4]
  have i0 : HT.sIx (4 + c.size) 0 (some (4 : Int)) = 4 := by
    have := HT.sIx_nat (4 + c.size) 0 4
    rw [show ((4 : Nat) : Int) = 4 from rfl] at this
    rw [this]
    omega
  unfold cutS
  rw [e0, i0, HT.sIx_none, el]
  congr 1
  have l4 : ("key " : Str).cps.toList.length = 4 := by rw [Array.length_toList, e4]
  have e1 : (("key " : Str).cps ++ c).toList.drop 4 = c.toList := by
    rw [Array.toList_append, List.drop_append_of_le_length (by omega), List.drop_of_length_le (by omega), List.nil_append]
  rw [e1, List.take_of_length_le (by rw [Array.length_toList]; omega)]
theorem key_block (n : Str) : (V.str (("key " : Str) ++ n) = V.str "block") → False := fun e => by
  have e1 : (("key " : Str) ++ n).cps = ("block" : Str).cps := congrArg Str.cps (V.str.inj e)
  have e2 := congrArg (fun a => a[0]?) e1
  have e3 : (("key " : Str) ++ n).cps = ("key " : Str).cps ++ n.cps := rfl
  have e4 : (("key " : Str)).cps.size = 4 := by decide +kernel
  simp only [e3] at e2
  rw [Array.getElem?_append_left (by omega)] at e2
  exact absurd e2 (by decide +kernel)
theorem lookT {v1 v2 : V} : List.lookup ("columns" : Str) [(("columns" : Str), v1), (("rows" : Str), v2)] = some v1 ∧ List.lookup ("rows" : Str) [(("columns" : Str), v1), (("rows" : Str), v2)] = some v2 := ⟨look_head, (look_tail (by decide +kernel)).trans look_head⟩
theorem dk_get {K : PySem.W.Frag} {H : Hp} {kv : List V} {ks : List Int} {j : Nat} {i : Int} (h : DpAll K H kv (ks.map PyData.int)) (e : ks[j]? = some i) : kv[j]? = some (.int i) := by
  obtain ⟨v, hv, dv⟩ := dps_get h (show (ks.map PyData.int)[j]? = some (.int i) by rw [List.getElem?_map, e]; rfl)
  rw [hv, dp_int dv]
theorem ok_Table_entity (T : Txt K mg) : FnOk P w K mg base CX0 1 T.a_Table_entity T.d_Table_entity ["self", "number", "kind"] (sp_entity T.c_Columns T.c_Table K) := by

  refine T.F_Table_entity.ok sc_Table_entity (fun vs H Q E h => ?_) (fun cdv A outer s H vs Q E hr h => ?_)
  · obtain ⟨p, c, hs, as, ss, xs, rs, i, r, k, o, rfl, _⟩ := h
    rfl
  obtain ⟨p, c, hs, as, ss, xs, rs, i, r, kd, o, rfl, ⟨dx, t, t1, t2⟩, ⟨dy, th, D, u, h1, h2, h3, h4⟩, da, hi, len, hk, k⟩ := h
  refine ⟨_, (pss_cons (ps_set (i := 3) sc_Table_entity.nd rfl (by first | exact Or.inl rfl | exact Or.inr rfl) (pe_ix ix_tup (pe_fld (pv 0) rfl) (pv 1) (fun _ _ => rfl)))
    (pss_cons (ps_if (pt_cmpR op_eq (pv 2) pe_str (nomark _)) (pss_one (ps_ret (pe_ix ix_tup (pv 3) pe_int (fun _ _ => rfl)))) pss_nil)
    (pss_one (ps_ret (pe_ix ix_tup (pe_ix ix_tup (pv 3) pe_int (fun _ _ => rfl)) (pe_bmT PySem.F.plainAttrs_tuple PySem.F.slot_tuple_index PySem.F.type_tuple_index mt_tup_index (pe_fld (pe_fld (pv 0) rfl) rfl) (pa_cons (pe_slice sl_str (pv 2) (po_some (pe_callB call_len_str (by rfl) T.z_len (by decide +kernel) (pa_cons (pe_glob (v := .str "key ") (by rfl) T.m_KEY ⟨_, rfl⟩) pa_nil))) po_none) pa_nil)) (fun _ _ => rfl)))))), ?_⟩
  obtain ⟨v, hv, dv⟩ := dps_get da (show (rs.map Row4.d)[i]? = some r.d by rw [List.getElem?_map, hi]; rfl)
  obtain ⟨a, ys, rfl, ha, dys⟩ := dp_tup dv
  obtain ⟨y1, y2, y3, y4, rfl, e1, e2, _, _⟩ := dps_four dys
  obtain rfl := dp_int e1
  obtain ⟨ka, kv, rfl, hka, dka⟩ := dp_tup e2
  refine ⟨_, rfl, p, T.c_Table, dx, _, _, rfl, t1, T.cl_Table, T.n_Table_rows, lookT.2, _, rfl, t, xs, _, _, rfl, rfl, t2, atI_nat hv, ?_⟩
  refine ⟨_, rfl, rfl, ⟨_, rfl, ?_⟩⟩
  cases hk with
  | block =>
    show if (decide (V.str "block" = V.str "block")) = true then _ else _
    rw [decide_eq_true rfl]
    exact iteT ⟨_, rfl, a, _, _, _, rfl, rfl, ha, atI_nat (j := 0) rfl, k⟩
  | @key j n at_ first len8 =>
    show if (decide (V.str (("key " : Str) ++ n) = V.str "block")) = true then _ else _
    rw [decide_eq_false (key_block n)]
    refine iteF ⟨_, rfl, a, _, _, _, rfl, rfl, ha, atI_nat (j := 1) rfl, ?_⟩
    have hkj : r.ks[j]? = some (r.ks.getD j 0) := by
      have lt := (List.getElem?_eq_some_iff.mp at_).1
      rw [List.getD_eq_getElem?_getD, List.getElem?_eq_getElem (by omega)]
      rfl
    refine ⟨_, rfl, p, T.c_Table, dx, _, _, rfl, t1, T.cl_Table, T.n_Table_columns, lookT.1, c, T.c_Columns, dy, _, _, rfl, h1, T.cl_Columns, T.n_Columns_hashed, look3.1, ?_⟩
    have e4 : (("key " : Str)).length = 4 := by decide +kernel
    refine ⟨th, _, rfl, h2, ⟨_, rfl, ⟨_, rfl, (by rw [e4]; decide), _, rfl, ?_⟩⟩⟩
    refine ⟨_, rfl, Nat.le_of_lt (small1001 ?_), ?_⟩
    · show (("key " : Str) ++ n).cps.size ≤ 1010
      have el : (("key " : Str) ++ n).cps = ("key " : Str).cps ++ n.cps := rfl
      have e5 : (("key " : Str)).cps.size = 4 := e4
      have e6 : n.cps.size ≤ 8 := len8
      rw [el, Array.size_append, e5]
      omega
    · rw [e4, show (((4 : Nat) : Int)) = (4 : Int) from rfl, cut_key]
      refine ⟨th, hs, n, j, rfl, rfl, h2.sq, at_, first, ?_⟩
      exact ⟨ka, _, _, _, rfl, rfl, hka, atI_nat (dk_get dka hkj), k⟩

end
end My
set_option Elab.async false
set_option linter.all false
set_option maxRecDepth 100000
set_option maxHeartbeats 400000
namespace My
open PySem L2 PySem.Spec PyProof.Rows
section
variable {P : Program} {w : World} {K : PySem.W.Frag} {mg : Str → Option Value} {base : Heap}
/-! ### all entities of a kind -/
theorem sc_it {wd : World} {J : It} {n : Nat} {G : Hp → Prop} {Y : Nat → Hp → V → Hp → Prop} (wk : Walk J n G Y) {g : TG} {tt : TT} {te : TE} {vs : List Nat} {σ : L2.St} {H1 : Hp} {D : Addr} {Qd : Hp → Prop} (Pv : Nat → Hp → Prop) (h0 : Pv 0 (upd H1 D (SetO wd D (fun _ => false) 0))) (hl : ∀ i H, i ≤ n → Pv i H → G H)
    (hs : ∀ i x H H', i < n → Pv i H → Y i H x H' → g x (wipe σ vs) H' fun σ2 H2 => wipe σ2 vs = wipe σ vs ∧ tt σ2 H2 fun b H3 =>
      if b = true then te σ2 H3 fun y H4 => ∃ (k : Int) (S : Int → Bool) (c : Nat), y = .int k ∧ H4 D = some (SetO wd D S c) ∧ c + 1 < scanBound ∧ Pv (i + 1) (upd H4 D (SetO wd D (fun j => S j || decide (j = k)) (if S k = true then c else c + 1))) else Pv (i + 1) H3) (hd : ∀ H, Pv n H → Qd H) :
    ∃ W : Nat → Nat → Hp → Prop, (∃ m, W 0 m (upd H1 D (SetO wd D (fun _ => false) 0))) ∧ ∀ i m H, W i m H →
      (J.stop i H ∧ Qd H) ∨ (J.go i H ∧ ∃ Nx : Hp → Prop, (∀ H', Nx H' → ∃ m', m' < m ∧ W (i + 1) m' H') ∧ ∀ x H', J.yld i H x H' → g x (wipe σ vs) H' fun σ2 H2 => wipe σ2 vs = wipe σ vs ∧ tt σ2 H2 fun b H3 =>
        if b = true then te σ2 H3 fun y H4 => ∃ (k : Int) (S : Int → Bool) (c : Nat), y = .int k ∧ H4 D = some (SetO wd D S c) ∧ c + 1 < scanBound ∧ Nx (upd H4 D (SetO wd D (fun j => S j || decide (j = k)) (if S k = true then c else c + 1))) else Nx H3) := by
  refine ⟨fun i m H => i + m = n ∧ Pv i H, ⟨n, by simp, h0⟩, fun i m H w => ?_⟩
  obtain ⟨e, p⟩ := w
  have q := hl i H (by omega) p
  cases m with
  | zero =>
    obtain rfl : i = n := by omega
    exact .inl ⟨wk.stops H q, hd H p⟩
  | succ m =>
    have lt : i < n := by omega
    exact .inr ⟨wk.goes i H lt q, Pv (i + 1), fun H' z => ⟨m, Nat.lt_succ_self _, by omega, z⟩, fun x H' y => hs i x H H' lt p (wk.yields i H x H' lt q y)⟩
theorem hasI_all (ns : List Int) (y : Int) : hasI ns ns.length y = true ↔ y ∈ ns := by
  unfold hasI
  rw [List.take_of_length_le (Nat.le_refl _), List.any_eq_true]
  constructor
  · rintro ⟨z, hz, e⟩
    rw [← eq_of_beq e]
    exact hz
  · exact fun h => ⟨y, h, beq_self_eq_true _⟩
def sp_entities (C CT : Addr) (K : PySem.W.Frag) : Sp := fun vs H Q _ => ∃ (p c : Addr) (hs : List Str) (as : List (Str × Bool)) (ss : List Str) (xs : List V) (rs : List Row4) (k : Str) (o : Option Nat), vs = [.ref p, .str k] ∧ TabAt K CT H p c xs ∧ ColsAt K C H c hs as ss ∧ DpAll K H xs (rs.map Row4.d) ∧
  rs.length ≤ 60 ∧ (∀ r ∈ rs, r.ks.length = hs.length) ∧ KindAt hs k o ∧ ∀ (ns : List Int) (q : Addr) (H' : Hp), Same H H' → ns.Pairwise (· < ·) → (∀ z, z ∈ ns ↔ z ∈ rs.map fun r => entI r o) → ns.length ≤ 60 → SqT K H' q (ns.map V.int) → Q (.ref q) H'
theorem TabAt.same {K : PySem.W.Frag} {CT : Addr} {H H' : Hp} {p c : Addr} {xs : List V} (g : Same H H') (h : TabAt K CT H p c xs) : TabAt K CT H' p c xs := by
  obtain ⟨dx, t, h1, h2⟩ := h
  exact ⟨dx, t, g _ _ h1, Same.tup g h2⟩
theorem ok_Table_entities (T : Txt K mg) : FnOk P w K mg base CX0 3 T.a_Table_entities T.d_Table_entities ["self", "kind"] (sp_entities T.c_Columns T.c_Table K) := by
  have G_Table_entity := ok_Table_entity (P := P) (w := w) (base := base) T
  refine T.F_Table_entities.ok sc_Table_entities (fun vs H Q E h => ?_) (fun cdv A outer s H vs Q E hr h => ?_)
  · obtain ⟨p, c, hs, as, ss, xs, rs, k, o, rfl, _⟩ := h
    rfl
  obtain ⟨p, c, hs, as, ss, xs, rs, kd, o, rfl, ht, hc, da, few, lens, hk, k⟩ := h
  refine ⟨_, (pss_one (ps_ret (pe_callTy call_tuple_of (by rfl) T.z_tuple (by decide +kernel) (pa_cons (pe_callB (cr_sortedSet rfl) (by rfl) T.z_sorted (by decide +kernel) (pa_cons (pe_sc (own := [("number", 2)]) rfl sc_Table_entities.nd (pi_range1 (by rfl) T.z_range (pa_cons (pe_callB call_len_seq (by rfl) T.z_len (by decide +kernel) (pa_cons (pe_fld (pv 0) rfl) pa_nil)) pa_nil)) (blkOk_by (own := [("number", 2)]) (N := ["self", "kind", "number"]) (sc := defScope s_Table_entities) (by decide +kernel)) (fun _ _ _ _ _ => (pg_name (i := 2) sc_Table_entities.nd rfl (by first | exact Or.inl rfl | exact Or.inr rfl))) (fun _ _ _ _ _ => pts_nil) (fun _ _ _ _ _ => (pe_meth (pv 0) T.cl_Table T.q_Table_entity G_Table_entity (hr.mono (by first | decide | omega)) T.b_Table_entity .nil pass0 (pa_cons (pv 2) (pa_cons (pv 1) pa_nil))))) pa_nil)) pa_nil)))), ?_⟩
  obtain ⟨dx, t, t1, t2⟩ := ht
  have ht : TabAt K T.c_Table H p c xs := ⟨dx, t, t1, t2⟩
  have ln : xs.length = rs.length := by rw [dps_len da, List.length_map]
  have tabL : List.lookup ("entity" : Str) [(("columns" : Str), V.ref c), (("rows" : Str), V.ref t)] = none := (look_tail (by decide +kernel)).trans ((look_tail (by decide +kernel)).trans rfl)
  let es : List Int := rs.map fun r => entI r o
  have les : es.length = rs.length := List.length_map ..
  refine ⟨_, rfl, p, T.c_Table, dx, _, _, rfl, t1, T.cl_Table, T.n_Table_rows, lookT.2, t, _, rfl, .inr t2, (xs.length : Int), rfl, by omega, by omega, fun D hD => ?_⟩
  refine sc_it (wd := w) (walk_range (lo := 0) (n := ((xs.length : Int)).toNat)) (fun i H' => Same H H' ∧ H' D = some (SetO w D (hasI es i) (newI es i))) ⟨same_new hD _, upd_same⟩ (fun _ _ _ _ => trivial) ?_ ?_
  · rintro i x H' H'' hi ⟨g, e⟩ ⟨e1, e2⟩
    subst e1
    have hi2 : i < rs.length := by omega
    have ge : es.getD i 0 = entI rs[i] o := by
      rw [List.getD_eq_getElem?_getD, List.getElem?_map, List.getElem?_eq_getElem hi2]
      rfl
    have ex : x = V.int (i : Int) := by
      rw [e2]
      show V.int (0 + (i : Int)) = _
      rw [Int.zero_add]
    subst ex
    refine ⟨rfl, _, rfl, p, dx, _, rfl, g _ _ t1, tabL, _, rfl, _, rfl, p, c, hs, as, ss, xs, rs, i, rs[i], kd, o, rfl, TabAt.same g ht, ColsAt.same g hc, dps_same g _ _ da, List.getElem?_eq_getElem hi2, lens _ (List.getElem_mem _), hk, _, _, _, rfl, e, ?_, same_upd g hD, ?_⟩
    · have := newI_le es i
      unfold scanBound
      omega
    · rw [upd_same, ← ge]
      have f1 : (fun j => hasI es i j || decide (j = es.getD i 0)) = hasI es (i + 1) := funext fun y => hasI_more (by omega) y
      rw [f1]
      rfl
  · rintro H' ⟨g, e⟩
    have el : ((xs.length : Int)).toNat = es.length := by omega
    rw [el] at e
    have nle := newI_le es es.length
    refine ⟨D, _, _, rfl, e, by omega, fun ns l so mem hlen hl => ?_⟩
    refine ⟨l, _, rfl, .inl ⟨SqL.of upd_same, fun q hq => k ns q _ (g.trans ((same_new hl _).trans (same_new hq _))) so (fun z => ?_) (by omega) (SqT.of upd_same)⟩⟩
    rw [mem z]
    exact hasI_all es z

end
end My
set_option Elab.async false
set_option linter.all false
set_option maxRecDepth 100000
set_option maxHeartbeats 400000
namespace My
open PySem L2 PySem.Spec PyProof.Rows
section
variable {P : Program} {w : World} {K : PySem.W.Frag} {mg : Str → Option Value} {base : Heap}
/-! ### len and == of tables -/
def sp_tlen (CT : Addr) (K : PySem.W.Frag) : Sp := fun vs H Q _ => ∃ (p c : Addr) (xs : List V), vs = [.ref p] ∧ TabAt K CT H p c xs ∧ Q (.int (xs.length : Int)) H
theorem ok_Table_len (T : Txt K mg) : FnOk P w K mg base CX0 1 T.a_Table_len T.d_Table_len ["self"] (sp_tlen T.c_Table K) := by
  refine T.F_Table_len.ok sc_Table_len (fun vs H Q E h => ?_) (fun cdv A outer s H vs Q E hr h => ?_)
  · obtain ⟨p, c, xs, rfl, _⟩ := h
    rfl
  obtain ⟨p, c, xs, rfl, ⟨dx, t, t1, t2⟩, k⟩ := h
  refine ⟨_, (pss_one (ps_ret (pe_callB call_len_seq (by rfl) T.z_len (by decide +kernel) (pa_cons (pe_fld (pv 0) rfl) pa_nil)))), ?_⟩
  exact ⟨_, rfl, p, T.c_Table, dx, _, _, rfl, t1, T.cl_Table, T.n_Table_rows, lookT.2, t, _, rfl, .inr t2, k⟩
def sp_teq (C CT : Addr) (K : PySem.W.Frag) : Sp := fun vs H Q _ => ∃ (p q c c' : Addr) (hs hs' : List Str) (as : List (Str × Bool)) (ss ss' : List Str) (xs ys : List V) (ds es : List PyData), vs = [.ref p, .ref q] ∧ TabAt K CT H p c xs ∧ TabAt K CT H q c' ys ∧ ColsAt K C H c hs as ss ∧ ColsAt K C H c' hs' as ss' ∧ ColsOk hs as ss ∧ ColsOk hs' as ss' ∧
  DpAll K H xs ds ∧ DpAll K H ys es ∧ SeqAt.shaped (.tuple ds) = true ∧ SeqAt.shaped (.tuple es) = true ∧ Q (.bl ((decide (hs = hs') && decide (ss = ss')) && PyData.eqvAll ds es)) H
theorem ok_Table_eq (T : Txt K mg) : FnOk P w K mg base CX0 3 T.a_Table_eq T.d_Table_eq ["self", "other"] (sp_teq T.c_Columns T.c_Table K) := by
  have G_Columns_eq := ok_Columns_eq (P := P) (w := w) (base := base) T
  refine T.F_Table_eq.ok sc_Table_eq (fun vs H Q E h => ?_) (fun cdv A outer s H vs Q E hr h => ?_)
  · obtain ⟨p, q, c, c', hs, hs', as, ss, ss', xs, ys, ds, es, rfl, _⟩ := h
    rfl
  obtain ⟨p, q, c, c', hs, hs', as, ss, ss', xs, ys, ds, es, rfl, ⟨dx, t, t1, t2⟩, ⟨dy, u, u1, u2⟩, h1, h2, ok1, ok2, da, db, s1, s2, k⟩ := h
  refine ⟨_, (pss_one (ps_ret (pe_and (pe_callB call_isi (by rfl) T.z_isinstance (by decide +kernel) (pa_cons (pv 1) (pa_cons (pe_glob (v := .ref T.c_Table) (by rfl) T.m_Table rfl) pa_nil))) (pe_and (pe_cmpR (op_ownEq G_Columns_eq T.q_Columns_eq.at_ T.q_Columns_eq.fn T.b_Columns_eq pass0 (hr.mono (by first | decide | omega))) (pe_fld (pv 0) rfl) (pe_fld (pv 1) rfl) (nomark _)) (pe_one (pe_cmpR (op_eqD (hu64 hr)) (pe_fld (pv 0) rfl) (pe_fld (pv 1) rfl) (nomark _))))))), ?_⟩
  have at1 := h1
  have at2 := h2
  obtain ⟨d1, _, _, _, i1, _⟩ := h1
  obtain ⟨d2, _, _, _, i2, _⟩ := h2
  refine ⟨_, rfl, _, .ref T.c_Table, _, _, true, rfl, .own _, T.ty_Table u1, kit_self _ _, _, rfl, iteT ?_⟩
  refine ⟨_, rfl, p, T.c_Table, dx, _, _, rfl, t1, T.cl_Table, T.n_Table_columns, lookT.1, _, rfl, q, T.c_Table, dy, _, _, rfl, u1, T.cl_Table, T.n_Table_columns, lookT.1, ?_⟩
  refine ⟨c, c', d1, d2, _, _, rfl, rfl, i1, i2, c, c', hs, hs', as, ss, ss', rfl, at1, at2, ok1, ok2, _, rfl, _, rfl, ?_⟩
  cases e : (decide (hs = hs') && decide (ss = ss')) with
  | false =>
    rw [e, Bool.false_and] at k
    exact iteF k
  | true =>
    rw [e, Bool.true_and] at k
    refine iteT ⟨_, rfl, p, T.c_Table, dx, _, _, rfl, t1, T.cl_Table, T.n_Table_rows, lookT.2, _, rfl, q, T.c_Table, dy, _, _, rfl, u1, T.cl_Table, T.n_Table_rows, lookT.2, .tuple ds, .tuple es, .tup t2 da, .tup u2 db, s1, s2, ?_⟩
    rw [PyData.eqv]
    exact k

end
end My
set_option Elab.async false
set_option linter.all false
set_option maxRecDepth 100000
set_option maxHeartbeats 400000
namespace My
open PySem L2 PySem.Spec PyProof.Rows
section
variable {P : Program} {w : World} {K : PySem.W.Frag} {mg : Str → Option Value} {base : Heap}
theorem next_of {D : Ends} {σ : L2.St} {H : Hp} (h : D.nx σ H) : tNext D σ H := h
/-! ### off the draw: what stands elsewhere than at d -/
theorem off_new {d q : Addr} {H : Hp} {o : HO} (h : H q = none) : Same (del H d) (del (upd H q o) d) := fun b u e => by
  by_cases c : b = d
  · rw [c, del_same] at e
    cases e
  · rw [del_ne c] at e ⊢
    exact same_new h o b u e
theorem off_but {d : Addr} {H H' : Hp} (h : But d H H') : Same (del H d) (del H' d) := fun b u e => by
  by_cases c : b = d
  · rw [c, del_same] at e
    cases e
  · rw [del_ne c] at e ⊢
    exact h b u c e
theorem off_same {d : Addr} {H H' : Hp} (h : Same H H') : Same (del H d) (del H' d) := off_but (Same.but h)
theorem off_in {d : Addr} {H : Hp} : Same (del H d) H := fun b u e => by
  by_cases c : b = d
  · rw [c, del_same] at e
    cases e
  · rw [del_ne c] at e
    exact e
theorem off_at {d a : Addr} {H : Hp} {o : HO} (h : H a = some o) (n : a ≠ d) : del H d a = some o := by
  rw [del_ne n]
  exact h
theorem Drw.at {K : PySem.W.Frag} {H : Hp} {d : Addr} (h : Drw K H d) : ∃ ys, H d = some (.lst ys) := by
  obtain ⟨a, ns, i, h1, _⟩ := h
  exact ⟨_, h1⟩
theorem drw_ne {K : PySem.W.Frag} {H : Hp} {d q : Addr} (h : Drw K H d) (n : H q = none) : q ≠ d := fun z => by
  obtain ⟨ys, e⟩ := h.at
  rw [z, e] at n
  cases n
/-- the parts of drawn columns -/
def ClAt (K : PySem.W.Frag) (d : Addr) (H : Hp) (cl : Addr) (hs : List Str) (as : List (Str × Bool)) (ss : List Str) : Prop := ∃ l a s, H cl = some (.tup [.ref l, .ref a, .ref s]) ∧ cl ≠ d ∧ l ≠ d ∧ a ≠ d ∧ s ≠ d ∧ SqL K H l (hs.map V.str) ∧ H a = some (.dK (kvsOf as)) ∧ SqL K H s (ss.map V.str)
theorem ClAt.but {K : PySem.W.Frag} {d : Addr} {H H' : Hp} {cl : Addr} {hs : List Str} {as : List (Str × Bool)} {ss : List Str} (h : ClAt K d H cl hs as ss) (b : But d H H') : ClAt K d H' cl hs as ss := by
  obtain ⟨l, a, s, h1, n0, n1, n2, n3, h2, h3, h4⟩ := h
  exact ⟨l, a, s, b _ _ n0 h1, n0, n1, n2, n3, b.seq n1 h2, b _ _ n2 h3, b.seq n3 h4⟩
theorem le_line {n : Nat} (h : n ≤ 1000) : n ≤ sizeLine := Nat.le_of_lt (small1000 h)
def hsL : List (List Str) := [[], ["k"], ["k"], ["k", "llllllll"]]
def ssL : List (List Str) := [["x"], ["x"], ["x", "yyyyyyyy"]]
def bigA : List (Str × Bool) := [("v", true), ("w", false), ("vvvvvvvv", true), ("ww", false)]
def asL : List (List (Str × Bool)) := [[], [("v", true)], [("v", true), ("w", false)], [("w", false)]]
theorem drawn_ok : ∀ hs, hs ∈ hsL → ∀ as, as ∈ bigA :: asL → ∀ ss, ss ∈ ssL → wrongR (.seq (hs.map PyData.str)) (.dic (kvsOf as)) (.seq (ss.map PyData.str)) = none := by decide +kernel
theorem drawn_nd : ∀ as, as ∈ bigA :: asL → (as.map Prod.fst).Nodup := by decide +kernel
def tStrs : List Str → TA
  | [] => tNil
  | x :: r => tCons (tC (.str x)) (tStrs r)
def tLs : List (List Str) → TA
  | [] => tNil
  | xs :: r => tCons (tLst (tStrs xs)) (tLs r)
theorem lay_strs : ∀ (xs : List Str) {σ : L2.St} {H : Hp} {Q : List V → Hp → Prop}, Q (xs.map V.str) H → tStrs xs σ H Q
  | [], _, _, _, h => h
  | x :: r, σ, H, Q, h => lay_strs r (Q := fun vs H' => Q (.str x :: vs) H') h
theorem lay_lists {d : Addr} : ∀ (xss : List (List Str)) (_ : ∀ xs, xs ∈ xss → xs.length ≤ 1000) {σ : L2.St} {H : Hp} {Q : List V → Hp → Prop}, (∃ o, H d = some o) →
    (∀ (rs : List V) (H' : Hp), Same H H' → rs.length = xss.length → (∀ (i : Nat) (v : V), rs[i]? = some v → ∃ l xs, xs ∈ xss ∧ v = V.ref l ∧ l ≠ d ∧ H' l = some (.lst (xs.map V.str))) → Q rs H') → tLs xss σ H Q
  | [], _, _, H, _, _, k => k [] H (Same.refl H) rfl fun i v h => by simp at h
  | xs :: r, hl, σ, H, Q, ht, k => by
    show tCons (tLst (tStrs xs)) (tLs r) σ H Q
    refine lay_strs xs ⟨le_line (by rw [List.length_map]; exact hl xs (List.mem_cons_self ..)), fun p hp => ?_⟩
    obtain ⟨o, ho⟩ := ht
    have np : p ≠ d := fun z => by
      rw [z, ho] at hp
      cases hp
    refine lay_lists r (fun x hx => hl x (List.mem_cons_of_mem _ hx)) ⟨o, same_new hp _ _ _ ho⟩ fun rs H' g le all_ => k (.ref p :: rs) H' ((same_new hp _).trans g) (by rw [List.length_cons, List.length_cons, le]) fun i v hv => ?_
    cases i with
    | zero =>
      obtain rfl := Option.some.inj hv
      exact ⟨p, xs, List.mem_cons_self .., rfl, np, g _ _ upd_same⟩
    | succ i =>
      obtain ⟨l, ys, h1, h2⟩ := all_ i v hv
      exact ⟨l, ys, List.mem_cons_of_mem _ h1, h2⟩
def prs (as : List (Str × Bool)) : List (TE × TE) := as.map fun p => (tC (.str p.1), tC (kindV p.2))
theorem pairs_as : ∀ (as : List (Str × Bool)) {σ : L2.St} {H : Hp} {Q : List (V × V) → Hp → Prop}, Q (as.map fun p => (V.str p.1, kindV p.2)) H → tPairs (prs as) σ H Q
  | [], _, _, _, h => h
  | p :: r, σ, H, Q, h => pairs_as r (Q := fun ps H' => Q ((.str p.1, kindV p.2) :: ps) H') h
theorem upd_twice {H : Hp} {p : Addr} {o o' : HO} : upd (upd H p o) p o' = upd H p o' := by
  funext b
  by_cases c : b = p
  · rw [c, upd_same, upd_same]
  · rw [upd_ne c, upd_ne c, upd_ne c]
theorem merge_as : ∀ (as bs : List (Str × Bool)), ((bs ++ as).map Prod.fst).Nodup → mergeK (kvsOf bs) (kvsOf as) = kvsOf (bs ++ as)
  | [], bs, _ => by
    rw [List.append_nil]
    rfl
  | p :: r, bs, nd => by
    have n : p.1 ∉ bs.map Prod.fst := fun z => by
      rw [List.map_append, List.nodup_append] at nd
      exact nd.2.2 _ z _ (List.mem_cons_self ..) rfl
    have n2 : (Sum.inr p.1 : Key) ∉ (kvsOf bs).map Prod.fst := fun z => by
      have e : (kvsOf bs).map Prod.fst = (bs.map Prod.fst).map Sum.inr := keys_kvs bs
      rw [e] at z
      obtain ⟨m, hm, em⟩ := List.mem_map.mp z
      cases em
      exact n hm
    show mergeK (putK (kvsOf bs) (Sum.inr p.1) (kindV p.2)) (kvsOf r) = _
    rw [putK_new _ _ _ n2]
    have e : kvsOf bs ++ [(Sum.inr p.1, kindV p.2)] = kvsOf (bs ++ [p]) := by
      unfold kvsOf
      rw [List.map_append]
      rfl
    rw [e, merge_as r (bs ++ [p]) (by rw [List.append_assoc]; exact nd), List.append_assoc]
    rfl
theorem disp_as (as : List (Str × Bool)) (nd : (as.map Prod.fst).Nodup) (l : as.length ≤ 15) {σ : L2.St} {H : Hp} {Q : VK} (k : ∀ p, H p = none → Q (.ref p) (upd H p (.dK (kvsOf as)))) : tDisp (prs as) σ H Q := fun p hp => pairs_as as ⟨upd_same, kvsOf as, by unfold kvsOf; rw [List.map_map]; rfl, by unfold kvsOf; rw [List.length_map]; exact l, by
  have e := merge_as as [] nd
  rw [show kvsOf [] = [] from rfl, List.nil_append] at e
  rw [e, upd_twice]
  exact k p hp⟩
def sp_lcols (K : PySem.W.Frag) : Sp := fun vs H Q _ => ∃ (d : Addr), vs = [.ref d] ∧ Drw K H d ∧
  ∀ (cl : Addr) (hs : List Str) (as : List (Str × Bool)) (ss : List Str) (H' : Hp), hs ∈ hsL → as ∈ bigA :: asL → ss ∈ ssL → Drw K H' d → But d H H' → ClAt K d H' cl hs as ss → Q (.ref cl) H'
theorem ok__law_columns (T : Txt K mg) : FnOk P w K mg base CX0 4 T.a__law_columns T.d__law_columns ["draw"] (sp_lcols K) := by
  have G__law_pick := ok__law_pick (P := P) (w := w) (base := base) T
  have G__law_take := ok__law_take (P := P) (w := w) (base := base) T
  refine T.F__law_columns.ok sc__law_columns (fun vs H Q E h => ?_) (fun cdv A outer s H vs Q E hr h => ?_)
  · obtain ⟨d, rfl, _⟩ := h
    rfl
  obtain ⟨d, rfl, hD, k⟩ := h
  refine ⟨_, (pss_cons (ps_set (i := 1) sc__law_columns.nd rfl (by first | exact Or.inl rfl | exact Or.inr rfl) (pe_call G__law_pick (hr.mono (by first | decide | omega)) (by rfl) T.m__law_pick T.F__law_pick.kp T.b__law_pick .nil pass0 (pa_cons (pv 0) (pa_cons (pe_lst (pa_cons pe_dnewK (pa_cons (pe_disp (pps_cons pe_str pe_str pps_nil) rfl rfl (List.cons_ne_nil _ _) (by decide)) (pa_cons (pe_disp (pps_cons pe_str pe_str (pps_cons pe_str pe_str pps_nil)) rfl rfl (List.cons_ne_nil _ _) (by decide)) (pa_cons (pe_disp (pps_cons pe_str pe_str pps_nil) rfl rfl (List.cons_ne_nil _ _) (by decide)) pa_nil))))) pa_nil))))
    (pss_cons (ps_if (pt_cmpR op_eq (pe_call G__law_take (hr.mono (by first | decide | omega)) (by rfl) T.m__law_take T.F__law_take.kp T.b__law_take .nil pass0 (pa_cons (pv 0) (pa_cons pe_int pa_nil))) pe_int (nomark _)) (pss_one (ps_set (i := 1) sc__law_columns.nd rfl (by first | exact Or.inl rfl | exact Or.inr rfl) (pe_disp (pps_cons pe_str pe_str (pps_cons pe_str pe_str (pps_cons pe_str pe_str (pps_cons pe_str pe_str pps_nil)))) rfl rfl (List.cons_ne_nil _ _) (by decide)))) pss_nil)
    (pss_one (ps_ret (pe_tup (pa_cons (pe_call G__law_pick (hr.mono (by first | decide | omega)) (by rfl) T.m__law_pick T.F__law_pick.kp T.b__law_pick .nil pass0 (pa_cons (pv 0) (pa_cons (pe_lst (pa_cons (pe_lst pa_nil) (pa_cons (pe_lst (pa_cons pe_str pa_nil)) (pa_cons (pe_lst (pa_cons pe_str pa_nil)) (pa_cons (pe_lst (pa_cons pe_str (pa_cons pe_str pa_nil))) pa_nil))))) pa_nil))) (pa_cons (pv 1) (pa_cons (pe_call G__law_pick (hr.mono (by first | decide | omega)) (by rfl) T.m__law_pick T.F__law_pick.kp T.b__law_pick .nil pass0 (pa_cons (pv 0) (pa_cons (pe_lst (pa_cons (pe_lst (pa_cons pe_str pa_nil)) (pa_cons (pe_lst (pa_cons pe_str pa_nil)) (pa_cons (pe_lst (pa_cons pe_str (pa_cons pe_str pa_nil))) pa_nil)))) pa_nil))) pa_nil)))))))), ?_⟩
  refine seq_cut (fun σ' H' => Drw K H' d ∧ But d H H' ∧ ∃ (a : Addr) (as : List (Str × Bool)), as ∈ asL ∧ a ≠ d ∧ H' a = some (.dK (kvsOf as)) ∧ σ' = [some (.ref d), some (.ref a)]) (fun σ' H' h => ?_) (fun tail => ?_)
  rotate_left
  · refine ⟨_, rfl, fun p1 f1 => disp_as [("v", true)] (by decide +kernel) (by decide) fun p2 f2 => disp_as [("v", true), ("w", false)] (by decide +kernel) (by decide) fun p3 f3 => disp_as [("w", false)] (by decide +kernel) (by decide) fun p4 f4 => ⟨(by show 4 ≤ sizeLine; decide), fun p5 f5 => ?_⟩⟩
    have e1 : upd H p1 (.dK []) p1 = some (.dK (kvsOf [])) := upd_same
    have g1 := same_new f1 (.dK [])
    generalize upd H p1 (.dK []) = H1 at *
    have e2 : upd H1 p2 (.dK (kvsOf [("v", true)])) p2 = some (.dK (kvsOf [("v", true)])) := upd_same
    have g2 := same_new f2 (.dK (kvsOf [("v", true)]))
    generalize upd H1 p2 (.dK (kvsOf [("v", true)])) = H2 at *
    have e3 : upd H2 p3 (.dK (kvsOf [("v", true), ("w", false)])) p3 = some (.dK (kvsOf [("v", true), ("w", false)])) := upd_same
    have g3 := same_new f3 (.dK (kvsOf [("v", true), ("w", false)]))
    generalize upd H2 p3 (.dK (kvsOf [("v", true), ("w", false)])) = H3 at *
    have e4 : upd H3 p4 (.dK (kvsOf [("w", false)])) p4 = some (.dK (kvsOf [("w", false)])) := upd_same
    have g4 := same_new f4 (.dK (kvsOf [("w", false)]))
    generalize upd H3 p4 (.dK (kvsOf [("w", false)])) = H4 at *
    have g5 := same_new f5 (.lst [.ref p1, .ref p2, .ref p3, .ref p4])
    have hD1 := hD.same g1
    have hD2 := hD1.same g2
    have hD3 := hD2.same g3
    have hD4 := hD3.same g4
    refine ⟨d, p5, _, rfl, hD4.same g5, .inl ⟨SqL.of upd_same, drw_ne hD4 f5⟩, (by show 0 < 4; decide), fun j v H6 hv hD6 b6 => ?_⟩
    have n1 : p1 ≠ d := drw_ne hD f1
    have n2 : p2 ≠ d := drw_ne hD1 f2
    have n3 : p3 ≠ d := drw_ne hD2 f3
    have n4 : p4 ≠ d := drw_ne hD3 f4
    have b0 : But d H H6 := (Same.but ((((g1.trans g2).trans g3).trans g4).trans g5)).trans b6
    obtain ⟨p, as, m, n, e, rfl⟩ : ∃ (p : Addr) (as : List (Str × Bool)), as ∈ asL ∧ p ≠ d ∧ H4 p = some (.dK (kvsOf as)) ∧ v = .ref p := by
      match j, hv with
      | 0, hv => exact ⟨p1, [], by simp [asL], n1, g4 _ _ (g3 _ _ (g2 _ _ e1)), (Option.some.inj hv).symm⟩
      | 1, hv => exact ⟨p2, _, by simp [asL], n2, g4 _ _ (g3 _ _ e2), (Option.some.inj hv).symm⟩
      | 2, hv => exact ⟨p3, _, by simp [asL], n3, g4 _ _ e3, (Option.some.inj hv).symm⟩
      | 3, hv => exact ⟨p4, _, by simp [asL], n4, e4, (Option.some.inj hv).symm⟩
      | j + 4, hv => simp at hv
    exact tail _ _ ⟨hD6, b0, p, as, m, n, b6 _ _ n (g5 _ _ e), rfl⟩
  obtain ⟨hD1, b1, a0, as0, m0, n0, e0, rfl⟩ := h
  refine seq_cut (fun σ' H'' => Drw K H'' d ∧ But d H H'' ∧ ∃ (a : Addr) (as : List (Str × Bool)), as ∈ bigA :: asL ∧ a ≠ d ∧ H'' a = some (.dK (kvsOf as)) ∧ σ' = [some (.ref d), some (.ref a)]) (fun σ' H'' h => ?_) (fun tail => ?_)
  rotate_left
  · refine ⟨_, rfl, d, 6, rfl, hD1, by decide, fun r H2 r0 r6 hD2 b2 => ⟨rfl, _, rfl, ite2 (fun _ => ?_) (fun _ => next_of ?_)⟩⟩
    · refine disp_as bigA (by decide +kernel) (by decide) fun p hp => ?_
      exact tail _ _ ⟨hD2.same (same_new hp _), (b1.trans b2).same (same_new hp _), p, bigA, List.mem_cons_self .., drw_ne hD2 hp, upd_same, rfl⟩
    · exact tail _ _ ⟨hD2, b1.trans b2, a0, as0, List.mem_cons_of_mem _ m0, n0, b2 _ _ n0 e0, rfl⟩
  obtain ⟨hD2, b2, a, as, ma, na, ea, rfl⟩ := h
  have pickL : ∀ (xss : List (List Str)) (H1 : Hp) (Q1 : VK), (∀ xs, xs ∈ xss → xs.length ≤ 1000) → 0 < xss.length → xss.length ≤ 1000 → Drw K H1 d → (∀ l xs H', xs ∈ xss → l ≠ d → Drw K H' d → But d H1 H' → H' l = some (.lst (xs.map V.str)) → Q1 (.ref l) H') →
      tCall (sp_pick K) [] E0 (tCons (tVar 0) (tCons (tLst (tLs xss)) tNil)) [some (.ref d), some (.ref a)] H1 Q1 := fun xss H1 Q1 lx l0 l1 hD1 k1 => by
    obtain ⟨yy, hy⟩ := hD1.at
    refine ⟨_, rfl, lay_lists xss lx ⟨_, hy⟩ fun rs H2 g le all_ => ⟨le_line (by rw [le]; exact l1), fun p hp => ?_⟩⟩
    have g2 := same_new hp (.lst rs)
    refine ⟨d, p, rs, rfl, (hD1.same g).same g2, .inl ⟨SqL.of upd_same, drw_ne (hD1.same g) hp⟩, by rw [le]; exact l0, fun j v H3 hv hD3 b3 => ?_⟩
    obtain ⟨l, xs, m, rfl, nl, el⟩ := all_ j v hv
    exact k1 l xs H3 m nl hD3 ((Same.but (g.trans g2)).trans b3) (b3 _ _ nl (g2 _ _ el))
  refine pickL hsL H'' _ (by decide +kernel) (by decide) (by decide) hD2 fun l hs H3 mh nl hD3 b3 el => ⟨_, rfl, ?_⟩
  refine pickL ssL H3 _ (by decide +kernel) (by decide) (by decide) hD3 fun s2 ss H4 ms ns hD4 b4 es => ⟨(by show 3 ≤ sizeLine; decide), fun q hq => ?_⟩
  have g := same_new hq (.tup [.ref l, .ref a, .ref s2])
  have nq := drw_ne hD4 hq
  exact k q hs as ss _ mh ma ms (hD4.same g) (((b2.trans b3).trans b4).same g) ⟨l, a, s2, upd_same, nq, nl, na, ns, SqL.of (g _ _ (b4 _ _ nl el)), g _ _ (b4 _ _ na (b3 _ _ na ea)), SqL.of (g _ _ es)⟩

end
end My
set_option Elab.async false
set_option linter.all false
set_option maxRecDepth 100000
set_option maxHeartbeats 400000
namespace My
open PySem L2 PySem.Spec PyProof.Rows
section
variable {P : Program} {w : World} {K : PySem.W.Frag} {mg : Str → Option Value} {base : Heap}
/-! ### data without lists -/
mutual
def noL : PyData → Bool
  | .tuple ds => noLs ds
  | .list _ => false
  | .dict _ => false
  | .none => true
  | .bool _ => true
  | .int _ => true
  | .str _ => true
def noLs : List PyData → Bool
  | [] => true
  | d :: ds => noL d && noLs ds
end
def Lay (m : Nat) (d : PyData) : Prop := d.canLay0 = true ∧ d.depth ≤ m ∧ noL d = true
mutual
/-- data without lists hang on the tuples alone -/
theorem dp_tups {K : PySem.W.Frag} {H H' : Hp} (e : ∀ a xs, SqT K H a xs → SqT K H' a xs) : ∀ (d : PyData) (v : V), noL d = true → Dp K H v d → Dp K H' v d
  | .none, _, _, h => by cases h; exact .non
  | .bool b, _, _, h => by cases h; exact .bl b
  | .int i, _, _, h => by cases h; exact .int i
  | .str s, _, _, h => by cases h; exact .str s
  | .dict _, _, n, _ => by cases n
  | .list _, _, n, _ => by cases n
  | .tuple ds, _, n, h => by
    cases h with
    | tup hs ha => exact .tup (e _ _ hs) (dps_tups e ds _ n ha)
theorem dps_tups {K : PySem.W.Frag} {H H' : Hp} (e : ∀ a xs, SqT K H a xs → SqT K H' a xs) : ∀ (ds : List PyData) (vs : List V), noLs ds = true → DpAll K H vs ds → DpAll K H' vs ds
  | [], _, _, h => by cases h; exact .nil
  | d :: ds, _, n, h => by
    have n' : (noL d && noLs ds) = true := n
    rw [Bool.and_eq_true] at n'
    cases h with
    | cons a b => exact .cons (dp_tups e d _ n'.1 a) (dps_tups e ds _ n'.2 b)
end
theorem tup_upd0 {K : PySem.W.Frag} {H : Hp} {D : Addr} {ys : List V} {o : HO} (hD : H D = some (.lst ys)) : ∀ a xs, SqT K H a xs → SqT K (upd H D o) a xs := fun a xs h => by
  rcases h with (h | ⟨q, h⟩) | h
  · refine .inl (.inl ?_)
    rw [upd_ne (ne_of h hD (by intro z; cases z))]
    exact h
  · refine .inl (.inr ⟨q, ?_⟩)
    rw [upd_ne (ne_of h hD (by intro z; cases z))]
    exact h
  · exact .inr h
theorem dps_app {K : PySem.W.Frag} {H : Hp} {vs us : List V} {ds es : List PyData} (h : DpAll K H vs ds) (k : DpAll K H us es) : DpAll K H (vs ++ us) (ds ++ es) := by
  induction vs generalizing ds with
  | nil => cases h; exact k
  | cons v vs ih =>
    cases h with
    | cons a b => exact .cons a (ih b)
/-- all tuples stay -/
def TK (K : PySem.W.Frag) (H H' : Hp) : Prop := ∀ a xs, SqT K H a xs → SqT K H' a xs
theorem TK.refl (K : PySem.W.Frag) (H : Hp) : TK K H H := fun _ _ h => h
theorem TK.trans {K : PySem.W.Frag} {H H1 H2 : Hp} (a : TK K H H1) (b : TK K H1 H2) : TK K H H2 := fun c xs h => b c xs (a c xs h)
theorem TK.same {K : PySem.W.Frag} {H H' : Hp} (g : Same H H') : TK K H H' := fun _ _ h => Same.tup g h
theorem TK.but {K : PySem.W.Frag} {H H' : Hp} {d : Addr} (h : Drw K H d) (b : But d H H') : TK K H H' := fun _ _ z => by
  obtain ⟨ys, e⟩ := h.at
  exact b.tup e z
theorem TK.put {K : PySem.W.Frag} {H : Hp} {f : Addr} {ys : List V} {o : HO} (e : H f = some (.lst ys)) : TK K H (upd H f o) := tup_upd0 e
theorem TK.off {K : PySem.W.Frag} {H : Hp} {d : Addr} (h : Drw K H d) : TK K H (del H d) := fun a xs z => by
  obtain ⟨ys, e⟩ := h.at
  rcases z with (z | ⟨o, z⟩) | z
  · exact .inl (.inl (off_at z (ne_of z e (by intro q; cases q))))
  · exact .inl (.inr ⟨o, off_at z (ne_of z e (by intro q; cases q))⟩)
  · exact .inr z
/-! ### flat data: ints and texts -/
def flD : PyData → Bool
  | .int _ => true
  | .str s => PyData.strOk s
  | _ => false
def flV : PyData → V
  | .int i => .int i
  | .str s => .str s
  | _ => .non
theorem fl_dp {K : PySem.W.Frag} {H : Hp} : ∀ {ds : List PyData}, (ds.all flD) = true → DpAll K H (ds.map flV) ds
  | [], _ => .nil
  | d :: ds, h => by
    rw [List.all_cons, Bool.and_eq_true] at h
    refine .cons ?_ (fl_dp h.2)
    cases d with
    | int i => exact .int i
    | str s => exact .str s
    | _ => cases h.1
theorem fl_lay : ∀ {ds : List PyData}, (ds.all flD) = true → PyData.canLayAll0 ds = true ∧ PyData.depthAll ds ≤ 1 ∧ noLs ds = true
  | [], _ => ⟨rfl, Nat.zero_le _, rfl⟩
  | d :: ds, h => by
    rw [List.all_cons, Bool.and_eq_true] at h
    obtain ⟨h1, h2, h3⟩ := fl_lay h.2
    have hd : d.canLay0 = true ∧ d.depth ≤ 1 ∧ noL d = true := by
      cases d with
      | int i => exact ⟨by rw [PyData.canLay0], by rw [PyData.depth] <;> decide, rfl⟩
      | str s => exact ⟨by rw [PyData.canLay0]; exact h.1, by rw [PyData.depth] <;> decide, rfl⟩
      | _ => cases h.1
    refine ⟨by rw [PyData.canLayAll0, hd.1, h1]; rfl, ?_, ?_⟩
    · rw [PyData.depthAll]
      omega
    · show (noL d && noLs ds) = true
      rw [hd.2.2, h3]
      rfl
theorem int_fl : ∀ ns : List Int, ((ns.map PyData.int).all flD) = true
  | [] => rfl
  | n :: r => by
    rw [List.map_cons, List.all_cons, int_fl r]
    rfl
theorem tup_lay {ds : List PyData} (h : (ds.all flD) = true) : (PyData.tuple ds).canLay0 = true ∧ (PyData.tuple ds).depth ≤ 2 ∧ noL (.tuple ds) = true := by
  obtain ⟨h1, h2, h3⟩ := fl_lay h
  exact ⟨by rw [PyData.canLay0]; exact h1, by rw [PyData.depth]; omega, h3⟩
/-- a row that is as it must be -/
structure Good4 (hn : Nat) (bs : List Bool) (sn : Nat) (r : Row4) : Prop where
  row : rowD hn bs sn r.d = true
  ok : RowOk r.d
  lay : r.d.canLay0 = true
  dep : r.d.depth ≤ 3
  nol : noL r.d = true
  len : r.ks.length = hn
theorem good4_mk {hn sn : Nat} {bs : List Bool} {b : Int} {ks ns : List Int} {vs : List PyData} (h0 : 0 ≤ b) (h1 : b ≤ 1000000) (hk : ∀ k ∈ ks, nearI k = true) (lk : ks.length = hn) (hv : (vs.all flD) = true) (lv : vs.length = bs.length) (zv : zipD bs vs = true) (hs : ∀ k ∈ ns, nearI k = true) (ls : ns.length = sn)
    (l1 : hn ≤ 100) (l2 : bs.length ≤ 100) (l3 : sn ≤ 100) : Good4 hn bs sn ⟨b, ks, .tuple vs, .tuple (ns.map PyData.int)⟩ := by
  have near : ∀ {ms : List Int}, (∀ k ∈ ms, nearI k = true) → ((ms.map PyData.int).all nearD) = true := fun {ms} h => by
    rw [List.all_map, List.all_eq_true]
    exact h
  have ed : (⟨b, ks, .tuple vs, .tuple (ns.map PyData.int)⟩ : Row4).d = .tuple [.int b, .tuple (ks.map PyData.int), .tuple vs, .tuple (ns.map PyData.int)] := rfl
  obtain ⟨a1, a2, a3⟩ := tup_lay (int_fl ks)
  obtain ⟨b1, b2, b3⟩ := tup_lay hv
  obtain ⟨c1, c2, c3⟩ := tup_lay (int_fl ns)
  have d1 : (PyData.int b).canLay0 = true := by rw [PyData.canLay0]
  have d2 : (PyData.int b).depth ≤ 1 := by rw [PyData.depth] <;> decide
  refine ⟨?_, ?_, ?_, ?_, ?_, lk⟩
  · have e1 : betD 0 1000000 (.int b) = true := by
      show (decide (0 ≤ b) && decide (b ≤ 1000000)) = true
      rw [decide_eq_true h0, decide_eq_true h1]
      rfl
    have e2 : numsD hn (.tuple (ks.map PyData.int)) = true := by
      show (if (ks.map PyData.int).length = hn then _ else _) = true
      rw [List.length_map, if_pos lk]
      exact near hk
    have e3 : valuesD bs (.tuple vs) = true := by
      show (if vs.length = bs.length then _ else _) = true
      rw [if_pos lv]
      exact zv
    have e4 : numsD sn (.tuple (ns.map PyData.int)) = true := by
      show (if (ns.map PyData.int).length = sn then _ else _) = true
      rw [List.length_map, if_pos ls]
      exact near hs
    show (betD 0 1000000 (.int b) && (numsD hn (.tuple (ks.map PyData.int)) && (valuesD bs (.tuple vs) && numsD sn (.tuple (ns.map PyData.int))))) = true
    rw [e1, e2, e3, e4]
    rfl
  · intro ds e
    rw [ed] at e
    cases e
    intro x hx
    rcases List.mem_cons.mp hx with rfl | hx
    · intro ds e
      cases e
    rcases List.mem_cons.mp hx with rfl | hx
    · intro ds e
      cases e
      rw [List.length_map]
      omega
    rcases List.mem_cons.mp hx with rfl | hx
    · intro ds e
      cases e
      omega
    obtain rfl := List.mem_singleton.mp hx
    intro ds e
    cases e
    rw [List.length_map]
    omega
  · rw [ed, PyData.canLay0, PyData.canLayAll0, PyData.canLayAll0, PyData.canLayAll0, PyData.canLayAll0, PyData.canLayAll0, d1, a1, b1, c1]
    rfl
  · rw [ed, PyData.depth, PyData.depthAll, PyData.depthAll, PyData.depthAll, PyData.depthAll, PyData.depthAll]
    omega
  · rw [ed]
    show (true && (noL (.tuple (ks.map PyData.int)) && (noL (.tuple vs) && (noL (.tuple (ns.map PyData.int)) && true)))) = true
    rw [a3, b3, c3]
    rfl
/-- [E for x in l], E a draw -/
theorem drawn_ints {K : PySem.W.Frag} {d a : Addr} {xs : List V} {te : TE} {vs : List Nat} {σ : L2.St} {H : Hp} {Q : VK} {s i : Nat} (Pr : Int → Prop) (hD : Drw K H d) (hl : SqL K H a xs) (na : a ≠ d) (few : xs.length ≤ 100) (hσ : σ[s]? = some (some (.ref a)))
    (hw : ∀ x, wipe ((wipe σ vs).set i (some x)) vs = wipe σ vs)
    (elt : ∀ x H1 (R : VK), Drw K H1 d → (∀ n H2, Pr n → Drw K H2 d → But d H1 H2 → R (.int n) H2) → te ((wipe σ vs).set i (some x)) H1 R)
    (k : ∀ (D : Addr) (ns : List Int) (H' : Hp), Drw K H' d → But d H H' → TK K H H' → H D = none → H' D = some (.lst (ns.map V.int)) → ns.length = xs.length → (∀ n ∈ ns, Pr n) → Q (.ref D) H') : tLc (iList K (tVar s)) (gName i) tYes te vs σ H Q := by
  refine ⟨_, hσ, a, rfl, ⟨xs, hl⟩, fun D hN => ?_⟩
  have nD : D ≠ d := drw_ne hD hN
  refine lc_it (walk_list (xs := xs)) (fun j H' => Drw K H' d ∧ But d H H' ∧ TK K H H' ∧ ∃ ns : List Int, H' D = some (.lst (ns.map V.int)) ∧ ns.length = j ∧ ∀ n ∈ ns, Pr n) ⟨hD.same (same_new hN _), Same.but (same_new hN _), .same (same_new hN _), [], upd_same, rfl, fun n h => by cases h⟩ (fun j H' _ z => z.2.1.seq na hl) ?_ ?_
  · rintro j x H1 H2 hj ⟨hD1, b1, t1, ns, e, len, all_⟩ ⟨e1, hx⟩
    subst e1
    refine ⟨hw x, elt x _ _ hD1 fun n H3 pn hD3 b3 => ⟨_, b3 _ _ nD e, ?_, hD3.but (b3 _ _ nD e) (Ne.symm nD) (fun b o n h => by rw [upd_ne n]; exact h), fun b o n h => ?_, (t1.trans (.but hD1 b3)).trans (.put (b3 _ _ nD e)), ns ++ [n], ?_, ?_, ?_⟩⟩
    · rw [List.length_map]
      exact small1000 (by omega)
    · rw [upd_ne (ne_of_none h hN)]
      exact b3 _ _ n (b1 _ _ n h)
    · rw [upd_same, List.map_append]
      rfl
    · rw [List.length_append, len]
      rfl
    · intro m hm
      rcases List.mem_append.mp hm with hm | hm
      · exact all_ m hm
      · obtain rfl := List.mem_singleton.mp hm
        exact pn
  · rintro H' ⟨hD1, b1, t1, ns, e, len, all_⟩
    exact k D ns H' hD1 b1 t1 hN e len all_

end
end My
set_option Elab.async false
set_option linter.all false
set_option maxRecDepth 100000
set_option maxHeartbeats 400000
namespace My
open PySem L2 PySem.Spec PyProof.Rows
section
variable {P : Program} {w : World} {K : PySem.W.Frag} {mg : Str → Option Value} {base : Heap}
/-! ### drawn rows -/
def textsL : List Str := ["", "a", "b", "ab", "ba", "aab", "za", "abababababab", "a*?b'", "*", "a?"]
theorem texts_ok : ∀ x ∈ textsL, PyData.strOk x = true := by decide +kernel
theorem drawn_len : (∀ hs ∈ hsL, hs.length ≤ 2) ∧ (∀ as ∈ bigA :: asL, as.length ≤ 4) ∧ (∀ ss ∈ ssL, ss.length ≤ 2) := by decide +kernel
theorem dps_one {K : PySem.W.Frag} {H : Hp} {v : V} {d : PyData} (h : Dp K H v d) : DpAll K H [v] [d] := .cons h .nil
def sp_lrows (K : PySem.W.Frag) : Sp := fun vs H Q _ => ∃ (d cl : Addr) (hs : List Str) (as : List (Str × Bool)) (ss : List Str), vs = [.ref d, .ref cl, .int 6] ∧ Drw K H d ∧ ClAt K d H cl hs as ss ∧ hs ∈ hsL ∧ as ∈ bigA :: asL ∧ ss ∈ ssL ∧
  ∀ (p : Addr) (xs : List V) (rs : List Row4) (H' : Hp), Drw K H' d → But d H H' → p ≠ d → H p = none → H' p = some (.lst xs) → DpAll K H' xs (rs.map Row4.d) → rs.length ≤ 6 → (∀ r ∈ rs, Good4 hs.length ((sortA as).map Prod.snd) ss.length r) → Q (.ref p) H'
/-- the state between the rows: found so far -/
def Found (K : PySem.W.Frag) (d f tx : Addr) (hs : List Str) (as : List (Str × Bool)) (ss : List Str) (H H' : Hp) (n : Nat) : Prop := Drw K H' d ∧ But d H H' ∧ f ≠ d ∧ H f = none ∧ tx ≠ d ∧ tx ≠ f ∧ H' tx = some (.lst (textsL.map V.str)) ∧ ∃ (xs : List V) (rs : List Row4), H' f = some (.lst xs) ∧ DpAll K H' xs (rs.map Row4.d) ∧ rs.length = n ∧ ∀ r ∈ rs, Good4 hs.length ((sortA as).map Prod.snd) ss.length r
theorem rows_noL {hn sn : Nat} {bs : List Bool} : ∀ {rs : List Row4}, (∀ r ∈ rs, Good4 hn bs sn r) → noLs (rs.map Row4.d) = true
  | [], _ => rfl
  | r :: rs, h => by
    show (noL r.d && noLs (rs.map Row4.d)) = true
    rw [(h r List.mem_cons_self).nol, rows_noL fun x hx => h x (List.mem_cons_of_mem _ hx)]
    rfl
theorem cons_of {t : TE} {ts : TA} {σ : L2.St} {H : Hp} {Q : List V → Hp → Prop} (h : t σ H fun v H1 => ts σ H1 fun vs H2 => Q (v :: vs) H2) : tCons t ts σ H Q := h
theorem cb_of {r : List V → Hp → VK → Prop} {ta : TA} {σ : L2.St} {H : Hp} {Q : VK} (h : ta σ H fun vs H1 => r vs H1 Q) : tCB r ta σ H Q := h
/-- the state within a row's turn -/
structure RowSt (K : PySem.W.Frag) (d f tx p t1 lt sl : Addr) (b : Int) (ks : List Int) (ys : List Str) (xs : List V) (rs : List Row4) (H H' : Hp) : Prop where
  drw : Drw K H' d
  but : But d H H'
  eX : H' tx = some (.lst (textsL.map V.str))
  eF : H' f = some (.lst xs)
  dps : DpAll K H' xs (rs.map Row4.d)
  eT : SqT K H' t1 (ks.map V.int)
  eP : H' p = some (.lst [.int b, .ref t1])
  eS : H' sl = some (.lst (ys.map V.str))
structure Aprt (d f tx p lt sl : Addr) (H : Hp) : Prop where
  fd : f ≠ d
  fH : H f = none
  td : tx ≠ d
  tf : tx ≠ f
  pd : p ≠ d
  sd : sl ≠ d
  ld : lt ≠ d
  lf : lt ≠ f
  ltx : lt ≠ tx
  lp : lt ≠ p
  ls : lt ≠ sl
  lH : H lt = none
theorem RowSt.draw {K : PySem.W.Frag} {d f tx p t1 lt sl : Addr} {b : Int} {ks : List Int} {ys : List Str} {xs : List V} {rs : List Row4} {H H' H2 : Hp} (h : RowSt K d f tx p t1 lt sl b ks ys xs rs H H') (ap : Aprt d f tx p lt sl H) (nol : noLs (rs.map Row4.d) = true) (hD : Drw K H2 d) (g : But d H' H2) : RowSt K d f tx p t1 lt sl b ks ys xs rs H H2 :=
  ⟨hD, h.but.trans g, g _ _ ap.td h.eX, g _ _ ap.fd h.eF, dps_tups (TK.but h.drw g) _ _ nol h.dps, TK.but h.drw g _ _ h.eT, g _ _ ap.pd h.eP, g _ _ ap.sd h.eS⟩
theorem RowSt.late {K : PySem.W.Frag} {d f tx p t1 lt sl : Addr} {b : Int} {ks : List Int} {ys : List Str} {xs zs : List V} {rs : List Row4} {H H' : Hp} {o : HO} (h : RowSt K d f tx p t1 lt sl b ks ys xs rs H H') (ap : Aprt d f tx p lt sl H) (nol : noLs (rs.map Row4.d) = true) (e : H' lt = some (.lst zs)) : RowSt K d f tx p t1 lt sl b ks ys xs rs H (upd H' lt o) := by
  have keep : ∀ {c : Addr} {u : HO}, lt ≠ c → H' c = some u → upd H' lt o c = some u := fun n z => by
    rw [upd_ne (Ne.symm n)]
    exact z
  refine ⟨h.drw.but e (Ne.symm ap.ld) fun c u n z => by rw [upd_ne n]; exact z, fun c u n z => ?_, keep ap.ltx h.eX, keep ap.lf h.eF, dps_tups (TK.put e) _ _ nol h.dps, TK.put e _ _ h.eT, keep ap.lp h.eP, keep ap.ls h.eS⟩
  rw [upd_ne (ne_of_none z ap.lH)]
  exact h.but c u n z
theorem RowSt.new {K : PySem.W.Frag} {d f tx p t1 lt sl : Addr} {b : Int} {ks : List Int} {ys : List Str} {xs : List V} {rs : List Row4} {H H' H2 : Hp} (h : RowSt K d f tx p t1 lt sl b ks ys xs rs H H') (g : Same H' H2) : RowSt K d f tx p t1 lt sl b ks ys xs rs H H2 :=
  ⟨h.drw.same g, h.but.same g, g _ _ h.eX, g _ _ h.eF, dps_same g _ _ h.dps, Same.tup g h.eT, g _ _ h.eP, g _ _ h.eS⟩
theorem kind_text (b : Bool) : decide (kindV b = V.str "text") = !b := by cases b <;> decide +kernel
theorem zipD_app : ∀ {bs : List Bool} {vs : List PyData} {b : Bool} {v : PyData}, bs.length = vs.length → zipD bs vs = true → valueD b v = true → zipD (bs ++ [b]) (vs ++ [v]) = true
  | [], [], b, v, _, _, h => by
    show (valueD b v && zipD [] []) = true
    rw [h]
    rfl
  | [], _ :: _, _, _, e, _, _ => by simp at e
  | _ :: _, [], _, _, e, _, _ => by simp at e
  | c :: bs, u :: vs, b, v, e, h, k => by
    have h' : (valueD c u && zipD bs vs) = true := h
    rw [Bool.and_eq_true] at h'
    show (valueD c u && zipD (bs ++ [b]) (vs ++ [v])) = true
    rw [h'.1, zipD_app (by simpa using e) h'.2 k]
    rfl
theorem ok__law_rows (T : Txt K mg) : FnOk P w K mg base CX0 4 T.a__law_rows T.d__law_rows ["draw", "columns", "most"] (sp_lrows K) := by
  have G__law_take := ok__law_take (P := P) (w := w) (base := base) T
  have G__law_pick := ok__law_pick (P := P) (w := w) (base := base) T
  refine T.F__law_rows.ok sc__law_rows (fun vs H Q E h => ?_) (fun cdv A outer s H vs Q E hr h => ?_)
  · obtain ⟨d, cl, hs, as, ss, rfl, _⟩ := h
    rfl
  obtain ⟨d, cl, hs, as, ss, rfl, hD, ⟨l, a, s2, c1, nc, nl, na, ns, c2, c3, c4⟩, mh, ma, ms, k⟩ := h
  have lh := drawn_len.1 hs mh
  have la := drawn_len.2.1 as ma
  have ls := drawn_len.2.2 ss ms
  have nda := drawn_nd as ma
  refine ⟨_, (pss_cons (ps_asg (pv 1) (pg_tup rfl (pgs_cons (pg_name (i := 3) sc__law_rows.nd rfl (by first | exact Or.inl rfl | exact Or.inr rfl)) (pgs_cons (pg_name (i := 4) sc__law_rows.nd rfl (by first | exact Or.inl rfl | exact Or.inr rfl)) (pgs_cons (pg_name (i := 5) sc__law_rows.nd rfl (by first | exact Or.inl rfl | exact Or.inr rfl)) pgs_nil)))))
    (pss_cons (ps_par (i := 6) (j := 7) rfl sc__law_rows.nd rfl rfl (by decide) rfl rfl (pa_cons (pe_lst (pa_cons pe_str (pa_cons pe_str (pa_cons pe_str (pa_cons pe_str (pa_cons pe_str (pa_cons pe_str (pa_cons pe_str (pa_cons pe_str (pa_cons pe_str (pa_cons pe_str (pa_cons pe_str pa_nil)))))))))))) (pa_cons (pe_lst pa_nil) pa_nil)) (by rfl))
    (pss_cons (ps_set (i := 8) sc__law_rows.nd rfl (by first | exact Or.inl rfl | exact Or.inr rfl) (pe_ifExp (pt_cmpR op_eq (pe_call G__law_take (hr.mono (by first | decide | omega)) (by rfl) T.m__law_take T.F__law_take.kp T.b__law_take .nil pass0 (pa_cons (pv 0) (pa_cons pe_int pa_nil))) pe_int (nomark _)) pe_int pe_int))
    (pss_cons (ps_for PassesOwn.never rfl (pi_range1 (by rfl) T.z_range (pa_cons (pe_call G__law_take (hr.mono (by first | decide | omega)) (by rfl) T.m__law_take T.F__law_take.kp T.b__law_take .nil pass0 (pa_cons (pv 0) (pa_cons (pe_op op_add (pv 2) pe_int) pa_nil))) pa_nil)) (pg_name (i := 9) sc__law_rows.nd rfl (by first | exact Or.inl rfl | exact Or.inr rfl))
    (pss_cons (ps_set (i := 10) sc__law_rows.nd rfl (by first | exact Or.inl rfl | exact Or.inr rfl) (pe_lst (pa_cons (pe_op op_mul (pe_call G__law_take (hr.mono (by first | decide | omega)) (by rfl) T.m__law_take T.F__law_take.kp T.b__law_take .nil pass0 (pa_cons (pv 0) (pa_cons pe_int pa_nil))) (pe_callB (call_max2 rfl) (by rfl) T.z_max (by decide +kernel) (pa_cons pe_int (pa_cons (pv 8) pa_nil)))) (pa_cons (pe_callTy call_tuple_of (by rfl) T.z_tuple (by decide +kernel) (pa_cons (pe_lc (own := [("key", 11)]) rfl sc__law_rows.nd (pi_list (pv 3)) (blkOk_by (own := [("key", 11)]) (N := ["draw", "columns", "most", "keys", "values", "sums", "texts", "found", "far", "number", "row", "key", "late", "name"]) (sc := defScope s__law_rows) (by decide +kernel)) (fun _ _ _ _ _ => (pg_name (i := 11) sc__law_rows.nd rfl (by first | exact Or.inl rfl | exact Or.inr rfl))) (fun _ _ _ _ _ => pts_nil) (fun _ _ _ _ _ => (pe_op op_sub (pe_call G__law_take (hr.mono (by first | decide | omega)) (by rfl) T.m__law_take T.F__law_take.kp T.b__law_take .nil pass0 (pa_cons (pv 0) (pa_cons pe_int pa_nil))) (pv 8)))) pa_nil)) pa_nil))))
    (pss_cons (ps_set (i := 12) sc__law_rows.nd rfl (by first | exact Or.inl rfl | exact Or.inr rfl) (pe_lst pa_nil))
    (pss_cons (ps_for PassesOwn.never rfl (pi_list (pe_callB (call_sortedD rfl) (by rfl) T.z_sorted (by decide +kernel) (pa_cons (pv 4) pa_nil))) (pg_name (i := 13) sc__law_rows.nd rfl (by first | exact Or.inl rfl | exact Or.inr rfl))
    (pss_one (ps_expr (pe_bm PySem.F.plainAttrs_list PySem.F.slot_list_append PySem.F.type_list_append mt_append (pv 12) (pa_cons (pe_ifExp (pt_cmpR op_eq (pe_dget (hu_of hr) (pv 4) (pv 13) (fun _ _ => rfl)) pe_str (nomark _)) (pe_call G__law_pick (hr.mono (by first | decide | omega)) (by rfl) T.m__law_pick T.F__law_pick.kp T.b__law_pick .nil pass0 (pa_cons (pv 0) (pa_cons (pv 6) pa_nil))) (pe_op op_add (pe_op op_sub (pe_call G__law_take (hr.mono (by first | decide | omega)) (by rfl) T.m__law_take T.F__law_take.kp T.b__law_take .nil pass0 (pa_cons (pv 0) (pa_cons pe_int pa_nil))) pe_int) (pe_call G__law_pick (hr.mono (by first | decide | omega)) (by rfl) T.m__law_pick T.F__law_pick.kp T.b__law_pick .nil pass0 (pa_cons (pv 0) (pa_cons (pe_lst (pa_cons pe_int (pa_cons pe_int (pa_cons (pe_op op_sub (pv 8) pe_int) pa_nil)))) pa_nil))))) pa_nil)))))
    (pss_one (ps_expr (pe_bm PySem.F.plainAttrs_list PySem.F.slot_list_append PySem.F.type_list_append mt_append (pv 7) (pa_cons (pe_callTy call_tuple_of (by rfl) T.z_tuple (by decide +kernel) (pa_cons (pe_op op_cat (pv 10) (pe_lst (pa_cons (pe_callTy call_tuple_of (by rfl) T.z_tuple (by decide +kernel) (pa_cons (pv 12) pa_nil)) (pa_cons (pe_callTy call_tuple_of (by rfl) T.z_tuple (by decide +kernel) (pa_cons (pe_lc (own := [("name", 13)]) rfl sc__law_rows.nd (pi_list (pv 5)) (blkOk_by (own := [("name", 13)]) (N := ["draw", "columns", "most", "keys", "values", "sums", "texts", "found", "far", "number", "row", "key", "late", "name"]) (sc := defScope s__law_rows) (by decide +kernel)) (fun _ _ _ _ _ => (pg_name (i := 13) sc__law_rows.nd rfl (by first | exact Or.inl rfl | exact Or.inr rfl))) (fun _ _ _ _ _ => pts_nil) (fun _ _ _ _ _ => (pe_op op_mul (pe_op op_sub (pe_call G__law_take (hr.mono (by first | decide | omega)) (by rfl) T.m__law_take T.F__law_take.kp T.b__law_take .nil pass0 (pa_cons (pv 0) (pa_cons pe_int pa_nil))) pe_int) (pe_callB (call_max2 rfl) (by rfl) T.z_max (by decide +kernel) (pa_cons pe_int (pa_cons (pe_op op_fdivA (pv 8) pe_int) pa_nil)))))) pa_nil)) pa_nil)))) pa_nil)) pa_nil))))))))
    (pss_one (ps_ret (pv 7))))))), ?_⟩
  refine ⟨_, rfl, cl, _, rfl, SqT.of c1, rfl, _, _, rfl, _, _, rfl, _, _, rfl, rfl, ?_⟩
  refine ⟨(by show 11 ≤ sizeLine; decide), fun tx ftx => ⟨(by show 0 ≤ sizeLine; decide), fun f ff => ?_⟩⟩
  have g1 := same_new ftx (.lst (textsL.map V.str))
  have e1 : upd H tx (.lst (textsL.map V.str)) tx = some (.lst (textsL.map V.str)) := upd_same
  have nt : tx ≠ d := drw_ne hD ftx
  have hD1 := hD.same g1
  have fH : H f = none := by
    by_cases z : f = tx
    · rw [z]
      exact ftx
    · have := ff
      rw [show (H f = (upd H tx (.lst (textsL.map V.str))) f) from (upd_ne z).symm]
      exact ff
  have g2 := same_new ff (.lst [])
  have nf : f ≠ d := drw_ne hD1 ff
  have ntf : tx ≠ f := ne_of_none e1 ff
  refine ⟨_, _, rfl, ?_⟩
  have st0 : Found K d f tx hs as ss H (upd (upd H tx (.lst (textsL.map V.str))) f (.lst [])) 0 := ⟨hD1.same g2, Same.but (g1.trans g2), nf, fH, nt, ntf, g2 _ _ e1, [], [], upd_same, .nil, rfl, fun r h => by cases h⟩
  -- far
  dsimp only
  refine seq_cut (fun σ' H' => ∃ fr : Int, (fr = 0 ∨ fr = 1000000) ∧ σ' = [some (.ref d), some (.ref cl), some (.int 6), some (.ref l), some (.ref a), some (.ref s2), some (.ref tx), some (.ref f), some (.int fr), none, none, none, none, none] ∧ Found K d f tx hs as ss H H' 0) (fun σ' H' h => ?_) (fun tail => ?_)
  rotate_left
  · obtain ⟨hD2, b2, q1, q2, q3, q4, q5, xs, rs, w1, w2, w3, w4⟩ := st0
    refine ⟨_, rfl, d, 5, rfl, hD2, by decide, fun r H2 r0 r5 hD3 b3 => ⟨rfl, _, rfl, ?_⟩⟩
    have st : Found K d f tx hs as ss H H2 0 := ⟨hD3, b2.trans b3, q1, q2, q3, q4, b3 _ _ q3 q5, xs, rs, b3 _ _ q1 w1, dps_tups (TK.but hD2 b3) _ _ (rows_noL w4) w2, w3, w4⟩
    refine ite2 (fun _ => ?_) (fun _ => ?_)
    · exact tail _ _ ⟨1000000, .inr rfl, rfl, st⟩
    · exact tail _ _ ⟨0, .inl rfl, rfl, st⟩
  obtain ⟨fr, hfr, rfl, st1⟩ := h
  obtain ⟨hD2, b2, q1, q2, q3, q4, q5, xs, rs, w1, w2, w3, w4⟩ := st1
  refine ⟨_, rfl, _, rfl, _, _, rfl, rfl, d, 7, rfl, hD2, by decide, fun many H2 m0 m6 hD3 b3 => ⟨many, rfl, by omega, by omega, ?_⟩⟩
  refine for_range (lo := 0) (n := many.toNat) (fun j σ' H' => (∃ z9 z10 z11 z12 z13 : Option V, σ' = [some (.ref d), some (.ref cl), some (.int 6), some (.ref l), some (.ref a), some (.ref s2), some (.ref tx), some (.ref f), some (.int fr), z9, z10, z11, z12, z13]) ∧ Found K d f tx hs as ss H H' j) ⟨⟨_, _, _, _, _, rfl⟩, hD3, b2.trans b3, q1, q2, q3, q4, b3 _ _ q3 q5, xs, rs, b3 _ _ q1 w1, dps_tups (TK.but hD2 b3) _ _ (rows_noL w4) w2, w3, w4⟩ ?_ ?_
  rotate_left
  · rintro σ' H' ⟨⟨z9, z10, z11, z12, z13, rfl⟩, hD4, b4, p1, p2, p3, p4, p5, xs', rs', v1, v2, v3, v4⟩
    exact ⟨_, rfl, k f xs' rs' H' hD4 b4 p1 p2 v1 v2 (by omega) v4⟩
  clear hD2 b2 q1 q2 q3 q4 q5 w1 w2 w3 w4 xs rs b3 hD3
  rintro j σ' H' hj ⟨⟨z9, z10, z11, z12, z13, rfl⟩, hD4, b4, p1, p2, p3, p4, p5, xs, rs, v1, v2, v3, v4⟩
  -- row = [.., tuple(..)]
  refine ⟨_, rfl, d, 2, rfl, hD4, by decide, fun r0 H5 r0a r0b hD5 b5 => ⟨_, rfl, 1, fr, rfl, _, _, rfl, rfl, ?_, ?_⟩⟩
  · exact .inl ⟨by omega, by omega⟩
  have hl5 : SqL K H5 l (hs.map V.str) := b5.seq nl (b4.seq nl c2)
  refine cons_of (cb_of (cons_of ?_))
  refine drawn_ints (K := K) (fun n => nearI n = true) hD5 hl5 nl (by rw [List.length_map]; omega) rfl (fun x => rfl) (fun x H6 R hD6 kk => ?_) fun D ks H6 hD6 b6 t6 fD eD lk nk => ?_
  · refine ⟨_, rfl, d, 3, rfl, hD6, by decide, fun r H7 ra rb hD7 b7 => ⟨_, rfl, r, fr, rfl, rfl, kk (r - fr) H7 ?_ hD7 b7⟩⟩
    show (decide (-1000000 ≤ r - fr) && decide (r - fr ≤ 1000000)) = true
    rcases hfr with rfl | rfl <;> simp <;> omega
  have nol := rows_noL v4
  have b56 : But d H H6 := (b4.trans b5).trans b6
  refine ⟨D, _, rfl, .inl ⟨SqL.of eD, fun t1 ft => ⟨(by show 2 ≤ sizeLine; decide), fun p fp => ?_⟩⟩⟩
  refine ⟨(by show 0 ≤ sizeLine; decide), fun lt flt => ?_⟩
  have g7 := same_new ft (.tup (ks.map V.int))
  have e7 : upd H6 t1 (.tup (ks.map V.int)) t1 = some (.tup (ks.map V.int)) := upd_same
  have hD7 := hD6.same g7
  have x7 := dps_same g7 _ _ (dps_tups t6 _ _ nol (dps_tups (TK.but hD4 b5) _ _ nol v2))
  have f7 := g7 _ _ (b6 _ _ p1 (b5 _ _ p1 v1))
  have tx7 := g7 _ _ (b6 _ _ p3 (b5 _ _ p3 p5))
  have bb7 : But d H (upd H6 t1 (.tup (ks.map V.int))) := b56.same g7
  generalize upd H6 t1 (.tup (ks.map V.int)) = H7 at *
  obtain ⟨bI, hbI⟩ : ∃ bI : Int, bI = r0 * (if fr > 1 then fr else 1) := ⟨_, rfl⟩
  simp only [← hbI] at flt ⊢
  have b0 : 0 ≤ bI ∧ bI ≤ 1000000 := by
    rw [hbI]
    rcases hfr with rfl | rfl <;> simp <;> omega
  clear hbI
  have g8 := same_new fp (.lst [.int bI, .ref t1])
  have e8 : upd H7 p (.lst [.int bI, .ref t1]) p = some (.lst [.int bI, .ref t1]) := upd_same
  have pd : p ≠ d := drw_ne hD7 fp
  have hD8 := hD7.same g8
  have x8 := dps_same g8 _ _ x7
  have f8 := g8 _ _ f7
  have tx8 := g8 _ _ tx7
  have t8 := g8 _ _ e7
  have bb8 := bb7.same g8
  generalize upd H7 p (.lst [.int bI, .ref t1]) = H8 at *
  have g9 := same_new flt (.lst [])
  have e9 : upd H8 lt (.lst []) lt = some (.lst []) := upd_same
  have ld : lt ≠ d := drw_ne hD8 flt
  have llf : lt ≠ f := fun z => ne_of_none f8 flt z.symm
  have ltx : lt ≠ tx := fun z => ne_of_none tx8 flt z.symm
  have lp : lt ≠ p := fun z => ne_of_none e8 flt z.symm
  have lH : H lt = none := by
    cases z : H lt with
    | none => rfl
    | some o => exact absurd rfl (ne_of_none (bb8 _ _ ld z) flt)
  have hD9 := hD8.same g9
  have x9 := dps_same g9 _ _ x8
  have f9 := g9 _ _ f8
  have tx9 := g9 _ _ tx8
  have t9 := g9 _ _ t8
  have p9 := g9 _ _ e8
  have bb9 := bb8.same g9
  have a9 := bb9 _ _ na c3
  generalize upd H8 lt (.lst []) = H9 at *
  refine ⟨_, rfl, a, kvsOf as, as.map Prod.fst, rfl, Rd.of a9, keys_kvs as, (by rw [List.length_map]; omega), fun ys sl pe so fsl => ?_⟩
  obtain rfl := sort_eq pe so
  refine ⟨sl, rfl, ⟨_, SqL.of upd_same⟩, ?_⟩
  have g10 := same_new fsl (.lst ((sortS (as.map Prod.fst)).map V.str))
  have ap : Aprt d f tx p lt sl H := ⟨p1, p2, p3, p4, pd, drw_ne hD9 fsl, ld, llf, ltx, lp, fun z => ne_of_none e9 fsl z, lH⟩
  have st : RowSt K d f tx p t1 lt sl bI ks (sortS (as.map Prod.fst)) xs rs H (upd H9 sl (.lst ((sortS (as.map Prod.fst)).map V.str))) :=
    ⟨hD9.same g10, bb9.same g10, g10 _ _ tx9, g10 _ _ f9, dps_same g10 _ _ x9, SqT.of (g10 _ _ t9), g10 _ _ p9, upd_same⟩
  have l10 := g10 _ _ e9
  generalize upd H9 sl (.lst ((sortS (as.map Prod.fst)).map V.str)) = H10 at *
  have sf : (sortA as).map Prod.fst = sortS (as.map Prod.fst) := sorted_fst as
  have sln : (sortS (as.map Prod.fst)).length = (sortA as).length := by rw [← sf, List.length_map]
  have sal : (sortA as).length = as.length := sorted_len as
  refine for_list (K := K) (a := sl) (xs := (sortS (as.map Prod.fst)).map V.str) (fun i σ' H' => (∃ z11 z13 : Option V, σ' = [some (.ref d), some (.ref cl), some (.int 6), some (.ref l), some (.ref a), some (.ref s2), some (.ref tx), some (.ref f), some (.int fr), some (.int (0 + (j : Int))), some (.ref p), z11, some (.ref lt), z13]) ∧ RowSt K d f tx p t1 lt sl bI ks (sortS (as.map Prod.fst)) xs rs H H' ∧ ∃ vs : List PyData, H' lt = some (.lst (vs.map flV)) ∧ (vs.all flD) = true ∧ vs.length = i ∧ zipD (((sortA as).map Prod.snd).take i) vs = true) ⟨⟨_, _, rfl⟩, st, [], l10, rfl, rfl, rfl⟩ (fun i σ' H' _ z => SqL.of z.2.1.eS) ?_ ?_
  · rintro i x σ' H' hx ⟨⟨z11, z13, rfl⟩, st, vs, hlt, fl, len, zd⟩
    rw [List.getElem?_map] at hx
    obtain ⟨n, hn, rfl⟩ := Option.map_eq_some_iff.mp hx
    have hn2 : ((sortA as).map Prod.fst)[i]? = some n := by rw [sf]; exact hn
    rw [List.getElem?_map] at hn2
    obtain ⟨⟨n', b⟩, hA, rfl⟩ := Option.map_eq_some_iff.mp hn2
    have hv : valV (kvsOf as) (Sum.inr n') = some (kindV b) := by
      rw [askOf_val]
      have mem : n' ∈ as.map Prod.fst := pe.mem_iff.mp (List.mem_of_getElem? hn)
      obtain ⟨b', hb'⟩ := askOf_mem mem
      have := (List.getElem?_eq_some_iff.mp hA).2
      unfold sortA at hA
      rw [List.getElem?_map, hn] at hA
      have e : (n', (askOf as n').getD false) = (n', b) := Option.some.inj hA
      have e2 : (askOf as n').getD false = b := congrArg Prod.snd e
      rw [hb'] at e2 ⊢
      have e3 : b' = b := e2
      rw [e3]
      rfl
    have hB : ((sortA as).map Prod.snd)[i]? = some b := by rw [List.getElem?_map, hA]; rfl
    have lvi : (((sortA as).map Prod.snd).take i).length = vs.length := by
      have := (List.getElem?_eq_some_iff.mp hB).1
      rw [List.length_take, len]
      omega
    have put : ∀ (v : PyData) (H2 : Hp), RowSt K d f tx p t1 lt sl bI ks (sortS (as.map Prod.fst)) xs rs H H2 → H2 lt = some (.lst (vs.map flV)) → flD v = true → valueD b v = true →
        RowSt K d f tx p t1 lt sl bI ks (sortS (as.map Prod.fst)) xs rs H (upd H2 lt (.lst (vs.map flV ++ [flV v]))) ∧ ∃ us : List PyData, upd H2 lt (.lst (vs.map flV ++ [flV v])) lt = some (.lst (us.map flV)) ∧ (us.all flD) = true ∧ us.length = i + 1 ∧ zipD (((sortA as).map Prod.snd).take (i + 1)) us = true := fun v H2 st2 e2 f2 z2 => by
      refine ⟨st2.late ap nol e2, vs ++ [v], ?_, ?_, ?_, ?_⟩
      · rw [upd_same, List.map_append]
        rfl
      · rw [List.all_append, fl, List.all_cons, f2]
        rfl
      · rw [List.length_append, len]
        rfl
      · rw [take_more' hB]
        exact zipD_app lvi zd z2
    have few : (vs.map flV).length < sizeLine := by
      rw [List.length_map, len]
      have := (List.getElem?_eq_some_iff.mp hB).1
      rw [List.length_map] at this
      exact small1000 (by omega)
    refine ⟨_, rfl, .inl ⟨rfl, _, SqL.of hlt⟩, ?_⟩
    refine ⟨_, rfl, _, rfl, a, kindV b, rfl, .inl ⟨kvsOf as, Sum.inr n', Rd.of (st.but _ _ na c3), rfl, hv.symm⟩, rfl, _, rfl, ?_⟩
    rw [kind_text]
    cases b with
    | false =>
      refine iteT ⟨_, rfl, _, rfl, d, tx, _, rfl, st.drw, .inl ⟨SqL.of st.eX, ap.td⟩, (by show 0 < 11; decide), fun q y H2 hy hD2 b2 => ?_⟩
      rw [List.getElem?_map] at hy
      obtain ⟨w, hw, rfl⟩ := Option.map_eq_some_iff.mp hy
      have st2 := st.draw ap nol hD2 b2
      have e2 := b2 _ _ ap.ld hlt
      obtain ⟨r1, us, r2, r3, r4, r5⟩ := put (.str w) H2 st2 e2 (texts_ok w (List.mem_of_getElem? hw)) rfl
      exact ⟨lt, _, _, rfl, rfl, e2, few, ⟨_, _, rfl⟩, r1, us, r2, r3, r4, r5⟩
    | true =>
      refine iteF ?_
      refine ⟨_, rfl, d, 7, rfl, st.drw, by decide, fun r H2 ra rb hD2 b2 => ⟨r, 3, rfl, rfl, ?_⟩⟩
      have st2 := st.draw ap nol hD2 b2
      have e2 := b2 _ _ ap.ld hlt
      refine ⟨_, rfl, _, rfl, fr, 3, rfl, rfl, (by show 3 ≤ sizeLine; decide), fun q hq => ?_⟩
      have gq := same_new hq (.lst [.int 0, .int 0, .int (fr - 3)])
      refine ⟨d, q, _, rfl, hD2.same gq, .inl ⟨SqL.of upd_same, drw_ne hD2 hq⟩, (by show 0 < 3; decide), fun jj y H3 hy hD3 b3 => ?_⟩
      obtain ⟨z, rfl, hz⟩ : ∃ z : Int, y = .int z ∧ (z = 0 ∨ z = fr - 3) := by
        match jj, hy with
        | 0, hy => exact ⟨0, (Option.some.inj hy).symm, .inl rfl⟩
        | 1, hy => exact ⟨0, (Option.some.inj hy).symm, .inl rfl⟩
        | 2, hy => exact ⟨_, (Option.some.inj hy).symm, .inr rfl⟩
        | jj + 3, hy => simp at hy
      have st3 := (st2.new gq).draw ap nol hD3 b3
      have e3 := b3 _ _ ap.ld (gq _ _ e2)
      obtain ⟨r1, us, r2, r3, r4, r5⟩ := put (.int (r - 3 + z)) H3 st3 e3 rfl (by
        show (decide (-1000000 ≤ r - 3 + z) && decide (r - 3 + z ≤ 1000000)) = true
        rw [decide_eq_true (by omega), decide_eq_true (by omega)]
        rfl)
      exact ⟨r - 3, z, rfl, rfl, lt, _, _, rfl, rfl, e3, few, ⟨_, _, rfl⟩, r1, us, r2, r3, r4, r5⟩
  · rintro σ' H' ⟨⟨z11, z13, rfl⟩, st, vs, hlt, fl, len, zd⟩
    rw [List.length_map, sln] at len
    have lbs : ((sortA as).map Prod.snd).length = (sortA as).length := List.length_map ..
    rw [List.length_map, sln, ← lbs, List.take_of_length_le (Nat.le_refl _)] at zd
    refine ⟨_, rfl, .inl ⟨rfl, _, SqL.of st.eF⟩, ?_⟩
    refine ⟨_, rfl, ⟨_, rfl, lt, _, rfl, .inl ⟨SqL.of hlt, fun t2 ft2 => ?_⟩⟩⟩
    have g2 := same_new ft2 (.tup (vs.map flV))
    have st2 := st.new g2
    have e2 : upd H' t2 (.tup (vs.map flV)) t2 = some (.tup (vs.map flV)) := upd_same
    generalize upd H' t2 (.tup (vs.map flV)) = H2 at *
    refine cons_of (cb_of (cons_of ?_))
    have hs2 : SqL K H2 s2 (ss.map V.str) := st2.but.seq ns c4
    refine drawn_ints (K := K) (fun n => nearI n = true) st2.drw hs2 ns (by rw [List.length_map]; omega) rfl (fun x => rfl) (fun x H6 R hD6 kk => ?_) fun D2 ms H3 hD3 b3 t3k fD2 eD2 lm nm => ?_
    · refine ⟨_, rfl, d, 9, rfl, hD6, by decide, fun r H7 ra rb hD7 b7 => ⟨r, 4, rfl, rfl, _, rfl, fr, 4, rfl, rfl, divA_small (by decide) (by decide), 1, fr.fdiv 4, rfl, r - 4, _, rfl, rfl, ?_, kk _ H7 ?_ hD7 b7⟩⟩
      · exact .inl ⟨by omega, by omega⟩
      · show (decide (-1000000 ≤ (r - 4) * _) && decide ((r - 4) * _ ≤ 1000000)) = true
        rcases hfr with rfl | rfl
        · rw [show ((0 : Int).fdiv 4) = 0 from rfl]
          simp
          omega
        · rw [show ((1000000 : Int).fdiv 4) = 250000 from rfl]
          simp
          omega
    have st3 := st2.draw ap nol hD3 b3
    have e3 := t3k _ _ (SqT.of e2)
    refine ⟨D2, _, rfl, .inl ⟨SqL.of eD2, fun t3 ft3 => ⟨(by show 2 ≤ sizeLine; decide), fun q fq => ?_⟩⟩⟩
    have g4 := same_new ft3 (.tup (ms.map V.int))
    have st4 := st3.new g4
    have t24 := Same.tup g4 e3
    have t34 : upd H3 t3 (.tup (ms.map V.int)) t3 = some (.tup (ms.map V.int)) := upd_same
    generalize upd H3 t3 (.tup (ms.map V.int)) = H4 at *
    have g5 := same_new fq (.lst [.ref t2, .ref t3])
    have st5 := st4.new g5
    have q5 : upd H4 q (.lst [.ref t2, .ref t3]) q = some (.lst [.ref t2, .ref t3]) := upd_same
    have t25 := Same.tup g5 t24
    have t35 := g5 _ _ t34
    generalize upd H4 q (.lst [.ref t2, .ref t3]) = H5' at *
    refine ⟨p, q, _, _, rfl, rfl, st5.eP, q5, (by show 2 + 2 ≤ sizeLine; decide), fun l2 fl2 => ?_⟩
    have g6 := same_new fl2 (.lst ([.int bI, .ref t1] ++ [.ref t2, .ref t3]))
    have st6 := st5.new g6
    have t26 := Same.tup g6 t25
    have t36 := g6 _ _ t35
    have l26 : upd H5' l2 (.lst ([.int bI, .ref t1] ++ [.ref t2, .ref t3])) l2 = some (.lst ([.int bI, .ref t1] ++ [.ref t2, .ref t3])) := upd_same
    generalize upd H5' l2 (.lst ([.int bI, .ref t1] ++ [.ref t2, .ref t3])) = H6' at *
    refine ⟨l2, _, rfl, .inl ⟨SqL.of l26, fun t4 ft4 => ?_⟩⟩
    have g7' := same_new ft4 (.tup ([.int bI, .ref t1] ++ [.ref t2, .ref t3]))
    have st7 := st6.new g7'
    have t27 := Same.tup g7' t26
    have t37 := g7' _ _ t36
    have t47 : upd H6' t4 (.tup ([.int bI, .ref t1] ++ [.ref t2, .ref t3])) t4 = some (.tup [.int bI, .ref t1, .ref t2, .ref t3]) := upd_same
    generalize upd H6' t4 (.tup ([.int bI, .ref t1] ++ [.ref t2, .ref t3])) = H7' at *
    have xl : xs.length = j := by rw [dps_len st7.dps, List.length_map, v3]
    have good : Good4 hs.length ((sortA as).map Prod.snd) ss.length ⟨bI, ks, .tuple vs, .tuple (ms.map PyData.int)⟩ :=
      good4_mk b0.1 b0.2 nk (by rw [lk, List.length_map]) fl (by rw [len, lbs]) zd nm (by rw [lm, List.length_map]) (by omega) (by rw [lbs]; omega) (by omega)
    have dp4 : Dp K H7' (.ref t4) (Row4.d ⟨bI, ks, .tuple vs, .tuple (ms.map PyData.int)⟩) := .tup (SqT.of t47) (.cons (.int _) (.cons (.tup st7.eT (dp_ints ks)) (.cons (.tup t27 (fl_dp fl)) (.cons (.tup (SqT.of t37) (dp_ints ms)) .nil))))
    refine ⟨f, _, _, rfl, rfl, st7.eF, (by rw [xl]; exact small1000 (by omega)), ⟨_, _, _, _, _, rfl⟩, ?_⟩
    have put := TK.put (K := K) (o := .lst (xs ++ [.ref t4])) st7.eF
    refine ⟨st7.drw.but st7.eF (Ne.symm p1) fun c u n z => by rw [upd_ne n]; exact z, fun c u n z => ?_, p1, p2, p3, p4, ?_, xs ++ [.ref t4], rs ++ [⟨bI, ks, .tuple vs, .tuple (ms.map PyData.int)⟩], upd_same, ?_, ?_, ?_⟩
    · rw [upd_ne (ne_of_none z p2)]
      exact st7.but c u n z
    · rw [upd_ne p4]
      exact st7.eX
    · rw [List.map_append]
      exact dps_app (dps_tups put _ _ nol st7.dps) (.cons (dp_tups put _ _ good.nol dp4) .nil)
    · rw [List.length_append, v3]
      rfl
    · intro r hr'
      rcases List.mem_append.mp hr' with hr' | hr'
      · exact v4 r hr'
      · obtain rfl := List.mem_singleton.mp hr'
        exact good

end
end My
set_option Elab.async false
set_option linter.all false
set_option maxRecDepth 100000
set_option maxHeartbeats 400000
namespace My
open PySem L2 PySem.Spec PyProof.Rows
section
variable {P : Program} {w : World} {K : PySem.W.Frag} {mg : Str → Option Value} {base : Heap}
/-! ### what is refused -/
theorem call_isC' {X : Cx} {a D : Addr} {oe : Obj} {cls : Value} {d : Option Addr} {pn : List (Addr × Obj)} (C : ExcC X.K D) (hz : Zc cls d oe) (hf : ∃ vs, oe.data = .fields vs) :
    CallR (X.suite a ((a, oe) :: pn)) (.builtin "isinstance") (fun xs H Q => cls = .ref D ∧ ∃ dd, d = some dd ∧ rIsC X.K D a dd xs H Q) := by
  intro pins s σ H xs us Q I r want
  obtain ⟨rfl, dd, rfl, want⟩ := want
  exact call_isC C hz hf pins s σ H xs us Q I r want
theorem call_isV' {X : Cx} {a D : Addr} {n : String} {oe : Obj} {cls : Value} {d : Option Addr} {pn : List (Addr × Obj)} (C : ExcC X.K D) (hz : Zc cls d oe) (hf : ∃ vs, oe.data = .fields vs) :
    CallR (X.suite a ((a, oe) :: pn)) (.builtin "isinstance") (fun xs H Q => cls = .ref D ∧ ∃ dd, d = some dd ∧ rIsV X.K D a dd n xs H Q) := by
  intro pins s σ H xs us Q I r want
  obtain ⟨rfl, dd, rfl, want⟩ := want
  exact call_isV C hz hf pins s σ H xs us Q I r want
/-- the errors that are answered -/
def Eref (C1 C2 : Addr) (Q : VK) : XK := fun cls d H => (cls = .ref C1 ∧ ∃ dx v, d = some dx ∧ H dx = some (.xd [("part", v)]) ∧ ∀ q, H q = none → Q (.ref q) (upd H q (.tup [.str "columns", v]))) ∨
  (cls = .ref C2 ∧ ∃ dx v, d = some dx ∧ H dx = some (.xd [("number", v)]) ∧ ∀ q, H q = none → Q (.ref q) (upd H q (.tup [.str "table", v])))
def TTref (C1 C2 : Addr) : (XK → Hp → VK → Prop) → Hp → VK → Prop := fun tl H Q => tl (Eref C1 C2 Q) H fun _ H' => Q (.str "none") H'
abbrev lrefX (X : Cx) (g : Addr) (cdg : Value) (s : Shared) (H : Hp) : Cx := (cxOf C8.CX0 X.prog X.w X.K X.mg X.base ["deed", "fault"] "_law_refused" (defScope s__law_refused) g cdg X.A X.stack s H C8.E0).nox
theorem takes_len {X : Cx} {W : WX} (tk : Takes X W) : Takes X (fun cls d σ H => σ.length = X.N.length → W cls d σ H) := by
  rintro u s' ⟨a, B, sI, pins', σ', H', cls, d, eu, J, nb, up, sky, na, os, ag, wish⟩
  exact tk u s' ⟨a, B, sI, pins', σ', H', cls, d, eu, J, nb, up, sky, na, os, ag, wish J.len⟩
theorem set_at {σ : L2.St} {i : Nat} {v : V} (h : i < σ.length) : (σ.set i (some v))[i]? = some (some v) := by
  rw [List.getElem?_set_self h]
theorem refused_gives {X : Cx} (T : Txt X.K X.mg) (q : Str) (cdg : Value) : LamX.GivesTo X ["deed", "fault"] "_law_refused" (defScope s__law_refused) T.a__law_refused cdg (defBody s__law_refused) "deed" q (TTref T.c_BadColumns T.c_BadTable) := by
  intro f c' s H Q tl act hc h
  refine ⟨_, pss_cons (ps_try_clauses (X := lrefX X T.a__law_refused cdg s H) (l := [⟨.ref T.c_BadColumns, 1, _⟩, ⟨.ref T.c_BadTable, 1, _⟩])
      (tb := fun W D σ H => ∃ Ech : XK, (∀ cls d σ' H', Ech cls d H' → σ'.length = 2 → W cls d σ' H') ∧ σ[0]? = some (some (.ref f)) ∧ H c' = some (LamX.CodeO c' q) ∧ tl Ech H fun _ H1 => D.nx σ H1) (Wout := fun _ _ _ _ => False)
      rfl rfl sc__law_refused.nd takes0 (fun W pn xe tk _ => ?_)
      (.cons rfl rfl ⟨rfl, by decide, Or.inl T.m_BadColumns⟩ (fun a oe cls d pn hz hf => pss_one (ps_ret (pe_ifExp
          (PW.pt (pw_and (pt_val (pe_callB (call_isC' (X := lrefX X T.a__law_refused cdg s H) T.xe_BadColumns hz hf) (by rfl) T.z_isinstance (by decide +kernel) (pa_cons (pv 1) (pa_cons (pe_glob (v := .ref T.c_SieveError) (by rfl) T.m_SieveError rfl) pa_nil))))
            (pw_and1 (pt_val (pe_callB (call_isV' (X := lrefX X T.a__law_refused cdg s H) (n := "ValueError") T.xe_BadColumns hz hf) (by rfl) T.z_isinstance (by decide +kernel) (pa_cons (pv 1) (pa_cons (pe_bltn (v := .ty "ValueError") (by rfl) T.z_ValueError (by decide +kernel) rfl) pa_nil)))))))
          (pe_tup (pa_cons pe_str (pa_cons (pe_xf (X := lrefX X T.a__law_refused cdg s H) T.xf_BadColumns T.xn_BadColumns hz hf (pv 1)) pa_nil))) pe_str)))
      (.cons rfl rfl ⟨rfl, by decide, Or.inl T.m_BadTable⟩ (fun a oe cls d pn hz hf => pss_one (ps_ret (pe_ifExp
          (pt_val (pe_callB (call_isC' (X := lrefX X T.a__law_refused cdg s H) T.xe_BadTable hz hf) (by rfl) T.z_isinstance (by decide +kernel) (pa_cons (pv 1) (pa_cons (pe_glob (v := .ref T.c_SieveError) (by rfl) T.m_SieveError rfl) pa_nil))))
          (pe_tup (pa_cons pe_str (pa_cons (pe_xf (X := lrefX X T.a__law_refused cdg s H) T.xf_BadTable T.xn_BadTable hz hf (pv 1)) pa_nil))) pe_str))) .nil)))
    (pss_one (ps_ret pe_str)), ?_⟩
  · refine ⟨fun pins s' σ H' D I h' => ?_⟩
    obtain ⟨Ech, hW, h1, h2, h3⟩ := h'
    exact (pss_one (ps_expr (act (fun cls d σ' H' => σ'.length = 2 → W cls d σ' H') pn xe Ech _ _ (takes_len tk) hW))).run pins s' σ H' D I ⟨h1, h2, h3⟩
  · refine ⟨Eref T.c_BadColumns T.c_BadTable Q, fun cls d σ' H' e len => ?_, rfl, hc, h⟩
    have sl : 1 < σ'.length := by omega
    rcases e with ⟨rfl, dx, v, rfl, hx, k⟩ | ⟨rfl, dx, v, rfl, hx, k⟩
    · refine ⟨true, T.xm_BadColumns, fun _ a ha => ?_, fun z => Bool.noConfusion z⟩
      refine ⟨_, set_at (i := 1) sl, rfl, dx, rfl, T.c_SieveError, true, _, rfl, hx, T.xk_BadColumns, _, rfl, iteT ?_⟩
      refine ⟨_, set_at (i := 1) sl, rfl, dx, rfl, true, _, rfl, hx, T.yv_BadColumns, _, rfl, iteT ?_⟩
      exact ⟨_, set_at (i := 1) sl, rfl, rfl, dx, _, v, rfl, hx, look_head, (by show 2 ≤ sizeLine; decide), k⟩
    · refine ⟨false, T.yz_BadTable_BadColumns, fun z => Bool.noConfusion z, fun _ => ?_⟩
      refine ⟨true, T.xm_BadTable, fun _ a ha => ?_, fun z => Bool.noConfusion z⟩
      refine ⟨_, set_at (i := 1) sl, rfl, dx, rfl, T.c_SieveError, true, _, rfl, hx, T.xk_BadTable, _, rfl, iteT ?_⟩
      exact ⟨_, set_at (i := 1) sl, rfl, rfl, dx, _, v, rfl, hx, look_head, (by show 2 ≤ sizeLine; decide), k⟩
theorem refused_givesT {X : Cx} (hK : X.K = K) (hm : X.mg = mg) (T : Txt K mg) (q : Str) (cdg : Value) : LamX.GivesTo X ["deed", "fault"] "_law_refused" (defScope s__law_refused) T.a__law_refused cdg (defBody s__law_refused) "deed" q (TTref T.c_BadColumns T.c_BadTable) := by
  subst hK hm
  exact refused_gives T q cdg

end
end My
set_option Elab.async false
set_option linter.all false
set_option maxRecDepth 100000
set_option maxHeartbeats 400000
namespace My
open PySem L2 PySem.Spec PyProof.Rows
section
variable {P : Program} {w : World} {K : PySem.W.Frag} {mg : Str → Option Value} {base : Heap}
/-! ### displays over data that are at hand -/
inductive Bx
  | non
  | bl (b : Bool)
  | int (i : Int)
  | neg (i : Int)
  | str (s : Str)
  | var (i : Nat)
  | tup (es : List Bx)
  | lof (i : Nat)
  | cat (a b : Bx)
  | tl (i : Nat)
  | hd3 (i : Nat)
  | ite (i : Nat)
def tupOf : PyData → List PyData
  | .tuple ds => ds
  | _ => []
def isText (d : PyData) : Bool := match d with
  | .str s => s == ("text" : Str)
  | _ => false
mutual
def Bx.val (env : Nat → PyData) : Bx → PyData
  | .non => .none
  | .bl b => .bool b
  | .int i => .int i
  | .neg i => .int (-i)
  | .str s => .str s
  | .var i => env i
  | .tup es => .tuple (Bx.vals env es)
  | .lof i => .list (tupOf (env i))
  | .cat a b => .tuple (tupOf (Bx.val env a) ++ tupOf (Bx.val env b))
  | .tl i => .tuple ((tupOf (env i)).drop 1)
  | .hd3 i => .tuple ((tupOf (env i)).take 3)
  | .ite i => if isText (env i) = true then .int 0 else .str "0"
def Bx.vals (env : Nat → PyData) : List Bx → List PyData
  | [] => []
  | e :: es => Bx.val env e :: Bx.vals env es
end
def rListOf (K : PySem.W.Frag) : List V → Hp → VK → Prop := fun xs H Q => ∃ p ys, xs = [V.ref p] ∧ (SqL K H p ys ∨ SqT K H p ys) ∧ ∀ l, H l = none → Q (.ref l) (upd H l (.lst ys))
mutual
def tBx (K : PySem.W.Frag) : Bx → TE
  | .non => tC .non
  | .bl b => tC (.bl b)
  | .int i => tC (.int i)
  | .neg i => tUn (rU fun i => .int (-i)) (tC (.int i))
  | .str s => tC (.str s)
  | .var i => tVar i
  | .tup es => tTup (tBxs K es)
  | .lof i => tCB (rListOf K) (tCons (tVar i) tNil)
  | .cat a b => tOp (rCatA K) (tBx K a) (tBx K b)
  | .tl i => tSl (rSlT K) (tVar i) (tPart (tC (.int 1))) tNoPart
  | .hd3 i => tSl (rSlT K) (tVar i) tNoPart (tPart (tC (.int 3)))
  | .ite i => tIf (tTest (tOp rEq (tVar i) (tC (.str "text")))) (tC (.int 0)) (tC (.str "0"))
def tBxs (K : PySem.W.Frag) : List Bx → TA
  | [] => tNil
  | e :: es => tCons (tBx K e) (tBxs K es)
end
theorem vals_len (env : Nat → PyData) : ∀ es : List Bx, (Bx.vals env es).length = es.length
  | [] => rfl
  | _ :: es => by
    show (Bx.vals env es).length + 1 = _
    rw [vals_len env es]
    rfl
def isT (d : PyData) (lo hi : Nat) : Prop := ∃ ds, d = .tuple ds ∧ lo ≤ ds.length ∧ ds.length ≤ hi
mutual
/-- which displays may stand, by the slots that are filled -/
def Bx.ok (env : Nat → PyData) (has : Nat → Prop) : Bx → Prop
  | .var i => has i
  | .tup es => es.length ≤ 100 ∧ Bx.oks env has es
  | .lof i => has i ∧ isT (env i) 0 100
  | .cat a b => Bx.ok env has a ∧ Bx.ok env has b ∧ isT (Bx.val env a) 0 100 ∧ isT (Bx.val env b) 0 100
  | .tl i => has i ∧ isT (env i) 1 100
  | .hd3 i => has i ∧ isT (env i) 4 100
  | .ite i => has i ∧ ∃ s, env i = .str s
  | .non => True
  | .bl _ => True
  | .int _ => True
  | .neg _ => True
  | .str _ => True
def Bx.oks (env : Nat → PyData) (has : Nat → Prop) : List Bx → Prop
  | [] => True
  | e :: es => Bx.ok env has e ∧ Bx.oks env has es
end
theorem dps_drop {K : PySem.W.Frag} {H : Hp} : ∀ (n : Nat) {xs : List V} {ds : List PyData}, DpAll K H xs ds → DpAll K H (xs.drop n) (ds.drop n)
  | 0, _, _, h => h
  | _ + 1, _, _, .nil => .nil
  | n + 1, _, _, .cons _ b => dps_drop n b
theorem dps_take {K : PySem.W.Frag} {H : Hp} : ∀ (n : Nat) {xs : List V} {ds : List PyData}, DpAll K H xs ds → DpAll K H (xs.take n) (ds.take n)
  | 0, _, _, _ => .nil
  | _ + 1, _, _, .nil => .nil
  | n + 1, _, _, .cons a b => .cons a (dps_take n b)
theorem cut_tl (xs : List V) (h : 1 ≤ xs.length) : cutV xs (some (1 : Int)) none = xs.drop 1 ∧ HT.sIx xs.length 0 (some (1 : Int)) = 1 := by
  have e : HT.sIx xs.length 0 (some (1 : Int)) = 1 := by
    have := HT.sIx_nat xs.length 0 1
    rw [show ((1 : Nat) : Int) = 1 from rfl] at this
    rw [this]
    omega
  refine ⟨?_, e⟩
  unfold cutV
  rw [HT.sIx_none, e, List.take_of_length_le (by rw [List.length_drop]; omega)]
theorem cut_hd (xs : List V) (h : 4 ≤ xs.length) : cutV xs none (some (3 : Int)) = xs.take 3 ∧ HT.sIx xs.length xs.length (some (3 : Int)) = 3 := by
  have e : HT.sIx xs.length xs.length (some (3 : Int)) = 3 := by
    have := HT.sIx_nat xs.length xs.length 3
    rw [show ((3 : Nat) : Int) = 3 from rfl] at this
    rw [this]
    omega
  refine ⟨?_, e⟩
  unfold cutV
  rw [HT.sIx_none, e]
  rfl
theorem small100 {n : Nat} (h : n ≤ 1000) : n ≤ sizeLine := Nat.le_of_lt (small1000 h)
mutual
theorem lay_bx {K : PySem.W.Frag} {d : Addr} {env : Nat → PyData} {has : Nat → Prop} : ∀ (e : Bx) (_ : Bx.ok env has e) {σ : L2.St} {H : Hp} {Q : VK}, (∃ o, H d = some o) → (∀ i, has i → ∃ v, σ[i]? = some (some v) ∧ Dp K (del H d) v (env i)) →
    (∀ v H', Same H H' → Dp K (del H' d) v (Bx.val env e) → Q v H') → tBx K e σ H Q
  | .non, _, _, H, _, _, _, k => k _ H (Same.refl H) .non
  | .bl b, _, _, H, _, _, _, k => k _ H (Same.refl H) (.bl b)
  | .int i, _, _, H, _, _, _, k => k _ H (Same.refl H) (.int i)
  | .str s, _, _, H, _, _, _, k => k _ H (Same.refl H) (.str s)
  | .neg i, _, _, H, _, _, _, k => ⟨i, rfl, k _ H (Same.refl H) (.int _)⟩
  | .var i, h, _, H, _, _, hv, k => by
    obtain ⟨v, e, dv⟩ := hv i h
    exact ⟨v, e, k v H (Same.refl H) dv⟩
  | .tup es, h, σ, H, Q, hd, hv, k => by
    show tTup (tBxs K es) σ H Q
    refine lay_bxs es h.2 hd hv fun vs H1 g dv => ⟨?_, fun p hp => k _ _ (g.trans (same_new hp _)) ?_⟩
    · rw [dps_len dv, vals_len]
      exact small100 (Nat.le_trans h.1 (by decide))
    · obtain ⟨o, ho⟩ := hd
      have np : p ≠ d := fun z => by
        rw [z, g _ _ ho] at hp
        cases hp
      exact .tup (SqT.of (off_at upd_same np)) (dps_same (off_new hp) _ _ dv)
  | .lof i, h, σ, H, Q, hd, hv, k => by
    obtain ⟨v, e, dv⟩ := hv i h.1
    obtain ⟨ds, ed, _, hi⟩ := h.2
    rw [ed] at dv
    obtain ⟨a, xs, rfl, ht, da⟩ := dp_tup dv
    refine ⟨_, e, a, xs, rfl, .inr (Same.tup off_in ht), fun l hl => k _ _ (same_new hl _) ?_⟩
    obtain ⟨o, ho⟩ := hd
    have np : l ≠ d := fun z => by
      rw [z, ho] at hl
      cases hl
    show Dp K _ _ (.list (tupOf (env i)))
    rw [ed]
    exact .lst (SqL.of (off_at upd_same np)) (dps_same (off_new hl) _ _ da)
  | .tl i, h, σ, H, Q, hd, hv, k => by
    obtain ⟨v, e, dv⟩ := hv i h.1
    obtain ⟨ds, ed, lo, hi⟩ := h.2
    rw [ed] at dv
    obtain ⟨a, xs, rfl, ht, da⟩ := dp_tup dv
    have ln := dps_len da
    obtain ⟨c1, c2⟩ := cut_tl xs (by omega)
    refine ⟨_, e, 1, rfl, a, xs, rfl, Same.tup off_in ht, ?_, fun p hp => k _ _ (same_new hp _) ?_⟩
    · rw [c2]
      exact fun z => absurd z.1 (by decide)
    · obtain ⟨o, ho⟩ := hd
      have np : p ≠ d := fun z => by
        rw [z, ho] at hp
        cases hp
      show Dp K _ _ (.tuple ((tupOf (env i)).drop 1))
      rw [ed, c1]
      exact .tup (SqT.of (off_at upd_same np)) (dps_drop 1 (dps_same (off_new hp) _ _ da))
  | .hd3 i, h, σ, H, Q, hd, hv, k => by
    obtain ⟨v, e, dv⟩ := hv i h.1
    obtain ⟨ds, ed, lo, hi⟩ := h.2
    rw [ed] at dv
    obtain ⟨a, xs, rfl, ht, da⟩ := dp_tup dv
    have ln := dps_len da
    obtain ⟨c1, c2⟩ := cut_hd xs (by omega)
    refine ⟨_, e, 3, rfl, a, xs, rfl, Same.tup off_in ht, ?_, fun p hp => k _ _ (same_new hp _) ?_⟩
    · rw [c2]
      exact fun z => absurd z.2 (by omega)
    · obtain ⟨o, ho⟩ := hd
      have np : p ≠ d := fun z => by
        rw [z, ho] at hp
        cases hp
      show Dp K _ _ (.tuple ((tupOf (env i)).take 3))
      rw [ed, c1]
      exact .tup (SqT.of (off_at upd_same np)) (dps_take 3 (dps_same (off_new hp) _ _ da))
  | .ite i, h, σ, H, Q, hd, hv, k => by
    obtain ⟨v, e, dv⟩ := hv i h.1
    obtain ⟨s, ed⟩ := h.2
    rw [ed] at dv
    obtain rfl := dp_str dv
    have ev : Bx.val env (.ite i) = if (s == ("text" : Str)) = true then .int 0 else .str "0" := by
      show (if isText (env i) = true then _ else _) = _
      rw [ed]
      rfl
    rw [ev] at k
    have es : decide (V.str s = V.str "text") = (s == ("text" : Str)) := by
      by_cases c : s = ("text" : Str)
      · subst c
        simp
      · rw [decide_eq_false (fun z => c (V.str.inj z)), beq_eq_false_iff_ne.mpr c]
    refine ⟨_, e, rfl, ⟨_, rfl, ?_⟩⟩
    show if (decide (V.str s = V.str "text")) = true then _ else _
    rw [es]
    cases c : (s == ("text" : Str)) with
    | true =>
      rw [c, if_pos rfl] at k
      exact iteT (k _ H (Same.refl H) (.int 0))
    | false =>
      rw [c, if_neg Bool.false_ne_true] at k
      exact iteF (k _ H (Same.refl H) (.str "0"))
  | .cat a b, h, σ, H, Q, hd, hv, k => by
    obtain ⟨ha, hb, ⟨da, ea, _, la⟩, ⟨db, eb, _, lb⟩⟩ := h
    show tOp (rCatA K) (tBx K a) (tBx K b) σ H Q
    refine lay_bx a ha hd hv fun v H1 g1 dv => ?_
    obtain ⟨o, ho⟩ := hd
    refine lay_bx b hb ⟨o, g1 _ _ ho⟩ (fun i hi => ?_) fun u H2 g2 du => ?_
    · obtain ⟨w, e, dw⟩ := hv i hi
      exact ⟨w, e, dp_same (off_same g1) _ _ dw⟩
    rw [ea] at dv
    rw [eb] at du
    obtain ⟨x, xs, rfl, hx, dx⟩ := dp_tup (dp_same (off_same g2) _ _ dv)
    obtain ⟨y, ys, rfl, hy, dy⟩ := dp_tup du
    have lx := dps_len dx
    have ly := dps_len dy
    have ev : Bx.val env (.cat a b) = .tuple (da ++ db) := by
      show PyData.tuple (tupOf (Bx.val env a) ++ tupOf (Bx.val env b)) = _
      rw [ea, eb]
      rfl
    rw [ev] at k
    refine ⟨x, y, xs, ys, rfl, rfl, Same.tup off_in hx, Same.tup off_in hy, small100 (by omega), fun e => ?_, fun _ e => ?_, fun _ _ p hp => ?_⟩
    · refine k _ H2 (g1.trans g2) ?_
      subst e
      cases dx
      exact .tup hy dy
    · refine k _ H2 (g1.trans g2) ?_
      subst e
      cases dy
      rw [List.append_nil]
      exact .tup hx dx
    · refine k _ _ ((g1.trans g2).trans (same_new hp _)) ?_
      have np : p ≠ d := fun z => by
        rw [z, g2 _ _ (g1 _ _ ho)] at hp
        cases hp
      exact .tup (SqT.of (off_at upd_same np)) (dps_app (dps_same (off_new hp) _ _ dx) (dps_same (off_new hp) _ _ dy))
theorem lay_bxs {K : PySem.W.Frag} {d : Addr} {env : Nat → PyData} {has : Nat → Prop} : ∀ (es : List Bx) (_ : Bx.oks env has es) {σ : L2.St} {H : Hp} {Q : List V → Hp → Prop}, (∃ o, H d = some o) → (∀ i, has i → ∃ v, σ[i]? = some (some v) ∧ Dp K (del H d) v (env i)) →
    (∀ vs H', Same H H' → DpAll K (del H' d) vs (Bx.vals env es) → Q vs H') → tBxs K es σ H Q
  | [], _, _, H, _, _, _, k => k _ H (Same.refl H) .nil
  | e :: es, h, σ, H, Q, hd, hv, k => by
    show tCons (tBx K e) (tBxs K es) σ H Q
    refine lay_bx e h.1 hd hv fun v H1 g dv => ?_
    obtain ⟨o, ho⟩ := hd
    refine lay_bxs es h.2 ⟨o, g _ _ ho⟩ (fun i hi => ?_) fun vs H2 g2 dvs => k _ _ (g.trans g2) (.cons (dp_same (off_same g2) _ _ dv) dvs)
    obtain ⟨w, e, dw⟩ := hv i hi
    exact ⟨w, e, dp_same (off_same g) _ _ dw⟩
end

end
end My
set_option Elab.async false
set_option linter.all false
set_option maxRecDepth 100000
set_option maxHeartbeats 400000
namespace My
open PySem L2 PySem.Spec PyProof.Rows
section
variable {P : Program} {w : World} {K : PySem.W.Frag} {mg : Str → Option Value} {base : Heap}
/-! ### a row that is bent -/
theorem row_parts {hn sn : Nat} {bs : List Bool} {r : Row4} (g : Good4 hn bs sn r) : ∃ vs ss, r.v = .tuple vs ∧ vs.length = bs.length ∧ r.s = .tuple ss ∧ ss.length = sn := by
  have h : (betD 0 1000000 (.int r.b) && (numsD hn (.tuple (r.ks.map PyData.int)) && (valuesD bs r.v && numsD sn r.s))) = true := g.row
  rw [Bool.and_eq_true, Bool.and_eq_true, Bool.and_eq_true] at h
  obtain ⟨_, _, hv, hs⟩ := h
  obtain ⟨b, ks, v, s⟩ := r
  cases v with
  | tuple vs =>
    have hv' : (if vs.length = bs.length then zipD bs vs else false) = true := hv
    cases s with
    | tuple ss =>
      have hs' : (if ss.length = sn then ss.all nearD else false) = true := hs
      by_cases c1 : vs.length = bs.length
      · by_cases c2 : ss.length = sn
        · exact ⟨vs, ss, rfl, c1, rfl, c2⟩
        · rw [if_neg c2] at hs'
          cases hs'
      · rw [if_neg c1] at hv'
        cases hv'
    | _ => cases hs
  | _ => cases hv
theorem len_tup {ds : List PyData} (h : ds.length ≤ 1000) : LenOk (.tuple ds) := fun es e => by
  cases e
  exact h
theorem len_flat {d : PyData} (h : isTupD d = false) : LenOk d := fun es e => by
  rw [e] at h
  cases h
def BadR (hn : Nat) (bs : List Bool) (sn : Nat) (d : PyData) : Prop := rowD hn bs sn d = false ∧ RowOk d
theorem bad_not {hn sn : Nat} {bs : List Bool} {d : PyData} (h : isTupD d = false) : BadR hn bs sn d := ⟨row_not h, fun ds e => by
  rw [e] at h
  cases h⟩
theorem bad_len {hn sn : Nat} {bs : List Bool} {ds : List PyData} (h : ds.length ≠ 4) (k : ∀ e ∈ ds, LenOk e) : BadR hn bs sn (.tuple ds) := ⟨row_four h, fun es e => by
  cases e
  exact k⟩
theorem bad_at {hn sn : Nat} {bs : List Bool} {a b c d : PyData} (h : betD 0 1000000 a = false ∨ numsD hn b = false ∨ valuesD bs c = false ∨ numsD sn d = false) (ka : LenOk a) (kb : LenOk b) (kc : LenOk c) (kd : LenOk d) : BadR hn bs sn (.tuple [a, b, c, d]) := by
  refine ⟨?_, fun es e => ?_⟩
  · have e : rowD hn bs sn (.tuple [a, b, c, d]) = (betD 0 1000000 a && (numsD hn b && (valuesD bs c && numsD sn d))) := rfl
    rw [e]
    rcases h with h | h | h | h <;> rw [h] <;> simp
  · cases e
    intro x hx
    rcases List.mem_cons.mp hx with rfl | hx
    · exact ka
    rcases List.mem_cons.mp hx with rfl | hx
    · exact kb
    rcases List.mem_cons.mp hx with rfl | hx
    · exact kc
    obtain rfl := List.mem_singleton.mp hx
    exact kd
theorem nums_len {n : Nat} {ds : List PyData} (h : ds.length ≠ n) : numsD n (.tuple ds) = false := if_neg h
theorem nums_head {n : Nat} {d : PyData} {ds : List PyData} (h : nearD d = false) : numsD n (.tuple (d :: ds)) = false := by
  show (if (d :: ds).length = n then (d :: ds).all nearD else false) = false
  rw [List.all_cons, h, Bool.false_and]
  exact ite_self _
theorem vals_len' {bs : List Bool} {ds : List PyData} (h : ds.length ≠ bs.length) : valuesD bs (.tuple ds) = false := if_neg h
theorem vals_head {b : Bool} {bs : List Bool} {d : PyData} {ds : List PyData} (h : valueD b d = false) : valuesD (b :: bs) (.tuple (d :: ds)) = false := by
  show (if (d :: ds).length = (b :: bs).length then (valueD b d && zipD bs ds) else false) = false
  rw [h, Bool.false_and]
  exact ite_self _
/-- bad + [..] -/
theorem more_bad {K : PySem.W.Frag} {d p : Addr} {env : Nat → PyData} {has : Nat → Prop} {xs : List V} {ds : List PyData} (es : List Bx) (ok : Bx.oks env has es) (l1 : ds.length ≤ 100) (l2 : es.length ≤ 100) {σ : L2.St} {H : Hp} {Q : VK} {i : Nat} (hp : σ[i]? = some (some (.ref p))) (hd : ∃ o, H d = some o)
    (hv : ∀ i, has i → ∃ v, σ[i]? = some (some v) ∧ Dp K (del H d) v (env i)) (e : H p = some (.lst xs)) (da : DpAll K (del H d) xs ds) (k : ∀ q ys H', Same H H' → q ≠ d → H' q = some (.lst ys) → DpAll K (del H' d) ys (ds ++ Bx.vals env es) → Q (.ref q) H') :
    tOp rCat (tVar i) (tLst (tBxs K es)) σ H Q := by
  refine ⟨_, hp, lay_bxs es ok hd hv fun vs H1 g dv => ⟨by rw [dps_len dv, vals_len]; exact small100 (by omega), fun l hl => ?_⟩⟩
  have g1 := g.trans (same_new hl (.lst vs))
  refine ⟨p, l, xs, vs, rfl, rfl, g1 _ _ e, upd_same, by rw [dps_len dv, vals_len, dps_len da]; exact small100 (by omega), fun q hq => ?_⟩
  obtain ⟨o, ho⟩ := hd
  have nq : q ≠ d := fun z => by
    rw [z, g1 _ _ ho] at hq
    cases hq
  refine k q _ _ (g1.trans (same_new hq _)) nq upd_same ?_
  exact dps_app (dps_same (off_same (g1.trans (same_new hq _))) _ _ da) (dps_same ((off_new hl).trans (off_new hq)) _ _ dv)
def sp_bent (K : PySem.W.Frag) : Sp := fun vs H Q _ => ∃ (d cl t : Addr) (hs : List Str) (as : List (Str × Bool)) (ss : List Str) (r : Row4), vs = [.ref d, .ref cl, .ref t] ∧ Drw K H d ∧ ClAt K d H cl hs as ss ∧ hs ∈ hsL ∧ as ∈ bigA :: asL ∧ ss ∈ ssL ∧ Dp K H (.ref t) r.d ∧ Good4 hs.length ((sortA as).map Prod.snd) ss.length r ∧
  ∀ (v : V) (e : PyData) (H' : Hp), Drw K H' d → But d H H' → Dp K (del H' d) v e → rowD hs.length ((sortA as).map Prod.snd) ss.length e = false → RowOk e → Q v H'
def bentE (r : Row4) (x y : PyData) : Nat → PyData
  | 2 => r.d
  | 3 => .int r.b
  | 4 => .tuple (r.ks.map PyData.int)
  | 5 => r.v
  | 6 => r.s
  | 8 => x
  | 9 => y
  | _ => .none
def hasB (e i : Nat) : Prop := i = 2 ∨ i = 3 ∨ i = 4 ∨ i = 5 ∨ i = 6 ∨ i = e
theorem hb2 {e : Nat} : hasB e 2 := .inl rfl
theorem hb3 {e : Nat} : hasB e 3 := .inr (.inl rfl)
theorem hb4 {e : Nat} : hasB e 4 := .inr (.inr (.inl rfl))
theorem hb5 {e : Nat} : hasB e 5 := .inr (.inr (.inr (.inl rfl)))
theorem hb6 {e : Nat} : hasB e 6 := .inr (.inr (.inr (.inr (.inl rfl))))
theorem hbe {e : Nat} : hasB e e := .inr (.inr (.inr (.inr (.inr rfl))))
def bent1 : List Bx := [.lof 2, .hd3 2, .cat (.var 2) (.tup [.int 0]), .non, .tup [.neg 1, .var 4, .var 5, .var 6], .tup [.bl true, .var 4, .var 5, .var 6], .tup [.int 1000001, .var 4, .var 5, .var 6]]
def bent2 : List Bx := [.tup [.var 3, .lof 4, .var 5, .var 6], .tup [.var 3, .cat (.var 4) (.tup [.int 0]), .var 5, .var 6]]
def bent3 : List Bx := [.tup [.var 3, .var 4, .cat (.var 5) (.tup [.int 0]), .var 6], .tup [.var 3, .var 4, .var 5, .cat (.var 6) (.tup [.int 1])]]
def bent4 : List Bx := [.tup [.var 3, .cat (.tup [.var 8]) (.tl 4), .var 5, .var 6]]
def bent5 : List Bx := [.tup [.var 3, .var 4, .cat (.tup [.non]) (.tl 5), .var 6], .tup [.var 3, .var 4, .cat (.tup [.ite 9]) (.tl 5), .var 6]]
def bent6 : List Bx := [.tup [.var 3, .var 4, .var 5, .cat (.tup [.neg 1000001]) (.tl 6)], .tup [.var 3, .var 4, .var 5, .cat (.tup [.str "1"]) (.tl 6)]]
theorem shaped_ints (ks : List Int) : SeqAt.shaped (.tuple (ks.map PyData.int)) = true := by
  obtain ⟨h1, h2, _⟩ := tup_lay (int_fl ks)
  have e : SeqAt.shaped (.tuple (ks.map PyData.int)) = (PyData.canLay0 (.tuple (ks.map PyData.int)) && decide ((PyData.tuple (ks.map PyData.int)).depth ≤ 64)) := rfl
  rw [e, h1, decide_eq_true (by omega)]
  rfl
theorem eqv_none (ks : List Int) : (!PyData.eqv (.tuple (ks.map PyData.int)) (.tuple [])) = !decide (ks = []) := by
  cases ks with
  | nil => rfl
  | cons k r => rfl
theorem drawn_ss : ∀ ss ∈ ssL, 1 ≤ ss.length := by decide +kernel
theorem ok__law_bent (T : Txt K mg) : FnOk P w K mg base CX0 4 T.a__law_bent T.d__law_bent ["draw", "columns", "row"] (sp_bent K) := by
  have G__law_pick := ok__law_pick (P := P) (w := w) (base := base) T
  refine T.F__law_bent.ok sc__law_bent (fun vs H Q E h => ?_) (fun cdv A outer s H vs Q E hr h => ?_)
  · obtain ⟨d, cl, t, hs, as, ss, r, rfl, _⟩ := h
    rfl
  obtain ⟨d, cl, t, hs, as, ss, r, rfl, hD, ⟨l, a, s2, c1, nc, nl, na, ns, c2, c3, c4⟩, mh, ma, ms, hr4, g4, k⟩ := h
  refine ⟨_, (pss_cons (ps_asg (pv 2) (pg_tup rfl (pgs_cons (pg_name (i := 3) sc__law_bent.nd rfl (by first | exact Or.inl rfl | exact Or.inr rfl)) (pgs_cons (pg_name (i := 4) sc__law_bent.nd rfl (by first | exact Or.inl rfl | exact Or.inr rfl)) (pgs_cons (pg_name (i := 5) sc__law_bent.nd rfl (by first | exact Or.inl rfl | exact Or.inr rfl)) (pgs_cons (pg_name (i := 6) sc__law_bent.nd rfl (by first | exact Or.inl rfl | exact Or.inr rfl)) pgs_nil))))))
    (pss_cons (ps_set (i := 7) sc__law_bent.nd rfl (by first | exact Or.inl rfl | exact Or.inr rfl) (pe_lst (pa_cons (pe_callTy call_list_of (by rfl) T.z_list (by decide +kernel) (pa_cons (pv 2) pa_nil)) (pa_cons (pe_slice sl_tup (pv 2) po_none (po_some pe_int)) (pa_cons (pe_op op_catA (pv 2) (pe_tup (pa_cons pe_int pa_nil))) (pa_cons pe_non (pa_cons (pe_tup (pa_cons (pe_un un_neg pe_int) (pa_cons (pv 4) (pa_cons (pv 5) (pa_cons (pv 6) pa_nil))))) (pa_cons (pe_tup (pa_cons pe_bl (pa_cons (pv 4) (pa_cons (pv 5) (pa_cons (pv 6) pa_nil))))) (pa_cons (pe_tup (pa_cons pe_int (pa_cons (pv 4) (pa_cons (pv 5) (pa_cons (pv 6) pa_nil))))) pa_nil)))))))))
    (pss_cons (ps_set (i := 7) sc__law_bent.nd rfl (by first | exact Or.inl rfl | exact Or.inr rfl) (pe_op op_cat (pv 7) (pe_lst (pa_cons (pe_tup (pa_cons (pv 3) (pa_cons (pe_callTy call_list_of (by rfl) T.z_list (by decide +kernel) (pa_cons (pv 4) pa_nil)) (pa_cons (pv 5) (pa_cons (pv 6) pa_nil))))) (pa_cons (pe_tup (pa_cons (pv 3) (pa_cons (pe_op op_catA (pv 4) (pe_tup (pa_cons pe_int pa_nil))) (pa_cons (pv 5) (pa_cons (pv 6) pa_nil))))) pa_nil)))))
    (pss_cons (ps_set (i := 7) sc__law_bent.nd rfl (by first | exact Or.inl rfl | exact Or.inr rfl) (pe_op op_cat (pv 7) (pe_lst (pa_cons (pe_tup (pa_cons (pv 3) (pa_cons (pv 4) (pa_cons (pe_op op_catA (pv 5) (pe_tup (pa_cons pe_int pa_nil))) (pa_cons (pv 6) pa_nil))))) (pa_cons (pe_tup (pa_cons (pv 3) (pa_cons (pv 4) (pa_cons (pv 5) (pa_cons (pe_op op_catA (pv 6) (pe_tup (pa_cons pe_int pa_nil))) pa_nil))))) pa_nil)))))
    (pss_cons (ps_if (pt_cmpR (op_neD (hu64 hr)) (pv 4) (pe_tup pa_nil) (nomark _)) (pss_one (ps_for PassesOwn.never rfl (pi_tup (pe_tup (pa_cons pe_non (pa_cons pe_int (pa_cons pe_bl pa_nil))))) (pg_name (i := 8) sc__law_bent.nd rfl (by first | exact Or.inl rfl | exact Or.inr rfl))
    (pss_one (ps_set (i := 7) sc__law_bent.nd rfl (by first | exact Or.inl rfl | exact Or.inr rfl) (pe_op op_cat (pv 7) (pe_lst (pa_cons (pe_tup (pa_cons (pv 3) (pa_cons (pe_op op_catA (pe_tup (pa_cons (pv 8) pa_nil)) (pe_slice sl_tup (pv 4) (po_some pe_int) po_none)) (pa_cons (pv 5) (pa_cons (pv 6) pa_nil))))) pa_nil))))))) pss_nil)
    (pss_cons (ps_if (pt_cmpR (op_neD (hu64 hr)) (pv 5) (pe_tup pa_nil) (nomark _)) (pss_cons (ps_set (i := 9) sc__law_bent.nd rfl (by first | exact Or.inl rfl | exact Or.inr rfl) (pe_dget (hu_of hr) (pe_ix ix_tup (pv 1) pe_int (fun _ _ => rfl)) (pe_ix ix_list (pe_callB (call_sortedD rfl) (by rfl) T.z_sorted (by decide +kernel) (pa_cons (pe_ix ix_tup (pv 1) pe_int (fun _ _ => rfl)) pa_nil)) pe_int (fun _ _ => rfl)) (fun _ _ => rfl)))
    (pss_one (ps_set (i := 7) sc__law_bent.nd rfl (by first | exact Or.inl rfl | exact Or.inr rfl) (pe_op op_cat (pv 7) (pe_lst (pa_cons (pe_tup (pa_cons (pv 3) (pa_cons (pv 4) (pa_cons (pe_op op_catA (pe_tup (pa_cons pe_non pa_nil)) (pe_slice sl_tup (pv 5) (po_some pe_int) po_none)) (pa_cons (pv 6) pa_nil))))) (pa_cons (pe_tup (pa_cons (pv 3) (pa_cons (pv 4) (pa_cons (pe_op op_catA (pe_tup (pa_cons (pe_ifExp (pt_cmpR op_eq (pv 9) pe_str (nomark _)) pe_int pe_str) pa_nil)) (pe_slice sl_tup (pv 5) (po_some pe_int) po_none)) (pa_cons (pv 6) pa_nil))))) pa_nil))))))) pss_nil)
    (pss_one (ps_ret (pe_call G__law_pick (hr.mono (by first | decide | omega)) (by rfl) T.m__law_pick T.F__law_pick.kp T.b__law_pick .nil pass0 (pa_cons (pv 0) (pa_cons (pe_op op_cat (pv 7) (pe_lst (pa_cons (pe_tup (pa_cons (pv 3) (pa_cons (pv 4) (pa_cons (pv 5) (pa_cons (pe_op op_catA (pe_tup (pa_cons (pe_un un_neg pe_int) pa_nil)) (pe_slice sl_tup (pv 6) (po_some pe_int) po_none)) pa_nil))))) (pa_cons (pe_tup (pa_cons (pv 3) (pa_cons (pv 4) (pa_cons (pv 5) (pa_cons (pe_op op_catA (pe_tup (pa_cons pe_str pa_nil)) (pe_slice sl_tup (pv 6) (po_some pe_int) po_none)) pa_nil))))) pa_nil)))) pa_nil))))))))))), ?_⟩
  have lh := drawn_len.1 hs mh
  have la := drawn_len.2.1 as ma
  have ls := drawn_len.2.2 ss ms
  have ls1 := drawn_ss ss ms
  obtain ⟨vs, us, ev, lv, eu, lu⟩ := row_parts g4
  have lbs : ((sortA as).map Prod.snd).length = as.length := by rw [List.length_map, sorted_len]
  have lk := g4.len
  have d0 : Dp K (del H d) (.ref t) r.d := dp_tups (TK.off hD) _ _ g4.nol hr4
  obtain ⟨a0, xs, et, ht, dx⟩ := dp_tup d0
  cases et
  obtain ⟨x1, x2, x3, x4, rfl, p1, p2, p3, p4⟩ := dps_four dx
  refine ⟨_, rfl, t, _, rfl, Same.tup off_in ht, rfl, _, _, rfl, _, _, rfl, _, _, rfl, _, _, rfl, rfl, ?_⟩
  obtain ⟨od, hod⟩ := hD.at
  have slots : ∀ (e : Nat) (x y : PyData) (z7 z8 z9 : Option V) (H' : Hp), Same H H' → (∃ v, ([some (.ref d), some (.ref cl), some (.ref t), some x1, some x2, some x3, some x4, z7, z8, z9] : L2.St)[e]? = some (some v) ∧ Dp K (del H' d) v (bentE r x y e)) →
      ∀ i, hasB e i → ∃ v, ([some (.ref d), some (.ref cl), some (.ref t), some x1, some x2, some x3, some x4, z7, z8, z9] : L2.St)[i]? = some (some v) ∧ Dp K (del H' d) v (bentE r x y i) := fun e x y z7 z8 z9 H' g he i h => by
    rcases h with rfl | rfl | rfl | rfl | rfl | rfl
    · exact ⟨_, rfl, dp_same (off_same g) _ _ d0⟩
    · exact ⟨_, rfl, dp_same (off_same g) _ _ p1⟩
    · exact ⟨_, rfl, dp_same (off_same g) _ _ p2⟩
    · exact ⟨_, rfl, dp_same (off_same g) _ _ p3⟩
    · exact ⟨_, rfl, dp_same (off_same g) _ _ p4⟩
    · exact he
  have slot0 : ∀ (x y : PyData) (z7 z8 z9 : Option V) (H' : Hp), Same H H' → ∀ i, hasB 2 i → ∃ v, ([some (.ref d), some (.ref cl), some (.ref t), some x1, some x2, some x3, some x4, z7, z8, z9] : L2.St)[i]? = some (some v) ∧ Dp K (del H' d) v (bentE r x y i) :=
    fun x y z7 z8 z9 H' g => slots 2 x y z7 z8 z9 H' g ⟨_, rfl, dp_same (off_same g) _ _ d0⟩
  have e2 : r.d = .tuple [.int r.b, .tuple (r.ks.map PyData.int), .tuple vs, .tuple us] := by
    show PyData.tuple [.int r.b, .tuple (r.ks.map PyData.int), r.v, r.s] = _
    rw [ev, eu]
  have tk : isT (.tuple (r.ks.map PyData.int)) 0 100 := ⟨_, rfl, Nat.zero_le _, by rw [List.length_map]; omega⟩
  have tv : isT r.v 0 100 := ⟨vs, ev, Nat.zero_le _, by omega⟩
  have ts : isT r.s 1 100 := ⟨us, eu, by omega, by omega⟩
  have ts0 : isT r.s 0 100 := ⟨us, eu, Nat.zero_le _, by omega⟩
  have tr : isT r.d 4 100 := ⟨_, e2, by show 4 ≤ 4; decide, by show 4 ≤ 100; decide⟩
  have tr0 : isT r.d 0 100 := ⟨_, e2, Nat.zero_le _, by show 4 ≤ 100; decide⟩
  have one : ∀ e : PyData, isT (.tuple [e]) 0 100 := fun e => ⟨_, rfl, Nat.zero_le _, by show 1 ≤ 100; decide⟩
  have okk : LenOk (.tuple (r.ks.map PyData.int)) := len_tup (by rw [List.length_map]; omega)
  have okv : LenOk r.v := by rw [ev]; exact len_tup (by omega)
  have oks : LenOk r.s := by rw [eu]; exact len_tup (by omega)
  have okb : LenOk (.int r.b) := len_flat rfl
  dsimp only
  let St : Nat → L2.St → Hp → Prop := fun n σ' H' => ∃ (p : Addr) (ys : List V) (ds : List PyData) (z8 z9 : Option V), σ' = [some (.ref d), some (.ref cl), some (.ref t), some x1, some x2, some x3, some x4, some (.ref p), z8, z9] ∧ Same H H' ∧ p ≠ d ∧ H' p = some (.lst ys) ∧ DpAll K (del H' d) ys ds ∧ (ds.length ≤ n ∧ 1 ≤ ds.length) ∧ ∀ e ∈ ds, BadR hs.length ((sortA as).map Prod.snd) ss.length e
  refine seq_cut (St 10) (fun σ' H' h => ?_) (fun tail => ?_)
  rotate_left
  · show tLst (tBxs K bent1) _ H _
    refine lay_bxs (d := d) (env := bentE r .none .none) (has := hasB 2) bent1 ?_ ⟨_, hod⟩ (slot0 _ _ _ _ _ H (Same.refl H)) fun vs' H1 g dv => ⟨?_, fun p hp => ?_⟩
    · exact ⟨⟨hb2, tr0⟩, ⟨hb2, tr⟩, ⟨hb2, ⟨by decide, trivial, trivial⟩, tr0, one _⟩, trivial, ⟨by decide, trivial, hb4, hb5, hb6, trivial⟩, ⟨by decide, trivial, hb4, hb5, hb6, trivial⟩, ⟨by decide, trivial, hb4, hb5, hb6, trivial⟩, trivial⟩
    · rw [dps_len dv, vals_len]
      exact small100 (by decide)
    · refine tail _ _ ⟨p, vs', _, _, _, rfl, g.trans (same_new hp _), fun z => ?_, upd_same, dps_same (off_new hp) _ _ dv, by rw [vals_len]; decide, ?_⟩
      · rw [z, g _ _ hod] at hp
        cases hp
      · have e : Bx.vals (bentE r .none .none) bent1 = [.list (tupOf r.d), .tuple ((tupOf r.d).take 3), .tuple (tupOf r.d ++ [.int 0]), .none, .tuple [.int (-1), .tuple (r.ks.map PyData.int), r.v, r.s], .tuple [.bool true, .tuple (r.ks.map PyData.int), r.v, r.s], .tuple [.int 1000001, .tuple (r.ks.map PyData.int), r.v, r.s]] := rfl
        rw [e, e2]
        rw [ev] at okv ⊢
        rw [eu] at oks ⊢
        intro x hx
        simp only [tupOf, List.mem_cons, List.not_mem_nil, or_false] at hx
        rcases hx with rfl | rfl | rfl | rfl | rfl | rfl | rfl
        · exact bad_not rfl
        · refine bad_len (by show 3 ≠ 4; decide) fun e he => ?_
          have he' : e = .int r.b ∨ e = .tuple (r.ks.map PyData.int) ∨ e = .tuple vs := by simpa using he
          rcases he' with rfl | rfl | rfl
          · exact okb
          · exact okk
          · exact okv
        · refine bad_len (by show 5 ≠ 4; decide) fun e he => ?_
          have he' : e = .int r.b ∨ e = .tuple (r.ks.map PyData.int) ∨ e = .tuple vs ∨ e = .tuple us ∨ e = .int 0 := by simpa using he
          rcases he' with rfl | rfl | rfl | rfl | rfl
          · exact okb
          · exact okk
          · exact okv
          · exact oks
          · exact len_flat rfl
        · exact bad_not rfl
        · exact bad_at (.inl rfl) (len_flat rfl) okk okv oks
        · exact bad_at (.inl rfl) (len_flat rfl) okk okv oks
        · exact bad_at (.inl rfl) (len_flat rfl) okk okv oks
  have step : ∀ (n m : Nat) (es : List Bx) (e : Nat) (x y : PyData) (σ' : L2.St) (H' : Hp) (Q' : VK), St n σ' H' → n ≤ 60 → es.length ≤ 20 → Bx.oks (bentE r x y) (hasB e) es → (∀ z7 z8 z9, σ' = [some (.ref d), some (.ref cl), some (.ref t), some x1, some x2, some x3, some x4, z7, z8, z9] → ∃ v, σ'[e]? = some (some v) ∧ Dp K (del H' d) v (bentE r x y e)) →
      (∀ b ∈ Bx.vals (bentE r x y) es, BadR hs.length ((sortA as).map Prod.snd) ss.length b) → (∀ q H2, (∀ z8 z9 z7, σ' = [some (.ref d), some (.ref cl), some (.ref t), some x1, some x2, some x3, some x4, z7, z8, z9] → St (n + es.length) [some (.ref d), some (.ref cl), some (.ref t), some x1, some x2, some x3, some x4, some (.ref q), z8, z9] H2) → Same H' H2 → Q' (.ref q) H2) → tOp rCat (tVar 7) (tLst (tBxs K es)) σ' H' Q' := fun n m es e x y σ' H' Q' st ln le ok he bad kk => by
    obtain ⟨p, ys, ds, z8, z9, rfl, g, np, ep, dd, ld, all_⟩ := st
    refine more_bad (d := d) (env := bentE r x y) (has := hasB e) es ok (by omega) (by omega) rfl ⟨_, g _ _ hod⟩ (slots e x y _ _ _ H' g (he _ _ _ rfl)) ep dd fun q zs H2 g2 nq eq dz => kk q H2 (fun z8' z9' z7' ez => ?_) g2
    cases ez
    refine ⟨q, zs, _, _, _, rfl, g.trans g2, nq, eq, dz, ?_, fun b hb => ?_⟩
    · rw [List.length_append, vals_len]
      omega
    · rcases List.mem_append.mp hb with hb | hb
      · exact all_ b hb
      · exact bad b hb
  refine seq_cut (St 12) (fun σ' H' h => ?_) (fun tail => ?_)
  rotate_left
  · have h0 := h
    obtain ⟨p, ys, ds, z8, z9, rfl, _⟩ := h0
    show tOp rCat (tVar 7) (tLst (tBxs K bent2)) _ _ _
    refine step 10 0 bent2 2 .none .none _ _ _ h (by decide) (by decide) ⟨⟨by decide, hb3, ⟨hb4, tk⟩, hb5, hb6, trivial⟩, ⟨by decide, hb3, ⟨hb4, ⟨by decide, trivial, trivial⟩, tk, one _⟩, hb5, hb6, trivial⟩, trivial⟩ (fun _ _ _ ez => ?_) ?_ fun q H2 st _ => tail _ _ (st _ _ _ rfl)
    · exact ⟨_, rfl, by
        obtain ⟨_, _, _, _, _, ez', g, _⟩ := h
        exact dp_same (off_same g) _ _ d0⟩
    · intro b hb
      have hb' : b = .tuple [.int r.b, .list (r.ks.map PyData.int), r.v, r.s] ∨ b = .tuple [.int r.b, .tuple (r.ks.map PyData.int ++ [.int 0]), r.v, r.s] := by simpa [bent2, Bx.vals, Bx.val, bentE, tupOf] using hb
      rcases hb' with rfl | rfl
      · exact bad_at (.inr (.inl rfl)) okb (len_flat rfl) okv oks
      · exact bad_at (.inr (.inl (nums_len (by rw [List.length_append, List.length_map]; show r.ks.length + 1 ≠ _; omega)))) okb (len_tup (by rw [List.length_append, List.length_map]; show r.ks.length + 1 ≤ 1000; omega)) okv oks
  refine seq_cut (St 14) (fun σ' H' h => ?_) (fun tail => ?_)
  rotate_left
  · have h0 := h
    obtain ⟨p, ys, ds, z8, z9, rfl, _⟩ := h0
    show tOp rCat (tVar 7) (tLst (tBxs K bent3)) _ _ _
    refine step 12 0 bent3 2 .none .none _ _ _ h (by decide) (by decide) ⟨⟨by decide, hb3, hb4, ⟨hb5, ⟨by decide, trivial, trivial⟩, tv, one _⟩, hb6, trivial⟩, ⟨by decide, hb3, hb4, hb5, ⟨hb6, ⟨by decide, trivial, trivial⟩, ts0, one _⟩, trivial⟩, trivial⟩ (fun _ _ _ ez => ?_) ?_ fun q H2 st _ => tail _ _ (st _ _ _ rfl)
    · exact ⟨_, rfl, by
        obtain ⟨_, _, _, _, _, ez', g, _⟩ := h
        exact dp_same (off_same g) _ _ d0⟩
    · intro b hb
      have hb' : b = .tuple [.int r.b, .tuple (r.ks.map PyData.int), .tuple (tupOf r.v ++ [.int 0]), r.s] ∨ b = .tuple [.int r.b, .tuple (r.ks.map PyData.int), r.v, .tuple (tupOf r.s ++ [.int 1])] := by simpa [bent3, Bx.vals, Bx.val, bentE, tupOf] using hb
      rw [ev, eu] at hb'
      rw [ev] at okv
      rw [eu] at oks
      rcases hb' with rfl | rfl
      · exact bad_at (.inr (.inr (.inl (vals_len' (by show (vs ++ [PyData.int 0]).length ≠ _; rw [List.length_append]; show vs.length + 1 ≠ _; omega))))) okb okk (len_tup (by show (vs ++ [PyData.int 0]).length ≤ 1000; rw [List.length_append]; show vs.length + 1 ≤ 1000; omega)) oks
      · exact bad_at (.inr (.inr (.inr (nums_len (by show (us ++ [PyData.int 1]).length ≠ _; rw [List.length_append]; show us.length + 1 ≠ _; omega))))) okb okk okv (len_tup (by show (us ++ [PyData.int 1]).length ≤ 1000; rw [List.length_append]; show us.length + 1 ≤ 1000; omega))
  refine seq_cut (St 17) (fun σ' H' h => ?_) (fun tail => ?_)
  rotate_left
  · obtain ⟨p, ys, ds, z8, z9, rfl, g, np, ep, dd, ld, all_⟩ := h
    refine ⟨_, rfl, (by show 0 ≤ sizeLine; decide), fun q hq => ⟨.tuple (r.ks.map PyData.int), .tuple [], dp_same ((off_in).trans ((g.trans (same_new hq _)))) _ _ p2, .tup (SqT.of upd_same) .nil, shaped_ints r.ks, (by decide +kernel), _, rfl, ?_⟩⟩
    have gq := same_new hq (.tup [])
    have st : St 14 [some (.ref d), some (.ref cl), some (.ref t), some x1, some x2, some x3, some x4, some (.ref p), z8, z9] (upd H' q (.tup [])) := ⟨p, ys, ds, z8, z9, rfl, g.trans gq, np, gq _ _ ep, dps_same (off_same gq) _ _ dd, ld, all_⟩
    rw [eqv_none]
    by_cases c : r.ks = []
    · rw [decide_eq_true c]
      refine iteF (next_of ?_)
      obtain ⟨p', ys', ds', z8', z9', e', r1, r2, r3, r4, r5, r6⟩ := st
      exact tail _ _ ⟨p', ys', ds', z8', z9', e', r1, r2, r3, r4, by omega, r6⟩
    · rw [decide_eq_false c]
      have k1 : 1 ≤ r.ks.length := by
        cases e : r.ks with
        | nil => exact absurd e c
        | cons x y => simp
      refine iteT ⟨(by show 3 ≤ sizeLine; decide), fun q2 hq2 => ⟨q2, rfl, ⟨_, SqT.of upd_same⟩, ?_⟩⟩
      have gq2 := same_new hq2 (.tup [.non, .int 1000001, .bl true])
      refine for_it (walk_tup (K := K) (a := q2) (xs := [.non, .int 1000001, .bl true])) (fun j σ' H'' => St (14 + j) σ' H'' ∧ SqT K H'' q2 [.non, .int 1000001, .bl true]) ⟨?_, SqT.of upd_same⟩ (fun j σ' H'' _ z => z.2) ?_ (fun σ' H'' z => tail _ _ z.1)
      · obtain ⟨p', ys', ds', z8', z9', e', r1, r2, r3, r4, r5, r6⟩ := st
        exact ⟨p', ys', ds', z8', z9', e', r1.trans gq2, r2, gq2 _ _ r3, dps_same (off_same gq2) _ _ r4, r5, r6⟩
      · rintro j v σ' H1 H2 hj ⟨st1, sq⟩ ⟨e1, hv⟩
        subst e1
        obtain ⟨p', ys', ds', z8', z9', rfl, r1, r2, r3, r4, r5, r6⟩ := st1
        obtain ⟨x, dx', bx, tx⟩ : ∃ x : PyData, Dp K (del H2 d) v x ∧ nearD x = false ∧ isTupD x = false := by
          match j, hv with
          | 0, hv =>
            obtain rfl := Option.some.inj hv
            exact ⟨.none, .non, rfl, rfl⟩
          | 1, hv =>
            obtain rfl := Option.some.inj hv
            exact ⟨.int 1000001, .int _, by decide +kernel, rfl⟩
          | 2, hv =>
            obtain rfl := Option.some.inj hv
            exact ⟨.bool true, .bl _, rfl, rfl⟩
          | j + 3, hv => simp at hv
        show tOp rCat (tVar 7) (tLst (tBxs K bent4)) _ _ _
        have tk1 : isT (.tuple (r.ks.map PyData.int)) 1 100 := ⟨_, rfl, by rw [List.length_map]; exact k1, by rw [List.length_map]; omega⟩
        have tk2 : isT (.tuple ((r.ks.map PyData.int).drop 1)) 0 100 := ⟨_, rfl, Nat.zero_le _, by rw [List.length_drop, List.length_map]; omega⟩
        have hj3 : j < 3 := hj
        refine step (14 + j) 0 bent4 8 x .none _ _ _ ⟨p', ys', ds', some v, z9', rfl, r1, r2, r3, r4, r5, r6⟩ (by omega) (by decide) ⟨⟨by decide, hb3, ⟨⟨by decide, hbe, trivial⟩, ⟨hb4, tk1⟩, one _, tk2⟩, hb5, hb6, trivial⟩, trivial⟩ (fun _ _ _ ez => ⟨v, rfl, dx'⟩) ?_ fun q3 H3 st3 g3 => ⟨st3 _ _ _ rfl, Same.tup g3 sq⟩
        intro b hb
        have hb' : b = .tuple [.int r.b, .tuple (x :: (r.ks.map PyData.int).drop 1), r.v, r.s] := by simpa [bent4, Bx.vals, Bx.val, bentE, tupOf] using hb
        subst hb'
        exact bad_at (.inr (.inl (nums_head bx))) okb (len_tup (by rw [List.length_cons, List.length_drop, List.length_map]; omega)) okv oks
  have shv : SeqAt.shaped (.tuple vs) = true := by
    have h1 := g4.lay
    have h2 := g4.dep
    rw [e2, PyData.canLay0, PyData.canLayAll0, PyData.canLayAll0, PyData.canLayAll0, Bool.and_eq_true, Bool.and_eq_true, Bool.and_eq_true] at h1
    rw [e2, PyData.depth, PyData.depthAll, PyData.depthAll, PyData.depthAll] at h2
    have e : SeqAt.shaped (.tuple vs) = (PyData.canLay0 (.tuple vs) && decide ((PyData.tuple vs).depth ≤ 64)) := rfl
    rw [e, h1.2.2.1, decide_eq_true (by omega)]
    rfl
  refine seq_cut (St 19) (fun σ' H' h => ?_) (fun tail => ?_)
  rotate_left
  · obtain ⟨p, ys, ds, z8, z9, rfl, g, np, ep, dd, ld, all_⟩ := h
    have dv3 := dp_same ((off_in).trans g) _ _ p3
    rw [ev] at dv3
    refine ⟨_, rfl, (by show 0 ≤ sizeLine; decide), fun q hq => ⟨.tuple vs, .tuple [], dp_same (same_new hq _) _ _ dv3, .tup (SqT.of upd_same) .nil, shv, (by decide +kernel), _, rfl, ?_⟩⟩
    have gq := same_new hq (.tup [])
    have gg := g.trans gq
    have st : St 17 [some (.ref d), some (.ref cl), some (.ref t), some x1, some x2, some x3, some x4, some (.ref p), z8, z9] (upd H' q (.tup [])) := ⟨p, ys, ds, z8, z9, rfl, gg, np, gq _ _ ep, dps_same (off_same gq) _ _ dd, ld, all_⟩
    cases vs with
    | nil =>
      refine iteF (next_of ?_)
      obtain ⟨p', ys', ds', z8', z9', e', r1, r2, r3, r4, r5, r6⟩ := st
      exact tail _ _ ⟨p', ys', ds', z8', z9', e', r1, r2, r3, r4, by omega, r6⟩
    | cons v0 vs =>
      refine iteT ?_
      obtain ⟨⟨n0, b0⟩, rest, hA⟩ : ∃ (x : Str × Bool) (rest : List (Str × Bool)), sortA as = x :: rest := by
        cases e : sortA as with
        | nil =>
          rw [e] at lv
          simp at lv
        | cons x rest => exact ⟨x, rest, rfl⟩
      have hbs : (sortA as).map Prod.snd = b0 :: rest.map Prod.snd := by rw [hA]; rfl
      have hs0 : (sortS (as.map Prod.fst))[0]? = some n0 := by
        rw [← sorted_fst, hA]
        rfl
      have hv : valV (kvsOf as) (Sum.inr n0) = some (kindV b0) := by
        rw [askOf_val]
        have mem : n0 ∈ as.map Prod.fst := (sortS_perm _).mem_iff.mp (List.mem_of_getElem? hs0)
        obtain ⟨b', hb'⟩ := askOf_mem mem
        have h0 : (sortA as)[0]? = some (n0, b0) := by rw [hA]; rfl
        unfold sortA at h0
        rw [List.getElem?_map, hs0] at h0
        have e : (n0, (askOf as n0).getD false) = (n0, b0) := Option.some.inj h0
        have e2 : (askOf as n0).getD false = b0 := congrArg Prod.snd e
        rw [hb'] at e2 ⊢
        have e3 : b' = b0 := e2
        rw [e3]
        rfl
      generalize upd H' q (.tup []) = H2 at *
      refine ⟨_, rfl, cl, _, _, _, rfl, rfl, SqT.of (gg _ _ c1), atI_nat (j := 1) rfl, ?_⟩
      refine ⟨_, rfl, cl, _, _, _, rfl, rfl, SqT.of (gg _ _ c1), atI_nat (j := 1) rfl, a, kvsOf as, as.map Prod.fst, rfl, Rd.of (gg _ _ c3), keys_kvs as, (by rw [List.length_map]; omega), fun ys' l' pe so hl => ?_⟩
      obtain rfl := sort_eq pe so
      have gl := same_new hl (.lst ((sortS (as.map Prod.fst)).map V.str))
      refine ⟨l', _, _, _, rfl, rfl, SqL.of upd_same, atI_nat (j := 0) (by rw [List.getElem?_map, hs0]; rfl), ?_⟩
      refine ⟨a, kindV b0, rfl, .inl ⟨kvsOf as, Sum.inr n0, Rd.of (gl _ _ (gg _ _ c3)), rfl, hv.symm⟩, ?_⟩
      obtain ⟨p', ys'', ds', z8', z9', e', r1, r2, r3, r4, r5, r6⟩ := st
      have st2 : St 17 [some (.ref d), some (.ref cl), some (.ref t), some x1, some x2, some x3, some x4, some (.ref p'), z8', some (kindV b0)] (upd H2 l' (.lst ((sortS (as.map Prod.fst)).map V.str))) := ⟨p', ys'', ds', z8', _, rfl, r1.trans gl, r2, gl _ _ r3, dps_same (off_same gl) _ _ r4, r5, r6⟩
      cases e'
      show tOp rCat (tVar 7) (tLst (tBxs K bent5)) _ _ _
      have tv1 : isT r.v 1 100 := ⟨_, ev, by simp, by rw [List.length_cons] at lv ⊢; omega⟩
      have tv2 : isT (.tuple ((tupOf r.v).drop 1)) 0 100 := ⟨_, rfl, Nat.zero_le _, by rw [ev, List.length_drop]; show (v0 :: vs).length - 1 ≤ 100; rw [List.length_cons] at lv ⊢; omega⟩
      refine step 17 0 bent5 9 .none (.str (if b0 = true then "number" else "text")) _ _ _ st2 (by decide) (by decide) ⟨⟨by decide, hb3, hb4, ⟨⟨by decide, trivial, trivial⟩, ⟨hb5, tv1⟩, one _, tv2⟩, hb6, trivial⟩, ⟨by decide, hb3, hb4, ⟨⟨by decide, ⟨hbe, _, rfl⟩, trivial⟩, ⟨hb5, tv1⟩, one _, tv2⟩, hb6, trivial⟩, trivial⟩ (fun _ _ _ ez => ⟨_, rfl, .str _⟩) ?_ fun q3 H3 st3 g3 => tail _ _ (st3 _ _ _ rfl)
      intro b hb
      have hb' : b = .tuple [.int r.b, .tuple (r.ks.map PyData.int), .tuple (.none :: vs), r.s] ∨ b = .tuple [.int r.b, .tuple (r.ks.map PyData.int), .tuple ((if isText (.str (if b0 = true then "number" else "text")) = true then PyData.int 0 else .str "0") :: vs), r.s] := by
        have e : Bx.vals (bentE r .none (.str (if b0 = true then "number" else "text"))) bent5 = [.tuple [.int r.b, .tuple (r.ks.map PyData.int), .tuple ([.none] ++ (tupOf r.v).drop 1), r.s], .tuple [.int r.b, .tuple (r.ks.map PyData.int), .tuple ([if isText (.str (if b0 = true then "number" else "text")) = true then PyData.int 0 else .str "0"] ++ (tupOf r.v).drop 1), r.s]] := rfl
        rw [e, ev] at hb
        simpa [tupOf] using hb
      have okv' : ∀ x : PyData, LenOk (.tuple (x :: vs)) := fun x => len_tup (by rw [List.length_cons] at lv ⊢; omega)
      rw [hbs]
      rcases hb' with rfl | rfl
      · exact bad_at (.inr (.inr (.inl (vals_head (by cases b0 <;> rfl))))) okb okk (okv' _) oks
      · exact bad_at (.inr (.inr (.inl (vals_head (by cases b0 <;> decide +kernel))))) okb okk (okv' _) oks
  obtain ⟨p, ys, ds, z8, z9, e', g, np, ep, dd, ld, all_⟩ := h
  have h : St 19 σ' H' := ⟨p, ys, ds, z8, z9, e', g, np, ep, dd, ld, all_⟩
  cases e'
  refine ⟨_, rfl, cons_of ?_⟩
  show tOp rCat (tVar 7) (tLst (tBxs K bent6)) _ _ _
  have ts2 : isT (.tuple ((tupOf r.s).drop 1)) 0 100 := ⟨_, rfl, Nat.zero_le _, by rw [eu, List.length_drop]; show us.length - 1 ≤ 100; omega⟩
  refine step 19 0 bent6 2 .none .none _ _ _ h (by decide) (by decide) ⟨⟨by decide, hb3, hb4, hb5, ⟨⟨by decide, trivial, trivial⟩, ⟨hb6, ts⟩, one _, ts2⟩, trivial⟩, ⟨by decide, hb3, hb4, hb5, ⟨⟨by decide, trivial, trivial⟩, ⟨hb6, ts⟩, one _, ts2⟩, trivial⟩, trivial⟩ (fun _ _ _ ez => ⟨_, rfl, dp_same (off_same g) _ _ d0⟩) ?_ fun q H2 st g2 => ?_
  · intro b hb
    have hb' : b = .tuple [.int r.b, .tuple (r.ks.map PyData.int), r.v, .tuple (.int (-1000001) :: (tupOf r.s).drop 1)] ∨ b = .tuple [.int r.b, .tuple (r.ks.map PyData.int), r.v, .tuple (.str "1" :: (tupOf r.s).drop 1)] := by simpa [bent6, Bx.vals, Bx.val, bentE, tupOf] using hb
    have okz : ∀ x : PyData, LenOk (.tuple (x :: (tupOf r.s).drop 1)) := fun x => len_tup (by rw [eu, List.length_cons, List.length_drop]; show us.length - 1 + 1 ≤ 1000; omega)
    rcases hb' with rfl | rfl
    · exact bad_at (.inr (.inr (.inr (nums_head (by decide +kernel))))) okb okk okv (okz _)
    · exact bad_at (.inr (.inr (.inr (nums_head rfl)))) okb okk okv (okz _)
  · obtain ⟨p', ys', ds', _, _, ez, r1, r2, r3, r4, r5, r6⟩ := st _ _ _ rfl
    cases ez
    have hD2 : Drw K H2 d := hD.same r1
    have len : 0 < ys'.length := by
      rw [dps_len r4]
      exact r5.2
    refine ⟨d, q, ys', rfl, hD2, .inl ⟨SqL.of r3, r2⟩, len, fun j v H3 hv hD3 b3 => ?_⟩
    obtain ⟨x, hx, dx⟩ : ∃ x, x ∈ ds' ∧ Dp K (del H2 d) v x := by
      have hj := (List.getElem?_eq_some_iff.mp hv).1
      obtain ⟨u, hu, du⟩ := dps_get r4 (List.getElem?_eq_getElem (show j < ds'.length by have := dps_len r4; omega))
      rw [hv] at hu
      cases hu
      exact ⟨_, List.getElem_mem _, du⟩
    obtain ⟨bad1, bad2⟩ := r6 x hx
    exact k v x H3 hD3 ((Same.but r1).trans b3) (dp_same (off_but b3) _ _ dx) bad1 bad2

end
end My
set_option Elab.async false
set_option linter.all false
set_option maxRecDepth 100000
set_option maxHeartbeats 400000
namespace My
open PySem L2 PySem.Spec PyProof.Rows
section
variable {P : Program} {w : World} {K : PySem.W.Frag} {mg : Str → Option Value} {base : Heap}
/-! ### displays of data -/
mutual
def tDat : PyData → TE
  | .none => tC .non
  | .bool b => tC (.bl b)
  | .int i => tC (.int i)
  | .str s => tC (.str s)
  | .tuple ds => tTup (tDats ds)
  | .list ds => tLst (tDats ds)
  | .dict _ => fun _ _ _ => False
def tDats : List PyData → TA
  | [] => tNil
  | d :: ds => tCons (tDat d) (tDats ds)
end
mutual
def smD : PyData → Bool
  | .tuple ds => decide (ds.length ≤ 1000) && smDs ds
  | .list ds => decide (ds.length ≤ 1000) && smDs ds
  | .dict _ => false
  | .none => true
  | .bool _ => true
  | .int _ => true
  | .str _ => true
def smDs : List PyData → Bool
  | [] => true
  | d :: ds => smD d && smDs ds
end
mutual
theorem lay_dat {K : PySem.W.Frag} {dd : Addr} : ∀ (d : PyData) (_ : smD d = true) {σ : L2.St} {H : Hp} {Q : VK}, (∃ o, H dd = some o) → (∀ v H', Same H H' → Dp K (del H' dd) v d → Q v H') → tDat d σ H Q
  | .none, _, _, H, _, _, k => k _ H (Same.refl H) .non
  | .bool b, _, _, H, _, _, k => k _ H (Same.refl H) (.bl b)
  | .int i, _, _, H, _, _, k => k _ H (Same.refl H) (.int i)
  | .str s, _, _, H, _, _, k => k _ H (Same.refl H) (.str s)
  | .dict _, h, _, _, _, _, _ => by cases h
  | .tuple ds, h, σ, H, Q, ht, k => by
    have h' : (decide (ds.length ≤ 1000) && smDs ds) = true := h
    rw [Bool.and_eq_true] at h'
    show tTup (tDats ds) σ H Q
    refine lay_dats (K := K) ds h'.2 ht fun vs H1 g dv => ⟨le_line (by rw [dps_len dv]; exact of_decide_eq_true h'.1), fun p hp => k _ _ (g.trans (same_new hp _)) ?_⟩
    obtain ⟨o, ho⟩ := ht
    have np : p ≠ dd := fun z => by
      rw [z, g _ _ ho] at hp
      cases hp
    exact .tup (SqT.of (off_at upd_same np)) (dps_same (off_new hp) _ _ dv)
  | .list ds, h, σ, H, Q, ht, k => by
    have h' : (decide (ds.length ≤ 1000) && smDs ds) = true := h
    rw [Bool.and_eq_true] at h'
    show tLst (tDats ds) σ H Q
    refine lay_dats (K := K) ds h'.2 ht fun vs H1 g dv => ⟨le_line (by rw [dps_len dv]; exact of_decide_eq_true h'.1), fun p hp => k _ _ (g.trans (same_new hp _)) ?_⟩
    obtain ⟨o, ho⟩ := ht
    have np : p ≠ dd := fun z => by
      rw [z, g _ _ ho] at hp
      cases hp
    exact .lst (SqL.of (off_at upd_same np)) (dps_same (off_new hp) _ _ dv)
theorem lay_dats {K : PySem.W.Frag} {dd : Addr} : ∀ (ds : List PyData) (_ : smDs ds = true) {σ : L2.St} {H : Hp} {Q : List V → Hp → Prop}, (∃ o, H dd = some o) → (∀ vs H', Same H H' → DpAll K (del H' dd) vs ds → Q vs H') → tDats ds σ H Q
  | [], _, _, H, _, _, k => k _ H (Same.refl H) .nil
  | d :: ds, h, σ, H, Q, ht, k => by
    have h' : (smD d && smDs ds) = true := h
    rw [Bool.and_eq_true] at h'
    show tCons (tDat d) (tDats ds) σ H Q
    refine lay_dat (K := K) d h'.1 ht fun v H1 g dv => lay_dats (K := K) ds h'.2 ?_ fun vs H2 g2 dvs => k _ _ (g.trans g2) (.cons (dp_same (off_same g2) _ _ dv) dvs)
    obtain ⟨o, ho⟩ := ht
    exact ⟨o, g _ _ ho⟩
end
theorem dps_mem {K : PySem.W.Frag} {H : Hp} {vs : List V} {ds : List PyData} (h : DpAll K H vs ds) {i : Nat} {v : V} (hv : vs[i]? = some v) : ∃ x, x ∈ ds ∧ Dp K H v x := by
  have el := dps_len h
  have hi := (List.getElem?_eq_some_iff.mp hv).1
  obtain ⟨u, hu, du⟩ := dps_get h (List.getElem?_eq_getElem (show i < ds.length by omega))
  rw [hv] at hu
  cases hu
  exact ⟨_, List.getElem_mem _, du⟩
/-! ### arguments: what stands while draws, lambdas and the dict that is told go on -/
/-- H without the addresses of D -/
def dels (D : List Addr) (H : Hp) : Hp := fun b => if b ∈ D then none else H b
theorem dels_in {D : List Addr} {H : Hp} {a : Addr} {o : HO} (h : dels D H a = some o) : a ∉ D ∧ H a = some o := by
  unfold dels at h
  by_cases c : a ∈ D
  · rw [if_pos c] at h
    cases h
  · rw [if_neg c] at h
    exact ⟨c, h⟩
theorem dels_at {D : List Addr} {H : Hp} {a : Addr} {o : HO} (n : a ∉ D) (h : H a = some o) : dels D H a = some o := by
  unfold dels
  rw [if_neg n]
  exact h
/-- all that stands elsewhere than in D, and is no table, stays -/
def Off (D : List Addr) (H H' : Hp) : Prop := ∀ b o, b ∉ D → H b = some o → (∀ ps, o ≠ .tbl ps) → H' b = some o
theorem Off.refl (D : List Addr) (H : Hp) : Off D H H := fun _ _ _ h _ => h
theorem Off.trans {D : List Addr} {H H1 H2 : Hp} (a : Off D H H1) (b : Off D H1 H2) : Off D H H2 := fun c o n h t => b c o n (a c o n h t) t
theorem Off.but {D : List Addr} {d : Addr} {H H' : Hp} (m : d ∈ D) (b : But d H H') : Off D H H' := fun c o n h _ => b c o (fun z => n (by rw [z]; exact m)) h
theorem Off.same {D : List Addr} {H H' : Hp} (b : Same H H') : Off D H H' := fun c o _ h _ => b c o h
theorem Off.put {D : List Addr} {t : Addr} {H : Hp} {o : HO} (m : t ∈ D) : Off D H (upd H t o) := fun c u n h _ => by
  rw [upd_ne (fun z => n (by rw [z]; exact m))]
  exact h
theorem Off.ext {D : List Addr} {H H' : Hp} (b : LamX.ExtN H H') : Off D H H' := fun c o _ h t => b c o h t
theorem Off.seq {K : PySem.W.Frag} {D : List Addr} {H H' : Hp} {a : Addr} {xs : List V} (g : Off D H H') (h : SqL K (dels D H) a xs) : SqL K H' a xs := by
  have st : ∀ o : HO, (∀ ps, o ≠ .tbl ps) → dels D H a = some o → H' a = some o := fun o t e => g a o (dels_in e).1 (dels_in e).2 t
  rcases h with (h | ⟨o, h⟩) | h
  · exact .inl (.inl (st _ (fun ps z => by cases z) h))
  · exact .inl (.inr ⟨o, st _ (fun ps z => by cases z) h⟩)
  · exact .inr h
mutual
/-- data hang on lists and tuples alone -/
theorem dp_keep {K : PySem.W.Frag} {H H' : Hp} (l : ∀ a xs, SqL K H a xs → SqL K H' a xs) (t : ∀ a xs, SqT K H a xs → SqT K H' a xs) : ∀ (d : PyData) (v : V), Dp K H v d → Dp K H' v d
  | .none, _, h => by cases h; exact .non
  | .bool b, _, h => by cases h; exact .bl b
  | .int i, _, h => by cases h; exact .int i
  | .str s, _, h => by cases h; exact .str s
  | .dict _, _, h => by cases h
  | .list ds, _, h => by
    cases h with
    | lst hs ha => exact .lst (l _ _ hs) (dps_keep l t ds _ ha)
  | .tuple ds, _, h => by
    cases h with
    | tup hs ha => exact .tup (t _ _ hs) (dps_keep l t ds _ ha)
theorem dps_keep {K : PySem.W.Frag} {H H' : Hp} (l : ∀ a xs, SqL K H a xs → SqL K H' a xs) (t : ∀ a xs, SqT K H a xs → SqT K H' a xs) : ∀ (ds : List PyData) (vs : List V), DpAll K H vs ds → DpAll K H' vs ds
  | [], _, h => by cases h; exact .nil
  | d :: ds, _, h => by
    cases h with
    | cons a b => exact .cons (dp_keep l t d _ a) (dps_keep l t ds _ b)
end
/-- .. so a change of a dict leaves them -/
theorem dps_dict {K : PySem.W.Frag} {H : Hp} {d p : Addr} {kvs : List (Key × V)} {o : HO} (e : H p = some (.dK kvs)) {vs : List V} {ds : List PyData} (h : DpAll K (del H d) vs ds) : DpAll K (del (upd H p o) d) vs ds := by
  have st : ∀ {a : Addr} {u : HO}, (∀ ks, u ≠ .dK ks) → del H d a = some u → del (upd H p o) d a = some u := fun {a u} n z => by
    have na : a ≠ d := fun q => by
      rw [q, del_same] at z
      cases z
    rw [del_ne na] at z ⊢
    rw [upd_ne (fun q => by rw [q, e] at z; exact n _ (Option.some.inj z).symm)]
    exact z
  refine dps_keep (fun a xs h => ?_) (fun a xs h => ?_) ds vs h
  · rcases h with (h | ⟨q, h⟩) | h
    · exact .inl (.inl (st (fun ks z => by cases z) h))
    · exact .inl (.inr ⟨q, st (fun ks z => by cases z) h⟩)
    · exact .inr h
  · rcases h with (h | ⟨q, h⟩) | h
    · exact .inl (.inl (st (fun ks z => by cases z) h))
    · exact .inl (.inr ⟨q, st (fun ks z => by cases z) h⟩)
    · exact .inr h
/-- .. and so a new thing at t, or a dict, may be kept off -/
theorem dps_off {K : PySem.W.Frag} {H : Hp} {d t : Addr} (e : H t = none ∨ ∃ kvs, H t = some (.dK kvs)) {vs : List V} {ds : List PyData} (h : DpAll K (del H d) vs ds) : DpAll K (dels [d, t] H) vs ds := by
  have st : ∀ {a : Addr} {u : HO}, (∀ ks, u ≠ .dK ks) → del H d a = some u → dels [d, t] H a = some u := fun {a u} n z => by
    have na : a ≠ d := fun q => by
      rw [q, del_same] at z
      cases z
    rw [del_ne na] at z
    refine dels_at (fun m => ?_) z
    rcases List.mem_cons.mp m with m | m
    · exact na m
    · obtain rfl := List.mem_singleton.mp m
      rcases e with e | ⟨ks, e⟩
      · rw [e] at z
        cases z
      · rw [e] at z
        exact n _ (Option.some.inj z).symm
  refine dps_keep (fun a xs h => ?_) (fun a xs h => ?_) ds vs h
  · rcases h with (h | ⟨q, h⟩) | h
    · exact .inl (.inl (st (fun ks z => by cases z) h))
    · exact .inl (.inr ⟨q, st (fun ks z => by cases z) h⟩)
    · exact .inr h
  · rcases h with (h | ⟨q, h⟩) | h
    · exact .inl (.inl (st (fun ks z => by cases z) h))
    · exact .inl (.inr ⟨q, st (fun ks z => by cases z) h⟩)
    · exact .inr h
/-- an argument for hashed or summed -/
def ArgR (K : PySem.W.Frag) (D : List Addr) (H : Hp) (v : V) (r : RowA) : Prop := StrsOk r ∧ ∀ H', Off D H H' → RowAt K H' v r ∧ ∀ ds, r = .seq ds → ∃ a xs, v = .ref a ∧ (SqL K H' a xs ∨ TupN H' a xs) ∧ DpAll K H' xs ds
theorem ArgR.off {K : PySem.W.Frag} {D : List Addr} {H H1 : Hp} {v : V} {r : RowA} (h : ArgR K D H v r) (g : Off D H H1) : ArgR K D H1 v r := ⟨h.1, fun H' g' => h.2 H' (g.trans g')⟩
/-- an argument for asked -/
def ArgD (K : PySem.W.Frag) (D : List Addr) (H : Hp) (v : V) (r : DicA) : Prop := ∀ H', Off D H H' → DicAt K H' v r
theorem ArgD.off {K : PySem.W.Frag} {D : List Addr} {H H1 : Hp} {v : V} {r : DicA} (h : ArgD K D H v r) (g : Off D H H1) : ArgD K D H1 v r := fun H' g' => h H' (g.trans g')
theorem argR_oth {K : PySem.W.Frag} {D : List Addr} {H : Hp} {v : V} {t : String} (m : t ∈ tys) (n : rowT t = false) (ty : ∀ H', Off D H H' → TyX K H' v (.type t)) : ArgR K D H v (.oth t) := ⟨trivial, fun H' g => ⟨⟨m, n, fun H2 g2 => ty H2 (g.trans (.same g2))⟩, fun ds e => by cases e⟩⟩
theorem argR_seq {K : PySem.W.Frag} {D : List Addr} {H : Hp} {a : Addr} {xs : List V} {ds : List PyData} (h : SqL K (dels D H) a xs) (dp : ∀ H', DpAll K H' xs ds) (len : ds.length ≤ 1000) (ok : ∀ x ∈ ds, StrOk x) : ArgR K D H (.ref a) (.seq ds) :=
  ⟨ok, fun H' g => ⟨⟨a, xs, rfl, .inl (g.seq h), dp H', len⟩, fun es e => by
    cases e
    exact ⟨a, xs, rfl, .inl (g.seq h), dp H'⟩⟩⟩
/-- a row, by data: a list of flat ones, or something else -/
def rowOf : PyData → RowA
  | .list ds => .seq ds
  | .none => .oth "NoneType"
  | .str _ => .oth "str"
  | _ => .oth "dict"
theorem fl_back {K : PySem.W.Frag} {H : Hp} : ∀ {xs : List V} {ds : List PyData}, DpAll K H xs ds → (ds.all flD) = true → xs = ds.map flV
  | _, _, .nil, _ => rfl
  | _, _, .cons (d := d) h r, e => by
    rw [List.all_cons, Bool.and_eq_true] at e
    rw [List.map_cons, fl_back r e.2]
    cases d with
    | int i => rw [dp_int h]; rfl
    | str s => rw [dp_str h]; rfl
    | _ => cases e.1
def plainR : PyData → Bool
  | .list ds => ds.all flD && decide (ds.length ≤ 1000) && ds.all fun d => match d with | .str s => decide (s.length ≤ 1000) | _ => true
  | .none => true
  | .str _ => true
  | _ => false
theorem argR_dat {K : PySem.W.Frag} {D : List Addr} {H : Hp} {v : V} {x : PyData} (h : Dp K (dels D H) v x) (p : plainR x = true) : ArgR K D H v (rowOf x) := by
  cases x with
  | none =>
    obtain rfl := dp_non h
    exact argR_oth (by decide +kernel) (by decide +kernel) fun H' _ => .base .non
  | str s =>
    obtain rfl := dp_str h
    exact argR_oth (by decide +kernel) (by decide +kernel) fun H' _ => .base (.str s)
  | list ds =>
    have p' : (ds.all flD && decide (ds.length ≤ 1000) && ds.all fun d => match d with | .str s => decide (s.length ≤ 1000) | _ => true) = true := p
    rw [Bool.and_eq_true, Bool.and_eq_true] at p'
    cases h with
    | lst hs da =>
      obtain rfl := fl_back da p'.1.1
      refine argR_seq hs (fun H' => fl_dp p'.1.1) (of_decide_eq_true p'.1.2) fun y hy s e => ?_
      have := List.all_eq_true.mp p'.2 y hy
      rw [e] at this
      exact of_decide_eq_true this
  | _ => cases p
theorem argD_oth {K : PySem.W.Frag} {D : List Addr} {H : Hp} {v : V} {t : String} (m : t ∈ tys) (n : t ≠ "dict") (ty : ∀ H', Off D H H' → TyX K H' v (.type t)) : ArgD K D H v (.oth t) := fun H' g => ⟨m, n, fun H2 g2 => ty H2 (g.trans (.same g2))⟩
theorem argD_dic {K : PySem.W.Frag} {D : List Addr} {H : Hp} {p : Addr} {kvs : List (Key × V)} (n : p ∉ D) (e : H p = some (.dK kvs)) (ok : KvsOk kvs) : ArgD K D H (.ref p) (.dic kvs) := fun H' g => ⟨p, rfl, g p _ n e (fun ps z => (by cases z)), ok⟩
/-- tables and code objects stand off the draw -/
theorem tabs_but {K : PySem.W.Frag} {T : List (Addr × Str)} {d : Addr} {H H' : Hp} (t : LamX.Tabs T H) (hD : Drw K H d) (g : But d H H') : LamX.Tabs T H' := fun p hp => by
  obtain ⟨ps, h1, h2, h3⟩ := t p hp
  obtain ⟨ys, hy⟩ := hD.at
  refine ⟨ps, g _ _ (ne_of h1 hy (by intro z; cases z)) h1, h2, fun pos cv hc => ?_⟩
  obtain ⟨c, e1, e2⟩ := h3 pos cv hc
  exact ⟨c, e1, g _ _ (ne_of e2 hy (by intro z; cases z)) e2⟩
theorem drw_ext {K : PySem.W.Frag} {d : Addr} {H H' : Hp} (hD : Drw K H d) (g : LamX.ExtN H H') : Drw K H' d := by
  obtain ⟨a, ns, i, h1, h2, h3⟩ := hD
  refine ⟨a, ns, i, g _ _ h1 (fun ps z => by cases z), ?_, h3⟩
  rcases h2 with ⟨o, h2⟩ | h2
  · exact .inl ⟨o, g _ _ h2 (fun ps z => by cases z)⟩
  · exact .inr h2

end
end My
set_option Elab.async false
set_option linter.all false
set_option maxRecDepth 100000
set_option maxHeartbeats 400000
namespace My
open PySem L2 PySem.Spec PyProof.Rows
section
variable {P : Program} {w : World} {K : PySem.W.Frag} {mg : Str → Option Value} {base : Heap}
/-! ### columns that are refused -/
def kvsB (kvs : List (Key × V)) : Bool := decide ((kvs.map Prod.fst).Nodup) && kvs.all (fun p => (match p.1 with | .inr s => decide (s.length ≤ 1000) | .inl _ => true) && flatA p.2) && decide (kvs.length ≤ 20)
theorem kvsB_ok {kvs : List (Key × V)} (h : kvsB kvs = true) : KvsOk kvs := by
  unfold kvsB at h
  rw [Bool.and_eq_true, Bool.and_eq_true] at h
  have all_ := List.all_eq_true.mp h.1.2
  refine ⟨of_decide_eq_true h.1.1, fun p hp => ?_, fun p hp => ?_, of_decide_eq_true h.2⟩
  · have := all_ p hp
    rw [Bool.and_eq_true] at this
    intro s e
    obtain ⟨k, v⟩ := p
    cases k with
    | inl i => cases e
    | inr z =>
      cases e
      exact of_decide_eq_true this.1
  · have := all_ p hp
    rw [Bool.and_eq_true] at this
    exact this.2
def hbL : List PyData := [.none, .str "k", .list [.str "k", .str "k"], .list [.str "K"], .list [.str "kK"], .list [.str "k1"], .list [.str "and"], .list [.str "a", .str "b", .str "c"], .list [.int 3], .list [.str "abcdefghi"]]
theorem hb_bad : ∀ x ∈ hbL, plainR x = true ∧ namesR 2 (rowOf x) = false := by decide +kernel
def sbL : List PyData := [.list [.str "x", .str "x"], .list [.str "hash"], .list [.str ""], .list [.str "x", .str "y", .str "z"]]
theorem sb_bad : ∀ x ∈ sbL, plainR x = true ∧ namesR 2 (rowOf x) = false := by decide +kernel
def abL : List (List (Key × V)) := [[(.inr "v", .str "texts")], [(.inr "V", .str "text")], [(.inl 3, .str "text")], [(.inr "row", .str "text")], [(.inr "v", .non)], [(.inr "a", .str "text"), (.inr "b", .str "text"), (.inr "c", .str "text"), (.inr "d", .str "text"), (.inr "e", .str "text")]]
theorem ab_bad : ∀ x ∈ abL, kvsB x = true ∧ askedR (.dic x) = false := by decide +kernel
def kvs5 : List (Key × V) := [(.inr "a", .str "text"), (.inr "b", .str "text"), (.inr "c", .str "text"), (.inr "d", .str "text"), (.inr "e", .str "text")]
theorem sign5 {i c : Nat} (h : ("abcde" : Str).cps[i]? = some c) : kvs5[i]? = some (Sum.inr ⟨#[c]⟩, V.str "text") := by
  have e5 : ("abcde" : Str).cps = #[97, 98, 99, 100, 101] := by decide +kernel
  rw [e5] at h
  match i, h with
  | 0, h => obtain rfl : 97 = c := by simpa using h
            decide +kernel
  | 1, h => obtain rfl : 98 = c := by simpa using h
            decide +kernel
  | 2, h => obtain rfl : 99 = c := by simpa using h
            decide +kernel
  | 3, h => obtain rfl : 100 = c := by simpa using h
            decide +kernel
  | 4, h => obtain rfl : 101 = c := by simpa using h
            decide +kernel
  | i + 5, h => simp at h
theorem paired_snoc {α β : Type} {F : α → β → Prop} : ∀ {l : List α} {m : List β} {a : α} {b : β}, Paired F l m → F a b → Paired F (l ++ [a]) (m ++ [b])
  | _, _, _, _, .nil, h => .cons h .nil
  | _, _, _, _, .cons r t, h => .cons r (paired_snoc t h)
theorem put_ask (x y : V) : putK [((.inr "hashed" : Key), x)] (.inr "asked") y = [(.inr "hashed", x), (.inr "asked", y)] := putK_new _ _ _ (by
  intro z
  exact absurd (Sum.inr.inj (List.mem_singleton.mp z)) (by decide +kernel))
theorem put_sum (x y z : V) : putK [((.inr "hashed" : Key), x), (.inr "asked", y)] (.inr "summed") z = [(.inr "hashed", x), (.inr "asked", y), (.inr "summed", z)] := putK_new _ _ _ (by
  intro z
  rcases List.mem_cons.mp z with z | z
  · exact absurd (Sum.inr.inj z) (by decide +kernel)
  · exact absurd (Sum.inr.inj (List.mem_singleton.mp z)) (by decide +kernel))
theorem pair1 {x : V} {t : TE} {σ : L2.St} {H : Hp} {Q : List (V × V) → Hp → Prop} (h : t σ H fun y H1 => Q [(x, y)] H1) : tPairs [(tC x, t)] σ H Q := h
theorem disp1 {k : Key} {v : V} {σ : L2.St} {H : Hp} {Q : VK} (h : ∀ p, H p = none → Q (.ref p) (upd H p (.dK [(k, v)]))) : tDisp [(tC (kV k), tC v)] σ H Q := fun p hp => ⟨upd_same, [(k, v)], rfl, by show 1 ≤ 15; decide, by
  have e : upd (upd H p (.dK [])) p (.dK (mergeK [] [(k, v)])) = upd H p (.dK [(k, v)]) := by
    rw [upd_twice]
    rfl
  rw [e]
  exact h p hp⟩
/-- an argument that is refused: for hashed or summed; for asked -/
def BadH (K : PySem.W.Frag) (D : List Addr) (H : Hp) (v : V) : Prop := ∃ r, ArgR K D H v r ∧ namesR 2 r = false
def BadA (K : PySem.W.Frag) (D : List Addr) (H : Hp) (v : V) : Prop := ∃ r, ArgD K D H v r ∧ askedR r = false
/-- what asked may be exchanged by: the items of a list -/
def ItemA (H : Hp) (d : Addr) (v : V) : Prop := v = .non ∨ (∃ l, v = .ref l ∧ l ≠ d ∧ H l = some (.lst [])) ∨ ∃ p kvs, v = .ref p ∧ p ≠ d ∧ H p = some (.dK kvs) ∧ kvs ∈ abL
theorem ab_first : ∀ x ∈ abL, ∀ y r, x ≠ ((.inr "hashed" : Key), y) :: r := fun x hx y r e => by
  have all_ : ∀ x ∈ abL, (x.map Prod.fst).head? ≠ some ((Sum.inr ("hashed" : Str)) : Key) := by decide +kernel
  have := all_ x hx
  rw [e] at this
  exact this rfl
theorem itemA_put {H : Hp} {d pb : Addr} {v y : V} {r : List (Key × V)} {o : HO} (h : ItemA H d v) (e : H pb = some (.dK ((.inr "hashed", y) :: r))) : ItemA (upd H pb o) d v := by
  rcases h with h | ⟨l, h1, h2, h3⟩ | ⟨p, kvs, h1, h2, h3, h4⟩
  · exact .inl h
  · refine .inr (.inl ⟨l, h1, h2, ?_⟩)
    rw [upd_ne (fun z => by rw [z, e] at h3; cases h3)]
    exact h3
  · refine .inr (.inr ⟨p, kvs, h1, h2, ?_, h4⟩)
    rw [upd_ne (fun z => by
      rw [z, e] at h3
      cases h3
      exact ab_first _ h4 _ _ rfl)]
    exact h3
theorem ItemA.same {H H' : Hp} {d : Addr} {v : V} (g : Same H H') (h : ItemA H d v) : ItemA H' d v := by
  rcases h with h | ⟨l, h1, h2, h3⟩ | ⟨p, kvs, h1, h2, h3, h4⟩
  · exact .inl h
  · exact .inr (.inl ⟨l, h1, h2, g _ _ h3⟩)
  · exact .inr (.inr ⟨p, kvs, h1, h2, g _ _ h3, h4⟩)
def kvs3 (x y z : V) : List (Key × V) := [(.inr "hashed", x), (.inr "asked", y), (.inr "summed", z)]
theorem merge3 (x y z : V) : mergeK ([] : List (Key × V)) (kvs3 x y z) = kvs3 x y z := by
  show putK (putK (putK ([] : List (Key × V)) (.inr "hashed") x) (.inr "asked") y) (.inr "summed") z = _
  rw [show putK ([] : List (Key × V)) (.inr "hashed") x = [((.inr "hashed" : Key), x)] from rfl, put_ask, put_sum]
  rfl
theorem sql_off {K : PySem.W.Frag} {H : Hp} {d t l : Addr} {xs : List V} {kvs : List (Key × V)} (h : SqL K H l xs) (n : l ≠ d) (e : H t = some (.dK kvs)) : SqL K (dels [d, t] H) l xs := by
  have st : ∀ o : HO, (∀ ks, o ≠ .dK ks) → H l = some o → dels [d, t] H l = some o := fun o no z => dels_at (fun m => by
    rcases List.mem_cons.mp m with m | m
    · exact n m
    · rw [List.mem_singleton.mp m, e] at z
      exact no _ (Option.some.inj z).symm) z
  rcases h with (h | ⟨q, h⟩) | h
  · exact .inl (.inl (st _ (fun ks z => by cases z) h))
  · exact .inl (.inr ⟨q, st _ (fun ks z => by cases z) h⟩)
  · exact .inr h
theorem mem_at {K : PySem.W.Frag} {H : Hp} {xs : List V} {ds : List PyData} (h : DpAll K H xs ds) {x : V} (hx : x ∈ xs) : ∃ y, y ∈ ds ∧ Dp K H x y := by
  obtain ⟨i, hi⟩ := List.getElem?_of_mem hx
  exact dps_mem h hi
theorem bad_plain {K : PySem.W.Frag} {H : Hp} {d t : Addr} {kvs : List (Key × V)} (e : H t = some (.dK kvs)) {xs : List V} {ds : List PyData} (h : DpAll K (del H d) xs ds) (b : ∀ x ∈ ds, plainR x = true ∧ namesR 2 (rowOf x) = false) : ∀ x ∈ xs, BadH K [d, t] H x := fun x hx => by
  obtain ⟨y, hy, dy⟩ := mem_at (dps_off (.inr ⟨_, e⟩) h) hx
  exact ⟨_, argR_dat dy (b y hy).1, (b y hy).2⟩
theorem two_out {d t b : Addr} (n1 : b ≠ d) (n2 : b ≠ t) : b ∉ ([d, t] : List Addr) := fun m => by
  rcases List.mem_cons.mp m with m | m
  · exact n1 m
  · exact n2 (List.mem_singleton.mp m)
theorem drawn_short : (∀ hs ∈ hsL, ∀ n ∈ hs, n.length ≤ 1000) ∧ (∀ ss ∈ ssL, ∀ n ∈ ss, n.length ≤ 1000) ∧ ∀ as ∈ bigA :: asL, kvsB (kvsOf as) = true := by decide +kernel
theorem short_ok {ns : List Str} (h : ∀ n ∈ ns, n.length ≤ 1000) : ∀ x ∈ ns.map PyData.str, StrOk x := fun x hx => by
  obtain ⟨n, hn, rfl⟩ := List.mem_map.mp hx
  intro s e
  cases e
  exact h n hn
def kH : Key := .inr "hashed"
def kA : Key := .inr "asked"
def kS : Key := .inr "summed"
theorem kHA : kH ≠ kA := fun z => absurd (Sum.inr.inj z) (by decide +kernel)
theorem kHS : kH ≠ kS := fun z => absurd (Sum.inr.inj z) (by decide +kernel)
theorem kAS : kA ≠ kS := fun z => absurd (Sum.inr.inj z) (by decide +kernel)
theorem val3 (x y z : V) : valV (kvs3 x y z) kH = some x ∧ valV (kvs3 x y z) kA = some y ∧ valV (kvs3 x y z) kS = some z :=
  ⟨valV_pos rfl, (valV_neg kHA).trans (valV_pos rfl), (valV_neg kHS).trans ((valV_neg kAS).trans (valV_pos rfl))⟩
theorem put3 (x y z v : V) : putK (kvs3 x y z) kH v = kvs3 v y z ∧ putK (kvs3 x y z) kA v = kvs3 x v z ∧ putK (kvs3 x y z) kS v = kvs3 x y v := by
  have e : kvs3 x y z = [(kH, x), (kA, y), (kS, z)] := rfl
  rw [e]
  refine ⟨?_, ?_, ?_⟩ <;> (unfold putK; simp [kHA, kHS, kAS, kHA.symm, kHS.symm, kAS.symm]; rfl)
/-- the words whose bit is set -/
def fl : List Str → List Bool → List Str
  | w :: ws, b :: bs => if b = true then w :: fl ws bs else fl ws bs
  | _, _ => []
theorem fl_app : ∀ {ws : List Str} {bs : List Bool} (w : Str) (b : Bool), ws.length = bs.length → fl (ws ++ [w]) (bs ++ [b]) = fl ws bs ++ (if b = true then [w] else [])
  | [], [], w, b, _ => by cases b <;> rfl
  | [], _ :: _, _, _, h => by simp at h
  | _ :: _, [], _, _, h => by simp at h
  | x :: ws, c :: bs, w, b, h => by
    have ih := fl_app (ws := ws) (bs := bs) w b (by simpa using h)
    cases c with
    | true =>
      show x :: fl (ws ++ [w]) (bs ++ [b]) = (x :: fl ws bs) ++ _
      rw [ih]
      rfl
    | false =>
      show fl (ws ++ [w]) (bs ++ [b]) = fl ws bs ++ _
      exact ih
def wH : Str := "hashed"
def wA : Str := "asked"
def wS : Str := "summed"
theorem wHA : wH ≠ wA := by decide +kernel
theorem wHS : wH ≠ wS := by decide +kernel
theorem wAS : wA ≠ wS := by decide +kernel
def wordsL : List Str := ["hashed", "asked", "summed"]
theorem fl_len : ∀ (ws : List Str) (bs : List Bool), (fl ws bs).length ≤ ws.length
  | [], _ => Nat.le_refl _
  | _ :: _, [] => Nat.zero_le _
  | w :: ws, b :: bs => by
    have ih := fl_len ws bs
    cases b with
    | true =>
      show (fl ws bs).length + 1 ≤ ws.length + 1
      omega
    | false =>
      show (fl ws bs).length ≤ ws.length + 1
      omega
theorem fl_mem : ∀ {ws : List Str} {bs : List Bool} {w : Str}, w ∈ fl ws bs → w ∈ ws
  | [], _, _, h => by cases h
  | _ :: _, [], _, h => by cases h
  | x :: ws, b :: bs, w, h => by
    cases b with
    | true =>
      have h' : w ∈ x :: fl ws bs := h
      rcases List.mem_cons.mp h' with rfl | h'
      · exact List.mem_cons_self
      · exact List.mem_cons_of_mem _ (fl_mem h')
    | false => exact List.mem_cons_of_mem _ (fl_mem (bs := bs) h)
/-- what is told for a word: a bad one if the word is among the wrong ones -/
def ToldH (K : PySem.W.Frag) (D : List Addr) (H : Hp) (c : Prop) (v : V) (ns : List Str) : Prop := (c → BadH K D H v) ∧ (¬ c → ArgR K D H v (.seq (ns.map PyData.str)))
def ToldA (K : PySem.W.Frag) (D : List Addr) (H : Hp) (c : Prop) (v : V) (as : List (Str × Bool)) : Prop := (c → BadA K D H v) ∧ (¬ c → ArgD K D H v (.dic (kvsOf as)))
theorem BadH.off {K : PySem.W.Frag} {D : List Addr} {H H1 : Hp} {v : V} (h : BadH K D H v) (g : Off D H H1) : BadH K D H1 v := by
  obtain ⟨r, h1, h2⟩ := h
  exact ⟨r, h1.off g, h2⟩
theorem BadA.off {K : PySem.W.Frag} {D : List Addr} {H H1 : Hp} {v : V} (h : BadA K D H v) (g : Off D H H1) : BadA K D H1 v := by
  obtain ⟨r, h1, h2⟩ := h
  exact ⟨r, h1.off g, h2⟩
theorem ToldH.off {K : PySem.W.Frag} {D : List Addr} {H H1 : Hp} {c : Prop} {v : V} {ns : List Str} (h : ToldH K D H c v ns) (g : Off D H H1) : ToldH K D H1 c v ns := ⟨fun z => (h.1 z).off g, fun z => (h.2 z).off g⟩
theorem ToldA.off {K : PySem.W.Frag} {D : List Addr} {H H1 : Hp} {c : Prop} {v : V} {as : List (Str × Bool)} (h : ToldA K D H c v as) (g : Off D H H1) : ToldA K D H1 c v as := ⟨fun z => (h.1 z).off g, fun z => (h.2 z).off g⟩
theorem ToldH.iff {K : PySem.W.Frag} {D : List Addr} {H : Hp} {c e : Prop} {v : V} {ns : List Str} (h : ToldH K D H c v ns) (i : c ↔ e) : ToldH K D H e v ns := ⟨fun z => h.1 (i.mpr z), fun z => h.2 fun y => z (i.mp y)⟩
theorem ToldA.iff {K : PySem.W.Frag} {D : List Addr} {H : Hp} {c e : Prop} {v : V} {as : List (Str × Bool)} (h : ToldA K D H c v as) (i : c ↔ e) : ToldA K D H e v as := ⟨fun z => h.1 (i.mpr z), fun z => h.2 fun y => z (i.mp y)⟩
theorem Drw.dict {K : PySem.W.Frag} {H : Hp} {d t : Addr} {kvs : List (Key × V)} {o : HO} (h : Drw K H d) (e : H t = some (.dK kvs)) : Drw K (upd H t o) d := by
  obtain ⟨a, ns, i, h1, h2, h3⟩ := h
  refine ⟨a, ns, i, ?_, ?_, h3⟩
  · rw [upd_ne (fun z => by rw [z, e] at h1; cases h1)]
    exact h1
  · rcases h2 with ⟨q, h2⟩ | h2
    · refine .inl ⟨q, ?_⟩
      rw [upd_ne (fun z => by rw [z, e] at h2; cases h2)]
      exact h2
    · exact .inr h2
theorem fl3 : ∀ b1 b2 b3 : Bool, (wH ∈ fl wordsL [b1, b2, b3] ↔ b1 = true) ∧ (wA ∈ fl wordsL [b1, b2, b3] ↔ b2 = true) ∧ (wS ∈ fl wordsL [b1, b2, b3] ↔ b3 = true) := by decide +kernel
theorem fl_head : ∀ b1 b2 b3 : Bool, (fl wordsL [b1, b2, b3]).head? = if b1 = true then some wH else if b2 = true then some wA else if b3 = true then some wS else none := by decide +kernel
theorem shaped_bits : ∀ b1 b2 b3 : Bool, SeqAt.shaped (.list ((fl wordsL [b1, b2, b3]).map PyData.str)) = true := by decide +kernel
def dueD : Option Str → PyData
  | none => .str "none"
  | some w => .tuple [.str "columns", .str w]
theorem due_shape : ∀ b1 b2 b3 : Bool, SeqAt.shaped (dueD (fl wordsL [b1, b2, b3]).head?) = true := by decide +kernel
/-- what is due: a text, or a tuple that stands -/
def DueAt (D : List Addr) (H : Hp) (u : V) : Option Str → Prop
  | none => u = .str "none"
  | some w => ∃ q, u = .ref q ∧ q ∉ D ∧ H q = some (.tup [.str "columns", .str w])
theorem DueAt.dp {K : PySem.W.Frag} {D : List Addr} {H H' : Hp} {u : V} {o : Option Str} (h : DueAt D H u o) (g : Off D H H') : Dp K H' u (dueD o) := by
  cases o with
  | none =>
    obtain rfl : u = .str "none" := h
    exact .str _
  | some w =>
    obtain ⟨q, rfl, nq, e⟩ := h
    exact .tup (SqT.of (g _ _ nq e fun ps z => by cases z)) (.cons (.str _) (.cons (.str _) .nil))
theorem wrong_first {hs : List Str} {as : List (Str × Bool)} {ss : List Str} (mh : hs ∈ hsL) (ma : as ∈ bigA :: asL) (ms : ss ∈ ssL) {b1 b2 b3 : Bool} {rh : RowA} {ra : DicA} {rs : RowA} (h1 : if b1 = true then namesR 2 rh = false else rh = .seq (hs.map PyData.str)) (h2 : if b2 = true then askedR ra = false else ra = .dic (kvsOf as)) (h3 : if b3 = true then namesR 2 rs = false else rs = .seq (ss.map PyData.str)) :
    wrongR rh ra rs = (fl wordsL [b1, b2, b3]).head? := by
  have ok := drawn_ok hs mh as ma ss ms
  rw [fl_head]
  unfold wrongR at ok ⊢
  have n1 : namesR 2 (.seq (hs.map PyData.str)) = true := by
    cases c : namesR 2 (.seq (hs.map PyData.str)) with
    | true => rfl
    | false =>
      rw [if_pos c] at ok
      cases ok
  rw [if_neg (by rw [n1]; exact Bool.noConfusion)] at ok
  have n2 : askedR (.dic (kvsOf as)) = true := by
    cases c : askedR (.dic (kvsOf as)) with
    | true => rfl
    | false =>
      rw [if_pos c] at ok
      cases ok
  rw [if_neg (by rw [n2]; exact Bool.noConfusion)] at ok
  cases b1 with
  | true => rw [if_pos (show namesR 2 rh = false from h1)]; rfl
  | false =>
    obtain rfl : rh = .seq (hs.map PyData.str) := h1
    rw [if_neg (by rw [n1]; exact Bool.noConfusion)]
    cases b2 with
    | true => rw [if_pos (show askedR ra = false from h2)]; rfl
    | false =>
      obtain rfl : ra = .dic (kvsOf as) := h2
      rw [if_neg (by rw [n2]; exact Bool.noConfusion)]
      cases b3 with
      | true => rw [if_pos (show namesR 2 rs = false from h3)]; rfl
      | false =>
        obtain rfl : rs = .seq (ss.map PyData.str) := h3
        exact ok
theorem in_app {w x : Str} {l : List Str} (n : w ≠ x) : w ∈ l ↔ w ∈ l ++ [x] := by
  rw [List.mem_append, List.mem_singleton]
  exact ⟨.inl, fun h => h.resolve_right n⟩
def qR : Str := "_law_columns_right.<locals>." ++ "<lambda>"
theorem tabs_dict {T : List (Addr × Str)} {t : Addr} {H : Hp} {kvs ls : List (Key × V)} (h : LamX.Tabs T H) (e : H t = some (.dK kvs)) : LamX.Tabs T (upd H t (.dK ls)) := fun p hp => by
  obtain ⟨ps, h1, h2, h3⟩ := h p hp
  refine ⟨ps, ?_, h2, fun pos cv hc => ?_⟩
  · rw [upd_ne (ne_of h1 e (by intro z; cases z))]
    exact h1
  · obtain ⟨c, e1, e2⟩ := h3 pos cv hc
    refine ⟨c, e1, ?_⟩
    rw [upd_ne (ne_of e2 e (by intro z; cases z))]
    exact e2
theorem tabs_ins {T : List (Addr × Str)} {x C dx : Addr} {fs : List (Str × V)} {H H' : Hp} (h : LamX.Tabs T H) (e : H x = some (.ins C dx fs)) (g : But x H H') : LamX.Tabs T H' := fun p hp => by
  obtain ⟨ps, h1, h2, h3⟩ := h p hp
  refine ⟨ps, g _ _ (ne_of h1 e (by intro z; cases z)) h1, h2, fun pos cv hc => ?_⟩
  obtain ⟨c, e1, e2⟩ := h3 pos cv hc
  exact ⟨c, e1, g _ _ (ne_of e2 e (by intro z; cases z)) e2⟩
theorem Drw.ins {K : PySem.W.Frag} {H H' : Hp} {d x C dx : Addr} {fs : List (Str × V)} (h : Drw K H d) (e : H x = some (.ins C dx fs)) (g : But x H H') : Drw K H' d := by
  obtain ⟨a, ns, i, h1, h2, h3⟩ := h
  refine ⟨a, ns, i, g _ _ (ne_of h1 e (by intro z; cases z)) h1, ?_, h3⟩
  rcases h2 with ⟨q, h2⟩ | h2
  · exact .inl ⟨q, g _ _ (ne_of h2 e (by intro z; cases z)) h2⟩
  · exact .inr h2
theorem Off.ins {D : List Addr} {x C dx : Addr} {fs : List (Str × V)} {H H1 H' : Hp} (a : Same H H1) (n : H x = none) (g : But x H1 H') : Off D H H' := fun b o _ h _ => g _ _ (ne_of_none h n) (a _ _ h)
def triL : List (List Str × List (Str × Bool) × List Str) := [(["v"], [("v", false)], []), (["v"], [], ["v"]), ([], [("x", true)], ["x"])]
theorem tri_bad : ∀ t ∈ triL, wrongR (.seq (t.1.map PyData.str)) (.dic (kvsOf t.2.1)) (.seq (t.2.2.map PyData.str)) = some "names" ∧ kvsB (kvsOf t.2.1) = true ∧ t.1.length ≤ 1 ∧ t.2.2.length ≤ 1 ∧ (∀ n ∈ t.1, n.length ≤ 1000) ∧ ∀ n ∈ t.2.2, n.length ≤ 1000 := by decide +kernel
def TriAt (d : Addr) (H : Hp) (v : V) : Prop := ∃ (q l1 p l2 : Addr) (t : List Str × List (Str × Bool) × List Str), v = .ref q ∧ t ∈ triL ∧ q ≠ d ∧ l1 ≠ d ∧ p ≠ d ∧ l2 ≠ d ∧ H q = some (.tup [.ref l1, .ref p, .ref l2]) ∧ H l1 = some (.lst (t.1.map V.str)) ∧ H p = some (.dK (kvsOf t.2.1)) ∧ H l2 = some (.lst (t.2.2.map V.str))
theorem TriAt.but {d : Addr} {H H' : Hp} {v : V} (h : TriAt d H v) (g : But d H H') : TriAt d H' v := by
  obtain ⟨q, l1, p, l2, t, h0, h1, n1, n2, n3, n4, e1, e2, e3, e4⟩ := h
  exact ⟨q, l1, p, l2, t, h0, h1, n1, n2, n3, n4, g _ _ n1 e1, g _ _ n2 e2, g _ _ n3 e3, g _ _ n4 e4⟩
theorem lay_tri {d : Addr} {t : List Str × List (Str × Bool) × List Str} {td : TE} (ht : t ∈ triL) (hdisp : ∀ {σ : L2.St} {H : Hp} {Q : VK}, (∀ p, H p = none → Q (.ref p) (upd H p (.dK (kvsOf t.2.1)))) → td σ H Q) {σ : L2.St} {H : Hp} {Q : VK} (hd : ∃ o, H d = some o) (k : ∀ v H', Same H H' → TriAt d H' v → Q v H') :
    tTup (tCons (tLst (tStrs t.1)) (tCons td (tCons (tLst (tStrs t.2.2)) tNil))) σ H Q := by
  obtain ⟨_, _, b1, b2, _⟩ := tri_bad t ht
  obtain ⟨o, ho⟩ := hd
  refine cons_of ?_
  refine lay_strs t.1 ⟨small100 (by rw [List.length_map]; omega), fun l1 f1 => ?_⟩
  have s1 := same_new f1 (.lst (t.1.map V.str))
  have n1 : l1 ≠ d := fun z => ne_of_none ho f1 z.symm
  refine cons_of (hdisp fun p fp => ?_)
  have s2 := same_new fp (.dK (kvsOf t.2.1))
  have n2 : p ≠ d := fun z => ne_of_none (s1 _ _ ho) fp z.symm
  refine cons_of (lay_strs t.2.2 ⟨small100 (by rw [List.length_map]; omega), fun l2 f2 => ?_⟩)
  have s3 := same_new f2 (.lst (t.2.2.map V.str))
  have n3 : l2 ≠ d := fun z => ne_of_none (s2 _ _ (s1 _ _ ho)) f2 z.symm
  refine ⟨(by show 3 ≤ sizeLine; decide), fun q fq => ?_⟩
  have s4 := same_new fq (.tup [.ref l1, .ref p, .ref l2])
  have n4 : q ≠ d := fun z => ne_of_none (s3 _ _ (s2 _ _ (s1 _ _ ho))) fq z.symm
  exact k _ _ (s1.trans (s2.trans (s3.trans s4))) ⟨q, l1, p, l2, t, rfl, ht, n4, n1, n2, n3, upd_same, s4 _ _ (s3 _ _ (s2 _ _ upd_same)), s4 _ _ (s3 _ _ upd_same), s4 _ _ upd_same⟩
def sp_right (K : PySem.W.Frag) (lp : Addr) (q : Str) : Sp := fun vs H Q _ => ∃ (d cl : Addr) (hs : List Str) (as : List (Str × Bool)) (ss : List Str), vs = [.ref d, .ref cl] ∧ Drw K H d ∧ ClAt K d H cl hs as ss ∧ hs ∈ hsL ∧ as ∈ bigA :: asL ∧ ss ∈ ssL ∧ LamX.Tabs [(lp, q)] H ∧ ∀ H', Q (.bl true) H'
theorem ok__law_columns_right (T : Txt K mg) {lc lp : Addr} (hlc : T.d__law_columns_right.code = .ref lc) (tb : LamX.TabB base mg lc lp) : FnOk P w K mg base CX0 9 T.a__law_columns_right T.d__law_columns_right ["draw", "columns"] (sp_right K lp qR) := by
  have G__law_pick := ok__law_pick (P := P) (w := w) (base := base) T
  have G__law_take := ok__law_take (P := P) (w := w) (base := base) T
  have G_Columns_init := ok_Columns_init (P := P) (w := w) (base := base) T
  obtain ⟨oc, od, kV, doc, pm, an, cdr, ct, osl, efd, lkr, hcr⟩ := T.F__law_refused.ex
  have bnr := T.b__law_refused
  rw [efd] at bnr lkr
  have visr : L2.Vis (defScope s__law_refused) "deed" := (sc__law_refused.par "deed" (by simp)).elim .inl fun z => .inr (.inl z)
  refine fun_okC T.F__law_columns_right hlc sc__law_columns_right (fun vs H Q E h => ?_) (fun A outer s H vs Q E hr h => ?_)
  · obtain ⟨d, cl, hs, as, ss, rfl, _⟩ := h
    rfl
  obtain ⟨d, cl, hs, as, ss, rfl, hD, ⟨l, a, s2, c1, nc, nl, na, ns, c2, c3, c4⟩, mh, ma, ms, tabs, k⟩ := h
  refine ⟨_, PSs.nox (pss_cons (ps_asg (pv 1) (pg_tup rfl (pgs_cons (pg_name (i := 2) sc__law_columns_right.nd rfl (by first | exact Or.inl rfl | exact Or.inr rfl)) (pgs_cons (pg_name (i := 3) sc__law_columns_right.nd rfl (by first | exact Or.inl rfl | exact Or.inr rfl)) (pgs_cons (pg_name (i := 4) sc__law_columns_right.nd rfl (by first | exact Or.inl rfl | exact Or.inr rfl)) pgs_nil)))))
    (pss_cons (ps_set (i := 5) sc__law_columns_right.nd rfl (by first | exact Or.inl rfl | exact Or.inr rfl) (pe_disp (pps_cons pe_str (pe_lst (pa_cons pe_non (pa_cons pe_str (pa_cons (pe_lst (pa_cons pe_str (pa_cons pe_str pa_nil))) (pa_cons (pe_lst (pa_cons pe_str pa_nil)) (pa_cons (pe_lst (pa_cons pe_str pa_nil)) (pa_cons (pe_lst (pa_cons pe_str pa_nil)) (pa_cons (pe_lst (pa_cons pe_str pa_nil)) (pa_cons (pe_lst (pa_cons pe_str (pa_cons pe_str (pa_cons pe_str pa_nil)))) (pa_cons (pe_lst (pa_cons pe_int pa_nil)) (pa_cons (pe_lst (pa_cons pe_str pa_nil)) pa_nil))))))))))) pps_nil) rfl rfl (List.cons_ne_nil _ _) (by decide)))
    (pss_cons (ps_asg (pe_lst (pa_cons pe_non (pa_cons (pe_lst pa_nil) (pa_cons (pe_disp (pps_cons pe_str pe_str pps_nil) rfl rfl (List.cons_ne_nil _ _) (by decide)) (pa_cons (pe_disp (pps_cons pe_str pe_str pps_nil) rfl rfl (List.cons_ne_nil _ _) (by decide)) (pa_cons (pe_disp (pps_cons pe_int pe_str pps_nil) rfl rfl (List.cons_ne_nil _ _) (by decide)) (pa_cons (pe_disp (pps_cons pe_str pe_str pps_nil) rfl rfl (List.cons_ne_nil _ _) (by decide)) (pa_cons (pe_disp (pps_cons pe_str pe_non pps_nil) rfl rfl (List.cons_ne_nil _ _) (by decide)) (pa_cons (pe_callTy (call_dictP rfl) (by rfl) T.z_dict (by decide +kernel) (pa_cons (pe_lc (own := [("name", 6)]) rfl sc__law_columns_right.nd (pi_str pe_str) (blkOk_by (own := [("name", 6)]) (N := ["draw", "columns", "keys", "values", "sums", "bad", "name", "words", "told", "wrong", "word", "due", "twice"]) (sc := defScope s__law_columns_right) (by decide +kernel)) (fun _ _ _ _ _ => (pg_name (i := 6) sc__law_columns_right.nd rfl (by first | exact Or.inl rfl | exact Or.inr rfl))) (fun _ _ _ _ _ => pts_nil) (fun _ _ _ _ _ => (pe_tup (pa_cons (pv 6) (pa_cons pe_str pa_nil))))) pa_nil)) pa_nil))))))))) (pg_sub (pv 5) pe_str (set_dict (hu1 hr))))
    (pss_cons (ps_asg (pe_lst (pa_cons pe_non (pa_cons pe_dnewK (pa_cons (pe_lst (pa_cons pe_str (pa_cons pe_str pa_nil))) (pa_cons (pe_lst (pa_cons pe_str pa_nil)) (pa_cons (pe_lst (pa_cons pe_str pa_nil)) (pa_cons (pe_lst (pa_cons pe_str (pa_cons pe_str (pa_cons pe_str pa_nil)))) pa_nil))))))) (pg_sub (pv 5) pe_str (set_dict (hu1 hr))))
    (pss_cons (ps_asg (pe_tup (pa_cons (pe_lst (pa_cons pe_str (pa_cons pe_str (pa_cons pe_str pa_nil)))) (pa_cons (pe_disp (pps_cons pe_str (pv 2) (pps_cons pe_str (pv 3) (pps_cons pe_str (pv 4) pps_nil))) rfl rfl (List.cons_ne_nil _ _) (by decide)) pa_nil))) (pg_tup rfl (pgs_cons (pg_name (i := 7) sc__law_columns_right.nd rfl (by first | exact Or.inl rfl | exact Or.inr rfl)) (pgs_cons (pg_name (i := 8) sc__law_columns_right.nd rfl (by first | exact Or.inl rfl | exact Or.inr rfl)) pgs_nil))))
    (pss_cons (ps_setLc (i := 9) (own := [("word", 10)]) rfl sc__law_columns_right.nd rfl rfl (sw_true rfl rfl rfl (by decide +kernel)) (pi_list (pv 7)) (blkOk_by (own := [("word", 10)]) (N := ["draw", "columns", "keys", "values", "sums", "bad", "name", "words", "told", "wrong", "word", "due", "twice"]) (sc := defScope s__law_columns_right) (by decide +kernel)) (fun _ _ _ _ _ => (pg_name (i := 10) sc__law_columns_right.nd rfl (by first | exact Or.inl rfl | exact Or.inr rfl))) (fun _ _ _ _ _ => (pts_one (pt_cmpR op_eq (pe_call G__law_take (hr.mono (by first | decide | omega)) (by rfl) T.m__law_take T.F__law_take.kp T.b__law_take .nil pass0 (pa_cons (pv 0) (pa_cons pe_int pa_nil))) pe_int (nomark _)))) (fun _ _ _ _ _ => (pv 10)))
    (pss_cons (ps_for PassesOwn.never rfl (pi_list (pv 9)) (pg_name (i := 10) sc__law_columns_right.nd rfl (by first | exact Or.inl rfl | exact Or.inr rfl))
    (pss_one (ps_asg (pe_call G__law_pick (hr.mono (by first | decide | omega)) (by rfl) T.m__law_pick T.F__law_pick.kp T.b__law_pick .nil pass0 (pa_cons (pv 0) (pa_cons (pe_dget (hu_of hr) (pv 5) (pv 10) (fun _ _ => rfl)) pa_nil))) (pg_sub (pv 8) (pv 10) (set_dict (hu1 hr))))))
    (pss_cons (ps_set (i := 11) sc__law_columns_right.nd rfl (by first | exact Or.inl rfl | exact Or.inr rfl) (pe_ifExp (pt_cmpR (op_neD (hu64 hr)) (pv 9) (pe_lst pa_nil) (nomark _)) (pe_tup (pa_cons pe_str (pa_cons (pe_ix ix_list (pv 9) pe_int (fun _ _ => rfl)) pa_nil))) pe_str))
    (pss_cons (ps_if (pt_cmpR (op_neD (hu64 hr)) (LamX.pe_lamcall (T := [(_, _)]) (k := 6) (by rfl) T.m__law_refused T.F__law_refused.kp lkr hcr bnr sc__law_refused rfl visr (refused_givesT (by rfl) (by rfl) T _ _) tb rfl (List.mem_singleton.mpr rfl) (fun p hp _ => by rw [List.mem_singleton.mp hp]) (hr.mono (by omega)) (LamX.lamS_by (sc := defScope s__law_columns_right) (by decide +kernel)) rfl (fun _ _ _ _ _ => rfl) (fun A outer s H E f c' hr => (pe_make T.mk_Columns G_Columns_init (hr.mono (by first | decide | omega)) (by rfl) T.m_Columns T.b_Columns_init .nil pass_lam (pa_cons (pe_dget (hu_of hr) (pv 8) pe_str (fun _ _ => rfl)) (pa_cons (pe_dget (hu_of hr) (pv 8) pe_str (fun _ _ => rfl)) (pa_cons (pe_dget (hu_of hr) (pv 8) pe_str (fun _ _ => rfl)) pa_nil)))))) (pv 11) (nomark _)) (pss_one (ps_ret pe_bl)) pss_nil)
    (pss_cons (ps_set (i := 12) sc__law_columns_right.nd rfl (by first | exact Or.inl rfl | exact Or.inr rfl) (pe_call G__law_pick (hr.mono (by first | decide | omega)) (by rfl) T.m__law_pick T.F__law_pick.kp T.b__law_pick .nil pass0 (pa_cons (pv 0) (pa_cons (pe_lst (pa_cons (pe_tup (pa_cons (pe_lst (pa_cons pe_str pa_nil)) (pa_cons (pe_disp (pps_cons pe_str pe_str pps_nil) rfl rfl (List.cons_ne_nil _ _) (by decide)) (pa_cons (pe_lst pa_nil) pa_nil)))) (pa_cons (pe_tup (pa_cons (pe_lst (pa_cons pe_str pa_nil)) (pa_cons pe_dnewK (pa_cons (pe_lst (pa_cons pe_str pa_nil)) pa_nil)))) (pa_cons (pe_tup (pa_cons (pe_lst pa_nil) (pa_cons (pe_disp (pps_cons pe_str pe_str pps_nil) rfl rfl (List.cons_ne_nil _ _) (by decide)) (pa_cons (pe_lst (pa_cons pe_str pa_nil)) pa_nil)))) pa_nil)))) pa_nil))))
    (pss_one (ps_ret (pe_cmpR (op_eqD (hu64 hr)) (LamX.pe_lamcall (T := [(_, _)]) (k := 6) (by rfl) T.m__law_refused T.F__law_refused.kp lkr hcr bnr sc__law_refused rfl visr (refused_givesT (by rfl) (by rfl) T _ _) tb rfl (List.mem_singleton.mpr rfl) (fun p hp _ => by rw [List.mem_singleton.mp hp]) (hr.mono (by omega)) (LamX.lamS_by (sc := defScope s__law_columns_right) (by decide +kernel)) rfl (fun _ _ _ _ _ => rfl) (fun A outer s H E f c' hr => (pe_make T.mk_Columns G_Columns_init (hr.mono (by first | decide | omega)) (by rfl) T.m_Columns T.b_Columns_init .nil pass_lam (pa_cons (pe_ix (show IxR _ (rIxT K) from ix_tup) (pv 12) pe_int (fun _ _ => rfl)) (pa_cons (pe_ix (show IxR _ (rIxT K) from ix_tup) (pv 12) pe_int (fun _ _ => rfl)) (pa_cons (pe_ix (show IxR _ (rIxT K) from ix_tup) (pv 12) pe_int (fun _ _ => rfl)) pa_nil)))))) (pe_tup (pa_cons pe_str (pa_cons pe_str pa_nil))) (nomark _)))))))))))))), ?_⟩
  obtain ⟨odr, hod⟩ := hD.at
  refine ⟨_, rfl, cl, _, rfl, SqT.of c1, rfl, _, _, rfl, _, _, rfl, _, _, rfl, rfl, ?_⟩
  -- bad = {'hashed': [..]}
  dsimp only
  refine seq_cut (fun σ' H' => ∃ (pb l1 : Addr) (xs1 : List V), σ' = [some (.ref d), some (.ref cl), some (.ref l), some (.ref a), some (.ref s2), some (.ref pb), none, none, none, none, none, none, none] ∧ Same H H' ∧ pb ≠ d ∧ H pb = none ∧ H' pb = some (.dK [(.inr "hashed", .ref l1)]) ∧ l1 ≠ d ∧ H' l1 = some (.lst xs1) ∧ DpAll K (del H' d) xs1 hbL) (fun σ' H' h => ?_) (fun tail => ?_)
  rotate_left
  · intro pb hpb
    have g0 := same_new hpb (.dK [])
    show tPairs [(tC (.str "hashed"), tLst (tDats hbL))] _ _ _
    refine pair1 ?_
    show tLst (tDats hbL) _ _ _
    refine lay_dats (K := K) (dd := d) hbL (by decide +kernel) ⟨_, g0 _ _ hod⟩ fun vs H1 g dv => ⟨small100 (by rw [dps_len dv]; decide), fun l1 hl1 => ?_⟩
    have g1 := same_new hl1 (.lst vs)
    have npd : pb ≠ d := fun z => by
      rw [z, hod] at hpb
      cases hpb
    have ep : upd H1 l1 (.lst vs) pb = some (.dK []) := g1 _ _ (g _ _ upd_same)
    have nlp : l1 ≠ pb := fun z => ne_of_none (g _ _ upd_same) hl1 z.symm
    have nld : l1 ≠ d := fun z => ne_of_none (g _ _ (g0 _ _ hod)) hl1 z.symm
    refine ⟨ep, [(.inr "hashed", .ref l1)], rfl, by show 1 ≤ 15; decide, ?_⟩
    refine tail _ _ ⟨pb, l1, vs, rfl, fun b o hb => ?_, npd, hpb, upd_same, nld, ?_, dps_dict ep (dps_same (off_new hl1) _ _ dv)⟩
    · rw [upd_ne (ne_of_none hb hpb)]
      exact g1 _ _ (g _ _ (g0 _ _ hb))
    · rw [upd_ne nlp]
      exact upd_same
  obtain ⟨pb, l1, xs1, rfl, gA, npd, hpb, epb, nl1, el1, dx1⟩ := h
  -- bad['asked'] = [..]
  refine seq_cut (fun σ' H' => ∃ (l2 : Addr) (xs2 : List V), σ' = [some (.ref d), some (.ref cl), some (.ref l), some (.ref a), some (.ref s2), some (.ref pb), none, none, none, none, none, none, none] ∧ Same H H' ∧ H' pb = some (.dK [(.inr "hashed", .ref l1), (.inr "asked", .ref l2)]) ∧ H' l1 = some (.lst xs1) ∧ DpAll K (del H' d) xs1 hbL ∧ l2 ≠ d ∧ H' l2 = some (.lst xs2) ∧ xs2.length = 8 ∧ ∀ x ∈ xs2, ItemA H' d x) (fun σ' H' h => ?_) (fun tail => ?_)
  rotate_left
  · refine ⟨(by show 0 ≤ sizeLine; decide), fun l0 hl0 => ?_⟩
    have s0 := same_new hl0 (.lst [])
    have e0 : upd H' l0 (.lst []) l0 = some (.lst []) := upd_same
    generalize upd H' l0 (.lst []) = H0 at *
    refine cons_of (disp1 (k := .inr "v") (v := .str "texts") fun p1 hp1 => ?_)
    have s1 := same_new hp1 (.dK [(.inr "v", .str "texts")])
    have e1 : upd H0 p1 (.dK [(.inr "v", .str "texts")]) p1 = some (.dK [(.inr "v", .str "texts")]) := upd_same
    generalize upd H0 p1 (.dK [(.inr "v", .str "texts")]) = H1 at *
    refine cons_of (disp1 (k := .inr "V") (v := .str "text") fun p2 hp2 => ?_)
    have s2' := same_new hp2 (.dK [(.inr "V", .str "text")])
    have e2 : upd H1 p2 (.dK [(.inr "V", .str "text")]) p2 = some (.dK [(.inr "V", .str "text")]) := upd_same
    generalize upd H1 p2 (.dK [(.inr "V", .str "text")]) = H2 at *
    refine cons_of (disp1 (k := .inl 3) (v := .str "text") fun p3 hp3 => ?_)
    have s3 := same_new hp3 (.dK [(.inl 3, .str "text")])
    have e3 : upd H2 p3 (.dK [(.inl 3, .str "text")]) p3 = some (.dK [(.inl 3, .str "text")]) := upd_same
    generalize upd H2 p3 (.dK [(.inl 3, .str "text")]) = H3 at *
    refine cons_of (disp1 (k := .inr "row") (v := .str "text") fun p4 hp4 => ?_)
    have s4 := same_new hp4 (.dK [(.inr "row", .str "text")])
    have e4 : upd H3 p4 (.dK [(.inr "row", .str "text")]) p4 = some (.dK [(.inr "row", .str "text")]) := upd_same
    generalize upd H3 p4 (.dK [(.inr "row", .str "text")]) = H4 at *
    refine cons_of (disp1 (k := .inr "v") (v := .non) fun p5 hp5 => ?_)
    have s5 := same_new hp5 (.dK [(.inr "v", .non)])
    have e5 : upd H4 p5 (.dK [(.inr "v", .non)]) p5 = some (.dK [(.inr "v", .non)]) := upd_same
    generalize upd H4 p5 (.dK [(.inr "v", .non)]) = H5 at *
    refine cons_of (cb_of (cons_of ?_))
    refine ⟨_, rfl, fun D hDn => ?_⟩
    have nDd : D ≠ d := fun z => ne_of_none (s5 _ _ (s4 _ _ (s3 _ _ (s2' _ _ (s1 _ _ (s0 _ _ (gA _ _ hod))))))) hDn z.symm
    refine lc_it (walk_str (z := "abcde")) (fun i H' => Same H5 H' ∧ ∃ ps : List Addr, ps.length = i ∧ H' D = some (.lst (ps.map V.ref)) ∧ Paired (fun (p : Addr) (kv : Key × V) => H' p = some (.tup [L2.kV kv.1, kv.2])) ps (kvs5.take i)) ⟨same_new hDn _, [], rfl, upd_same, .nil⟩ (fun _ _ _ _ => trivial) ?_ ?_
    · rintro i x Ha Hb hi ⟨g, ps, lps, eD, pr⟩ ⟨eH, c, hc, rfl⟩
      subst eH
      have h5 := sign5 hc
      refine ⟨rfl, _, rfl, (by show 2 ≤ sizeLine; decide), fun t ht => ⟨_, same_new ht _ _ _ eD, ?_, fun b o hb => ?_, ps ++ [t], ?_, ?_, ?_⟩⟩
      · rw [List.length_map, lps]
        have : ("abcde" : Str).cps.size = 5 := by decide +kernel
        exact small1000 (by omega)
      · rw [upd_ne (ne_of_none hb hDn)]
        exact same_new ht _ _ _ (g _ _ hb)
      · rw [List.length_append, lps]
        rfl
      · rw [upd_same, List.map_append]
        rfl
      · have tD : t ≠ D := fun z => ne_of_none eD ht z.symm
        rw [take_more' h5]
        refine paired_snoc (Paired.mapP pr fun p kv e => ?_) ?_
        · rw [upd_ne (fun z => by rw [z, eD] at e; cases e)]
          exact same_new ht _ _ _ e
        · rw [upd_ne tD]
          exact upd_same
    · rintro Ha ⟨g, ps, lps, eD, pr⟩
      have e5' : ("abcde" : Str).cps.size = 5 := by decide +kernel
      rw [e5', List.take_of_length_le (by decide)] at pr
      refine ⟨D, ps, kvs5, rfl, SqL.of eD, Paired.mapP pr fun p kv e => SqT.of e, fun p6 hp6 => ?_⟩
      have m5 : mergeK [] kvs5 = kvs5 := by rfl
      rw [m5]
      have s6 := same_new hp6 (.dK kvs5)
      have e6 : upd Ha p6 (.dK kvs5) p6 = some (.dK kvs5) := upd_same
      generalize upd Ha p6 (.dK kvs5) = H6 at *
      refine ⟨(by show 8 ≤ sizeLine; decide), fun l2 hl2 => ?_⟩
      have s7 := same_new hl2 (.lst [.non, .ref l0, .ref p1, .ref p2, .ref p3, .ref p4, .ref p5, .ref p6])
      have e7 : upd H6 l2 (.lst [.non, .ref l0, .ref p1, .ref p2, .ref p3, .ref p4, .ref p5, .ref p6]) l2 = some (.lst [.non, .ref l0, .ref p1, .ref p2, .ref p3, .ref p4, .ref p5, .ref p6]) := upd_same
      generalize upd H6 l2 (.lst [.non, .ref l0, .ref p1, .ref p2, .ref p3, .ref p4, .ref p5, .ref p6]) = H7 at *
      have t6 := g.trans (s6.trans s7)
      have t5 := s5.trans t6
      have t4 := s4.trans t5
      have t3 := s3.trans t4
      have t2 := s2'.trans t3
      have t1 := s1.trans t2
      have t0 := s0.trans t1
      have ep7 := t0 _ _ epb
      have q0 := t1 _ _ e0
      have q1 := t2 _ _ e1
      have q2 := t3 _ _ e2
      have q3 := t4 _ _ e3
      have q4 := t5 _ _ e4
      have q5 := t6 _ _ e5
      have q6 := s7 _ _ e6
      have od7 := t0 _ _ (gA _ _ hod)
      have dd : ∀ {b : Addr} {kvs : List (Key × V)}, H7 b = some (.dK kvs) → b ≠ d := fun {b kvs} e z => by
        rw [z, od7] at e
        cases e
      have nl0 : l0 ≠ d := fun z => ne_of_none (gA _ _ hod) hl0 z.symm
      have nl2 : l2 ≠ d := fun z => by
        have := (g.trans s6) _ _ (s5 _ _ (s4 _ _ (s3 _ _ (s2' _ _ (s1 _ _ (s0 _ _ (gA _ _ hod)))))))
        rw [← z, hl2] at this
        cases this
      have np : ∀ {b : Addr} {o : HO}, H7 b = some o → (∀ ks, o ≠ .dK ks) → b ≠ pb := fun {b o} e n z => by
        rw [z, ep7] at e
        exact n _ (Option.some.inj e).symm
      have keepD : ∀ {b : Addr} {kvs : List (Key × V)}, H7 b = some (.dK kvs) → b ≠ pb → upd H7 pb (.dK [(.inr "hashed", .ref l1), (.inr "asked", .ref l2)]) b = some (.dK kvs) := fun e n => by
        rw [upd_ne n]
        exact e
      have fresh : ∀ {b : Addr} {Hb : Hp} {o : HO}, Hb b = none → Hb pb = some o → b ≠ pb := fun h1 h2 z => by
        rw [z, h2] at h1
        cases h1
      refine ⟨_, rfl, pb, _, rfl, .inl ⟨_, .inr "asked", ep7, rfl, (by show 1 < sizeLine; decide), rfl⟩, ?_⟩
      rw [put_ask]
      refine tail _ _ ⟨l2, [.non, .ref l0, .ref p1, .ref p2, .ref p3, .ref p4, .ref p5, .ref p6], rfl, fun b o hb => ?_, upd_same, ?_, dps_dict ep7 (dps_same (off_same t0) _ _ dx1), nl2, ?_, rfl, fun x hx => ?_⟩
      · rw [upd_ne (ne_of_none hb hpb)]
        exact t0 _ _ (gA _ _ hb)
      · rw [upd_ne (np (t0 _ _ el1) fun ks z => by cases z)]
        exact t0 _ _ el1
      · rw [upd_ne (np e7 fun ks z => by cases z)]
        exact e7
      · have n1 : p1 ≠ pb := fresh hp1 (s0 _ _ epb)
        have n2 : p2 ≠ pb := fresh hp2 (s1 _ _ (s0 _ _ epb))
        have n3 : p3 ≠ pb := fresh hp3 (s2' _ _ (s1 _ _ (s0 _ _ epb)))
        have n4 : p4 ≠ pb := fresh hp4 (s3 _ _ (s2' _ _ (s1 _ _ (s0 _ _ epb))))
        have n5 : p5 ≠ pb := fresh hp5 (s4 _ _ (s3 _ _ (s2' _ _ (s1 _ _ (s0 _ _ epb)))))
        have n6 : p6 ≠ pb := fresh hp6 (g _ _ (s5 _ _ (s4 _ _ (s3 _ _ (s2' _ _ (s1 _ _ (s0 _ _ epb)))))))
        simp only [List.mem_cons, List.not_mem_nil, or_false] at hx
        rcases hx with rfl | rfl | rfl | rfl | rfl | rfl | rfl | rfl
        · exact .inl rfl
        · refine .inr (.inl ⟨l0, rfl, nl0, ?_⟩)
          rw [upd_ne (np q0 fun ks z => by cases z)]
          exact q0
        · exact .inr (.inr ⟨p1, _, rfl, dd q1, keepD q1 n1, by simp [abL]⟩)
        · exact .inr (.inr ⟨p2, _, rfl, dd q2, keepD q2 n2, by simp [abL]⟩)
        · exact .inr (.inr ⟨p3, _, rfl, dd q3, keepD q3 n3, by simp [abL]⟩)
        · exact .inr (.inr ⟨p4, _, rfl, dd q4, keepD q4 n4, by simp [abL]⟩)
        · exact .inr (.inr ⟨p5, _, rfl, dd q5, keepD q5 n5, by simp [abL]⟩)
        · exact .inr (.inr ⟨p6, _, rfl, dd q6, keepD q6 n6, by simp [abL, kvs5]⟩)
  obtain ⟨l2, xs2, rfl, gB, epb2, el1', dx1', nl2, el2, len2, it2⟩ := h
  -- bad['summed'] = [..]
  refine seq_cut (fun σ' H' => ∃ (l3 e0 : Addr) (ys : List V), σ' = [some (.ref d), some (.ref cl), some (.ref l), some (.ref a), some (.ref s2), some (.ref pb), none, none, none, none, none, none, none] ∧ Same H H' ∧ H' pb = some (.dK [(.inr "hashed", .ref l1), (.inr "asked", .ref l2), (.inr "summed", .ref l3)]) ∧ H' l1 = some (.lst xs1) ∧ DpAll K (del H' d) xs1 hbL ∧ H' l2 = some (.lst xs2) ∧ (∀ x ∈ xs2, ItemA H' d x) ∧
    l3 ≠ d ∧ H' l3 = some (.lst (.non :: .ref e0 :: ys)) ∧ e0 ≠ d ∧ H' e0 = some (.dK []) ∧ DpAll K (del H' d) ys sbL) (fun σ' H' h => ?_) (fun tail => ?_)
  rotate_left
  · intro e0 he0
    have s0 := same_new he0 (.dK [])
    have q0 : upd H' e0 (.dK []) e0 = some (.dK []) := upd_same
    generalize upd H' e0 (.dK []) = H0 at *
    show tDats sbL _ _ _
    refine lay_dats (K := K) (dd := d) sbL (by decide +kernel) ⟨_, s0 _ _ (gB _ _ hod)⟩ fun ys H1 g dv => ⟨small100 (by have := dps_len dv; show ys.length + 1 + 1 ≤ 1000; rw [this]; decide), fun l3 hl3 => ?_⟩
    have s1 := same_new hl3 (.lst (.non :: .ref e0 :: ys))
    have q1 : upd H1 l3 (.lst (.non :: .ref e0 :: ys)) l3 = some (.lst (.non :: .ref e0 :: ys)) := upd_same
    have dv1 := dps_same (off_new (o := .lst (.non :: .ref e0 :: ys)) hl3) _ _ dv
    have nl3 : l3 ≠ d := fun z => ne_of_none (g _ _ (s0 _ _ (gB _ _ hod))) hl3 z.symm
    generalize upd H1 l3 (.lst (.non :: .ref e0 :: ys)) = H2 at *
    have t1 := g.trans s1
    have t0 := s0.trans t1
    have ep := t0 _ _ epb2
    have od2 := t0 _ _ (gB _ _ hod)
    have ne0 : e0 ≠ pb := fun z => ne_of_none epb2 he0 z.symm
    have ned : e0 ≠ d := fun z => ne_of_none (gB _ _ hod) he0 z.symm
    have np : ∀ {b : Addr} {o : HO}, H2 b = some o → (∀ ks, o ≠ .dK ks) → b ≠ pb := fun {b o} e n z => by
      rw [z, ep] at e
      exact n _ (Option.some.inj e).symm
    refine ⟨_, rfl, pb, _, rfl, .inl ⟨_, .inr "summed", ep, rfl, (by show 2 < sizeLine; decide), rfl⟩, ?_⟩
    rw [put_sum]
    refine tail _ _ ⟨l3, e0, ys, rfl, fun b o hb => ?_, upd_same, ?_, dps_dict ep (dps_same (off_same t0) _ _ dx1'), ?_, fun x hx => itemA_put ((it2 x hx).same t0) ep, nl3, ?_, ned, ?_, dps_dict ep dv1⟩
    · rw [upd_ne (ne_of_none hb hpb)]
      exact t0 _ _ (gB _ _ hb)
    · rw [upd_ne (np (t0 _ _ el1') fun ks z => by cases z)]
      exact t0 _ _ el1'
    · rw [upd_ne (np (t0 _ _ el2) fun ks z => by cases z)]
      exact t0 _ _ el2
    · rw [upd_ne (np q1 fun ks z => by cases z)]
      exact q1
    · rw [upd_ne ne0]
      exact t1 _ _ q0
  have len1 : xs1.length = 10 := dps_len dx1
  clear epb epb2 el1 el1' dx1 dx1' el2 it2 gA gB
  obtain ⟨l3, e0, ys, rfl, gC, epb, el1, dx1, el2, it2, nl3, el3, ne0, ee0, dy3⟩ := h
  have nel : ∀ {b : Addr} {o : HO}, H' b = some o → (∀ ks, o ≠ .dK ks) → b ≠ pb := fun {b o} e n z => by
    rw [z, epb] at e
    exact n _ (Option.some.inj e).symm
  -- words, told = ..
  refine seq_cut (fun σ' H2 => ∃ (wl td : Addr), σ' = [some (.ref d), some (.ref cl), some (.ref l), some (.ref a), some (.ref s2), some (.ref pb), none, some (.ref wl), some (.ref td), none, none, none, none] ∧ Same H H2 ∧ td ≠ d ∧ wl ≠ d ∧ wl ≠ td ∧ pb ≠ td ∧ H td = none ∧ H2 wl = some (.lst [.str "hashed", .str "asked", .str "summed"]) ∧ H2 td = some (.dK [(.inr "hashed", .ref l), (.inr "asked", .ref a), (.inr "summed", .ref s2)]) ∧
    H2 pb = some (.dK [(.inr "hashed", .ref l1), (.inr "asked", .ref l2), (.inr "summed", .ref l3)]) ∧ l1 ≠ td ∧ l2 ≠ td ∧ l3 ≠ td ∧ H2 l1 = some (.lst xs1) ∧ H2 l2 = some (.lst xs2) ∧ H2 l3 = some (.lst (.non :: .ref e0 :: ys)) ∧
    (∀ x ∈ xs1, BadH K [d, td] H2 x) ∧ (∀ x ∈ xs2, BadA K [d, td] H2 x) ∧ (∀ x ∈ (.non :: .ref e0 :: ys), BadH K [d, td] H2 x) ∧
    ArgR K [d, td] H2 (.ref l) (.seq (hs.map PyData.str)) ∧ ArgD K [d, td] H2 (.ref a) (.dic (kvsOf as)) ∧ ArgR K [d, td] H2 (.ref s2) (.seq (ss.map PyData.str))) (fun σ' H2 h => ?_) (fun tail => ?_)
  rotate_left
  · refine ⟨(by show 3 ≤ sizeLine; decide), fun wl hwl => ?_⟩
    have s0 := same_new hwl (.lst [.str "hashed", .str "asked", .str "summed"])
    have q0 : upd H' wl (.lst [.str "hashed", .str "asked", .str "summed"]) wl = some (.lst [.str "hashed", .str "asked", .str "summed"]) := upd_same
    generalize upd H' wl (.lst [.str "hashed", .str "asked", .str "summed"]) = H0 at *
    refine cons_of ?_
    intro td htd
    refine ⟨_, rfl, ⟨_, rfl, ⟨_, rfl, upd_same, [(.inr "hashed", .ref l), (.inr "asked", .ref a), (.inr "summed", .ref s2)], rfl, (by show 3 ≤ 15; decide), ?_⟩⟩⟩
    rw [show ([((.inr "hashed" : Key), V.ref l), (.inr "asked", V.ref a), (.inr "summed", V.ref s2)] : List (Key × V)) = kvs3 (.ref l) (.ref a) (.ref s2) from rfl, merge3, upd_twice]
    unfold kvs3
    have s1 := same_new htd (.dK [(.inr "hashed", .ref l), (.inr "asked", .ref a), (.inr "summed", .ref s2)])
    have q1 : upd H0 td (.dK [(.inr "hashed", .ref l), (.inr "asked", .ref a), (.inr "summed", .ref s2)]) td = some (.dK [(.inr "hashed", .ref l), (.inr "asked", .ref a), (.inr "summed", .ref s2)]) := upd_same
    generalize upd H0 td (.dK [(.inr "hashed", .ref l), (.inr "asked", .ref a), (.inr "summed", .ref s2)]) = H1 at *
    refine ⟨(by show 2 ≤ sizeLine; decide), fun q hq => ?_⟩
    have s2' := same_new hq (.tup [.ref wl, .ref td])
    have q2 : upd H1 q (.tup [.ref wl, .ref td]) q = some (.tup [.ref wl, .ref td]) := upd_same
    generalize upd H1 q (.tup [.ref wl, .ref td]) = H3 at *
    refine ⟨q, _, rfl, SqT.of q2, rfl, _, _, rfl, _, _, rfl, rfl, ?_⟩
    have t := s0.trans (s1.trans s2')
    have out : ∀ {b : Addr} {o : HO}, H' b = some o → b ≠ td := fun e z => ne_of_none (s0 _ _ e) htd z
    have etd := s2' _ _ q1
    have Ht : H td = none := by
      cases z : H td with
      | none => rfl
      | some o => exact absurd rfl (out (gC _ _ z))
    refine tail _ _ ⟨wl, td, rfl, gC.trans t, fun z => out (gC _ _ hod) z.symm, fun z => ne_of_none (gC _ _ hod) hwl z.symm, ne_of_none q0 htd, out epb, Ht, s2' _ _ (s1 _ _ q0), etd, t _ _ epb, out el1, out el2, out el3, t _ _ el1, t _ _ el2, t _ _ el3, bad_plain etd (dps_same (off_same t) _ _ dx1) hb_bad, fun x hx => ?_, fun x hx => ?_, ?_, ?_, ?_⟩
    · rcases it2 x hx with rfl | ⟨b, rfl, h2, h3⟩ | ⟨b, kvs, rfl, h2, h3, h4⟩
      · exact ⟨_, argD_oth (t := "NoneType") (by decide +kernel) (by decide) fun H4 _ => .base .non, rfl⟩
      · exact ⟨_, argD_oth (t := "list") (by decide +kernel) (by decide) fun H4 g4 => .base (.lst (g4 _ _ (two_out h2 (out h3)) (t _ _ h3) (fun ps z => by cases z))), rfl⟩
      · exact ⟨_, argD_dic (two_out h2 (out h3)) (t _ _ h3) (kvsB_ok (ab_bad _ h4).1), (ab_bad _ h4).2⟩
    · rcases List.mem_cons.mp hx with rfl | hx
      · exact ⟨_, argR_oth (t := "NoneType") (by decide +kernel) (by decide +kernel) fun H4 _ => .base .non, rfl⟩
      rcases List.mem_cons.mp hx with rfl | hx
      · exact ⟨_, argR_oth (t := "dict") (by decide +kernel) (by decide +kernel) fun H4 g4 => .base (.dK (g4 _ _ (two_out ne0 (out ee0)) (t _ _ ee0) (fun ps z => by cases z))), rfl⟩
      · exact bad_plain etd (dps_same (off_same t) _ _ dy3) sb_bad x hx
    · exact argR_seq (sql_off ((gC.trans t).seq c2) nl etd) (fun H4 => dp_strs hs) (by have := drawn_len.1 hs mh; rw [List.length_map]; omega) (short_ok (drawn_short.1 hs mh))
    · exact argD_dic (two_out na (out (gC _ _ c3))) (t _ _ (gC _ _ c3)) (kvsB_ok (drawn_short.2.2 as ma))
    · exact argR_seq (sql_off ((gC.trans t).seq c4) ns etd) (fun H4 => dp_strs ss) (by have := drawn_len.2.2 ss ms; rw [List.length_map]; omega) (short_ok (drawn_short.2.1 ss ms))
  clear epb el1 dx1 el2 it2 el3 ee0 dy3 nel gC
  obtain ⟨wl, td, rfl, gD, ntd, nwl, nwt, npt, Htd, ewl, etd, epb, n1t, n2t, n3t, el1, el2, el3, B1, B2, B3, G1, G2, G3⟩ := h
  -- wrong = [..]
  refine seq_cut (fun σ' H3 => ∃ (wr : Addr) (b1 b2 b3 : Bool), σ' = [some (.ref d), some (.ref cl), some (.ref l), some (.ref a), some (.ref s2), some (.ref pb), none, some (.ref wl), some (.ref td), some (.ref wr), none, none, none] ∧ Drw K H3 d ∧ But d H2 H3 ∧ wr ≠ d ∧ wr ≠ td ∧ H3 wr = some (.lst ((fl wordsL [b1, b2, b3]).map V.str))) (fun σ' H3 h => ?_) (fun tail => ?_)
  rotate_left
  · refine ⟨_, rfl, wl, rfl, ⟨_, SqL.of ewl⟩, fun D hDn => ?_⟩
    have hD2 := hD.same gD
    have nDd : D ≠ d := drw_ne hD2 hDn
    have nDt : D ≠ td := fun z => ne_of_none etd hDn z.symm
    have s0 := same_new hDn (.lst [])
    refine lc_it (walk_list (xs := wordsL.map V.str)) (fun i H' => Drw K H' d ∧ But d H2 H' ∧ ∃ bs : List Bool, bs.length = i ∧ H' D = some (.lst ((fl (wordsL.take i) bs).map V.str))) ⟨hD2.same s0, Same.but s0, [], rfl, upd_same⟩ (fun i H' _ z => SqL.of (z.2.1 _ _ nwl ewl)) ?_ ?_
    · rintro i x H' H'' hi ⟨hD', b', bs, lb, eD⟩ ⟨eH, hx⟩
      subst eH
      rw [List.getElem?_map] at hx
      obtain ⟨w, hw, rfl⟩ := Option.map_eq_some_iff.mp hx
      have hi3 : i < 3 := hi
      have lw : (wordsL.take i).length = bs.length := by
        rw [List.length_take, lb]
        show min i 3 = i
        omega
      refine ⟨rfl, _, rfl, d, 3, rfl, hD', by decide, fun r H4 r0 r3 hD4 b4 => ⟨rfl, _, rfl, ?_⟩⟩
      have eD4 := b4 _ _ nDd eD
      cases c : decide (V.int r = V.int 0) with
      | true =>
        refine iteT ⟨_, rfl, _, eD4, ?_, hD4.but eD4 (Ne.symm nDd) (fun b o n h => by rw [upd_ne n]; exact h), fun b o n h => ?_, bs ++ [true], ?_, ?_⟩
        · rw [List.length_map]
          have := fl_len (wordsL.take i) bs
          rw [lw, lb] at this
          exact small1000 (by omega)
        · rw [upd_ne (ne_of_none h hDn)]
          exact b4 _ _ n (b' _ _ n h)
        · rw [List.length_append, lb]
          rfl
        · rw [upd_same, take_more' hw, fl_app w true lw, List.map_append]
          rfl
      | false =>
        refine iteF ⟨hD4, b'.trans b4, bs ++ [false], ?_, ?_⟩
        · rw [List.length_append, lb]
          rfl
        · rw [take_more' hw, fl_app w false lw]
          show H4 D = some (.lst (((fl (wordsL.take i) bs) ++ []).map V.str))
          rw [List.append_nil]
          exact eD4
    · rintro H' ⟨hD', b', bs, lb, eD⟩
      match bs, lb with
      | [b1, b2, b3], _ => exact tail _ _ ⟨D, b1, b2, b3, rfl, hD', b', nDd, nDt, eD⟩
  obtain ⟨wr, b1, b2, b3, rfl, hD3, bb3, nwd, nwt', ewr⟩ := h
  have D3 : Off [d, td] H2 H3 := .but (List.mem_cons_self) bb3
  have pbn : pb ∉ ([d, td] : List Addr) := two_out npd npt
  have l1n : l1 ∉ ([d, td] : List Addr) := two_out nl1 n1t
  have l2n : l2 ∉ ([d, td] : List Addr) := two_out nl2 n2t
  have l3n : l3 ∉ ([d, td] : List Addr) := two_out nl3 n3t
  have wrn : wr ∉ ([d, td] : List Addr) := two_out nwd nwt'
  -- told[word] = ..
  refine seq_cut (fun σ' H4 => (∃ z10 : Option V, σ' = [some (.ref d), some (.ref cl), some (.ref l), some (.ref a), some (.ref s2), some (.ref pb), none, some (.ref wl), some (.ref td), some (.ref wr), z10, none, none]) ∧ Drw K H4 d ∧ Off [d, td] H3 H4 ∧ LamX.Tabs [(lp, qR)] H4 ∧ ∃ v1 v2 v3, H4 td = some (.dK (kvs3 v1 v2 v3)) ∧ ToldH K [d, td] H4 (wH ∈ fl wordsL [b1, b2, b3]) v1 hs ∧ ToldA K [d, td] H4 (wA ∈ fl wordsL [b1, b2, b3]) v2 as ∧ ToldH K [d, td] H4 (wS ∈ fl wordsL [b1, b2, b3]) v3 ss) (fun σ' H4 h => ?_) (fun tail => ?_)
  rotate_left
  · refine ⟨_, rfl, wr, rfl, ⟨_, SqL.of ewr⟩, ?_⟩
    refine for_list (K := K) (a := wr) (xs := (fl wordsL [b1, b2, b3]).map V.str) (fun j σ' H4 => (∃ z10 : Option V, σ' = [some (.ref d), some (.ref cl), some (.ref l), some (.ref a), some (.ref s2), some (.ref pb), none, some (.ref wl), some (.ref td), some (.ref wr), z10, none, none]) ∧ Drw K H4 d ∧ Off [d, td] H3 H4 ∧ LamX.Tabs [(lp, qR)] H4 ∧ ∃ v1 v2 v3, H4 td = some (.dK (kvs3 v1 v2 v3)) ∧ ToldH K [d, td] H4 (wH ∈ (fl wordsL [b1, b2, b3]).take j) v1 hs ∧ ToldA K [d, td] H4 (wA ∈ (fl wordsL [b1, b2, b3]).take j) v2 as ∧ ToldH K [d, td] H4 (wS ∈ (fl wordsL [b1, b2, b3]).take j) v3 ss)
      ⟨⟨_, rfl⟩, hD3, .refl _ _, tabs_but (tabs.ext gD) (hD.same gD) bb3, .ref l, .ref a, .ref s2, bb3 _ _ ntd etd, ⟨fun z => by simp at z, fun _ => G1.off D3⟩, ⟨fun z => by simp at z, fun _ => G2.off D3⟩, ⟨fun z => by simp at z, fun _ => G3.off D3⟩⟩ (fun j σ' H4 _ z => SqL.of (z.2.2.1 _ _ wrn ewr fun ps z => by cases z)) ?_ ?_
    · rintro j x σ' H4 hx ⟨⟨z10, rfl⟩, hD4, o4, tb4, v1, v2, v3, e4, A1, A2, A3⟩
      rw [List.getElem?_map] at hx
      obtain ⟨w, hw, rfl⟩ := Option.map_eq_some_iff.mp hx
      have mw := fl_mem (List.mem_of_getElem? hw)
      have tk := take_more' hw
      have o24 := D3.trans o4
      have eb := o24 _ _ pbn epb fun ps z => by cases z
      have pick : ∀ (key : Key) (li : Addr) (xsi : List V) (Pr : Hp → V → Prop) (R : VK), L2.kV key = V.str w → valV (kvs3 (.ref l1) (.ref l2) (.ref l3)) key = some (.ref li) → li ∉ ([d, td] : List Addr) → H2 li = some (.lst xsi) → 0 < xsi.length → (∀ x ∈ xsi, Pr H2 x) → (∀ Ha Hb x, Off [d, td] Ha Hb → Pr Ha x → Pr Hb x) →
          (∀ v H5, Drw K H5 d → But d H4 H5 → Pr H5 v → R v H5) → tCall (sp_pick K) [] E0 (tCons (tVar 0) (tCons (tDGet (tVar 5) (tVar 10)) tNil)) ([some (.ref d), some (.ref cl), some (.ref l), some (.ref a), some (.ref s2), some (.ref pb), none, some (.ref wl), some (.ref td), some (.ref wr), z10, none, none].set 10 (some (V.str w))) H4 R := fun key li xsi Pr R ek ev nli eli pos all_ mono kk => by
        refine ⟨_, rfl, _, rfl, _, rfl, pb, .ref li, rfl, .inl ⟨_, key, Rd.of eb, ek.symm, ev.symm⟩, ?_⟩
        refine ⟨d, li, xsi, rfl, hD4, .inl ⟨SqL.of (o24 _ _ nli eli fun ps z => by cases z), fun z => nli (by rw [z]; exact List.mem_cons_self)⟩, pos, fun q x H5 hq hD5 b5 => ?_⟩
        exact kk x H5 hD5 b5 (mono _ _ _ (o24.trans (.but List.mem_cons_self b5)) (all_ x (List.mem_of_getElem? hq)))
      have cw : w = wH ∨ w = wA ∨ w = wS := by
        have : w ∈ [wH, wA, wS] := mw
        simpa using this
      have len3 : (kvs3 v1 v2 v3).length < sizeLine := by show 3 < sizeLine; decide
      have here : ∀ {k : List Str} {w : Str}, w ∈ k ++ [w] := fun {k w} => List.mem_append_right _ List.mem_cons_self
      rcases cw with rfl | rfl | rfl
      · refine pick kH l1 xs1 (fun Hx x => BadH K [d, td] Hx x) _ rfl (val3 _ _ _).1 l1n el1 (by rw [len1]; decide) B1 (fun _ _ _ o z => z.off o) fun v H5 hD5 b5 bv => ?_
        have e5 := b5 _ _ ntd e4
        have o5 : Off [d, td] H4 (upd H5 td (.dK (kvs3 v v2 v3))) := (Off.but List.mem_cons_self b5).trans (.put (List.mem_cons_of_mem _ List.mem_cons_self))
        have op : Off [d, td] H5 (upd H5 td (.dK (kvs3 v v2 v3))) := .put (List.mem_cons_of_mem _ List.mem_cons_self)
        refine ⟨_, rfl, _, rfl, td, _, rfl, .inl ⟨_, kH, e5, rfl, len3, rfl⟩, ?_⟩
        rw [(put3 v1 v2 v3 v).1]
        refine ⟨⟨_, rfl⟩, hD5.dict e5, o4.trans o5, tabs_dict (tabs_but tb4 hD4 b5) e5, v, v2, v3, upd_same, ?_, ?_, ?_⟩
        · rw [tk]
          exact ⟨fun _ => bv.off op, fun z => absurd here z⟩
        · rw [tk]
          exact (A2.off o5).iff (in_app wHA.symm)
        · rw [tk]
          exact (A3.off o5).iff (in_app wHS.symm)
      · refine pick kA l2 xs2 (fun Hx x => BadA K [d, td] Hx x) _ rfl (val3 _ _ _).2.1 l2n el2 (by rw [len2]; decide) B2 (fun _ _ _ o z => z.off o) fun v H5 hD5 b5 bv => ?_
        have e5 := b5 _ _ ntd e4
        have o5 : Off [d, td] H4 (upd H5 td (.dK (kvs3 v1 v v3))) := (Off.but List.mem_cons_self b5).trans (.put (List.mem_cons_of_mem _ List.mem_cons_self))
        have op : Off [d, td] H5 (upd H5 td (.dK (kvs3 v1 v v3))) := .put (List.mem_cons_of_mem _ List.mem_cons_self)
        refine ⟨_, rfl, _, rfl, td, _, rfl, .inl ⟨_, kA, e5, rfl, len3, rfl⟩, ?_⟩
        rw [(put3 v1 v2 v3 v).2.1]
        refine ⟨⟨_, rfl⟩, hD5.dict e5, o4.trans o5, tabs_dict (tabs_but tb4 hD4 b5) e5, v1, v, v3, upd_same, ?_, ?_, ?_⟩
        · rw [tk]
          exact (A1.off o5).iff (in_app wHA)
        · rw [tk]
          exact ⟨fun _ => bv.off op, fun z => absurd here z⟩
        · rw [tk]
          exact (A3.off o5).iff (in_app wAS.symm)
      · refine pick kS l3 _ (fun Hx x => BadH K [d, td] Hx x) _ rfl (val3 _ _ _).2.2 l3n el3 (by simp) B3 (fun _ _ _ o z => z.off o) fun v H5 hD5 b5 bv => ?_
        have e5 := b5 _ _ ntd e4
        have o5 : Off [d, td] H4 (upd H5 td (.dK (kvs3 v1 v2 v))) := (Off.but List.mem_cons_self b5).trans (.put (List.mem_cons_of_mem _ List.mem_cons_self))
        have op : Off [d, td] H5 (upd H5 td (.dK (kvs3 v1 v2 v))) := .put (List.mem_cons_of_mem _ List.mem_cons_self)
        refine ⟨_, rfl, _, rfl, td, _, rfl, .inl ⟨_, kS, e5, rfl, len3, rfl⟩, ?_⟩
        rw [(put3 v1 v2 v3 v).2.2]
        refine ⟨⟨_, rfl⟩, hD5.dict e5, o4.trans o5, tabs_dict (tabs_but tb4 hD4 b5) e5, v1, v2, v, upd_same, ?_, ?_, ?_⟩
        · rw [tk]
          exact (A1.off o5).iff (in_app wHS)
        · rw [tk]
          exact (A2.off o5).iff (in_app wAS)
        · rw [tk]
          exact ⟨fun _ => bv.off op, fun z => absurd here z⟩
    · rintro σ' H4 ⟨z, hD4, o4, tb4, v1, v2, v3, e4, A1, A2, A3⟩
      rw [List.length_map, List.take_of_length_le (Nat.le_refl _)] at A1 A2 A3
      exact tail _ _ ⟨z, hD4, o4, tb4, v1, v2, v3, e4, A1, A2, A3⟩
  obtain ⟨⟨z10, rfl⟩, hD4, o4, tb4, v1, v2, v3, e4, A1, A2, A3⟩ := h
  -- due = ..
  refine seq_cut (fun σ' H5 => ∃ u : V, σ' = [some (.ref d), some (.ref cl), some (.ref l), some (.ref a), some (.ref s2), some (.ref pb), none, some (.ref wl), some (.ref td), some (.ref wr), z10, some u, none] ∧ Same H4 H5 ∧ DueAt [d, td] H5 u (fl wordsL [b1, b2, b3]).head?) (fun σ' H5 h => ?_) (fun tail => ?_)
  rotate_left
  · have ewr4 := o4 _ _ wrn ewr fun ps z => by cases z
    refine ⟨_, rfl, (by show 0 ≤ sizeLine; decide), fun q hq => ⟨.list ((fl wordsL [b1, b2, b3]).map PyData.str), .list [], .lst (SqL.of (same_new hq _ _ _ ewr4)) (dp_strs _), .lst (SqL.of upd_same) .nil, shaped_bits b1 b2 b3, (by decide +kernel), _, rfl, ?_⟩⟩
    have s0 := same_new hq (.lst [])
    have ewr5 := s0 _ _ ewr4
    generalize upd H4 q (.lst []) = H5 at *
    cases eW : fl wordsL [b1, b2, b3] with
    | nil =>
      rw [eW] at tail
      exact iteF (tail _ _ ⟨_, rfl, s0, rfl⟩)
    | cons w r =>
      rw [eW] at tail ewr5
      refine iteT ⟨_, rfl, wr, _, _, _, rfl, rfl, SqL.of ewr5, atI_nat (j := 0) rfl, (by show 2 ≤ sizeLine; decide), fun q2 hq2 => ?_⟩
      have s1 := same_new hq2 (.tup [.str "columns", .str w])
      exact tail _ _ ⟨_, rfl, s0.trans s1, q2, rfl, two_out (drw_ne (hD4.same s0) hq2) (fun z => ne_of_none (s0 _ _ e4) hq2 z.symm), upd_same⟩
  obtain ⟨u, rfl, s5, due⟩ := h
  have tabs5 := tb4.ext s5
  have td5 := s5 _ _ e4
  have A1' := A1.off (.same s5)
  have A2' := A2.off (.same s5)
  have A3' := A3.off (.same s5)
  have hD5 := hD4.same s5
  obtain ⟨f1, f2, f3⟩ := fl3 b1 b2 b3
  -- the parts as they are told
  obtain ⟨rh, ar, h1⟩ : ∃ r, ArgR K [d, td] H5 v1 r ∧ if b1 = true then namesR 2 r = false else r = .seq (hs.map PyData.str) := by
    cases b1 with
    | true =>
      obtain ⟨r, h1, h2⟩ := A1'.1 (f1.mpr rfl)
      exact ⟨r, h1, h2⟩
    | false => exact ⟨_, A1'.2 (fun z => Bool.noConfusion (f1.mp z)), rfl⟩
  obtain ⟨ra, aa, h2⟩ : ∃ r, ArgD K [d, td] H5 v2 r ∧ if b2 = true then askedR r = false else r = .dic (kvsOf as) := by
    cases b2 with
    | true =>
      obtain ⟨r, h1, h2⟩ := A2'.1 (f2.mpr rfl)
      exact ⟨r, h1, h2⟩
    | false => exact ⟨_, A2'.2 (fun z => Bool.noConfusion (f2.mp z)), rfl⟩
  obtain ⟨rs, a3, h3⟩ : ∃ r, ArgR K [d, td] H5 v3 r ∧ if b3 = true then namesR 2 r = false else r = .seq (ss.map PyData.str) := by
    cases b3 with
    | true =>
      obtain ⟨r, h1, h2⟩ := A3'.1 (f3.mpr rfl)
      exact ⟨r, h1, h2⟩
    | false => exact ⟨_, A3'.2 (fun z => Bool.noConfusion (f3.mp z)), rfl⟩
  have wf := wrong_first mh ma ms h1 h2 h3
  refine seq_cut (fun σ' H7 => σ' = [some (.ref d), some (.ref cl), some (.ref l), some (.ref a), some (.ref s2), some (.ref pb), none, some (.ref wl), some (.ref td), some (.ref wr), z10, some u, none] ∧ Drw K H7 d ∧ LamX.Tabs [(lp, qR)] H7) (fun σ' H7 h => ?_) (fun tail => ?_)
  rotate_left
  · refine ⟨tabs5, fun H6 eN tabs6 => ?_⟩
    have td6 := eN _ _ td5 (fun ps z => by cases z)
    have o56 : Off [d, td] H5 H6 := .ext eN
    have hD6 := drw_ext hD5 eN
    refine ⟨_, rfl, td, v1, rfl, .inl ⟨_, kH, Rd.of td6, rfl, (val3 v1 v2 v3).1.symm⟩, ?_⟩
    refine ⟨_, rfl, td, v2, rfl, .inl ⟨_, kA, Rd.of td6, rfl, (val3 v1 v2 v3).2.1.symm⟩, ?_⟩
    refine ⟨_, rfl, td, v3, rfl, .inl ⟨_, kS, Rd.of td6, rfl, (val3 v1 v2 v3).2.2.symm⟩, ?_⟩
    intro x dx hx hdx ndx
    have s7 := (same_new hdx (.own x)).trans (same_new (show upd H6 dx (.own x) x = none by rw [upd_ne (Ne.symm ndx)]; exact hx) (.ins T.c_Columns dx []))
    have x7 : upd (upd H6 dx (.own x)) x (.ins T.c_Columns dx []) x = some (.ins T.c_Columns dx []) := upd_same
    generalize upd (upd H6 dx (.own x)) x (.ins T.c_Columns dx []) = H7 at *
    have o57 := o56.trans (.same s7)
    have hD7 := hD6.same s7
    have tabs7 := tabs6.ext s7
    obtain ⟨r1, t1⟩ := ar.2 _ o57
    obtain ⟨r3, t3⟩ := a3.2 _ o57
    refine ⟨x, dx, v1, v2, v3, rh, ra, rs, rfl, x7, r1, aa _ o57, r3, ar.1, a3.1, t1, fun ew H8 b8 _ _ => ?_, fun bad ew dx' H8 g8 ex => ?_⟩
    · rw [wf] at ew
      have od : Off [d, td] H5 H8 := o56.trans (.ins (C := T.c_Columns) (dx := dx) (fs := []) s7 hx b8)
      refine ⟨rfl, _, rfl, .str "none", dueD (fl wordsL [b1, b2, b3]).head?, .str _, due.dp od, (by decide +kernel), due_shape b1 b2 b3, _, rfl, ?_⟩
      rw [ew]
      exact iteF (next_of (tail _ _ ⟨rfl, hD7.ins x7 b8, tabs_ins tabs7 x7 b8⟩))
    · rw [wf] at ew
      refine .inl ⟨rfl, dx', .str bad, rfl, ex, fun q hq => ?_⟩
      have s9 := same_new hq (.tup [.str "columns", .str bad])
      have od : Off [d, td] H5 (upd H8 q (.tup [.str "columns", .str bad])) := o57.trans ((Off.same g8).trans (.same s9))
      have sh := due_shape b1 b2 b3
      rw [ew] at sh
      refine ⟨_, rfl, dueD (some bad), dueD (fl wordsL [b1, b2, b3]).head?, .tup (SqT.of upd_same) (.cons (.str _) (.cons (.str _) .nil)), due.dp od, sh, due_shape b1 b2 b3, _, rfl, ?_⟩
      rw [ew, SeqAt.eqv_refl _ (SeqAt.canLay_of_shaped sh)]
      exact iteF (next_of (tail _ _ ⟨rfl, (hD7.same g8).same s9, (tabs7.ext g8).ext s9⟩))
  obtain ⟨rfl, hD7, tabs7⟩ := h
  -- twice = ..
  refine seq_cut (fun σ' H8 => ∃ v : V, σ' = [some (.ref d), some (.ref cl), some (.ref l), some (.ref a), some (.ref s2), some (.ref pb), none, some (.ref wl), some (.ref td), some (.ref wr), z10, some u, some v] ∧ Drw K H8 d ∧ LamX.Tabs [(lp, qR)] H8 ∧ TriAt d H8 v) (fun σ' H8 h => ?_) (fun tail => ?_)
  rotate_left
  · obtain ⟨od7, hod7⟩ := hD7.at
    refine ⟨_, rfl, cons_of (cons_of ?_)⟩
    refine lay_tri (d := d) (t := (["v"], [("v", false)], [])) (by simp [triL]) (fun h => disp_as [("v", false)] (by decide +kernel) (by decide) h) ⟨_, hod7⟩ fun w1 Ha s1 w1t => ?_
    refine cons_of (lay_tri (d := d) (t := (["v"], [], ["v"])) (by simp [triL]) (fun h => h) ⟨_, s1 _ _ hod7⟩ fun w2 Hb s2' w2t => ?_)
    refine cons_of (lay_tri (d := d) (t := ([], [("x", true)], ["x"])) (by simp [triL]) (fun h => disp_as [("x", true)] (by decide +kernel) (by decide) h) ⟨_, s2' _ _ (s1 _ _ hod7)⟩ fun w3 Hc s3 w3t => ?_)
    refine ⟨(by show 3 ≤ sizeLine; decide), fun p fp => ?_⟩
    have s4 := same_new fp (.lst [w1, w2, w3])
    have sA := s1.trans (s2'.trans (s3.trans s4))
    have hDp := hD7.same sA
    refine ⟨d, p, [w1, w2, w3], rfl, hDp, .inl ⟨SqL.of upd_same, drw_ne (hD7.same (s1.trans (s2'.trans s3))) fp⟩, (by show 0 < 3; decide), fun j v H8 hv hD8 b8 => ?_⟩
    refine tail _ _ ⟨v, rfl, hD8, tabs_but (tabs7.ext sA) hDp b8, ?_⟩
    match j, hv with
    | 0, hv =>
      obtain rfl := Option.some.inj hv
      exact (w1t.but (Same.but (s2'.trans (s3.trans s4)))).but b8
    | 1, hv =>
      obtain rfl := Option.some.inj hv
      exact (w2t.but (Same.but (s3.trans s4))).but b8
    | 2, hv =>
      obtain rfl := Option.some.inj hv
      exact (w3t.but (Same.but s4)).but b8
    | j + 3, hv => simp at hv
  obtain ⟨v, rfl, hD8, tabs8, q, m1, mp, m2, t, rfl, ht, nq, nm1, nmp, nm2, eq, em1, emp, em2⟩ := h
  obtain ⟨tb1, tb2, tl1, tl2, tsh1, tsh2⟩ := tri_bad t ht
  refine ⟨tabs8, fun H9 eN tabs9 => ?_⟩
  have eq9 := eN _ _ eq (fun ps z => by cases z)
  have em19 := eN _ _ em1 (fun ps z => by cases z)
  have emp9 := eN _ _ emp (fun ps z => by cases z)
  have em29 := eN _ _ em2 (fun ps z => by cases z)
  refine ⟨_, rfl, q, _, _, _, rfl, rfl, SqT.of eq9, atI_nat (j := 0) rfl, ?_⟩
  refine ⟨_, rfl, q, _, _, _, rfl, rfl, SqT.of eq9, atI_nat (j := 1) rfl, ?_⟩
  refine ⟨_, rfl, q, _, _, _, rfl, rfl, SqT.of eq9, atI_nat (j := 2) rfl, ?_⟩
  intro x dx hx hdx ndx
  have s7 := (same_new hdx (.own x)).trans (same_new (show upd H9 dx (.own x) x = none by rw [upd_ne (Ne.symm ndx)]; exact hx) (.ins T.c_Columns dx []))
  have x7 : upd (upd H9 dx (.own x)) x (.ins T.c_Columns dx []) x = some (.ins T.c_Columns dx []) := upd_same
  generalize upd (upd H9 dx (.own x)) x (.ins T.c_Columns dx []) = Hx at *
  refine ⟨x, dx, .ref m1, .ref mp, .ref m2, .seq (t.1.map PyData.str), .dic (kvsOf t.2.1), .seq (t.2.2.map PyData.str), rfl, x7, ⟨m1, _, rfl, .inl (SqL.of (s7 _ _ em19)), dp_strs _, by rw [List.length_map]; omega⟩, ⟨mp, rfl, s7 _ _ emp9, kvsB_ok tb2⟩, ⟨m2, _, rfl, .inl (SqL.of (s7 _ _ em29)), dp_strs _, by rw [List.length_map]; omega⟩, short_ok tsh1, short_ok tsh2,
    fun ds e => by
      cases e
      exact ⟨m1, _, rfl, .inl (SqL.of (s7 _ _ em19)), dp_strs _⟩, fun ew => ?_, fun bad ew dx' H' g8 ex => ?_⟩
  · rw [tb1] at ew
    cases ew
  · rw [tb1] at ew
    cases ew
    refine .inl ⟨rfl, dx', _, rfl, ex, fun q3 hq3 => ⟨(by show 2 ≤ sizeLine; decide), fun q4 hq4 => ?_⟩⟩
    have s9 := same_new hq4 (.tup [.str "columns", .str "names"])
    refine ⟨.tuple [.str "columns", .str "names"], .tuple [.str "columns", .str "names"], .tup (SqT.of (s9 _ _ upd_same)) (.cons (.str _) (.cons (.str _) .nil)), .tup (SqT.of upd_same) (.cons (.str _) (.cons (.str _) .nil)), (by decide +kernel), (by decide +kernel), ?_⟩
    rw [SeqAt.eqv_refl _ (by decide +kernel)]
    exact k _

end
end My
set_option Elab.async false
set_option linter.all false
set_option maxRecDepth 100000
set_option maxHeartbeats 400000
namespace My
open PySem L2 PySem.Spec PyProof.Rows
section
variable {P : Program} {w : World} {K : PySem.W.Frag} {mg : Str → Option Value} {base : Heap}
/-! ### what stands while the law goes on -/
theorem hu65' {A : Around} {k : Nat} (hr : Room k A) : A.units + 65 < cLine := by
  have := hr.un
  omega
def qL : Str := "law.<locals>." ++ "<lambda>"
theorem off_d {K : PySem.W.Frag} {H H' : Hp} {d b : Addr} {o : HO} (hD : Drw K H d) (g : Off [d] H H') (n1 : ∀ ys, o ≠ .lst ys) (n2 : ∀ ps, o ≠ .tbl ps) (h : H b = some o) : H' b = some o := by
  obtain ⟨ys, e⟩ := hD.at
  exact g b o (fun m => ne_of h e (n1 ys) (List.mem_singleton.mp m)) h n2
theorem off_l {H H' : Hp} {d b : Addr} {xs : List V} (g : Off [d] H H') (n : b ≠ d) (h : H b = some (.lst xs)) : H' b = some (.lst xs) := g b _ (fun m => n (List.mem_singleton.mp m)) h (fun ps z => by cases z)
theorem off_sqt {K : PySem.W.Frag} {H H' : Hp} {d a : Addr} {xs : List V} (hD : Drw K H d) (g : Off [d] H H') (h : SqT K H a xs) : SqT K H' a xs := by
  rcases h with (h | ⟨o, h⟩) | h
  · exact .inl (.inl (off_d hD g (fun _ z => by cases z) (fun _ z => by cases z) h))
  · exact .inl (.inr ⟨o, off_d hD g (fun _ z => by cases z) (fun _ z => by cases z) h⟩)
  · exact .inr h
theorem off_sql {K : PySem.W.Frag} {H H' : Hp} {d a : Addr} {xs : List V} (g : Off [d] H H') (n : a ≠ d) (h : SqL K H a xs) : SqL K H' a xs := by
  rcases h with (h | ⟨o, h⟩) | h
  · exact .inl (.inl (off_l g n h))
  · exact .inl (.inr ⟨o, g a _ (fun m => n (List.mem_singleton.mp m)) h (fun ps z => by cases z)⟩)
  · exact .inr h
theorem off_cols {K : PySem.W.Frag} {H H' : Hp} {C d p : Addr} {hs : List Str} {as : List (Str × Bool)} {ss : List Str} (hD : Drw K H d) (g : Off [d] H H') (h : ColsAt K C H p hs as ss) : ColsAt K C H' p hs as ss := by
  obtain ⟨dx, t, D, u, h1, ⟨o, nd, h2⟩, h3, h4⟩ := h
  exact ⟨dx, t, D, u, off_d hD g (fun _ z => by cases z) (fun _ z => by cases z) h1, ⟨o, nd, off_d hD g (fun _ z => by cases z) (fun _ z => by cases z) h2⟩, off_d hD g (fun _ z => by cases z) (fun _ z => by cases z) h3, off_sqt hD g h4⟩
theorem off_tab {K : PySem.W.Frag} {H H' : Hp} {CT d p c : Addr} {xs : List V} (hD : Drw K H d) (g : Off [d] H H') (h : TabAt K CT H p c xs) : TabAt K CT H' p c xs := by
  obtain ⟨dx, t, h1, h2⟩ := h
  exact ⟨dx, t, off_d hD g (fun _ z => by cases z) (fun _ z => by cases z) h1, off_sqt hD g h2⟩
theorem off_clat {K : PySem.W.Frag} {H H' : Hp} {d cl : Addr} {hs : List Str} {as : List (Str × Bool)} {ss : List Str} (hD : Drw K H d) (g : Off [d] H H') (h : ClAt K d H cl hs as ss) : ClAt K d H' cl hs as ss := by
  obtain ⟨l, a, s, e, n1, n2, n3, n4, h1, h2, h3⟩ := h
  exact ⟨l, a, s, off_d hD g (fun _ z => by cases z) (fun _ z => by cases z) e, n1, n2, n3, n4, off_sql g n2 h1, off_d hD g (fun _ z => by cases z) (fun _ z => by cases z) h2, off_sql g n4 h3⟩
/-- data off the draw stay so -/
theorem dps_offd {K : PySem.W.Frag} {H H' : Hp} {d : Addr} (g : Off [d] H H') {vs : List V} {ds : List PyData} (h : DpAll K (del H d) vs ds) : DpAll K (del H' d) vs ds := by
  have st : ∀ {a : Addr} {u : HO}, (∀ ps, u ≠ .tbl ps) → del H d a = some u → del H' d a = some u := fun {a u} n z => by
    have na : a ≠ d := fun q => by
      rw [q, del_same] at z
      cases z
    rw [del_ne na] at z ⊢
    exact g a u (fun m => na (List.mem_singleton.mp m)) z n
  refine dps_keep (fun a xs h => ?_) (fun a xs h => ?_) ds vs h
  · rcases h with (h | ⟨q, h⟩) | h
    · exact .inl (.inl (st (fun ks z => by cases z) h))
    · exact .inl (.inr ⟨q, st (fun ks z => by cases z) h⟩)
    · exact .inr h
  · rcases h with (h | ⟨q, h⟩) | h
    · exact .inl (.inl (st (fun ks z => by cases z) h))
    · exact .inl (.inr ⟨q, st (fun ks z => by cases z) h⟩)
    · exact .inr h
/-- all that the law has made -/
structure Wd (K : PySem.W.Frag) (C CT : Addr) (T2 : List (Addr × Str)) (d cl p c t : Addr) (hs : List Str) (as : List (Str × Bool)) (ss : List Str) (xs zs : List V) (rs : List Row4) (H : Hp) : Prop where
  drw : Drw K H d
  cols : ClAt K d H cl hs as ss
  np : p ≠ d
  ep : H p = some (.lst xs)
  dps : DpAll K H xs (rs.map Row4.d)
  made : ColsAt K C H c hs (sortA as) ss
  tab : TabAt K CT H t c zs
  dpt : DpAll K H zs (rs.map Row4.d)
  tabs : LamX.Tabs T2 H
theorem Wd.off {K : PySem.W.Frag} {C CT : Addr} {T2 : List (Addr × Str)} {d cl p c t : Addr} {hs : List Str} {as : List (Str × Bool)} {ss : List Str} {xs zs : List V} {rs : List Row4} {H H' : Hp} (h : Wd K C CT T2 d cl p c t hs as ss xs zs rs H) (nol : noLs (rs.map Row4.d) = true) (g : Off [d] H H') (hD : Drw K H' d) (tb : LamX.Tabs T2 H') : Wd K C CT T2 d cl p c t hs as ss xs zs rs H' :=
  ⟨hD, off_clat h.drw g h.cols, h.np, off_l g h.np h.ep, dps_tups (fun _ _ z => off_sqt h.drw g z) _ _ nol h.dps, off_cols h.drw g h.made, off_tab h.drw g h.tab, dps_tups (fun _ _ z => off_sqt h.drw g z) _ _ nol h.dpt, tb⟩
theorem Wd.same {K : PySem.W.Frag} {C CT : Addr} {T2 : List (Addr × Str)} {d cl p c t : Addr} {hs : List Str} {as : List (Str × Bool)} {ss : List Str} {xs zs : List V} {rs : List Row4} {H H' : Hp} (h : Wd K C CT T2 d cl p c t hs as ss xs zs rs H) (g : Same H H') : Wd K C CT T2 d cl p c t hs as ss xs zs rs H' :=
  ⟨h.drw.same g, h.cols.but (Same.but g), h.np, g _ _ h.ep, dps_same g _ _ h.dps, ColsAt.same g h.made, TabAt.same g h.tab, dps_same g _ _ h.dpt, h.tabs.ext g⟩
theorem Wd.draw {K : PySem.W.Frag} {C CT : Addr} {T2 : List (Addr × Str)} {d cl p c t : Addr} {hs : List Str} {as : List (Str × Bool)} {ss : List Str} {xs zs : List V} {rs : List Row4} {H H' : Hp} (h : Wd K C CT T2 d cl p c t hs as ss xs zs rs H) (nol : noLs (rs.map Row4.d) = true) (hD : Drw K H' d) (b : But d H H') : Wd K C CT T2 d cl p c t hs as ss xs zs rs H' :=
  h.off nol (.but (List.mem_singleton.mpr rfl) b) hD (tabs_but h.tabs h.drw b)
theorem Wd.ext {K : PySem.W.Frag} {C CT : Addr} {T2 : List (Addr × Str)} {d cl p c t : Addr} {hs : List Str} {as : List (Str × Bool)} {ss : List Str} {xs zs : List V} {rs : List Row4} {H H' : Hp} (h : Wd K C CT T2 d cl p c t hs as ss xs zs rs H) (nol : noLs (rs.map Row4.d) = true) (e : LamX.ExtN H H') (tb : LamX.Tabs T2 H') : Wd K C CT T2 d cl p c t hs as ss xs zs rs H' :=
  h.off nol (.ext e) (drw_ext h.drw e) tb
/-! ### columns and tables that are made -/
theorem drawn_ok0 : ∀ hs, hs ∈ hsL → ∀ as, as ∈ bigA :: asL → ∀ ss, ss ∈ [] :: ssL → wrongR (.seq (hs.map PyData.str)) (.dic (kvsOf as)) (.seq (ss.map PyData.str)) = none := by decide +kernel
theorem drawn_parts : (∀ hs, hs ∈ hsL → strsA (.seq (hs.map PyData.str)) = hs ∧ (∀ n ∈ hs, n.length ≤ 1000) ∧ hs.length ≤ 2) ∧ (∀ as, as ∈ bigA :: asL → asA (.dic (kvsOf as)) = as ∧ kvsB (kvsOf as) = true) ∧ ∀ ss, ss ∈ [] :: ssL → strsA (.seq (ss.map PyData.str)) = ss ∧ (∀ n ∈ ss, n.length ≤ 1000) ∧ ss.length ≤ 2 := by decide +kernel
theorem new_ins {C x dx : Addr} {H : Hp} (hx : H x = none) (hdx : H dx = none) (ne : dx ≠ x) : Same H (upd (upd H dx (.own x)) x (.ins C dx [])) ∧ upd (upd H dx (.own x)) x (.ins C dx []) x = some (.ins C dx []) :=
  ⟨(same_new hdx (.own x)).trans (same_new (show upd H dx (.own x) x = none by rw [upd_ne (Ne.symm ne)]; exact hx) (.ins C dx [])), upd_same⟩
theorem same_but {x : Addr} {H H1 H' : Hp} (s : Same H H1) (hx : H x = none) (b : But x H1 H') : Same H H' := fun c o h => b c o (ne_of_none h hx) (s _ _ h)
theorem cols_made {K : PySem.W.Frag} {C CB x dx l a s : Addr} {H : Hp} {hs : List Str} {as : List (Str × Bool)} {ss : List Str} {Q : VK} {E : XK} (hx : H x = none) (hdx : H dx = none) (ne : dx ≠ x) (mh : hs ∈ hsL) (ma : as ∈ bigA :: asL) (ms : ss ∈ [] :: ssL)
    (h1 : SqL K H l (hs.map V.str) ∨ TupN H l (hs.map V.str)) (h2 : H a = some (.dK (kvsOf as))) (h3 : SqL K H s (ss.map V.str)) (k : ∀ H', Same H H' → ColsAt K C H' x hs (sortA as) ss → ColsOk hs (sortA as) ss → Q .non H') :
    sp_cinit C CB K [.ref x, .ref l, .ref a, .ref s] (upd (upd H dx (.own x)) x (.ins C dx [])) Q E := by
  obtain ⟨g, e⟩ := new_ins (C := C) hx hdx ne
  generalize upd (upd H dx (.own x)) x (.ins C dx []) = H1 at *
  obtain ⟨p1, p2, p3⟩ := drawn_parts.1 hs mh
  obtain ⟨p4, p5⟩ := drawn_parts.2.1 as ma
  obtain ⟨p6, p7, p8⟩ := drawn_parts.2.2 ss ms
  have w := drawn_ok0 hs mh as ma ss ms
  have g1 : SqL K H1 l (hs.map V.str) ∨ TupN H1 l (hs.map V.str) := h1.elim (fun z => .inl (g.seq z)) fun z => .inr (z.same g)
  refine ⟨x, dx, .ref l, .ref a, .ref s, .seq (hs.map PyData.str), .dic (kvsOf as), .seq (ss.map PyData.str), rfl, e, ⟨l, _, rfl, ?_, dp_strs _, by rw [List.length_map]; omega⟩, ⟨a, rfl, g _ _ h2, kvsB_ok p5⟩, ⟨s, _, rfl, .inl (g.seq h3), dp_strs _, by rw [List.length_map]; omega⟩, short_ok p2, short_ok p7, fun ds e => ?_, fun _ H' b cA cO => ?_, fun w' e => ?_⟩
  · exact g1.elim (fun z => .inl z) fun z => .inr z.sq
  · cases e
    exact ⟨l, _, rfl, g1, dp_strs _⟩
  · rw [p1, p4, p6] at cA cO
    exact k H' (same_but g hx b) cA cO
  · rw [w] at e
    cases e
theorem dps_ins {K : PySem.W.Frag} {x C dx : Addr} {fs : List (Str × V)} {H H' : Hp} (e : H x = some (.ins C dx fs)) (b : But x H H') {vs : List V} {ds : List PyData} (h : DpAll K H vs ds) : DpAll K H' vs ds := by
  have st : ∀ {a : Addr} {u : HO}, (u ≠ .ins C dx fs) → H a = some u → H' a = some u := fun {a u} n z => b a u (ne_of z e n) z
  refine dps_keep (fun a xs h => ?_) (fun a xs h => ?_) ds vs h
  · rcases h with (h | ⟨q, h⟩) | h
    · exact .inl (.inl (st (fun z => by cases z) h))
    · exact .inl (.inr ⟨q, st (fun z => by cases z) h⟩)
    · exact .inr h
  · rcases h with (h | ⟨q, h⟩) | h
    · exact .inl (.inl (st (fun z => by cases z) h))
    · exact .inl (.inr ⟨q, st (fun z => by cases z) h⟩)
    · exact .inr h
theorem first_good {q : PyData → Bool} : ∀ {ds : List PyData} (i : Nat), (∀ d ∈ ds, q d = true) → firstBad q i ds = none
  | [], _, _ => rfl
  | d :: ds, i, h => by
    show (if q d = true then firstBad q (i + 1) ds else some i) = none
    rw [if_pos (h d List.mem_cons_self)]
    exact first_good (i + 1) fun x hx => h x (List.mem_cons_of_mem _ hx)
theorem first_bad {q : PyData → Bool} {e : PyData} {r : List PyData} : ∀ {ds : List PyData} (i : Nat), (∀ d ∈ ds, q d = true) → q e = false → firstBad q i (ds ++ e :: r) = some (i + ds.length)
  | [], i, _, he => by
    show (if q e = true then firstBad q (i + 1) r else some i) = some (i + 0)
    rw [if_neg (by rw [he]; simp)]
    rfl
  | d :: ds, i, h, he => by
    show (if q d = true then firstBad q (i + 1) (ds ++ e :: r) else some i) = some (i + (ds.length + 1))
    rw [if_pos (h d List.mem_cons_self), first_bad (i + 1) (fun x hx => h x (List.mem_cons_of_mem _ hx)) he]
    congr 1
    omega
theorem good_rows {hn sn : Nat} {bs : List Bool} {rs : List Row4} (good : ∀ r ∈ rs, Good4 hn bs sn r) : (∀ d ∈ rs.map Row4.d, rowD hn bs sn d = true) ∧ ∀ d ∈ rs.map Row4.d, RowOk d := by
  refine ⟨fun d hd => ?_, fun d hd => ?_⟩
  · obtain ⟨r, hr, rfl⟩ := List.mem_map.mp hd
    exact (good r hr).row
  · obtain ⟨r, hr, rfl⟩ := List.mem_map.mp hd
    exact (good r hr).ok
theorem tab_made {K : PySem.W.Frag} {C CT CB x dx c a : Addr} {H : Hp} {hs : List Str} {as : List (Str × Bool)} {ss : List Str} {xs : List V} {rs : List Row4} {Q : VK} {E : XK} (hx : H x = none) (hdx : H dx = none) (ne : dx ≠ x) (hc : ColsAt K C H c hs as ss)
    (hv : SqA K H a xs) (da : DpAll K H xs (rs.map Row4.d)) (good : ∀ r ∈ rs, Good4 hs.length (as.map Prod.snd) ss.length r) (few : rs.length ≤ 6) (k : ∀ zs H', Same H H' → TabAt K CT H' x c zs → DpAll K H' zs (rs.map Row4.d) → Q .non H') :
    sp_tinit C CT CB K [.ref x, .ref c, .ref a] (upd (upd H dx (.own x)) x (.ins CT dx [])) Q E := by
  obtain ⟨g, e⟩ := new_ins (C := CT) hx hdx ne
  generalize upd (upd H dx (.own x)) x (.ins CT dx []) = H1 at *
  have tr : tabR hs.length (as.map Prod.snd) ss.length (.seq (rs.map Row4.d)) = none := by
    show (if 60 < (rs.map Row4.d).length then some none else (firstBad _ 0 (rs.map Row4.d)).map some) = none
    rw [if_neg (by rw [List.length_map]; omega), first_good 0 (good_rows good).1]
    rfl
  refine ⟨x, dx, c, hs, as, ss, .ref a, .seq (rs.map Row4.d), rfl, e, hc.same g, ⟨a, xs, rfl, hv.same g, dps_same g _ _ da, by rw [List.length_map]; omega⟩, (good_rows good).2, fun _ => fun a' zs ea hv' dz H' b ht => ?_, fun n en => ?_⟩
  · exact k zs H' (same_but g hx b) ht (dps_ins e b (dz _ rfl))
  · rw [tr] at en
    cases en
theorem tab_refused {K : PySem.W.Frag} {C CT C1 CB x dx c : Addr} {v : V} {r : RowA} {n : Option Nat} {H : Hp} {hs : List Str} {as : List (Str × Bool)} {ss : List Str} {Q Q' : VK} (hx : H x = none) (hdx : H dx = none) (ne : dx ≠ x) (hc : ColsAt K C H c hs as ss)
    (hv : RowAt K H v r) (ro : RowsOk r) (tr : tabR hs.length (as.map Prod.snd) ss.length r = some n) (k : ∀ q H', Same H H' → H' q = some (.tup [.str "table", optN n]) → Q (.ref q) H') :
    sp_tinit C CT CB K [.ref x, .ref c, v] (upd (upd H dx (.own x)) x (.ins CT dx [])) Q' (Eref C1 CB Q) := by
  obtain ⟨g, e⟩ := new_ins (C := CT) hx hdx ne
  generalize upd (upd H dx (.own x)) x (.ins CT dx []) = H1 at *
  refine ⟨x, dx, c, hs, as, ss, v, r, rfl, e, hc.same g, hv.same g, ro, fun z => ?_, fun m em dx' H' b ex => ?_⟩
  · rw [tr] at z
    cases z
  · rw [tr] at em
    cases em
    exact .inr ⟨rfl, dx', _, rfl, ex, fun q hq => k q _ ((same_but g hx b).trans (same_new hq _)) upd_same⟩
/-! ### rows as data -/
theorem rows_shaped {hn sn : Nat} {bs : List Bool} {rs : List Row4} (good : ∀ r ∈ rs, Good4 hn bs sn r) : SeqAt.shaped (.tuple (rs.map Row4.d)) = true ∧ SeqAt.shaped (.list (rs.map Row4.d)) = true := by
  have l : PyData.canLayAll0 (rs.map Row4.d) = true ∧ PyData.depthAll (rs.map Row4.d) ≤ 3 := by
    induction rs with
    | nil => exact ⟨rfl, Nat.zero_le _⟩
    | cons r rs ih =>
      obtain ⟨i1, i2⟩ := ih fun x hx => good x (List.mem_cons_of_mem _ hx)
      have g := good r List.mem_cons_self
      refine ⟨?_, Nat.max_le.mpr ⟨g.dep, i2⟩⟩
      show (r.d.canLay0 && PyData.canLayAll0 (rs.map Row4.d)) = true
      rw [g.lay, i1]
      rfl
  unfold SeqAt.shaped
  constructor
  · rw [Bool.and_eq_true]
    exact ⟨l.1, decide_eq_true (by show PyData.depthAll _ + 1 ≤ 64; omega)⟩
  · rw [Bool.and_eq_true]
    exact ⟨l.1, decide_eq_true (by show PyData.depthAll _ + 1 ≤ 64; omega)⟩
theorem eqv_len : ∀ {ds es : List PyData}, ds.length ≠ es.length → PyData.eqvAll ds es = false
  | [], [], h => absurd rfl h
  | [], _ :: _, _ => rfl
  | _ :: _, [], _ => rfl
  | d :: ds, e :: es, h => by
    show (PyData.eqv d e && PyData.eqvAll ds es) = false
    rw [eqv_len (ds := ds) (es := es) (by simpa using h), Bool.and_false]
theorem strict_eq : ∀ {a b : List Int}, a.Pairwise (· < ·) → b.Pairwise (· < ·) → (∀ z, z ∈ a ↔ z ∈ b) → a = b
  | [], [], _, _, _ => rfl
  | [], y :: b, _, _, h => absurd ((h y).mpr List.mem_cons_self) (by simp)
  | x :: a, [], _, _, h => absurd ((h x).mp List.mem_cons_self) (by simp)
  | x :: a, y :: b, ha, hb, h => by
    rw [List.pairwise_cons] at ha hb
    have e : x = y := by
      rcases List.mem_cons.mp ((h x).mp List.mem_cons_self) with z | z
      · exact z
      · rcases List.mem_cons.mp ((h y).mpr List.mem_cons_self) with z' | z'
        · exact z'.symm
        · have := hb.1 x z
          have := ha.1 y z'
          omega
    subst e
    congr 1
    refine strict_eq ha.2 hb.2 fun z => ⟨fun hz => ?_, fun hz => ?_⟩
    · rcases List.mem_cons.mp ((h z).mp (List.mem_cons_of_mem _ hz)) with q | q
      · have := ha.1 z hz
        omega
      · exact q
    · rcases List.mem_cons.mp ((h z).mpr (List.mem_cons_of_mem _ hz)) with q | q
      · have := hb.1 z hz
        omega
      · exact q
theorem kind_ats : ∀ hs ∈ hsL, ∀ k ∈ kindsL hs, ∃ o, KindAt hs k o := by
  have m1 : KindAt ["k"] (("key " : Str) ++ "k") (some 0) := .key rfl (fun m hm => absurd hm (by omega)) (by decide +kernel)
  have m2 : KindAt ["k", "llllllll"] (("key " : Str) ++ "k") (some 0) := .key rfl (fun m hm => absurd hm (by omega)) (by decide +kernel)
  have m3 : KindAt ["k", "llllllll"] (("key " : Str) ++ "llllllll") (some 1) := .key rfl (fun m hm => by
    obtain rfl : m = 0 := by omega
    intro z
    exact absurd (Option.some.inj z) (by decide +kernel)) (by decide +kernel)
  intro hs hh k hk
  have hk : k ∈ ("block" : Str) :: hs.map fun n => ("key " : Str) ++ n := (sortS_perm _).mem_iff.mp hk
  rcases List.mem_cons.mp hk with rfl | hk
  · exact ⟨_, .block⟩
  simp only [hsL, List.mem_cons, List.not_mem_nil, or_false] at hh
  rcases hh with rfl | rfl | rfl | rfl
  · cases hk
  · obtain rfl := List.mem_singleton.mp hk
    exact ⟨_, m1⟩
  · obtain rfl := List.mem_singleton.mp hk
    exact ⟨_, m1⟩
  · rcases List.mem_cons.mp hk with rfl | hk
    · exact ⟨_, m2⟩
    · obtain rfl := List.mem_singleton.mp hk
      exact ⟨_, m3⟩
theorem seq_cut3 {t1 t2 t3 u : TS} {D : Ends} {σ : L2.St} {H : Hp} (R : L2.St → Hp → Prop) (h2 : ∀ σ' H', R σ' H' → u D σ' H') (h1 : (∀ σ' H', R σ' H' → u D σ' H') → tSeq t1 (tSeq t2 t3) { D with nx := u D } σ H) : tSeq t1 (tSeq t2 (tSeq t3 u)) D σ H := h1 h2
theorem strs_fl {ns : List Str} (h : ∀ n ∈ ns, PyData.strOk n = true) : ((ns.map PyData.str).all flD) = true := by
  rw [List.all_map, List.all_eq_true]
  exact h
theorem fl_shaped {ds : List PyData} (h : (ds.all flD) = true) : SeqAt.shaped (.tuple ds) = true ∧ SeqAt.shaped (.list ds) = true := by
  obtain ⟨h1, h2, _⟩ := fl_lay h
  unfold SeqAt.shaped
  constructor
  · rw [Bool.and_eq_true]
    exact ⟨h1, decide_eq_true (by show PyData.depthAll _ + 1 ≤ 64; omega)⟩
  · rw [Bool.and_eq_true]
    exact ⟨h1, decide_eq_true (by show PyData.depthAll _ + 1 ≤ 64; omega)⟩
theorem strs_shaped {ns : List Str} (h : ∀ n ∈ ns, PyData.strOk n = true) : SeqAt.shaped (.tuple (ns.map PyData.str)) = true ∧ SeqAt.shaped (.list (ns.map PyData.str)) = true := fl_shaped (strs_fl h)
theorem ints_shaped (ns : List Int) : SeqAt.shaped (.tuple (ns.map PyData.int)) = true ∧ SeqAt.shaped (.list (ns.map PyData.int)) = true := fl_shaped (int_fl ns)
theorem like_self {K : PySem.W.Frag} {H : Hp} {x y : V} {d : PyData} (h1 : Dp K H x d) (h2 : Dp K H y d) (s : SeqAt.shaped d = true) : LikeD K H x y := .dat h1 h2 s s (SeqAt.eqv_refl _ (SeqAt.canLay_of_shaped s))
theorem like_asked {K : PySem.W.Frag} {H : Hp} {a b : Addr} {as : List (Str × Bool)} (ne : a ≠ b) (h1 : H a = some (.dK (kvsOf (sortA as)))) (h2 : H b = some (.dK (kvsOf as))) : LikeD K H (.ref a) (.ref b) := by
  refine .dic ne h1 h2 ?_ fun p hp => ?_
  · unfold kvsOf
    rw [List.length_map, List.length_map, sorted_len]
  · unfold kvsOf at hp
    obtain ⟨q, hq, rfl⟩ := List.mem_map.mp hp
    unfold sortA at hq
    obtain ⟨n, hn, rfl⟩ := List.mem_map.mp hq
    obtain ⟨b', hb⟩ := askOf_mem ((sortS_perm _).mem_iff.mp hn)
    refine ⟨?_, ?_⟩
    · show valV (kvsOf as) (Sum.inr n) = some (kindV ((askOf as n).getD false))
      rw [askOf_val, hb]
      rfl
    · show flatB (kindV ((askOf as n).getD false)) = true
      cases (askOf as n).getD false <;> rfl
theorem keys_sorted (as : List (Str × Bool)) : ((kvsOf (sortA as)).map fun kv => L2.kV kv.1) = (sortS (as.map Prod.fst)).map V.str := by
  unfold kvsOf sortA
  rw [List.map_map, List.map_map]
  rfl
theorem ne_self {K : PySem.W.Frag} {H : Hp} {x y : V} {d : PyData} {Q : Bool → Hp → Prop} (h1 : Dp K H x d) (h2 : Dp K H y d) (s : SeqAt.shaped d = true) (k : Q false H) : rNeD K x y H fun v H' => ∃ b, v = .bl b ∧ Q b H' := ⟨d, d, h1, h2, s, s, _, rfl, by
  rw [SeqAt.eqv_refl _ (SeqAt.canLay_of_shaped s)]
  exact k⟩
theorem kinds_ok : ∀ hs ∈ hsL, ∀ n ∈ ("block" : Str) :: hs.map fun n => ("key " : Str) ++ n, PyData.strOk n = true := by decide +kernel
theorem look_kinds {v1 v2 v3 : V} : List.lookup ("kinds" : Str) [(("hashed" : Str), v1), (("_asked" : Str), v2), (("summed" : Str), v3)] = none := (look_tail (by decide +kernel)).trans ((look_tail (by decide +kernel)).trans ((look_tail (by decide +kernel)).trans rfl))
theorem look_ent {v1 v2 : V} : List.lookup ("entity" : Str) [(("columns" : Str), v1), (("rows" : Str), v2)] = none ∧ List.lookup ("entities" : Str) [(("columns" : Str), v1), (("rows" : Str), v2)] = none := ⟨(look_tail (by decide +kernel)).trans ((look_tail (by decide +kernel)).trans rfl), (look_tail (by decide +kernel)).trans ((look_tail (by decide +kernel)).trans rfl)⟩
theorem eqva_self {ds : List PyData} (h : SeqAt.shaped (.tuple ds) = true) : PyData.eqvAll ds ds = true := SeqAt.eqv_refl (.tuple ds) (SeqAt.canLay_of_shaped h)
theorem eqV_refl (n : Str) : eqV (.str n) (.str n) = true := by
  show (n == n) = true
  exact beq_self_eq_true n
theorem eqV_no {m n : Str} (h : m ≠ n) : eqV (.str m) (.str n) = false := by
  show (m == n) = false
  exact beq_false_of_ne h
theorem cut_to (xs : List V) (n : Nat) : cutV xs none (some (n : Int)) = xs.take n := by
  unfold cutV
  rw [HT.sIx_none, HT.sIx_nat, List.drop_zero, Nat.sub_zero]
  by_cases h : n ≤ xs.length
  · rw [Nat.min_eq_left h]
  · rw [Nat.min_eq_right (by omega), List.take_of_length_le (Nat.le_refl _), List.take_of_length_le (by omega)]
theorem cut_from (xs : List V) (n : Nat) : cutV xs (some ((n : Int) + 1)) none = xs.drop (n + 1) := by
  unfold cutV
  rw [HT.sIx_none, show ((n : Int) + 1) = ((n + 1 : Nat) : Int) from rfl, HT.sIx_nat]
  by_cases h : n + 1 ≤ xs.length
  · rw [Nat.min_eq_left h, List.take_of_length_le (by rw [List.length_drop]; omega)]
  · rw [Nat.min_eq_right (by omega), List.drop_of_length_le (Nat.le_refl _), List.drop_of_length_le (show xs.length ≤ n + 1 by omega), List.take_nil]
theorem dps_rep {K : PySem.W.Frag} {H : Hp} {xs : List V} {ds : List PyData} (h : DpAll K H xs ds) : ∀ n : Nat, DpAll K H (List.replicate n xs).flatten (List.replicate n ds).flatten
  | 0 => .nil
  | n + 1 => by
    rw [List.replicate_succ, List.replicate_succ, List.flatten_cons, List.flatten_cons]
    exact dps_app h (dps_rep h n)
theorem not_nil : ∀ ss ∈ ssL, ([] : List Str) ≠ ss := by decide +kernel
theorem rows_nil : PyData.eqv (.list []) (.list []) = true := by decide +kernel
theorem rows_cons (r : Row4) (rs : List Row4) : PyData.eqv (.list ((r :: rs).map Row4.d)) (.list []) = false := rfl
theorem table_shaped (n : Int) : SeqAt.shaped (.tuple [.str "table", .int n]) = true := (fl_shaped (ds := [.str "table", .int n]) (by
  show (PyData.strOk "table" && (true && true)) = true
  decide +kernel)).1
theorem table_non : SeqAt.shaped (.tuple [.str "table", .none]) = true := by decide +kernel
theorem drop_good {hn sn : Nat} {bs : List Bool} {rs : List Row4} (good : ∀ r ∈ rs, Good4 hn bs sn r) (n : Nat) : ∀ r ∈ rs.drop n, Good4 hn bs sn r := fun r hr => good r (List.mem_of_mem_drop hr)
theorem take_good {hn sn : Nat} {bs : List Bool} {rs : List Row4} (good : ∀ r ∈ rs, Good4 hn bs sn r) (n : Nat) : ∀ r ∈ rs.take n, Good4 hn bs sn r := fun r hr => good r (List.mem_of_mem_take hr)
def lateD (rs : List Row4) (n : Nat) (e : PyData) : List PyData := ((rs.take n).map Row4.d ++ [e]) ++ (rs.drop (n + 1)).map Row4.d ++ [.none]
theorem late_bad {hn sn : Nat} {bs : List Bool} {rs : List Row4} {n : Nat} {e : PyData} (good : ∀ r ∈ rs, Good4 hn bs sn r) (few : rs.length ≤ 6) (ln : n < rs.length) (bad : rowD hn bs sn e = false) (ok : RowOk e) :
    tabR hn bs sn (.seq (lateD rs n e)) = some (some n) ∧ RowsOk (.seq (lateD rs n e)) ∧ (lateD rs n e).length ≤ 1000 := by
  have el : lateD rs n e = (rs.take n).map Row4.d ++ e :: ((rs.drop (n + 1)).map Row4.d ++ [.none]) := by
    unfold lateD
    simp
  have lt : ((rs.take n).map Row4.d).length = n := by
    rw [List.length_map, List.length_take]
    omega
  have ll : (lateD rs n e).length ≤ 8 := by
    rw [el, List.length_append, lt, List.length_cons, List.length_append, List.length_map, List.length_drop]
    show n + (_ + 1 + 1) ≤ 8
    omega
  refine ⟨?_, fun x hx => ?_, by omega⟩
  · show (if 60 < (lateD rs n e).length then some none else (firstBad _ 0 (lateD rs n e)).map some) = some (some n)
    rw [if_neg (by omega), el, first_bad 0 (good_rows (take_good good n)).1 bad, lt, Nat.zero_add]
    rfl
  · rw [el] at hx
    rcases List.mem_append.mp hx with hx | hx
    · exact (good_rows (take_good good n)).2 x hx
    · rcases List.mem_cons.mp hx with rfl | hx
      · exact ok
      · rcases List.mem_append.mp hx with hx | hx
        · exact (good_rows (drop_good good (n + 1))).2 x hx
        · obtain rfl := List.mem_singleton.mp hx
          intro ds z
          cases z
def manyD (rs : List Row4) : List PyData := (List.replicate 61 ((rs.take 1).map Row4.d)).flatten
theorem many_bad {hn sn : Nat} {bs : List Bool} {rs : List Row4} (good : ∀ r ∈ rs, Good4 hn bs sn r) (pos : 1 ≤ rs.length) :
    tabR hn bs sn (.seq (manyD rs)) = some none ∧ RowsOk (.seq (manyD rs)) ∧ (manyD rs).length ≤ 1000 := by
  have lt : ((rs.take 1).map Row4.d).length = 1 := by
    rw [List.length_map, List.length_take]
    omega
  have ll : (manyD rs).length = 61 := by
    unfold manyD
    rw [List.length_flatten, List.map_replicate, lt]
    rfl
  refine ⟨?_, fun x hx => ?_, by omega⟩
  · show (if 60 < (manyD rs).length then some none else (firstBad _ 0 (manyD rs)).map some) = some none
    rw [if_pos (by omega)]
  · unfold manyD at hx
    obtain ⟨l, hl, hx⟩ := List.mem_flatten.mp hx
    obtain ⟨_, rfl⟩ := List.mem_replicate.mp hl
    exact (good_rows (take_good good 1)).2 x hx

end
end My
set_option Elab.async false
set_option linter.all false
set_option maxRecDepth 100000
set_option maxHeartbeats 400000
namespace My
open PySem L2 PySem.Spec PyProof.Rows
section
variable {P : Program} {w : World} {K : PySem.W.Frag} {mg : Str → Option Value} {base : Heap}
/-! ### the law -/
theorem two_tabs {lp rp : Addr} (n : lp ≠ rp) : ∀ p ∈ [(lp, qL), (rp, qR)], p.1 = lp → p.2 = qL := fun p hp e => by
  rcases List.mem_cons.mp hp with rfl | hp
  · rfl
  · obtain rfl := List.mem_singleton.mp hp
    exact absurd e.symm n
def sp_law (K : PySem.W.Frag) (T2 : List (Addr × Str)) : Sp := fun vs H Q _ => ∃ (a : Addr) (ns : List Int), vs = [.ref a] ∧ SqF K H a (ns.map V.int) ∧ ns.length ≤ 63 ∧ LamX.Tabs T2 H ∧ ∀ H', Q (.bl true) H'
theorem ok_law (T : Txt K mg) {lc lp rc rp : Addr} (hlc : T.d_law.code = .ref lc) (tb : LamX.TabB base mg lc lp) (hrc : T.d__law_columns_right.code = .ref rc) (tbr : LamX.TabB base mg rc rp) (nlr : lp ≠ rp) : FnOk P w K mg base CX0 13 T.a_law T.d_law ["script"] (sp_law K [(lp, qL), (rp, qR)]) := by
  have G__law_columns := ok__law_columns (P := P) (w := w) (base := base) T
  have G__law_rows := ok__law_rows (P := P) (w := w) (base := base) T
  have G_Columns_init := ok_Columns_init (P := P) (w := w) (base := base) T
  have G_Table_init := ok_Table_init (P := P) (w := w) (base := base) T
  have G_Columns_kinds := ok_Columns_kinds (P := P) (w := w) (base := base) T
  have G__law_take := ok__law_take (P := P) (w := w) (base := base) T
  have G__law_columns_right := ok__law_columns_right (P := P) (w := w) (base := base) T hrc tbr
  have G_Columns_asked := ok_Columns_asked (P := P) (w := w) (base := base) T
  have G_Table_entities := ok_Table_entities (P := P) (w := w) (base := base) T
  have G_Table_entity := ok_Table_entity (P := P) (w := w) (base := base) T
  have G__law_bent := ok__law_bent (P := P) (w := w) (base := base) T
  have G_Columns_eq := ok_Columns_eq (P := P) (w := w) (base := base) T
  have G_Table_eq := ok_Table_eq (P := P) (w := w) (base := base) T
  have G_Table_len := ok_Table_len (P := P) (w := w) (base := base) T
  obtain ⟨oc, od, kV, doc, pm, an, cdr, ct, osl, efd, lkr, hcr⟩ := T.F__law_refused.ex
  have bnr := T.b__law_refused
  rw [efd] at bnr lkr
  have visr : L2.Vis (defScope s__law_refused) "deed" := (sc__law_refused.par "deed" (by simp)).elim .inl fun z => .inr (.inl z)
  refine fun_okC T.F_law hlc sc_law (fun vs H Q E h => ?_) (fun A outer s H vs Q E hr h => ?_)
  · obtain ⟨a, ns, rfl, _⟩ := h
    rfl
  obtain ⟨a, ns, rfl, hF, len, tabs, k⟩ := h
  refine ⟨_, PSs.nox (pss_cons (ps_set (i := 1) sc_law.nd rfl (by first | exact Or.inl rfl | exact Or.inr rfl) (pe_lst (pa_cons (pv 0) (pa_cons pe_int pa_nil))))
    (pss_cons (ps_set (i := 2) sc_law.nd rfl (by first | exact Or.inl rfl | exact Or.inr rfl) (pe_call G__law_columns (hr.mono (by first | decide | omega)) (by rfl) T.m__law_columns T.F__law_columns.kp T.b__law_columns .nil pass0 (pa_cons (pv 1) pa_nil)))
    (pss_cons (ps_set (i := 3) sc_law.nd rfl (by first | exact Or.inl rfl | exact Or.inr rfl) (pe_call G__law_rows (hr.mono (by first | decide | omega)) (by rfl) T.m__law_rows T.F__law_rows.kp T.b__law_rows .nil pass0 (pa_cons (pv 1) (pa_cons (pv 2) (pa_cons pe_int pa_nil)))))
    (pss_cons (ps_set (i := 4) sc_law.nd rfl (by first | exact Or.inl rfl | exact Or.inr rfl) (pe_make T.mk_Columns G_Columns_init (hr.mono (by first | decide | omega)) (by rfl) T.m_Columns T.b_Columns_init .nil L2.passL (pa_cons (pe_callTy call_tupN (by rfl) T.z_tuple (by decide +kernel) (pa_cons (pe_ix ix_tup (pv 2) pe_int (fun _ _ => rfl)) pa_nil)) (pa_cons (pe_ix ix_tup (pv 2) pe_int (fun _ _ => rfl)) (pa_cons (pe_ix ix_tup (pv 2) pe_int (fun _ _ => rfl)) pa_nil)))))
    (pss_cons (ps_set (i := 5) sc_law.nd rfl (by first | exact Or.inl rfl | exact Or.inr rfl) (pe_callTy call_list_of (by rfl) T.z_list (by decide +kernel) (pa_cons (pv 3) pa_nil)))
    (pss_cons (ps_set (i := 6) sc_law.nd rfl (by first | exact Or.inl rfl | exact Or.inr rfl) (pe_make T.mk_Table G_Table_init (hr.mono (by first | decide | omega)) (by rfl) T.m_Table T.b_Table_init .nil L2.passL (pa_cons (pv 4) (pa_cons (pv 5) pa_nil))))
    (pss_cons (ps_expr (pe_bm PySem.F.plainAttrs_list PySem.F.slot_list_append PySem.F.type_list_append mt_append (pv 5) (pa_cons pe_non pa_nil)))
    (pss_cons (ps_if (PW.pt (pw_or (pt_cmpR (op_neTup (hu65' hr)) (pe_tup (pa_cons (pe_fld (pv 4) rfl) (pa_cons (pe_prop (pv 4) T.cl_Columns T.p_Columns_asked G_Columns_asked (hr.mono (by first | decide | omega)) T.b_Columns_asked .nil pass0 rfl) (pa_cons (pe_fld (pv 4) rfl) pa_nil)))) (pe_tup (pa_cons (pe_callTy call_tupN (by rfl) T.z_tuple (by decide +kernel) (pa_cons (pe_ix ix_tup (pv 2) pe_int (fun _ _ => rfl)) pa_nil)) (pa_cons (pe_ix ix_tup (pv 2) pe_int (fun _ _ => rfl)) (pa_cons (pe_callTy call_tupN (by rfl) T.z_tuple (by decide +kernel) (pa_cons (pe_ix ix_tup (pv 2) pe_int (fun _ _ => rfl)) pa_nil)) pa_nil)))) (nomark _)) (pw_or1 (pt_cmpR (op_neD (hu64 hr)) (pe_callTy (call_listD rfl) (by rfl) T.z_list (by decide +kernel) (pa_cons (pe_prop (pv 4) T.cl_Columns T.p_Columns_asked G_Columns_asked (hr.mono (by first | decide | omega)) T.b_Columns_asked .nil pass0 rfl) pa_nil)) (pe_callB (call_sortedD rfl) (by rfl) T.z_sorted (by decide +kernel) (pa_cons (pe_ix ix_tup (pv 2) pe_int (fun _ _ => rfl)) pa_nil)) (nomark _))))) (pss_one (ps_ret pe_bl)) pss_nil)
    (pss_cons (ps_if (PW.pt (pw_or (pt_cmpR (op_neD (hu64 hr)) (pe_meth0 (pv 4) T.cl_Columns T.q_Columns_kinds G_Columns_kinds (hr.mono (by first | decide | omega)) T.b_Columns_kinds .nil pass0) (pe_callTy call_tuple_of (by rfl) T.z_tuple (by decide +kernel) (pa_cons (pe_callB cr_sortedS (by rfl) T.z_sorted (by decide +kernel) (pa_cons (pe_op op_cat (pe_lst (pa_cons pe_str pa_nil)) (pe_lc (own := [("key", 7)]) rfl sc_law.nd (pi_list (pe_ix ix_tup (pv 2) pe_int (fun _ _ => rfl))) (blkOk_by (own := [("key", 7)]) (N := ["script", "draw", "columns", "rows", "made", "given", "table", "key", "kind", "due", "row", "number", "at", "late"]) (sc := defScope s_law) (by decide +kernel)) (fun _ _ _ _ _ => (pg_name (i := 7) sc_law.nd rfl (by first | exact Or.inl rfl | exact Or.inr rfl))) (fun _ _ _ _ _ => pts_nil) (fun _ _ _ _ _ => (pe_op op_add_str pe_str (pv 7))))) pa_nil)) pa_nil)) (nomark _)) (pw_or1 (pt_cmpR (op_ownNe G_Columns_eq T.q_Columns_eq.at_ T.q_Columns_eq.fn T.b_Columns_eq pass0 (hr.mono (by first | decide | omega)) T.ne_Columns T.mo_Columns) (pv 4) (pe_make T.mk_Columns G_Columns_init (hr.mono (by first | decide | omega)) (by rfl) T.m_Columns T.b_Columns_init .nil L2.passL (pa_cons (pe_ix ix_tup (pv 2) pe_int (fun _ _ => rfl)) (pa_cons (pe_ix ix_tup (pv 2) pe_int (fun _ _ => rfl)) (pa_cons (pe_ix ix_tup (pv 2) pe_int (fun _ _ => rfl)) pa_nil)))) (nomark _))))) (pss_one (ps_ret pe_bl)) pss_nil)
    (pss_cons (ps_if (PW.pt (pw_or (pt_cmpR (op_neD (hu64 hr)) (pe_fld (pv 6) rfl) (pe_callTy call_tuple_of (by rfl) T.z_tuple (by decide +kernel) (pa_cons (pv 3) pa_nil)) (nomark _)) (pw_or (pt_cmpR (op_ownNe G_Columns_eq T.q_Columns_eq.at_ T.q_Columns_eq.fn T.b_Columns_eq pass0 (hr.mono (by first | decide | omega)) T.ne_Columns T.mo_Columns) (pe_fld (pv 6) rfl) (pv 4) (nomark _)) (pw_or (pt_cmpR op_ne (pe_callB (call_ownLen G_Table_len T.q_Table_len.at_ T.q_Table_len.fn T.b_Table_len pass0 (hr.mono (by first | decide | omega))) (by rfl) T.z_len (by decide +kernel) (pa_cons (pv 6) pa_nil)) (pe_callB call_len_seq (by rfl) T.z_len (by decide +kernel) (pa_cons (pv 3) pa_nil)) (nomark _)) (pw_or1 (pt_cmpR (op_ownNe G_Table_eq T.q_Table_eq.at_ T.q_Table_eq.fn T.b_Table_eq pass0 (hr.mono (by first | decide | omega)) T.ne_Table T.mo_Table) (pv 6) (pe_make T.mk_Table G_Table_init (hr.mono (by first | decide | omega)) (by rfl) T.m_Table T.b_Table_init .nil L2.passL (pa_cons (pv 4) (pa_cons (pe_callTy call_tuple_of (by rfl) T.z_tuple (by decide +kernel) (pa_cons (pv 3) pa_nil)) pa_nil))) (nomark _))))))) (pss_one (ps_ret pe_bl)) pss_nil)
    (pss_cons (ps_for PassesOwn.never rfl (pi_tup (pe_meth0 (pv 4) T.cl_Columns T.q_Columns_kinds G_Columns_kinds (hr.mono (by first | decide | omega)) T.b_Columns_kinds .nil pass0)) (pg_name (i := 8) sc_law.nd rfl (by first | exact Or.inl rfl | exact Or.inr rfl))
    (pss_cons (ps_setLc (i := 9) (own := [("row", 10)]) rfl sc_law.nd rfl rfl (sw_true rfl rfl rfl (by decide +kernel)) (pi_list (pv 3)) (blkOk_by (own := [("row", 10)]) (N := ["script", "draw", "columns", "rows", "made", "given", "table", "key", "kind", "due", "row", "number", "at", "late"]) (sc := defScope s_law) (by decide +kernel)) (fun _ _ _ _ _ => (pg_name (i := 10) sc_law.nd rfl (by first | exact Or.inl rfl | exact Or.inr rfl))) (fun _ _ _ _ _ => pts_nil) (fun _ _ _ _ _ => (pe_ifExp (pt_cmpR op_eq (pv 8) pe_str (nomark _)) (pe_ix (show IxR _ (rIxT K) from ix_tup) (pv 10) pe_int (fun _ _ => rfl)) (pe_ix (show IxR _ (rIxT K) from ix_tup) (pe_ix (show IxR _ (rIxT K) from ix_tup) (pv 10) pe_int (fun _ _ => rfl)) (by exact (id (α := PE _ _ (tBM K "list" (rIndex K) _ _)) (pe_bm PySem.F.plainAttrs_list PySem.F.slot_list_index PySem.F.type_list_index mt_index (pe_ix (show IxR _ (rIxT K) from ix_tup) (pv 2) pe_int (fun _ _ => rfl)) (pa_cons (pe_slice sl_str (pv 8) (po_some pe_int) po_none) pa_nil)))) (fun _ _ => rfl)))))
    (pss_one (ps_if (PW.pt (pw_or (pt_cmpR (op_neD (hu64 hr)) (pe_lc (own := [("number", 11)]) rfl sc_law.nd (pi_range1 (by rfl) T.z_range (pa_cons (pe_callB call_len_seq (by rfl) T.z_len (by decide +kernel) (pa_cons (pv 3) pa_nil)) pa_nil)) (blkOk_by (own := [("number", 11)]) (N := ["script", "draw", "columns", "rows", "made", "given", "table", "key", "kind", "due", "row", "number", "at", "late"]) (sc := defScope s_law) (by decide +kernel)) (fun _ _ _ _ _ => (pg_name (i := 11) sc_law.nd rfl (by first | exact Or.inl rfl | exact Or.inr rfl))) (fun _ _ _ _ _ => pts_nil) (fun _ _ _ _ _ => (pe_meth (pv 6) T.cl_Table T.q_Table_entity G_Table_entity (hr.mono (by first | decide | omega)) T.b_Table_entity .nil pass0 (pa_cons (pv 11) (pa_cons (pv 8) pa_nil))))) (pv 9) (nomark _)) (pw_or1 (pt_cmpR (op_neD (hu64 hr)) (pe_meth (pv 6) T.cl_Table T.q_Table_entities G_Table_entities (hr.mono (by first | decide | omega)) T.b_Table_entities .nil pass0 (pa_cons (pv 8) pa_nil)) (pe_callTy call_tuple_of (by rfl) T.z_tuple (by decide +kernel) (pa_cons (pe_callB (cr_sortedSet rfl) (by rfl) T.z_sorted (by decide +kernel) (pa_cons (pe_callTy (cr_setI rfl) (by rfl) T.z_set (by decide +kernel) (pa_cons (pv 9) pa_nil)) pa_nil)) pa_nil)) (nomark _))))) (pss_one (ps_ret pe_bl)) pss_nil))))
    (pss_cons (ps_if (PW.pt (pw_and (pt_cmpR (op_neD (hu64 hr)) (pv 3) (pe_lst pa_nil) (nomark _)) (pw_and1 (PW.pt (pw_or (pt_cmpR (op_ownEq G_Table_eq T.q_Table_eq.at_ T.q_Table_eq.fn T.b_Table_eq pass0 (hr.mono (by first | decide | omega))) (pe_make T.mk_Table G_Table_init (hr.mono (by first | decide | omega)) (by rfl) T.m_Table T.b_Table_init .nil L2.passL (pa_cons (pv 4) (pa_cons (pe_slice sl_list (pv 3) (po_some pe_int) po_none) pa_nil))) (pv 6) (nomark _)) (pw_or1 (pt_cmpR (op_ownEq G_Columns_eq T.q_Columns_eq.at_ T.q_Columns_eq.fn T.b_Columns_eq pass0 (hr.mono (by first | decide | omega))) (pe_make T.mk_Columns G_Columns_init (hr.mono (by first | decide | omega)) (by rfl) T.m_Columns T.b_Columns_init .nil L2.passL (pa_cons (pe_ix ix_tup (pv 2) pe_int (fun _ _ => rfl)) (pa_cons (pe_ix ix_tup (pv 2) pe_int (fun _ _ => rfl)) (pa_cons (pe_lst pa_nil) pa_nil)))) (pv 4) (nomark _)))))))) (pss_one (ps_ret pe_bl)) pss_nil)
    (pss_cons (ps_if (pt_cmpR (op_neD (hu64 hr)) (pv 3) (pe_lst pa_nil) (nomark _)) (pss_cons (ps_set (i := 12) sc_law.nd rfl (by first | exact Or.inl rfl | exact Or.inr rfl) (pe_call G__law_take (hr.mono (by first | decide | omega)) (by rfl) T.m__law_take T.F__law_take.kp T.b__law_take .nil pass0 (pa_cons (pv 1) (pa_cons (pe_callB call_len_seq (by rfl) T.z_len (by decide +kernel) (pa_cons (pv 3) pa_nil)) pa_nil))))
    (pss_cons (ps_set (i := 13) sc_law.nd rfl (by first | exact Or.inl rfl | exact Or.inr rfl) (pe_op op_cat (pe_op op_cat (pe_op op_cat (pe_slice sl_list (pv 3) po_none (po_some (pv 12))) (pe_lst (pa_cons (pe_call G__law_bent (hr.mono (by first | decide | omega)) (by rfl) T.m__law_bent T.F__law_bent.kp T.b__law_bent .nil pass0 (pa_cons (pv 1) (pa_cons (pv 2) (pa_cons (pe_ix ix_list (pv 3) (pv 12) (fun _ _ => rfl)) pa_nil)))) pa_nil))) (pe_slice sl_list (pv 3) (po_some (pe_op op_add (pv 12) pe_int)) po_none)) (pe_lst (pa_cons pe_non pa_nil))))
    (pss_cons (ps_if (pt_cmpR (op_neD (hu64 hr)) (LamX.pe_lamcall (T := [(lp, qL), (rp, qR)]) (k := 10) (by rfl) T.m__law_refused T.F__law_refused.kp lkr hcr bnr sc__law_refused rfl visr (refused_givesT (by rfl) (by rfl) T _ _) tb rfl List.mem_cons_self (two_tabs nlr) (hr.mono (by omega)) (LamX.lamS_by (sc := defScope s_law) (by decide +kernel)) rfl (fun _ _ _ _ _ => rfl) (fun A outer s H E f c' hr => (pe_make T.mk_Table G_Table_init (hr.mono (by first | decide | omega)) (by rfl) T.m_Table T.b_Table_init .nil pass_lam (pa_cons (pv 4) (pa_cons (pv 13) pa_nil))))) (pe_tup (pa_cons pe_str (pa_cons (pv 12) pa_nil))) (nomark _)) (pss_one (ps_ret pe_bl)) pss_nil)
    (pss_one (ps_if (pt_cmpR (op_neD (hu64 hr)) (LamX.pe_lamcall (T := [(lp, qL), (rp, qR)]) (k := 10) (by rfl) T.m__law_refused T.F__law_refused.kp lkr hcr bnr sc__law_refused rfl visr (refused_givesT (by rfl) (by rfl) T _ _) tb rfl List.mem_cons_self (two_tabs nlr) (hr.mono (by omega)) (LamX.lamS_by (sc := defScope s_law) (by decide +kernel)) rfl (fun _ _ _ _ _ => rfl) (fun A outer s H E f c' hr => (pe_make T.mk_Table G_Table_init (hr.mono (by first | decide | omega)) (by rfl) T.m_Table T.b_Table_init .nil pass_lam (pa_cons (pv 4) (pa_cons (pe_op op_rep (pe_slice (show SlR _ (rSlL K) from sl_list) (pv 3) po_none (po_some pe_int)) pe_int) pa_nil))))) (pe_tup (pa_cons pe_str (pa_cons pe_non pa_nil))) (nomark _)) (pss_one (ps_ret pe_bl)) pss_nil))))) pss_nil)
    (pss_one (ps_ret (pe_and (pe_cmpR (op_eqD (hu64 hr)) (LamX.pe_lamcall (T := [(lp, qL), (rp, qR)]) (k := 10) (by rfl) T.m__law_refused T.F__law_refused.kp lkr hcr bnr sc__law_refused rfl visr (refused_givesT (by rfl) (by rfl) T _ _) tb rfl List.mem_cons_self (two_tabs nlr) (hr.mono (by omega)) (LamX.lamS_by (sc := defScope s_law) (by decide +kernel)) rfl (fun _ _ _ _ _ => rfl) (fun A outer s H E f c' hr => (pe_make T.mk_Table G_Table_init (hr.mono (by first | decide | omega)) (by rfl) T.m_Table T.b_Table_init .nil pass_lam (pa_cons (pv 4) (pa_cons pe_non pa_nil))))) (pe_tup (pa_cons pe_str (pa_cons pe_non pa_nil))) (nomark _)) (pe_one (pe_call G__law_columns_right (hr.mono (by first | decide | omega)) (by rfl) T.m__law_columns_right T.F__law_columns_right.kp T.b__law_columns_right .nil pass0 (pa_cons (pv 1) (pa_cons (pv 2) pa_nil)))))))))))))))))))), ?_⟩
  -- draw = [script, 0]
  refine ⟨_, rfl, (by show 2 ≤ sizeLine; decide), fun d fd => ?_⟩
  have s0 := same_new fd (.lst [.ref a, .int 0])
  have hD0 : Drw K (upd H d (.lst [.ref a, .int 0])) d := ⟨a, ns, 0, upd_same, hF.same s0, len⟩
  have tb0 := tabs.ext s0
  generalize upd H d (.lst [.ref a, .int 0]) = H0 at *
  -- columns = ..; rows = ..
  refine ⟨_, rfl, d, rfl, hD0, fun cl hs as ss H1 mh ma ms hD1 b1 c1 => ?_⟩
  have tb1 := tabs_but tb0 hD0 b1
  refine ⟨_, rfl, _, rfl, d, cl, hs, as, ss, rfl, hD1, c1, mh, ma, ms, fun p xs rs H2 hD2 b2 np fp ep dx few good => ?_⟩
  have tb2 := tabs_but tb1 hD1 b2
  have c2 := c1.but b2
  have nol := rows_noL good
  obtain ⟨sh1, sh2⟩ := rows_shaped good
  have ms0 : ss ∈ [] :: ssL := List.mem_cons_of_mem _ ms
  -- made = Columns(tuple(columns[0]), columns[1], columns[2])
  dsimp only
  refine seq_cut (fun σ' H' => ∃ c : Addr, σ' = [some (.ref a), some (.ref d), some (.ref cl), some (.ref p), some (.ref c), none, none, none, none, none, none, none, none, none] ∧ Same H2 H' ∧ ColsAt K T.c_Columns H' c hs (sortA as) ss ∧ ColsOk hs (sortA as) ss) (fun σ' H3 h => ?_) (fun tail => ?_)
  rotate_left
  · obtain ⟨l, a1, s1, e1, _, _, _, _, q1, q2, q3⟩ := c2
    refine ⟨_, rfl, cl, _, _, _, rfl, rfl, SqT.of e1, atI_nat (j := 0) rfl, l, _, rfl, .inl q1, fun t1 H3 g3 et => ?_⟩
    have g3 : Same H2 H3 := g3
    refine ⟨_, rfl, cl, _, _, _, rfl, rfl, SqT.of (g3 _ _ e1), atI_nat (j := 1) rfl, ?_⟩
    refine ⟨_, rfl, cl, _, _, _, rfl, rfl, SqT.of (g3 _ _ e1), atI_nat (j := 2) rfl, ?_⟩
    intro x dx' hx hdx ne
    exact cols_made hx hdx ne mh ma ms0 (.inr et) (g3 _ _ q2) (g3.seq q3) fun H4 g4 hc ok => ⟨rfl, tail _ _ ⟨x, rfl, g3.trans g4, hc, ok⟩⟩
  obtain ⟨c, rfl, g3, hc3, cok⟩ := h
  have hD3 := hD2.same g3
  have c3 := c2.but (Same.but g3)
  have tb3 := tb2.ext g3
  have ep3 := g3 _ _ ep
  have dx3 := dps_same g3 _ _ dx
  -- given, table, given.append(None)
  refine seq_cut3 (fun σ' H' => ∃ gv t : Addr, ∃ zs : List V, σ' = [some (.ref a), some (.ref d), some (.ref cl), some (.ref p), some (.ref c), some (.ref gv), some (.ref t), none, none, none, none, none, none, none] ∧ Wd K T.c_Columns T.c_Table [(lp, qL), (rp, qR)] d cl p c t hs as ss xs zs rs H') (fun σ' H4 h => ?_) (fun tail => ?_)
  rotate_left
  · refine ⟨_, rfl, p, xs, rfl, .inl (SqL.of ep3), fun gv fg => ?_⟩
    have s4 := same_new fg (.lst xs)
    have eg : upd H3 gv (.lst xs) gv = some (.lst xs) := upd_same
    generalize upd H3 gv (.lst xs) = H4 at *
    refine ⟨_, rfl, _, rfl, ?_⟩
    intro x dx' hx hdx ne
    refine tab_made hx hdx ne (ColsAt.same s4 hc3) (.inl (SqL.of eg)) (dps_same s4 _ _ dx3) good few fun zs H5 s5 ht dz => ⟨rfl, ?_⟩
    have eg5 := s5 _ _ eg
    refine ⟨_, rfl, .inl ⟨rfl, xs, SqL.of eg5⟩, gv, xs, .non, rfl, rfl, eg5, ?_, ?_⟩
    · have := dps_len dx
      rw [List.length_map] at this
      have : xs.length ≤ 1000 := by omega
      exact small1000 this
    have s36 : Same H3 (upd H5 gv (.lst (xs ++ [.non]))) := fun b o hb => by
      rw [upd_ne (ne_of_none hb fg)]
      exact s5 _ _ (s4 _ _ hb)
    obtain ⟨dt, tt, ht1, ht2⟩ := ht
    refine tail _ _ ⟨gv, x, zs, rfl, hD3.same s36, c3.but (Same.but s36), np, s36 _ _ ep3, dps_same s36 _ _ dx3, ColsAt.same s36 hc3, ⟨dt, tt, ?_, TK.put eg5 _ _ ht2⟩, dps_tups (TK.put eg5) _ _ nol dz, tb3.ext s36⟩
    rw [upd_ne (ne_of ht1 eg5 (by intro z; cases z))]
    exact ht1
  obtain ⟨gv, t, zs, rfl, wd⟩ := h
  clear hD3 c3 tb3 ep3 dx3 hc3 g3 hD2 c2 tb2 ep dx fp b2 hD1 c1 tb1 b1 hD0 tb0 s0 fd
  -- the columns' parts
  refine seq_cut (fun σ' H' => σ' = [some (.ref a), some (.ref d), some (.ref cl), some (.ref p), some (.ref c), some (.ref gv), some (.ref t), none, none, none, none, none, none, none] ∧ Wd K T.c_Columns T.c_Table [(lp, qL), (rp, qR)] d cl p c t hs as ss xs zs rs H') (fun σ' H5 h => ?_) (fun tail => ?_)
  rotate_left
  · obtain ⟨l, a1, s1, e1, _, _, _, _, q1, q2, q3⟩ := wd.cols
    obtain ⟨dxc, th, D, u, m1, m2, m3, m4⟩ := wd.made
    have shH : SeqAt.shaped (.tuple (hs.map PyData.str)) = true := (strs_shaped fun n hn => (name_cps (cok.nh n hn)).2.2).1
    have shS : SeqAt.shaped (.tuple (ss.map PyData.str)) = true := (strs_shaped fun n hn => (name_cps (cok.ns n hn)).2.2).1
    have shA : SeqAt.shaped (.list ((sortS (as.map Prod.fst)).map PyData.str)) = true := (strs_shaped fun n hn => by
      refine (name_cps (cok.na n ?_)).2.2
      unfold sortA
      rw [List.map_map]
      exact List.mem_map.mpr ⟨n, hn, rfl⟩).2
    refine ⟨_, rfl, c, T.c_Columns, dxc, _, _, rfl, m1, T.cl_Columns, T.n_Columns_hashed, look3.1, ?_⟩
    refine ⟨_, rfl, c, dxc, _, rfl, m1, c, hs, sortA as, ss, rfl, wd.made, fun q hq => ?_⟩
    have z1 := same_new hq (.dK (kvsOf (sortA as)))
    have eq1 : upd H4 q (.dK (kvsOf (sortA as))) q = some (.dK (kvsOf (sortA as))) := upd_same
    have nq : q ≠ a1 := fun z => ne_of_none q2 hq z.symm
    generalize upd H4 q (.dK (kvsOf (sortA as))) = G1 at *
    refine ⟨_, rfl, c, T.c_Columns, dxc, _, _, rfl, z1 _ _ m1, T.cl_Columns, T.n_Columns_summed, look3.2.2, (by show 3 ≤ sizeLine; decide), fun tu htu => ?_⟩
    have z2 := same_new htu (.tup [.ref th, .ref q, .ref u])
    have eu2 : upd G1 tu (.tup [.ref th, .ref q, .ref u]) tu = some (.tup [.ref th, .ref q, .ref u]) := upd_same
    generalize upd G1 tu (.tup [.ref th, .ref q, .ref u]) = G2 at *
    have z12 := z1.trans z2
    refine ⟨_, rfl, cl, _, _, _, rfl, rfl, SqT.of (z12 _ _ e1), atI_nat (j := 0) rfl, l, _, rfl, .inl (z12.seq q1), fun t1 G3 z3 et => ?_⟩
    have z3 : Same G2 G3 := z3
    have z13 := z12.trans z3
    refine ⟨_, rfl, cl, _, _, _, rfl, rfl, SqT.of (z13 _ _ e1), atI_nat (j := 1) rfl, ?_⟩
    refine ⟨_, rfl, cl, _, _, _, rfl, rfl, SqT.of (z13 _ _ e1), atI_nat (j := 2) rfl, s1, _, rfl, .inl (z13.seq q3), fun t2 G4 z4 et2 => ⟨(by show 3 ≤ sizeLine; decide), fun tv htv => ?_⟩⟩
    have z4 : Same G3 G4 := z4
    have z5 := same_new htv (.tup [.ref t1, .ref a1, .ref t2])
    have ev5 : upd G4 tv (.tup [.ref t1, .ref a1, .ref t2]) tv = some (.tup [.ref t1, .ref a1, .ref t2]) := upd_same
    generalize upd G4 tv (.tup [.ref t1, .ref a1, .ref t2]) = G5 at *
    have z45 := z4.trans z5
    have z35 := z3.trans z45
    have z15 := z13.trans z45
    refine ⟨tu, tv, _, _, rfl, rfl, SqT.of (z35 _ _ eu2), SqT.of ev5, rfl, fun j x y hx hy => ?_, false, rfl, iteF ?_⟩
    · match j, hx, hy with
      | 0, hx, hy =>
        cases hx
        cases hy
        exact like_self (.tup (m2.same z15).sq (dp_strs _)) (.tup (et.same z45).sq (dp_strs _)) shH
      | 1, hx, hy =>
        cases hx
        cases hy
        exact like_asked nq (z35 _ _ (z2 _ _ eq1)) (z15 _ _ q2)
      | 2, hx, hy =>
        cases hx
        cases hy
        exact like_self (.tup (Same.tup z15 m4) (dp_strs _)) (.tup (et2.same z5).sq (dp_strs _)) shS
      | j + 3, hx, hy => simp at hx
    refine ⟨_, rfl, c, dxc, _, rfl, z15 _ _ m1, c, hs, sortA as, ss, rfl, ColsAt.same z15 wd.made, fun q6 hq6 => ⟨q6, _, rfl, Rd.of upd_same, fun p7 hp7 => ?_⟩⟩
    have z6 := same_new hq6 (.dK (kvsOf (sortA as)))
    generalize upd G5 q6 (.dK (kvsOf (sortA as))) = G6 at *
    rw [keys_sorted]
    have z7 := same_new hp7 (.lst ((sortS (as.map Prod.fst)).map V.str))
    have e7 : upd G6 p7 (.lst ((sortS (as.map Prod.fst)).map V.str)) p7 = some (.lst ((sortS (as.map Prod.fst)).map V.str)) := upd_same
    generalize upd G6 p7 (.lst ((sortS (as.map Prod.fst)).map V.str)) = G7 at *
    have z17 := z15.trans (z6.trans z7)
    have la := cok.la
    rw [sorted_len] at la
    refine ⟨_, rfl, cl, _, _, _, rfl, rfl, SqT.of (z17 _ _ e1), atI_nat (j := 1) rfl, a1, kvsOf as, as.map Prod.fst, rfl, Rd.of (z17 _ _ q2), keys_kvs as, by rw [List.length_map]; omega, fun ys p8 pe so hp8 => ?_⟩
    obtain rfl := sort_eq pe so
    have z8 := same_new hp8 (.lst ((sortS (as.map Prod.fst)).map V.str))
    refine ne_self (Q := fun b H' => if b = true then _ else _) (.lst (SqL.of (z8 _ _ e7)) (dp_strs _)) (.lst (SqL.of upd_same) (dp_strs _)) shA (iteF (next_of (tail _ _ ⟨rfl, wd.same (z17.trans z8)⟩)))
  obtain ⟨rfl, wd⟩ := h
  -- kinds, made != Columns(..)
  refine seq_cut (fun σ' H' => (∃ z7 : Option V, σ' = [some (.ref a), some (.ref d), some (.ref cl), some (.ref p), some (.ref c), some (.ref gv), some (.ref t), z7, none, none, none, none, none, none]) ∧ Wd K T.c_Columns T.c_Table [(lp, qL), (rp, qR)] d cl p c t hs as ss xs zs rs H') (fun σ' H6 h => ?_) (fun tail => ?_)
  rotate_left
  · obtain ⟨l, a1, s1, e1, _, _, _, _, q1, q2, q3⟩ := wd.cols
    obtain ⟨dxc, th, D, u, m1, m2, m3, m4⟩ := wd.made
    have lh : hs.length ≤ 2 := cok.lh
    have kok : ∀ n ∈ kindsL hs, PyData.strOk n = true := fun n hn => kinds_ok hs mh n ((sortS_perm _).mem_iff.mp hn)
    have shK := (strs_shaped kok).1
    refine ⟨_, rfl, c, dxc, _, rfl, m1, look_kinds, c, hs, sortA as, ss, rfl, wd.made, cok, fun q G1 z1 eq1 => ?_⟩
    refine ⟨(by show 1 ≤ sizeLine; decide), fun l1 f1 => ?_⟩
    have z2 := same_new f1 (.lst [V.str "block"])
    have el2 : upd G1 l1 (.lst [V.str "block"]) l1 = some (.lst [V.str "block"]) := upd_same
    generalize upd G1 l1 (.lst [V.str "block"]) = G2 at *
    have z12 := z1.trans z2
    refine ⟨_, rfl, cl, _, _, _, rfl, rfl, SqT.of (z12 _ _ e1), atI_nat (j := 0) rfl, l, rfl, ⟨_, z12.seq q1⟩, fun L hL => ?_⟩
    refine lc_it (walk_list (xs := hs.map V.str)) (fun i H' => Same G2 H' ∧ H' L = some (.lst ((hs.take i).map fun n => V.str (("key " : Str) ++ n)))) ⟨same_new hL _, upd_same⟩ (fun i H' _ z => z.1.seq (z12.seq q1)) ?_ ?_
    · rintro i x H' H'' hi ⟨g, e⟩ ⟨eh, hx⟩
      subst eh
      rw [List.getElem?_map] at hx
      obtain ⟨n, hn, rfl⟩ := Option.map_eq_some_iff.mp hx
      have hl := (name_cps (cok.nh n (List.mem_of_getElem? hn))).2.1
      refine ⟨rfl, _, rfl, _, _, rfl, rfl, ?_, _, e, ?_, same_upd g hL, ?_⟩
      · refine Nat.le_of_lt (small1001 ?_)
        have e4 : (("key " : Str)).length = 4 := by decide +kernel
        rw [e4]
        omega
      · rw [List.length_map, List.length_take]
        exact small1000 (by omega)
      · rw [upd_same, take_more' hn, List.map_append]
        rfl
    rintro G3 ⟨g3, e3⟩
    rw [List.length_map, List.take_of_length_le (Nat.le_refl _)] at e3
    refine ⟨l1, L, _, _, rfl, rfl, g3 _ _ el2, e3, ?_, fun l2 f2 => ?_⟩
    · rw [List.length_map]
      exact Nat.le_of_lt (small1000 (by show 1 + hs.length ≤ 1000; omega))
    have em : ([V.str "block"] ++ hs.map fun n => V.str (("key " : Str) ++ n)) = (("block" : Str) :: hs.map fun n => ("key " : Str) ++ n).map V.str := by
      rw [List.map_cons, List.map_map]
      rfl
    rw [em]
    have z4 := same_new f2 (.lst ((("block" : Str) :: hs.map fun n => ("key " : Str) ++ n).map V.str))
    have e4 : upd G3 l2 (.lst ((("block" : Str) :: hs.map fun n => ("key " : Str) ++ n).map V.str)) l2 = some (.lst ((("block" : Str) :: hs.map fun n => ("key " : Str) ++ n).map V.str)) := upd_same
    generalize upd G3 l2 (.lst ((("block" : Str) :: hs.map fun n => ("key " : Str) ++ n).map V.str)) = G4 at *
    have z14 := z12.trans (g3.trans z4)
    refine ⟨l2, _, rfl, SqL.of e4, ?_, fun ys l3 pe so f3 => ?_⟩
    · rw [List.length_cons, List.length_map]
      omega
    have ye : ys = kindsL hs := sort_eq pe so
    subst ye
    have z5 := same_new f3 (.lst ((kindsL hs).map V.str))
    refine ⟨l3, _, rfl, .inl ⟨SqL.of upd_same, fun l4 f4 => ?_⟩⟩
    have z6 := same_new f4 (.tup ((kindsL hs).map V.str))
    have z16 := z14.trans (z5.trans z6)
    have eq6 := (g3.trans (z4.trans (z5.trans z6))) _ _ (z2 _ _ eq1)
    refine ne_self (Q := fun b H' => if b = true then _ else _) (.tup (SqT.of eq6) (dp_strs _)) (.tup (SqT.of upd_same) (dp_strs _)) shK (iteF ?_)
    generalize upd (upd G4 l3 (.lst ((kindsL hs).map V.str))) l4 (.tup ((kindsL hs).map V.str)) = G6 at *
    refine ⟨_, rfl, ?_⟩
    refine ⟨_, rfl, cl, _, _, _, rfl, rfl, SqT.of (z16 _ _ e1), atI_nat (j := 0) rfl, ?_⟩
    refine ⟨_, rfl, cl, _, _, _, rfl, rfl, SqT.of (z16 _ _ e1), atI_nat (j := 1) rfl, ?_⟩
    refine ⟨_, rfl, cl, _, _, _, rfl, rfl, SqT.of (z16 _ _ e1), atI_nat (j := 2) rfl, ?_⟩
    intro x dx' hx hdx ne
    refine cols_made hx hdx ne mh ma ms0 (.inl (z16.seq q1)) (z16 _ _ q2) (z16.seq q3) fun G7 z7 hc7 ok7 => ⟨rfl, ?_⟩
    have z17 := z16.trans z7
    obtain ⟨dx7, t7, D7, u7, n1, n2, n3, n4⟩ := hc7
    refine ⟨c, x, dxc, dx7, _, _, rfl, rfl, z17 _ _ m1, n1, c, x, hs, hs, sortA as, ss, ss, rfl, ColsAt.same z17 wd.made, ⟨dx7, t7, D7, u7, n1, n2, n3, n4⟩, cok, ok7, true, ?_, false, rfl, ?_⟩
    · rw [decide_eq_true rfl, decide_eq_true rfl]
      rfl
    · exact iteF (next_of (tail _ _ ⟨⟨_, rfl⟩, wd.same z17⟩))
  obtain ⟨⟨z7, rfl⟩, wd⟩ := h
  -- the table's rows, columns, length; another table of the same
  have lxs : zs.length = xs.length ∧ xs.length ≤ 6 ∧ xs.length = rs.length := by
    have l1 := dps_len wd.dps
    have l2 := dps_len wd.dpt
    rw [List.length_map] at l1 l2
    omega
  refine seq_cut (fun σ' H' => σ' = [some (.ref a), some (.ref d), some (.ref cl), some (.ref p), some (.ref c), some (.ref gv), some (.ref t), z7, none, none, none, none, none, none] ∧ Wd K T.c_Columns T.c_Table [(lp, qL), (rp, qR)] d cl p c t hs as ss xs zs rs H') (fun σ' H7 h => ?_) (fun tail => ?_)
  rotate_left
  · obtain ⟨dt, tt, t1, t2⟩ := wd.tab
    obtain ⟨dxc, th, D, u, m1, m2, m3, m4⟩ := wd.made
    refine ⟨_, rfl, t, T.c_Table, dt, _, _, rfl, t1, T.cl_Table, T.n_Table_rows, lookT.2, ?_⟩
    refine ⟨_, rfl, p, xs, rfl, .inl ⟨SqL.of wd.ep, fun l1 f1 => ?_⟩⟩
    have g1 := same_new f1 (.tup xs)
    refine ne_self (Q := fun b H' => if b = true then _ else _) (.tup (Same.tup g1 t2) (dps_same g1 _ _ wd.dpt)) (.tup (SqT.of upd_same) (dps_same g1 _ _ wd.dps)) sh1 (iteF ?_)
    generalize upd H6 l1 (.tup xs) = G1 at *
    refine ⟨_, rfl, t, T.c_Table, dt, _, _, rfl, g1 _ _ t1, T.cl_Table, T.n_Table_columns, lookT.1, ?_⟩
    refine ⟨_, rfl, c, c, dxc, dxc, _, _, rfl, rfl, g1 _ _ m1, g1 _ _ m1, c, c, hs, hs, sortA as, ss, ss, rfl, ColsAt.same g1 wd.made, ColsAt.same g1 wd.made, cok, cok, true, by rw [decide_eq_true rfl, decide_eq_true rfl]; rfl, false, rfl, iteF ?_⟩
    refine ⟨_, rfl, t, dt, _, rfl, g1 _ _ t1, t, c, zs, rfl, ⟨dt, tt, g1 _ _ t1, Same.tup g1 t2⟩, zs.length, rfl, by omega, ?_⟩
    refine ⟨_, rfl, p, xs, rfl, .inl (SqL.of (g1 _ _ wd.ep)), rfl, _, rfl, ?_⟩
    rw [len_dec, decide_eq_true lxs.1]
    refine iteF ?_
    refine ⟨_, rfl, _, rfl, _, rfl, p, xs, rfl, .inl ⟨SqL.of (g1 _ _ wd.ep), fun l2 f2 => ?_⟩⟩
    have g2 := g1.trans (same_new f2 (.tup xs))
    have e2 : upd G1 l2 (.tup xs) l2 = some (.tup xs) := upd_same
    generalize upd G1 l2 (.tup xs) = G2 at *
    intro x dx' hx hdx ne
    refine tab_made hx hdx ne (ColsAt.same g2 wd.made) (.inr (SqT.of e2)) (dps_same g2 _ _ wd.dps) good few fun zs2 G3 g3 ht dz => ⟨rfl, ?_⟩
    have g13 := g2.trans g3
    obtain ⟨dt2, tt2, h1, h2⟩ := ht
    refine ⟨t, x, dt, dt2, _, _, rfl, rfl, g13 _ _ t1, h1, t, x, c, c, hs, hs, sortA as, ss, ss, zs, zs2, _, _, rfl, TabAt.same g13 wd.tab, ⟨dt2, tt2, h1, h2⟩, ColsAt.same g13 wd.made, ColsAt.same g13 wd.made, cok, cok, dps_same g13 _ _ wd.dpt, dz, sh1, sh1, true, ?_, false, rfl, ?_⟩
    · rw [decide_eq_true rfl, decide_eq_true rfl, eqva_self sh1]
      rfl
    · exact iteF (next_of (tail _ _ ⟨rfl, wd.same g13⟩))
  obtain ⟨rfl, wd⟩ := h
  -- for kind in made.kinds(): ..
  refine seq_cut (fun σ' H' => (∃ z8 z9 z10 z11 : Option V, σ' = [some (.ref a), some (.ref d), some (.ref cl), some (.ref p), some (.ref c), some (.ref gv), some (.ref t), z7, z8, z9, z10, z11, none, none]) ∧ Wd K T.c_Columns T.c_Table [(lp, qL), (rp, qR)] d cl p c t hs as ss xs zs rs H') (fun σ' H8 h => ?_) (fun tail => ?_)
  rotate_left
  · have made7 := wd.made
    obtain ⟨dxc, th, D, u, m1, m2, m3, m4⟩ := wd.made
    have lens : ∀ r ∈ rs, r.ks.length = hs.length := fun r hr => (good r hr).len
    refine ⟨_, rfl, c, dxc, _, rfl, m1, look_kinds, c, hs, sortA as, ss, rfl, made7, cok, fun q G1 z1 eq1 => ⟨q, rfl, ⟨_, SqT.of eq1⟩, ?_⟩⟩
    refine for_tup (K := K) (a := q) (xs := (kindsL hs).map V.str) (fun j σ' H' => (∃ z8 z9 z10 z11 : Option V, σ' = [some (.ref a), some (.ref d), some (.ref cl), some (.ref p), some (.ref c), some (.ref gv), some (.ref t), z7, z8, z9, z10, z11, none, none]) ∧ Wd K T.c_Columns T.c_Table [(lp, qL), (rp, qR)] d cl p c t hs as ss xs zs rs H' ∧ H' q = some (.tup ((kindsL hs).map V.str))) ⟨⟨_, _, _, _, rfl⟩, wd.same z1, eq1⟩ (fun j σ' H' _ z => SqT.of z.2.2) ?_ (fun σ' H' z => tail _ _ ⟨z.1, z.2.1⟩)
    clear wd m1 m2 m3 m4 z1 eq1 made7 tail
    rintro j x σ' H1 hx ⟨⟨z8, z9, z10, z11, rfl⟩, wd, eq⟩
    rw [List.getElem?_map] at hx
    obtain ⟨kd, hkd, rfl⟩ := Option.map_eq_some_iff.mp hx
    obtain ⟨o, ko⟩ := kind_ats hs mh kd (List.mem_of_getElem? hkd)
    let es : List Int := rs.map fun r => entI r o
    have les : es.length = rs.length := List.length_map ..
    obtain ⟨l, a1, s1, e1, _, _, _, _, q1, q2, q3⟩ := wd.cols
    -- due
    refine seq_cut (fun σ' H' => ∃ (z10 : Option V) (L : Addr), σ' = [some (.ref a), some (.ref d), some (.ref cl), some (.ref p), some (.ref c), some (.ref gv), some (.ref t), z7, some (.str kd), some (.ref L), z10, z11, none, none] ∧ Same H1 H' ∧ H' L = some (.lst (es.map V.int))) (fun σ' H2 h => ?_) (fun tail => ?_)
    rotate_left
    · refine ⟨_, rfl, p, rfl, ⟨_, SqL.of wd.ep⟩, fun L hL => ?_⟩
      refine lc_it (walk_list (xs := xs)) (fun i H' => Same H1 H' ∧ H' L = some (.lst ((es.take i).map V.int))) ⟨same_new hL _, upd_same⟩ (fun i H' _ z => SqL.of (z.1 _ _ wd.ep)) ?_ ?_
      · rintro i x H' H'' hi ⟨g, e⟩ ⟨eh, hx⟩
        subst eh
        have hi2 : i < rs.length := by omega
        have hri : rs[i]? = some rs[i] := List.getElem?_eq_getElem hi2
        obtain ⟨v, hv, dv⟩ := dps_get wd.dps (show (rs.map Row4.d)[i]? = some rs[i].d by rw [List.getElem?_map, hri]; rfl)
        rw [hv] at hx
        cases hx
        obtain ⟨ra, ys, rfl, ha, dys⟩ := dp_tup dv
        obtain ⟨y1, y2, y3, y4, rfl, w1, w2, _, _⟩ := dps_four dys
        obtain rfl := dp_int w1
        obtain ⟨ka, kv, rfl, hka, dka⟩ := dp_tup w2
        have hes : es[i]? = some (entI rs[i] o) := by
          rw [List.getElem?_map, hri]
          rfl
        have done_ : ∀ (y : V), y = V.int (entI rs[i] o) → ∃ (ys : List V), H'' L = some (.lst ys) ∧ ys.length < sizeLine ∧ (Same H1 (upd H'' L (.lst (ys ++ [y]))) ∧ upd H'' L (.lst (ys ++ [y])) L = some (.lst ((es.take (i + 1)).map V.int))) := fun y ey => by
          subst ey
          refine ⟨_, e, ?_, same_upd g hL, ?_⟩
          · rw [List.length_map, List.length_take]
            exact small1000 (by omega)
          · rw [upd_same, take_more' hes, List.map_append]
            rfl
        refine ⟨rfl, _, rfl, rfl, ⟨_, rfl, ?_⟩⟩
        have leni := lens _ (List.getElem_mem hi2)
        cases ko with
        | block =>
          show if (decide (V.str "block" = V.str "block")) = true then _ else _
          rw [decide_eq_true rfl]
          exact iteT ⟨_, rfl, ra, _, _, _, rfl, rfl, Same.tup g ha, atI_nat (j := 0) rfl, done_ _ rfl⟩
        | @key j' n at_ first len8 =>
          show if (decide (V.str (("key " : Str) ++ n) = V.str "block")) = true then _ else _
          rw [decide_eq_false (key_block n)]
          refine iteF ⟨_, rfl, ra, _, _, _, rfl, rfl, Same.tup g ha, atI_nat (j := 1) rfl, ?_⟩
          have hkj : rs[i].ks[j']? = some (rs[i].ks.getD j' 0) := by
            have lt := (List.getElem?_eq_some_iff.mp at_).1
            rw [List.getD_eq_getElem?_getD, List.getElem?_eq_getElem (by omega)]
            rfl
          refine ⟨_, rfl, cl, _, _, _, rfl, rfl, SqT.of (g _ _ e1), atI_nat (j := 0) rfl, .inl ⟨rfl, _, g.seq q1⟩, _, rfl, ⟨_, rfl, ?_⟩⟩
          refine ⟨_, rfl, Nat.le_of_lt (small1001 ?_), ?_⟩
          · show (("key " : Str) ++ n).cps.size ≤ 1010
            have el : (("key " : Str) ++ n).cps = ("key " : Str).cps ++ n.cps := rfl
            have e5 : (("key " : Str)).cps.size = 4 := by decide +kernel
            have e6 : n.cps.size ≤ 8 := len8
            rw [el, Array.size_append, e5]
            omega
          · rw [cut_key]
            refine ⟨l, hs.map V.str, .str n, j', .str n, rfl, rfl, g.seq q1, rfl, flat_str hs, by rw [List.getElem?_map, at_]; rfl, eqV_refl n, fun m z' hm hz => ?_, ?_⟩
            · rw [List.getElem?_map] at hz
              obtain ⟨n', hn', rfl⟩ := Option.map_eq_some_iff.mp hz
              exact eqV_no fun z => first m hm (by rw [hn', z])
            · exact ⟨ka, _, _, _, rfl, rfl, Same.tup g hka, atI_nat (dk_get (dps_same g _ _ dka) hkj), done_ _ rfl⟩
      · rintro G3 ⟨g3, e3⟩
        rw [List.take_of_length_le (by omega)] at e3
        exact tail _ _ ⟨_, L, rfl, g3, e3⟩
    obtain ⟨z10, L, rfl, g2, eL⟩ := h
    have wd := wd.same g2
    have eq := g2 _ _ eq
    obtain ⟨dt, tt, t1, t2⟩ := wd.tab
    refine ⟨_, rfl, p, xs, rfl, .inl (SqL.of wd.ep), (xs.length : Int), rfl, by omega, by omega, fun D2 hD2 => ?_⟩
    refine lc_it (walk_range (lo := 0) (n := ((xs.length : Int)).toNat)) (fun i H' => Same H2 H' ∧ H' D2 = some (.lst ((es.take i).map V.int))) ⟨same_new hD2 _, upd_same⟩ (fun _ _ _ _ => trivial) ?_ ?_
    · rintro i x H' H'' hi ⟨g, e⟩ ⟨eh, ex⟩
      subst eh
      have hi2 : i < rs.length := by omega
      have hri : rs[i]? = some rs[i] := List.getElem?_eq_getElem hi2
      have hes : es[i]? = some (entI rs[i] o) := by
        rw [List.getElem?_map, hri]
        rfl
      have ex : x = V.int (i : Int) := by
        rw [ex]
        show V.int (0 + (i : Int)) = _
        rw [Int.zero_add]
      subst ex
      refine ⟨rfl, _, rfl, t, dt, _, rfl, g _ _ t1, look_ent.1, _, rfl, _, rfl, t, c, hs, sortA as, ss, zs, rs, i, rs[i], kd, o, rfl, TabAt.same g wd.tab, ColsAt.same g wd.made, dps_same g _ _ wd.dpt, hri, lens _ (List.getElem_mem hi2), ko, _, e, ?_, same_upd g hD2, ?_⟩
      · rw [List.length_map, List.length_take]
        exact small1000 (by omega)
      · rw [upd_same, take_more' hes, List.map_append]
        rfl
    rintro G3 ⟨g3, e3⟩
    have elen : ((xs.length : Int)).toNat = es.length := by omega
    rw [elen, List.take_of_length_le (Nat.le_refl _)] at e3
    refine ⟨_, rfl, ne_self (Q := fun b H' => if b = true then _ else _) (.lst (SqL.of e3) (dp_ints _)) (.lst (SqL.of (g3 _ _ eL)) (dp_ints _)) (ints_shaped _).2 (iteF ?_)⟩
    refine ⟨_, rfl, t, dt, _, rfl, g3 _ _ t1, look_ent.2, _, rfl, t, c, hs, sortA as, ss, zs, rs, kd, o, rfl, TabAt.same g3 wd.tab, ColsAt.same g3 wd.made, dps_same g3 _ _ wd.dpt, by omega, lens, ko, fun ns2 q5 G5 g5 so mem l60 sq => ?_⟩
    have g35 := g3.trans g5
    refine ⟨_, rfl, L, es, rfl, SqL.of (g35 _ _ eL), by omega, fun S hS => ?_⟩
    have nle := newI_le es es.length
    refine ⟨S, _, _, rfl, upd_same, by omega, fun ns3 p6 so3 mem3 len3 hp6 => ⟨p6, _, rfl, .inl ⟨SqL.of upd_same, fun l7 f7 => ?_⟩⟩⟩
    have g6 := (same_new hS (SetO w S (hasI es es.length) (newI es es.length))).trans ((same_new hp6 (.lst (ns3.map V.int))).trans (same_new f7 (.tup (ns3.map V.int))))
    have e23 : ns2 = ns3 := strict_eq so so3 fun z => (mem z).trans ((hasI_all es z).symm.trans (mem3 z).symm)
    subst e23
    refine ne_self (Q := fun b H' => if b = true then _ else _) (.tup (Same.tup g6 sq) (dp_ints _)) (.tup (SqT.of upd_same) (dp_ints _)) (ints_shaped _).1 (iteF (next_of ?_))
    exact ⟨⟨_, _, _, _, rfl⟩, wd.same (g35.trans g6), (g35.trans g6) _ _ eq⟩
  obtain ⟨⟨z8, z9, z10, z11, rfl⟩, wd⟩ := h
  -- fewer rows, no sums
  refine seq_cut (fun σ' H' => σ' = [some (.ref a), some (.ref d), some (.ref cl), some (.ref p), some (.ref c), some (.ref gv), some (.ref t), z7, z8, z9, z10, z11, none, none] ∧ Wd K T.c_Columns T.c_Table [(lp, qL), (rp, qR)] d cl p c t hs as ss xs zs rs H') (fun σ' H9 h => ?_) (fun tail => ?_)
  rotate_left
  · refine ⟨_, rfl, (by show 0 ≤ sizeLine; decide), fun q hq => ⟨.list (rs.map Row4.d), .list [], .lst (SqL.of (same_new hq _ _ _ wd.ep)) (dps_same (same_new hq _) _ _ wd.dps), .lst (SqL.of upd_same) .nil, sh2, (by decide +kernel), _, rfl, ?_⟩⟩
    have wd := wd.same (same_new hq (.lst []))
    generalize upd H8 q (.lst []) = G0 at *
    by_cases hn0 : rs = []
    · subst hn0
      exact iteF (iteF (next_of (tail _ _ ⟨rfl, wd⟩)))
    obtain ⟨r0, rs', er⟩ := List.exists_cons_of_ne_nil hn0
    have ev : (!PyData.eqv (.list (rs.map Row4.d)) (.list [])) = true := by
      rw [er, rows_cons]
      rfl
    rw [ev]
    have pos : 1 ≤ xs.length := by
      have : rs.length = rs'.length + 1 := by rw [er]; rfl
      omega
    obtain ⟨dt, tt, t1, t2⟩ := wd.tab
    have made0 := wd.made
    obtain ⟨dxc, th, D, u, m1, m2, m3, m4⟩ := wd.made
    obtain ⟨l, a1, s1, e1, _, _, _, _, q1, q2, q3⟩ := wd.cols
    refine iteT ⟨_, rfl, _, rfl, ⟨_, rfl, p, xs, rfl, SqL.of wd.ep, fun l1 f1 => ?_⟩⟩
    rw [(cut_tl xs pos).1]
    have g1 := same_new f1 (.lst (xs.drop 1))
    have el1 : upd G0 l1 (.lst (xs.drop 1)) l1 = some (.lst (xs.drop 1)) := upd_same
    generalize upd G0 l1 (.lst (xs.drop 1)) = G1 at *
    have dd := dps_drop 1 (dps_same g1 _ _ wd.dps)
    rw [← List.map_drop] at dd
    have gd := drop_good good 1
    intro x dx' hx hdx ne
    refine tab_made hx hdx ne (ColsAt.same g1 wd.made) (.inl (SqL.of el1)) dd gd (by rw [List.length_drop]; omega) fun zs2 G2 g2 ht dz => ⟨rfl, ?_⟩
    have g12 := g1.trans g2
    obtain ⟨dt2, tt2, h1, h2⟩ := ht
    refine ⟨_, rfl, x, t, dt2, dt, _, _, rfl, rfl, h1, g12 _ _ t1, x, t, c, c, hs, hs, sortA as, ss, ss, zs2, zs, _, _, rfl, ⟨dt2, tt2, h1, h2⟩, TabAt.same g12 wd.tab, ColsAt.same g12 made0, ColsAt.same g12 made0, cok, cok, dz, dps_same g12 _ _ wd.dpt, (rows_shaped gd).1, sh1, false, ?_, false, rfl, iteF ?_⟩
    · rw [eqv_len (by rw [List.length_map, List.length_map, List.length_drop]; omega), Bool.and_false]
    refine ⟨_, rfl, cl, _, _, _, rfl, rfl, SqT.of (g12 _ _ e1), atI_nat (j := 0) rfl, ?_⟩
    refine ⟨_, rfl, cl, _, _, _, rfl, rfl, SqT.of (g12 _ _ e1), atI_nat (j := 1) rfl, (by show 0 ≤ sizeLine; decide), fun l3 f3 => ?_⟩
    have g3 := g12.trans (same_new f3 (.lst []))
    have el3 : upd G2 l3 (.lst []) l3 = some (.lst []) := upd_same
    generalize upd G2 l3 (.lst []) = G3 at *
    intro x3 dx3 hx3 hdx3 ne3
    refine cols_made (ss := []) hx3 hdx3 ne3 mh ma List.mem_cons_self (.inl (g3.seq q1)) (g3 _ _ q2) (SqL.of el3) fun G4 g4 hc4 ok4 => ⟨rfl, ?_⟩
    have g14 := g3.trans g4
    obtain ⟨dx4, t4, D4, u4, n1, n2, n3, n4⟩ := hc4
    refine ⟨_, rfl, x3, c, dx4, dxc, _, _, rfl, rfl, n1, g14 _ _ m1, x3, c, hs, hs, sortA as, [], ss, rfl, ⟨dx4, t4, D4, u4, n1, n2, n3, n4⟩, ColsAt.same g14 made0, ok4, cok, false, ?_, false, rfl, iteF (next_of (tail _ _ ⟨rfl, wd.same g14⟩))⟩
    rw [decide_eq_false (not_nil ss ms), Bool.and_false]
  obtain ⟨rfl, wd⟩ := h
  -- a row that is bent, too many rows
  refine seq_cut (fun σ' H' => (∃ z12 z13 : Option V, σ' = [some (.ref a), some (.ref d), some (.ref cl), some (.ref p), some (.ref c), some (.ref gv), some (.ref t), z7, z8, z9, z10, z11, z12, z13]) ∧ Wd K T.c_Columns T.c_Table [(lp, qL), (rp, qR)] d cl p c t hs as ss xs zs rs H') (fun σ' H10 h => ?_) (fun tail => ?_)
  rotate_left
  · refine ⟨_, rfl, (by show 0 ≤ sizeLine; decide), fun q hq => ⟨.list (rs.map Row4.d), .list [], .lst (SqL.of (same_new hq _ _ _ wd.ep)) (dps_same (same_new hq _) _ _ wd.dps), .lst (SqL.of upd_same) .nil, sh2, (by decide +kernel), _, rfl, ?_⟩⟩
    have wd := wd.same (same_new hq (.lst []))
    generalize upd H9 q (.lst []) = G0 at *
    by_cases hn0 : rs = []
    · subst hn0
      exact iteF (next_of (tail _ _ ⟨⟨_, _, rfl⟩, wd⟩))
    obtain ⟨r0, rs', er⟩ := List.exists_cons_of_ne_nil hn0
    have ev : (!PyData.eqv (.list (rs.map Row4.d)) (.list [])) = true := by
      rw [er, rows_cons]
      rfl
    rw [ev]
    have pos : 1 ≤ xs.length := by
      have : rs.length = rs'.length + 1 := by rw [er]; rfl
      omega
    refine iteT ⟨_, rfl, _, rfl, p, xs, rfl, .inl (SqL.of wd.ep), d, (xs.length : Int), rfl, wd.drw, by omega, fun at_ G1 a0 a1 hD1 b1 => ?_⟩
    have wd := wd.draw nol hD1 b1
    obtain ⟨n, rfl⟩ := Int.eq_ofNat_of_zero_le a0
    have ln : n < xs.length := by omega
    -- late
    dsimp only
    refine seq_cut (fun σ' H' => ∃ (q : Addr) (ys : List V) (e : PyData), σ' = [some (.ref a), some (.ref d), some (.ref cl), some (.ref p), some (.ref c), some (.ref gv), some (.ref t), z7, z8, z9, z10, z11, some (.int (n : Int)), some (.ref q)] ∧ Wd K T.c_Columns T.c_Table [(lp, qL), (rp, qR)] d cl p c t hs as ss xs zs rs H' ∧ q ≠ d ∧ H' q = some (.lst ys) ∧ DpAll K (del H' d) ys (lateD rs n e) ∧ rowD hs.length ((sortA as).map Prod.snd) ss.length e = false ∧ RowOk e) (fun σ' G2 h => ?_) (fun tail2 => ?_)
    rotate_left
    · refine ⟨_, rfl, _, rfl, ⟨_, rfl, p, xs, rfl, SqL.of wd.ep, fun l1 f1 => ?_⟩⟩
      rw [cut_to]
      have nd1 : l1 ≠ d := drw_ne wd.drw f1
      have wd1 := wd.same (same_new f1 (.lst (xs.take n)))
      have el1 : upd G1 l1 (.lst (xs.take n)) l1 = some (.lst (xs.take n)) := upd_same
      generalize upd G1 l1 (.lst (xs.take n)) = G2 at *
      obtain ⟨r, hr⟩ : ∃ r, rs[n]? = some r := ⟨_, List.getElem?_eq_getElem (by omega)⟩
      obtain ⟨v, hv, dv⟩ := dps_get wd1.dps (show (rs.map Row4.d)[n]? = some r.d by rw [List.getElem?_map, hr]; rfl)
      obtain ⟨ra, vs4, rfl, ha, dvs⟩ := dp_tup dv
      refine ⟨_, rfl, _, rfl, _, rfl, _, rfl, p, xs, _, _, rfl, rfl, SqL.of wd1.ep, atI_nat hv, d, cl, ra, hs, as, ss, r, rfl, wd1.drw, wd1.cols, mh, ma, ms, .tup ha dvs, good r (List.mem_of_getElem? hr), fun v e G3 hD3 b3 dv3 bad ok3 => ⟨(by show 1 ≤ sizeLine; decide), fun l2 f2 => ?_⟩⟩
      have wd3 := wd1.draw nol hD3 b3
      have el13 := b3 _ _ nd1 el1
      have s2 := same_new f2 (.lst [v])
      have el2 : upd G3 l2 (.lst [v]) l2 = some (.lst [v]) := upd_same
      generalize upd G3 l2 (.lst [v]) = G4 at *
      have lt1 : (xs.take n).length ≤ 6 := by
        rw [List.length_take]
        omega
      have ld1 : (xs.drop (n + 1)).length ≤ 6 := by
        rw [List.length_drop]
        omega
      refine ⟨l1, l2, _, _, rfl, rfl, s2 _ _ el13, el2, small100 (by show _ + 1 ≤ _; omega), fun l3 f3 => ?_⟩
      have s3 := same_new f3 (.lst (xs.take n ++ [v]))
      have el3 : upd G4 l3 (.lst (xs.take n ++ [v])) l3 = some (.lst (xs.take n ++ [v])) := upd_same
      generalize upd G4 l3 (.lst (xs.take n ++ [v])) = G5 at *
      have s25 := s2.trans s3
      refine ⟨_, rfl, _, rfl, _, _, rfl, rfl, ⟨_, rfl, p, xs, rfl, SqL.of (s25 _ _ wd3.ep), fun l4 f4 => ?_⟩⟩
      rw [cut_from]
      have s4 := same_new f4 (.lst (xs.drop (n + 1)))
      have el4 : upd G5 l4 (.lst (xs.drop (n + 1))) l4 = some (.lst (xs.drop (n + 1))) := upd_same
      generalize upd G5 l4 (.lst (xs.drop (n + 1))) = G6 at *
      refine ⟨l3, l4, _, _, rfl, rfl, s4 _ _ el3, el4, small100 (by rw [List.length_append]; show _ + 1 + _ ≤ _; omega), fun l5 f5 => ?_⟩
      have s5 := same_new f5 (.lst (xs.take n ++ [v] ++ xs.drop (n + 1)))
      have el5 : upd G6 l5 (.lst (xs.take n ++ [v] ++ xs.drop (n + 1))) l5 = some (.lst (xs.take n ++ [v] ++ xs.drop (n + 1))) := upd_same
      generalize upd G6 l5 (.lst (xs.take n ++ [v] ++ xs.drop (n + 1))) = G7 at *
      refine ⟨(by show 1 ≤ sizeLine; decide), fun l6 f6 => ?_⟩
      have s6 := same_new f6 (.lst [.non])
      have el6 : upd G7 l6 (.lst [.non]) l6 = some (.lst [.non]) := upd_same
      generalize upd G7 l6 (.lst [.non]) = G8 at *
      refine ⟨l5, l6, _, _, rfl, rfl, s6 _ _ el5, el6, small100 (by rw [List.length_append, List.length_append]; show _ + 1 + _ + 1 ≤ _; omega), fun l7 f7 => ?_⟩
      have s7 := same_new f7 (.lst (xs.take n ++ [v] ++ xs.drop (n + 1) ++ [.non]))
      have s37 := s25.trans (s4.trans (s5.trans (s6.trans s7)))
      have off3 : DpAll K (del G3 d) xs (rs.map Row4.d) := dps_tups (TK.off hD3) _ _ nol wd3.dps
      have off7 := dps_same (off_same s37) _ _ off3
      refine tail2 _ _ ⟨l7, _, e, rfl, wd3.same s37, drw_ne (hD3.same (s25.trans (s4.trans (s5.trans s6)))) f7, upd_same, dps_app (dps_app (dps_app ?_ (dps_one (dp_same (off_same s37) _ _ dv3))) ?_) (dps_one .non), bad, ok3⟩
      · rw [List.map_take]
        exact dps_take n off7
      · rw [List.map_drop]
        exact dps_drop (n + 1) off7
    obtain ⟨q2, ys, e, rfl, wd, nq2, eq2, dys, bad, ok3⟩ := h
    -- the bent row is told
    obtain ⟨tr1, ro1, le1⟩ := late_bad good few (show n < rs.length by omega) bad ok3
    refine seq_cut (fun σ' H' => σ' = [some (.ref a), some (.ref d), some (.ref cl), some (.ref p), some (.ref c), some (.ref gv), some (.ref t), z7, z8, z9, z10, z11, some (.int (n : Int)), some (.ref q2)] ∧ Wd K T.c_Columns T.c_Table [(lp, qL), (rp, qR)] d cl p c t hs as ss xs zs rs H') (fun σ' G3 h => ?_) (fun tail2 => ?_)
    rotate_left
    · refine ⟨wd.tabs, fun G3 eN tb3 => ?_⟩
      have wd3 := wd.ext nol eN tb3
      have off3 := dps_offd (.ext eN) dys
      have eq3 := eN _ _ eq2 (fun ps z => by cases z)
      refine ⟨_, rfl, _, rfl, ?_⟩
      intro x dx' hx hdx ne
      refine tab_refused (r := .seq (lateD rs n e)) (n := some n) hx hdx ne wd3.made ⟨q2, ys, rfl, .inl (SqL.of eq3), dps_same off_in _ _ off3, le1⟩ ro1 tr1 fun q G g eq => ?_
      refine ⟨_, rfl, (by show 2 ≤ sizeLine; decide), fun q4 hq4 => ?_⟩
      have s4 := same_new hq4 (.tup [.str "table", .int (n : Int)])
      exact ne_self (Q := fun b H' => if b = true then _ else _) (d := .tuple [.str "table", .int (n : Int)]) (.tup (SqT.of (s4 _ _ eq)) (.cons (.str _) (.cons (.int _) .nil))) (.tup (SqT.of upd_same) (.cons (.str _) (.cons (.int _) .nil))) (table_shaped n) (iteF (next_of (tail2 _ _ ⟨rfl, (wd3.same g).same s4⟩)))
    obtain ⟨rfl, wd⟩ := h
    -- too many rows
    obtain ⟨tr2, ro2, le2⟩ := many_bad good (show 1 ≤ rs.length by omega)
    refine ⟨wd.tabs, fun G4 eN tb4 => ?_⟩
    have wd4 := wd.ext nol eN tb4
    refine ⟨_, rfl, _, rfl, ⟨_, rfl, p, xs, rfl, SqL.of wd4.ep, fun l1 f1 => ?_⟩⟩
    rw [show cutV xs none (some (1 : Int)) = xs.take 1 from cut_to xs 1]
    have s1 := same_new f1 (.lst (xs.take 1))
    have lt1 : (xs.take 1).length = 1 := by
      rw [List.length_take]
      omega
    refine ⟨l1, 61, _, rfl, rfl, upd_same, by decide, by decide, ?_, fun l2 f2 => ?_⟩
    · rw [lt1]
      exact small100 (by decide)
    have s2 := s1.trans (same_new f2 (.lst (List.replicate (61 : Int).toNat (xs.take 1)).flatten))
    intro x dx' hx hdx ne
    have dr : DpAll K (upd (upd G4 l1 (.lst (xs.take 1))) l2 (.lst (List.replicate (61 : Int).toNat (xs.take 1)).flatten)) (List.replicate (61 : Int).toNat (xs.take 1)).flatten (manyD rs) := by
      refine dps_rep ?_ 61
      rw [List.map_take]
      exact dps_take 1 (dps_same s2 _ _ wd4.dps)
    refine tab_refused (r := .seq (manyD rs)) (n := none) hx hdx ne (ColsAt.same s2 wd4.made) ⟨l2, _, rfl, .inl (SqL.of upd_same), dr, le2⟩ ro2 tr2 fun q G g eq => ?_
    refine ⟨(by show 2 ≤ sizeLine; decide), fun q4 hq4 => ?_⟩
    have s4 := same_new hq4 (.tup [.str "table", .non])
    exact ne_self (Q := fun b H' => if b = true then _ else _) (d := .tuple [.str "table", .none]) (.tup (SqT.of (s4 _ _ eq)) (.cons (.str _) (.cons .non .nil))) (.tup (SqT.of upd_same) (.cons (.str _) (.cons .non .nil))) table_non (iteF (next_of (tail _ _ ⟨⟨_, _, rfl⟩, ((wd4.same s2).same g).same s4⟩)))
  obtain ⟨⟨z12, z13, rfl⟩, wd⟩ := h
  -- no rows, and what is refused of columns
  refine ⟨wd.tabs, fun G4 eN tb4 => ?_⟩
  have wd4 := wd.ext nol eN tb4
  refine ⟨_, rfl, ?_⟩
  intro x dx' hx hdx ne
  refine tab_refused (r := .oth "NoneType") (n := none) hx hdx ne wd4.made ⟨by decide +kernel, by decide +kernel, fun H' _ => .base .non⟩ trivial rfl fun q G g eq => ?_
  refine ⟨(by show 2 ≤ sizeLine; decide), fun q4 hq4 => ?_⟩
  have s4 := same_new hq4 (.tup [.str "table", .non])
  have wd5 := (wd4.same g).same s4
  refine ⟨.tuple [.str "table", .none], .tuple [.str "table", .none], .tup (SqT.of (s4 _ _ eq)) (.cons (.str _) (.cons .non .nil)), .tup (SqT.of upd_same) (.cons (.str _) (.cons .non .nil)), table_non, table_non, _, rfl, ?_⟩
  rw [SeqAt.eqv_refl _ (SeqAt.canLay_of_shaped table_non)]
  exact iteT ⟨_, rfl, _, rfl, d, cl, hs, as, ss, rfl, wd5.drw, wd5.cols, mh, ma, ms, fun p hp => wd5.tabs p (List.mem_cons_of_mem _ hp), k⟩

end
end My
set_option Elab.async false
set_option linter.all false
set_option maxRecDepth 100000
set_option maxHeartbeats 400000
namespace My
open PySem L2 PySem.Spec PyProof.Rows
section
variable {P : Program} {w : World} {K : PySem.W.Frag} {mg : Str → Option Value} {base : Heap}
/-! ### the end: the script may be a list that is not locked -/
theorem tabs_lock {T : List (Addr × Str)} {a : Addr} {xs : List V} {o : HO} {H : Hp} (h : LamX.Tabs T H) (e : H a = some (.lst xs)) : LamX.Tabs T (upd H a o) := fun p hp => by
  obtain ⟨ps, h1, h2, h3⟩ := h p hp
  refine ⟨ps, ?_, h2, fun pos cv hc => ?_⟩
  · rw [upd_ne (ne_of h1 e (by intro z; cases z))]
    exact h1
  · obtain ⟨c, e1, e2⟩ := h3 pos cv hc
    refine ⟨c, e1, ?_⟩
    rw [upd_ne (ne_of e2 e (by intro z; cases z))]
    exact e2
def sp_lawS (K : PySem.W.Frag) (T2 : List (Addr × Str)) : Sp := fun vs H Q _ => ∃ (a : Addr) (ns : List Int), vs = [.ref a] ∧ SqL K H a (ns.map V.int) ∧ ns.length ≤ 63 ∧ LamX.Tabs T2 H ∧ ∀ H', Q (.bl true) H'
theorem fn_lock {T2 : List (Addr × Str)} {k : Nat} {f : Addr} {fd : FuncData} (F : FnOk P w K mg base CX0 k f fd ["script"] (sp_law K T2)) : FnOk P w K mg base CX0 k f fd ["script"] (sp_lawS K T2) := by
  refine ⟨fun vs H Q E h => ?_, fun A outer s H args us vs Q E hr he hb hv h => ?_⟩
  · obtain ⟨a, ns, rfl, _⟩ := h
    rfl
  obtain ⟨a, ns, rfl, hs, len, tabs, k⟩ := h
  rcases hs with (hs | hs) | hs
  · obtain ⟨lz, its, n, rv, at_⟩ := he.hok a _ hs
    have e2 : Env0 P w K mg base A outer s (upd H a (.frz { cls := .type "list", data := .seq its.toArray n } (.lst (ns.map V.int)))) := by
      have no : ∀ b, H b = none → upd H a (.frz { cls := .type "list", data := .seq its.toArray n } (.lst (ns.map V.int))) b = none := fun b hb => by
        rw [upd_ne (Ne.symm (ne_of_none hs hb))]
        exact hb
      refine ⟨he.frames, he.mod, fun b o q => ⟨(he.bs b o q).1, no b (he.bs b o q).2⟩, he.bsz, he.funs, fun b hb => no b (he.frf b hb), fun b o q => ?_, he.bare⟩
      by_cases e : b = a
      · subst e
        rw [upd_same] at q
        cases q
        exact ⟨at_, lz, its, n, rv, at_⟩
      · rw [upd_ne e] at q
        refine ObjOk.stay (he.hok b o q) (fun c u _ z => z) (fun c z => ?_) fun c xs z => ?_
        · rw [upd_ne (ne_of z hs (by intro y; cases y))]
          exact z
        · rw [upd_ne (ne_of z hs (by intro y; cases y))]
          exact z
    refine codeAny_mono (F.run A outer s _ args us [.ref a] Q E hr e2 hb hv ⟨a, ns, rfl, .inl ⟨_, upd_same⟩, len, tabs_lock tabs hs, k⟩) fun r s' z => ?_
    cases r with
    | error e => exact z
    | ok fl =>
      cases fl with
      | ret u =>
        obtain ⟨v, H', z1, z2, un, z4, z5, z6⟩ := z
        have no : ∀ b, H b = none → upd H a (.frz { cls := .type "list", data := .seq its.toArray n } (.lst (ns.map V.int))) b = none := fun b hb => by
          rw [upd_ne (Ne.symm (ne_of_none hs hb))]
          exact hb
        refine ⟨v, H', z1, z2, ⟨fun b o q n => un.keep b o q (no b n), fun b o q n => un.slot b o q (no b n), fun b o q n => un.free b o q (no b n), un.there, fun b xs q => un.tups b xs ?_, fun b o u q => un.frzs b o u ?_, fun b ps q => un.tbls b ps ?_⟩, z4, z5, z6⟩
        · rw [upd_ne (ne_of q hs (by intro y; cases y))]
          exact q
        · rw [upd_ne (ne_of q hs (by intro y; cases y))]
          exact q
        · rw [upd_ne (ne_of q hs (by intro y; cases y))]
          exact q
      | next => exact z
      | brk => exact z
      | cont => exact z
  · exact F.run A outer s H args us [.ref a] Q E hr he hb hv ⟨a, ns, rfl, .inl hs, len, tabs, k⟩
  · exact F.run A outer s H args us [.ref a] Q E hr he hb hv ⟨a, ns, rfl, .inr fun H' => .inr hs, len, tabs, k⟩
theorem tab_in {x : Str} {f c Pt : Addr} {oc : Value} {od : Option Addr} {fd : FuncData} {sl : Array (Option Value)} {ocd : Value} {odd : Option Addr} {vs : Array Value} {sld : Array (Option Value)} (ha : PySem.W.nsIn K mainGlobals x = some (some (.ref f))) (hl : K.lookup f = some ⟨oc, od, .func fd, sl⟩) (hc : fd.code = .ref c) (hk : K.lookup c = some ⟨ocd, odd, .fields vs, sld⟩) (hv : (vs[11]? : Option Value) = some (.ref Pt)) : PySem.W.tabIn K x = some (c, Pt) := by
  unfold PySem.W.tabIn
  rw [ha]
  dsimp only
  rw [hl]
  dsimp only
  rw [hc]
  dsimp only
  rw [hk]
  dsimp only
  rw [hv]
theorem law_at {l : PySem.W.OpenLaw} {h : Heap} (T : Txt K mg) (hbind : ∀ (s : Shared) (u : Value), BindsTo s T.d_law ⟨[u], []⟩ [("script", u)]) {lc lp rc rp : Addr} (hlc : T.d_law.code = .ref lc) (h1 : PySem.W.CodeHd h lc lp) (h2 : h.get? lp = some { cls := .none, data := .fields #[] }) (h3 : K.lookup lp = none) (hrc : T.d__law_columns_right.code = .ref rc) (g1 : PySem.W.CodeHd h rc rp) (g2 : h.get? rp = some { cls := .none, data := .fields #[] }) (g3 : K.lookup rp = none) (ne : lp ≠ rp) :
    LamX.LawAtS l w K CX0 13 63 "script" mg T.a_law h := by
  have two : ∀ {Pr : Addr × Addr → Prop}, Pr (lc, lp) → Pr (rc, rp) → ∀ p ∈ [(lc, lp), (rc, rp)], Pr p := fun a b p hp => by
    rcases List.mem_cons.mp hp with rfl | hp
    · exact a
    · obtain rfl := List.mem_singleton.mp hp
      exact b
  refine ⟨T.d_law, [(lc, lp), (rc, rp)], sp_lawS K [(lp, qL), (rp, qR)], two h2 g2, two h3 g3, two h1 g1, hbind, fun H a ns hl _ hT hS => ⟨a, ns, rfl, hS, hl, fun p hp => ?_, fun _ => rfl⟩, fun base _ _ hB => fn_lock (ok_law (P := l.prog) (w := w) (base := base) T hlc (hB (lc, lp) List.mem_cons_self) hrc (hB (rc, rp) (List.mem_cons_of_mem _ List.mem_cons_self)) ne)⟩
  rcases List.mem_cons.mp hp with rfl | hp
  · exact .nil (hT (lc, lp) List.mem_cons_self)
  · obtain rfl := List.mem_singleton.mp hp
    exact .nil (hT (rc, rp) (List.mem_cons_of_mem _ List.mem_cons_self))

end
end My
namespace My
open PySem L2 PySem.Spec PyProof.Rows
set_option maxHeartbeats 4000000 in
theorem all_mk {l : PySem.W.OpenLaw} {w : World} {K : PySem.W.Frag} {h : Heap} {mg : Str → Option Value} {fa f0 f1 f2 f3 f4 f5 f6 f7 f8 f9 f10 f11 f12 f13 f14 f15 f16 f17 f18 f19 f20 f21 f22 f23 f24 f25 f26 f27 f28 f29 f30 f31 : Addr} (X : K.In h) (G : h.Ns mainGlobals mg) (hfa : mg "law" = some (.ref fa)) (tables : (∀ y ∈ ([("law" : Str), ("_law_columns_right" : Str)] : List Str), ∀ c P, PySem.W.tabIn K y = some (c, P) → PySem.W.CodeHd h c P ∧ h.get? P = some { cls := .none, data := .fields #[] }))
    {od0 an0 : Option Addr} {sl0 : Array (Option Value)} {oc0 kV0 dc0 pm0 cd0 ct0 : Value}
    {od1 an1 : Option Addr} {sl1 : Array (Option Value)} {oc1 kV1 dc1 pm1 cd1 ct1 : Value}
    {od2 an2 : Option Addr} {sl2 : Array (Option Value)} {oc2 kV2 dc2 pm2 cd2 ct2 : Value}
    {od3 an3 : Option Addr} {sl3 : Array (Option Value)} {oc3 kV3 dc3 pm3 cd3 ct3 : Value}
    {od4 an4 : Option Addr} {sl4 : Array (Option Value)} {oc4 kV4 dc4 pm4 cd4 ct4 : Value}
    {od5 an5 : Option Addr} {sl5 : Array (Option Value)} {oc5 kV5 dc5 pm5 cd5 ct5 : Value}
    {od6 an6 : Option Addr} {sl6 : Array (Option Value)} {oc6 kV6 dc6 pm6 cd6 ct6 : Value}
    {od7 an7 : Option Addr} {sl7 : Array (Option Value)} {oc7 kV7 dc7 pm7 cd7 ct7 : Value}
    {od8 an8 : Option Addr} {sl8 : Array (Option Value)} {oc8 kV8 dc8 pm8 cd8 ct8 : Value}
    {o_Columns_asked : Addr} {rest_Columns_asked : List Value}
    {od9 an9 : Option Addr} {sl9 : Array (Option Value)} {oc9 kV9 dc9 pm9 cd9 ct9 : Value}
    {od10 an10 : Option Addr} {sl10 : Array (Option Value)} {oc10 kV10 dc10 pm10 cd10 ct10 : Value}
    {od11 an11 : Option Addr} {sl11 : Array (Option Value)} {oc11 kV11 dc11 pm11 cd11 ct11 : Value}
    {od12 an12 : Option Addr} {sl12 : Array (Option Value)} {oc12 kV12 dc12 pm12 cd12 ct12 : Value}
    {od13 an13 : Option Addr} {sl13 : Array (Option Value)} {oc13 kV13 dc13 pm13 cd13 ct13 : Value}
    {od14 an14 : Option Addr} {sl14 : Array (Option Value)} {oc14 kV14 dc14 pm14 cd14 ct14 : Value}
    {od15 an15 : Option Addr} {sl15 : Array (Option Value)} {oc15 kV15 dc15 pm15 cd15 ct15 : Value}
    {od16 an16 : Option Addr} {sl16 : Array (Option Value)} {oc16 kV16 dc16 pm16 cd16 ct16 : Value}
    {od17 an17 : Option Addr} {sl17 : Array (Option Value)} {oc17 kV17 dc17 pm17 cd17 ct17 : Value}
    {od18 an18 : Option Addr} {sl18 : Array (Option Value)} {oc18 kV18 dc18 pm18 cd18 ct18 : Value}
    {od19 an19 : Option Addr} {sl19 : Array (Option Value)} {oc19 kV19 dc19 pm19 cd19 ct19 : Value}
    {od20 an20 : Option Addr} {sl20 : Array (Option Value)} {oc20 kV20 dc20 pm20 cd20 ct20 : Value}
    {od21 an21 : Option Addr} {sl21 : Array (Option Value)} {oc21 kV21 dc21 pm21 cd21 ct21 : Value}
    {od22 an22 : Option Addr} {sl22 : Array (Option Value)} {oc22 kV22 dc22 pm22 cd22 ct22 : Value}
    {od23 an23 : Option Addr} {sl23 : Array (Option Value)} {oc23 kV23 dc23 pm23 cd23 ct23 : Value}
    {od24 an24 : Option Addr} {sl24 : Array (Option Value)} {oc24 kV24 dc24 pm24 cd24 ct24 : Value}
    {od25 an25 : Option Addr} {sl25 : Array (Option Value)} {oc25 kV25 dc25 pm25 cd25 ct25 : Value}
    {od26 an26 : Option Addr} {sl26 : Array (Option Value)} {oc26 kV26 dc26 pm26 cd26 ct26 : Value}
    {od27 an27 : Option Addr} {sl27 : Array (Option Value)} {oc27 kV27 dc27 pm27 cd27 ct27 : Value}
    {od28 an28 : Option Addr} {sl28 : Array (Option Value)} {oc28 kV28 dc28 pm28 cd28 ct28 : Value}
    {od29 an29 : Option Addr} {sl29 : Array (Option Value)} {oc29 kV29 dc29 pm29 cd29 ct29 : Value}
    {od30 an30 : Option Addr} {sl30 : Array (Option Value)} {oc30 kV30 dc30 pm30 cd30 ct30 : Value}
    {od31 an31 : Option Addr} {sl31 : Array (Option Value)} {oc31 kV31 dc31 pm31 cd31 ct31 : Value}
    {c_Columns : Addr}
    {c_Table : Addr}
    {c_SieveError : Addr}
    {c_BadColumns : Addr}
    {c_BadTable : Addr}
    {nm_BadColumns q_BadColumns : Str} {N_BadColumns : Addr} {bs_BadColumns bm_BadColumns : List Value} {sn_BadColumns : List Str} {sub_BadColumns : List Value} {ab_BadColumns : Bool} {col_BadColumns : Option Bool} {dd_BadColumns : Option Addr} {k0_BadColumns k1_BadColumns k2_BadColumns k3_BadColumns k5_BadColumns : Option Value}
    {nm_BadTable q_BadTable : Str} {N_BadTable : Addr} {bs_BadTable bm_BadTable : List Value} {sn_BadTable : List Str} {sub_BadTable : List Value} {ab_BadTable : Bool} {col_BadTable : Option Bool} {dd_BadTable : Option Addr} {k0_BadTable k1_BadTable k2_BadTable k3_BadTable k5_BadTable : Option Value}
    {t_MOST_ROWS : Tok}
    {t_KEY : Tok}
    {t_LETTERS : Tok}
    {t_FAR : Tok}
    {t_LONGEST_NAME : Tok}
    {t_MOST_HASHED : Tok}
    {t_MOST_ASKED : Tok}
    {t_MOST_SUMMED : Tok}
    {dd_RESERVED : Option Addr} {n_RESERVED : Nat} {sl_RESERVED : Array (Option Value)} {t_RESERVED_0 t_RESERVED_1 t_RESERVED_2 t_RESERVED_3 t_RESERVED_4 t_RESERVED_5 t_RESERVED_6 t_RESERVED_7 t_RESERVED_8 : Tok} {g_RESERVED : Addr}
    {tc0 tp0 : Addr} {to0 : Value} {td0 : Option Addr} {tv0 : Array Value} {ts0 : Array (Option Value)}
    {tc1 tp1 : Addr} {to1 : Value} {td1 : Option Addr} {tv1 : Array Value} {ts1 : Array (Option Value)}
    (ac_Columns : PySem.W.nsIn K mainGlobals "Columns" = some (some (.ref c_Columns)))
    (ac_Table : PySem.W.nsIn K mainGlobals "Table" = some (some (.ref c_Table)))
    (ac_SieveError : PySem.W.nsIn K mainGlobals "SieveError" = some (some (.ref c_SieveError)))
    (ac_BadColumns : PySem.W.nsIn K mainGlobals "BadColumns" = some (some (.ref c_BadColumns)))
    (ac_BadTable : PySem.W.nsIn K mainGlobals "BadTable" = some (some (.ref c_BadTable)))
    (a0 : PySem.W.nsIn K mainGlobals "is_whole" = some (some (.ref f0)))
    (l0 : K.lookup f0 = some ⟨oc0, od0, .func (PySem.W.fnOf "is_whole" "is_whole" (defArgs s_is_whole) (defBody s_is_whole) (defScope s_is_whole) .none kV0 dc0 pm0 an0 cd0 ct0), sl0⟩)
    (c0 : PySem.W.codeIn K cd0 "is_whole" = true) (k0 : PySem.W.keepIn K (.ref f0) = true)
    (a1 : PySem.W.nsIn K mainGlobals "is_between" = some (some (.ref f1)))
    (l1 : K.lookup f1 = some ⟨oc1, od1, .func (PySem.W.fnOf "is_between" "is_between" (defArgs s_is_between) (defBody s_is_between) (defScope s_is_between) .none kV1 dc1 pm1 an1 cd1 ct1), sl1⟩)
    (c1 : PySem.W.codeIn K cd1 "is_between" = true) (k1 : PySem.W.keepIn K (.ref f1) = true)
    (a2 : PySem.W.nsIn K mainGlobals "is_near" = some (some (.ref f2)))
    (l2 : K.lookup f2 = some ⟨oc2, od2, .func (PySem.W.fnOf "is_near" "is_near" (defArgs s_is_near) (defBody s_is_near) (defScope s_is_near) .none kV2 dc2 pm2 an2 cd2 ct2), sl2⟩)
    (c2 : PySem.W.codeIn K cd2 "is_near" = true) (k2 : PySem.W.keepIn K (.ref f2) = true)
    (a3 : PySem.W.nsIn K mainGlobals "is_row" = some (some (.ref f3)))
    (l3 : K.lookup f3 = some ⟨oc3, od3, .func (PySem.W.fnOf "is_row" "is_row" (defArgs s_is_row) (defBody s_is_row) (defScope s_is_row) .none kV3 dc3 pm3 an3 cd3 ct3), sl3⟩)
    (c3 : PySem.W.codeIn K cd3 "is_row" = true) (k3 : PySem.W.keepIn K (.ref f3) = true)
    (a4 : PySem.W.nsIn K mainGlobals "is_name" = some (some (.ref f4)))
    (l4 : K.lookup f4 = some ⟨oc4, od4, .func (PySem.W.fnOf "is_name" "is_name" (defArgs s_is_name) (defBody s_is_name) (defScope s_is_name) .none kV4 dc4 pm4 an4 cd4 ct4), sl4⟩)
    (c4 : PySem.W.codeIn K cd4 "is_name" = true) (k4 : PySem.W.keepIn K (.ref f4) = true)
    (a5 : PySem.W.findIn K (.ref c_BadColumns) "__init__" = some (some (.ref f5)))
    (l5 : K.lookup f5 = some ⟨oc5, od5, .func (PySem.W.fnOf "__init__" "BadColumns.__init__" (defArgs s_BadColumns_init) (defBody s_BadColumns_init) (defScope s_BadColumns_init) .none kV5 dc5 pm5 an5 cd5 ct5), sl5⟩)
    (c5 : PySem.W.codeIn K cd5 "BadColumns.__init__" = true) (k5 : PySem.W.keepIn K (.ref f5) = true)
    (a6 : PySem.W.findIn K (.ref c_BadTable) "__init__" = some (some (.ref f6)))
    (l6 : K.lookup f6 = some ⟨oc6, od6, .func (PySem.W.fnOf "__init__" "BadTable.__init__" (defArgs s_BadTable_init) (defBody s_BadTable_init) (defScope s_BadTable_init) .none kV6 dc6 pm6 an6 cd6 ct6), sl6⟩)
    (c6 : PySem.W.codeIn K cd6 "BadTable.__init__" = true) (k6 : PySem.W.keepIn K (.ref f6) = true)
    (a7 : PySem.W.findIn K (.ref c_Columns) "__init__" = some (some (.ref f7)))
    (l7 : K.lookup f7 = some ⟨oc7, od7, .func (PySem.W.fnOf "__init__" "Columns.__init__" (defArgs s_Columns_init) (defBody s_Columns_init) (defScope s_Columns_init) .none kV7 dc7 pm7 an7 cd7 ct7), sl7⟩)
    (c7 : PySem.W.codeIn K cd7 "Columns.__init__" = true) (k7 : PySem.W.keepIn K (.ref f7) = true)
    (pa_Columns_asked : PySem.W.findIn K (.ref c_Columns) "asked" = some (some (.ref o_Columns_asked))) (pb_Columns_asked : PySem.W.specialIn K (.ref o_Columns_asked) "__get__" = some (some (.builtin "property.__get__"))) (pc_Columns_asked : PySem.W.takesIn K (.ref o_Columns_asked) = some true) (pd_Columns_asked : PySem.W.recIn K o_Columns_asked "property" = some (.ref f8 :: rest_Columns_asked))
    (l8 : K.lookup f8 = some ⟨oc8, od8, .func (PySem.W.fnOf "asked" "Columns.asked" (defArgs s_Columns_asked) (defBody s_Columns_asked) (defScope s_Columns_asked) .none kV8 dc8 pm8 an8 cd8 ct8), sl8⟩)
    (c8 : PySem.W.codeIn K cd8 "Columns.asked" = true) (k8 : PySem.W.keepIn K (.ref f8) = true)
    (a9 : PySem.W.findIn K (.ref c_Columns) "kinds" = some (some (.ref f9))) (w9 : PySem.W.isFn K (.ref f9) = true)
    (l9 : K.lookup f9 = some ⟨oc9, od9, .func (PySem.W.fnOf "kinds" "Columns.kinds" (defArgs s_Columns_kinds) (defBody s_Columns_kinds) (defScope s_Columns_kinds) .none kV9 dc9 pm9 an9 cd9 ct9), sl9⟩)
    (c9 : PySem.W.codeIn K cd9 "Columns.kinds" = true) (k9 : PySem.W.keepIn K (.ref f9) = true)
    (a10 : PySem.W.findIn K (.ref c_Columns) "__eq__" = some (some (.ref f10))) (w10 : PySem.W.isFn K (.ref f10) = true)
    (l10 : K.lookup f10 = some ⟨oc10, od10, .func (PySem.W.fnOf "__eq__" "Columns.__eq__" (defArgs s_Columns_eq) (defBody s_Columns_eq) (defScope s_Columns_eq) .none kV10 dc10 pm10 an10 cd10 ct10), sl10⟩)
    (c10 : PySem.W.codeIn K cd10 "Columns.__eq__" = true) (k10 : PySem.W.keepIn K (.ref f10) = true)
    (a11 : PySem.W.findIn K (.ref c_Table) "__init__" = some (some (.ref f11)))
    (l11 : K.lookup f11 = some ⟨oc11, od11, .func (PySem.W.fnOf "__init__" "Table.__init__" (defArgs s_Table_init) (defBody s_Table_init) (defScope s_Table_init) .none kV11 dc11 pm11 an11 cd11 ct11), sl11⟩)
    (c11 : PySem.W.codeIn K cd11 "Table.__init__" = true) (k11 : PySem.W.keepIn K (.ref f11) = true)
    (a12 : PySem.W.findIn K (.ref c_Table) "entity" = some (some (.ref f12))) (w12 : PySem.W.isFn K (.ref f12) = true)
    (l12 : K.lookup f12 = some ⟨oc12, od12, .func (PySem.W.fnOf "entity" "Table.entity" (defArgs s_Table_entity) (defBody s_Table_entity) (defScope s_Table_entity) .none kV12 dc12 pm12 an12 cd12 ct12), sl12⟩)
    (c12 : PySem.W.codeIn K cd12 "Table.entity" = true) (k12 : PySem.W.keepIn K (.ref f12) = true)
    (a13 : PySem.W.findIn K (.ref c_Table) "entities" = some (some (.ref f13))) (w13 : PySem.W.isFn K (.ref f13) = true)
    (l13 : K.lookup f13 = some ⟨oc13, od13, .func (PySem.W.fnOf "entities" "Table.entities" (defArgs s_Table_entities) (defBody s_Table_entities) (defScope s_Table_entities) .none kV13 dc13 pm13 an13 cd13 ct13), sl13⟩)
    (c13 : PySem.W.codeIn K cd13 "Table.entities" = true) (k13 : PySem.W.keepIn K (.ref f13) = true)
    (a14 : PySem.W.findIn K (.ref c_Table) "__len__" = some (some (.ref f14))) (w14 : PySem.W.isFn K (.ref f14) = true)
    (l14 : K.lookup f14 = some ⟨oc14, od14, .func (PySem.W.fnOf "__len__" "Table.__len__" (defArgs s_Table_len) (defBody s_Table_len) (defScope s_Table_len) .none kV14 dc14 pm14 an14 cd14 ct14), sl14⟩)
    (c14 : PySem.W.codeIn K cd14 "Table.__len__" = true) (k14 : PySem.W.keepIn K (.ref f14) = true)
    (a15 : PySem.W.findIn K (.ref c_Table) "__eq__" = some (some (.ref f15))) (w15 : PySem.W.isFn K (.ref f15) = true)
    (l15 : K.lookup f15 = some ⟨oc15, od15, .func (PySem.W.fnOf "__eq__" "Table.__eq__" (defArgs s_Table_eq) (defBody s_Table_eq) (defScope s_Table_eq) .none kV15 dc15 pm15 an15 cd15 ct15), sl15⟩)
    (c15 : PySem.W.codeIn K cd15 "Table.__eq__" = true) (k15 : PySem.W.keepIn K (.ref f15) = true)
    (a16 : PySem.W.nsIn K mainGlobals "wrong_part" = some (some (.ref f16)))
    (l16 : K.lookup f16 = some ⟨oc16, od16, .func (PySem.W.fnOf "wrong_part" "wrong_part" (defArgs s_wrong_part) (defBody s_wrong_part) (defScope s_wrong_part) .none kV16 dc16 pm16 an16 cd16 ct16), sl16⟩)
    (c16 : PySem.W.codeIn K cd16 "wrong_part" = true) (k16 : PySem.W.keepIn K (.ref f16) = true)
    (a17 : PySem.W.nsIn K mainGlobals "are_names" = some (some (.ref f17)))
    (l17 : K.lookup f17 = some ⟨oc17, od17, .func (PySem.W.fnOf "are_names" "are_names" (defArgs s_are_names) (defBody s_are_names) (defScope s_are_names) .none kV17 dc17 pm17 an17 cd17 ct17), sl17⟩)
    (c17 : PySem.W.codeIn K cd17 "are_names" = true) (k17 : PySem.W.keepIn K (.ref f17) = true)
    (a18 : PySem.W.nsIn K mainGlobals "are_asked" = some (some (.ref f18)))
    (l18 : K.lookup f18 = some ⟨oc18, od18, .func (PySem.W.fnOf "are_asked" "are_asked" (defArgs s_are_asked) (defBody s_are_asked) (defScope s_are_asked) .none kV18 dc18 pm18 an18 cd18 ct18), sl18⟩)
    (c18 : PySem.W.codeIn K cd18 "are_asked" = true) (k18 : PySem.W.keepIn K (.ref f18) = true)
    (a19 : PySem.W.nsIn K mainGlobals "is_table_row" = some (some (.ref f19)))
    (l19 : K.lookup f19 = some ⟨oc19, od19, .func (PySem.W.fnOf "is_table_row" "is_table_row" (defArgs s_is_table_row) (defBody s_is_table_row) (defScope s_is_table_row) .none kV19 dc19 pm19 an19 cd19 ct19), sl19⟩)
    (c19 : PySem.W.codeIn K cd19 "is_table_row" = true) (k19 : PySem.W.keepIn K (.ref f19) = true)
    (a20 : PySem.W.nsIn K mainGlobals "are_numbers" = some (some (.ref f20)))
    (l20 : K.lookup f20 = some ⟨oc20, od20, .func (PySem.W.fnOf "are_numbers" "are_numbers" (defArgs s_are_numbers) (defBody s_are_numbers) (defScope s_are_numbers) .none kV20 dc20 pm20 an20 cd20 ct20), sl20⟩)
    (c20 : PySem.W.codeIn K cd20 "are_numbers" = true) (k20 : PySem.W.keepIn K (.ref f20) = true)
    (a21 : PySem.W.nsIn K mainGlobals "are_values" = some (some (.ref f21)))
    (l21 : K.lookup f21 = some ⟨oc21, od21, .func (PySem.W.fnOf "are_values" "are_values" (defArgs s_are_values) (defBody s_are_values) (defScope s_are_values) .none kV21 dc21 pm21 an21 cd21 ct21), sl21⟩)
    (c21 : PySem.W.codeIn K cd21 "are_values" = true) (k21 : PySem.W.keepIn K (.ref f21) = true)
    (a22 : PySem.W.nsIn K mainGlobals "is_value" = some (some (.ref f22)))
    (l22 : K.lookup f22 = some ⟨oc22, od22, .func (PySem.W.fnOf "is_value" "is_value" (defArgs s_is_value) (defBody s_is_value) (defScope s_is_value) .none kV22 dc22 pm22 an22 cd22 ct22), sl22⟩)
    (c22 : PySem.W.codeIn K cd22 "is_value" = true) (k22 : PySem.W.keepIn K (.ref f22) = true)
    (a23 : PySem.W.nsIn K mainGlobals "_law_number" = some (some (.ref f23)))
    (l23 : K.lookup f23 = some ⟨oc23, od23, .func (PySem.W.fnOf "_law_number" "_law_number" (defArgs s__law_number) (defBody s__law_number) (defScope s__law_number) .none kV23 dc23 pm23 an23 cd23 ct23), sl23⟩)
    (c23 : PySem.W.codeIn K cd23 "_law_number" = true) (k23 : PySem.W.keepIn K (.ref f23) = true)
    (a24 : PySem.W.nsIn K mainGlobals "_law_take" = some (some (.ref f24)))
    (l24 : K.lookup f24 = some ⟨oc24, od24, .func (PySem.W.fnOf "_law_take" "_law_take" (defArgs s__law_take) (defBody s__law_take) (defScope s__law_take) .none kV24 dc24 pm24 an24 cd24 ct24), sl24⟩)
    (c24 : PySem.W.codeIn K cd24 "_law_take" = true) (k24 : PySem.W.keepIn K (.ref f24) = true)
    (a25 : PySem.W.nsIn K mainGlobals "_law_pick" = some (some (.ref f25)))
    (l25 : K.lookup f25 = some ⟨oc25, od25, .func (PySem.W.fnOf "_law_pick" "_law_pick" (defArgs s__law_pick) (defBody s__law_pick) (defScope s__law_pick) .none kV25 dc25 pm25 an25 cd25 ct25), sl25⟩)
    (c25 : PySem.W.codeIn K cd25 "_law_pick" = true) (k25 : PySem.W.keepIn K (.ref f25) = true)
    (a26 : PySem.W.nsIn K mainGlobals "_law_columns" = some (some (.ref f26)))
    (l26 : K.lookup f26 = some ⟨oc26, od26, .func (PySem.W.fnOf "_law_columns" "_law_columns" (defArgs s__law_columns) (defBody s__law_columns) (defScope s__law_columns) .none kV26 dc26 pm26 an26 cd26 ct26), sl26⟩)
    (c26 : PySem.W.codeIn K cd26 "_law_columns" = true) (k26 : PySem.W.keepIn K (.ref f26) = true)
    (a27 : PySem.W.nsIn K mainGlobals "_law_rows" = some (some (.ref f27)))
    (l27 : K.lookup f27 = some ⟨oc27, od27, .func (PySem.W.fnOf "_law_rows" "_law_rows" (defArgs s__law_rows) (defBody s__law_rows) (defScope s__law_rows) .none kV27 dc27 pm27 an27 cd27 ct27), sl27⟩)
    (c27 : PySem.W.codeIn K cd27 "_law_rows" = true) (k27 : PySem.W.keepIn K (.ref f27) = true)
    (a28 : PySem.W.nsIn K mainGlobals "_law_refused" = some (some (.ref f28)))
    (l28 : K.lookup f28 = some ⟨oc28, od28, .func (PySem.W.fnOf "_law_refused" "_law_refused" (defArgs s__law_refused) (defBody s__law_refused) (defScope s__law_refused) .none kV28 dc28 pm28 an28 cd28 ct28), sl28⟩)
    (c28 : PySem.W.codeIn K cd28 "_law_refused" = true) (k28 : PySem.W.keepIn K (.ref f28) = true)
    (a29 : PySem.W.nsIn K mainGlobals "_law_columns_right" = some (some (.ref f29)))
    (l29 : K.lookup f29 = some ⟨oc29, od29, .func (PySem.W.fnOf "_law_columns_right" "_law_columns_right" (defArgs s__law_columns_right) (defBody s__law_columns_right) (defScope s__law_columns_right) .none kV29 dc29 pm29 an29 cd29 ct29), sl29⟩)
    (c29 : PySem.W.codeIn K cd29 "_law_columns_right" = true) (k29 : PySem.W.keepIn K (.ref f29) = true)
    (a30 : PySem.W.nsIn K mainGlobals "_law_bent" = some (some (.ref f30)))
    (l30 : K.lookup f30 = some ⟨oc30, od30, .func (PySem.W.fnOf "_law_bent" "_law_bent" (defArgs s__law_bent) (defBody s__law_bent) (defScope s__law_bent) .none kV30 dc30 pm30 an30 cd30 ct30), sl30⟩)
    (c30 : PySem.W.codeIn K cd30 "_law_bent" = true) (k30 : PySem.W.keepIn K (.ref f30) = true)
    (a31 : PySem.W.nsIn K mainGlobals "law" = some (some (.ref f31)))
    (l31 : K.lookup f31 = some ⟨oc31, od31, .func (PySem.W.fnOf "law" "law" (defArgs s_law) (defBody s_law) (defScope s_law) .none kV31 dc31 pm31 an31 cd31 ct31), sl31⟩)
    (c31 : PySem.W.codeIn K cd31 "law" = true) (k31 : PySem.W.keepIn K (.ref f31) = true)
    (pg_Columns : PySem.W.plainGet K c_Columns Str.empty = true) (hd_Columns : PySem.W.hasDictIn K c_Columns = true) (po_Columns : PySem.W.plainOver K c_Columns = true) (sa_Columns : PySem.W.findIn K (.ref c_Columns) "__setattr__" = some (some (.builtin "object.__setattr__"))) (mk_Columns : PySem.W.makesIn K c_Columns = true) (kc_Columns : PySem.W.keepIn K (.ref c_Columns) = true) (fn_Columns : PySem.W.isFn K (.ref f7) = true)
    (n_Columns_hashed : PySem.W.findIn K (.ref c_Columns) "hashed" = some none)
    (n_Columns__asked : PySem.W.findIn K (.ref c_Columns) "_asked" = some none)
    (n_Columns_summed : PySem.W.findIn K (.ref c_Columns) "summed" = some none)
    (ne_Columns : PySem.W.findIn K (.ref c_Columns) "__ne__" = some (some (.builtin "object.__ne__"))) (mo_Columns : PySem.W.mroIn K c_Columns (.type "object") = some true)
    (xp_Columns : PySem.W.findIn K (.ref c_Columns) "__class__" = some (some (.builtin "object.__class__"))) (xq_Columns : PySem.W.specialIn K (.builtin "object.__class__") "__get__" = some (some (.builtin "getset_descriptor.__get__"))) (xr_Columns : PySem.W.takesIn K (.builtin "object.__class__") = some true)
    (pg_Table : PySem.W.plainGet K c_Table Str.empty = true) (hd_Table : PySem.W.hasDictIn K c_Table = true) (po_Table : PySem.W.plainOver K c_Table = true) (sa_Table : PySem.W.findIn K (.ref c_Table) "__setattr__" = some (some (.builtin "object.__setattr__"))) (mk_Table : PySem.W.makesIn K c_Table = true) (kc_Table : PySem.W.keepIn K (.ref c_Table) = true) (fn_Table : PySem.W.isFn K (.ref f11) = true)
    (n_Table_columns : PySem.W.findIn K (.ref c_Table) "columns" = some none)
    (n_Table_rows : PySem.W.findIn K (.ref c_Table) "rows" = some none)
    (ne_Table : PySem.W.findIn K (.ref c_Table) "__ne__" = some (some (.builtin "object.__ne__"))) (mo_Table : PySem.W.mroIn K c_Table (.type "object") = some true)
    (xp_Table : PySem.W.findIn K (.ref c_Table) "__class__" = some (some (.builtin "object.__class__"))) (xq_Table : PySem.W.specialIn K (.builtin "object.__class__") "__get__" = some (some (.builtin "getset_descriptor.__get__"))) (xr_Table : PySem.W.takesIn K (.builtin "object.__class__") = some true)
    (ra_SieveError : PySem.W.readsIn K c_SieveError (.type "type") = true) (rb_SieveError : PySem.W.specialIn K (.ref c_SieveError) "__getattribute__" = some (some (.builtin "type.__getattribute__"))) (ri_SieveError : PySem.W.findCls K (.ref c_SieveError) (.type "type") "__init__" = some (.val (.builtin "ValueError.__init__"))) (yb_SieveError : PySem.W.subIn K (.ref c_SieveError) (.type "BaseException") = some true) (yh_SieveError : PySem.W.hasDictIn K c_SieveError = true) (yt_SieveError : PySem.W.typeIn K (.ref c_SieveError) = some (.type "type"))
    (xl_BadColumns : K.lookup c_BadColumns = some (excClassObj nm_BadColumns q_BadColumns c_BadColumns N_BadColumns bs_BadColumns bm_BadColumns true sn_BadColumns sub_BadColumns ab_BadColumns col_BadColumns dd_BadColumns k0_BadColumns k1_BadColumns k2_BadColumns k3_BadColumns k5_BadColumns "ValueError.__new__")) (xb_BadColumns : PySem.HandSPX.refsVE bm_BadColumns = true)
    (xs_BadColumns : PySem.W.findIn K (.ref c_BadColumns) "__setattr__" = some (some (.builtin "object.__setattr__"))) (xx_BadColumns : PySem.W.subIn K (.ref c_BadColumns) (.type "BaseException") = some true) (xy_BadColumns : PySem.W.typeIn K (.ref c_BadColumns) = some (.type "type")) (xc_BadColumns : PySem.W.keepIn K (.ref c_BadColumns) = true) (xt_BadColumns : PySem.W.typeIn K (.ref f5) = some (.type "function")) (xn_BadColumns : PySem.W.findIn K (.ref c_BadColumns) "part" = some none)
    (xg_BadColumns : PySem.W.findIn K (.ref c_BadColumns) "__getattribute__" = some (some (.builtin "BaseException.__getattribute__"))) (xh_BadColumns : PySem.W.findIn K (.ref c_BadColumns) "__getattr__" = some none) (xd_BadColumns : PySem.W.hasDictIn K c_BadColumns = true) (xv_BadColumns : PySem.W.subIn K (.ref c_BadColumns) (.ref c_BadColumns) = some true) (xw_BadColumns : PySem.W.subIn K (.ref c_BadColumns) (.ref c_SieveError) = some true)
    (xp_BadColumns : PySem.W.findIn K (.ref c_BadColumns) "__class__" = some (some (.builtin "object.__class__"))) (xq_BadColumns : PySem.W.specialIn K (.builtin "object.__class__") "__get__" = some (some (.builtin "getset_descriptor.__get__"))) (xr_BadColumns : PySem.W.takesIn K (.builtin "object.__class__") = some true) (xo_BadColumns : PySem.W.mroIn K c_BadColumns (.type "object") = some true)
    (xl_BadTable : K.lookup c_BadTable = some (excClassObj nm_BadTable q_BadTable c_BadTable N_BadTable bs_BadTable bm_BadTable true sn_BadTable sub_BadTable ab_BadTable col_BadTable dd_BadTable k0_BadTable k1_BadTable k2_BadTable k3_BadTable k5_BadTable "ValueError.__new__")) (xb_BadTable : PySem.HandSPX.refsVE bm_BadTable = true)
    (xs_BadTable : PySem.W.findIn K (.ref c_BadTable) "__setattr__" = some (some (.builtin "object.__setattr__"))) (xx_BadTable : PySem.W.subIn K (.ref c_BadTable) (.type "BaseException") = some true) (xy_BadTable : PySem.W.typeIn K (.ref c_BadTable) = some (.type "type")) (xc_BadTable : PySem.W.keepIn K (.ref c_BadTable) = true) (xt_BadTable : PySem.W.typeIn K (.ref f6) = some (.type "function")) (xn_BadTable : PySem.W.findIn K (.ref c_BadTable) "number" = some none)
    (xg_BadTable : PySem.W.findIn K (.ref c_BadTable) "__getattribute__" = some (some (.builtin "BaseException.__getattribute__"))) (xh_BadTable : PySem.W.findIn K (.ref c_BadTable) "__getattr__" = some none) (xd_BadTable : PySem.W.hasDictIn K c_BadTable = true) (xv_BadTable : PySem.W.subIn K (.ref c_BadTable) (.ref c_BadTable) = some true) (xw_BadTable : PySem.W.subIn K (.ref c_BadTable) (.ref c_SieveError) = some true)
    (xp_BadTable : PySem.W.findIn K (.ref c_BadTable) "__class__" = some (some (.builtin "object.__class__"))) (xq_BadTable : PySem.W.specialIn K (.builtin "object.__class__") "__get__" = some (some (.builtin "getset_descriptor.__get__"))) (xr_BadTable : PySem.W.takesIn K (.builtin "object.__class__") = some true) (xo_BadTable : PySem.W.mroIn K c_BadTable (.type "object") = some true)
    (yv_BadColumns : PySem.W.subIn K (.ref c_BadColumns) (.type "ValueError") = some true)
    (yz_BadColumns_BadTable : PySem.W.subIn K (.ref c_BadColumns) (.ref c_BadTable) = some false)
    (yv_BadTable : PySem.W.subIn K (.ref c_BadTable) (.type "ValueError") = some true)
    (yz_BadTable_BadColumns : PySem.W.subIn K (.ref c_BadTable) (.ref c_BadColumns) = some false)
    (g_MOST_ROWS : PySem.W.nsIn K mainGlobals "MOST_ROWS" = some (some (.int 60 t_MOST_ROWS)))
    (g_KEY : PySem.W.nsIn K mainGlobals "KEY" = some (some (.str "key " t_KEY)))
    (g_LETTERS : PySem.W.nsIn K mainGlobals "LETTERS" = some (some (.str "abcdefghijklmnopqrstuvwxyz" t_LETTERS)))
    (g_FAR : PySem.W.nsIn K mainGlobals "FAR" = some (some (.int 1000000 t_FAR)))
    (g_LONGEST_NAME : PySem.W.nsIn K mainGlobals "LONGEST_NAME" = some (some (.int 8 t_LONGEST_NAME)))
    (g_MOST_HASHED : PySem.W.nsIn K mainGlobals "MOST_HASHED" = some (some (.int 2 t_MOST_HASHED)))
    (g_MOST_ASKED : PySem.W.nsIn K mainGlobals "MOST_ASKED" = some (some (.int 4 t_MOST_ASKED)))
    (g_MOST_SUMMED : PySem.W.nsIn K mainGlobals "MOST_SUMMED" = some (some (.int 2 t_MOST_SUMMED)))
    (z_ValueError : PySem.W.nsIn K mainGlobals "ValueError" = some none)
    (z_isinstance : PySem.W.nsIn K mainGlobals "isinstance" = some none)
    (z_all : PySem.W.nsIn K mainGlobals "all" = some none)
    (z_str : PySem.W.nsIn K mainGlobals "str" = some none)
    (z_range : PySem.W.nsIn K mainGlobals "range" = some none)
    (z_int : PySem.W.nsIn K mainGlobals "int" = some none)
    (z_list : PySem.W.nsIn K mainGlobals "list" = some none)
    (z_tuple : PySem.W.nsIn K mainGlobals "tuple" = some none)
    (z_dict : PySem.W.nsIn K mainGlobals "dict" = some none)
    (z_enumerate : PySem.W.nsIn K mainGlobals "enumerate" = some none)
    (z_len : PySem.W.nsIn K mainGlobals "len" = some none)
    (z_sorted : PySem.W.nsIn K mainGlobals "sorted" = some none)
    (z_bool : PySem.W.nsIn K mainGlobals "bool" = some none)
    (z_set : PySem.W.nsIn K mainGlobals "set" = some none)
    (z_zip : PySem.W.nsIn K mainGlobals "zip" = some none)
    (z_max : PySem.W.nsIn K mainGlobals "max" = some none)
    (a_RESERVED : PySem.W.nsIn K mainGlobals "RESERVED" = some (some (.ref g_RESERVED)))
    (l_RESERVED : K.lookup g_RESERVED = some ⟨.type "tuple", dd_RESERVED, .seq #[.str "row" t_RESERVED_0, .str "block" t_RESERVED_1, .str "hash" t_RESERVED_2, .str "not" t_RESERVED_3, .str "and" t_RESERVED_4, .str "or" t_RESERVED_5, .str "all" t_RESERVED_6, .str "none" t_RESERVED_7, .str "like" t_RESERVED_8] n_RESERVED, sl_RESERVED⟩)
    (ta0 : cd31 = .ref tc0) (tl0 : K.lookup tc0 = some ⟨to0, td0, .fields tv0, ts0⟩) (te0 : (tv0[11]? : Option Value) = some (.ref tp0)) (tn0 : K.lookup tp0 = none)
    (ta1 : cd29 = .ref tc1) (tl1 : K.lookup tc1 = some ⟨to1, td1, .fields tv1, ts1⟩) (te1 : (tv1[11]? : Option Value) = some (.ref tp1)) (tn1 : K.lookup tp1 = none)
    (tne : tp0 ≠ tp1) :
    LamX.LawAtS l w K CX0 13 63 "script" mg fa h := by
  have e : fa = f31 := by
    have z := hfa.symm.trans (PySem.W.mg_of X G a31)
    injection z with z
    injection z
  have ti0 : PySem.W.tabIn K "law" = some (tc0, tp0) := tab_in a31 l31 ta0 tl0 te0
  obtain ⟨th0, tg0⟩ := tables _ (by simp) _ _ ti0
  have ti1 : PySem.W.tabIn K "_law_columns_right" = some (tc1, tp1) := tab_in a29 l29 ta1 tl1 te1
  obtain ⟨th1, tg1⟩ := tables _ (by simp) _ _ ti1
  let T : Txt K mg := {
    a_is_whole := f0
    d_is_whole := PySem.W.fnOf "is_whole" "is_whole" (defArgs s_is_whole) (defBody s_is_whole) (defScope s_is_whole) .none kV0 dc0 pm0 an0 cd0 ct0
    F_is_whole := fun_mk (st := s_is_whole) l0 c0 k0
    b_is_whole := (fun_mk (st := s_is_whole) l0 c0 k0).binds (ps := ["value"]) fun _ _ _ _ _ _ us hl => match us, hl with | [_], _ => rfl
    m_is_whole := PySem.W.mg_of X G a0
    a_is_between := f1
    d_is_between := PySem.W.fnOf "is_between" "is_between" (defArgs s_is_between) (defBody s_is_between) (defScope s_is_between) .none kV1 dc1 pm1 an1 cd1 ct1
    F_is_between := fun_mk (st := s_is_between) l1 c1 k1
    b_is_between := (fun_mk (st := s_is_between) l1 c1 k1).binds (ps := ["value", "low", "high"]) fun _ _ _ _ _ _ us hl => match us, hl with | [_, _, _], _ => rfl
    m_is_between := PySem.W.mg_of X G a1
    a_is_near := f2
    d_is_near := PySem.W.fnOf "is_near" "is_near" (defArgs s_is_near) (defBody s_is_near) (defScope s_is_near) .none kV2 dc2 pm2 an2 cd2 ct2
    F_is_near := fun_mk (st := s_is_near) l2 c2 k2
    b_is_near := (fun_mk (st := s_is_near) l2 c2 k2).binds (ps := ["value"]) fun _ _ _ _ _ _ us hl => match us, hl with | [_], _ => rfl
    m_is_near := PySem.W.mg_of X G a2
    a_is_row := f3
    d_is_row := PySem.W.fnOf "is_row" "is_row" (defArgs s_is_row) (defBody s_is_row) (defScope s_is_row) .none kV3 dc3 pm3 an3 cd3 ct3
    F_is_row := fun_mk (st := s_is_row) l3 c3 k3
    b_is_row := (fun_mk (st := s_is_row) l3 c3 k3).binds (ps := ["value"]) fun _ _ _ _ _ _ us hl => match us, hl with | [_], _ => rfl
    m_is_row := PySem.W.mg_of X G a3
    a_is_name := f4
    d_is_name := PySem.W.fnOf "is_name" "is_name" (defArgs s_is_name) (defBody s_is_name) (defScope s_is_name) .none kV4 dc4 pm4 an4 cd4 ct4
    F_is_name := fun_mk (st := s_is_name) l4 c4 k4
    b_is_name := (fun_mk (st := s_is_name) l4 c4 k4).binds (ps := ["value"]) fun _ _ _ _ _ _ us hl => match us, hl with | [_], _ => rfl
    m_is_name := PySem.W.mg_of X G a4
    a_BadColumns_init := f5
    d_BadColumns_init := PySem.W.fnOf "__init__" "BadColumns.__init__" (defArgs s_BadColumns_init) (defBody s_BadColumns_init) (defScope s_BadColumns_init) .none kV5 dc5 pm5 an5 cd5 ct5
    F_BadColumns_init := fun_mk (st := s_BadColumns_init) l5 c5 k5
    b_BadColumns_init := (fun_mk (st := s_BadColumns_init) l5 c5 k5).binds (ps := ["self", "part"]) fun _ _ _ _ _ _ us hl => match us, hl with | [_, _], _ => rfl
    a_BadTable_init := f6
    d_BadTable_init := PySem.W.fnOf "__init__" "BadTable.__init__" (defArgs s_BadTable_init) (defBody s_BadTable_init) (defScope s_BadTable_init) .none kV6 dc6 pm6 an6 cd6 ct6
    F_BadTable_init := fun_mk (st := s_BadTable_init) l6 c6 k6
    b_BadTable_init := (fun_mk (st := s_BadTable_init) l6 c6 k6).binds (ps := ["self", "number"]) fun _ _ _ _ _ _ us hl => match us, hl with | [_, _], _ => rfl
    a_Columns_init := f7
    d_Columns_init := PySem.W.fnOf "__init__" "Columns.__init__" (defArgs s_Columns_init) (defBody s_Columns_init) (defScope s_Columns_init) .none kV7 dc7 pm7 an7 cd7 ct7
    F_Columns_init := fun_mk (st := s_Columns_init) l7 c7 k7
    b_Columns_init := (fun_mk (st := s_Columns_init) l7 c7 k7).binds (ps := ["self", "hashed", "asked", "summed"]) fun _ _ _ _ _ _ us hl => match us, hl with | [_, _, _, _], _ => rfl
    a_Columns_asked := f8
    d_Columns_asked := PySem.W.fnOf "asked" "Columns.asked" (defArgs s_Columns_asked) (defBody s_Columns_asked) (defScope s_Columns_asked) .none kV8 dc8 pm8 an8 cd8 ct8
    F_Columns_asked := fun_mk (st := s_Columns_asked) l8 c8 k8
    b_Columns_asked := (fun_mk (st := s_Columns_asked) l8 c8 k8).binds (ps := ["self"]) fun _ _ _ _ _ _ us hl => match us, hl with | [_], _ => rfl
    a_Columns_kinds := f9
    d_Columns_kinds := PySem.W.fnOf "kinds" "Columns.kinds" (defArgs s_Columns_kinds) (defBody s_Columns_kinds) (defScope s_Columns_kinds) .none kV9 dc9 pm9 an9 cd9 ct9
    F_Columns_kinds := fun_mk (st := s_Columns_kinds) l9 c9 k9
    b_Columns_kinds := (fun_mk (st := s_Columns_kinds) l9 c9 k9).binds (ps := ["self"]) fun _ _ _ _ _ _ us hl => match us, hl with | [_], _ => rfl
    a_Columns_eq := f10
    d_Columns_eq := PySem.W.fnOf "__eq__" "Columns.__eq__" (defArgs s_Columns_eq) (defBody s_Columns_eq) (defScope s_Columns_eq) .none kV10 dc10 pm10 an10 cd10 ct10
    F_Columns_eq := fun_mk (st := s_Columns_eq) l10 c10 k10
    b_Columns_eq := (fun_mk (st := s_Columns_eq) l10 c10 k10).binds (ps := ["self", "other"]) fun _ _ _ _ _ _ us hl => match us, hl with | [_, _], _ => rfl
    a_Table_init := f11
    d_Table_init := PySem.W.fnOf "__init__" "Table.__init__" (defArgs s_Table_init) (defBody s_Table_init) (defScope s_Table_init) .none kV11 dc11 pm11 an11 cd11 ct11
    F_Table_init := fun_mk (st := s_Table_init) l11 c11 k11
    b_Table_init := (fun_mk (st := s_Table_init) l11 c11 k11).binds (ps := ["self", "columns", "rows"]) fun _ _ _ _ _ _ us hl => match us, hl with | [_, _, _], _ => rfl
    a_Table_entity := f12
    d_Table_entity := PySem.W.fnOf "entity" "Table.entity" (defArgs s_Table_entity) (defBody s_Table_entity) (defScope s_Table_entity) .none kV12 dc12 pm12 an12 cd12 ct12
    F_Table_entity := fun_mk (st := s_Table_entity) l12 c12 k12
    b_Table_entity := (fun_mk (st := s_Table_entity) l12 c12 k12).binds (ps := ["self", "number", "kind"]) fun _ _ _ _ _ _ us hl => match us, hl with | [_, _, _], _ => rfl
    a_Table_entities := f13
    d_Table_entities := PySem.W.fnOf "entities" "Table.entities" (defArgs s_Table_entities) (defBody s_Table_entities) (defScope s_Table_entities) .none kV13 dc13 pm13 an13 cd13 ct13
    F_Table_entities := fun_mk (st := s_Table_entities) l13 c13 k13
    b_Table_entities := (fun_mk (st := s_Table_entities) l13 c13 k13).binds (ps := ["self", "kind"]) fun _ _ _ _ _ _ us hl => match us, hl with | [_, _], _ => rfl
    a_Table_len := f14
    d_Table_len := PySem.W.fnOf "__len__" "Table.__len__" (defArgs s_Table_len) (defBody s_Table_len) (defScope s_Table_len) .none kV14 dc14 pm14 an14 cd14 ct14
    F_Table_len := fun_mk (st := s_Table_len) l14 c14 k14
    b_Table_len := (fun_mk (st := s_Table_len) l14 c14 k14).binds (ps := ["self"]) fun _ _ _ _ _ _ us hl => match us, hl with | [_], _ => rfl
    a_Table_eq := f15
    d_Table_eq := PySem.W.fnOf "__eq__" "Table.__eq__" (defArgs s_Table_eq) (defBody s_Table_eq) (defScope s_Table_eq) .none kV15 dc15 pm15 an15 cd15 ct15
    F_Table_eq := fun_mk (st := s_Table_eq) l15 c15 k15
    b_Table_eq := (fun_mk (st := s_Table_eq) l15 c15 k15).binds (ps := ["self", "other"]) fun _ _ _ _ _ _ us hl => match us, hl with | [_, _], _ => rfl
    a_wrong_part := f16
    d_wrong_part := PySem.W.fnOf "wrong_part" "wrong_part" (defArgs s_wrong_part) (defBody s_wrong_part) (defScope s_wrong_part) .none kV16 dc16 pm16 an16 cd16 ct16
    F_wrong_part := fun_mk (st := s_wrong_part) l16 c16 k16
    b_wrong_part := (fun_mk (st := s_wrong_part) l16 c16 k16).binds (ps := ["hashed", "asked", "summed"]) fun _ _ _ _ _ _ us hl => match us, hl with | [_, _, _], _ => rfl
    m_wrong_part := PySem.W.mg_of X G a16
    a_are_names := f17
    d_are_names := PySem.W.fnOf "are_names" "are_names" (defArgs s_are_names) (defBody s_are_names) (defScope s_are_names) .none kV17 dc17 pm17 an17 cd17 ct17
    F_are_names := fun_mk (st := s_are_names) l17 c17 k17
    b_are_names := (fun_mk (st := s_are_names) l17 c17 k17).binds (ps := ["row", "most"]) fun _ _ _ _ _ _ us hl => match us, hl with | [_, _], _ => rfl
    m_are_names := PySem.W.mg_of X G a17
    a_are_asked := f18
    d_are_asked := PySem.W.fnOf "are_asked" "are_asked" (defArgs s_are_asked) (defBody s_are_asked) (defScope s_are_asked) .none kV18 dc18 pm18 an18 cd18 ct18
    F_are_asked := fun_mk (st := s_are_asked) l18 c18 k18
    b_are_asked := (fun_mk (st := s_are_asked) l18 c18 k18).binds (ps := ["asked"]) fun _ _ _ _ _ _ us hl => match us, hl with | [_], _ => rfl
    m_are_asked := PySem.W.mg_of X G a18
    a_is_table_row := f19
    d_is_table_row := PySem.W.fnOf "is_table_row" "is_table_row" (defArgs s_is_table_row) (defBody s_is_table_row) (defScope s_is_table_row) .none kV19 dc19 pm19 an19 cd19 ct19
    F_is_table_row := fun_mk (st := s_is_table_row) l19 c19 k19
    b_is_table_row := (fun_mk (st := s_is_table_row) l19 c19 k19).binds (ps := ["columns", "row"]) fun _ _ _ _ _ _ us hl => match us, hl with | [_, _], _ => rfl
    m_is_table_row := PySem.W.mg_of X G a19
    a_are_numbers := f20
    d_are_numbers := PySem.W.fnOf "are_numbers" "are_numbers" (defArgs s_are_numbers) (defBody s_are_numbers) (defScope s_are_numbers) .none kV20 dc20 pm20 an20 cd20 ct20
    F_are_numbers := fun_mk (st := s_are_numbers) l20 c20 k20
    b_are_numbers := (fun_mk (st := s_are_numbers) l20 c20 k20).binds (ps := ["numbers", "many"]) fun _ _ _ _ _ _ us hl => match us, hl with | [_, _], _ => rfl
    m_are_numbers := PySem.W.mg_of X G a20
    a_are_values := f21
    d_are_values := PySem.W.fnOf "are_values" "are_values" (defArgs s_are_values) (defBody s_are_values) (defScope s_are_values) .none kV21 dc21 pm21 an21 cd21 ct21
    F_are_values := fun_mk (st := s_are_values) l21 c21 k21
    b_are_values := (fun_mk (st := s_are_values) l21 c21 k21).binds (ps := ["values", "kinds"]) fun _ _ _ _ _ _ us hl => match us, hl with | [_, _], _ => rfl
    m_are_values := PySem.W.mg_of X G a21
    a_is_value := f22
    d_is_value := PySem.W.fnOf "is_value" "is_value" (defArgs s_is_value) (defBody s_is_value) (defScope s_is_value) .none kV22 dc22 pm22 an22 cd22 ct22
    F_is_value := fun_mk (st := s_is_value) l22 c22 k22
    b_is_value := (fun_mk (st := s_is_value) l22 c22 k22).binds (ps := ["value", "kind"]) fun _ _ _ _ _ _ us hl => match us, hl with | [_, _], _ => rfl
    m_is_value := PySem.W.mg_of X G a22
    a__law_number := f23
    d__law_number := PySem.W.fnOf "_law_number" "_law_number" (defArgs s__law_number) (defBody s__law_number) (defScope s__law_number) .none kV23 dc23 pm23 an23 cd23 ct23
    F__law_number := fun_mk (st := s__law_number) l23 c23 k23
    b__law_number := (fun_mk (st := s__law_number) l23 c23 k23).binds (ps := ["script", "index"]) fun _ _ _ _ _ _ us hl => match us, hl with | [_, _], _ => rfl
    m__law_number := PySem.W.mg_of X G a23
    a__law_take := f24
    d__law_take := PySem.W.fnOf "_law_take" "_law_take" (defArgs s__law_take) (defBody s__law_take) (defScope s__law_take) .none kV24 dc24 pm24 an24 cd24 ct24
    F__law_take := fun_mk (st := s__law_take) l24 c24 k24
    b__law_take := (fun_mk (st := s__law_take) l24 c24 k24).binds (ps := ["draw", "many"]) fun _ _ _ _ _ _ us hl => match us, hl with | [_, _], _ => rfl
    m__law_take := PySem.W.mg_of X G a24
    a__law_pick := f25
    d__law_pick := PySem.W.fnOf "_law_pick" "_law_pick" (defArgs s__law_pick) (defBody s__law_pick) (defScope s__law_pick) .none kV25 dc25 pm25 an25 cd25 ct25
    F__law_pick := fun_mk (st := s__law_pick) l25 c25 k25
    b__law_pick := (fun_mk (st := s__law_pick) l25 c25 k25).binds (ps := ["draw", "items"]) fun _ _ _ _ _ _ us hl => match us, hl with | [_, _], _ => rfl
    m__law_pick := PySem.W.mg_of X G a25
    a__law_columns := f26
    d__law_columns := PySem.W.fnOf "_law_columns" "_law_columns" (defArgs s__law_columns) (defBody s__law_columns) (defScope s__law_columns) .none kV26 dc26 pm26 an26 cd26 ct26
    F__law_columns := fun_mk (st := s__law_columns) l26 c26 k26
    b__law_columns := (fun_mk (st := s__law_columns) l26 c26 k26).binds (ps := ["draw"]) fun _ _ _ _ _ _ us hl => match us, hl with | [_], _ => rfl
    m__law_columns := PySem.W.mg_of X G a26
    a__law_rows := f27
    d__law_rows := PySem.W.fnOf "_law_rows" "_law_rows" (defArgs s__law_rows) (defBody s__law_rows) (defScope s__law_rows) .none kV27 dc27 pm27 an27 cd27 ct27
    F__law_rows := fun_mk (st := s__law_rows) l27 c27 k27
    b__law_rows := (fun_mk (st := s__law_rows) l27 c27 k27).binds (ps := ["draw", "columns", "most"]) fun _ _ _ _ _ _ us hl => match us, hl with | [_, _, _], _ => rfl
    m__law_rows := PySem.W.mg_of X G a27
    a__law_refused := f28
    d__law_refused := PySem.W.fnOf "_law_refused" "_law_refused" (defArgs s__law_refused) (defBody s__law_refused) (defScope s__law_refused) .none kV28 dc28 pm28 an28 cd28 ct28
    F__law_refused := fun_mk (st := s__law_refused) l28 c28 k28
    b__law_refused := (fun_mk (st := s__law_refused) l28 c28 k28).binds (ps := ["deed"]) fun _ _ _ _ _ _ us hl => match us, hl with | [_], _ => rfl
    m__law_refused := PySem.W.mg_of X G a28
    a__law_columns_right := f29
    d__law_columns_right := PySem.W.fnOf "_law_columns_right" "_law_columns_right" (defArgs s__law_columns_right) (defBody s__law_columns_right) (defScope s__law_columns_right) .none kV29 dc29 pm29 an29 cd29 ct29
    F__law_columns_right := fun_mk (st := s__law_columns_right) l29 c29 k29
    b__law_columns_right := (fun_mk (st := s__law_columns_right) l29 c29 k29).binds (ps := ["draw", "columns"]) fun _ _ _ _ _ _ us hl => match us, hl with | [_, _], _ => rfl
    m__law_columns_right := PySem.W.mg_of X G a29
    a__law_bent := f30
    d__law_bent := PySem.W.fnOf "_law_bent" "_law_bent" (defArgs s__law_bent) (defBody s__law_bent) (defScope s__law_bent) .none kV30 dc30 pm30 an30 cd30 ct30
    F__law_bent := fun_mk (st := s__law_bent) l30 c30 k30
    b__law_bent := (fun_mk (st := s__law_bent) l30 c30 k30).binds (ps := ["draw", "columns", "row"]) fun _ _ _ _ _ _ us hl => match us, hl with | [_, _, _], _ => rfl
    m__law_bent := PySem.W.mg_of X G a30
    a_law := f31
    d_law := PySem.W.fnOf "law" "law" (defArgs s_law) (defBody s_law) (defScope s_law) .none kV31 dc31 pm31 an31 cd31 ct31
    F_law := fun_mk (st := s_law) l31 c31 k31
    b_law := (fun_mk (st := s_law) l31 c31 k31).binds (ps := ["script"]) fun _ _ _ _ _ _ us hl => match us, hl with | [_], _ => rfl
    m_law := PySem.W.mg_of X G a31
    c_Columns := c_Columns
    m_Columns := PySem.W.mg_of X G ac_Columns
    c_Table := c_Table
    m_Table := PySem.W.mg_of X G ac_Table
    c_SieveError := c_SieveError
    m_SieveError := PySem.W.mg_of X G ac_SieveError
    c_BadColumns := c_BadColumns
    m_BadColumns := PySem.W.mg_of X G ac_BadColumns
    c_BadTable := c_BadTable
    m_BadTable := PySem.W.mg_of X G ac_BadTable
    cl_Columns := ⟨pg_Columns, hd_Columns, po_Columns, sa_Columns⟩
    mk_Columns := ⟨mk_Columns, a7, fn_Columns, kc_Columns⟩
    n_Columns_hashed := n_Columns_hashed
    n_Columns__asked := n_Columns__asked
    n_Columns_summed := n_Columns_summed
    q_Columns_kinds := ⟨a9, w9, k9⟩
    q_Columns_eq := ⟨a10, w10, k10⟩
    ne_Columns := ne_Columns
    mo_Columns := mo_Columns
    ty_Columns := fun e => .base (.ins e ⟨pg_Columns, hd_Columns, po_Columns, sa_Columns⟩ xp_Columns xq_Columns xr_Columns mo_Columns)
    o_Columns_asked := o_Columns_asked
    p_Columns_asked := ⟨pa_Columns_asked, pb_Columns_asked, pc_Columns_asked, ⟨_, pd_Columns_asked⟩⟩
    cl_Table := ⟨pg_Table, hd_Table, po_Table, sa_Table⟩
    mk_Table := ⟨mk_Table, a11, fn_Table, kc_Table⟩
    n_Table_columns := n_Table_columns
    n_Table_rows := n_Table_rows
    q_Table_entity := ⟨a12, w12, k12⟩
    q_Table_entities := ⟨a13, w13, k13⟩
    q_Table_len := ⟨a14, w14, k14⟩
    q_Table_eq := ⟨a15, w15, k15⟩
    ne_Table := ne_Table
    mo_Table := mo_Table
    ty_Table := fun e => .base (.ins e ⟨pg_Table, hd_Table, po_Table, sa_Table⟩ xp_Table xq_Table xr_Table mo_Table)
    r_SieveError := ⟨ra_SieveError, rb_SieveError⟩
    i_SieveError := ri_SieveError
    x_BadColumns := ⟨⟨_, _, _, _, _, _, _, _, _, _, _, _, _, _, _, xl_BadColumns, xb_BadColumns⟩, xs_BadColumns, xx_BadColumns, xy_BadColumns, xc_BadColumns⟩
    xi_BadColumns := a5
    xt_BadColumns := xt_BadColumns
    xn_BadColumns := xn_BadColumns
    xf_BadColumns := ⟨xg_BadColumns, xh_BadColumns, xx_BadColumns, xd_BadColumns⟩
    xm_BadColumns := PySem.W.exm_ref xx_BadColumns xd_BadColumns xy_BadColumns xv_BadColumns
    xe_BadColumns := ⟨xg_BadColumns, xh_BadColumns, xx_BadColumns, xd_BadColumns, xp_BadColumns, xq_BadColumns, xr_BadColumns, xo_BadColumns⟩
    xk_BadColumns := kit_of_exm (PySem.W.exm_ref yb_SieveError yh_SieveError yt_SieveError xw_BadColumns)
    x_BadTable := ⟨⟨_, _, _, _, _, _, _, _, _, _, _, _, _, _, _, xl_BadTable, xb_BadTable⟩, xs_BadTable, xx_BadTable, xy_BadTable, xc_BadTable⟩
    xi_BadTable := a6
    xt_BadTable := xt_BadTable
    xn_BadTable := xn_BadTable
    xf_BadTable := ⟨xg_BadTable, xh_BadTable, xx_BadTable, xd_BadTable⟩
    xm_BadTable := PySem.W.exm_ref xx_BadTable xd_BadTable xy_BadTable xv_BadTable
    xe_BadTable := ⟨xg_BadTable, xh_BadTable, xx_BadTable, xd_BadTable, xp_BadTable, xq_BadTable, xr_BadTable, xo_BadTable⟩
    xk_BadTable := kit_of_exm (PySem.W.exm_ref yb_SieveError yh_SieveError yt_SieveError xw_BadTable)
    yv_BadColumns := kit_value yv_BadColumns
    yz_BadColumns_BadTable := PySem.W.exm_ref xx_BadTable xd_BadTable xy_BadTable yz_BadColumns_BadTable
    yv_BadTable := kit_value yv_BadTable
    yz_BadTable_BadColumns := PySem.W.exm_ref xx_BadColumns xd_BadColumns xy_BadColumns yz_BadTable_BadColumns
    t_MOST_ROWS := t_MOST_ROWS
    m_MOST_ROWS := PySem.W.mg_of X G g_MOST_ROWS
    t_KEY := t_KEY
    m_KEY := PySem.W.mg_of X G g_KEY
    t_LETTERS := t_LETTERS
    m_LETTERS := PySem.W.mg_of X G g_LETTERS
    t_FAR := t_FAR
    m_FAR := PySem.W.mg_of X G g_FAR
    t_LONGEST_NAME := t_LONGEST_NAME
    m_LONGEST_NAME := PySem.W.mg_of X G g_LONGEST_NAME
    t_MOST_HASHED := t_MOST_HASHED
    m_MOST_HASHED := PySem.W.mg_of X G g_MOST_HASHED
    t_MOST_ASKED := t_MOST_ASKED
    m_MOST_ASKED := PySem.W.mg_of X G g_MOST_ASKED
    t_MOST_SUMMED := t_MOST_SUMMED
    m_MOST_SUMMED := PySem.W.mg_of X G g_MOST_SUMMED
    z_ValueError := PySem.W.mg_none_of X G z_ValueError
    z_isinstance := PySem.W.mg_none_of X G z_isinstance
    z_all := PySem.W.mg_none_of X G z_all
    z_str := PySem.W.mg_none_of X G z_str
    z_range := PySem.W.mg_none_of X G z_range
    z_int := PySem.W.mg_none_of X G z_int
    z_list := PySem.W.mg_none_of X G z_list
    z_tuple := PySem.W.mg_none_of X G z_tuple
    z_dict := PySem.W.mg_none_of X G z_dict
    z_enumerate := PySem.W.mg_none_of X G z_enumerate
    z_len := PySem.W.mg_none_of X G z_len
    z_sorted := PySem.W.mg_none_of X G z_sorted
    z_bool := PySem.W.mg_none_of X G z_bool
    z_set := PySem.W.mg_none_of X G z_set
    z_zip := PySem.W.mg_none_of X G z_zip
    z_max := PySem.W.mg_none_of X G z_max
    a_RESERVED := g_RESERVED
    m_RESERVED := PySem.W.mg_of X G a_RESERVED
    q_RESERVED := fun H => .inr ⟨_, _, _, l_RESERVED, rfl, rfl, (by show 9 ≤ sizeLine; decide), (.cons ⟨_, rfl⟩ (.cons ⟨_, rfl⟩ (.cons ⟨_, rfl⟩ (.cons ⟨_, rfl⟩ (.cons ⟨_, rfl⟩ (.cons ⟨_, rfl⟩ (.cons ⟨_, rfl⟩ (.cons ⟨_, rfl⟩ (.cons ⟨_, rfl⟩ .nil)))))))))⟩ }
  rw [e]
  exact law_at T (fun s v => .of_eq rfl) ta0 th0 tg0 tn0 ta1 th1 tg1 tn1 tne
theorem walk {l : PySem.W.OpenLaw} {q : Program} {loose : List Str} {XP : (Str → Option Value) → Heap → Prop} {YP : World → Heap → Prop} {d : DefRec} {K : Params → PySem.W.Frag} (hn : l.most = some 63) (hdf : d.params.defaults = [])
    (known : (([("law" : Str), ("_law_columns_right" : Str)] : List Str).all fun y => (PyProof.Rows.recsOf q).any fun e => e.name == y) = true) (hY : ∀ (w : World) (h : Heap), YP w h → (K w.params).In h)
    (F : ∀ (w : World) (mg : Str → Option Value) (fa : Addr) (h : Heap), YP w h → (K w.params).In h → h.Ns mainGlobals mg → mg d.name = some (.ref fa) →
      (∀ y ∈ ([("law" : Str), ("_law_columns_right" : Str)] : List Str), ∀ c P, PySem.W.tabIn (K w.params) y = some (c, P) → PySem.W.CodeHd h c P ∧ h.get? P = some { cls := .none, data := .fields #[] }) → LamX.LawAtS l w (K w.params) CX0 13 63 "script" mg fa h) :
    PySem.W.WalkO q loose XP YP l.row.toRowW d [] (fun f vs => PySem.call f vs) :=
  My.walk_ofTabs (n := 63) (k := 13) (x := "script") (CX := fun _ => CX0) [("law" : Str), ("_law_columns_right" : Str)] hn (by decide) hdf ⟨rfl, by decide, by decide⟩ known hY F fun _ _ _ _ _ z => z
end My
open PySem PySem.W PyProof.Rows in
set_option maxRecDepth 100000 in
set_option maxHeartbeats 0 in
theorem PySem.Challenge.cw_evensieve_k01_tables_holds : PySem.Challenge.rw_evensieve_k01_tables.Holds := by
  w_on; o_law; k_head; (case hw => w_witness2)
  k_fill
  refine My.walk (l := PySem.Challenge.rw_evensieve_k01_tables) rfl rfl ?known (fun w h Y => by first | exact PySem.W.kIn_of Y | exact PySem.W.km_in_of Y) ?F
  case known => first | rfl | decide +kernel
  case F =>
    intro w mg fa h Y KX G hmg tables
    refine' My.all_mk KX G hmg tables ?ac_Columns ?ac_Table ?ac_SieveError ?ac_BadColumns ?ac_BadTable ?a0 ?l0 ?c0 ?k0 ?a1 ?l1 ?c1 ?k1 ?a2 ?l2 ?c2 ?k2 ?a3 ?l3 ?c3 ?k3 ?a4 ?l4 ?c4 ?k4 ?a5 ?l5 ?c5 ?k5 ?a6 ?l6 ?c6 ?k6 ?a7 ?l7 ?c7 ?k7 ?pa_Columns_asked ?pb_Columns_asked ?pc_Columns_asked ?pd_Columns_asked ?l8 ?c8 ?k8 ?a9 ?w9 ?l9 ?c9 ?k9 ?a10 ?w10 ?l10 ?c10 ?k10 ?a11 ?l11 ?c11 ?k11 ?a12 ?w12 ?l12 ?c12 ?k12 ?a13 ?w13 ?l13 ?c13 ?k13 ?a14 ?w14 ?l14 ?c14 ?k14 ?a15 ?w15 ?l15 ?c15 ?k15 ?a16 ?l16 ?c16 ?k16 ?a17 ?l17 ?c17 ?k17 ?a18 ?l18 ?c18 ?k18 ?a19 ?l19 ?c19 ?k19 ?a20 ?l20 ?c20 ?k20 ?a21 ?l21 ?c21 ?k21 ?a22 ?l22 ?c22 ?k22 ?a23 ?l23 ?c23 ?k23 ?a24 ?l24 ?c24 ?k24 ?a25 ?l25 ?c25 ?k25 ?a26 ?l26 ?c26 ?k26 ?a27 ?l27 ?c27 ?k27 ?a28 ?l28 ?c28 ?k28 ?a29 ?l29 ?c29 ?k29 ?a30 ?l30 ?c30 ?k30 ?a31 ?l31 ?c31 ?k31 ?pg_Columns ?hd_Columns ?po_Columns ?sa_Columns ?mk_Columns ?kc_Columns ?fn_Columns ?n_Columns_hashed ?n_Columns__asked ?n_Columns_summed ?ne_Columns ?mo_Columns ?xp_Columns ?xq_Columns ?xr_Columns ?pg_Table ?hd_Table ?po_Table ?sa_Table ?mk_Table ?kc_Table ?fn_Table ?n_Table_columns ?n_Table_rows ?ne_Table ?mo_Table ?xp_Table ?xq_Table ?xr_Table ?ra_SieveError ?rb_SieveError ?ri_SieveError ?yb_SieveError ?yh_SieveError ?yt_SieveError ?xl_BadColumns ?xb_BadColumns ?xs_BadColumns ?xx_BadColumns ?xy_BadColumns ?xc_BadColumns ?xt_BadColumns ?xn_BadColumns ?xg_BadColumns ?xh_BadColumns ?xd_BadColumns ?xv_BadColumns ?xw_BadColumns ?xp_BadColumns ?xq_BadColumns ?xr_BadColumns ?xo_BadColumns ?xl_BadTable ?xb_BadTable ?xs_BadTable ?xx_BadTable ?xy_BadTable ?xc_BadTable ?xt_BadTable ?xn_BadTable ?xg_BadTable ?xh_BadTable ?xd_BadTable ?xv_BadTable ?xw_BadTable ?xp_BadTable ?xq_BadTable ?xr_BadTable ?xo_BadTable ?yv_BadColumns ?yz_BadColumns_BadTable ?yv_BadTable ?yz_BadTable_BadColumns ?g_MOST_ROWS ?g_KEY ?g_LETTERS ?g_FAR ?g_LONGEST_NAME ?g_MOST_HASHED ?g_MOST_ASKED ?g_MOST_SUMMED ?z_ValueError ?z_isinstance ?z_all ?z_str ?z_range ?z_int ?z_list ?z_tuple ?z_dict ?z_enumerate ?z_len ?z_sorted ?z_bool ?z_set ?z_zip ?z_max ?a_RESERVED ?l_RESERVED ?ta0 ?tl0 ?te0 ?tn0 ?ta1 ?tl1 ?te1 ?tn1 ?tne
    (case ac_Columns => k_is)
    (case ac_Table => k_is)
    (case ac_SieveError => k_is)
    (case ac_BadColumns => k_is)
    (case ac_BadTable => k_is)
    (case a0 => k_is)
    (case l0 => k_is)
    (case c0 => k_is)
    (case k0 => k_is)
    (case a1 => k_is)
    (case l1 => k_is)
    (case c1 => k_is)
    (case k1 => k_is)
    (case a2 => k_is)
    (case l2 => k_is)
    (case c2 => k_is)
    (case k2 => k_is)
    (case a3 => k_is)
    (case l3 => k_is)
    (case c3 => k_is)
    (case k3 => k_is)
    (case a4 => k_is)
    (case l4 => k_is)
    (case c4 => k_is)
    (case k4 => k_is)
    (case a5 => k_is)
    (case l5 => k_is)
    (case c5 => k_is)
    (case k5 => k_is)
    (case a6 => k_is)
    (case l6 => k_is)
    (case c6 => k_is)
    (case k6 => k_is)
    (case a7 => k_is)
    (case l7 => k_is)
    (case c7 => k_is)
    (case k7 => k_is)
    (case pa_Columns_asked => k_is)
    (case pb_Columns_asked => k_is)
    (case pc_Columns_asked => k_is)
    (case pd_Columns_asked => k_is)
    (case l8 => k_is)
    (case c8 => k_is)
    (case k8 => k_is)
    (case a9 => k_is)
    (case w9 => k_is)
    (case l9 => k_is)
    (case c9 => k_is)
    (case k9 => k_is)
    (case a10 => k_is)
    (case w10 => k_is)
    (case l10 => k_is)
    (case c10 => k_is)
    (case k10 => k_is)
    (case a11 => k_is)
    (case l11 => k_is)
    (case c11 => k_is)
    (case k11 => k_is)
    (case a12 => k_is)
    (case w12 => k_is)
    (case l12 => k_is)
    (case c12 => k_is)
    (case k12 => k_is)
    (case a13 => k_is)
    (case w13 => k_is)
    (case l13 => k_is)
    (case c13 => k_is)
    (case k13 => k_is)
    (case a14 => k_is)
    (case w14 => k_is)
    (case l14 => k_is)
    (case c14 => k_is)
    (case k14 => k_is)
    (case a15 => k_is)
    (case w15 => k_is)
    (case l15 => k_is)
    (case c15 => k_is)
    (case k15 => k_is)
    (case a16 => k_is)
    (case l16 => k_is)
    (case c16 => k_is)
    (case k16 => k_is)
    (case a17 => k_is)
    (case l17 => k_is)
    (case c17 => k_is)
    (case k17 => k_is)
    (case a18 => k_is)
    (case l18 => k_is)
    (case c18 => k_is)
    (case k18 => k_is)
    (case a19 => k_is)
    (case l19 => k_is)
    (case c19 => k_is)
    (case k19 => k_is)
    (case a20 => k_is)
    (case l20 => k_is)
    (case c20 => k_is)
    (case k20 => k_is)
    (case a21 => k_is)
    (case l21 => k_is)
    (case c21 => k_is)
    (case k21 => k_is)
    (case a22 => k_is)
    (case l22 => k_is)
    (case c22 => k_is)
    (case k22 => k_is)
    (case a23 => k_is)
    (case l23 => k_is)
    (case c23 => k_is)
    (case k23 => k_is)
    (case a24 => k_is)
    (case l24 => k_is)
    (case c24 => k_is)
    (case k24 => k_is)
    (case a25 => k_is)
    (case l25 => k_is)
    (case c25 => k_is)
    (case k25 => k_is)
    (case a26 => k_is)
    (case l26 => k_is)
    (case c26 => k_is)
    (case k26 => k_is)
    (case a27 => k_is)
    (case l27 => k_is)
    (case c27 => k_is)
    (case k27 => k_is)
    (case a28 => k_is)
    (case l28 => k_is)
    (case c28 => k_is)
    (case k28 => k_is)
    (case a29 => k_is)
    (case l29 => k_is)
    (case c29 => k_is)
    (case k29 => k_is)
    (case a30 => k_is)
    (case l30 => k_is)
    (case c30 => k_is)
    (case k30 => k_is)
    (case a31 => k_is)
    (case l31 => k_is)
    (case c31 => k_is)
    (case k31 => k_is)
    (case pg_Columns => k_is)
    (case hd_Columns => k_is)
    (case po_Columns => k_is)
    (case sa_Columns => k_is)
    (case mk_Columns => k_is)
    (case kc_Columns => k_is)
    (case fn_Columns => k_is)
    (case n_Columns_hashed => k_is)
    (case n_Columns__asked => k_is)
    (case n_Columns_summed => k_is)
    (case ne_Columns => k_is)
    (case mo_Columns => k_is)
    (case xp_Columns => k_is)
    (case xq_Columns => k_is)
    (case xr_Columns => k_is)
    (case pg_Table => k_is)
    (case hd_Table => k_is)
    (case po_Table => k_is)
    (case sa_Table => k_is)
    (case mk_Table => k_is)
    (case kc_Table => k_is)
    (case fn_Table => k_is)
    (case n_Table_columns => k_is)
    (case n_Table_rows => k_is)
    (case ne_Table => k_is)
    (case mo_Table => k_is)
    (case xp_Table => k_is)
    (case xq_Table => k_is)
    (case xr_Table => k_is)
    (case ra_SieveError => k_is)
    (case rb_SieveError => k_is)
    (case ri_SieveError => k_is)
    (case yb_SieveError => k_is)
    (case yh_SieveError => k_is)
    (case yt_SieveError => k_is)
    (case xl_BadColumns => k_is)
    (case xb_BadColumns => decide +kernel)
    (case xs_BadColumns => k_is)
    (case xx_BadColumns => k_is)
    (case xy_BadColumns => k_is)
    (case xc_BadColumns => k_is)
    (case xt_BadColumns => k_is)
    (case xn_BadColumns => k_is)
    (case xg_BadColumns => k_is)
    (case xh_BadColumns => k_is)
    (case xd_BadColumns => k_is)
    (case xv_BadColumns => k_is)
    (case xw_BadColumns => k_is)
    (case xp_BadColumns => k_is)
    (case xq_BadColumns => k_is)
    (case xr_BadColumns => k_is)
    (case xo_BadColumns => k_is)
    (case xl_BadTable => k_is)
    (case xb_BadTable => decide +kernel)
    (case xs_BadTable => k_is)
    (case xx_BadTable => k_is)
    (case xy_BadTable => k_is)
    (case xc_BadTable => k_is)
    (case xt_BadTable => k_is)
    (case xn_BadTable => k_is)
    (case xg_BadTable => k_is)
    (case xh_BadTable => k_is)
    (case xd_BadTable => k_is)
    (case xv_BadTable => k_is)
    (case xw_BadTable => k_is)
    (case xp_BadTable => k_is)
    (case xq_BadTable => k_is)
    (case xr_BadTable => k_is)
    (case xo_BadTable => k_is)
    (case yv_BadColumns => k_is)
    (case yz_BadColumns_BadTable => k_is)
    (case yv_BadTable => k_is)
    (case yz_BadTable_BadColumns => k_is)
    (case g_MOST_ROWS => k_is)
    (case g_KEY => k_is)
    (case g_LETTERS => k_is)
    (case g_FAR => k_is)
    (case g_LONGEST_NAME => k_is)
    (case g_MOST_HASHED => k_is)
    (case g_MOST_ASKED => k_is)
    (case g_MOST_SUMMED => k_is)
    (case z_ValueError => k_is)
    (case z_isinstance => k_is)
    (case z_all => k_is)
    (case z_str => k_is)
    (case z_range => k_is)
    (case z_int => k_is)
    (case z_list => k_is)
    (case z_tuple => k_is)
    (case z_dict => k_is)
    (case z_enumerate => k_is)
    (case z_len => k_is)
    (case z_sorted => k_is)
    (case z_bool => k_is)
    (case z_set => k_is)
    (case z_zip => k_is)
    (case z_max => k_is)
    (case a_RESERVED => k_is)
    (case l_RESERVED => k_is)
    (case ta0 => rfl)
    (case tl0 => k_is)
    (case te0 => rfl)
    (case tn0 => first | rfl | kernel_rfl)
    (case ta1 => rfl)
    (case tl1 => k_is)
    (case te1 => rfl)
    (case tn1 => first | rfl | kernel_rfl)
    (case tne => decide)
