import PyProof.Rows.All
import Wide.All
import OpenK.AllK
import Wide.FinOn
import HandS.ForMost
import HandS.ForExc
import HandS.Wide
import HandS.Gcd
import HandS.IsInst
import HandS.ExcInit
import HandS.ExcField
import HandS.ExcIs
import HandS.Property
import HandS.DictComp
import HandS.ClsMeth
import HandS.Zip
import HandS.Walk
import HandS.Style
import HandS.TupAny
import HandS.More
import HandS.Strs
import KE.GoesEnum
import PySem.Challenge.RW_evensieve_k02_plans
set_option Elab.async false
set_option linter.all false
set_option maxRecDepth 100000
set_option maxHeartbeats 4000000
namespace My
open PySem L2 PySem.Spec PyProof.Rows
section
variable {X : Cx}
/-! ### Base.__init__(self, ..), Base an own class over ValueError without one of its own -/
def tBaseI (K : PySem.W.Frag) (ta : TA) : TE := fun σ H Q => ta σ H fun vs H1 => ∃ (a C : Addr) (ws : List V), vs = .ref a :: ws ∧ ws.length ≤ 1000 ∧ OexC K C ∧ H1 a = some (exo a C none) ∧ Q .non H1
theorem pe_baseinit {x : Str} {S : Addr} {mc : Value} {e : Expr} {es : List Expr} {ta : TA} {p1 p2 pos : Pos} {pl : Sem Bool} (hg : Gl X x) (hm : X.mg x = some (.ref S)) (r : ClX.CRead X.K S mc) (at_ : PySem.W.findCls X.K (.ref S) mc "__init__" = some (.val (.builtin "ValueError.__init__"))) (ha : PA X (e :: es) ta)
    (hd : (x == ("__debug__" : Str)) = false := by decide)
    (hc : eval (.Call (.Attribute (.Name x p1) "__init__" p2) (e :: es) [] pos) X.env = (do
      let ov ← eval (.Name x p1) X.env
      standAt p2.atName
      let (f, first) ← holding [ov] (getMethod ov "__init__" pl)
      callWith pos f first (backTo pos (starEach (e :: es) X.env)) (backToKw pos (keywordEach [] X.env))) := by rfl)
    (he : starEach (e :: es) X.env = (false, eval e X.env) :: starEach es X.env := by rfl) (hpl : (backTo pos (starEach es X.env)).any (·.1) = false := by rfl) :
    PE X (.Call (.Attribute (.Name x p1) "__init__" p2) (e :: es) [] pos) (tBaseI X.K ta) := by
  refine ⟨fun pins s σ H Q I want => ?_⟩
  refine PySem.W.methodCall_KW (ld_glob I hg hm ?_ hd) hc
  refine PySem.W.method_cls I.kIn r.ga ?_
  refine PySem.W.cls_value I.kIn r.rd at_ (by decide +kernel) ?_
  refine PyProof.Rows.callWith_method1 (thn (ha.run pos pins _ σ H _ (I.tok _) want) fun us s1 ⟨vs, H1, I1, r1, a, C, ws, ev, hl, T, ea, q⟩ => ?_) he hpl
  subst ev
  cases r1 with
  | @cons _ u0 _ ur ra rest =>
    obtain rfl : u0 = Value.ref a := ra
    exact oinit_ok T I1 ea (by rw [← Paired.length rest, sizeLine_eq]; omega) fun s' J => ⟨.non, H1, J, rfl, q⟩
end
end My
set_option Elab.async false
set_option linter.all false
set_option maxRecDepth 100000
set_option maxHeartbeats 4000000
namespace My
open PySem L2 PySem.Spec PyProof.Rows HT
section
variable {prog : Program} {w : World} {A : Around} {E : Value → Shared → Prop} {s : Shared}
theorem back_take {α : Type} (l : List α) : ∀ m : Nat, m ≤ l.length → (List.range m).filterMap (fun k => l[l.length - 1 - k]?) = l.reverse.take m
  | 0, _ => by simp
  | m + 1, h => by
    have ih := back_take l m (by omega)
    rw [List.range_succ, List.filterMap_append, ih, List.take_add_one, List.getElem?_reverse (by omega)]
    cases e : l[l.length - 1 - m]? <;> simp [List.filterMap, e]
theorem fm_same {α β : Type} {f g : α → Option β} : ∀ l : List α, (∀ k, k ∈ l → f k = g k) → l.filterMap f = l.filterMap g
  | [], _ => rfl
  | a :: l, h => by
    rw [List.filterMap_cons, List.filterMap_cons, h a List.mem_cons_self, fm_same l fun k m => h k (List.mem_cons_of_mem _ m)]
theorem back_pick (items : Array Value) : (List.filterMap (fun k : Nat => items[((items.size : Int) - 1 + (k : Int) * -1).toNat]?) (List.range items.size)).toArray = items.toList.reverse.toArray := by
  have h := back_take items.toList items.toList.length (Nat.le_refl _)
  rw [List.take_of_length_le (by simp)] at h
  rw [← h]
  congr 1
  have e : items.toList.length = items.size := by simp
  rw [e]
  refine fm_same _ fun k hk => ?_
  have hk' := List.mem_range.mp hk
  rw [show ((items.size : Int) - 1 + (k : Int) * -1).toNat = items.size - 1 - k by omega]
  simp
theorem applied_back {sl : Addr} {vs : Value} {n : Nat} {Q : Int × Int × Nat → Shared → Prop} (hs : s.heap.IsSliceOf sl .none .none vs) (ps : IsPart vs (some (-1))) (h : Q ((n : Int) - 1, -1, n) s) :
    wpAny (model prog w) A (Builtin.Slice.sliceApplied (.ref sl) (pure (n : Int))) Q E s := by
  obtain ⟨rec, at_, _, data⟩ := id hs
  unfold Builtin.Slice.sliceApplied Builtin.Slice.sliceFields
  refine wpAny_bind (wpAny_bind (wpAny_field at_ data (x := .none) rfl (wpAny_bind (wpAny_field at_ data (x := .none) rfl (wpAny_bind (wpAny_field at_ data (x := vs) rfl (wpAny_pure ?_)))))))
  refine wpAny_bind (slicePart_ ps ?_)
  show wpAny _ _ (if ((-1 : Int) == 0) = true then _ else _) _ _ s
  rw [if_neg (by decide)]
  refine wpAny_bind (slicePart_none (wpAny_bind (slicePart_none (wpAny_bind (wpAny_pure ?_)))))
  show wpAny _ _ (match Builtin.Slice.sliceAdjust none none (-1) (n : Int) with | (lo, hi) => pure (lo, (-1 : Int), Builtin.Slice.slicePlaces lo hi (-1))) _ _ s
  have e : Builtin.Slice.sliceAdjust none none (-1) (n : Int) = ((n : Int) - 1, -1) := by simp [Builtin.Slice.sliceAdjust]
  rw [e]
  show wpAny _ _ (pure ((n : Int) - 1, (-1 : Int), Builtin.Slice.slicePlaces ((n : Int) - 1) (-1) (-1))) _ _ s
  have e2 : Builtin.Slice.slicePlaces ((n : Int) - 1) (-1) (-1) = n := by
    simp [Builtin.Slice.slicePlaces]
    try omega
  rw [e2]
  exact wpAny_pure h
theorem tuple_back {t sl : Addr} {items : Array Value} {vs : Value} {Q : Value → Shared → Prop} (ht : IsTup s.heap t items) (hs : s.heap.IsSliceOf sl .none .none vs) (ps : IsPart vs (some (-1)))
    (h : Q (.ref s.heap.objs.size) { s with heap := s.heap.push { cls := .type "tuple", data := .seq items.toList.reverse.toArray } }) (hsz : items.size ≤ sizeLine) : wpAny (model prog w) A (getItem (.ref t) (.ref sl)) Q E s := by
  have room : sizeOk (.seq items.toList.reverse.toArray) := by
    show items.toList.reverse.toArray.size ≤ sizeLine
    simpa using hsz
  obtain ⟨rec, at_, cls_, data⟩ := id hs
  have kind : s.TypeIs (.ref sl) "slice" := ⟨rec, at_, cls_⟩
  unfold getItem
  try with_reducible refine wpAny_holding ?_
  first | refine wpAny_bind (wpAny_pure ?_) | skip
  refine wpAny_bind (wpAny_sequenceKey ht.typeIs (by decide) ?_)
  refine wpAny_bind (wpAny_callSpecial?_slot (name := Str.ofString "__getitem__") ht.typeIs PyProof.Rows.slot_tuple_getitem
    (wpAny_call_entry PyProof.Rows.slot_tuple_getitem ht.typeIs entry_tuple_getitem ?_ (args_tuple_getitem _ _)))
  show wpAny _ _ (Builtin.Tuple.tupleItemsOf (.ref t) >>= _) _ _ s
  refine wpAny_bind (tupleItemsOf_ ht ?_)
  refine wpAny_bind (wpAny_typeOf kind ?_)
  rw [if_pos (by decide)]
  refine wpAny_bind (applied_back hs ps ?_)
  have no : ¬ (((items.size : Int) - 1 == 0 && (-1 : Int) == 1 && items.size == items.size) = true) := by simp
  dsimp only
  rw [if_neg no, back_pick]
  first
    | exact wpAny_bind (m := Builtin.Tuple.tupleExact _) (wpAny_newObj_type (wpAny_pure ⟨_, rfl, wpAny_pure h⟩) room)
    | exact wpAny_bind (m := Builtin.Tuple.tupleExact _) (wpAny_newObj_type (wpAny_bind (wpAny_pure (wpAny_pure ⟨_, rfl, wpAny_pure h⟩))) room)
    | exact wpAny_bind (wpAny_bind (m := Builtin.Tuple.tupleExact _) (wpAny_newObj_type (wpAny_pure ⟨_, rfl, wpAny_pure h⟩) room))
end
/-! ### t[::-1] of a tuple, x in a chain of three comparisons -/
section
variable {X : Cx}
def tRevT (K : PySem.W.Frag) (te : TE) : TE := fun σ H Q => te σ H fun x H1 => ∃ a xs, x = .ref a ∧ SqT K H1 a xs ∧ ∀ p, H1 p = none → Q (.ref p) (upd H1 p (.tup xs.reverse))
theorem pe_revT {e : Expr} {te : TE} {k : Nat} {p1 p2 p3 pos : Pos} (he : PE X e te) : PE X (.Subscript e (.Slice none none (some (.UnaryOp .USub (.Constant (.int 1) k p1) p2)) p3) pos) (tRevT X.K te) := by
  refine ⟨fun pins s σ H Q I want => ?_⟩
  refine Subscript_ (thn (he.run pins s σ H _ I want) fun v s1 ⟨x, H1, I1, rx, a, xs, ex, hx, q⟩ => ?_)
  subst ex
  cases rx
  refine wpAny_Slice (thn (po_none.run pins s1 σ H1 (fun o H2 => o = none ∧ H2 = H1) I1 ⟨rfl, rfl⟩) fun vl s2 ⟨l, H2, I2, pl, el, e2⟩ => ?_)
  subst el e2
  refine thn (po_none.run pins s2 σ H2 (fun o H3 => o = none ∧ H3 = H2) I2 ⟨rfl, rfl⟩) fun vu s3 ⟨u, H3, I3, pu, eu, e3⟩ => ?_
  subst eu e3
  have minus : PO X (some (.UnaryOp .USub (.Constant (.int 1) k p1) p2)) (tPart (tUn (rU fun i => .int (-i)) (tC (.int 1)))) := po_some (pe_un un_neg pe_int)
  refine thn (minus.run pins s3 σ H3 (fun o H4 => o = some (-1) ∧ H4 = H3) I3 ⟨1, rfl, -1, rfl, rfl, rfl⟩) fun vs s4 ⟨o, H4, I4, ps, eo, e4⟩ => ?_
  subst eo e4
  have I5 : Inv X pins σ H4 { s4 with heap := s4.heap.push { cls := .type "slice", data := .fields #[vl, vu, vs] } } := I4.kept (t' := s4.toks) fun b ob q => Heap.get?_push_of_some _ q
  obtain ⟨its, r, ht, hz⟩ := I5.tuple hx
  have hlen := r.length
  cases pl
  cases pu
  show wpAny (model X.prog X.w) X.A (subscriptTail e (.Slice none none (some (.UnaryOp .USub (.Constant (.int 1) k p1) p2)) p3) (.ref a) (.ref s4.heap.objs.size)) (EP X pins σ Q) X.xe { s4 with heap := s4.heap.push { cls := .type "slice", data := .fields #[.none, .none, vs] } }
  refine tail_any (ops := [.ref a, .ref s4.heap.objs.size]) ht.typeIs (PyProof.Rows.slot_tuple_getitem.lookup) ?_ (by with_unfolding_all rfl)
  refine tuple_back ht (Heap.IsSliceOf.new _ .none .none vs) ps ?_ (by rw [List.size_toArray]; omega)
  refine ⟨.ref _, _, I5.laid (t' := s4.toks) (o := .tup xs.reverse) (fun b ob q => Heap.get?_push_of_some _ q) (Nat.le_refl _) ?_, rfl, q _ (I5.hok.fresh (Nat.le_refl _))⟩
  have hz2 : xs.reverse.length ≤ sizeLine := by rw [List.length_reverse]; exact hz
  refine ⟨hz2, its.reverse, r.reverse, ?_⟩
  exact IsTup.new _ its.reverse.toArray
def tChain3 (r r' r'' : R2) (ta tb tc td : TE) : TE := fun σ H Q => ta σ H fun x H1 => tb σ H1 fun y H2 => r x y H2 fun z H3 => ∃ k, z = .bl k ∧
  (if k = true then tc σ H3 fun y' H4 => r' y y' H4 fun z' H5 => ∃ k', z' = .bl k' ∧ (if k' = true then td σ H5 fun y'' H6 => r'' y' y'' H6 Q else Q (.bl false) H5) else Q (.bl false) H3)
theorem pe_chain3 {op op' op'' : CmpOp} {r r' r'' : R2} {a b c d : Expr} {ta tb tc td : TE} {pos : Pos} (ho : OpR X (compareOp op) r) (ho' : OpR X (compareOp op') r') (ho'' : OpR X (compareOp op'') r'') (ha : PE X a ta) (hb : PE X b tb) (hc : PE X c tc) (hd : PE X d td)
    (hm : lastMarks [op, op', op''] [b, c, d] = false := by with_unfolding_all rfl) : PE X (.Compare a [op, op', op''] [b, c, d] pos) (tChain3 r r' r'' ta tb tc td) := by
  refine ⟨fun pins s σ H Q I want => ?_⟩
  refine Compare_chain (thn (ha.run pins s σ H _ I want) fun v s1 ⟨x, H1, I1, r1, q1⟩ => chain_link (thn (hb.run pins s1 σ H1 _ I1 q1) fun u s2 ⟨y, H2, I2, r2, q2⟩ => thn (ho pins s2 σ H2 x y v u _ I2 r1 r2 q2) fun t s3 ⟨z, H3, I3, r3, k, e, q3⟩ => ?_)) hm
  subst e
  cases r3
  refine wpAny_truthy_bool ?_
  cases k with
  | false => exact ite_ff ⟨.bl false, H3, I3, rfl, q3⟩
  | true =>
    refine ite_tt (chain_link (thn (hc.run pins s3 σ H3 _ I3 q3) fun u' s4 ⟨y', H4, I4, r4, q4⟩ => thn (ho' pins s4 σ H4 y y' u u' _ I4 r2 r4 q4) fun t' s5 ⟨z', H5, I5, r5, k', e', q5⟩ => ?_))
    subst e'
    cases r5
    refine wpAny_truthy_bool ?_
    cases k' with
    | false => exact ite_ff ⟨.bl false, H5, I5, rfl, q5⟩
    | true => exact ite_tt (chain_last (thn (hd.run pins s5 σ H5 _ I5 q5) fun w' s6 ⟨y'', H6, I6, r6, q6⟩ => ho'' pins s6 σ H6 y' y'' u' w' Q I6 r4 r6 q6))
end
end My
set_option Elab.async false
set_option linter.all false
set_option maxRecDepth 100000
set_option maxHeartbeats 4000000
/-! isinstance(e, Base) in the suite, e a caught error that has its dict -/
namespace My
open PySem L2 PySem.Spec PyProof.Rows PySem.W
section
variable {prog : Program} {w : World} {A : Around} {E : Value → Shared → Prop} {s : Shared} {K : Frag} {x D : Addr} {ox od : Obj}
theorem exc_class {Q : Option Value → Shared → Prop} (C : ExcC K D) (X : K.In s.heap) (I : InstAt s.heap x ox D (some od)) (h : Q (some (.ref D)) { s with toks := s.toks + 1 }) :
    wpAny (model prog w) A (getAttr? (.ref x) "__class__") Q E s := by
  have found : findObj K D (some od) "__class__" = some (.bind (.builtin "getset_descriptor.__get__") (.builtin "object.__class__")) := by
    obtain ⟨cd, hc, _⟩ := any_some C.hd
    exact findObj_data (by rw [hc]; rfl) C.ha C.hn C.ht
  obtain ⟨heap, gens, drawn, n, os⟩ := s
  have T0 := I.type (M := model prog w)
  have T1 := looks_findIn (M := model prog w) X C.hg
  have T2 := looks_findIn (M := model prog w) X C.hk
  have T3 := looks_find (M := model prog w) X I found
  have isB : Looks (model prog w) heap (isInstance (.ref x) (.type "BaseException")) true := T0.andThen (looks_subIn X C.hs)
  have unlike : (Value.builtin "BaseException.__getattribute__" == Value.builtin "object.__getattribute__") = false := by decide +kernel
  have c1 : (onTheHeap (Value.ref D) && Value.builtin "BaseException.__getattribute__" == Value.builtin "object.__getattribute__") = false := by rw [unlike]; rfl
  have c2 : (false && onTheHeap (Value.builtin "BaseException.__getattribute__")) = false := rfl
  unfold getAttr? getAttrBy? getAttrBy
  refine wpAny_bind (wpAny_mkText (wpAny_bind (wpAny_attempt (wpAny_holding (wpAny_bind (T0.at (wpAny_bind (T1.at ?_))))))))
  show wpAny _ _ (if (onTheHeap (Value.ref D) && Value.builtin "BaseException.__getattribute__" == Value.builtin "object.__getattribute__") = true then _ else _) _ _ _
  rw [c1, if_neg Bool.false_ne_true]
  unfold getAttrByItsOwn hookBefore
  refine wpAny_bind ?_
  rw [if_pos (show onTheHeap (Value.ref D) = true from rfl)]
  refine T2.at ?_
  refine wpAny_bind (wpAny_attempt (wpAny_holding ?_))
  unfold callGetattribute
  rw [c2, if_neg Bool.false_ne_true]
  unfold boundAndCalled
  rw [PySem.F.excAttr_ValueError.ga.bind (.ref x)]
  refine wpAny_bind (wpAny_pure ?_)
  show wpAny _ _ (call (.builtin "BaseException.__getattribute__") [.ref x, .str "__class__" n]) _ _ _
  refine wpAny_call (codeAny_call_builtin PySem.F.excAttr_ValueError.ga.plain PySem.F.entry_bexc_ga ?_)
  refine @check_slot (model prog w) _ _ ⟨heap, gens, drawn, n + 1, os⟩ "BaseException.__getattribute__" "BaseException" "__getattribute__" (.ref x) [.str "__class__" n] [] _ (by decide +kernel) (by decide +kernel) isB (PySem.F.args_bexc_ga (.ref x) (.str "__class__" n)) ?_
  unfold Builtin.«object.__getattribute__»
  refine wpAny_bind (wpAny_of_eq (a := ((Value.ref x : Value), [Value.str "__class__" n])) (by first | rfl | (simp only [slotArgs]; rfl)) ?_)
  refine wpAny_bind (wpAny_pure (wpAny_bind (T0.at (wpAny_bind (T3.at ?_)))))
  show wpAny _ _ (holding [Value.builtin "object.__class__"] (call (.builtin "getset_descriptor.__get__") [.builtin "object.__class__", .ref x, .ref D]) >>= ret) _ _ _
  refine wpAny_bind (wpAny_holding (wpAny_call (class_get (s := ⟨heap, gens, drawn, n + 1, os⟩) (ox := ox) (od := some od) X I C.hm ?_)))
  refine wpAny_pure ?_
  show wpAny _ _ (handedOut (.ref D)) _ _ _
  rw [handedOut_of (v := .ref D) rfl]
  first
    | exact wpAny_pure (wpAny_pure h)
    | exact wpAny_pure h
    | exact wpAny_pure (wpAny_bind (wpAny_pure (wpAny_pure h)))
theorem kit_caught (C : ExcC K D) : KitX K (.ref x) (.ref D) (fun h => InstAt h x ox D (some od)) where
  ty := fun _ _ _ I => I.type
  it := fun M h X _ => by
    obtain ⟨cd, hc, _⟩ := any_some C.hd
    unfold clsIn at hc
    split at hc
    · rename_i _ _ _ _ found
      intro A' Q' E' s' keep q
      unfold isType loadHead
      exact wpAny_bind (wpAny_loadPart (keep _ _ (X _ _ found)) (wpAny_pure q))
    · cases hc
  ne := fun h tp dd its n sl X htp => by
    obtain ⟨cd, hc, _⟩ := any_some C.hd
    refine Bool.eq_false_iff.mpr fun q => ?_
    obtain rfl : D = tp := Value.ref.inj (beq_iff_eq.mp q)
    unfold clsIn at hc
    split at hc
    · rename_i _ _ _ _ found
      cases (X _ _ found).symm.trans htp
    · cases hc
  ca := fun X I k => exc_class C X I k
end
theorem kit_of_exm {K : Frag} {t c : Value} (h : exmOne K t c = some true) : kitOne K t c = some true := by
  unfold exmOne at h
  split at h
  · unfold kitOne
    split
    · rfl
    · exact h
  · cases h
/-- isinstance(e, S), e the error that the suite holds, with its dict at dd -/
def rIsC (K : Frag) (D a dd : Addr) : List V → Hp → VK → Prop := fun xs H Q => ∃ (S : Addr) (b : Bool) (fs : List (Str × V)), xs = [.ref a, .ref S] ∧ H dd = some (.xd fs) ∧ kitOne K (.ref D) (.ref S) = some b ∧ Q (.bl b) H
theorem call_isC {X : Cx} {a D dd : Addr} {oe : Obj} {pn : List (Addr × Obj)} (C : ExcC X.K D) (hz : Zc (.ref D) (some dd) oe) (hf : ∃ vs, oe.data = .fields vs) : CallR (X.suite a ((a, oe) :: pn)) (.builtin "isinstance") (rIsC X.K D a dd) := by
  intro pins s σ H xs us Q I r want
  obtain ⟨S, b, fs, rfl, hd, e, q⟩ := want
  obtain ⟨u1, u2, rfl, r1, r2⟩ := vals2 r
  obtain rfl : u1 = Value.ref a := r1
  obtain rfl : u2 = Value.ref S := r2
  obtain ⟨at_, _⟩ := I.pin (a, oe) (List.mem_append_left _ List.mem_cons_self)
  obtain ⟨vs, hv⟩ := hf
  have held : ObjOk X.prog X.w H s.heap dd (.xd fs) := I.hok dd _ hd
  obtain ⟨mA, hns, _⟩ := held
  obtain ⟨od, ho, _⟩ := lookIn_ns hns
  have J : InstAt s.heap a oe D (some od) := ⟨at_, hz.1, by unfold notCls; rw [hv] <;> rfl, by rw [hz.2]; exact ho⟩
  exact kia_one (kit_caught C) I.kIn J e (fun z => nomatch z) fun tk => ⟨.bl b, H, I.kept (t' := tk) fun _ _ z => z, rfl, q⟩
end My
set_option Elab.async false
set_option linter.all false
set_option maxRecDepth 100000
set_option maxHeartbeats 4000000
/-! len(set(xs)), xs a list of texts no two of which are one -/
namespace My
open PySem L2 PySem.Spec PyProof.Rows
def hasT (xs : List Str) (i : Nat) : Str → Bool := fun y => (xs.take i).any fun z => z == y
theorem hasT_more {xs : List Str} {i : Nat} (h : i < xs.length) (y : Str) : (hasT xs i y || decide (y = xs.getD i Str.empty)) = hasT xs (i + 1) y := by
  have e : xs.take (i + 1) = xs.take i ++ [xs[i]] := by rw [List.take_add_one, List.getElem?_eq_getElem h]; rfl
  have d : xs.getD i Str.empty = xs[i] := by rw [List.getD_eq_getElem?_getD, List.getElem?_eq_getElem h]; rfl
  unfold hasT
  rw [e, d, List.any_append]
  congr 1
  rw [List.any_cons, List.any_nil, Bool.or_false]
  by_cases q : y = xs[i]
  · rw [decide_eq_true q, q, beq_self_eq_true]
  · rw [decide_eq_false q]
    exact (beq_eq_false_iff_ne.mpr fun z => q z.symm).symm
theorem hasT_not {xs : List Str} (nd : xs.Nodup) {i : Nat} (h : i < xs.length) : hasT xs i (xs.getD i Str.empty) = false := by
  unfold hasT
  rw [List.getD_eq_getElem?_getD, List.getElem?_eq_getElem h]
  refine Bool.eq_false_iff.mpr fun z => ?_
  obtain ⟨y, hy, e⟩ := List.any_eq_true.mp z
  obtain rfl := beq_iff_eq.mp e
  obtain ⟨j, hj, ej⟩ := List.mem_iff_getElem.mp hy
  rw [List.length_take] at hj
  rw [List.getElem_take] at ej
  have := (List.getElem_inj nd).mp ej
  omega
section
variable {prog : Program} {w : World} {A : Around} {s : Shared}
/-- the loop that puts them in -/
theorem put_texts {R : Result → Shared → Prop} {I : Addr} {fp wr : List Addr} {G : Array GenState → Array GenState → Prop} {P : Nat → Value → Prop} {St : Nat → Shared → Prop} {xs : List Str}
    (W : WalksS prog w A.in1 I fp wr G xs.length P St) (S : Addr) (out : S ∉ fp) (nd : xs.Nodup) (few : xs.length < 100) (tells : ∀ i v, P i v → ∃ t, v = .str (xs.getD i Str.empty) t) :
    ∀ (left i : Nat) (s : Shared), i + left = xs.length → St i s → s.heap.SetOf (PySem.strKind prog w) S (hasT xs i) i →
      (∀ s', Moved (S :: wr) G s s' → s'.heap.SetOf (PySem.strKind prog w) S (hasT xs xs.length) xs.length → R (.ok (.ret .none)) s') →
      codeAny (model prog w) A (.builtin "set.update.loop" ⟨[.ref S, .ref I], []⟩) R s := by
  have stays : ∀ {s s' : Shared} {i : Nat}, Moved wr G s s' → s.heap.SetOf (PySem.strKind prog w) S (hasT xs i) i → s'.heap.SetOf (PySem.strKind prog w) S (hasT xs i) i := fun m h => by
    obtain ⟨o, es, ep, t, ho, z⟩ := h
    exact ⟨o, es, ep, t, m.heap S _ (fun q => out (W.sub _ q)) ho, z⟩
  intro left
  induction left with
  | zero =>
    intro i s e st h k
    obtain rfl : i = xs.length := by omega
    refine codeAny_builtin F.entry_set_update_loop ?_
    rw [Around.under_plainId F.plain_set_update_loop _]
    show wpAny _ A.in1 (do let x ← pyNext (.ref I); _) _ _ s
    exact wpAny_bind (W.done s _ _ st fun s' m => wpAny_pure (k s' (m.mono fun b q => .tail _ q) (stays m h)))
  | succ left ih =>
    intro i s e st h k
    have lt : i < xs.length := by omega
    refine codeAny_builtin F.entry_set_update_loop ?_
    rw [Around.under_plainId F.plain_set_update_loop _]
    show wpAny _ A.in1 (do let x ← pyNext (.ref I); _) _ _ s
    refine wpAny_bind (W.item i s _ _ lt st fun v s1 p st1 m => ?_)
    obtain ⟨t, rfl⟩ := tells i v p
    have h1 := stays m h
    refine wpAny_bind (wpAny_holding ?_)
    unfold setAdd
    refine wpAny_holding (wpAny_bind ((PySem.strKind prog w).pyHash (k := xs.getD i Str.empty) (strKind_is _ _ _ _) ?_))
    refine wpAny_setAddHashed_of (knd := PySem.strKind prog w) (s := { s1 with toks := s1.toks + 1 }) (strKind_is _ _ _ _) rfl h1 (by unfold scanBound; omega) fun h' only h2 => ?_
    have h3 : h'.SetOf (PySem.strKind prog w) S (hasT xs (i + 1)) (i + 1) := SetOf_congr h2 (hasT_more lt) (by rw [hasT_not nd lt]; rfl)
    refine wpAny_pure ⟨plainId_quiet F.plain_set_update_loop _, ih (i + 1) _ (by omega) (W.frame _ s1 _ _ st1 (Nat.le_succ _) fun b q o z => ?_) h3 fun s2 m2 h4 => k s2 ?_ h4⟩
    · rw [only.2 b fun z => out (z ▸ q)]
      exact z
    · refine Moved.trans W.gtrans ((m.mono fun b q => .tail _ q).then_heap (Nat.le_succ _) fun b o q z => ?_) m2
      rw [only.2 b fun z => q (z ▸ .head _)]
      exact z
/-- set(l), by its loop -/
theorem set_of_list {Q : Value → Shared → Prop} {E : Value → Shared → Prop} {l : Addr} {items : Array Value} (calm : A.handled = none) (hl : s.heap.IsList l items) (Z : Heap → Addr → Prop)
    (loop : ∀ (B : Around) (R : Result → Shared → Prop) (I : Addr) (t : Shared), B.handled = none → s.heap.objs.size ≠ I → l ≠ I → s.heap.objs.size ≠ l → t.heap.IsListIter I l 0 → t.heap.IsList l items → t.heap.SetOf (PySem.strKind prog w) s.heap.objs.size (fun _ => false) 0 →
      (∀ t', Moved [s.heap.objs.size, I] (fun a b => b = a) t t' → Z t'.heap s.heap.objs.size → R (.ok (.ret .none)) t') →
      codeAny (model prog w) B (.builtin "set.update.loop" ⟨[.ref s.heap.objs.size, .ref I], []⟩) R t)
    (k : ∀ (h' : Heap) (tk : Nat), Z h' s.heap.objs.size → (∀ b o, s.heap.get? b = some o → h'.get? b = some o) → Q (.ref s.heap.objs.size) { s with heap := h', toks := tk }) :
    wpAny (model prog w) A (call (.type "set") [.ref l]) Q E s := by
  have born := PySem.F.called_set
  obtain ⟨cls, rest, eqm⟩ := born.mro
  have a1 := born.made
  have a2 := born.sub
  have a3 := born.notType
  have a4 := born.canCreate
  have a5 := PySem.F.typeCall_set_1 (.ref l)
  refine wpAny_call (codeAny_of_tree ?_)
  show wpAny _ _ (callAny (.type "set") _) _ _ _
  refine wpAny_pure ⟨Code.quiet_builtin _ (by decide +kernel), codeAny_builtin PySem.F.entry_type_call ?_⟩
  rw [Around.under_plain (weight_type_call_type "set" [.ref l] []) rfl]
  repeat (any_goals (first | assumption | wp_step))
  let fresh : Bool → Obj := fun b => { cls := .type "set", dict := none, data := .set #[] 0 (.fresh 0 0 b) }
  refine codeAny_mono (code_set_new_1 (.ref l) (E := E) (Q₁ := fun u t => ∃ b, u = .ref s.heap.objs.size ∧ t = { s with heap := s.heap.push (fresh b) }) fun b => ⟨b, rfl, rfl⟩) fun r t hr => ?_
  rcases r with e | fl
  · exact hr
  cases fl with
  | next => exact hr.elim
  | brk => exact hr.elim
  | cont => exact hr.elim
  | ret u =>
  obtain ⟨b, rfl, rfl⟩ := hr
  have at_ : (s.heap.push (fresh b)).get? s.heap.objs.size = some (fresh b) := Heap.get?_push_size _ rfl
  have a6 : Shared.TypeIs { s with heap := s.heap.push (fresh b) } (.ref s.heap.objs.size) "set" := ⟨_, at_, rfl⟩
  have a7 := born.init.lookup
  have a8 := born.init.bind (.ref s.heap.objs.size)
  repeat (any_goals (first | assumption | wp_step))
  have ll : l < s.heap.objs.size := by
    obtain ⟨o, ho, _⟩ := id hl
    exact Heap.lt_size ho
  have hl2 : (s.heap.push (fresh b)).IsList l items := hl.push _
  refine codeAny_mono (codeAny_call_builtin (R := wants (fun u t => u = .none ∧ ∃ h' tk, t = { s with heap := h', toks := tk } ∧ Z h' s.heap.objs.size ∧ ∀ b o, s.heap.get? b = some o → h'.get? b = some o) E) born.init.plain PySem.F.entry_set_init (check_set_init_1 a6 ?_)) fun r t hr => ?_
  · obtain ⟨ol, hol, hcl, nl, hdl⟩ := id hl
    obtain ⟨lc, ld_, ldat, lsl⟩ := ol
    dsimp only at hcl hdl
    subst hcl hdl
    have hol2 : (s.heap.push (fresh b)).get? l = some { cls := .type "list", dict := ld_, data := .seq items nl, slots := lsl } := Heap.get?_push_of_some _ hol
    have b1 := PySem.F.sub_list_set
    have b2 := PySem.F.sub_list_frozenset
    have b3 : (Value.type "list" == Value.type "dict") = false := by decide
    unfold Builtin.«set.__init__» noKeywords Builtin.Frozenset.updateFrom
    generalize hold : pyIter = it
    wp_walk
    subst hold
    refine wpAny_pyIter_list hl2 (wpAny_bind (wpAny_runValue ?_))
    have nI : (s.heap.push (fresh b)).objs.size = s.heap.objs.size + 1 := Heap.size_push _ _
    refine loop _ _ _ _ (by simp [calm]) (by rw [nI]; exact Nat.ne_of_lt (Nat.lt_succ_self _)) (by rw [nI]; exact Nat.ne_of_lt (Nat.lt_succ_of_lt ll)) (Nat.ne_of_gt ll) ?_ ?_ ?_ fun t' m z => ?_
    · exact ⟨_, Heap.get?_push_size _ rfl, rfl, rfl⟩
    · exact hl2.push _
    · exact SetOf_congr ((setObjOf_fresh (knd := PySem.strKind prog w) b).setOf (Heap.get?_push_of_some _ at_) (by unfold scanBound; omega)) (fun _ => rfl) rfl
    · obtain ⟨h', g', d', tk', os'⟩ := t'
      obtain rfl : g' = s.gens := m.gens
      obtain rfl : d' = s.drawn := m.drawn
      obtain rfl : os' = s.os := m.os
      refine wpAny_pure (wpAny_pure ⟨rfl, h', tk', rfl, z, fun c o q => ?_⟩)
      have lc := Heap.lt_size q
      refine m.heap c o (fun q2 => ?_) (Heap.get?_push_of_some _ (Heap.get?_push_of_some _ q))
      simp only [List.mem_cons, List.not_mem_nil, or_false] at q2
      rw [nI] at q2
      rcases q2 with q2 | q2
      · exact absurd lc (by rw [q2]; exact Nat.lt_irrefl _)
      · exact absurd lc (by rw [q2]; exact Nat.not_lt.mpr (Nat.le_succ _))
  · rcases r with e | fl
    · exact hr
    cases fl with
    | next => exact hr.elim
    | brk => exact hr.elim
    | cont => exact hr.elim
    | ret u =>
    obtain ⟨rfl, h', tk, rfl, z, keep⟩ := hr
    repeat (any_goals (first | assumption | wp_step))
    exact k h' tk z keep
end
section
variable {X : Cx}
/-- len(set(xs)), xs a list of texts -/
def tLenT (K : PySem.W.Frag) (ta : TE) : TE := fun σ H Q => ta σ H fun x H1 => ∃ (l : Addr) (xs : List Str), x = .ref l ∧ SqL K H1 l (xs.map V.str) ∧ xs.Nodup ∧ xs.length < 100 ∧ Q (.int xs.length) H1
theorem pe_lenT {a : Expr} {ta : TE} {p p2 q pos : Pos} (hc : X.calm = true) (hg : Gl X "len") (hm : X.mg "len" = none) (hg2 : Gl X "set") (hm2 : X.mg "set" = none) (ha : PE X a ta)
    (na : starEach [a] X.env = (false, eval a X.env) :: starEach [] X.env := by rfl) : PE X (.Call (.Name "len" p) [.Call (.Name "set" p2) [a] [] q] [] pos) (tLenT X.K ta) := by
  refine ⟨fun pins s σ H Q I want => ?_⟩
  refine Call_ (ld_blt I hg hm boot_len (PyProof.Rows.callWith_builtin1 (PyProof.Rows.args_cons (Call_ (ld_blt I hg2 hm2 boot_set ?_)) rfl) rfl rfl))
  refine PyProof.Rows.callWith_type1 (PyProof.Rows.args_cons (thn (ha.run pins s σ H _ I want) fun v s1 ⟨x, H1, I1, r1, l, xs, ex, hq, nd, few, q1⟩ => PyProof.Rows.args_nil ?_) na) na rfl
  subst ex
  cases r1
  obtain ⟨its, r, pl, hz⟩ := I1.list hq
  have he : its.length = xs.length := by rw [← r.length, List.length_map]
  have hs : its.toArray.size = xs.length := by rw [List.size_toArray, he]
  refine set_of_list (I1.ok.hd hc) pl.isList (fun h a => h.SetOf (PySem.strKind X.prog X.w) a (hasT xs xs.length) xs.length) (fun B R J t hh n1 n2 n3 i1 i2 i3 fin => ?_) fun h' tk hS keep => ?_
  · have W := (Walks.list (prog := X.prog) (w := X.w) (A := B.in1) (by simp [hh]) J l n2 its.toArray).toS
    rw [hs] at W
    refine put_texts W _ ?_ nd few (fun i v hv => SS.strs_at (L2.strsAre_of r) i v ?_) xs.length 0 t (by omega) ⟨i1, i2⟩ (SetOf_congr i3 (fun _ => rfl) rfl) fin
    · simp only [List.mem_cons, List.not_mem_nil, or_false, not_or]
      exact ⟨n1, n3⟩
    · rw [Array.getElem?_toList]
      exact hv
  · refine PyProof.Rows.args_nil ?_
    obtain ⟨o, es, ep, t, ho, hex, hd, _, _, _, hf, hn⟩ := hS
    have I2 : Inv X pins σ H1 { s1 with heap := h', toks := tk } := I1.kept fun b o e => keep b o e
    exact call_len_set ho hex hd hf (by rw [hn] <;> omega) ⟨.int xs.length, H1, I2.tok _, ⟨_, by rw [hn]⟩, q1⟩
end
end My
set_option Elab.async false
set_option linter.all false
set_option maxRecDepth 100000
set_option maxHeartbeats 4000000
/-! for i, x in enumerate(t), t a tuple -/
namespace My
open PySem L2 PySem.Spec PyProof.Rows PySem.W
abbrev walker (t : Addr) : Obj := { cls := .type "tuple_iterator", data := .fields #[.ref t, .int 0 0] }
abbrev counter (it : Addr) : Obj := { cls := .type "enumerate", data := .fields #[.none, .bool false, .ref it, rawInt 0, .none, .none] }
theorem born_enum (t : Addr) (items : Array Value) : Meets (Builtin.«enumerate.__new__» ⟨[.type "enumerate", .ref t], []⟩) (fun _ R s => s.heap.IsTuple t items ∧
      R (.ok (.ret (.ref (s.heap.push (walker t)).objs.size))) { s with heap := (s.heap.push (walker t)).push (counter s.heap.objs.size) }) := .of_wp fun prog w A R s want => by
  obtain ⟨hp, g, d, tk, os⟩ := s
  obtain ⟨is_, want⟩ := want
  have a1 := sub_enumerate
  have walks : ∀ {B : Around} {E : Value → Shared → Prop} {Q : Value → Shared → Prop}, Q (.ref hp.objs.size) ⟨hp.push (walker t), g, d, tk, os⟩ → wpAny (model prog w) B (pyIter (.ref t)) Q E ⟨hp, g, d, tk, os⟩ := fun q =>
    (begins_tuple t items).iter prog w _ _ ⟨hp, g, d, tk, os⟩ _ is_ q
  obtain ⟨ot, hot, hct, nt, hdt⟩ := id is_
  obtain ⟨c0, d0, dt0, s0⟩ := ot
  dsimp only at hct hdt
  subst hct hdt
  wp_walk using wpAny_loadPart' hot
  refine wpAny_stack_any fun st => wpAny_pure ?_
  split
  · rename_i c _ _ _ _ _
    cases (c == Value.type "enumerate") <;> (wp_walk using wpAny_loadPart' hot, walks; exact ⟨_, rfl, want⟩)
  · wp_walk using wpAny_loadPart' hot, walks
    exact ⟨_, rfl, want⟩
theorem call_enumT {prog : Program} {w : World} {A : Around} {E : Value → Shared → Prop} {s : Shared} {t : Addr} {items : Array Value} {Q : Value → Shared → Prop} (is_ : s.heap.IsTuple t items)
    (k : ∀ h', IsEnum h' (s.heap.objs.size + 1) s.heap.objs.size 0 .none → h'.IsTupleIter s.heap.objs.size t 0 → (∀ b o, s.heap.get? b = some o → h'.get? b = some o) → Q (.ref (s.heap.objs.size + 1)) { s with heap := h' }) :
    wpAny (model prog w) A (call (.type "enumerate") [.ref t]) Q E s := by
  have z1 : (s.heap.push (walker t)).objs.size = s.heap.objs.size + 1 := Heap.size_push ..
  have here : IsEnum ((s.heap.push (walker t)).push (counter s.heap.objs.size)) (s.heap.objs.size + 1) s.heap.objs.size 0 .none := by
    have q := Heap.get?_push_size (s.heap.push (walker t)) (o := counter s.heap.objs.size) rfl
    rw [z1] at q
    exact q
  refine callType_new F.called_enumerate (by decide) (F.typeCall_enumerate_1 _) (F.newCall_enumerate_1 _) (fun obj => F.args_object_init_2 obj _) F.entry_enumerate_new (born_enum t items) ⟨is_, ?_⟩
  show _ ∧ _
  rw [z1]
  exact ⟨⟨_, here, rfl⟩, k _ here ⟨_, Heap.get?_push_of_some _ (Heap.get?_push_size _ rfl), rfl, rfl⟩ fun b o x => Heap.get?_push_of_some _ (Heap.get?_push_of_some _ x)⟩
def IteT (K : PySem.W.Frag) (a : Addr) : It where
  go := fun i H => ∃ (xs : List V) (x : V), SqT K H a xs ∧ xs[i]? = some x
  yld := fun i H v H' => ∃ T x, v = .ref T ∧ H T = none ∧ H' = upd H T (.tup [.int (i : Nat), x]) ∧ ∀ xs, SqT K H a xs → xs[i]? = some x
  stop := fun i H => ∃ xs : List V, SqT K H a xs ∧ xs.length = i
theorem turn_enumT {P : Program} {w : World} {K : PySem.W.Frag} {elts : List Expr} {kk : Nat} {tpos : Pos} (a e it : Addr) :
    Turn P w K (.Tuple elts kk tpos) (IteT K a) [e, it] e (fun i h => (∃ old, IsEnum h e it ((i : Nat) : Int) old) ∧ h.IsTupleIter it a i ∧ e ≠ it) where
  mem := by simp
  obj := fun i h st b hb => by
    obtain ⟨⟨old, he⟩, ⟨o, ho, hc, hd⟩, _⟩ := st
    rcases (show b = e ∨ b = it by simpa using hb) with rfl | rfl
    · exact ⟨_, he, fun v q => nomatch q⟩
    · exact ⟨o, ho, fun v q => by rw [hd] at q; cases q⟩
  keep := fun i h h' st k => ⟨st.1.imp fun old he => k e (by simp) _ he, st.2.1.at fun o q => k it (by simp) o q, st.2.2⟩
  item := by
    intro X hP hw hK hc i pins s σ H E I hf st hg
    subst hP hw hK
    obtain ⟨⟨old, he⟩, hit, hne⟩ := st
    obtain ⟨xs, x, hq, hx⟩ := hg
    obtain ⟨its, rv, p, hz⟩ := I.tuple hq
    have isT : s.heap.IsTuple a its.toArray := p
    obtain ⟨u, hu, ru⟩ := rv.get hx
    have hel : e < s.heap.objs.size := Heap.lt_size he
    have hil : it < s.heap.objs.size := by obtain ⟨_, q, _⟩ := hit; exact Heap.lt_size q
    have nai : a ≠ it := fun z => by
      obtain ⟨o1, h1, c1, _⟩ := id isT
      obtain ⟨o2, h2, c2, _⟩ := id hit
      rw [z, h2] at h1
      cases h1
      rw [c2] at c1
      exact absurd c1 (by decide)
    have nea : e ≠ a := fun z => by
      obtain ⟨o1, h1, c1, _⟩ := id isT
      rw [← z, he] at h1
      cases h1
      exact absurd (show ("enumerate" : String) = "tuple" from Value.type.inj c1) (by decide)
    have li : i < its.toArray.size := by
      rw [List.size_toArray, ← rv.length]
      exact (List.getElem?_eq_some_iff.mp hx).1
    refine wpAny_pyNext_enum_itemD (Draws.tuple (by simpa using I.ok.hd hc) it a nai its.toArray) he ⟨hit, isT⟩ li hne (by simp [hne, nea]) fun x' h' tk hx' ho st' hT hsz hk => ?_
    obtain rfl : x' = u := by
      have e2 : its.toArray[i]? = some u := by simpa using hu
      rw [e2] at hx'
      exact (Option.some.inj hx').symm
    refine ⟨_, rfl, wpAny_letOwnedTupleGo_enum (s := { s with heap := h', toks := tk + 1 }) ho fun h'' he' sb => ?_⟩
    have hT2 : h''.get? s.heap.objs.size = some { cls := .type "tuple", data := .seq #[.int i tk, x'] } := (sb.2 _ (Nat.ne_of_gt hel)).trans hT
    have new : ObjOk X.prog X.w (upd H s.heap.objs.size (.tup [.int (i : Nat), x])) h'' s.heap.objs.size (.tup [.int (i : Nat), x]) :=
      ⟨by show 2 ≤ sizeLine; decide, [.int i tk, x'], .cons ⟨_, rfl⟩ (.cons ru .nil), ⟨_, hT2, rfl, _, rfl⟩⟩
    have I1 : Inv X pins σ (upd H s.heap.objs.size (.tup [.int (i : Nat), x])) { s with heap := h'', toks := tk + 1 } :=
      I.turnedNew (ch := [e, it]) (fun b ob hb q => (sb.2 b (fun z => hb (by simp [z]))).trans (hk b ob (fun z => hb (by simp [z])) (fun z => hb (by simp [z])) q)) hf (Nat.le_refl _) new
    refine ⟨.ref s.heap.objs.size, _, I1, rfl, ⟨_, x, rfl, I.hok.fresh (Nat.le_refl _), rfl, fun ys hy => by rw [I.tuple_inj hy hq]; exact hx⟩, ⟨⟨x', ?_⟩, st'.1.at fun o q => (sb.2 it (Ne.symm hne)).trans q, hne⟩, fun b hb => ?_⟩
    · rw [show ((i + 1 : Nat) : Int) = (i : Int) + 1 by omega]
      exact he'
    · have hb' : b < s.heap.objs.size := by
        rcases (show b = e ∨ b = it by simpa using hb) with rfl | rfl
        · exact hel
        · exact hil
      rw [upd_ne (Nat.ne_of_lt hb')]
      exact (hf b hb).1
  done := by
    intro X hP hw hK hc i pins s σ H E I hf st hg
    subst hP hw hK
    obtain ⟨⟨old, he⟩, hit, hne⟩ := st
    obtain ⟨xs, hq, hx⟩ := hg
    obtain ⟨its, rv, p, hz⟩ := I.tuple hq
    have isT : s.heap.IsTuple a its.toArray := p
    obtain ⟨f0, f1, f2, f3, f4, f5⟩ := hf it (by simp)
    have nai : a ≠ it := fun z => by
      obtain ⟨o1, h1, c1, _⟩ := id isT
      obtain ⟨o2, h2, c2, _⟩ := id hit
      rw [z, h2] at h1
      cases h1
      rw [c2] at c1
      exact absurd c1 (by decide)
    have hl : its.toArray.size = i := by rw [List.size_toArray, ← rv.length, hx]
    have D := Draws.tuple (prog := X.prog) (w := X.w) (A := X.A.in1) (by simpa using I.ok.hd hc) it a nai its.toArray
    rw [hl] at D
    exact wpAny_pyNext_enum_endD D he ⟨hit, isT⟩ fun h' eb => ⟨rfl, I.turned (t' := s.toks) (fun b o hb q => eb b o hb q) f0 f1 f3 f4 f5⟩
  self := fun A i s Q E st h => by
    obtain ⟨⟨_, he⟩, _⟩ := st
    exact wpAny_pyIter_enum he h
def iEnumT (K : PySem.W.Frag) (ta : TA) : TI := fun σ H R => ta σ H fun vs H1 => ∃ a xs, vs = [.ref a] ∧ SqT K H1 a xs ∧ R (IteT K a) H1
theorem pi_enumT {X : Cx} {e : Expr} {ta : TA} {p pos tpos : Pos} {elts : List Expr} {kk : Nat} (hg : Gl X "enumerate") (hm : X.mg "enumerate" = none) (ha : PA X [e] ta) (hs : starEach [e] X.env = [(false, eval e X.env)] := by rfl) :
    PI X (.Tuple elts kk tpos) (.Call (.Name "enumerate" p) [e] [] pos) (iEnumT X.K ta) := by
  refine ⟨fun pins s σ H R I want => ?_⟩
  refine Call_ (ld_blt I hg hm boot_enumerate (PyProof.Rows.callWith_type1 (thn (ha.run pos pins s σ H _ I want) fun us s1 ⟨vs, H1, I1, r1, a, xs, ev, hq, q⟩ => ?_) hs rfl))
  subst ev
  cases r1 with
  | @cons _ u0 _ ur ra rest =>
    cases rest
    obtain rfl : u0 = Value.ref a := ra
    obtain ⟨its, rv, p', hz⟩ := I1.tuple hq
    refine call_enumT (show s1.heap.IsTuple a its.toArray from p') fun h' he hit keep => wpAny_pyIter_enum he ?_
    have I2 : Inv X pins σ H1 { s1 with heap := h' } := I1.kept (t' := s1.toks) keep
    refine ⟨s1.heap.objs.size + 1, [s1.heap.objs.size + 1, s1.heap.objs.size], _, _, H1, rfl, I2, turn_enumT a (s1.heap.objs.size + 1) s1.heap.objs.size, ⟨⟨.none, he⟩, hit, Nat.succ_ne_self _⟩, fun b hb => ?_, q⟩
    have big : s1.heap.objs.size ≤ b := by
      rcases (show b = s1.heap.objs.size + 1 ∨ b = s1.heap.objs.size by simpa using hb) with rfl | rfl
      · exact Nat.le_add_right _ _
      · exact Nat.le_refl _
    exact I1.fpOk big (I1.hok.fresh big)
theorem walk_enumT {K : PySem.W.Frag} {a : Addr} {xs : List V} : Walk (IteT K a) xs.length (fun H => SqT K H a xs) (YPair (fun i => some (.int (i : Nat))) (fun i => xs[i]?)) := by
  refine ⟨fun i _ hi q => ⟨xs, xs[i], q, List.getElem?_eq_getElem hi⟩, fun _ q => ⟨xs, q, rfl⟩, fun i H v H' _ q y => ?_⟩
  obtain ⟨T, x, h1, h2, h3, h4⟩ := y
  exact ⟨T, _, x, h1, h2, h3, rfl, h4 xs q⟩
end My
set_option Elab.async false
set_option linter.all false
set_option maxRecDepth 100000
set_option maxHeartbeats 4000000
/-! a text times a number -/
namespace My
open PySem L2 PySem.Spec PyProof.Rows
def timesS (s : Str) (n : Nat) : Str := ⟨(List.replicate n s.cps).foldl (· ++ ·) #[]⟩
theorem times_size (a : Array Nat) : ∀ (n : Nat) (acc : Array Nat), ((List.replicate n a).foldl (· ++ ·) acc).size = acc.size + a.size * n
  | 0, acc => by simp
  | n + 1, acc => by
    rw [List.replicate_succ, List.foldl_cons, times_size a n, Array.size_append, Nat.mul_succ]
    omega
theorem op_mulS {X : Cx} : OpR X (binaryOp .Mult) (fun x y H Q => ∃ (s : Str) (n : Nat), x = .str s ∧ y = .int (n : Int) ∧ s.length ≤ 1000 ∧ s.length ≠ 0 ∧ 1 ≤ n ∧ n ≤ 1000 ∧ Q (.str (timesS s n)) H) := by
  intro pins st σ H x y v u Q I rx ry want
  obtain ⟨s, n, rfl, rfl, ls, l0, n1, n2, q⟩ := want
  obtain ⟨t, rfl⟩ := rx
  obtain ⟨t', rfl⟩ := ry
  refine P.mul_str ?_ (fun _ _ => ?_) (fun _ _ => ?_) ?_
  · rw [decide_eq_false (show ¬ (n : Int) < -(2 ^ 63) by omega), decide_eq_false (show ¬ (n : Int) ≥ 2 ^ 63 by omega)]
    rfl
  · intro z
    have h0 : s.length * n ≤ 1000 * 1000 := Nat.mul_le_mul ls n2
    have h1 : ((s.length : Nat) : Int) * (n : Int) ≤ 2 ^ 63 - 1 := by
      have : ((s.length * n : Nat) : Int) ≤ ((1000 * 1000 : Nat) : Int) := Int.ofNat_le.mpr h0
      rw [Int.natCast_mul] at this
      omega
    have h2 := Int.le_ediv_of_mul_le (show (0 : Int) < (n : Int) by omega) h1
    omega
  · refine decide_eq_false ?_
    have h1 : s.length * (n : Int).toNat ≤ 1000 * 1000 := by
      rw [Int.toNat_natCast]
      exact Nat.mul_le_mul ls n2
    exact Nat.not_lt.mpr (Nat.le_trans h1 (by decide))
  · rw [if_neg (show ¬ (n : Int) < 1 by omega)]
    by_cases c : n = 1
    · subst c
      rw [if_pos (by simp)]
      have e : timesS s 1 = s := by
        show (⟨#[] ++ s.cps⟩ : Str) = s
        rw [Array.empty_append]
      rw [e] at q
      exact ⟨.str s, H, I, ⟨_, rfl⟩, q⟩
    · rw [if_neg (by simp; omega)]
      refine ⟨?_, ⟨.str (timesS s n), H, I.tok _, ⟨_, by rw [Int.toNat_natCast]; rfl⟩, q⟩⟩
      rw [Int.toNat_natCast]
      have h0 : s.length * n ≤ 1000 * 1000 := Nat.mul_le_mul ls n2
      have e : (timesS s n).cps.size = s.length * n := by
        have z := times_size s.cps n #[]
        rw [Array.size_empty, Nat.zero_add] at z
        exact z
      exact Nat.le_trans (Nat.le_of_eq e) (Nat.le_trans h0 (by decide))
end My
set_option Elab.async false
set_option linter.all false
set_option maxRecDepth 100000
set_option maxHeartbeats 4000000
namespace My
open PySem L2 PySem.Spec PyProof.Rows
/-! ### rules of my own: a list's item read for `draw[1] += 1`; an item of a list or a tuple; a quotient by any great number -/
theorem get_list {X : Cx} : PGet X (rIxL X.K) := by
  intro pins s σ H o i ov iv Q I ro ri want
  obtain ⟨l, items, at_, got, eo, ei, seq, place, end_⟩ := want
  subst eo ei
  cases ro
  obtain ⟨tok, rfl⟩ := ri
  obtain ⟨own, rel, plain, _⟩ := I.list seq
  obtain ⟨k, ix, gk, kl, lo, up⟩ := atI_get place
  obtain ⟨u, gu, ru⟩ := rel.get gk
  have len := rel.length
  have far := line63
  have done_ : EP X pins σ Q u s := ⟨got, H, I, ru, end_⟩
  rcases Int.lt_or_le at_ 0 with neg | pos
  · have ek : (at_ + (own.toArray.size : Int)).toNat = k := by
      rw [seqIndex_neg neg lo] at ix
      rw [List.size_toArray, ← len]
      exact Option.some.inj ix
    exact wpAny_getItem_list_neg plain.isList neg (by rw [List.size_toArray] <;> omega) (by omega) (by rw [ek]; simpa using gu) done_
  · have ek : at_.toNat = k := by
      rw [seqIndex_of pos up] at ix
      exact Option.some.inj ix
    exact wpAny_getItem_list plain.isList pos (by omega) (by rw [ek]; simpa using gu) done_
theorem ix_lt {X : Cx} : IxR X (fun x y H Q => rIxL X.K x y H Q ∨ rIxT X.K x y H Q) := ix_list.or ix_tup
theorem seq_cut {t u : TS} {D : Ends} {σ : L2.St} {H : Hp} (R : L2.St → Hp → Prop) (h2 : ∀ σ' H', R σ' H' → u D σ' H') (h1 : (∀ σ' H', R σ' H' → u D σ' H') → t { D with nx := u D } σ H) : tSeq t u D σ H := h1 h2
theorem eqv_nil_ints (ns : List Int) (h : ns ≠ []) : PyData.eqv (.list (ns.map PyData.int)) (.list []) = false := by
  cases ns with
  | nil => exact absurd rfl h
  | cons n r => rfl

def CDivA (_ j : Int) : Prop := j ≠ 0 ∧ j.natAbs.log2 < 9000
theorem op_fdivA {X : Cx} : OpR X (binaryOp .FloorDiv) (rI CDivA fun i j => .int (i.fdiv j)) := opI fun i j _ _ _ _ _ hc q =>
  floordiv_int hc.1 q (.inl (PyProof.noPylong_of_log2 hc.2))
theorem hu64 {A : Around} {k : Nat} (hr : Room k A) : A.units + 64 < cLine := by
  have := hr.un
  omega
theorem divA_small {i j : Int} (h : j ≠ 0) (h1 : j.natAbs < 4294967296) : CDivA i j := ⟨h, Nat.lt_trans (PySem.Flt.log2_lt_of (k := 32) (by decide) (by simpa using h1)) (by decide)⟩
/-! ### the text by places -/
def top (i : Nat) : Stmt := PySem.Challenge.pw_evensieve_k02_plans.main.body.getD i (.Pass ⟨0, 0, 0, 0⟩)
abbrev s_is_whole : Stmt := top 6
theorem sc_is_whole : FnScope ["value"] ["value"] (defScope s_is_whole) := ⟨rfl, rfl, rfl, by decide +kernel, rfl, by decide +kernel, by decide +kernel⟩
abbrev s_is_between : Stmt := top 7
theorem sc_is_between : FnScope ["value", "low", "high"] ["value", "low", "high"] (defScope s_is_between) := ⟨rfl, rfl, rfl, by decide +kernel, rfl, by decide +kernel, by decide +kernel⟩
abbrev s_is_near : Stmt := top 8
theorem sc_is_near : FnScope ["value"] ["value"] (defScope s_is_near) := ⟨rfl, rfl, rfl, by decide +kernel, rfl, by decide +kernel, by decide +kernel⟩
abbrev s_is_row : Stmt := top 9
theorem sc_is_row : FnScope ["value"] ["value"] (defScope s_is_row) := ⟨rfl, rfl, rfl, by decide +kernel, rfl, by decide +kernel, by decide +kernel⟩
abbrev s_is_name : Stmt := top 10
theorem sc_is_name : FnScope ["value", "sign"] ["value"] (defScope s_is_name) := ⟨rfl, rfl, rfl, by decide +kernel, rfl, by decide +kernel, by decide +kernel⟩
abbrev s_BadPlan_init : Stmt := inClass (top 14) 0
theorem sc_BadPlan_init : FnScope ["self", "part"] ["self", "part"] (defScope s_BadPlan_init) := ⟨rfl, rfl, rfl, by decide +kernel, rfl, by decide +kernel, by decide +kernel⟩
abbrev s_is_fraction : Stmt := top 16
theorem sc_is_fraction : FnScope ["value", "above", "below"] ["value"] (defScope s_is_fraction) := ⟨rfl, rfl, rfl, by decide +kernel, rfl, by decide +kernel, by decide +kernel⟩
abbrev s_checked_plan : Stmt := top 22
theorem sc_checked_plan : FnScope ["columns", "plan", "seen", "waiting", "part", "depth", "inner"] ["columns", "plan"] (defScope s_checked_plan) := ⟨rfl, rfl, rfl, by decide +kernel, rfl, by decide +kernel, by decide +kernel⟩
abbrev s_is_formed : Stmt := top 23
theorem sc_is_formed : FnScope ["columns", "part"] ["columns", "part"] (defScope s_is_formed) := ⟨rfl, rfl, rfl, by decide +kernel, rfl, by decide +kernel, by decide +kernel⟩
abbrev s_is_test : Stmt := top 24
theorem sc_is_test : FnScope ["columns", "part"] ["columns", "part"] (defScope s_is_test) := ⟨rfl, rfl, rfl, by decide +kernel, rfl, by decide +kernel, by decide +kernel⟩
abbrev s_is_threshold : Stmt := top 25
theorem sc_is_threshold : FnScope ["value"] ["value"] (defScope s_is_threshold) := ⟨rfl, rfl, rfl, by decide +kernel, rfl, by decide +kernel, by decide +kernel⟩
abbrev s_is_ask : Stmt := top 26
theorem sc_is_ask : FnScope ["columns", "part", "kind"] ["columns", "part"] (defScope s_is_ask) := ⟨rfl, rfl, rfl, by decide +kernel, rfl, by decide +kernel, by decide +kernel⟩
abbrev s_is_short : Stmt := top 27
theorem sc_is_short : FnScope ["value"] ["value"] (defScope s_is_short) := ⟨rfl, rfl, rfl, by decide +kernel, rfl, by decide +kernel, by decide +kernel⟩
abbrev s_within : Stmt := top 28
theorem sc_within : FnScope ["formula"] ["formula"] (defScope s_within) := ⟨rfl, rfl, rfl, by decide +kernel, rfl, by decide +kernel, by decide +kernel⟩
abbrev s_Columns_init : Stmt := inClass (top 34) 0
theorem sc_Columns_init : FnScope ["self", "hashed", "asked", "summed", "part", "name"] ["self", "hashed", "asked", "summed"] (defScope s_Columns_init) := ⟨rfl, rfl, rfl, by decide +kernel, rfl, by decide +kernel, by decide +kernel⟩
abbrev s_Columns_asked : Stmt := inClass (top 34) 1
theorem sc_Columns_asked : FnScope ["self"] ["self"] (defScope s_Columns_asked) := ⟨rfl, rfl, rfl, by decide +kernel, rfl, by decide +kernel, by decide +kernel⟩
abbrev s_wrong_part : Stmt := top 35
theorem sc_wrong_part : FnScope ["hashed", "asked", "summed", "names"] ["hashed", "asked", "summed"] (defScope s_wrong_part) := ⟨rfl, rfl, rfl, by decide +kernel, rfl, by decide +kernel, by decide +kernel⟩
abbrev s_are_names : Stmt := top 36
theorem sc_are_names : FnScope ["row", "most", "name"] ["row", "most"] (defScope s_are_names) := ⟨rfl, rfl, rfl, by decide +kernel, rfl, by decide +kernel, by decide +kernel⟩
abbrev s_are_asked : Stmt := top 37
theorem sc_are_asked : FnScope ["asked", "name"] ["asked"] (defScope s_are_asked) := ⟨rfl, rfl, rfl, by decide +kernel, rfl, by decide +kernel, by decide +kernel⟩
abbrev s__law_number : Stmt := top 39
theorem sc__law_number : FnScope ["script", "index", "cell", "turn", "rest", "step", "blend"] ["script", "index"] (defScope s__law_number) := ⟨rfl, rfl, rfl, by decide +kernel, rfl, by decide +kernel, by decide +kernel⟩
abbrev s__law_take : Stmt := top 40
theorem sc__law_take : FnScope ["draw", "many"] ["draw", "many"] (defScope s__law_take) := ⟨rfl, rfl, rfl, by decide +kernel, rfl, by decide +kernel, by decide +kernel⟩
abbrev s__law_pick : Stmt := top 41
theorem sc__law_pick : FnScope ["draw", "items"] ["draw", "items"] (defScope s__law_pick) := ⟨rfl, rfl, rfl, by decide +kernel, rfl, by decide +kernel, by decide +kernel⟩
abbrev s__law_columns : Stmt := top 42
theorem sc__law_columns : FnScope ["draw", "values"] ["draw"] (defScope s__law_columns) := ⟨rfl, rfl, rfl, by decide +kernel, rfl, by decide +kernel, by decide +kernel⟩
abbrev s__law_test : Stmt := top 43
theorem sc__law_test : FnScope ["draw", "columns", "chance", "word", "salt"] ["draw", "columns"] (defScope s__law_test) := ⟨rfl, rfl, rfl, by decide +kernel, rfl, by decide +kernel, by decide +kernel⟩
abbrev s__law_ask : Stmt := top 44
theorem sc__law_ask : FnScope ["draw", "columns", "name"] ["draw", "columns"] (defScope s__law_ask) := ⟨rfl, rfl, rfl, by decide +kernel, rfl, by decide +kernel, by decide +kernel⟩
abbrev s__law_formula : Stmt := top 45
theorem sc__law_formula : FnScope ["draw", "columns", "deep", "share", "kind", "many", "turn"] ["draw", "columns", "deep", "share"] (defScope s__law_formula) := ⟨rfl, rfl, rfl, by decide +kernel, rfl, by decide +kernel, by decide +kernel⟩
abbrev s__law_refused : Stmt := top 46
theorem sc__law_refused : FnScope ["columns", "plan", "told", "fault"] ["columns", "plan"] (defScope s__law_refused) := ⟨rfl, rfl, rfl, by decide +kernel, rfl, by decide +kernel, by decide +kernel⟩
abbrev s__law_spots : Stmt := top 47
theorem sc__law_spots : FnScope ["plan", "way", "found", "at", "part"] ["plan"] (defScope s__law_spots) := ⟨rfl, rfl, rfl, by decide +kernel, rfl, by decide +kernel, by decide +kernel⟩
abbrev s__law_put : Stmt := top 48
theorem sc__law_put : FnScope ["plan", "way", "part"] ["plan", "way", "part"] (defScope s__law_put) := ⟨rfl, rfl, rfl, by decide +kernel, rfl, by decide +kernel, by decide +kernel⟩
abbrev s__law_bad : Stmt := top 49
theorem sc__law_bad : FnScope ["draw", "columns", "bad", "name", "kind"] ["draw", "columns"] (defScope s__law_bad) := ⟨rfl, rfl, rfl, by decide +kernel, rfl, by decide +kernel, by decide +kernel⟩
abbrev s_law : Stmt := top 50
theorem sc_law : FnScope ["script", "draw", "columns", "made", "turn", "plan", "way", "bad", "both", "deep", "many", "rows", "at"] ["script"] (defScope s_law) := ⟨rfl, rfl, rfl, by decide +kernel, rfl, by decide +kernel, by decide +kernel⟩
structure Txt (K : PySem.W.Frag) (mg : Str → Option Value) where
  a_is_whole : Addr
  d_is_whole : FuncData
  F_is_whole : Fun K "is_whole" "is_whole" s_is_whole a_is_whole d_is_whole
  b_is_whole : Binds K d_is_whole ["value"] []
  m_is_whole : mg "is_whole" = some (.ref a_is_whole)
  a_is_between : Addr
  d_is_between : FuncData
  F_is_between : Fun K "is_between" "is_between" s_is_between a_is_between d_is_between
  b_is_between : Binds K d_is_between ["value", "low", "high"] []
  m_is_between : mg "is_between" = some (.ref a_is_between)
  a_is_near : Addr
  d_is_near : FuncData
  F_is_near : Fun K "is_near" "is_near" s_is_near a_is_near d_is_near
  b_is_near : Binds K d_is_near ["value"] []
  m_is_near : mg "is_near" = some (.ref a_is_near)
  a_is_row : Addr
  d_is_row : FuncData
  F_is_row : Fun K "is_row" "is_row" s_is_row a_is_row d_is_row
  b_is_row : Binds K d_is_row ["value"] []
  m_is_row : mg "is_row" = some (.ref a_is_row)
  a_is_name : Addr
  d_is_name : FuncData
  F_is_name : Fun K "is_name" "is_name" s_is_name a_is_name d_is_name
  b_is_name : Binds K d_is_name ["value"] []
  m_is_name : mg "is_name" = some (.ref a_is_name)
  a_BadPlan_init : Addr
  d_BadPlan_init : FuncData
  F_BadPlan_init : Fun K "__init__" "BadPlan.__init__" s_BadPlan_init a_BadPlan_init d_BadPlan_init
  b_BadPlan_init : Binds K d_BadPlan_init ["self", "part"] []
  a_is_fraction : Addr
  d_is_fraction : FuncData
  F_is_fraction : Fun K "is_fraction" "is_fraction" s_is_fraction a_is_fraction d_is_fraction
  b_is_fraction : Binds K d_is_fraction ["value"] []
  m_is_fraction : mg "is_fraction" = some (.ref a_is_fraction)
  a_checked_plan : Addr
  d_checked_plan : FuncData
  F_checked_plan : Fun K "checked_plan" "checked_plan" s_checked_plan a_checked_plan d_checked_plan
  b_checked_plan : Binds K d_checked_plan ["columns", "plan"] []
  m_checked_plan : mg "checked_plan" = some (.ref a_checked_plan)
  a_is_formed : Addr
  d_is_formed : FuncData
  F_is_formed : Fun K "is_formed" "is_formed" s_is_formed a_is_formed d_is_formed
  b_is_formed : Binds K d_is_formed ["columns", "part"] []
  m_is_formed : mg "is_formed" = some (.ref a_is_formed)
  a_is_test : Addr
  d_is_test : FuncData
  F_is_test : Fun K "is_test" "is_test" s_is_test a_is_test d_is_test
  b_is_test : Binds K d_is_test ["columns", "part"] []
  m_is_test : mg "is_test" = some (.ref a_is_test)
  a_is_threshold : Addr
  d_is_threshold : FuncData
  F_is_threshold : Fun K "is_threshold" "is_threshold" s_is_threshold a_is_threshold d_is_threshold
  b_is_threshold : Binds K d_is_threshold ["value"] []
  m_is_threshold : mg "is_threshold" = some (.ref a_is_threshold)
  a_is_ask : Addr
  d_is_ask : FuncData
  F_is_ask : Fun K "is_ask" "is_ask" s_is_ask a_is_ask d_is_ask
  b_is_ask : Binds K d_is_ask ["columns", "part"] []
  m_is_ask : mg "is_ask" = some (.ref a_is_ask)
  a_is_short : Addr
  d_is_short : FuncData
  F_is_short : Fun K "is_short" "is_short" s_is_short a_is_short d_is_short
  b_is_short : Binds K d_is_short ["value"] []
  m_is_short : mg "is_short" = some (.ref a_is_short)
  a_within : Addr
  d_within : FuncData
  F_within : Fun K "within" "within" s_within a_within d_within
  b_within : Binds K d_within ["formula"] []
  m_within : mg "within" = some (.ref a_within)
  a_Columns_init : Addr
  d_Columns_init : FuncData
  F_Columns_init : Fun K "__init__" "Columns.__init__" s_Columns_init a_Columns_init d_Columns_init
  b_Columns_init : Binds K d_Columns_init ["self", "hashed", "asked", "summed"] []
  a_Columns_asked : Addr
  d_Columns_asked : FuncData
  F_Columns_asked : Fun K "asked" "Columns.asked" s_Columns_asked a_Columns_asked d_Columns_asked
  b_Columns_asked : Binds K d_Columns_asked ["self"] []
  a_wrong_part : Addr
  d_wrong_part : FuncData
  F_wrong_part : Fun K "wrong_part" "wrong_part" s_wrong_part a_wrong_part d_wrong_part
  b_wrong_part : Binds K d_wrong_part ["hashed", "asked", "summed"] []
  m_wrong_part : mg "wrong_part" = some (.ref a_wrong_part)
  a_are_names : Addr
  d_are_names : FuncData
  F_are_names : Fun K "are_names" "are_names" s_are_names a_are_names d_are_names
  b_are_names : Binds K d_are_names ["row", "most"] []
  m_are_names : mg "are_names" = some (.ref a_are_names)
  a_are_asked : Addr
  d_are_asked : FuncData
  F_are_asked : Fun K "are_asked" "are_asked" s_are_asked a_are_asked d_are_asked
  b_are_asked : Binds K d_are_asked ["asked"] []
  m_are_asked : mg "are_asked" = some (.ref a_are_asked)
  a__law_number : Addr
  d__law_number : FuncData
  F__law_number : Fun K "_law_number" "_law_number" s__law_number a__law_number d__law_number
  b__law_number : Binds K d__law_number ["script", "index"] []
  m__law_number : mg "_law_number" = some (.ref a__law_number)
  a__law_take : Addr
  d__law_take : FuncData
  F__law_take : Fun K "_law_take" "_law_take" s__law_take a__law_take d__law_take
  b__law_take : Binds K d__law_take ["draw", "many"] []
  m__law_take : mg "_law_take" = some (.ref a__law_take)
  a__law_pick : Addr
  d__law_pick : FuncData
  F__law_pick : Fun K "_law_pick" "_law_pick" s__law_pick a__law_pick d__law_pick
  b__law_pick : Binds K d__law_pick ["draw", "items"] []
  m__law_pick : mg "_law_pick" = some (.ref a__law_pick)
  a__law_columns : Addr
  d__law_columns : FuncData
  F__law_columns : Fun K "_law_columns" "_law_columns" s__law_columns a__law_columns d__law_columns
  b__law_columns : Binds K d__law_columns ["draw"] []
  m__law_columns : mg "_law_columns" = some (.ref a__law_columns)
  a__law_test : Addr
  d__law_test : FuncData
  F__law_test : Fun K "_law_test" "_law_test" s__law_test a__law_test d__law_test
  b__law_test : Binds K d__law_test ["draw", "columns"] []
  m__law_test : mg "_law_test" = some (.ref a__law_test)
  a__law_ask : Addr
  d__law_ask : FuncData
  F__law_ask : Fun K "_law_ask" "_law_ask" s__law_ask a__law_ask d__law_ask
  b__law_ask : Binds K d__law_ask ["draw", "columns"] []
  m__law_ask : mg "_law_ask" = some (.ref a__law_ask)
  a__law_formula : Addr
  d__law_formula : FuncData
  F__law_formula : Fun K "_law_formula" "_law_formula" s__law_formula a__law_formula d__law_formula
  b__law_formula : Binds K d__law_formula ["draw", "columns", "deep", "share"] []
  m__law_formula : mg "_law_formula" = some (.ref a__law_formula)
  a__law_refused : Addr
  d__law_refused : FuncData
  F__law_refused : Fun K "_law_refused" "_law_refused" s__law_refused a__law_refused d__law_refused
  b__law_refused : Binds K d__law_refused ["columns", "plan"] []
  m__law_refused : mg "_law_refused" = some (.ref a__law_refused)
  a__law_spots : Addr
  d__law_spots : FuncData
  F__law_spots : Fun K "_law_spots" "_law_spots" s__law_spots a__law_spots d__law_spots
  b__law_spots : Binds K d__law_spots ["plan"] []
  m__law_spots : mg "_law_spots" = some (.ref a__law_spots)
  a__law_put : Addr
  d__law_put : FuncData
  F__law_put : Fun K "_law_put" "_law_put" s__law_put a__law_put d__law_put
  b__law_put : Binds K d__law_put ["plan", "way", "part"] []
  m__law_put : mg "_law_put" = some (.ref a__law_put)
  a__law_bad : Addr
  d__law_bad : FuncData
  F__law_bad : Fun K "_law_bad" "_law_bad" s__law_bad a__law_bad d__law_bad
  b__law_bad : Binds K d__law_bad ["draw", "columns"] []
  m__law_bad : mg "_law_bad" = some (.ref a__law_bad)
  a_law : Addr
  d_law : FuncData
  F_law : Fun K "law" "law" s_law a_law d_law
  b_law : Binds K d_law ["script"] []
  m_law : mg "law" = some (.ref a_law)
  z_ValueError : mg "ValueError" = none
  z_isinstance : mg "isinstance" = none
  z_all : mg "all" = none
  z_range : mg "range" = none
  z_int : mg "int" = none
  z_enumerate : mg "enumerate" = none
  z_tuple : mg "tuple" = none
  z_list : mg "list" = none
  z_str : mg "str" = none
  z_dict : mg "dict" = none
  z_len : mg "len" = none
  z_sorted : mg "sorted" = none
  z_bool : mg "bool" = none
  z_set : mg "set" = none
  m_gcd : mg "gcd" = some (.builtin "math.gcd")
  t_LETTERS : Tok
  m_LETTERS : mg "LETTERS" = some (.str "abcdefghijklmnopqrstuvwxyz" t_LETTERS)
  a_RESERVED : Addr
  m_RESERVED : mg "RESERVED" = some (.ref a_RESERVED)
  q_RESERVED : ∀ H : Hp, SqT K H a_RESERVED [.str "row", .str "block", .str "hash", .str "not", .str "and", .str "or", .str "all", .str "none", .str "like"]
  t_FAR : Tok
  m_FAR : mg "FAR" = some (.int 1000000 t_FAR)
  t_LONGEST_NAME : Tok
  m_LONGEST_NAME : mg "LONGEST_NAME" = some (.int 8 t_LONGEST_NAME)
  t_DEEPEST : Tok
  m_DEEPEST : mg "DEEPEST" = some (.int 8 t_DEEPEST)
  t_MOST_FORMULAS : Tok
  m_MOST_FORMULAS : mg "MOST_FORMULAS" = some (.int 30 t_MOST_FORMULAS)
  t_LONGEST_STRING : Tok
  m_LONGEST_STRING : mg "LONGEST_STRING" = some (.int 12 t_LONGEST_STRING)
  t_GREATEST_BELOW : Tok
  m_GREATEST_BELOW : mg "GREATEST_BELOW" = some (.int 1000 t_GREATEST_BELOW)
  t_MOST_HASHED : Tok
  m_MOST_HASHED : mg "MOST_HASHED" = some (.int 2 t_MOST_HASHED)
  t_MOST_ASKED : Tok
  m_MOST_ASKED : mg "MOST_ASKED" = some (.int 4 t_MOST_ASKED)
  t_MOST_SUMMED : Tok
  m_MOST_SUMMED : mg "MOST_SUMMED" = some (.int 2 t_MOST_SUMMED)
  c_Columns : Addr
  m_Columns : mg "Columns" = some (.ref c_Columns)
  cl_Columns : Cls K c_Columns
  n_Columns_hashed : NoAttr K c_Columns "hashed"
  n_Columns__asked : NoAttr K c_Columns "_asked"
  n_Columns_summed : NoAttr K c_Columns "summed"
  mk_Columns : Mk K c_Columns a_Columns_init
  o_Columns_asked : Addr
  p_Columns_asked : PropOf K c_Columns "asked" o_Columns_asked a_Columns_asked
  c_SieveError : Addr
  m_SieveError : mg "SieveError" = some (.ref c_SieveError)
  r_SieveError : ClX.CRead K c_SieveError (.type "type")
  i_SieveError : PySem.W.findCls K (.ref c_SieveError) (.type "type") "__init__" = some (.val (.builtin "ValueError.__init__"))
  c_BadPlan : Addr
  m_BadPlan : mg "BadPlan" = some (.ref c_BadPlan)
  x_BadPlan : OexC K c_BadPlan
  xi_BadPlan : PySem.W.findIn K (.ref c_BadPlan) "__init__" = some (some (.ref a_BadPlan_init))
  xt_BadPlan : PySem.W.typeIn K (.ref a_BadPlan_init) = some (.type "function")
  xn_BadPlan : PySem.W.findIn K (.ref c_BadPlan) "part" = some none
  xf_BadPlan : XfC K c_BadPlan
  xm_BadPlan : PySem.W.exmOne K (.ref c_BadPlan) (.ref c_BadPlan) = some true
  xe_BadPlan : ExcC K c_BadPlan
  xk_BadPlan : PySem.W.kitOne K (.ref c_BadPlan) (.ref c_SieveError) = some true
/-! ### drawn numbers -/
/-- the script: a list that is locked, or one of the module's own -/
def SqF (K : PySem.W.Frag) (H : Hp) (a : Addr) (xs : List V) : Prop := (∃ o, H a = some (.frz o (.lst xs))) ∨ ∀ H' : Hp, SqL K H' a xs
theorem SqF.sq {K : PySem.W.Frag} {H : Hp} {a : Addr} {xs : List V} (h : SqF K H a xs) : SqL K H a xs := by
  rcases h with ⟨o, h⟩ | h
  · exact .inl (.inr ⟨o, h⟩)
  · exact h H
theorem SqF.same {K : PySem.W.Frag} {H H' : Hp} {a : Addr} {xs : List V} (h : SqF K H a xs) (e : Same H H') : SqF K H' a xs := by
  rcases h with ⟨o, h⟩ | h
  · exact .inl ⟨o, e _ _ h⟩
  · exact .inr h
theorem SqF.only {K : PySem.W.Frag} {H : Hp} {a : Addr} {xs : List V} (hO : Only H) (h : SqL K H a xs) : SqF K H a xs := by
  rcases h with (h | ⟨o, h⟩) | h
  · rcases hO a with z | ⟨o, ys, z⟩
    · rw [h] at z
      cases z
    · rw [h] at z
      cases z
  · exact .inl ⟨o, h⟩
  · exact .inr fun _ => .inr h
/-- at d stands [the script, how many were drawn] -/
def Drw (K : PySem.W.Frag) (H : Hp) (d : Addr) : Prop := ∃ (a : Addr) (ns : List Int) (i : Int), H d = some (.lst [.ref a, .int i]) ∧ SqF K H a (ns.map V.int) ∧ ns.length ≤ 63
/-- all that was tracked but what stands at d is as it was -/
def But (d : Addr) (H H' : Hp) : Prop := ∀ b o, b ≠ d → H b = some o → H' b = some o
theorem But.refl (d : Addr) (H : Hp) : But d H H := fun _ _ _ h => h
theorem But.trans {d : Addr} {H H1 H2 : Hp} (a : But d H H1) (b : But d H1 H2) : But d H H2 := fun c o n h => b c o n (a c o n h)
theorem But.same {d : Addr} {H H1 H2 : Hp} (a : But d H H1) (b : Same H1 H2) : But d H H2 := fun c o n h => b c o (a c o n h)
theorem Same.but {d : Addr} {H H1 : Hp} (a : Same H H1) : But d H H1 := fun c o _ h => a c o h
theorem same_new {H : Hp} {p : Addr} (h : H p = none) (o : HO) : Same H (upd H p o) := fun b u q => by rw [upd_ne (ne_of_none q h)]; exact q
theorem Drw.same {K : PySem.W.Frag} {H H' : Hp} {d : Addr} (h : Drw K H d) (e : Same H H') : Drw K H' d := by
  obtain ⟨a, ns, i, h1, h2, h3⟩ := h
  exact ⟨a, ns, i, e _ _ h1, h2.same e, h3⟩
/-- a change of a list leaves the script -/
theorem SqF.but {K : PySem.W.Frag} {H H' : Hp} {d a : Addr} {xs ys : List V} (h : SqF K H a xs) (hd : H d = some (.lst ys)) (e : But d H H') : SqF K H' a xs := by
  rcases h with ⟨o, h⟩ | h
  · exact .inl ⟨o, e _ _ (ne_of h hd (by intro z; cases z)) h⟩
  · exact .inr h
theorem Drw.but {K : PySem.W.Frag} {H H' : Hp} {d p : Addr} {ys : List V} (h : Drw K H d) (hp : H p = some (.lst ys)) (n : d ≠ p) (e : But p H H') : Drw K H' d := by
  obtain ⟨a, ns, i, h1, h2, h3⟩ := h
  exact ⟨a, ns, i, e _ _ n h1, h2.but hp e, h3⟩
def sp_number (K : PySem.W.Frag) : Sp := fun vs H Q _ => ∃ (a : Addr) (ns : List Int) (i : Int), vs = [.ref a, .int i] ∧ SqL K H a (ns.map V.int) ∧ ns.length ≤ 63 ∧ ∀ (n : Int) (H' : Hp), Same H H' → Q (.int n) H'
def sp_take (K : PySem.W.Frag) : Sp := fun vs H Q _ => ∃ (d : Addr) (m : Int), vs = [.ref d, .int m] ∧ Drw K H d ∧ 0 < m ∧ ∀ (r : Int) (H' : Hp), 0 ≤ r → r < m → Drw K H' d → But d H H' → Q (.int r) H'
/-- a list that is not the draw's, or a tuple -/
def SqD (K : PySem.W.Frag) (d : Addr) (H : Hp) (p : Addr) (xs : List V) : Prop := (SqL K H p xs ∧ p ≠ d) ∨ SqT K H p xs
def sp_pick (K : PySem.W.Frag) : Sp := fun vs H Q _ => ∃ (d p : Addr) (xs : List V), vs = [.ref d, .ref p] ∧ Drw K H d ∧ SqD K d H p xs ∧ 0 < xs.length ∧ ∀ (j : Nat) (x : V) (H' : Hp), xs[j]? = some x → Drw K H' d → But d H H' → Q x H'
theorem But.seq {K : PySem.W.Frag} {H H' : Hp} {d a : Addr} {xs : List V} (e : But d H H') (n : a ≠ d) (h : SqL K H a xs) : SqL K H' a xs := by
  rcases h with (h | ⟨o, h⟩) | h
  · exact .inl (.inl (e _ _ n h))
  · exact .inl (.inr ⟨o, e _ _ n h⟩)
  · exact .inr h
theorem But.tup {K : PySem.W.Frag} {H H' : Hp} {d a : Addr} {xs ys : List V} (e : But d H H') (hd : H d = some (.lst ys)) (h : SqT K H a xs) : SqT K H' a xs := by
  rcases h with (h | ⟨o, h⟩) | h
  · exact .inl (.inl (e _ _ (ne_of h hd (by intro z; cases z)) h))
  · exact .inl (.inr ⟨o, e _ _ (ne_of h hd (by intro z; cases z)) h⟩)
  · exact .inr h
theorem dp_ints {K : PySem.W.Frag} {H : Hp} : ∀ ns : List Int, DpAll K H (ns.map V.int) (ns.map PyData.int)
  | [] => .nil
  | n :: r => .cons (.int n) (dp_ints r)

end My
set_option Elab.async false
set_option linter.all false
set_option maxRecDepth 100000
set_option maxHeartbeats 400000
namespace My
open PySem L2 PySem.Spec PyProof.Rows
section
variable {P : Program} {w : World} {K : PySem.W.Frag} {mg : Str → Option Value} {base : Heap}
/-! ### data and their types -/
def typN : PyData → String
  | .none => "NoneType"
  | .bool _ => "bool"
  | .int _ => "int"
  | .str _ => "str"
  | .list _ => "list"
  | .tuple _ => "tuple"
  | .dict _ => "dict"
theorem ty_tup {K : PySem.W.Frag} {H : Hp} {a : Addr} {xs : List V} (h : SqT K H a xs) : TyX K H (.ref a) (.type "tuple") := by
  rcases h with (h | ⟨o, h⟩) | ⟨o, _, _, h, c, _⟩
  · exact .base (.tup h)
  · exact .fTuple h
  · exact .kTuple h c
theorem ty_lst {K : PySem.W.Frag} {H : Hp} {a : Addr} {xs : List V} (h : SqL K H a xs) : TyX K H (.ref a) (.type "list") := by
  rcases h with (h | ⟨o, h⟩) | ⟨o, _, _, h, c, _⟩
  · exact .base (.lst h)
  · exact .base (.frz h)
  · exact .kList h c
theorem dp_ty {K : PySem.W.Frag} {H : Hp} {v : V} {d : PyData} (h : Dp K H v d) : TyX K H v (.type (typN d)) := by
  cases h with
  | non => exact .base .non
  | bl b => exact .base (.bl b)
  | int i => exact .base (.int i)
  | str x => exact .base (.str x)
  | lst h _ => exact ty_lst h
  | tup h _ => exact ty_tup h
theorem Same.tup {K : PySem.W.Frag} {H H' : Hp} {a : Addr} {xs : List V} (e : Same H H') (h : SqT K H a xs) : SqT K H' a xs := by
  rcases h with (h | ⟨o, h⟩) | h
  · exact .inl (.inl (e _ _ h))
  · exact .inl (.inr ⟨o, e _ _ h⟩)
  · exact .inr h
mutual
theorem dp_same {K : PySem.W.Frag} {H H' : Hp} (e : Same H H') : ∀ (d : PyData) (v : V), Dp K H v d → Dp K H' v d
  | .none, _, h => by cases h; exact .non
  | .bool b, _, h => by cases h; exact .bl b
  | .int i, _, h => by cases h; exact .int i
  | .str x, _, h => by cases h; exact .str x
  | .list ds, _, h => by
    cases h with
    | lst h a => exact .lst (e.seq h) (dps_same e ds _ a)
  | .tuple ds, _, h => by
    cases h with
    | tup h a => exact .tup (Same.tup e h) (dps_same e ds _ a)
  | .dict _, _, h => by cases h
theorem dps_same {K : PySem.W.Frag} {H H' : Hp} (e : Same H H') : ∀ (ds : List PyData) (vs : List V), DpAll K H vs ds → DpAll K H' vs ds
  | [], _, h => by cases h; exact .nil
  | d :: ds, _, h => by
    cases h with
    | cons a b => exact .cons (dp_same e d _ a) (dps_same e ds _ b)
end
theorem dps_len {K : PySem.W.Frag} {H : Hp} : ∀ {vs : List V} {ds : List PyData}, DpAll K H vs ds → vs.length = ds.length
  | _, _, .nil => rfl
  | _, _, .cons _ b => by rw [List.length_cons, List.length_cons, dps_len b]
theorem dps_get {K : PySem.W.Frag} {H : Hp} : ∀ {vs : List V} {ds : List PyData} {i : Nat} {d : PyData}, DpAll K H vs ds → ds[i]? = some d → ∃ v, vs[i]? = some v ∧ Dp K H v d
  | _, _, _, _, .nil, h => by simp at h
  | _, _, 0, _, .cons a _, h => ⟨_, rfl, by cases h; exact a⟩
  | _, _, i + 1, _, .cons _ b, h => by
    obtain ⟨v, h1, h2⟩ := dps_get (i := i) b (by simpa using h)
    exact ⟨v, by simpa using h1, h2⟩
theorem dp_int {K : PySem.W.Frag} {H : Hp} {v : V} {i : Int} (h : Dp K H v (.int i)) : v = .int i := by cases h; rfl
theorem dp_str {K : PySem.W.Frag} {H : Hp} {v : V} {x : Str} (h : Dp K H v (.str x)) : v = .str x := by cases h; rfl
theorem dp_bl {K : PySem.W.Frag} {H : Hp} {v : V} {x : Bool} (h : Dp K H v (.bool x)) : v = .bl x := by cases h; rfl
theorem dp_non {K : PySem.W.Frag} {H : Hp} {v : V} (h : Dp K H v .none) : v = .non := by cases h; rfl
/-! ### what is a whole number, near, a row, a name, a fraction, a threshold, a short string: by data -/
def wholeD : PyData → Bool
  | .int _ => true
  | _ => false
def nearI (i : Int) : Bool := decide (-1000000 ≤ i) && decide (i ≤ 1000000)
def nearD : PyData → Bool
  | .int i => nearI i
  | _ => false
def resL : List Str := ["row", "block", "hash", "not", "and", "or", "all", "none", "like"]
def letL : Str := "abcdefghijklmnopqrstuvwxyz"
def nameB (s : Str) : Bool := decide (1 ≤ s.length) && decide (s.length ≤ 8) && !resL.contains s && s.cps.toList.all fun c => decide (c ∈ letL.cps.toList)
def nameD : PyData → Bool
  | .str s => nameB s
  | _ => false
def fracD : PyData → Bool
  | .tuple [.int a, .int b] => decide (1 ≤ b) && decide (((Nat.gcd a.natAbs b.natAbs : Nat) : Int) = 1)
  | _ => false
def chanceD : PyData → Bool
  | .tuple [.int a, .int b] => fracD (.tuple [.int a, .int b]) && (decide (0 ≤ a) && decide (a ≤ b) && decide (b ≤ 1000))
  | _ => false
def shortD : PyData → Bool
  | .str s => decide (s.length ≤ 12) && !decide (10 ∈ s.cps.toList)
  | _ => false
def sp_whole (K : PySem.W.Frag) : Sp := fun vs H Q _ => ∃ (x : V) (d : PyData), vs = [x] ∧ Dp K H x d ∧ Q (.bl (wholeD d)) H
theorem ok_is_whole (T : Txt K mg) : FnOk P w K mg base CX0 1 T.a_is_whole T.d_is_whole ["value"] (sp_whole K) := by
  refine T.F_is_whole.ok sc_is_whole (fun vs H Q E h => ?_) (fun cdv A outer s H vs Q E hr h => ?_)
  · obtain ⟨x, b, rfl, _⟩ := h
    rfl
  obtain ⟨x, d, rfl, hd, k⟩ := h
  refine ⟨_, (pss_one (ps_ret (pe_and (pe_callB call_isi (by rfl) T.z_isinstance (by decide +kernel) (pa_cons (pv 0) (pa_cons (pe_bltn (v := .ty "int") (by rfl) T.z_int (by decide +kernel) rfl) pa_nil))) (pe_one (pe_not (pe_callB call_isi (by rfl) T.z_isinstance (by decide +kernel) (pa_cons (pv 0) (pa_cons (pe_bltn (v := .ty "bool") (by rfl) T.z_bool (by decide +kernel) rfl) pa_nil)))))))), ?_⟩
  have ty := dp_ty hd
  cases d with
  | int i => exact ⟨_, rfl, x, .ty "int", .type "int", .type "int", true, rfl, .ty _, ty, kit_ty (by decide +kernel), _, rfl, iteT ⟨_, rfl, x, .ty "bool", .type "int", .type "bool", false, rfl, .ty _, ty, kit_ty (by decide +kernel), _, rfl, k⟩⟩
  | bool i => exact ⟨_, rfl, x, .ty "int", .type "bool", .type "int", true, rfl, .ty _, ty, kit_ty (by decide +kernel), _, rfl, iteT ⟨_, rfl, x, .ty "bool", .type "bool", .type "bool", true, rfl, .ty _, ty, kit_ty (by decide +kernel), _, rfl, k⟩⟩
  | str i => exact ⟨_, rfl, x, .ty "int", .type "str", .type "int", false, rfl, .ty _, ty, kit_ty (by decide +kernel), _, rfl, iteF k⟩
  | none => exact ⟨_, rfl, x, .ty "int", .type "NoneType", .type "int", false, rfl, .ty _, ty, kit_ty (by decide +kernel), _, rfl, iteF k⟩
  | list ds => exact ⟨_, rfl, x, .ty "int", .type "list", .type "int", false, rfl, .ty _, ty, kit_ty (by decide +kernel), _, rfl, iteF k⟩
  | tuple ds => exact ⟨_, rfl, x, .ty "int", .type "tuple", .type "int", false, rfl, .ty _, ty, kit_ty (by decide +kernel), _, rfl, iteF k⟩
  | dict ds => cases hd
def sp_between (K : PySem.W.Frag) : Sp := fun vs H Q _ => ∃ (x : V) (d : PyData), vs = [x, .int (-1000000), .int 1000000] ∧ Dp K H x d ∧ Q (.bl (nearD d)) H
theorem ok_is_between (T : Txt K mg) : FnOk P w K mg base CX0 2 T.a_is_between T.d_is_between ["value", "low", "high"] (sp_between K) := by
  have G_is_whole := ok_is_whole (P := P) (w := w) (base := base) T
  refine T.F_is_between.ok sc_is_between (fun vs H Q E h => ?_) (fun cdv A outer s H vs Q E hr h => ?_)
  · obtain ⟨x, b, rfl, _⟩ := h
    rfl
  obtain ⟨x, d, rfl, hd, k⟩ := h
  refine ⟨_, (pss_one (ps_ret (pe_and (pe_call G_is_whole (hr.mono (by first | decide | omega)) (by rfl) T.m_is_whole T.F_is_whole.kp T.b_is_whole .nil pass0 (pa_cons (pv 0) pa_nil)) (pe_one (pe_chain op_le op_le (pv 1) (pv 0) (pv 2)))))), ?_⟩
  refine ⟨_, rfl, x, d, rfl, hd, _, rfl, ?_⟩
  cases d with
  | int i =>
    obtain rfl := dp_int hd
    refine iteT ⟨_, rfl, _, rfl, _, _, rfl, rfl, _, rfl, ?_⟩
    have k' : Q (.bl (decide (-1000000 ≤ i) && decide (i ≤ 1000000))) H := k
    refine ite2 (fun c => ?_) (fun c => ?_)
    · rw [c, Bool.true_and] at k'
      exact ⟨_, rfl, _, _, rfl, rfl, k'⟩
    · rw [Bool.eq_false_iff.mpr c, Bool.false_and] at k'
      exact k'
  | dict ds => cases hd
  | _ => exact iteF k
def sp_near (K : PySem.W.Frag) : Sp := fun vs H Q _ => ∃ (x : V) (d : PyData), vs = [x] ∧ Dp K H x d ∧ Q (.bl (nearD d)) H
theorem ok_is_near (T : Txt K mg) : FnOk P w K mg base CX0 3 T.a_is_near T.d_is_near ["value"] (sp_near K) := by
  have G_is_between := ok_is_between (P := P) (w := w) (base := base) T
  refine T.F_is_near.ok sc_is_near (fun vs H Q E h => ?_) (fun cdv A outer s H vs Q E hr h => ?_)
  · obtain ⟨x, b, rfl, _⟩ := h
    rfl
  obtain ⟨x, d, rfl, hd, k⟩ := h
  refine ⟨_, (pss_one (ps_ret (pe_call G_is_between (hr.mono (by first | decide | omega)) (by rfl) T.m_is_between T.F_is_between.kp T.b_is_between .nil pass0 (pa_cons (pv 0) (pa_cons (pe_un un_neg (pe_glob (v := .int 1000000) (by rfl) T.m_FAR ⟨_, rfl⟩)) (pa_cons (pe_glob (v := .int 1000000) (by rfl) T.m_FAR ⟨_, rfl⟩) pa_nil)))))), ?_⟩
  exact ⟨_, rfl, _, rfl, x, d, rfl, hd, k⟩

end
end My
set_option Elab.async false
set_option linter.all false
set_option maxRecDepth 100000
set_option maxHeartbeats 400000
namespace My
open PySem L2 PySem.Spec PyProof.Rows
section
variable {P : Program} {w : World} {K : PySem.W.Frag} {mg : Str → Option Value} {base : Heap}
theorem str_in {s : Str} : ∀ l : List Str, inV (.str s) (l.map V.str) = l.contains s
  | [] => rfl
  | a :: l => by
    have ih := str_in (s := s) l
    have e : eqV (V.str a) (V.str s) = (s == a) := by
      show (a == s) = (s == a)
      exact BEq.comm
    unfold inV at ih ⊢
    rw [List.map_cons, List.any_cons, List.contains_cons, ih, e]
theorem flat_str : ∀ l : List Str, (l.map V.str).all flatV = true
  | [] => rfl
  | _ :: l => by
    rw [List.map_cons, List.all_cons, flat_str l]
    rfl
theorem res_str : ([.str "row", .str "block", .str "hash", .str "not", .str "and", .str "or", .str "all", .str "none", .str "like"] : List V) = resL.map V.str := rfl
/-- a text, if it is one, is not too long -/
def StrOk (d : PyData) : Prop := ∀ s, d = .str s → s.length ≤ 1000
def sp_name (K : PySem.W.Frag) : Sp := fun vs H Q _ => ∃ (x : V) (d : PyData), vs = [x] ∧ Dp K H x d ∧ StrOk d ∧ ∀ H', Same H H' → Q (.bl (nameD d)) H'
theorem not_str {K : PySem.W.Frag} {H : Hp} {x : V} {d : PyData} (h : Dp K H x d) (n : ∀ s, d ≠ .str s) : TyX K H x (.type (typN d)) ∧ kitB (typN d) "str" = some false := by
  refine ⟨dp_ty h, ?_⟩
  cases d with
  | str s => exact absurd rfl (n s)
  | dict _ => cases h
  | none =>
    show kitB "NoneType" "str" = some false
    decide +kernel
  | bool _ =>
    show kitB "bool" "str" = some false
    decide +kernel
  | int _ =>
    show kitB "int" "str" = some false
    decide +kernel
  | list _ =>
    show kitB "list" "str" = some false
    decide +kernel
  | tuple _ =>
    show kitB "tuple" "str" = some false
    decide +kernel
theorem ok_is_name (T : Txt K mg) : FnOk P w K mg base CX0 1 T.a_is_name T.d_is_name ["value"] (sp_name K) := by
  refine T.F_is_name.ok sc_is_name (fun vs H Q E h => ?_) (fun cdv A outer s H vs Q E hr h => ?_)
  · obtain ⟨x, b, rfl, _⟩ := h
    rfl
  obtain ⟨x, d, rfl, hd, ok, k⟩ := h
  refine ⟨_, (pss_cons (ps_if (PW.pt (pw_or (pt_not (pt_val (pe_callB call_isi (by rfl) T.z_isinstance (by decide +kernel) (pa_cons (pv 0) (pa_cons (pe_bltn (v := .ty "str") (by rfl) T.z_str (by decide +kernel) rfl) pa_nil))))) (pw_or1 (pt_not (pt_chain op_le op_le pe_int (pe_callB call_len_str (by rfl) T.z_len (by decide +kernel) (pa_cons (pv 0) pa_nil)) (pe_glob (v := .int 8) (by rfl) T.m_LONGEST_NAME ⟨_, rfl⟩)))))) (pss_one (ps_ret pe_bl)) pss_nil)
    (pss_one (ps_ret (pe_and (pe_cmpR op_notIn_seq (pv 0) (pe_glob (v := .ref T.a_RESERVED) (by rfl) T.m_RESERVED rfl) (by with_unfolding_all rfl)) (pe_one (pe_callB (cr_all rfl) (by rfl) T.z_all (by decide +kernel) (pa_cons (pe_lc (own := [("sign", 1)]) rfl sc_is_name.nd (pi_str (pv 0)) (blkOk_by (own := [("sign", 1)]) (N := ["value", "sign"]) (sc := defScope s_is_name) (by decide +kernel)) (fun _ _ _ _ _ => (pg_name (i := 1) sc_is_name.nd rfl (by first | exact Or.inl rfl | exact Or.inr rfl))) (fun _ _ _ _ _ => pts_nil) (fun _ _ _ _ _ => (pe_cmpR op_in_sign (pv 1) (pe_glob (v := .str "abcdefghijklmnopqrstuvwxyz") (by rfl) T.m_LETTERS ⟨_, rfl⟩) (by with_unfolding_all rfl)))) pa_nil))))))), ?_⟩
  by_cases hs : ∀ s, d ≠ .str s
  · obtain ⟨ty, kb⟩ := not_str hd hs
    have e : nameD d = false := by
      cases d with
      | str s => exact absurd rfl (hs s)
      | _ => rfl
    have k' := k H (Same.refl _)
    rw [e] at k'
    exact ⟨_, rfl, x, .ty "str", _, .type "str", false, rfl, .ty _, ty, kit_ty kb, _, rfl, iteT k'⟩
  obtain ⟨z, rfl⟩ : ∃ z, d = .str z := by
    cases d with
    | str z => exact ⟨z, rfl⟩
    | _ => exact absurd (fun s q => by cases q) hs
  obtain rfl := dp_str hd
  have hz := ok z rfl
  have hline : z.length ≤ sizeLine := Nat.le_of_lt (small1000 hz)
  have kk : ∀ H', Same H H' → Q (.bl (nameB z)) H' := k
  unfold nameB at kk
  -- the two tests
  refine seq_cut (fun σ' H' => σ' = [some (.str z), none] ∧ H' = H ∧ 1 ≤ z.length ∧ z.length ≤ 8) ?_ (fun tail => ?_)
  rotate_left
  · refine ⟨_, rfl, .str z, .ty "str", .type "str", .type "str", true, rfl, .ty _, .base (.str z), kit_ty (by decide +kernel), _, rfl, ?_⟩
    refine iteF ⟨_, rfl, z, rfl, hline, _, _, rfl, rfl, _, rfl, ?_⟩
    have kH := kk H (Same.refl _)
    by_cases c1 : 1 ≤ z.length
    · rw [decide_eq_true (show (1 : Int) ≤ ((z.length : Nat) : Int) by omega)]
      refine iteT ⟨_, _, rfl, rfl, _, rfl, ?_⟩
      by_cases c2 : z.length ≤ 8
      · rw [decide_eq_true (show ((z.length : Nat) : Int) ≤ 8 by omega)]
        exact iteF (tail _ _ ⟨rfl, rfl, c1, c2⟩)
      · rw [decide_eq_false (show ¬ ((z.length : Nat) : Int) ≤ 8 by omega)]
        rw [decide_eq_false c2, Bool.and_false, Bool.false_and, Bool.false_and] at kH
        exact iteT kH
    · rw [decide_eq_false (show ¬ (1 : Int) ≤ ((z.length : Nat) : Int) by omega)]
      rw [decide_eq_false c1, Bool.false_and, Bool.false_and, Bool.false_and] at kH
      exact iteF ⟨_, rfl, iteT kH⟩
  rintro σ' H' ⟨rfl, rfl, c1, c2⟩
  rw [decide_eq_true c1, decide_eq_true c2, Bool.true_and, Bool.true_and] at kk
  refine ⟨_, rfl, _, _, rfl, .inr (T.q_RESERVED _), rfl, (by rw [res_str]; exact flat_str _), _, rfl, ?_⟩
  rw [res_str, str_in]
  refine ite2 (fun c => ?_) (fun c => ?_)
  rotate_left
  · have c' : resL.contains z = true := by
      have c2 := Bool.eq_false_iff.mpr c
      simpa using c2
    have kH := kk H' (Same.refl _)
    rw [c', Bool.not_true, Bool.false_and] at kH
    exact kH
  have c' : (!resL.contains z) = true := c
  rw [c', Bool.true_and] at kk
  refine ⟨_, rfl, z, rfl, fun D hD => ?_⟩
  have hn : z.cps.size ≤ 1000 := hz
  refine lc_it (walk_str (z := z)) (fun i H2 => (∀ b o, b ≠ D → H' b = some o → H2 b = some o) ∧ H2 D = some (.lst ((z.cps.toList.take i).map fun c => V.bl (decide (c ∈ letL.cps.toList))))) ⟨fun b o n e => by rw [upd_ne n]; exact e, upd_same⟩ (fun _ _ _ _ => trivial) ?_ ?_
  · rintro i x H2 H3 hi ⟨g, e⟩ ⟨rfl, c, hc, rfl⟩
    refine ⟨rfl, _, rfl, c, letL, rfl, rfl, _, e, ?_, ?_, ?_⟩
    · rw [List.length_map, List.length_take]
      exact Nat.lt_of_le_of_lt (Nat.min_le_left _ _) (small1000 (by omega))
    · exact fun b o n e => by rw [upd_ne n]; exact g b o n e
    · have hcl : z.cps.toList[i]? = some c := by simpa using hc
      rw [List.take_add_one, hcl, List.map_append]
      exact upd_same
  · rintro H2 ⟨g, e⟩
    have el : z.cps.toList.take z.cps.size = z.cps.toList := List.take_of_length_le (by simp)
    rw [el] at e
    have em : (z.cps.toList.map fun c => V.bl (decide (c ∈ letL.cps.toList))) = (z.cps.toList.map fun c => decide (c ∈ letL.cps.toList)).map V.bl := by rw [List.map_map]; rfl
    rw [em] at e
    refine ⟨D, _, rfl, SqL.of e, ?_⟩
    have ea : ((z.cps.toList.map fun c => decide (c ∈ letL.cps.toList)).all id) = z.cps.toList.all fun c => decide (c ∈ letL.cps.toList) := by rw [List.all_map]; rfl
    rw [ea]
    exact kk _ fun b o q => g b o (ne_of_none q hD) q

end
end My
set_option Elab.async false
set_option linter.all false
set_option maxRecDepth 100000
set_option maxHeartbeats 400000
namespace My
open PySem L2 PySem.Spec PyProof.Rows
section
variable {P : Program} {w : World} {K : PySem.W.Frag} {mg : Str → Option Value} {base : Heap}
def sp_isf (K : PySem.W.Frag) : Sp := fun vs H Q _ => ∃ (x : V) (d : PyData), vs = [x] ∧ Dp K H x d ∧ Q (.bl (fracD d)) H
theorem fracD_int {d : PyData} (h : fracD d = true) : ∃ a b : Int, d = .tuple [.int a, .int b] ∧ 1 ≤ b ∧ ((Nat.gcd a.natAbs b.natAbs : Nat) : Int) = 1 := by
  match d, h with
  | .tuple [.int a, .int b], h =>
    have h' : (decide (1 ≤ b) && decide (((Nat.gcd a.natAbs b.natAbs : Nat) : Int) = 1)) = true := h
    obtain ⟨h1, h2⟩ := Bool.and_eq_true_iff.mp h'
    exact ⟨a, b, rfl, of_decide_eq_true h1, of_decide_eq_true h2⟩
theorem fracD_of {a b : Int} (h1 : 1 ≤ b) (h2 : ((Nat.gcd a.natAbs b.natAbs : Nat) : Int) = 1) : fracD (.tuple [.int a, .int b]) = true := by
  show (decide (1 ≤ b) && decide (((Nat.gcd a.natAbs b.natAbs : Nat) : Int) = 1)) = true
  rw [decide_eq_true h1, decide_eq_true h2]
  rfl
theorem two_of {K : PySem.W.Frag} {H : Hp} : ∀ {xs : List V} {ds : List PyData}, DpAll K H xs ds → xs.length = 2 → ∃ y z e f, xs = [y, z] ∧ ds = [e, f] ∧ Dp K H y e ∧ Dp K H z f
  | _, _, .nil, h => by cases h
  | _, _, .cons _ .nil, h => by cases h
  | _, _, .cons a (.cons b .nil), _ => ⟨_, _, _, _, rfl, rfl, a, b⟩
  | _, _, .cons _ (.cons _ (.cons _ _)), h => by simp at h
theorem dps2 {K : PySem.W.Frag} {H : Hp} {xs : List V} {e f : PyData} (h : DpAll K H xs [e, f]) : ∃ y z, xs = [y, z] ∧ Dp K H y e ∧ Dp K H z f := by
  cases h with
  | cons a t =>
    cases t with
    | cons b t =>
      cases t
      exact ⟨_, _, rfl, a, b⟩
theorem chance_not {d : PyData} (hf : fracD d = false) : chanceD d = false := by
  unfold chanceD
  split
  · rw [hf]
    rfl
  · rfl
theorem ok_is_fraction (T : Txt K mg) : FnOk P w K mg base CX0 2 T.a_is_fraction T.d_is_fraction ["value"] (sp_isf K) := by
  have G_is_whole := ok_is_whole (P := P) (w := w) (base := base) T
  refine T.F_is_fraction.ok sc_is_fraction (fun vs H Q E h => ?_) (fun cdv A outer s H vs Q E hr h => ?_)
  · obtain ⟨x, b, rfl, _⟩ := h
    rfl
  obtain ⟨x, d, rfl, hd, k⟩ := h
  refine ⟨_, (pss_cons (ps_if (PW.pt (pw_or (pt_not (pt_val (pe_callB call_isi (by rfl) T.z_isinstance (by decide +kernel) (pa_cons (pv 0) (pa_cons (pe_bltn (v := .ty "tuple") (by rfl) T.z_tuple (by decide +kernel) rfl) pa_nil))))) (pw_or1 (pt_cmpR op_ne (pe_callB call_len_seq (by rfl) T.z_len (by decide +kernel) (pa_cons (pv 0) pa_nil)) pe_int (nomark _))))) (pss_one (ps_ret pe_bl)) pss_nil)
    (pss_cons (ps_asg (pv 0) (pg_tup rfl (pgs_cons (pg_name (i := 1) sc_is_fraction.nd rfl (by first | exact Or.inl rfl | exact Or.inr rfl)) (pgs_cons (pg_name (i := 2) sc_is_fraction.nd rfl (by first | exact Or.inl rfl | exact Or.inr rfl)) pgs_nil))))
    (pss_one (ps_ret (pe_and (pe_call G_is_whole (hr.mono (by first | decide | omega)) (by rfl) T.m_is_whole T.F_is_whole.kp T.b_is_whole .nil pass0 (pa_cons (pv 1) pa_nil)) (pe_and (pe_call G_is_whole (hr.mono (by first | decide | omega)) (by rfl) T.m_is_whole T.F_is_whole.kp T.b_is_whole .nil pass0 (pa_cons (pv 2) pa_nil)) (pe_and (pe_cmpR op_ge (pv 2) pe_int (nomark _)) (pe_one (pe_cmpR op_eq (pe_callBfun cr_gcd (by rfl) T.m_gcd (pa_cons (pv 1) (pa_cons (pv 2) pa_nil))) pe_int (nomark _)))))))))), ?_⟩
  refine seq_cut (fun σ' H' => H' = H ∧ ∃ p y z e f, x = .ref p ∧ d = .tuple [e, f] ∧ SqT K H p [y, z] ∧ Dp K H y e ∧ Dp K H z f ∧ σ' = [some (.ref p), none, none]) ?_ (fun tail => ?_)
  rotate_left
  · by_cases ht : ∃ ds, d = .tuple ds
    · obtain ⟨ds, rfl⟩ := ht
      cases hd with
      | @tup p xs ds hs ha =>
        have el := dps_len ha
        refine ⟨_, rfl, .ref p, .ty "tuple", .type "tuple", .type "tuple", true, rfl, .ty _, ty_tup hs, kit_ty (by decide +kernel), _, rfl, ?_⟩
        refine iteF ⟨_, rfl, p, _, rfl, .inr hs, rfl, _, rfl, ?_⟩
        by_cases h2 : xs.length = 2
        · have e : (!decide (V.int (xs.length : Int) = V.int 2)) = false := by
            rw [h2]
            rfl
          rw [e]
          refine iteF (tail _ _ ?_)
          obtain ⟨y, z, e1, f1, rfl, rfl, a, b⟩ := two_of ha h2
          exact ⟨rfl, p, y, z, e1, f1, rfl, rfl, hs, a, b, rfl⟩
        · have e : (!decide (V.int (xs.length : Int) = V.int 2)) = true := by
            rw [decide_eq_false (fun z => h2 (by injection z with z; omega))]
            rfl
          rw [e]
          have nf : fracD (.tuple ds) = false := by
            cases q : fracD (.tuple ds) with
            | false => rfl
            | true =>
              obtain ⟨a, b, e', _⟩ := fracD_int q
              injection e' with e'
              rw [e'] at el
              exact absurd el h2
          rw [nf] at k
          exact iteT k
    · have nf : fracD d = false := by
        cases q : fracD d with
        | false => rfl
        | true =>
          obtain ⟨a, b, e', _⟩ := fracD_int q
          exact absurd ⟨_, e'⟩ ht
      rw [nf] at k
      have kb : kitB (typN d) "tuple" = some false := by
        cases d with
        | tuple ds => exact absurd ⟨_, rfl⟩ ht
        | dict _ => cases hd
        | none =>
          show kitB "NoneType" "tuple" = some false
          decide +kernel
        | bool _ =>
          show kitB "bool" "tuple" = some false
          decide +kernel
        | int _ =>
          show kitB "int" "tuple" = some false
          decide +kernel
        | list _ =>
          show kitB "list" "tuple" = some false
          decide +kernel
        | str _ =>
          show kitB "str" "tuple" = some false
          decide +kernel
      exact ⟨_, rfl, x, .ty "tuple", _, .type "tuple", false, rfl, .ty _, dp_ty hd, kit_ty kb, _, rfl, iteT k⟩
  rintro σ' H' ⟨rfl, p, y, z, e, f, rfl, rfl, hs, hy, hz, rfl⟩
  refine ⟨_, rfl, _, _, rfl, hs, rfl, _, _, rfl, _, _, rfl, rfl, ?_⟩
  refine ⟨_, rfl, y, e, rfl, hy, _, rfl, ?_⟩
  by_cases he : ∃ i, e = .int i
  · obtain ⟨i, rfl⟩ := he
    obtain rfl := dp_int hy
    refine iteT ⟨_, rfl, z, f, rfl, hz, _, rfl, ?_⟩
    by_cases hf : ∃ j, f = .int j
    · obtain ⟨j, rfl⟩ := hf
      obtain rfl := dp_int hz
      refine iteT ⟨_, rfl, _, _, rfl, rfl, _, rfl, ?_⟩
      have k' : Q (.bl (decide (1 ≤ j) && decide (((Nat.gcd i.natAbs j.natAbs : Nat) : Int) = 1))) H' := k
      by_cases h1 : (1 : Int) ≤ j
      · rw [decide_eq_true h1, Bool.true_and] at k'
        rw [decide_eq_true h1]
        refine iteT ⟨_, rfl, _, rfl, i, j, rfl, rfl, ?_⟩
        have e2 : decide (V.int ((Nat.gcd i.natAbs j.natAbs : Nat) : Int) = V.int 1) = decide (((Nat.gcd i.natAbs j.natAbs : Nat) : Int) = 1) := by
          generalize ((Nat.gcd i.natAbs j.natAbs : Nat) : Int) = g
          by_cases h2 : g = 1
          · rw [h2]
            rfl
          · rw [decide_eq_false h2, decide_eq_false (fun z => h2 (by injection z))]
        show Q (V.bl (decide (V.int ((Nat.gcd i.natAbs j.natAbs : Nat) : Int) = V.int 1))) _
        rw [e2]
        exact k'
      · rw [decide_eq_false h1, Bool.false_and] at k'
        rw [decide_eq_false h1]
        exact iteF k'
    · have wf : wholeD f = false := by
        cases f with
        | int j => exact absurd ⟨_, rfl⟩ hf
        | _ => rfl
      have nf : fracD (.tuple [.int i, f]) = false := by
        cases f with
        | int j => exact absurd ⟨_, rfl⟩ hf
        | _ => rfl
      rw [nf] at k
      rw [wf]
      exact iteF k
  · have we : wholeD e = false := by
      cases e with
      | int j => exact absurd ⟨_, rfl⟩ he
      | _ => rfl
    have nf : fracD (.tuple [e, f]) = false := by
      cases e with
      | int j => exact absurd ⟨_, rfl⟩ he
      | _ => rfl
    rw [nf] at k
    rw [we]
    exact iteF k
def sp_thr (K : PySem.W.Frag) : Sp := fun vs H Q _ => ∃ (x : V) (d : PyData), vs = [x] ∧ Dp K H x d ∧ Q (.bl (chanceD d)) H
theorem ok_is_threshold (T : Txt K mg) : FnOk P w K mg base CX0 3 T.a_is_threshold T.d_is_threshold ["value"] (sp_thr K) := by
  have G_is_fraction := ok_is_fraction (P := P) (w := w) (base := base) T
  refine T.F_is_threshold.ok sc_is_threshold (fun vs H Q E h => ?_) (fun cdv A outer s H vs Q E hr h => ?_)
  · obtain ⟨x, b, rfl, _⟩ := h
    rfl
  obtain ⟨x, d, rfl, hd, k⟩ := h
  refine ⟨_, (pss_one (ps_ret (pe_and (pe_call G_is_fraction (hr.mono (by first | decide | omega)) (by rfl) T.m_is_fraction T.F_is_fraction.kp T.b_is_fraction .nil pass0 (pa_cons (pv 0) pa_nil)) (pe_one (pe_chain3 op_le op_le op_le pe_int (pe_ix ix_tup (pv 0) pe_int (fun _ _ => rfl)) (pe_ix ix_tup (pv 0) pe_int (fun _ _ => rfl)) (pe_glob (v := .int 1000) (by rfl) T.m_GREATEST_BELOW ⟨_, rfl⟩)))))), ?_⟩
  refine ⟨_, rfl, x, d, rfl, hd, _, rfl, ?_⟩
  cases hf : fracD d with
  | false =>
    have e : chanceD d = false := chance_not hf
    rw [e] at k
    exact iteF k
  | true =>
    obtain ⟨a, b, rfl, h1, h2⟩ := fracD_int hf
    cases hd with
    | @tup p xs ds hs ha =>
      · obtain ⟨y, z, rfl, ya, zb⟩ := dps2 ha
        obtain rfl := dp_int ya
        obtain rfl := dp_int zb
        have k' : Q (.bl (fracD (.tuple [.int a, .int b]) && (decide (0 ≤ a) && decide (a ≤ b) && decide (b ≤ 1000)))) H := k
        rw [hf, Bool.true_and] at k'
        refine iteT ⟨_, rfl, p, _, _, _, rfl, rfl, hs, at_of (j := 0) rfl rfl, _, _, rfl, rfl, _, rfl, ?_⟩
        by_cases c1 : 0 ≤ a
        · rw [decide_eq_true c1] at k' ⊢
          rw [Bool.true_and] at k'
          refine iteT ⟨_, rfl, p, _, _, _, rfl, rfl, hs, at_of (j := 1) rfl rfl, _, _, rfl, rfl, _, rfl, ?_⟩
          by_cases c2 : a ≤ b
          · rw [decide_eq_true c2] at k' ⊢
            rw [Bool.true_and] at k'
            exact iteT ⟨_, _, rfl, rfl, k'⟩
          · rw [decide_eq_false c2] at k' ⊢
            rw [Bool.false_and] at k'
            exact iteF k'
        · rw [decide_eq_false c1] at k' ⊢
          rw [Bool.false_and, Bool.false_and] at k'
          exact iteF k'
def sp_short (K : PySem.W.Frag) : Sp := fun vs H Q _ => ∃ (x : V) (d : PyData), vs = [x] ∧ Dp K H x d ∧ StrOk d ∧ Q (.bl (shortD d)) H
theorem ok_is_short (T : Txt K mg) : FnOk P w K mg base CX0 1 T.a_is_short T.d_is_short ["value"] (sp_short K) := by
  refine T.F_is_short.ok sc_is_short (fun vs H Q E h => ?_) (fun cdv A outer s H vs Q E hr h => ?_)
  · obtain ⟨x, b, rfl, _⟩ := h
    rfl
  obtain ⟨x, d, rfl, hd, ok, k⟩ := h
  refine ⟨_, (pss_one (ps_ret (pe_and (pe_callB call_isi (by rfl) T.z_isinstance (by decide +kernel) (pa_cons (pv 0) (pa_cons (pe_bltn (v := .ty "str") (by rfl) T.z_str (by decide +kernel) rfl) pa_nil))) (pe_and (pe_cmpR op_le (pe_callB call_len_str (by rfl) T.z_len (by decide +kernel) (pa_cons (pv 0) pa_nil)) (pe_glob (v := .int 12) (by rfl) T.m_LONGEST_STRING ⟨_, rfl⟩) (nomark _)) (pe_one (pe_cmpR op_notIn_sign pe_str (pv 0) (by with_unfolding_all rfl))))))), ?_⟩
  by_cases hs : ∀ s, d ≠ .str s
  · obtain ⟨ty, kb⟩ := not_str hd hs
    have e : shortD d = false := by
      cases d with
      | str s => exact absurd rfl (hs s)
      | _ => rfl
    rw [e] at k
    exact ⟨_, rfl, x, .ty "str", _, .type "str", false, rfl, .ty _, ty, kit_ty kb, _, rfl, iteF k⟩
  obtain ⟨z, rfl⟩ : ∃ z, d = .str z := by
    cases d with
    | str z => exact ⟨z, rfl⟩
    | _ => exact absurd (fun s q => by cases q) hs
  obtain rfl := dp_str hd
  have hline : z.length ≤ sizeLine := Nat.le_of_lt (small1000 (ok z rfl))
  have k' : Q (.bl (decide (z.length ≤ 12) && !decide (10 ∈ z.cps.toList))) H := k
  refine ⟨_, rfl, .str z, .ty "str", .type "str", .type "str", true, rfl, .ty _, .base (.str z), kit_ty (by decide +kernel), _, rfl, ?_⟩
  refine iteT ⟨_, rfl, z, rfl, hline, _, _, rfl, rfl, _, rfl, ?_⟩
  by_cases c : z.length ≤ 12
  · rw [decide_eq_true c, Bool.true_and] at k'
    rw [decide_eq_true (show ((z.length : Nat) : Int) ≤ 12 by omega)]
    exact iteT ⟨_, rfl, 10, z, rfl, rfl, k'⟩
  · rw [decide_eq_false c, Bool.false_and] at k'
    rw [decide_eq_false (show ¬ ((z.length : Nat) : Int) ≤ 12 by omega)]
    exact iteF k'

end
end My
set_option Elab.async false
set_option linter.all false
set_option maxRecDepth 100000
set_option maxHeartbeats 400000
namespace My
open PySem L2 PySem.Spec PyProof.Rows
section
variable {P : Program} {w : World} {K : PySem.W.Frag} {mg : Str → Option Value} {base : Heap}
/-! ### columns by their objects -/
structure Cols where
  hs : List Str
  ask : Str → Option Bool
def kindV (b : Bool) : V := .str (if b then "number" else "text")
def ColsAt (C : Addr) (H : Hp) (p : Addr) (c : Cols) : Prop := ∃ dx fs t d kvs, H p = some (.ins C dx fs) ∧ fs.lookup ("hashed" : Str) = some (.ref t) ∧ H t = some (.tup (c.hs.map V.str)) ∧ fs.lookup ("_asked" : Str) = some (.ref d) ∧ H d = some (.dK kvs) ∧
  (∀ s, valV kvs (Sum.inr s) = (c.ask s).map kindV)
theorem ColsAt.same {C : Addr} {H H' : Hp} {p : Addr} {c : Cols} (h : ColsAt C H p c) (e : Same H H') : ColsAt C H' p c := by
  obtain ⟨dx, fs, t, d, kvs, h1, h2, h3, h4, h5, h6⟩ := h
  exact ⟨dx, fs, t, d, kvs, e _ _ h1, h2, e _ _ h3, h4, e _ _ h5, h6⟩
def sp_asked (C : Addr) : Sp := fun vs H Q _ => ∃ (p : Addr) (c : Cols), vs = [.ref p] ∧ ColsAt C H p c ∧ ∀ q kvs, H q = none → (∀ s, valV kvs (Sum.inr s) = (c.ask s).map kindV) → Q (.ref q) (upd H q (.dK kvs))
theorem ok_Columns_asked (T : Txt K mg) : FnOk P w K mg base CX0 1 T.a_Columns_asked T.d_Columns_asked ["self"] (sp_asked T.c_Columns) := by
  refine T.F_Columns_asked.ok sc_Columns_asked (fun vs H Q E h => ?_) (fun cdv A outer s H vs Q E hr h => ?_)
  · obtain ⟨p, c, rfl, _⟩ := h
    rfl
  obtain ⟨p, c, rfl, ⟨dx, fs, t, d, kvs, h1, h2, h3, h4, h5, h6⟩, k⟩ := h
  refine ⟨_, (pss_one (ps_ret (pe_callTy call_dictD (by rfl) T.z_dict (by decide +kernel) (pa_cons (pe_fld (pv 0) rfl) pa_nil)))), ?_⟩
  exact ⟨_, rfl, p, T.c_Columns, dx, _, _, rfl, h1, T.cl_Columns, T.n_Columns__asked, h4, d, kvs, rfl, .inl h5, fun q hq => k q kvs hq h6⟩
/-! ### formulas by data -/
def isS (d : PyData) (s : Str) : Bool := match d with
  | .str x => decide (x = s)
  | _ => false
def flatD : PyData → Bool
  | .none => true
  | .bool _ => true
  | .int _ => true
  | .str _ => true
  | _ => false
theorem dp_flat {K : PySem.W.Frag} {H : Hp} {x : V} {d : PyData} (h : Dp K H x d) (f : flatD d = true) : flatV x = true := by
  cases h <;> first | rfl | cases f
theorem eqV_is {K : PySem.W.Frag} {H : Hp} {x : V} {d : PyData} (h : Dp K H x d) (f : flatD d = true) (s : Str) : eqV (.str s) x = isS d s := by
  cases h with
  | str z =>
    show (s == z) = decide (z = s)
    by_cases e : z = s
    · subst e
      simp
    · have e2 : ¬ s = z := fun q => e q.symm
      simp [e, e2]
  | lst _ _ => cases f
  | tup _ _ => cases f
  | _ => rfl
theorem dec_is {K : PySem.W.Frag} {H : Hp} {x : V} {d : PyData} (h : Dp K H x d) (f : flatD d = true) (s : Str) : decide (x = V.str s) = isS d s := by
  cases h with
  | str z =>
    show decide (V.str z = V.str s) = decide (z = s)
    by_cases e : z = s
    · subst e
      simp
    · rw [decide_eq_false e, decide_eq_false (fun q => e (by injection q))]
  | lst _ _ => cases f
  | tup _ _ => cases f
  | _ => exact decide_eq_false (fun q => by cases q)
theorem scal_is {K : PySem.W.Frag} {H : Hp} {x : V} {d : PyData} (h : Dp K H x d) (f : flatD d = true) (s : Str) : scal x (V.str s) = true := by
  cases h <;> first | rfl | cases f
theorem in_two {K : PySem.W.Frag} {H : Hp} {x : V} {d : PyData} (h : Dp K H x d) (f : flatD d = true) (s t : Str) : inV x [.str s, .str t] = (isS d s || isS d t) := by
  unfold inV
  rw [List.any_cons, List.any_cons, List.any_nil, eqV_is h f, eqV_is h f, Bool.or_false]
/-- x in (s, t), a tuple just laid -/
theorem in_pair {K : PySem.W.Frag} {H : Hp} {x : V} {d : PyData} {Q : VK} {q : Addr} (s t : Str) (h : Dp K H x d) (f : flatD d = true) (hq : H q = some (.tup [.str s, .str t])) (k : Q (.bl (isS d s || isS d t)) H) : rIn K false x (.ref q) H Q := by
  refine ⟨q, _, rfl, .inr (SqT.of hq), dp_flat h f, rfl, ?_⟩
  show Q (.bl (inV x [.str s, .str t])) H
  rw [in_two h f]
  exact k
def memD (l : List Str) : PyData → Bool
  | .str s => l.contains s
  | _ => false
def testD (c : Cols) : List PyData → Bool
  | [h, a, b] => (isS h "row" || isS h "block") && (nameD a && chanceD b)
  | [h, a, b, e] => isS h "hash" && (memD c.hs a && nameD b && chanceD e)
  | _ => false
/-- what a formula's parts may be, that is asked of -/
def PartsOk (ds : List PyData) : Prop := ∀ d ∈ ds, StrOk d
def HeadOk (ds : List PyData) : Prop := (∀ h r, ds = h :: r → flatD h = true) ∧ ∀ h a b e, ds = [h, a, b, e] → flatD a = true
def sp_test (C : Addr) (K : PySem.W.Frag) : Sp := fun vs H Q _ => ∃ (p : Addr) (c : Cols) (v : V) (ds : List PyData), vs = [.ref p, v] ∧ ColsAt C H p c ∧ Dp K H v (.tuple ds) ∧ PartsOk ds ∧ HeadOk ds ∧ ds ≠ [] ∧ ∀ H', Same H H' → Q (.bl (testD c ds)) H'
theorem len_dec {n m : Nat} : decide (V.int (n : Int) = V.int (m : Int)) = decide (n = m) := by
  by_cases e : n = m
  · subst e
    simp
  · rw [decide_eq_false e, decide_eq_false (fun q => e (by injection q with q; omega))]
theorem in_hs {K : PySem.W.Frag} {H : Hp} {x : V} {d : PyData} (h : Dp K H x d) (f : flatD d = true) (l : List Str) : inV x (l.map V.str) = memD l d := by
  cases h with
  | str z => exact str_in l
  | lst _ _ => cases f
  | tup _ _ => cases f
  | _ =>
    unfold inV
    induction l with
    | nil => rfl
    | cons a l ih =>
      rw [List.map_cons, List.any_cons, ih]
      rfl
theorem ok_is_test (T : Txt K mg) : FnOk P w K mg base CX0 4 T.a_is_test T.d_is_test ["columns", "part"] (sp_test T.c_Columns K) := by
  have G_is_name := ok_is_name (P := P) (w := w) (base := base) T
  have G_is_threshold := ok_is_threshold (P := P) (w := w) (base := base) T
  refine T.F_is_test.ok sc_is_test (fun vs H Q E h => ?_) (fun cdv A outer s H vs Q E hr h => ?_)
  · obtain ⟨p, c, v, ds, rfl, _⟩ := h
    rfl
  obtain ⟨p, c, v, ds, rfl, hc, hd, ok, hok, ne, k⟩ := h
  refine ⟨_, (pss_cons (ps_if (PW.pt (pw_and (pt_cmpR op_in_seq (pe_ix ix_tup (pv 1) pe_int (fun _ _ => rfl)) (pe_tup (pa_cons pe_str (pa_cons pe_str pa_nil))) (by with_unfolding_all rfl)) (pw_and1 (pt_cmpR op_eq (pe_callB call_len_seq (by rfl) T.z_len (by decide +kernel) (pa_cons (pv 1) pa_nil)) pe_int (nomark _))))) (pss_one (ps_ret (pe_and (pe_call G_is_name (hr.mono (by first | decide | omega)) (by rfl) T.m_is_name T.F_is_name.kp T.b_is_name .nil pass0 (pa_cons (pe_ix ix_tup (pv 1) pe_int (fun _ _ => rfl)) pa_nil)) (pe_one (pe_call G_is_threshold (hr.mono (by first | decide | omega)) (by rfl) T.m_is_threshold T.F_is_threshold.kp T.b_is_threshold .nil pass0 (pa_cons (pe_ix ix_tup (pv 1) pe_int (fun _ _ => rfl)) pa_nil)))))) pss_nil)
    (pss_cons (ps_if (PW.pt (pw_and (pt_cmpR op_eq (pe_ix ix_tup (pv 1) pe_int (fun _ _ => rfl)) pe_str (nomark _)) (pw_and1 (pt_cmpR op_eq (pe_callB call_len_seq (by rfl) T.z_len (by decide +kernel) (pa_cons (pv 1) pa_nil)) pe_int (nomark _))))) (pss_one (ps_ret (pe_and (pe_cmpR op_in_seq (pe_ix ix_tup (pv 1) pe_int (fun _ _ => rfl)) (pe_fld (pv 0) rfl) (by with_unfolding_all rfl)) (pe_and (pe_call G_is_name (hr.mono (by first | decide | omega)) (by rfl) T.m_is_name T.F_is_name.kp T.b_is_name .nil pass0 (pa_cons (pe_ix ix_tup (pv 1) pe_int (fun _ _ => rfl)) pa_nil)) (pe_one (pe_call G_is_threshold (hr.mono (by first | decide | omega)) (by rfl) T.m_is_threshold T.F_is_threshold.kp T.b_is_threshold .nil pass0 (pa_cons (pe_ix ix_tup (pv 1) pe_int (fun _ _ => rfl)) pa_nil))))))) pss_nil)
    (pss_one (ps_ret pe_bl)))), ?_⟩
  cases hd with
  | @tup a xs ds hs ha =>
  obtain ⟨h0, r, rfl⟩ : ∃ h0 r, ds = h0 :: r := by
    cases ds with
    | nil => exact absurd rfl ne
    | cons h r => exact ⟨h, r, rfl⟩
  have fh := hok.1 h0 r rfl
  obtain ⟨x0, hx0, dx0⟩ := dps_get (i := 0) ha rfl
  have el := dps_len ha
  have a0 : atI xs 0 = some x0 := at_of (j := 0) rfl hx0
  -- part[0] in ("row", "block") and len(part) == 3
  refine seq_cut (fun σ' H' => σ' = [some (.ref p), some (.ref a)] ∧ Same H H' ∧ ((isS h0 "row" || isS h0 "block") = false ∨ xs.length ≠ 3)) ?_ (fun tail => ?_)
  rotate_left
  · refine ⟨_, rfl, a, xs, 0, x0, rfl, rfl, hs, a0, (by show 2 ≤ sizeLine; decide), fun q hq => ?_⟩
    have g1 := same_new hq (.tup [.str "row", .str "block"])
    refine in_pair "row" "block" (dp_same g1 _ _ dx0) fh upd_same ⟨_, rfl, ?_⟩
    refine ite2 (fun c1 => ?_) (fun c1 => ?_)
    rotate_left
    · exact iteF (tail _ _ ⟨rfl, g1, .inl (Bool.eq_false_iff.mpr c1)⟩)
    refine ⟨_, rfl, a, xs, rfl, .inr (Same.tup g1 hs), rfl, _, rfl, ?_⟩
    show (if decide (V.int ((xs.length : Nat) : Int) = V.int ((3 : Nat) : Int)) = true then _ else _)
    rw [len_dec]
    by_cases c3 : xs.length = 3
    rotate_left
    · rw [decide_eq_false c3]
      exact iteF (tail _ _ ⟨rfl, g1, .inr c3⟩)
    rw [decide_eq_true c3]
    refine iteT ?_
    obtain ⟨d1, d2, rfl⟩ : ∃ d1 d2, r = [d1, d2] := by
      rw [c3] at el
      match r, el with
      | [d1, d2], _ => exact ⟨d1, d2, rfl⟩
    obtain ⟨x1, hx1, dx1⟩ := dps_get (i := 1) ha rfl
    obtain ⟨x2, hx2, dx2⟩ := dps_get (i := 2) ha rfl
    have kk : ∀ H', Same H H' → Q (.bl ((isS h0 "row" || isS h0 "block") && (nameD d1 && chanceD d2))) H' := k
    rw [c1, Bool.true_and] at kk
    refine ⟨_, rfl, a, xs, 1, x1, rfl, rfl, Same.tup g1 hs, at_of (j := 1) rfl hx1, x1, d1, rfl, dp_same g1 _ _ dx1, ok d1 (by simp), fun H2 g2 => ⟨_, rfl, ?_⟩⟩
    have g12 := g1.trans g2
    refine ite2 (fun c2 => ?_) (fun c2 => ?_)
    · have k2 := kk H2 g12
      rw [c2, Bool.true_and] at k2
      exact ⟨_, rfl, a, xs, 2, x2, rfl, rfl, Same.tup g12 hs, at_of (j := 2) rfl hx2, x2, d2, rfl, dp_same g12 _ _ dx2, k2⟩
    · have k2 := kk H2 g12
      rw [Bool.eq_false_iff.mpr c2, Bool.false_and] at k2
      exact k2
  rintro σ' H1 ⟨rfl, g1, c1⟩
  -- part[0] == "hash" and len(part) == 4
  refine seq_cut (fun σ' H' => σ' = [some (.ref p), some (.ref a)] ∧ H' = H1 ∧ (isS h0 "hash" = false ∨ xs.length ≠ 4)) ?_ (fun tail => ?_)
  rotate_left
  · refine ⟨_, rfl, a, xs, 0, x0, rfl, rfl, Same.tup g1 hs, a0, scal_is (dp_same g1 _ _ dx0) fh _, _, rfl, ?_⟩
    rw [dec_is (dp_same g1 _ _ dx0) fh]
    refine ite2 (fun c2 => ?_) (fun c2 => ?_)
    rotate_left
    · exact iteF (tail _ _ ⟨rfl, rfl, .inl (Bool.eq_false_iff.mpr c2)⟩)
    refine ⟨_, rfl, a, xs, rfl, .inr (Same.tup g1 hs), rfl, _, rfl, ?_⟩
    show (if decide (V.int ((xs.length : Nat) : Int) = V.int ((4 : Nat) : Int)) = true then _ else _)
    rw [len_dec]
    by_cases c3 : xs.length = 4
    rotate_left
    · rw [decide_eq_false c3]
      exact iteF (tail _ _ ⟨rfl, rfl, .inr c3⟩)
    rw [decide_eq_true c3]
    refine iteT ?_
    obtain ⟨d1, d2, d3, rfl⟩ : ∃ d1 d2 d3, r = [d1, d2, d3] := by
      rw [c3] at el
      match r, el with
      | [d1, d2, d3], _ => exact ⟨d1, d2, d3, rfl⟩
    obtain ⟨x1, hx1, dx1⟩ := dps_get (i := 1) ha rfl
    obtain ⟨x2, hx2, dx2⟩ := dps_get (i := 2) ha rfl
    obtain ⟨x3, hx3, dx3⟩ := dps_get (i := 3) ha rfl
    have f1 := hok.2 h0 d1 d2 d3 rfl
    have kk : ∀ H', Same H H' → Q (.bl (isS h0 "hash" && (memD c.hs d1 && nameD d2 && chanceD d3))) H' := k
    rw [c2, Bool.true_and, Bool.and_assoc] at kk
    obtain ⟨dx, fs, t, d, kvs, h1, h2, h3, h4, h5, h6⟩ := hc.same g1
    refine ⟨_, rfl, a, xs, 1, x1, rfl, rfl, Same.tup g1 hs, at_of (j := 1) rfl hx1, _, rfl, p, T.c_Columns, dx, _, _, rfl, h1, T.cl_Columns, T.n_Columns_hashed, h2, t, _, rfl, .inr (SqT.of h3), dp_flat dx1 f1, flat_str _, _, rfl, ?_⟩
    show (if inV x1 (c.hs.map V.str) = true then _ else _)
    rw [in_hs dx1 f1]
    refine ite2 (fun c4 => ?_) (fun c4 => ?_)
    rotate_left
    · have k2 := kk H1 g1
      rw [Bool.eq_false_iff.mpr c4, Bool.false_and] at k2
      exact k2
    rw [c4, Bool.true_and] at kk
    refine ⟨_, rfl, a, xs, 2, x2, rfl, rfl, Same.tup g1 hs, at_of (j := 2) rfl hx2, x2, d2, rfl, dp_same g1 _ _ dx2, ok d2 (by simp), fun H2 g2 => ⟨_, rfl, ?_⟩⟩
    have g12 := g1.trans g2
    refine ite2 (fun c5 => ?_) (fun c5 => ?_)
    · have k2 := kk H2 g12
      rw [c5, Bool.true_and] at k2
      exact ⟨_, rfl, a, xs, 3, x3, rfl, rfl, Same.tup g12 hs, at_of (j := 3) rfl hx3, x3, d3, rfl, dp_same g12 _ _ dx3, k2⟩
    · have k2 := kk H2 g12
      rw [Bool.eq_false_iff.mpr c5, Bool.false_and] at k2
      exact k2
  rintro σ' H2 ⟨rfl, rfl, c2⟩
  have e : testD c (h0 :: r) = false := by
    have el2 : (h0 :: r).length = r.length + 1 := rfl
    match r with
    | [] => rfl
    | [_] => rfl
    | [d1, d2] =>
      rcases c1 with z | z
      · show ((isS h0 "row" || isS h0 "block") && _) = false
        rw [z, Bool.false_and]
      · exact absurd el z
    | [d1, d2, d3] =>
      rcases c2 with z | z
      · show (isS h0 "hash" && _) = false
        rw [z, Bool.false_and]
      · exact absurd el z
    | _ :: _ :: _ :: _ :: _ => rfl
  have kH := k H2 g1
  rw [e] at kH
  exact kH

end
end My
set_option Elab.async false
set_option linter.all false
set_option maxRecDepth 100000
set_option maxHeartbeats 400000
namespace My
open PySem L2 PySem.Spec PyProof.Rows
section
variable {P : Program} {w : World} {K : PySem.W.Frag} {mg : Str → Option Value} {base : Heap}
def askD (c : Cols) : List PyData → Bool
  | [h, .str v, x] => if isS h "less" = true then decide (c.ask v = some true) && nearD x else if (isS h "is" && decide (c.ask v = some true)) = true then nearD x else (isS h "is" || isS h "like") && (decide (c.ask v = some false) && shortD x)
  | _ => false
theorem kind_num (o : Option Bool) : decide (((o.map kindV).getD .non) = V.str "number") = decide (o = some true) := by
  cases o with
  | none => rfl
  | some b => cases b <;> decide
theorem kind_txt (o : Option Bool) : decide (((o.map kindV).getD .non) = V.str "text") = decide (o = some false) := by
  cases o with
  | none => rfl
  | some b => cases b <;> decide
theorem kind_scal (o : Option Bool) (s : Str) : scal ((o.map kindV).getD .non) (V.str s) = true := by
  cases o with
  | none => rfl
  | some b => rfl
def sp_ask (C : Addr) (K : PySem.W.Frag) : Sp := fun vs H Q _ => ∃ (p : Addr) (c : Cols) (v : V) (ds : List PyData), vs = [.ref p, v] ∧ ColsAt C H p c ∧ Dp K H v (.tuple ds) ∧ PartsOk ds ∧ HeadOk ds ∧ ∀ H', Same H H' → Q (.bl (askD c ds)) H'
theorem ask_not {c : Cols} {h a x : PyData} (n : ∀ s, a ≠ .str s) : askD c [h, a, x] = false := by
  cases a with
  | str s => exact absurd rfl (n s)
  | _ => rfl
theorem ask_len {c : Cols} {ds : List PyData} (n : ds.length ≠ 3) : askD c ds = false := by
  unfold askD
  split
  · exact absurd rfl n
  · rfl
theorem ok_is_ask (T : Txt K mg) : FnOk P w K mg base CX0 4 T.a_is_ask T.d_is_ask ["columns", "part"] (sp_ask T.c_Columns K) := by
  have G_is_near := ok_is_near (P := P) (w := w) (base := base) T
  have G_is_short := ok_is_short (P := P) (w := w) (base := base) T
  have G_Columns_asked := ok_Columns_asked (P := P) (w := w) (base := base) T
  refine T.F_is_ask.ok sc_is_ask (fun vs H Q E h => ?_) (fun cdv A outer s H vs Q E hr h => ?_)
  · obtain ⟨p, c, v, ds, rfl, _⟩ := h
    rfl
  obtain ⟨p, c, v, ds, rfl, hc, hd, ok, hok, k⟩ := h
  refine ⟨_, (pss_cons (ps_if (PW.pt (pw_or (pt_cmpR op_ne (pe_callB call_len_seq (by rfl) T.z_len (by decide +kernel) (pa_cons (pv 1) pa_nil)) pe_int (nomark _)) (pw_or1 (pt_not (pt_val (pe_callB call_isi (by rfl) T.z_isinstance (by decide +kernel) (pa_cons (pe_ix ix_tup (pv 1) pe_int (fun _ _ => rfl)) (pa_cons (pe_bltn (v := .ty "str") (by rfl) T.z_str (by decide +kernel) rfl) pa_nil)))))))) (pss_one (ps_ret pe_bl)) pss_nil)
    (pss_cons (ps_set (i := 2) sc_is_ask.nd rfl (by first | exact Or.inl rfl | exact Or.inr rfl) (pe_dget1 (hu_of hr) (pe_prop (pv 0) T.cl_Columns T.p_Columns_asked G_Columns_asked (hr.mono (by first | decide | omega)) T.b_Columns_asked .nil pass0 rfl) (pe_ix ix_tup (pv 1) pe_int (fun _ _ => rfl)) ⟨rfl, rfl, rfl, rfl⟩))
    (pss_cons (ps_if (pt_cmpR op_eq (pe_ix ix_tup (pv 1) pe_int (fun _ _ => rfl)) pe_str (nomark _)) (pss_one (ps_ret (pe_and (pe_cmpR op_eq (pv 2) pe_str (nomark _)) (pe_one (pe_call G_is_near (hr.mono (by first | decide | omega)) (by rfl) T.m_is_near T.F_is_near.kp T.b_is_near .nil pass0 (pa_cons (pe_ix ix_tup (pv 1) pe_int (fun _ _ => rfl)) pa_nil)))))) pss_nil)
    (pss_cons (ps_if (PW.pt (pw_and (pt_cmpR op_eq (pe_ix ix_tup (pv 1) pe_int (fun _ _ => rfl)) pe_str (nomark _)) (pw_and1 (pt_cmpR op_eq (pv 2) pe_str (nomark _))))) (pss_one (ps_ret (pe_call G_is_near (hr.mono (by first | decide | omega)) (by rfl) T.m_is_near T.F_is_near.kp T.b_is_near .nil pass0 (pa_cons (pe_ix ix_tup (pv 1) pe_int (fun _ _ => rfl)) pa_nil)))) pss_nil)
    (pss_one (ps_ret (pe_and (pe_cmpR op_in_seq (pe_ix ix_tup (pv 1) pe_int (fun _ _ => rfl)) (pe_tup (pa_cons pe_str (pa_cons pe_str pa_nil))) (by with_unfolding_all rfl)) (pe_and (pe_cmpR op_eq (pv 2) pe_str (nomark _)) (pe_one (pe_call G_is_short (hr.mono (by first | decide | omega)) (by rfl) T.m_is_short T.F_is_short.kp T.b_is_short .nil pass0 (pa_cons (pe_ix ix_tup (pv 1) pe_int (fun _ _ => rfl)) pa_nil))))))))))), ?_⟩
  cases hd with
  | @tup a xs ds hs ha =>
  have el := dps_len ha
  -- len(part) != 3 or not isinstance(part[1], str)
  refine seq_cut (fun σ' H' => σ' = [some (.ref p), some (.ref a), none] ∧ H' = H ∧ ∃ h0 z d2, ds = [h0, .str z, d2]) ?_ (fun tail => ?_)
  rotate_left
  · refine ⟨_, rfl, a, xs, rfl, .inr hs, rfl, _, rfl, ?_⟩
    show (if (!decide (V.int ((xs.length : Nat) : Int) = V.int ((3 : Nat) : Int))) = true then _ else _)
    rw [len_dec]
    by_cases c3 : xs.length = 3
    rotate_left
    · rw [decide_eq_false c3]
      have kH := k H (Same.refl _)
      rw [ask_len (by rw [← el]; exact c3)] at kH
      exact iteT kH
    rw [decide_eq_true c3]
    refine iteF ?_
    obtain ⟨h0, d1, d2, rfl⟩ : ∃ h0 d1 d2, ds = [h0, d1, d2] := by
      rw [c3] at el
      match ds, el with
      | [h0, d1, d2], _ => exact ⟨h0, d1, d2, rfl⟩
    obtain ⟨x1, hx1, dx1⟩ := dps_get (i := 1) ha rfl
    by_cases hs1 : ∀ s, d1 ≠ .str s
    · obtain ⟨ty, kb⟩ := not_str dx1 hs1
      have kH := k H (Same.refl _)
      rw [ask_not hs1] at kH
      exact ⟨_, rfl, a, xs, 1, x1, rfl, rfl, hs, at_of (j := 1) rfl hx1, x1, .ty "str", _, .type "str", false, rfl, .ty _, ty, kit_ty kb, _, rfl, iteT kH⟩
    obtain ⟨z, rfl⟩ : ∃ z, d1 = .str z := by
      cases d1 with
      | str z => exact ⟨z, rfl⟩
      | _ => exact absurd (fun s q => by cases q) hs1
    exact ⟨_, rfl, a, xs, 1, x1, rfl, rfl, hs, at_of (j := 1) rfl hx1, x1, .ty "str", .type "str", .type "str", true, rfl, .ty _, dp_ty dx1, kit_ty (by decide +kernel), _, rfl, iteF (tail _ _ ⟨rfl, rfl, h0, z, d2, rfl⟩)⟩
  rintro σ' H1 ⟨rfl, rfl, h0, z, d2, rfl⟩
  have fh := hok.1 h0 _ rfl
  obtain ⟨x0, hx0, dx0⟩ := dps_get (i := 0) ha rfl
  obtain ⟨x1, hx1, dx1⟩ := dps_get (i := 1) ha rfl
  obtain ⟨x2, hx2, dx2⟩ := dps_get (i := 2) ha rfl
  obtain rfl := dp_str dx1
  have a0 : atI xs 0 = some x0 := at_of (j := 0) rfl hx0
  have a2 : atI xs 2 = some x2 := at_of (j := 2) rfl hx2
  have ok2 := ok d2 (by simp)
  -- kind = columns.asked.get(part[1])
  refine seq_cut (fun σ' H' => σ' = [some (.ref p), some (.ref a), some (((c.ask z).map kindV).getD .non)] ∧ Same H1 H') ?_ (fun tail => ?_)
  rotate_left
  · obtain ⟨dx, fs, t, d, kvs, h1, _⟩ := id hc
    refine ⟨_, rfl, p, dx, fs, rfl, h1, p, c, rfl, hc, fun q kvs hq hkv => ?_⟩
    have g1 := same_new hq (.dK kvs)
    refine ⟨q, rfl, .inl ⟨kvs, .inl upd_same⟩, _, rfl, a, xs, 1, _, rfl, rfl, Same.tup g1 hs, at_of (j := 1) rfl hx1, _, DGet.k (k := Sum.inr z) upd_same, ?_⟩
    refine tail _ _ ⟨?_, g1⟩
    rw [hkv]
    rfl
  rintro σ' H2 ⟨rfl, g2⟩
  have hs2 := Same.tup g2 hs
  have dx0' := dp_same g2 _ _ dx0
  have dx2' := dp_same g2 _ _ dx2
  have kk : ∀ H', Same H1 H' → Q (.bl (if isS h0 "less" = true then decide (c.ask z = some true) && nearD d2 else if (isS h0 "is" && decide (c.ask z = some true)) = true then nearD d2 else (isS h0 "is" || isS h0 "like") && (decide (c.ask z = some false) && shortD d2))) H' := k
  -- part[0] == "less"
  refine seq_cut (fun σ' H' => σ' = [some (.ref p), some (.ref a), some (((c.ask z).map kindV).getD .non)] ∧ H' = H2 ∧ isS h0 "less" = false) ?_ (fun tail => ?_)
  rotate_left
  · refine ⟨_, rfl, a, xs, 0, x0, rfl, rfl, hs2, a0, scal_is dx0' fh _, _, rfl, ?_⟩
    rw [dec_is dx0' fh]
    refine ite2 (fun c1 => ?_) (fun c1 => ?_)
    rotate_left
    · exact tail _ _ ⟨rfl, rfl, Bool.eq_false_iff.mpr c1⟩
    have k2 := kk H2 g2
    rw [if_pos c1] at k2
    refine ⟨_, rfl, kind_scal _ _, _, rfl, ?_⟩
    rw [kind_num]
    refine ite2 (fun c3 => ?_) (fun c3 => ?_)
    · rw [c3, Bool.true_and] at k2
      exact ⟨_, rfl, a, xs, 2, x2, rfl, rfl, hs2, a2, x2, d2, rfl, dx2', k2⟩
    · rw [Bool.eq_false_iff.mpr c3, Bool.false_and] at k2
      exact k2
  rintro σ' H3 ⟨rfl, rfl, c1⟩
  rw [c1, if_neg Bool.false_ne_true] at kk
  -- part[0] == "is" and kind == "number"
  refine seq_cut (fun σ' H' => σ' = [some (.ref p), some (.ref a), some (((c.ask z).map kindV).getD .non)] ∧ H' = H3 ∧ (isS h0 "is" && decide (c.ask z = some true)) = false) ?_ (fun tail => ?_)
  rotate_left
  · refine ⟨_, rfl, a, xs, 0, x0, rfl, rfl, hs2, a0, scal_is dx0' fh _, _, rfl, ?_⟩
    rw [dec_is dx0' fh]
    refine ite2 (fun c2 => ?_) (fun c2 => ?_)
    rotate_left
    · refine iteF (tail _ _ ⟨rfl, rfl, ?_⟩)
      rw [Bool.eq_false_iff.mpr c2, Bool.false_and]
    refine ⟨_, rfl, kind_scal _ _, _, rfl, ?_⟩
    rw [kind_num]
    refine ite2 (fun c3 => ?_) (fun c3 => ?_)
    · have k2 := kk H3 g2
      rw [c2, c3, if_pos (by rfl)] at k2
      exact ⟨_, rfl, a, xs, 2, x2, rfl, rfl, hs2, a2, x2, d2, rfl, dx2', k2⟩
    · refine tail _ _ ⟨rfl, rfl, ?_⟩
      rw [Bool.eq_false_iff.mpr c3, Bool.and_false]
  rintro σ' H4 ⟨rfl, rfl, c2⟩
  rw [c2, if_neg Bool.false_ne_true] at kk
  -- part[0] in ("is", "like") and kind == "text" and is_short(part[2])
  refine ⟨_, rfl, a, xs, 0, x0, rfl, rfl, hs2, a0, (by show 2 ≤ sizeLine; decide), fun q hq => ?_⟩
  have g5 := same_new hq (.tup [.str "is", .str "like"])
  have g25 := g2.trans g5
  refine in_pair "is" "like" (dp_same g5 _ _ dx0') fh upd_same ⟨_, rfl, ?_⟩
  have k2 := kk _ g25
  refine ite2 (fun c3 => ?_) (fun c3 => ?_)
  rotate_left
  · rw [Bool.eq_false_iff.mpr c3, Bool.false_and] at k2
    exact k2
  rw [c3, Bool.true_and] at k2
  refine ⟨_, rfl, kind_scal _ _, _, rfl, ?_⟩
  rw [kind_txt]
  refine ite2 (fun c4 => ?_) (fun c4 => ?_)
  · rw [c4, Bool.true_and] at k2
    exact ⟨_, rfl, a, xs, 2, x2, rfl, rfl, Same.tup g5 hs2, a2, x2, d2, rfl, dp_same g5 _ _ dx2', ok2, k2⟩
  · rw [Bool.eq_false_iff.mpr c4, Bool.false_and] at k2
    exact k2

end
end My
set_option Elab.async false
set_option linter.all false
set_option maxRecDepth 100000
set_option maxHeartbeats 400000
namespace My
open PySem L2 PySem.Spec PyProof.Rows
section
variable {P : Program} {w : World} {K : PySem.W.Frag} {mg : Str → Option Value} {base : Heap}
def kidsOkD : List PyData → Bool
  | [.tuple ks] => decide (2 ≤ ks.length)
  | _ => false
def ksD : List PyData → List PyData
  | [.tuple ks] => ks
  | _ => []
theorem one_of {α} {r : List α} (h : r.length = 1) : ∃ d, r = [d] := by
  match r, h with
  | [d], _ => exact ⟨d, rfl⟩
theorem kidsOk_len {r : List PyData} (h : r.length ≠ 1) : kidsOkD r = false := by
  unfold kidsOkD
  split
  · exact absurd rfl h
  · rfl
theorem kidsOk_not {d : PyData} (h : ∀ s, d ≠ .tuple s) : kidsOkD [d] = false := by
  cases d with
  | tuple s => exact absurd rfl (h s)
  | _ => rfl
def formD (c : Cols) : PyData → Bool
  | .tuple (h :: r) => if (isS h "all" || isS h "none") = true then decide (r.length = 0) else if isS h "not" = true then decide (r.length = 1) else if (isS h "and" || isS h "or") = true then kidsOkD r
      else testD c (h :: r) || askD c (h :: r)
  | _ => false
def DataOk (d : PyData) : Prop := ∀ ds, d = .tuple ds → PartsOk ds ∧ HeadOk ds
def sp_formed (C : Addr) (K : PySem.W.Frag) : Sp := fun vs H Q _ => ∃ (p : Addr) (c : Cols) (v : V) (d : PyData), vs = [.ref p, v] ∧ ColsAt C H p c ∧ Dp K H v d ∧ DataOk d ∧ ∀ H', Same H H' → Q (.bl (formD c d)) H'
theorem not_tup {K : PySem.W.Frag} {H : Hp} {x : V} {d : PyData} (h : Dp K H x d) (n : ∀ s, d ≠ .tuple s) : TyX K H x (.type (typN d)) ∧ kitB (typN d) "tuple" = some false := by
  refine ⟨dp_ty h, ?_⟩
  cases d with
  | tuple s => exact absurd rfl (n s)
  | dict _ => cases h
  | none =>
    show kitB "NoneType" "tuple" = some false
    decide +kernel
  | bool _ =>
    show kitB "bool" "tuple" = some false
    decide +kernel
  | int _ =>
    show kitB "int" "tuple" = some false
    decide +kernel
  | list _ =>
    show kitB "list" "tuple" = some false
    decide +kernel
  | str _ =>
    show kitB "str" "tuple" = some false
    decide +kernel
theorem form_not {c : Cols} {d : PyData} (n : ∀ s, d ≠ .tuple s) : formD c d = false := by
  cases d with
  | tuple s => exact absurd rfl (n s)
  | _ => rfl
theorem ok_is_formed (T : Txt K mg) : FnOk P w K mg base CX0 5 T.a_is_formed T.d_is_formed ["columns", "part"] (sp_formed T.c_Columns K) := by
  have G_is_test := ok_is_test (P := P) (w := w) (base := base) T
  have G_is_ask := ok_is_ask (P := P) (w := w) (base := base) T
  refine T.F_is_formed.ok sc_is_formed (fun vs H Q E h => ?_) (fun cdv A outer s H vs Q E hr h => ?_)
  · obtain ⟨p, c, v, ds, rfl, _⟩ := h
    rfl
  obtain ⟨p, c, v, d, rfl, hc, hd, ok, k⟩ := h
  refine ⟨_, (pss_cons (ps_if (PW.pt (pw_or (pt_not (pt_val (pe_callB call_isi (by rfl) T.z_isinstance (by decide +kernel) (pa_cons (pv 1) (pa_cons (pe_bltn (v := .ty "tuple") (by rfl) T.z_tuple (by decide +kernel) rfl) pa_nil))))) (pw_or1 (pt_cmpR op_eq (pe_callB call_len_seq (by rfl) T.z_len (by decide +kernel) (pa_cons (pv 1) pa_nil)) pe_int (nomark _))))) (pss_one (ps_ret pe_bl)) pss_nil)
    (pss_cons (ps_if (pt_cmpR op_in_seq (pe_ix ix_tup (pv 1) pe_int (fun _ _ => rfl)) (pe_tup (pa_cons pe_str (pa_cons pe_str pa_nil))) (by with_unfolding_all rfl)) (pss_one (ps_ret (pe_cmpR op_eq (pe_callB call_len_seq (by rfl) T.z_len (by decide +kernel) (pa_cons (pv 1) pa_nil)) pe_int (nomark _)))) pss_nil)
    (pss_cons (ps_if (pt_cmpR op_eq (pe_ix ix_tup (pv 1) pe_int (fun _ _ => rfl)) pe_str (nomark _)) (pss_one (ps_ret (pe_cmpR op_eq (pe_callB call_len_seq (by rfl) T.z_len (by decide +kernel) (pa_cons (pv 1) pa_nil)) pe_int (nomark _)))) pss_nil)
    (pss_cons (ps_if (pt_cmpR op_in_seq (pe_ix ix_tup (pv 1) pe_int (fun _ _ => rfl)) (pe_tup (pa_cons pe_str (pa_cons pe_str pa_nil))) (by with_unfolding_all rfl)) (pss_one (ps_ret (pe_and (pe_cmpR op_eq (pe_callB call_len_seq (by rfl) T.z_len (by decide +kernel) (pa_cons (pv 1) pa_nil)) pe_int (nomark _)) (pe_and (pe_callB call_isi (by rfl) T.z_isinstance (by decide +kernel) (pa_cons (pe_ix ix_tup (pv 1) pe_int (fun _ _ => rfl)) (pa_cons (pe_bltn (v := .ty "tuple") (by rfl) T.z_tuple (by decide +kernel) rfl) pa_nil))) (pe_one (pe_cmpR op_ge (pe_callB call_len_seq (by rfl) T.z_len (by decide +kernel) (pa_cons (pe_ix ix_tup (pv 1) pe_int (fun _ _ => rfl)) pa_nil)) pe_int (nomark _))))))) pss_nil)
    (pss_one (ps_ret (pe_or (pe_call G_is_test (hr.mono (by first | decide | omega)) (by rfl) T.m_is_test T.F_is_test.kp T.b_is_test .nil pass0 (pa_cons (pv 0) (pa_cons (pv 1) pa_nil))) (pe_one (pe_call G_is_ask (hr.mono (by first | decide | omega)) (by rfl) T.m_is_ask T.F_is_ask.kp T.b_is_ask .nil pass0 (pa_cons (pv 0) (pa_cons (pv 1) pa_nil))))))))))), ?_⟩
  have k0 := k H (Same.refl _)
  -- not isinstance(part, tuple) or len(part) == 0
  refine seq_cut (fun σ' H' => H' = H ∧ ∃ a h0 r, v = .ref a ∧ d = .tuple (h0 :: r) ∧ σ' = [some (.ref p), some (.ref a)]) ?_ (fun tail => ?_)
  rotate_left
  · by_cases ht : ∀ s, d ≠ .tuple s
    · obtain ⟨ty, kb⟩ := not_tup hd ht
      rw [form_not ht] at k0
      exact ⟨_, rfl, v, .ty "tuple", _, .type "tuple", false, rfl, .ty _, ty, kit_ty kb, _, rfl, iteT k0⟩
    obtain ⟨ds, rfl⟩ : ∃ ds, d = .tuple ds := by
      cases d with
      | tuple s => exact ⟨s, rfl⟩
      | _ => exact absurd (fun s q => by cases q) ht
    cases hd with
    | @tup a xs ds hs ha =>
      have el := dps_len ha
      refine ⟨_, rfl, .ref a, .ty "tuple", .type "tuple", .type "tuple", true, rfl, .ty _, ty_tup hs, kit_ty (by decide +kernel), _, rfl, ?_⟩
      refine iteF ⟨_, rfl, a, xs, rfl, .inr hs, rfl, _, rfl, ?_⟩
      show (if decide (V.int ((xs.length : Nat) : Int) = V.int ((0 : Nat) : Int)) = true then _ else _)
      rw [len_dec]
      cases ds with
      | nil =>
        rw [decide_eq_true (show xs.length = 0 from el)]
        exact iteT k0
      | cons h0 r =>
        rw [decide_eq_false (show ¬ xs.length = 0 by rw [el, List.length_cons]; omega)]
        exact iteF (tail _ _ ⟨rfl, a, h0, r, rfl, rfl, rfl⟩)
  rintro σ' H' ⟨rfl, a, h0, r, rfl, rfl, rfl⟩
  obtain ⟨pok, hok⟩ := ok _ rfl
  have fh := hok.1 h0 r rfl
  cases hd with
  | @tup _ xs _ hs ha =>
  have el := dps_len ha
  rw [List.length_cons] at el
  obtain ⟨x0, hx0, dx0⟩ := dps_get (i := 0) ha rfl
  have a0 : atI xs 0 = some x0 := at_of (j := 0) rfl hx0
  -- part[0] in ("all", "none")
  refine seq_cut (fun σ' H1 => σ' = [some (.ref p), some (.ref a)] ∧ Same H' H1 ∧ (isS h0 "all" || isS h0 "none") = false) ?_ (fun tail => ?_)
  rotate_left
  · refine ⟨_, rfl, a, xs, 0, x0, rfl, rfl, hs, a0, (by show 2 ≤ sizeLine; decide), fun q hq => ?_⟩
    have g1 := same_new hq (.tup [.str "all", .str "none"])
    refine in_pair "all" "none" (dp_same g1 _ _ dx0) fh upd_same ⟨_, rfl, ?_⟩
    refine ite2 (fun c1 => ?_) (fun c1 => ?_)
    rotate_left
    · exact tail _ _ ⟨rfl, g1, Bool.eq_false_iff.mpr c1⟩
    have k1 : Q (.bl (if (isS h0 "all" || isS h0 "none") = true then decide (r.length = 0) else _)) _ := k _ g1
    rw [if_pos c1] at k1
    refine ⟨_, rfl, a, xs, rfl, .inr (Same.tup g1 hs), rfl, ?_⟩
    show Q (.bl (decide (V.int ((xs.length : Nat) : Int) = V.int ((1 : Nat) : Int)))) _
    rw [len_dec, el, show decide (r.length + 1 = 1) = decide (r.length = 0) by simp]
    exact k1
  rintro σ' H1 ⟨rfl, g1, c1⟩
  have hs1 := Same.tup g1 hs
  have dx01 := dp_same g1 _ _ dx0
  have kk : ∀ H2, Same H' H2 → Q (.bl (if isS h0 "not" = true then decide (r.length = 1) else if (isS h0 "and" || isS h0 "or") = true then kidsOkD r else testD c (h0 :: r) || askD c (h0 :: r))) H2 := fun H2 g => by
    have z : Q (.bl (if (isS h0 "all" || isS h0 "none") = true then decide (r.length = 0) else _)) H2 := k H2 g
    rw [c1, if_neg Bool.false_ne_true] at z
    exact z
  -- part[0] == "not"
  refine seq_cut (fun σ' H2 => σ' = [some (.ref p), some (.ref a)] ∧ H2 = H1 ∧ isS h0 "not" = false) ?_ (fun tail => ?_)
  rotate_left
  · refine ⟨_, rfl, a, xs, 0, x0, rfl, rfl, hs1, a0, scal_is dx01 fh _, _, rfl, ?_⟩
    rw [dec_is dx01 fh]
    refine ite2 (fun c2 => ?_) (fun c2 => ?_)
    rotate_left
    · exact tail _ _ ⟨rfl, rfl, Bool.eq_false_iff.mpr c2⟩
    have k1 := kk _ g1
    rw [if_pos c2] at k1
    refine ⟨_, rfl, a, xs, rfl, .inr hs1, rfl, ?_⟩
    show Q (.bl (decide (V.int ((xs.length : Nat) : Int) = V.int ((2 : Nat) : Int)))) _
    rw [len_dec, el, show decide (r.length + 1 = 2) = decide (r.length = 1) by simp]
    exact k1
  rintro σ' H2 ⟨rfl, rfl, c2⟩
  rw [c2, if_neg Bool.false_ne_true] at kk
  -- part[0] in ("and", "or")
  refine seq_cut (fun σ' H3 => σ' = [some (.ref p), some (.ref a)] ∧ Same H2 H3 ∧ (isS h0 "and" || isS h0 "or") = false) ?_ (fun tail => ?_)
  rotate_left
  · refine ⟨_, rfl, a, xs, 0, x0, rfl, rfl, hs1, a0, (by show 2 ≤ sizeLine; decide), fun q hq => ?_⟩
    have g2 := same_new hq (.tup [.str "and", .str "or"])
    have g12 := g1.trans g2
    refine in_pair "and" "or" (dp_same g2 _ _ dx01) fh upd_same ⟨_, rfl, ?_⟩
    refine ite2 (fun c3 => ?_) (fun c3 => ?_)
    rotate_left
    · exact tail _ _ ⟨rfl, g2, Bool.eq_false_iff.mpr c3⟩
    have k1 := kk _ g12
    rw [if_pos c3] at k1
    have hs2 := Same.tup g2 hs1
    refine ⟨_, rfl, a, xs, rfl, .inr hs2, rfl, _, rfl, ?_⟩
    show (if decide (V.int ((xs.length : Nat) : Int) = V.int ((2 : Nat) : Int)) = true then _ else _)
    rw [len_dec]
    by_cases c4 : xs.length = 2
    rotate_left
    · have e : kidsOkD r = false := kidsOk_len (by omega)
      rw [decide_eq_false c4]
      rw [e] at k1
      exact iteF k1
    rw [decide_eq_true c4]
    refine iteT ?_
    obtain ⟨d1, rfl⟩ := one_of (show r.length = 1 by omega)
    obtain ⟨x1, hx1, dx1⟩ := dps_get (i := 1) ha rfl
    have a1 : atI xs 1 = some x1 := at_of (j := 1) rfl hx1
    have dx1' := dp_same g12 _ _ dx1
    by_cases ht : ∀ s, d1 ≠ .tuple s
    · obtain ⟨ty, kb⟩ := not_tup dx1' ht
      have e := kidsOk_not ht
      rw [e] at k1
      exact ⟨_, rfl, a, xs, 1, x1, rfl, rfl, hs2, a1, x1, .ty "tuple", _, .type "tuple", false, rfl, .ty _, ty, kit_ty kb, _, rfl, iteF k1⟩
    obtain ⟨ks, rfl⟩ : ∃ ks, d1 = .tuple ks := by
      cases d1 with
      | tuple s => exact ⟨s, rfl⟩
      | _ => exact absurd (fun s q => by cases q) ht
    have k2 : Q (.bl (decide (2 ≤ ks.length))) _ := k1
    cases dx1' with
    | @tup b ys _ hb hbs =>
      refine ⟨_, rfl, a, xs, 1, _, rfl, rfl, hs2, a1, .ref b, .ty "tuple", .type "tuple", .type "tuple", true, rfl, .ty _, ty_tup hb, kit_ty (by decide +kernel), _, rfl, iteT ?_⟩
      refine ⟨_, rfl, a, xs, 1, _, rfl, rfl, hs2, a1, b, ys, rfl, .inr hb, _, _, rfl, rfl, ?_⟩
      show Q (.bl (decide ((2 : Int) ≤ ((ys.length : Nat) : Int)))) _
      rw [dps_len hbs, show decide ((2 : Int) ≤ ((ks.length : Nat) : Int)) = decide (2 ≤ ks.length) from decide_eq_decide.mpr (by omega)]
      exact k2
  rintro σ' H3 ⟨rfl, g2, c3⟩
  rw [c3, if_neg Bool.false_ne_true] at kk
  have g12 := g1.trans g2
  refine ⟨_, rfl, _, rfl, p, c, _, _, rfl, hc.same g12, dp_same g12 _ _ (.tup hs ha), pok, hok, List.cons_ne_nil _ _, fun H4 g3 => ⟨_, rfl, ?_⟩⟩
  have g13 := g12.trans g3
  refine ite2 (fun c4 => ?_) (fun c4 => ?_)
  · have k1 := kk _ g13
    rw [c4, Bool.true_or] at k1
    exact k1
  · refine ⟨_, rfl, _, rfl, p, c, _, _, rfl, hc.same g13, dp_same g13 _ _ (.tup hs ha), pok, hok, fun H5 g4 => ?_⟩
    have k1 := kk _ (g13.trans g4)
    rw [Bool.eq_false_iff.mpr c4, Bool.false_or] at k1
    exact k1
/-! ### the formulas within -/
def kidsD : PyData → List PyData
  | .tuple (h :: r) => if isS h "not" = true then r.take 1 else if (isS h "and" || isS h "or") = true then ksD r else []
  | _ => []
def sp_within (K : PySem.W.Frag) : Sp := fun vs H Q _ => ∃ (H0 : Hp) (v : V) (h0 : PyData) (r : List PyData), vs = [v] ∧ Same H0 H ∧ Dp K H0 v (.tuple (h0 :: r)) ∧ flatD h0 = true ∧ (isS h0 "not" = true → r.length = 1) ∧ ((isS h0 "and" || isS h0 "or") = true → ∃ ks, r = [.tuple ks]) ∧
  ∀ q ys H', Same H H' → SqT K H' q ys → DpAll K H0 ys (kidsD (.tuple (h0 :: r))) → Q (.ref q) H'
theorem ok_within (T : Txt K mg) : FnOk P w K mg base CX0 1 T.a_within T.d_within ["formula"] (sp_within K) := by
  refine T.F_within.ok sc_within (fun vs H Q E h => ?_) (fun cdv A outer s H vs Q E hr h => ?_)
  · obtain ⟨H0, v, h0, r, rfl, _⟩ := h
    rfl
  obtain ⟨H0, v, h0, r, rfl, g0, hd, fh, n1, n2, k⟩ := h
  refine ⟨_, (pss_cons (ps_if (pt_cmpR op_eq (pe_ix ix_tup (pv 0) pe_int (fun _ _ => rfl)) pe_str (nomark _)) (pss_one (ps_ret (pe_tup (pa_cons (pe_ix ix_tup (pv 0) pe_int (fun _ _ => rfl)) pa_nil)))) pss_nil)
    (pss_cons (ps_if (pt_cmpR op_in_seq (pe_ix ix_tup (pv 0) pe_int (fun _ _ => rfl)) (pe_tup (pa_cons pe_str (pa_cons pe_str pa_nil))) (by with_unfolding_all rfl)) (pss_one (ps_ret (pe_ix ix_tup (pv 0) pe_int (fun _ _ => rfl)))) pss_nil)
    (pss_one (ps_ret (pe_tup pa_nil))))), ?_⟩
  cases hd with
  | @tup a xs _ hs0 ha =>
  have hs := Same.tup g0 hs0
  obtain ⟨x0, hx0, dx00⟩ := dps_get (i := 0) ha rfl
  have dx0 := dp_same g0 _ _ dx00
  have a0 : atI xs 0 = some x0 := at_of (j := 0) rfl hx0
  have kk : ∀ q ys H', Same H H' → SqT K H' q ys → DpAll K H0 ys (if isS h0 "not" = true then r.take 1 else if (isS h0 "and" || isS h0 "or") = true then ksD r else []) → Q (.ref q) H' := k
  refine seq_cut (fun σ' H' => σ' = [some (.ref a)] ∧ H' = H ∧ isS h0 "not" = false) ?_ (fun tail => ?_)
  rotate_left
  · refine ⟨_, rfl, a, xs, 0, x0, rfl, rfl, hs, a0, scal_is dx0 fh _, _, rfl, ?_⟩
    rw [dec_is dx0 fh]
    refine ite2 (fun c1 => ?_) (fun c1 => ?_)
    rotate_left
    · exact tail _ _ ⟨rfl, rfl, Bool.eq_false_iff.mpr c1⟩
    rw [if_pos c1] at kk
    obtain ⟨d1, rfl⟩ := one_of (n1 c1)
    obtain ⟨x1, hx1, dx1⟩ := dps_get (i := 1) ha rfl
    refine ⟨_, rfl, a, xs, 1, x1, rfl, rfl, hs, at_of (j := 1) rfl hx1, (by show 1 ≤ sizeLine; decide), fun q hq => ?_⟩
    have g := same_new hq (.tup [x1])
    exact kk q _ _ g (SqT.of upd_same) (.cons dx1 .nil)
  rintro σ' H' ⟨rfl, rfl, c1⟩
  rw [c1, if_neg Bool.false_ne_true] at kk
  refine seq_cut (fun σ' H1 => σ' = [some (.ref a)] ∧ Same H' H1 ∧ (isS h0 "and" || isS h0 "or") = false) ?_ (fun tail => ?_)
  rotate_left
  · refine ⟨_, rfl, a, xs, 0, x0, rfl, rfl, hs, a0, (by show 2 ≤ sizeLine; decide), fun q hq => ?_⟩
    have g2 := same_new hq (.tup [.str "and", .str "or"])
    refine in_pair "and" "or" (dp_same g2 _ _ dx0) fh upd_same ⟨_, rfl, ?_⟩
    refine ite2 (fun c3 => ?_) (fun c3 => ?_)
    rotate_left
    · exact tail _ _ ⟨rfl, g2, Bool.eq_false_iff.mpr c3⟩
    rw [if_pos c3] at kk
    obtain ⟨ks, rfl⟩ := n2 c3
    obtain ⟨x1, hx1, dx1⟩ := dps_get (i := 1) ha rfl
    cases dx1 with
    | @tup b ys _ hb hbs =>
      exact ⟨_, rfl, a, xs, 1, _, rfl, rfl, Same.tup g2 hs, at_of (j := 1) rfl hx1, kk b ys _ g2 (Same.tup g2 (Same.tup g0 hb)) hbs⟩
  rintro σ' H1 ⟨rfl, g1, c3⟩
  rw [c3, if_neg Bool.false_ne_true] at kk
  exact ⟨(by show 0 ≤ sizeLine; decide), fun q hq => kk q _ _ (g1.trans (same_new hq _)) (SqT.of upd_same) .nil⟩

end
end My
set_option Elab.async false
set_option linter.all false
set_option maxRecDepth 100000
set_option maxHeartbeats 400000
namespace My
open PySem L2 PySem.Spec PyProof.Rows
section
variable {P : Program} {w : World} {K : PySem.W.Frag} {mg : Str → Option Value} {base : Heap}
def sp_bpinit (C : Addr) : Sp := fun vs H Q _ => ∃ (a : Addr) (v : V), vs = [.ref a, v] ∧ H a = some (exo a C none) ∧ ∀ dx : Addr, H dx = none → dx ≠ a → Q .non (upd (upd H dx (exd dx [("part", v)])) a (exo a C (some dx)))
theorem ok_BadPlan_init (T : Txt K mg) : FnOk P w K mg base CX0 1 T.a_BadPlan_init T.d_BadPlan_init ["self", "part"] (sp_bpinit T.c_BadPlan) := by

  refine T.F_BadPlan_init.ok sc_BadPlan_init (fun vs H Q E h => ?_) (fun cdv A outer s H vs Q E hr h => ?_)
  · obtain ⟨a, v, rfl, _⟩ := h
    rfl
  obtain ⟨a, v, rfl, he, k⟩ := h
  refine ⟨_, (pss_cons (ps_expr (pe_baseinit (by rfl) T.m_SieveError T.r_SieveError T.i_SieveError (pa_cons (pv 0) (pa_cons pe_str pa_nil))))
    (pss_one (ps_ost (pv 0) (pv 1)))), ?_⟩
  refine ⟨_, rfl, a, T.c_BadPlan, _, rfl, (by show 1 ≤ 1000; decide), T.x_BadPlan, he, ?_⟩
  exact ⟨_, rfl, _, rfl, a, T.c_BadPlan, rfl, T.x_BadPlan, T.xn_BadPlan, .inl ⟨he, fun dx n ne => k dx n ne⟩⟩
/-! ### the walk over a plan -/
/-- the first part that is none; the stack's top is its head -/
def runD (c : Cols) : Nat → Nat → List (PyData × Nat) → Option PyData
  | 0, _, _ => none
  | _, _, [] => none
  | f + 1, seen, (d, k) :: st => if (decide (8 < k) || (decide (30 < seen + 1) || !formD c d)) = true then some d else runD c f (seen + 1) ((kidsD d).map (fun e => (e, k + 1)) ++ st)
/-- an entry of the stack: a tuple of a part, as it was at first, and its depth -/
def Ent (K : PySem.W.Frag) (H0 H : Hp) (x : V) (e : PyData × Nat) : Prop := ∃ (t : Addr) (v : V), x = .ref t ∧ H t = some (.tup [v, .int e.2]) ∧ Dp K H0 v e.1
inductive Ents (K : PySem.W.Frag) (H0 H : Hp) : List V → List (PyData × Nat) → Prop
  | nil : Ents K H0 H [] []
  | snoc {ws : List V} {st : List (PyData × Nat)} {x : V} {e : PyData × Nat} : Ents K H0 H ws st → Ent K H0 H x e → Ents K H0 H (ws ++ [x]) (e :: st)
theorem Ents.app {K : PySem.W.Frag} {H0 H : Hp} {ws zs : List V} {st su : List (PyData × Nat)} (a : Ents K H0 H ws st) (b : Ents K H0 H zs su) : Ents K H0 H (ws ++ zs) (su ++ st) := by
  induction b with
  | nil => simpa using a
  | snoc h e ih => simpa using Ents.snoc ih e
theorem Ents.map {K : PySem.W.Frag} {H0 H H' : Hp} {ws : List V} {st : List (PyData × Nat)} (a : Ents K H0 H ws st) (h : ∀ (t : Addr) (xs : List V), H t = some (.tup xs) → H' t = some (.tup xs)) : Ents K H0 H' ws st := by
  induction a with
  | nil => exact .nil
  | snoc _ e ih =>
    obtain ⟨t, v, e1, e2, e3⟩ := e
    exact .snoc ih ⟨t, v, e1, h _ _ e2, e3⟩
theorem Ents.len {K : PySem.W.Frag} {H0 H : Hp} {ws : List V} {st : List (PyData × Nat)} (a : Ents K H0 H ws st) : ws.length = st.length := by
  induction a with
  | nil => rfl
  | snoc _ _ ih => rw [List.length_append, ih]; rfl
/-- what the walk asks of all parts that it comes to -/
def Closed (c : Cols) (G : PyData → Prop) : Prop := ∀ d, G d → DataOk d ∧ (formD c d = true → (kidsD d).length ≤ 1000 ∧ ∀ e, e ∈ kidsD d → G e)
def sp_check (C CB : Addr) (K : PySem.W.Frag) : Sp := fun vs H Q E => ∃ (p : Addr) (c : Cols) (v : V) (d : PyData) (G : PyData → Prop), vs = [.ref p, v] ∧ ColsAt C H p c ∧ Dp K H v d ∧ Closed c G ∧ G d ∧
  (runD c 32 0 [(d, 1)] = none → ∀ H', Same H H' → Q v H') ∧
  (∀ e, runD c 32 0 [(d, 1)] = some e → ∀ (u : V) (dx : Addr) (H' : Hp), Same H H' → Dp K H u e → H' dx = some (.xd [("part", u)]) → E (.ref CB) (some dx) H')
/-- what a formula's head tells of its parts -/
theorem form_head {c : Cols} {d : PyData} (h : formD c d = true) : ∃ h0 r, d = .tuple (h0 :: r) ∧ (isS h0 "not" = true → r.length = 1) ∧ ((isS h0 "and" || isS h0 "or") = true → ∃ ks, r = [.tuple ks]) := by
  unfold formD at h
  split at h
  · rename_i h0 r
    refine ⟨h0, r, rfl, fun c1 => ?_, fun c2 => ?_⟩
    · have a0 : (isS h0 "all" || isS h0 "none") = false := by
        cases h0 with
        | str x =>
          have e : x = Str.ofString "not" := by simpa [isS] using c1
          subst e
          decide +kernel
        | _ => cases c1
      rw [a0, if_neg Bool.false_ne_true, if_pos c1] at h
      exact of_decide_eq_true h
    · have a0 : (isS h0 "all" || isS h0 "none") = false ∧ isS h0 "not" = false := by
        cases h0 with
        | str x =>
          have e : x = Str.ofString "and" ∨ x = Str.ofString "or" := by simpa [isS] using c2
          rcases e with e | e
          · subst e
            exact ⟨by decide +kernel, by decide +kernel⟩
          · subst e
            exact ⟨by decide +kernel, by decide +kernel⟩
        | _ => cases c2
      rw [a0.1, a0.2, if_neg Bool.false_ne_true, if_neg Bool.false_ne_true, if_pos c2] at h
      unfold kidsOkD at h
      split at h
      · exact ⟨_, rfl⟩
      · cases h
  · cases h
theorem dps_rev {K : PySem.W.Frag} {H : Hp} {vs : List V} {ds : List PyData} (h : DpAll K H vs ds) {i : Nat} {x : V} (hx : vs.reverse[i]? = some x) : ∃ d, ds.reverse[i]? = some d ∧ Dp K H x d := by
  have el := dps_len h
  have hi : i < vs.reverse.length := by
    rcases Nat.lt_or_ge i vs.reverse.length with h | h
    · exact h
    · rw [List.getElem?_eq_none h] at hx
      cases hx
  rw [List.length_reverse] at hi
  rw [List.getElem?_reverse hi] at hx
  have hi2 : i < ds.length := by omega
  obtain ⟨d, hd⟩ : ∃ d, ds[ds.length - 1 - i]? = some d := ⟨_, List.getElem?_eq_getElem (by omega)⟩
  obtain ⟨y, hy, dy⟩ := dps_get h hd
  rw [← el, hx] at hy
  cases hy
  exact ⟨d, by rw [List.getElem?_reverse hi2]; exact hd, dy⟩
theorem take_more' {α : Type} {l : List α} {i : Nat} {x : α} (h : l[i]? = some x) : l.take (i + 1) = l.take i ++ [x] := by
  rw [List.take_add_one, h]
  rfl
theorem if_cut {c : TT} {t u : TS} {D : Ends} {σ : L2.St} {H : Hp} (R : Bool → Hp → Prop) (h2 : ∀ b H', R b H' → if b = true then t D σ H' else u D σ H') (h1 : ∀ Q : Bool → Hp → Prop, (∀ b H', R b H' → Q b H') → c σ H Q) : tIfS c t u D σ H := h1 _ h2
theorem ifs_cut {c : TT} {t u v : TS} {D : Ends} {σ : L2.St} {H : Hp} (R : Bool → Hp → Prop) (h2 : ∀ b H', R b H' → if b = true then t { D with nx := v D } σ H' else u { D with nx := v D } σ H') (h1 : ∀ Q : Bool → Hp → Prop, (∀ b H', R b H' → Q b H') → c σ H Q) : tSeq (tIfS c t u) v D σ H := h1 _ h2
/-- between the turns -/
def WCh (p : Addr) (v : V) (c : Cols) (G : PyData → Prop) (d : PyData) (K : PySem.W.Frag) (H0 : Hp) (n : Nat) (σ : L2.St) (H : Hp) : Prop := ∃ (seen : Nat) (q : Addr) (ws : List V) (st : List (PyData × Nat)) (x4 x5 : Option V),
  n + seen = 31 ∧ σ = [some (.ref p), some v, some (.int seen), some (.ref q), x4, x5, none] ∧ Same H0 H ∧ H0 q = none ∧ H q = some (.lst ws) ∧ Ents K H0 H ws st ∧ ws.length ≤ seen * 1000 + 1 ∧ (∀ e, e ∈ st → G e.1) ∧ runD c (n + 1) seen st = runD c 32 0 [(d, 1)]
theorem last_of {α : Type} {l : List α} {x : α} : (l ++ [x])[(l ++ [x]).length - 1]? = some x := by simp
theorem same_upd {H0 H : Hp} {q : Addr} {o : HO} (g : Same H0 H) (n : H0 q = none) : Same H0 (upd H q o) := fun b u e => by rw [upd_ne (ne_of_none e n)]; exact g b u e
theorem ok_checked_plan (T : Txt K mg) : FnOk P w K mg base (L2.CX P w) 6 T.a_checked_plan T.d_checked_plan ["columns", "plan"] (sp_check T.c_Columns T.c_BadPlan K) := by
  have G_BadPlan_init := ok_BadPlan_init (P := P) (w := w) (base := base) T
  have G_is_formed := ok_is_formed (P := P) (w := w) (base := base) T
  have G_within := ok_within (P := P) (w := w) (base := base) T
  refine T.F_checked_plan.okX sc_checked_plan (fun vs H Q E h => ?_) (fun cdv A outer s H0 vs Q E hr h => ?_)
  · obtain ⟨p, c, v, d, G, rfl, _⟩ := h
    rfl
  obtain ⟨p, c, v, d, G, rfl, hc, hd, cG, gd, kQ, kE⟩ := h
  refine ⟨_, (pss_cons (ps_set (i := 2) sc_checked_plan.nd rfl (by first | exact Or.inl rfl | exact Or.inr rfl) pe_int)
    (pss_cons (ps_set (i := 3) sc_checked_plan.nd rfl (by first | exact Or.inl rfl | exact Or.inr rfl) (pe_lst (pa_cons (pe_tup (pa_cons (pv 1) (pa_cons pe_int pa_nil))) pa_nil)))
    (pss_cons (ps_while (passes_of rfl) (pt_truth (pv 3) (by intro _; rfl)) (pss_cons (ps_asg (pe_bm0 PySem.F.plainAttrs_list PySem.F.slot_list_pop PySem.F.type_list_pop mt_pop (pv 3)) (pg_tup rfl (pgs_cons (pg_name (i := 4) sc_checked_plan.nd rfl (by first | exact Or.inl rfl | exact Or.inr rfl)) (pgs_cons (pg_name (i := 5) sc_checked_plan.nd rfl (by first | exact Or.inl rfl | exact Or.inr rfl)) pgs_nil))))
    (pss_cons (ps_aug (i := 2) sc_checked_plan.nd rfl (by first | exact Or.inl rfl | exact Or.inr rfl) pe_int ip_add)
    (pss_cons (ps_if (PW.pt (pw_or (pt_cmpR op_gt (pv 5) (pe_glob (v := .int 8) (by rfl) T.m_DEEPEST ⟨_, rfl⟩) (nomark _)) (pw_or (pt_cmpR op_gt (pv 2) (pe_glob (v := .int 30) (by rfl) T.m_MOST_FORMULAS ⟨_, rfl⟩) (nomark _)) (pw_or1 (pt_not (pt_val (pe_call G_is_formed (hr.mono (by first | decide | omega)) (by rfl) T.m_is_formed T.F_is_formed.kp T.b_is_formed .nil pass0 (pa_cons (pv 0) (pa_cons (pv 4) pa_nil))))))))) (pss_one (ps_raise rfl (takes_of rfl rfl rfl rfl) (pmk_oex T.x_BadPlan T.xi_BadPlan T.xt_BadPlan G_BadPlan_init (hr.mono (by first | decide | omega)) T.b_BadPlan_init .nil pass0 (by rfl) T.m_BadPlan (pa_cons (pv 4) pa_nil)))) pss_nil)
    (pss_one (ps_expr (pe_bm PySem.F.plainAttrs_list PySem.F.slot_list_extend PySem.F.type_list_extend mt_extend (pv 3) (pa_cons (pe_lc (own := [("inner", 6)]) rfl sc_checked_plan.nd (pi_tup (pe_revT (pe_call G_within (hr.mono (by first | decide | omega)) (by rfl) T.m_within T.F_within.kp T.b_within .nil pass0 (pa_cons (pv 4) pa_nil)))) (blkOk_by (own := [("inner", 6)]) (N := ["columns", "plan", "seen", "waiting", "part", "depth", "inner"]) (sc := defScope s_checked_plan) (by decide +kernel)) (fun _ _ _ _ _ => (pg_name (i := 6) sc_checked_plan.nd rfl (by first | exact Or.inl rfl | exact Or.inr rfl))) (fun _ _ _ _ _ => pts_nil) (fun _ _ _ _ _ => (pe_tup (pa_cons (pv 6) (pa_cons (pe_op op_add (pv 5) pe_int) pa_nil))))) pa_nil))))))))
    (pss_one (ps_ret (pv 1)))))), ?_⟩
  refine ⟨_, rfl, (by show 2 ≤ sizeLine; decide), fun t0 ht0 => ⟨(by show 1 ≤ sizeLine; decide), fun q hq => ?_⟩⟩
  have nq : q ≠ t0 := fun z => by
    rw [z, upd_same] at hq
    cases hq
  rw [upd_ne nq] at hq
  refine ⟨WCh p v c G d K H0, ⟨31, 0, q, _, [(d, 1)], none, none, rfl, rfl, same_upd (same_new ht0 _) hq, hq, upd_same, .snoc .nil ⟨t0, v, rfl, ?_, hd⟩, (by show 1 ≤ 0 * 1000 + 1; omega), ?_, rfl⟩, ?_⟩
  · rw [upd_ne (Ne.symm nq)]
    exact upd_same
  · intro e he
    obtain rfl := List.mem_singleton.mp he
    exact gd
  rintro n σ H ⟨seen, q, ws, st, x4, x5, en, rfl, g, nq, hq, hE, hz, hG, eR⟩
  refine ⟨_, rfl, _, .inl ⟨ws, SqL.of hq, rfl⟩, ?_⟩
  cases hE with
  | nil => exact iteF ⟨_, rfl, kQ (by rw [← eR]; rfl) _ g⟩
  | @snoc ws st x e hE he =>
  obtain ⟨e, k⟩ := e
  obtain ⟨t, u, rfl, ht, du⟩ := he
  have nt : t ≠ q := ne_of ht hq (by intro z; cases z)
  have emp : (!(ws ++ [V.ref t]).isEmpty) = true := by simp
  rw [emp]
  refine iteT ⟨fun σ' H' => ∃ m', m' < n ∧ WCh p v c G d K H0 m' σ' H', fun _ _ h => h, ?_⟩
  have g1 := same_upd (o := .lst ws) g nq
  refine ⟨_, rfl, .inl ⟨rfl, _, SqL.of hq⟩, q, _, _, rfl, rfl, hq, last_of, t, _, rfl, SqT.of (by rw [upd_ne nt]; exact ht), rfl, u, _, rfl, .int k, [], rfl, rfl, ?_⟩
  rw [List.dropLast_concat]
  have hE1 : Ents K H0 (upd H q (.lst ws)) ws st := hE.map fun b xs hb => by rw [upd_ne (ne_of hb hq (by intro z; cases z))]; exact hb
  generalize eH1 : upd H q (.lst ws) = H1 at *
  have hq1 : H1 q = some (.lst ws) := by rw [← eH1]; exact upd_same
  have ge : G e := hG (e, k) (List.mem_cons_self ..)
  obtain ⟨ok, kids⟩ := cG e ge
  refine ⟨_, rfl, _, _, rfl, rfl, ?_⟩
  -- if depth > DEEPEST or seen > MOST_FORMULAS or not is_formed(columns, part): raise BadPlan(part)
  dsimp only
  refine ifs_cut (fun b H2 => b = (decide (8 < k) || (decide (30 < seen + 1) || !formD c e)) ∧ Same H1 H2) (fun b H2 hb => ?_) (fun Q' fin => ?_)
  rotate_left
  · refine ⟨_, rfl, _, _, rfl, rfl, _, rfl, ?_⟩
    refine ite2 (fun c1 => fin _ _ ⟨?_, Same.refl _⟩) (fun c1 => ?_)
    · rw [decide_eq_true (show 8 < k by have := of_decide_eq_true c1; omega)]
      rfl
    rw [decide_eq_false (show ¬ 8 < k from fun z => c1 (decide_eq_true (by omega)))] at fin
    refine ⟨_, rfl, _, _, rfl, rfl, _, rfl, ?_⟩
    refine ite2 (fun c2 => fin _ _ ⟨?_, Same.refl _⟩) (fun c2 => ?_)
    · rw [decide_eq_true (show 30 < seen + 1 by have := of_decide_eq_true c2; omega)]
      rfl
    rw [decide_eq_false (show ¬ 30 < seen + 1 from fun z => c2 (decide_eq_true (by omega)))] at fin
    refine ⟨_, rfl, _, rfl, p, c, u, e, rfl, hc.same g1, dp_same g1 _ _ du, ok, fun H2 g2 => ⟨_, rfl, fin _ _ ⟨rfl, g2⟩⟩⟩
  obtain ⟨hb, g2⟩ := hb
  have g02 := g1.trans g2
  have hq2 := g2 _ _ hq1
  have eR' : (if (decide (8 < k) || (decide (30 < seen + 1) || !formD c e)) = true then some e else runD c n (seen + 1) ((kidsD e).map (fun z => (z, k + 1)) ++ st)) = runD c 32 0 [(d, 1)] := eR
  rw [← hb] at eR'
  cases b with
  | true =>
    rw [if_pos rfl] at eR'
    refine iteT ⟨_, rfl, (by show 1 ≤ 1000; decide), fun a ha => ⟨a, u, rfl, upd_same, fun dx hdx ne => ⟨rfl, dx, [("part", u)], upd_same, ?_, ?_, ?_⟩⟩⟩
    · rw [upd_ne ne]
      exact upd_same
    · rw [upd_ne ne] at hdx
      exact hdx
    · rw [upd_ne ne] at hdx
      refine kE e eR'.symm u dx _ (fun b o hb => ?_) du upd_same
      have hb2 := g02 b o hb
      have n1 : b ≠ dx := ne_of_none hb2 hdx
      have n2 : b ≠ a := ne_of_none hb2 ha
      rw [upd_ne n1, del_ne n2, upd_ne n2, upd_ne n1, upd_ne n2]
      exact hb2
  | false =>
  rw [if_neg Bool.false_ne_true] at eR'
  refine iteF ?_
  have hf : formD c e = true := by
    cases h : formD c e with
    | true => rfl
    | false =>
      rw [h] at hb
      simp at hb
  have hk : 30 < seen + 1 → False := fun z => by
    rw [decide_eq_true z] at hb
    simp at hb
  obtain ⟨h0, r, rfl, n1, n2⟩ := form_head hf
  have fl := ((ok _ rfl).2).1 h0 r rfl
  have hkids := kids hf
  refine ⟨_, rfl, .inl ⟨rfl, _, SqL.of hq2⟩, _, rfl, H0, u, h0, r, rfl, g02, du, fl, n1, n2, fun qk ys H3 g3 hqk hys => ⟨qk, ys, rfl, hqk, fun pr hpr => ⟨pr, rfl, ⟨_, SqT.of upd_same⟩, fun D hD => ?_⟩⟩⟩
  generalize hkd : kidsD (.tuple (h0 :: r)) = ks at *
  have g3b : Same H3 (upd H3 pr (.tup ys.reverse)) := same_new hpr _
  have hpb : SqT K (upd H3 pr (.tup ys.reverse)) pr ys.reverse := SqT.of upd_same
  have gb := (g02.trans g3).trans g3b
  have hqb := g3b _ _ (g3 _ _ hq2)
  have hEb := hE1.map fun b xs hb => g3b _ _ (g3 _ _ (g2 _ _ hb))
  generalize upd H3 pr (.tup ys.reverse) = Hb at *
  have ely := dps_len hys
  have ezl : (ks.length : Nat) ≤ 1000 := hkids.1
  refine lc_tup (K := K) (a := pr) (xs := ys.reverse) (fun i H' => Same Hb H' ∧ ∃ acc, H' D = some (.lst acc) ∧ acc.length = i ∧ Ents K H0 H' acc ((ks.reverse.take i).reverse.map fun z => (z, k + 1))) ⟨same_new hD _, [], upd_same, rfl, .nil⟩ (fun i H' _ z => Same.tup z.1 hpb) ?_ ?_
  · rintro i x H' hx ⟨g4, acc, hacc, hl, hEa⟩
    obtain ⟨y, hy, dy⟩ := dps_rev hys hx
    have hi := (List.getElem?_eq_some_iff.mp hx).1
    rw [List.length_reverse] at hi
    refine ⟨rfl, _, rfl, _, rfl, _, _, rfl, rfl, (by show 2 ≤ sizeLine; decide), fun t1 ht1 => ⟨acc, ?_, ?_, ?_, acc ++ [.ref t1], upd_same, ?_, ?_⟩⟩
    · rw [upd_ne (ne_of_none hacc ht1)]
      exact hacc
    · rw [hl]
      refine Nat.lt_of_lt_of_le (show i < 1001 by omega) (by decide)
    · have g5 := g4.trans (same_new ht1 (.tup [x, .int (k + 1)]))
      exact same_upd g5 hD
    · rw [List.length_append, hl]
      rfl
    · rw [take_more' hy, List.reverse_append]
      have nD : t1 ≠ D := fun z => by
        rw [z, hacc] at ht1
        cases ht1
      refine .snoc (hEa.map fun b xs hb => ?_) ⟨t1, x, rfl, ?_, dy⟩
      · rw [upd_ne (ne_of hb hacc (by intro z; cases z)), upd_ne (ne_of_none hb ht1)]
        exact hb
      · rw [upd_ne nD]
        exact upd_same
  · rintro H' ⟨g4, acc, hacc, hl, hEa⟩
    rw [List.length_reverse] at hl
    rw [List.take_of_length_le (by rw [List.length_reverse, List.length_reverse]; omega), List.reverse_reverse] at hEa
    have hq4 := g4 _ _ hqb
    rw [List.length_append] at hz
    have hz1 : ws.length + 1 ≤ seen * 1000 + 1 := hz
    have hs30 : ¬ 30 < seen + 1 := hk
    refine ⟨q, D, ws, acc, rfl, rfl, hq4, hacc, Nat.le_trans (show ws.length + acc.length ≤ 40000 by omega) (by decide), n - 1, by omega, seen + 1, q, ws ++ acc, (ks.map fun z => (z, k + 1)) ++ st, some u, some (.int k), by omega, rfl, ?_, nq, upd_same, ?_, ?_, ?_, ?_⟩
    · exact same_upd (gb.trans g4) nq
    · have back : ∀ (b : Addr) (xs : List V), H' b = some (.tup xs) → upd H' q (.lst (ws ++ acc)) b = some (.tup xs) := fun b xs hb => by
        rw [upd_ne (ne_of hb hq4 (by intro z; cases z))]
        exact hb
      exact ((hEb.map fun b xs hb => g4 _ _ hb).map back).app (hEa.map back)
    · rw [List.length_append]
      omega
    · intro e he
      rcases List.mem_append.mp he with he | he
      · obtain ⟨z, hz, rfl⟩ := List.mem_map.mp he
        exact hkids.2 z hz
      · exact hG e (List.mem_cons_of_mem _ he)
    · rw [show n - 1 + 1 = n by omega]
      exact eR'

end
end My
set_option Elab.async false
set_option linter.all false
set_option maxRecDepth 100000
set_option maxHeartbeats 400000
namespace My
open PySem L2 PySem.Spec PyProof.Rows
section
variable {P : Program} {w : World} {K : PySem.W.Frag} {mg : Str → Option Value} {base : Heap}
theorem kit_lt {K : PySem.W.Frag} : PySem.W.kitAny K (.type "list") [.type "list", .type "tuple"] = some true := by
  have e : PySem.W.kitOne K (.type "list") (.type "list") = some true := kit_ty (by decide +kernel)
  unfold PySem.W.kitAny
  rw [e]
def sp_isrow (K : PySem.W.Frag) : Sp := fun vs H Q _ => ∃ (a : Addr) (xs : List V), vs = [.ref a] ∧ SqL K H a xs ∧ ∀ H', Same H H' → Q (.bl true) H'
theorem ok_is_row (T : Txt K mg) : FnOk P w K mg base CX0 1 T.a_is_row T.d_is_row ["value"] (sp_isrow K) := by
  refine T.F_is_row.ok sc_is_row (fun vs H Q E h => ?_) (fun cdv A outer s H vs Q E hr h => ?_)
  · obtain ⟨a, xs, rfl, _⟩ := h
    rfl
  obtain ⟨a, xs, rfl, hs, k⟩ := h
  refine ⟨_, (pss_one (ps_ret (pe_callB call_isiT (by rfl) T.z_isinstance (by decide +kernel) (pa_cons (pv 0) (pa_cons (pe_tup (pa_cons (pe_bltn (v := .ty "list") (by rfl) T.z_list (by decide +kernel) rfl) (pa_cons (pe_bltn (v := .ty "tuple") (by rfl) T.z_tuple (by decide +kernel) rfl) pa_nil))) pa_nil))))), ?_⟩
  refine ⟨_, rfl, (by show 2 ≤ sizeLine; decide), fun q hq => ?_⟩
  have g := same_new hq (.tup [.ty "list", .ty "tuple"])
  exact ⟨_, q, _, _, [.type "list", .type "tuple"], true, rfl, upd_same, .cons (.ty _) (.cons (.ty _) .nil), ty_lst (g.seq hs), kit_lt, k _ g⟩
theorem nameB_ok {n : Str} (h : nameB n = true) : StrOk (.str n) := by
  intro s e
  cases e
  unfold nameB at h
  rw [Bool.and_eq_true, Bool.and_eq_true, Bool.and_eq_true] at h
  have := of_decide_eq_true h.1.1.2
  omega
def sp_names (K : PySem.W.Frag) : Sp := fun vs H Q _ => ∃ (a : Addr) (m : Int) (ns : List Str), vs = [.ref a, .int m] ∧ SqL K H a (ns.map V.str) ∧ (∀ n, n ∈ ns → nameB n = true) ∧ ns.Nodup ∧ (ns.length : Int) ≤ m ∧ m ≤ 10 ∧ ∀ H', Same H H' → Q (.bl true) H'
theorem ok_are_names (T : Txt K mg) : FnOk P w K mg base CX0 2 T.a_are_names T.d_are_names ["row", "most"] (sp_names K) := by
  have G_is_row := ok_is_row (P := P) (w := w) (base := base) T
  have G_is_name := ok_is_name (P := P) (w := w) (base := base) T
  refine T.F_are_names.ok sc_are_names (fun vs H Q E h => ?_) (fun cdv A outer s H vs Q E hr h => ?_)
  · obtain ⟨a, m, ns, rfl, _⟩ := h
    rfl
  obtain ⟨a, m, ns, rfl, hs, hn, nd, le, lm, k⟩ := h
  refine ⟨_, (pss_cons (ps_if (PW.pt (pw_or (pt_not (pt_val (pe_call G_is_row (hr.mono (by first | decide | omega)) (by rfl) T.m_is_row T.F_is_row.kp T.b_is_row .nil pass0 (pa_cons (pv 0) pa_nil)))) (pw_or (pt_cmpR op_gt (pe_callB call_len_seq (by rfl) T.z_len (by decide +kernel) (pa_cons (pv 0) pa_nil)) (pv 1) (nomark _)) (pw_or1 (pt_not (pt_val (pe_callB (cr_all rfl) (by rfl) T.z_all (by decide +kernel) (pa_cons (pe_lc (own := [("name", 2)]) rfl sc_are_names.nd (pi_list (pv 0)) (blkOk_by (own := [("name", 2)]) (N := ["row", "most", "name"]) (sc := defScope s_are_names) (by decide +kernel)) (fun _ _ _ _ _ => (pg_name (i := 2) sc_are_names.nd rfl (by first | exact Or.inl rfl | exact Or.inr rfl))) (fun _ _ _ _ _ => pts_nil) (fun _ _ _ _ _ => (pe_call G_is_name (hr.mono (by first | decide | omega)) (by rfl) T.m_is_name T.F_is_name.kp T.b_is_name .nil pass0 (pa_cons (pv 2) pa_nil)))) pa_nil)))))))) (pss_one (ps_ret pe_bl)) pss_nil)
    (pss_one (ps_ret (pe_cmpR op_eq (pe_lenT rfl (by rfl) T.z_len (by rfl) T.z_set (pv 0)) (pe_callB call_len_seq (by rfl) T.z_len (by decide +kernel) (pa_cons (pv 0) pa_nil)) (nomark _))))), ?_⟩
  refine ⟨_, rfl, a, _, rfl, hs, fun H1 g1 => ⟨_, rfl, ?_⟩⟩
  refine iteF ⟨_, rfl, a, _, rfl, .inl (g1.seq hs), _, rfl, _, _, rfl, rfl, _, rfl, ?_⟩
  rw [List.length_map, decide_eq_false (show ¬ m < ((ns.length : Nat) : Int) by omega)]
  refine iteF ⟨_, rfl, a, rfl, ⟨_, g1.seq hs⟩, fun D hD => ?_⟩
  have all_ : ∀ l : Nat, (List.replicate l true).all id = true := fun l => by
    rw [List.all_eq_true]
    intro b hb
    rw [(List.mem_replicate.mp hb).2]
    rfl
  refine lc_list (K := K) (a := a) (xs := ns.map V.str) (fun i H' => Same H1 H' ∧ H' D = some (.lst (List.replicate i (.bl true)))) ⟨same_new hD _, upd_same⟩ (fun i H' _ z => z.1.seq (g1.seq hs)) ?_ ?_
  · rintro i x H' hx ⟨g, e⟩
    rw [List.getElem?_map] at hx
    obtain ⟨n, hi, rfl⟩ := Option.map_eq_some_iff.mp hx
    have hl : i < ns.length := (List.getElem?_eq_some_iff.mp hi).1
    have en : nameD (.str n) = true := hn n (List.mem_of_getElem? hi)
    refine ⟨rfl, _, rfl, _, .str n, rfl, .str n, nameB_ok en, fun H2 g2 => ⟨_, g2 _ _ e, ?_, same_upd (g.trans g2) hD, ?_⟩⟩
    · rw [List.length_replicate]
      exact small1000 (by omega)
    · rw [upd_same, en, ← List.replicate_succ']
  · rintro H' ⟨g, e⟩
    rw [List.length_map] at e
    refine ⟨D, List.replicate ns.length true, rfl, SqL.of (by rw [e, List.map_replicate]), _, rfl, ?_⟩
    rw [all_]
    refine iteF ⟨_, rfl, a, ns, rfl, (g1.trans g).seq hs, nd, by omega, _, rfl, a, _, rfl, .inl ((g1.trans g).seq hs), rfl, ?_⟩
    show Q (.bl (decide (V.int ((ns.length : Nat) : Int) = V.int (((ns.map V.str).length : Nat) : Int)))) H'
    rw [len_dec, List.length_map, decide_eq_true rfl]
    exact k _ (g1.trans g)
/-! ### the dict of what is asked -/
def kvsOf (as : List (Str × Bool)) : List (Key × V) := as.map fun p => (Sum.inr p.1, kindV p.2)
theorem kvsOf_val : ∀ {as : List (Str × Bool)} {n : Str} {b : Bool}, (as.map Prod.fst).Nodup → (n, b) ∈ as → valV (kvsOf as) (Sum.inr n) = some (kindV b)
  | [], _, _, _, h => by cases h
  | (m, c) :: as, n, b, nd, h => by
    rw [List.map_cons, List.nodup_cons] at nd
    rcases List.mem_cons.mp h with h | h
    · cases h
      exact valV_pos rfl
    · have ne : ¬ m = n := fun e => nd.1 (by rw [e]; exact List.mem_map.mpr ⟨_, h, rfl⟩)
      have e : valV (kvsOf ((m, c) :: as)) (Sum.inr n) = valV (kvsOf as) (Sum.inr n) := valV_neg (fun z => ne (Sum.inr.inj z))
      rw [e]
      exact kvsOf_val nd.2 h
theorem kvsOf_none : ∀ {as : List (Str × Bool)} {n : Str}, n ∉ as.map Prod.fst → valV (kvsOf as) (Sum.inr n) = none
  | [], _, _ => rfl
  | (m, c) :: as, n, h => by
    rw [List.map_cons, List.mem_cons, not_or] at h
    have e : valV (kvsOf ((m, c) :: as)) (Sum.inr n) = valV (kvsOf as) (Sum.inr n) := valV_neg (fun z => h.1 (Sum.inr.inj z).symm)
    rw [e]
    exact kvsOf_none h.2
def sp_arasked (K : PySem.W.Frag) : Sp := fun vs H Q _ => ∃ (a : Addr) (as : List (Str × Bool)), vs = [.ref a] ∧ H a = some (.dK (kvsOf as)) ∧ (∀ p, p ∈ as → nameB p.1 = true) ∧ (as.map Prod.fst).Nodup ∧ as.length ≤ 4 ∧ ∀ H', Same H H' → Q (.bl true) H'
theorem ok_are_asked (T : Txt K mg) : FnOk P w K mg base CX0 2 T.a_are_asked T.d_are_asked ["asked"] (sp_arasked K) := by
  have G_is_name := ok_is_name (P := P) (w := w) (base := base) T
  refine T.F_are_asked.ok sc_are_asked (fun vs H Q E h => ?_) (fun cdv A outer s H vs Q E hr h => ?_)
  · obtain ⟨a, as, rfl, _⟩ := h
    rfl
  obtain ⟨a, as, rfl, hs, hn, nd, le, k⟩ := h
  refine ⟨_, (pss_cons (ps_if (PW.pt (pw_or (pt_not (pt_val (pe_callB call_isi (by rfl) T.z_isinstance (by decide +kernel) (pa_cons (pv 0) (pa_cons (pe_bltn (v := .ty "dict") (by rfl) T.z_dict (by decide +kernel) rfl) pa_nil))))) (pw_or1 (pt_cmpR op_gt (pe_callB call_lenD (by rfl) T.z_len (by decide +kernel) (pa_cons (pv 0) pa_nil)) (pe_glob (v := .int 4) (by rfl) T.m_MOST_ASKED ⟨_, rfl⟩) (nomark _))))) (pss_one (ps_ret pe_bl)) pss_nil)
    (pss_one (ps_ret (pe_callB (cr_all rfl) (by rfl) T.z_all (by decide +kernel) (pa_cons (pe_lock (pe_lc (own := [("name", 1)]) rfl sc_are_asked.nd (pi_keys (pv 0)) (blkOk_by (own := [("name", 1)]) (N := ["asked", "name"]) (sc := defScope s_are_asked) (by decide +kernel)) (fun _ _ _ _ _ => (pg_name (i := 1) sc_are_asked.nd rfl (by first | exact Or.inl rfl | exact Or.inr rfl))) (fun _ _ _ _ _ => pts_nil) (fun _ _ _ _ _ => (pe_and (pe_call G_is_name (hr.mono (by first | decide | omega)) (by rfl) T.m_is_name T.F_is_name.kp T.b_is_name .nil pass0 (pa_cons (pv 1) pa_nil)) (pe_one (pe_cmpR (show OpR _ _ (rIn K false) from op_in_seq) (pe_dget (hu_of hr) (pv 0) (pv 1) (fun _ _ => rfl)) (pe_tup (pa_cons pe_str (pa_cons pe_str pa_nil))) (by with_unfolding_all rfl))))))) pa_nil))))), ?_⟩
  have hl : (kvsOf as).length = as.length := List.length_map ..
  have e4 : decide ((4 : Int) < ((kvsOf as).length : Int)) = false := decide_eq_false (by rw [hl]; omega)
  refine ⟨_, rfl, .ref a, .ty "dict", .type "dict", .type "dict", true, rfl, .ty _, .base (.dK hs), kit_ty (by decide +kernel), _, rfl, iteF ⟨_, rfl, a, _, rfl, hs, _, _, rfl, rfl, _, rfl, ?_⟩⟩
  rw [e4]
  have hn0 : ∀ H' : Hp, (∀ b o, b ≠ a → H b = some o → H' b = some o) → H' a = some (.dK (kvsOf as)) → Same H H' := fun H' g1 g2 b o hb => by
    by_cases e : b = a
    · rw [e] at hb ⊢
      rw [hs] at hb
      rw [← hb]
      exact g2
    · exact g1 b o e hb
  have all_ : ∀ l : Nat, (List.replicate l true).all id = true := fun l => by
    rw [List.all_eq_true]
    intro b hb
    rw [(List.mem_replicate.mp hb).2]
    rfl
  refine iteF ⟨a, _, hs, trivial, fun od => ⟨_, rfl, a, od, rfl, .inl ⟨_, upd_same, fun D hD => ?_⟩⟩⟩
  have nD : D ≠ a := fun z => by
    rw [z, upd_same] at hD
    cases hD
  rw [upd_ne nD] at hD
  refine lc_it walk_keys (fun i H' => H' a = some (.frz od (.dK (kvsOf as))) ∧ (∀ b o, b ≠ a → H b = some o → H' b = some o) ∧ H' D = some (.lst (List.replicate i (.bl true)))) ⟨?_, ?_, upd_same⟩ (fun i H' _ z => z.1) ?_ ?_
  · rw [upd_ne (Ne.symm nD), upd_same]
  · intro b o n hb
    rw [upd_ne (ne_of_none hb hD), upd_ne n]
    exact hb
  · rintro i x H1 H' hi ⟨f1, f2, f3⟩ ⟨rfl, key, v, hk, rfl⟩
    have hk' : (as.map fun p => ((Sum.inr p.1 : Key), kindV p.2))[i]? = some (key, v) := hk
    rw [List.getElem?_map] at hk'
    obtain ⟨⟨n, b⟩, hi2, e2⟩ := Option.map_eq_some_iff.mp hk'
    cases e2
    have mem := List.mem_of_getElem? hi2
    have en : nameD (.str n) = true := hn _ mem
    refine ⟨rfl, _, rfl, _, .str n, rfl, .str n, nameB_ok en, fun H2 g2 => ⟨_, rfl, ite2 (fun _ => ?_) (fun c => absurd en c)⟩⟩
    refine ⟨_, rfl, _, rfl, a, kindV b, rfl, .inl ⟨kvsOf as, Sum.inr n, .inr ⟨od, g2 _ _ f1⟩, rfl, (kvsOf_val nd mem).symm⟩, (by show 2 ≤ sizeLine; decide), fun q hq => ?_⟩
    have gq := same_new hq (.tup [.str "number", .str "text"])
    have g3 : ∀ c o, c ≠ a → H c = some o → upd H2 q (.tup [.str "number", .str "text"]) c = some o := fun c o z hc => gq _ _ (g2 _ _ (f2 c o z hc))
    refine in_pair "number" "text" (d := .str (if b then "number" else "text")) (.str _) rfl upd_same ⟨_, gq _ _ (g2 _ _ f3), ?_, ?_, ?_, ?_⟩
    · rw [List.length_replicate]
      have := (List.getElem?_eq_some_iff.mp hi2).1
      exact small1000 (by omega)
    · rw [upd_ne (Ne.symm nD)]
      exact gq _ _ (g2 _ _ f1)
    · exact fun c o z hc => by
        rw [upd_ne (ne_of_none hc hD)]
        exact g3 c o z hc
    · rw [upd_same, List.replicate_succ']
      cases b <;> rfl
  · rintro H' ⟨f1, f2, f3⟩
    refine ⟨f1, D, List.replicate (kvsOf as).length true, rfl, SqL.of (by rw [upd_ne nD, f3, List.map_replicate]), ?_⟩
    rw [all_]
    refine k _ (hn0 _ (fun b o n hb => ?_) upd_same)
    rw [upd_ne n]
    exact f2 b o n hb
def AskOk (as : List (Str × Bool)) : Prop := (∀ p, p ∈ as → nameB p.1 = true) ∧ as.length ≤ 4
/-- good parts of columns -/
structure ColsOk (hs : List Str) (as : List (Str × Bool)) (ss : List Str) : Prop where
  h : ∀ n, n ∈ hs → nameB n = true
  a : ∀ p, p ∈ as → nameB p.1 = true
  s : ∀ n, n ∈ ss → nameB n = true
  nd : (hs ++ as.map Prod.fst ++ ss).Nodup
  lh : hs.length ≤ 2
  la : as.length ≤ 4
  ls : ss.length ≤ 2
def sp_wrong (K : PySem.W.Frag) : Sp := fun vs H Q _ => ∃ (h a s : Addr) (hs : List Str) (as : List (Str × Bool)) (ss : List Str), vs = [.ref h, .ref a, .ref s] ∧ SqL K H h (hs.map V.str) ∧ H a = some (.dK (kvsOf as)) ∧ SqL K H s (ss.map V.str) ∧ ColsOk hs as ss ∧ ∀ H', Same H H' → Q .non H'
theorem ok_wrong_part (T : Txt K mg) : FnOk P w K mg base CX0 3 T.a_wrong_part T.d_wrong_part ["hashed", "asked", "summed"] (sp_wrong K) := by
  have G_are_names := ok_are_names (P := P) (w := w) (base := base) T
  have G_are_asked := ok_are_asked (P := P) (w := w) (base := base) T
  refine T.F_wrong_part.ok sc_wrong_part (fun vs H Q E h => ?_) (fun cdv A outer s H vs Q E hr h => ?_)
  · obtain ⟨h, a, s, hs, as, ss, rfl, _⟩ := h
    rfl
  obtain ⟨h, a, sm, hs, as, ss, rfl, q1, q2, q3, ok, k⟩ := h
  refine ⟨_, (pss_cons (ps_if (pt_not (pt_val (pe_call G_are_names (hr.mono (by first | decide | omega)) (by rfl) T.m_are_names T.F_are_names.kp T.b_are_names .nil pass0 (pa_cons (pv 0) (pa_cons (pe_glob (v := .int 2) (by rfl) T.m_MOST_HASHED ⟨_, rfl⟩) pa_nil))))) (pss_one (ps_ret pe_str)) pss_nil)
    (pss_cons (ps_if (pt_not (pt_val (pe_call G_are_asked (hr.mono (by first | decide | omega)) (by rfl) T.m_are_asked T.F_are_asked.kp T.b_are_asked .nil pass0 (pa_cons (pv 1) pa_nil)))) (pss_one (ps_ret pe_str)) pss_nil)
    (pss_cons (ps_if (pt_not (pt_val (pe_call G_are_names (hr.mono (by first | decide | omega)) (by rfl) T.m_are_names T.F_are_names.kp T.b_are_names .nil pass0 (pa_cons (pv 2) (pa_cons (pe_glob (v := .int 2) (by rfl) T.m_MOST_SUMMED ⟨_, rfl⟩) pa_nil))))) (pss_one (ps_ret pe_str)) pss_nil)
    (pss_cons (ps_set (i := 3) sc_wrong_part.nd rfl (by first | exact Or.inl rfl | exact Or.inr rfl) (pe_op op_cat (pe_op op_cat (pe_callTy call_list_of (by rfl) T.z_list (by decide +kernel) (pa_cons (pv 0) pa_nil)) (pe_callTy (call_listD rfl) (by rfl) T.z_list (by decide +kernel) (pa_cons (pv 1) pa_nil))) (pe_callTy call_list_of (by rfl) T.z_list (by decide +kernel) (pa_cons (pv 2) pa_nil))))
    (pss_cons (ps_if (pt_cmpR op_lt (pe_lenT rfl (by rfl) T.z_len (by rfl) T.z_set (pv 3)) (pe_callB call_len_seq (by rfl) T.z_len (by decide +kernel) (pa_cons (pv 3) pa_nil)) (nomark _)) (pss_one (ps_ret pe_str)) pss_nil)
    (pss_one (ps_ret pe_non))))))), ?_⟩
  have nd1 := (List.nodup_append.mp ok.nd).1
  have ndh := (List.nodup_append.mp nd1).1
  have nda := (List.nodup_append.mp nd1).2.1
  have nds := (List.nodup_append.mp ok.nd).2.1
  have lh := ok.lh
  have la := ok.la
  have ls := ok.ls
  refine ⟨_, rfl, h, 2, hs, rfl, q1, ok.h, ndh, by omega, by omega, fun H1 g1 => ⟨_, rfl, ?_⟩⟩
  refine iteF ?_
  refine ⟨_, rfl, a, as, rfl, g1 _ _ q2, ok.a, nda, la, fun H2 g2 => ⟨_, rfl, ?_⟩⟩
  refine iteF ?_
  have g12 := g1.trans g2
  refine ⟨_, rfl, sm, 2, ss, rfl, g12.seq q3, ok.s, nds, by omega, by omega, fun H3 g3 => ⟨_, rfl, ?_⟩⟩
  refine iteF ?_
  have g13 := g12.trans g3
  refine ⟨_, rfl, h, _, rfl, .inl (g13.seq q1), fun l1 f1 => ?_⟩
  have g4 := g13.trans (same_new f1 (.lst (hs.map V.str)))
  have e1 : upd H3 l1 (.lst (hs.map V.str)) l1 = some (.lst (hs.map V.str)) := upd_same
  generalize upd H3 l1 (.lst (hs.map V.str)) = H4 at *
  refine ⟨_, rfl, a, _, rfl, Rd.of (g4 _ _ q2), fun l2 f2 => ?_⟩
  have g45 := same_new f2 (.lst ((kvsOf as).map fun kv => kV kv.1))
  have g5 := g4.trans g45
  have e2 : upd H4 l2 (.lst ((kvsOf as).map fun kv => kV kv.1)) l2 = some (.lst ((kvsOf as).map fun kv => kV kv.1)) := upd_same
  have e1' := g45 _ _ e1
  generalize upd H4 l2 (.lst ((kvsOf as).map fun kv => kV kv.1)) = H5 at *
  have ek : ((kvsOf as).map fun kv => kV kv.1) = (as.map Prod.fst).map V.str := by
    unfold kvsOf
    rw [List.map_map, List.map_map]
    rfl
  rw [ek] at e2
  refine ⟨l1, l2, _, _, rfl, rfl, e1', e2, ?_, fun l3 f3 => ?_⟩
  · rw [List.length_map, List.length_map, List.length_map]
    exact Nat.le_of_lt (small1000 (by omega))
  have g56 := same_new f3 (.lst (hs.map V.str ++ (as.map Prod.fst).map V.str))
  have g6 := g5.trans g56
  have e3 : upd H5 l3 (.lst (hs.map V.str ++ (as.map Prod.fst).map V.str)) l3 = some (.lst (hs.map V.str ++ (as.map Prod.fst).map V.str)) := upd_same
  generalize upd H5 l3 (.lst (hs.map V.str ++ (as.map Prod.fst).map V.str)) = H6 at *
  refine ⟨_, rfl, sm, _, rfl, .inl (g6.seq q3), fun l4 f4 => ?_⟩
  have g67 := same_new f4 (.lst (ss.map V.str))
  have g7 := g6.trans g67
  have e4 : upd H6 l4 (.lst (ss.map V.str)) l4 = some (.lst (ss.map V.str)) := upd_same
  have e3' := g67 _ _ e3
  generalize upd H6 l4 (.lst (ss.map V.str)) = H7 at *
  refine ⟨l3, l4, _, _, rfl, rfl, e3', e4, ?_, fun l5 f5 => ?_⟩
  · rw [List.length_append, List.length_map, List.length_map, List.length_map, List.length_map]
    exact Nat.le_of_lt (small1000 (by omega))
  rw [← List.map_append, ← List.map_append]
  have g8 := g7.trans (same_new f5 (.lst ((hs ++ as.map Prod.fst ++ ss).map V.str)))
  have e5 : upd H7 l5 (.lst ((hs ++ as.map Prod.fst ++ ss).map V.str)) l5 = some (.lst ((hs ++ as.map Prod.fst ++ ss).map V.str)) := upd_same
  generalize upd H7 l5 (.lst ((hs ++ as.map Prod.fst ++ ss).map V.str)) = H8 at *
  have ll : (hs ++ as.map Prod.fst ++ ss).length < 100 := by
    rw [List.length_append, List.length_append, List.length_map]
    omega
  refine ⟨_, rfl, l5, _, rfl, SqL.of e5, ok.nd, ll, _, rfl, l5, _, rfl, .inl (SqL.of e5), _, _, rfl, rfl, _, rfl, ?_⟩
  rw [List.length_map, decide_eq_false (Int.lt_irrefl _)]
  exact iteF (k _ g8)

end
end My
set_option Elab.async false
set_option linter.all false
set_option maxRecDepth 100000
set_option maxHeartbeats 400000
namespace My
open PySem L2 PySem.Spec PyProof.Rows
section
variable {P : Program} {w : World} {K : PySem.W.Frag} {mg : Str → Option Value} {base : Heap}
def askOf (as : List (Str × Bool)) (n : Str) : Option Bool := (as.find? fun p => decide (p.1 = n)).map Prod.snd
theorem askOf_val (as : List (Str × Bool)) (n : Str) : valV (kvsOf as) (Sum.inr n) = (askOf as n).map kindV := by
  induction as with
  | nil => rfl
  | cons p as ih =>
    unfold askOf at ih ⊢
    by_cases e : p.1 = n
    · have e1 : valV (kvsOf (p :: as)) (Sum.inr n) = some (kindV p.2) := valV_pos (congrArg Sum.inr e)
      rw [e1, List.find?_cons_of_pos (by simpa using e)]
      rfl
    · have e1 : valV (kvsOf (p :: as)) (Sum.inr n) = valV (kvsOf as) (Sum.inr n) := valV_neg (fun z => e (Sum.inr.inj z))
      rw [e1, ih, List.find?_cons_of_neg (by simpa using e)]
theorem dc_list {K : PySem.W.Frag} {a : Addr} {xs : List V} {g : TG} {tt : TT} {tk tv : TE} {vs : List Nat} {σ : L2.St} {H1 : Hp} {D : Addr} {Qd : Hp → Prop} (Pv : Nat → Hp → Prop) (h0 : Pv 0 (upd H1 D (.dK []))) (hl : ∀ i H, Pv i H → SqL K H a xs)
    (hs : ∀ i x H, xs[i]? = some x → Pv i H → g x (wipe σ vs) H fun σ2 H2 => wipe σ2 vs = wipe σ vs ∧ tt σ2 H2 fun b H3 =>
      if b = true then tk σ2 H3 fun y H4 => tv σ2 H4 fun z H5 => ∃ kvs k, y = kV k ∧ H5 D = some (.dK kvs) ∧ kvs.length < sizeLine ∧ Pv (i + 1) (upd H5 D (.dK (putK kvs k z))) else Pv (i + 1) H3) (hd : ∀ H, Pv xs.length H → Qd H) :
    ∃ W : Nat → Nat → Hp → Prop, (∃ m, W 0 m (upd H1 D (.dK []))) ∧ ∀ i m H, W i m H →
      ((Itl K a).stop i H ∧ Qd H) ∨ ((Itl K a).go i H ∧ ∃ Nx : Hp → Prop, (∀ H', Nx H' → ∃ m', m' < m ∧ W (i + 1) m' H') ∧ ∀ x H', (Itl K a).yld i H x H' → g x (wipe σ vs) H' fun σ2 H2 => wipe σ2 vs = wipe σ vs ∧ tt σ2 H2 fun b H3 =>
        if b = true then tk σ2 H3 fun y H4 => tv σ2 H4 fun z H5 => ∃ kvs k, y = kV k ∧ H5 D = some (.dK kvs) ∧ kvs.length < sizeLine ∧ Nx (upd H5 D (.dK (putK kvs k z))) else Nx H3) := by
  refine ⟨fun i m H => i + m = xs.length ∧ Pv i H, ⟨xs.length, by simp, h0⟩, fun i m H w => ?_⟩
  obtain ⟨e, p⟩ := w
  have q := hl i H p
  cases m with
  | zero =>
    obtain rfl : i = xs.length := by omega
    exact .inl ⟨⟨xs, q, Nat.le_refl _⟩, hd H p⟩
  | succ m =>
    have lt : i < xs.length := by omega
    refine .inr ⟨⟨xs, xs[i], q, List.getElem?_eq_getElem lt⟩, Pv (i + 1), fun H' z => ⟨m, Nat.lt_succ_self _, by omega, z⟩, fun x H' y => ?_⟩
    obtain ⟨rfl, y⟩ := y
    exact hs i x _ (y xs q) p
/-- a change of an object leaves a list -/
theorem sql_put {K : PySem.W.Frag} {H : Hp} {p a C dx : Addr} {fs : List (Str × V)} {xs : List V} {o : HO} (hp : H p = some (.ins C dx fs)) (h : SqL K H a xs) : SqL K (upd H p o) a xs := by
  rcases h with (h | ⟨q, h⟩) | h
  · refine .inl (.inl ?_)
    rw [upd_ne (ne_of h hp (by intro z; cases z))]
    exact h
  · refine .inl (.inr ⟨q, ?_⟩)
    rw [upd_ne (ne_of h hp (by intro z; cases z))]
    exact h
  · exact .inr h
theorem but_put {H H' : Hp} {p : Addr} {o : HO} (g : But p H H') : But p H (upd H' p o) := fun b u n e => by
  rw [upd_ne n]
  exact g b u n e
theorem colsF1 (x y : V) : putF "_asked" y (putF "hashed" x []) = [(("hashed" : Str), x), (("_asked" : Str), y)] := (if_neg (by decide +kernel)).trans rfl
theorem colsF2 (x y z : V) : putF "summed" z (putF "_asked" y (putF "hashed" x [])) = [(("hashed" : Str), x), (("_asked" : Str), y), (("summed" : Str), z)] := by
  rw [colsF1]
  exact (if_neg (by decide +kernel)).trans (congrArg _ (if_neg (by decide +kernel)))
theorem look_tail {f g : Str} {v : V} {r : List (Str × V)} (h : (f == g) = false) : List.lookup f ((g, v) :: r) = List.lookup f r := by
  rw [List.lookup_cons, h]
theorem look_head {f : Str} {v : V} {r : List (Str × V)} : List.lookup f ((f, v) :: r) = some v := by
  rw [List.lookup_cons, beq_self_eq_true]
def sp_cinit (C : Addr) (K : PySem.W.Frag) : Sp := fun vs H Q _ => ∃ (p h a s dx : Addr) (hs : List Str) (as : List (Str × Bool)) (ss : List Str), vs = [.ref p, .ref h, .ref a, .ref s] ∧ H p = some (.ins C dx []) ∧ SqL K H h (hs.map V.str) ∧ H a = some (.dK (kvsOf as)) ∧ SqL K H s (ss.map V.str) ∧ ColsOk hs as ss ∧
  ∀ H', But p H H' → ColsAt C H' p ⟨hs, askOf as⟩ → Q .non H'
theorem ok_Columns_init (T : Txt K mg) : FnOk P w K mg base CX0 4 T.a_Columns_init T.d_Columns_init ["self", "hashed", "asked", "summed"] (sp_cinit T.c_Columns K) := by
  have G_wrong_part := ok_wrong_part (P := P) (w := w) (base := base) T
  refine T.F_Columns_init.ok sc_Columns_init (fun vs H Q E h => ?_) (fun cdv A outer s H vs Q E hr h => ?_)
  · obtain ⟨p, h, a, s, dx, hs, as, ss, rfl, _⟩ := h
    rfl
  obtain ⟨p, h, a, sm, dx, hs, as, ss, rfl, hp, q1, q2, q3, ok, k⟩ := h
  refine ⟨_, (pss_cons (ps_set (i := 4) sc_Columns_init.nd rfl (by first | exact Or.inl rfl | exact Or.inr rfl) (pe_call G_wrong_part (hr.mono (by first | decide | omega)) (by rfl) T.m_wrong_part T.F_wrong_part.kp T.b_wrong_part .nil pass0 (pa_cons (pv 1) (pa_cons (pv 2) (pa_cons (pv 3) pa_nil)))))
    (pss_cons (ps_if (pt_cmpR op_notN (pv 4) pe_non (nomark _)) (pss_one ps_never) pss_nil)
    (pss_cons (ps_fld (pv 0) (pe_callTy call_tuple_of (by rfl) T.z_tuple (by decide +kernel) (pa_cons (pv 1) pa_nil)) rfl)
    (pss_cons (ps_fld (pv 0) (pe_dc (own := [("name", 5)]) rfl sc_Columns_init.nd (pi_list (pe_callB (call_sortedD rfl) (by rfl) T.z_sorted (by decide +kernel) (pa_cons (pv 2) pa_nil))) (blkOk_by (own := [("name", 5)]) (N := ["self", "hashed", "asked", "summed", "part", "name"]) (sc := defScope s_Columns_init) (by decide +kernel)) (fun _ _ _ _ _ => (pg_name (i := 5) sc_Columns_init.nd rfl (by first | exact Or.inl rfl | exact Or.inr rfl))) (fun _ _ _ _ _ => pts_nil) (fun _ _ _ _ _ => (pv 5)) (fun _ _ _ _ _ => (pe_dget (hu_of hr) (pv 2) (pv 5) (fun _ _ => rfl)))) rfl)
    (pss_one (ps_fld (pv 0) (pe_callTy call_tuple_of (by rfl) T.z_tuple (by decide +kernel) (pa_cons (pv 3) pa_nil)) rfl)))))), ?_⟩
  refine ⟨_, rfl, _, rfl, _, rfl, h, a, sm, hs, as, ss, rfl, q1, q2, q3, ok, fun H1 g1 => ?_⟩
  refine ⟨_, rfl, rfl, _, rfl, ?_⟩
  refine iteF ?_
  have hp1 := g1 _ _ hp
  have hq1 := g1.seq q1
  have hq2 := g1 _ _ q2
  have hq3 := g1.seq q3
  have na : a ≠ p := ne_of q2 hp (by intro z; cases z)
  have nd1 := (List.nodup_append.mp ok.nd).1
  have nda := (List.nodup_append.mp nd1).2.1
  have la := ok.la
  -- self.hashed = tuple(hashed)
  refine ⟨_, rfl, h, _, rfl, .inl ⟨hq1, fun t ht => ⟨_, rfl, p, T.c_Columns, dx, [], rfl, same_new ht _ _ _ hp1, T.cl_Columns, T.n_Columns_hashed, (by decide), ?_⟩⟩⟩
  have b2 : But p H (upd H1 t (.tup (hs.map V.str))) := (Same.but g1).same (same_new ht _)
  have b3 := but_put (o := .ins T.c_Columns dx (putF "hashed" (.ref t) [])) b2
  have t2 : upd H1 t (.tup (hs.map V.str)) t = some (.tup (hs.map V.str)) := upd_same
  have p2 := same_new ht (.tup (hs.map V.str)) _ _ hp1
  have nt : t ≠ p := fun z => by
    rw [z, hp1] at ht
    cases ht
  have t3 : upd (upd H1 t (.tup (hs.map V.str))) p (.ins T.c_Columns dx (putF "hashed" (.ref t) [])) t = some (.tup (hs.map V.str)) := by rw [upd_ne nt]; exact t2
  have p3 : upd (upd H1 t (.tup (hs.map V.str))) p (.ins T.c_Columns dx (putF "hashed" (.ref t) [])) p = some (.ins T.c_Columns dx (putF "hashed" (.ref t) [])) := upd_same
  have a3 := b3 _ _ na q2
  have s3 : SqL K (upd (upd H1 t (.tup (hs.map V.str))) p (.ins T.c_Columns dx (putF "hashed" (.ref t) []))) sm (ss.map V.str) := sql_put p2 ((same_new ht _).seq hq3)
  generalize upd (upd H1 t (.tup (hs.map V.str))) p (.ins T.c_Columns dx (putF "hashed" (.ref t) [])) = H3 at *
  -- self._asked = {name: asked[name] for name in sorted(asked)}
  refine ⟨_, rfl, a, kvsOf as, as.map Prod.fst, rfl, Rd.of a3, (by unfold kvsOf; rw [List.map_map, List.map_map]; rfl), (by rw [List.length_map]; omega), fun ys l pe _ hl => ?_⟩
  refine ⟨l, rfl, ⟨_, SqL.of upd_same⟩, fun D hD => ?_⟩
  have g4 := same_new hl (.lst (ys.map V.str))
  have l4 : SqL K (upd H3 l (.lst (ys.map V.str))) l (ys.map V.str) := SqL.of upd_same
  have b4 := b3.same g4
  have a4 := g4 _ _ a3
  have t4 := g4 _ _ t3
  have p4 := g4 _ _ p3
  have s4 := g4.seq s3
  generalize upd H3 l (.lst (ys.map V.str)) = H4 at *
  have ndy : ys.Nodup := pe.nodup_iff.mpr nda
  have ly : ys.length ≤ 4 := by
    rw [pe.length_eq, List.length_map]
    exact la
  refine dc_list (K := K) (a := l) (xs := ys.map V.str) (fun i H' => Same H4 H' ∧ ∃ kv, H' D = some (.dK kv) ∧ kv.length ≤ i ∧ ∀ n, valV kv (Sum.inr n) = if n ∈ ys.take i then (askOf as n).map kindV else none) ⟨same_new hD _, [], upd_same, Nat.le_refl _, fun n => rfl⟩ (fun i H' z => z.1.seq l4) ?_ ?_
  · rintro i x H' hx ⟨g, kv, e, lk, vals⟩
    rw [List.getElem?_map] at hx
    obtain ⟨n, hi, rfl⟩ := Option.map_eq_some_iff.mp hx
    have mem := pe.mem_iff.mp (List.mem_of_getElem? hi)
    obtain ⟨⟨n', b⟩, hm, rfl⟩ := List.mem_map.mp mem
    have hv := kvsOf_val nda hm
    have hv2 := hv
    rw [askOf_val] at hv2
    have hli : i < ys.length := (List.getElem?_eq_some_iff.mp hi).1
    refine ⟨rfl, _, rfl, _, rfl, _, rfl, a, kindV b, rfl, .inl ⟨kvsOf as, Sum.inr n', Rd.of (g _ _ a4), rfl, hv.symm⟩, kv, Sum.inr n', rfl, e, ?_, same_upd g hD, _, upd_same, ?_, fun m => ?_⟩
    · exact Nat.lt_of_le_of_lt lk (small1000 (by omega))
    · exact Nat.le_trans (length_putK ..) (Nat.succ_le_succ lk)
    · rw [valV_put, take_more' hi]
      by_cases em : m = n'
      · subst em
        rw [if_pos rfl, if_pos (by simp), hv2]
      · rw [if_neg (fun z => em (Sum.inr.inj z)), vals m]
        have : (m ∈ ys.take i ++ [n']) ↔ m ∈ ys.take i := by simp [em]
        simp only [this]
  · rintro H' ⟨g, kv, e, lk, vals⟩
    rw [List.length_map, List.take_of_length_le (Nat.le_refl _)] at vals
    have vals' : ∀ n, valV kv (Sum.inr n) = (askOf as n).map kindV := fun n => by
      rw [vals n]
      by_cases c : n ∈ ys
      · rw [if_pos c]
      · have c2 : n ∉ as.map Prod.fst := fun z => c (pe.mem_iff.mpr z)
        have := kvsOf_none c2
        rw [askOf_val] at this
        rw [if_neg c, this]
    have p5 := g _ _ p4
    refine ⟨_, rfl, p, T.c_Columns, dx, _, rfl, p5, T.cl_Columns, T.n_Columns__asked, (by show (1 : Nat) < 1000; decide), ?_⟩
    have b5 := but_put (o := .ins T.c_Columns dx (putF "_asked" (.ref D) (putF "hashed" (.ref t) []))) (b4.same g)
    have nD : D ≠ p := fun z => by
      rw [z, p4] at hD
      cases hD
    have d5 : upd H' p (.ins T.c_Columns dx (putF "_asked" (.ref D) (putF "hashed" (.ref t) []))) D = some (.dK kv) := by rw [upd_ne nD]; exact e
    have t5 : upd H' p (.ins T.c_Columns dx (putF "_asked" (.ref D) (putF "hashed" (.ref t) []))) t = some (.tup (hs.map V.str)) := by rw [upd_ne nt]; exact g _ _ t4
    have s5 : SqL K (upd H' p (.ins T.c_Columns dx (putF "_asked" (.ref D) (putF "hashed" (.ref t) [])))) sm (ss.map V.str) := sql_put p5 (g.seq s4)
    have p6 : upd H' p (.ins T.c_Columns dx (putF "_asked" (.ref D) (putF "hashed" (.ref t) []))) p = some (.ins T.c_Columns dx (putF "_asked" (.ref D) (putF "hashed" (.ref t) []))) := upd_same
    generalize upd H' p (.ins T.c_Columns dx (putF "_asked" (.ref D) (putF "hashed" (.ref t) []))) = H6 at *
    -- self.summed = tuple(summed)
    refine ⟨_, rfl, sm, _, rfl, .inl ⟨s5, fun u hu => ⟨_, rfl, p, T.c_Columns, dx, _, rfl, same_new hu _ _ _ p6, T.cl_Columns, T.n_Columns_summed, (by rw [colsF1]; show (2 : Nat) < 1000; decide), ?_⟩⟩⟩
    have gu := same_new hu (.tup (ss.map V.str))
    refine k _ (but_put (b5.same gu)) ⟨dx, _, t, D, kv, upd_same, ?_, ?_, ?_, ?_, vals'⟩
    · rw [colsF2]
      exact look_head
    · rw [upd_ne nt]
      exact gu _ _ t5
    · rw [colsF2]
      exact (look_tail (by decide +kernel)).trans look_head
    · rw [upd_ne nD]
      exact gu _ _ d5

end
end My
set_option Elab.async false
set_option linter.all false
set_option maxRecDepth 100000
set_option maxHeartbeats 400000
namespace My
open PySem L2 PySem.Spec PyProof.Rows
section
variable {P : Program} {w : World} {K : PySem.W.Frag} {mg : Str → Option Value} {base : Heap}
theorem ok__law_number (T : Txt K mg) : FnOk P w K mg base CX0 1 T.a__law_number T.d__law_number ["script", "index"] (sp_number K) := by

  refine T.F__law_number.ok sc__law_number (fun vs H Q E h => ?_) (fun cdv A outer s H vs Q E hr h => ?_)
  · obtain ⟨a, ns, i, rfl, _⟩ := h
    rfl
  obtain ⟨a, ns, i, rfl, hS, h63, k⟩ := h
  refine ⟨_, (pss_cons (ps_asg (pe_ifExp (pt_cmpR (op_neD (hu64 hr)) (pv 0) (pe_lst pa_nil) (nomark _)) (pe_tup (pa_cons (pe_ix ix_list (pv 0) (pe_op op_mod (pv 1) (pe_callB call_len_seq (by rfl) T.z_len (by decide +kernel) (pa_cons (pv 0) pa_nil))) (fun _ _ => rfl)) (pa_cons (pe_op op_fdivA (pv 1) (pe_callB call_len_seq (by rfl) T.z_len (by decide +kernel) (pa_cons (pv 0) pa_nil))) pa_nil))) (pe_tup (pa_cons pe_int (pa_cons pe_int pa_nil)))) (pg_tup rfl (pgs_cons (pg_name (i := 2) sc__law_number.nd rfl (by first | exact Or.inl rfl | exact Or.inr rfl)) (pgs_cons (pg_name (i := 3) sc__law_number.nd rfl (by first | exact Or.inl rfl | exact Or.inr rfl)) pgs_nil))))
    (pss_cons (ps_set (i := 4) sc__law_number.nd rfl (by first | exact Or.inl rfl | exact Or.inr rfl) (pe_ifExp (pt_cmpR op_lt (pv 3) pe_int (nomark _)) (pe_op op_sub (pv 2) (pe_op op_pow pe_int pe_int)) pe_int))
    (pss_cons (ps_for PassesOwn.never rfl (pi_range1 (by rfl) T.z_range (pa_cons (pe_op op_mod (pe_callTy call_int1 (by rfl) T.z_int (by decide +kernel) (pa_cons (pv 3) pa_nil)) pe_int) pa_nil)) (pg_name (i := 5) sc__law_number.nd rfl (by first | exact Or.inl rfl | exact Or.inr rfl))
    (pss_one (ps_set (i := 4) sc__law_number.nd rfl (by first | exact Or.inl rfl | exact Or.inr rfl) (pe_op op_fdivA (pv 4) pe_int))))
    (pss_cons (ps_if (pt_cmpR op_gt (pv 4) pe_int (nomark _)) (pss_one (ps_ret (pe_op op_mod (pe_callTy call_int1 (by rfl) T.z_int (by decide +kernel) (pa_cons (pv 4) pa_nil)) pe_int))) pss_nil)
    (pss_cons (ps_set (i := 6) sc__law_number.nd rfl (by first | exact Or.inl rfl | exact Or.inr rfl) (pe_op op_mod (pe_op op_add (pe_op op_mul (pe_callTy call_int1 (by rfl) T.z_int (by decide +kernel) (pa_cons (pe_op op_add (pv 2) (pe_op op_mul pe_int (pv 1))) pa_nil)) pe_int) (pe_op op_mul pe_int (pe_callB call_len_seq (by rfl) T.z_len (by decide +kernel) (pa_cons (pv 0) pa_nil)))) pe_int))
    (pss_cons (ps_set (i := 6) sc__law_number.nd rfl (by first | exact Or.inl rfl | exact Or.inr rfl) (pe_op op_mod (pe_op op_add (pe_op op_mul (pv 6) (pv 6)) (pe_op op_mul pe_int (pv 1))) pe_int))
    (pss_one (ps_ret (pe_callTy call_int1 (by rfl) T.z_int (by decide +kernel) (pa_cons (pe_op op_mod (pe_op op_add (pe_op op_mul (pv 6) pe_int) (pe_op op_fdivA (pv 6) pe_int)) pe_int) pa_nil)))))))))), ?_⟩
  -- cell, turn = ..
  refine seq_cut (fun σ' H' => ∃ c t : Int, σ' = [some (.ref a), some (.int i), some (.int c), some (.int t), none, none, none] ∧ Same H H') ?_ (fun tail => ?_)
  · rintro σ' H' ⟨c, t, rfl, g⟩
    have hS' := g.seq hS
    -- rest = ..
    refine seq_cut (fun σ' H' => ∃ r : Int, σ' = [some (.ref a), some (.int i), some (.int c), some (.int t), some (.int r), none, none] ∧ Same H H') ?_ (fun tail => ?_)
    · rintro σ' H' ⟨r, rfl, g⟩
      have hS' := g.seq hS
      -- for step in range(int(turn) % 60)
      refine ⟨_, rfl, .inl ⟨t, rfl, _, _, rfl, rfl, (by show (0 : Int) < 60; decide), ?_⟩⟩
      have m0 : 0 ≤ t % 60 := Int.emod_nonneg _ (by decide)
      have m1 : t % 60 < 60 := Int.emod_lt_of_pos _ (by decide)
      refine ⟨t % 60, rfl, by omega, by omega, for_range (lo := 0) (n := (t % 60).toNat) (fun _ σ' H' => ∃ (r : Int) (z : Option V), σ' = [some (.ref a), some (.int i), some (.int c), some (.int t), some (.int r), z, none] ∧ Same H H') ⟨r, none, rfl, g⟩ ?_ ?_⟩
      · rintro j σ' H' hj ⟨r, z, rfl, g⟩
        exact ⟨_, rfl, _, _, rfl, rfl, divA_small (by decide) (by decide), _, _, rfl, g⟩
      · rintro σ' H' ⟨r, z, rfl, g⟩
        have hS' := g.seq hS
        dsimp only
        refine seq_cut (fun σ' H'' => σ' = [some (.ref a), some (.int i), some (.int c), some (.int t), some (.int r), z, none] ∧ H'' = H') ?_ (fun tail => ?_)
        rotate_left
        · refine ⟨_, rfl, _, _, rfl, rfl, _, rfl, ?_⟩
          refine ite2 (fun _ => ?_) (fun _ => ?_)
          · exact ⟨_, rfl, .inl ⟨_, rfl, _, _, rfl, rfl, (by show (0 : Int) < 1009; decide), k _ _ g⟩⟩
          · exact tail _ _ ⟨rfl, rfl⟩
        · rintro σ' H'' ⟨rfl, rfl⟩
          refine seq_cut (fun σ' H' => ∃ (b : Int) (z : Option V), σ' = [some (.ref a), some (.int i), some (.int c), some (.int t), some (.int r), z, some (.int b)] ∧ 0 ≤ b ∧ b < 2147483647 ∧ Same H H') ?_ (fun tail => ?_)
          · rintro σ' H' ⟨b, z, rfl, b0, b1, g⟩
            refine ⟨_, rfl, _, rfl, _, _, rfl, rfl, .inl ⟨by omega, by omega⟩, _, rfl, _, _, rfl, rfl, .inl ⟨by decide, by decide⟩, _, _, rfl, rfl, _, _, rfl, rfl, (by show (0 : Int) < 2147483629; decide), ?_⟩
            exact ⟨_, rfl, _, _, rfl, rfl, .inr ⟨by decide, by decide⟩, _, rfl, _, _, rfl, rfl, divA_small (by decide) (by decide), _, _, rfl, rfl, _, _, rfl, rfl, (by show (0 : Int) < 2147483587; decide), .inl ⟨_, rfl, k _ _ g⟩⟩
          · refine ⟨_, rfl, _, rfl, _, _, rfl, rfl, .inl ⟨by decide, by decide⟩, _, _, rfl, rfl, .inl ⟨_, rfl, _, _, rfl, rfl, .inr ⟨by decide, by decide⟩, ?_⟩⟩
            refine ⟨_, rfl, a, _, rfl, .inl hS', _, _, rfl, rfl, .inl ⟨by decide, by decide⟩, _, _, rfl, rfl, _, _, rfl, rfl, (by show (0 : Int) < 2147483647; decide), ?_⟩
            exact tail _ _ ⟨_, _, rfl, Int.emod_nonneg _ (by decide), Int.emod_lt_of_pos _ (by decide), g⟩
    · refine ⟨_, rfl, _, _, rfl, rfl, _, rfl, ?_⟩
      refine ite2 (fun _ => ?_) (fun _ => ?_)
      · exact ⟨_, rfl, _, _, rfl, rfl, ⟨by decide, by decide, by decide⟩, _, _, rfl, rfl, tail _ _ ⟨_, rfl, g⟩⟩
      · exact tail _ _ ⟨_, rfl, g⟩
  · refine ⟨_, rfl, (by show 0 ≤ sizeLine; decide), fun p hp => ?_⟩
    have g1 : Same H (upd H p (.lst [])) := same_new hp _
    have hS1 := g1.seq hS
    refine ⟨.list (ns.map .int), .list [], .lst hS1 (dp_ints ns), .lst (SqL.of upd_same) .nil, PySem.W.ke_shaped_ints ns, rfl, _, rfl, ?_⟩
    by_cases e : ns = []
    · subst e
      refine iteF ⟨(by show 2 ≤ sizeLine; decide), fun q hq => ?_⟩
      exact ⟨_, _, rfl, SqT.of upd_same, rfl, _, _, rfl, _, _, rfl, rfl, tail _ _ ⟨_, _, rfl, g1.trans (same_new hq _)⟩⟩
    · rw [eqv_nil_ints ns e]
      have hl : 0 < ns.length := List.length_pos_iff.mpr e
      have em : (ns.map V.int).length = ns.length := List.length_map _
      have j0 : 0 ≤ i % ((ns.map V.int).length : Int) := Int.emod_nonneg _ (by omega)
      have j1 : i % ((ns.map V.int).length : Int) < ((ns.map V.int).length : Int) := Int.emod_lt_of_pos _ (by omega)
      obtain ⟨c, hc⟩ : ∃ c : Int, atI (ns.map V.int) (i % ((ns.map V.int).length : Int)) = some (.int c) := by
        have hj : (i % ((ns.map V.int).length : Int)).toNat < ns.length := by omega
        refine ⟨ns[(i % ((ns.map V.int).length : Int)).toNat], at_of (j := (i % ((ns.map V.int).length : Int)).toNat) (by omega) ?_⟩
        rw [List.getElem?_map, List.getElem?_eq_getElem hj]
        rfl
      refine iteT ?_
      refine ⟨_, rfl, _, rfl, _, rfl, a, _, rfl, .inl hS1, _, _, rfl, rfl, (by show (0 : Int) < ((ns.map V.int).length : Int); omega), a, _, _, _, rfl, rfl, hS1, hc, ?_⟩
      refine ⟨_, rfl, _, rfl, a, _, rfl, .inl hS1, _, _, rfl, rfl, divA_small (by omega) (by omega), (by show 2 ≤ sizeLine; decide), fun q hq => ?_⟩
      exact ⟨_, _, rfl, SqT.of upd_same, rfl, _, _, rfl, _, _, rfl, rfl, tail _ _ ⟨_, _, rfl, g1.trans (same_new hq _)⟩⟩

theorem ok__law_take (T : Txt K mg) : FnOk P w K mg base CX0 2 T.a__law_take T.d__law_take ["draw", "many"] (sp_take K) := by
  have G__law_number := ok__law_number (P := P) (w := w) (base := base) T
  refine T.F__law_take.ok sc__law_take (fun vs H Q E h => ?_) (fun cdv A outer s H vs Q E hr h => ?_)
  · obtain ⟨d, m, rfl, _⟩ := h
    rfl
  obtain ⟨d, m, rfl, ⟨a, ns, i, hd, hS, h63⟩, m0, k⟩ := h
  refine ⟨_, (pss_cons (ps_augS (pv 0) pe_int get_list pe_int ip_add set_list)
    (pss_one (ps_ret (pe_op op_mod (pe_callTy call_int1 (by rfl) T.z_int (by decide +kernel) (pa_cons (pe_call G__law_number (hr.mono (by first | decide | omega)) (by rfl) T.m__law_number T.F__law_number.kp T.b__law_number .nil pass0 (pa_cons (pe_ix ix_list (pv 0) pe_int (fun _ _ => rfl)) (pa_cons (pe_callTy call_int1 (by rfl) T.z_int (by decide +kernel) (pa_cons (pe_ix ix_list (pv 0) pe_int (fun _ _ => rfl)) pa_nil)) pa_nil))) pa_nil)) (pv 1))))), ?_⟩
  have b1 : But d H (upd H d (.lst [.ref a, .int (i + 1)])) := fun b o n e => by rw [upd_ne n]; exact e
  have hS1 := hS.but hd b1
  refine ⟨_, rfl, d, _, _, _, rfl, rfl, SqL.of hd, at_of (j := 1) rfl rfl, i, 1, rfl, rfl, d, _, _, 1, rfl, rfl, hd, rfl, ?_⟩
  have e1 : upd H d (.lst [.ref a, .int (i + 1)]) d = some (.lst [.ref a, .int (i + 1)]) := upd_same
  refine ⟨_, rfl, d, _, _, _, rfl, rfl, SqL.of e1, at_of (j := 0) rfl rfl, ?_⟩
  refine ⟨_, rfl, d, _, _, _, rfl, rfl, SqL.of e1, at_of (j := 1) rfl rfl, .inl ⟨_, rfl, a, ns, i + 1, rfl, hS1.sq, h63, fun n H' g => ?_⟩⟩
  refine .inl ⟨n, rfl, _, rfl, _, _, rfl, rfl, m0, ?_⟩
  exact k _ _ (Int.emod_nonneg _ (by omega)) (Int.emod_lt_of_pos _ m0) ⟨a, ns, i + 1, g _ _ e1, hS1.same g, h63⟩ (b1.same g)
theorem ok__law_pick (T : Txt K mg) : FnOk P w K mg base CX0 3 T.a__law_pick T.d__law_pick ["draw", "items"] (sp_pick K) := by
  have G__law_take := ok__law_take (P := P) (w := w) (base := base) T
  refine T.F__law_pick.ok sc__law_pick (fun vs H Q E h => ?_) (fun cdv A outer s H vs Q E hr h => ?_)
  · obtain ⟨d, p, xs, rfl, _⟩ := h
    rfl
  obtain ⟨d, p, xs, rfl, hd, hx, hl, k⟩ := h
  refine ⟨_, (pss_one (ps_ret (pe_ix ix_lt (pv 1) (pe_call G__law_take (hr.mono (by first | decide | omega)) (by rfl) T.m__law_take T.F__law_take.kp T.b__law_take .nil pass0 (pa_cons (pv 0) (pa_cons (pe_callB call_len_seq (by rfl) T.z_len (by decide +kernel) (pa_cons (pv 1) pa_nil)) pa_nil))) (fun _ _ => rfl)))), ?_⟩
  have hlen : SqL K H p xs ∨ SqT K H p xs := hx.imp (fun z => z.1) fun z => z
  refine ⟨_, rfl, _, rfl, _, rfl, p, xs, rfl, hlen, d, _, rfl, hd, (by show (0 : Int) < (xs.length : Int); omega), fun r H' r0 r1 hd' b => ?_⟩
  have hj : r.toNat < xs.length := by omega
  have ha : atI xs r = some xs[r.toNat] := at_of (j := r.toNat) (by omega) (List.getElem?_eq_getElem hj)
  have fin := k r.toNat _ H' (List.getElem?_eq_getElem hj) hd' b
  obtain ⟨a, ns, i, h1, _⟩ := hd
  rcases hx with ⟨z, n⟩ | z
  · exact .inl ⟨p, xs, r, _, rfl, rfl, b.seq n z, ha, fin⟩
  · exact .inr ⟨p, xs, r, _, rfl, rfl, b.tup h1 z, ha, fin⟩


end
end My
set_option Elab.async false
set_option linter.all false
set_option maxRecDepth 100000
set_option maxHeartbeats 400000
namespace My
open PySem L2 PySem.Spec PyProof.Rows
section
variable {P : Program} {w : World} {K : PySem.W.Frag} {mg : Str → Option Value} {base : Heap}
/-! ### formulas, their places, and the walk over them -/
mutual
def noL : PyData → Bool
  | .tuple ds => noLs ds
  | .list _ => false
  | .dict _ => false
  | .none => true
  | .bool _ => true
  | .int _ => true
  | .str _ => true
def noLs : List PyData → Bool
  | [] => true
  | d :: ds => noL d && noLs ds
end
def Lay (m : Nat) (d : PyData) : Prop := d.canLay0 = true ∧ d.depth ≤ m ∧ noL d = true
mutual
/-- data without lists hang on the tuples alone -/
theorem dp_tups {K : PySem.W.Frag} {H H' : Hp} (e : ∀ a xs, SqT K H a xs → SqT K H' a xs) : ∀ (d : PyData) (v : V), noL d = true → Dp K H v d → Dp K H' v d
  | .none, _, _, h => by cases h; exact .non
  | .bool b, _, _, h => by cases h; exact .bl b
  | .int i, _, _, h => by cases h; exact .int i
  | .str s, _, _, h => by cases h; exact .str s
  | .dict _, _, n, _ => by cases n
  | .list _, _, n, _ => by cases n
  | .tuple ds, _, n, h => by
    cases h with
    | tup hs ha => exact .tup (e _ _ hs) (dps_tups e ds _ n ha)
theorem dps_tups {K : PySem.W.Frag} {H H' : Hp} (e : ∀ a xs, SqT K H a xs → SqT K H' a xs) : ∀ (ds : List PyData) (vs : List V), noLs ds = true → DpAll K H vs ds → DpAll K H' vs ds
  | [], _, _, h => by cases h; exact .nil
  | d :: ds, _, n, h => by
    have n' : (noL d && noLs ds) = true := n
    rw [Bool.and_eq_true] at n'
    cases h with
    | cons a b => exact .cons (dp_tups e d _ n'.1 a) (dps_tups e ds _ n'.2 b)
end
inductive Good (c : Cols) : Nat → PyData → Prop
  | leaf {n : Nat} {s : Str} {r : List PyData} : s ≠ "not" → s ≠ "and" → s ≠ "or" → formD c (.tuple (.str s :: r)) = true → DataOk (.tuple (.str s :: r)) → Lay 3 (.tuple (.str s :: r)) → Good c (n + 1) (.tuple (.str s :: r))
  | not {n : Nat} {e : PyData} : Good c n e → Good c (n + 1) (.tuple [.str "not", e])
  | kids {n : Nat} {s : Str} {ks : List PyData} : s = "and" ∨ s = "or" → 2 ≤ ks.length → ks.length ≤ 100 → (∀ e, e ∈ ks → Good c n e) → Good c (n + 1) (.tuple [.str s, .tuple ks])
def tupOf : PyData → List PyData
  | .tuple xs => xs
  | _ => []
def kidSp (f : PyData → List (List Nat)) : Nat → List PyData → List (List Nat)
  | _, [] => []
  | i, e :: r => (f e).map (fun w => 1 :: i :: w) ++ kidSp f (i + 1) r
def spotsD : Nat → PyData → List (List Nat)
  | 0, _ => []
  | n + 1, d => match d with
    | .tuple [.str s, x] => if s = "not" then [] :: (spotsD n x).map (fun w => 1 :: w) else if s = "and" ∨ s = "or" then [] :: kidSp (spotsD n) 0 (tupOf x) else [[]]
    | _ => [[]]
def putD : List Nat → PyData → PyData → PyData
  | [], _, b => b
  | i :: w, .tuple xs, b => .tuple (xs.set i (putD w (xs.getD i .none) b))
  | _ :: _, d, _ => d
theorem kidSp_cons (f : PyData → List (List Nat)) (i : Nat) (e : PyData) (r : List PyData) : kidSp f i (e :: r) = (f e).map (fun w => 1 :: i :: w) ++ kidSp f (i + 1) r := rfl
theorem kidSp_len (f : PyData → List (List Nat)) (i j : Nat) (l : List PyData) : (kidSp f i l).length = (kidSp f j l).length := by
  induction l generalizing i j with
  | nil => rfl
  | cons e r ih =>
    rw [kidSp_cons, kidSp_cons, List.length_append, List.length_append, List.length_map, List.length_map, ih (i + 1) (j + 1)]
theorem kidSp_app (f : PyData → List (List Nat)) (i : Nat) (l m : List PyData) : kidSp f i (l ++ m) = kidSp f i l ++ kidSp f (i + l.length) m := by
  induction l generalizing i with
  | nil => rfl
  | cons e r ih =>
    rw [List.cons_append, kidSp_cons, kidSp_cons, ih, List.append_assoc]
    congr 3
    rw [List.length_cons]
    omega
theorem spots_leaf {n : Nat} {s : Str} {r : List PyData} (h1 : s ≠ "not") (h2 : s ≠ "and") (h3 : s ≠ "or") : spotsD (n + 1) (.tuple (.str s :: r)) = [[]] := by
  match r with
  | [] => rfl
  | [x] =>
    show (if s = "not" then _ else if s = "and" ∨ s = "or" then _ else [[]]) = _
    rw [if_neg h1, if_neg (by intro z; rcases z with z | z; exact h2 z; exact h3 z)]
  | _ :: _ :: _ => rfl
theorem spots_not' {n : Nat} {s : Str} {e : PyData} (h : s = "not") : spotsD (n + 1) (.tuple [.str s, e]) = [] :: (spotsD n e).map (fun w => 1 :: w) := if_pos h
theorem spots_not {n : Nat} {e : PyData} : spotsD (n + 1) (.tuple [.str "not", e]) = [] :: (spotsD n e).map (fun w => 1 :: w) := spots_not' rfl
theorem spots_kids {n : Nat} {s : Str} {ks : List PyData} (h : s = "and" ∨ s = "or") : spotsD (n + 1) (.tuple [.str s, .tuple ks]) = [] :: kidSp (spotsD n) 0 ks := (if_neg (by rcases h with h | h <;> subst h <;> decide +kernel)).trans (if_pos h)
theorem formN' {c : Cols} {s : Str} {e : PyData} (h : s = "not") : formD c (.tuple [.str s, e]) = true := (if_neg (by subst h; decide +kernel)).trans ((if_pos (by subst h; decide +kernel)).trans rfl)
theorem formN {c : Cols} {e : PyData} : formD c (.tuple [.str "not", e]) = true := formN' rfl
theorem form_kids {c : Cols} {s : Str} {ks : List PyData} (h : s = "and" ∨ s = "or") (l : 2 ≤ ks.length) : formD c (.tuple [.str s, .tuple ks]) = true := (if_neg (by rcases h with h | h <;> subst h <;> decide +kernel)).trans ((if_neg (by rcases h with h | h <;> subst h <;> decide +kernel)).trans ((if_pos (by rcases h with h | h <;> subst h <;> decide +kernel)).trans (decide_eq_true l)))
theorem kids_not' {s : Str} {e : PyData} (h : s = "not") : kidsD (.tuple [.str s, e]) = [e] := (if_pos (by subst h; decide +kernel)).trans rfl
theorem kids_not {e : PyData} : kidsD (.tuple [.str "not", e]) = [e] := kids_not' rfl
theorem kids_kids {s : Str} {ks : List PyData} (h : s = "and" ∨ s = "or") : kidsD (.tuple [.str s, .tuple ks]) = ks := (if_neg (by rcases h with h | h <;> subst h <;> decide +kernel)).trans ((if_pos (by rcases h with h | h <;> subst h <;> decide +kernel)).trans rfl)
theorem kids_leaf {s : Str} {r : List PyData} (h1 : s ≠ "not") (h2 : s ≠ "and") (h3 : s ≠ "or") : kidsD (.tuple (.str s :: r)) = [] := (if_neg (by show ¬ decide (s = "not") = true; simpa using h1)).trans (if_neg (by show ¬ (decide (s = "and") || decide (s = "or")) = true; simp [h2, h3]))
/-- a step that goes on -/
theorem run_on {c : Cols} {f seen k : Nat} {d : PyData} {st : List (PyData × Nat)} (h : formD c d = true) (hk : k ≤ 8) (hs : seen < 30) : runD c (f + 1) seen ((d, k) :: st) = runD c f (seen + 1) ((kidsD d).map (fun e => (e, k + 1)) ++ st) := by
  refine if_neg ?_
  rw [h, decide_eq_false (show ¬ 8 < k by omega), decide_eq_false (show ¬ 30 < seen + 1 by omega)]
  decide
theorem run_bad {c : Cols} {f seen k : Nat} {d : PyData} {st : List (PyData × Nat)} (h : formD c d = false) : runD c (f + 1) seen ((d, k) :: st) = some d := by
  refine if_pos ?_
  rw [h]
  simp
def sizeK (n : Nat) (ks : List PyData) : Nat := (kidSp (spotsD n) 0 ks).length
theorem sizeK_cons {n : Nat} {e : PyData} {r : List PyData} : sizeK n (e :: r) = (spotsD n e).length + sizeK n r := by
  unfold sizeK
  rw [kidSp_cons, List.length_append, List.length_map, kidSp_len _ (0 + 1) 0]
/-- good formulas are walked over -/
theorem run_good {c : Cols} : ∀ (n : Nat), (∀ d, Good c n d → ∀ (k seen f : Nat) (st : List (PyData × Nat)), k + n ≤ 9 → seen + (spotsD n d).length ≤ 30 → runD c (f + (spotsD n d).length) seen ((d, k) :: st) = runD c f (seen + (spotsD n d).length) st) ∧
    (∀ ks : List PyData, (∀ e, e ∈ ks → Good c n e) → ∀ (k seen f : Nat) (st : List (PyData × Nat)), k + n ≤ 9 → seen + sizeK n ks ≤ 30 → runD c (f + sizeK n ks) seen (ks.map (fun e => (e, k)) ++ st) = runD c f (seen + sizeK n ks) st) := by
  intro n
  have part2 : ∀ m : Nat, (∀ d, Good c m d → ∀ (k seen f : Nat) (st : List (PyData × Nat)), k + m ≤ 9 → seen + (spotsD m d).length ≤ 30 → runD c (f + (spotsD m d).length) seen ((d, k) :: st) = runD c f (seen + (spotsD m d).length) st) →
    (∀ ks : List PyData, (∀ e, e ∈ ks → Good c m e) → ∀ (k seen f : Nat) (st : List (PyData × Nat)), k + m ≤ 9 → seen + sizeK m ks ≤ 30 → runD c (f + sizeK m ks) seen (ks.map (fun e => (e, k)) ++ st) = runD c f (seen + sizeK m ks) st) := by
    intro m one ks
    induction ks with
    | nil => intro _ k seen f st _ _; rfl
    | cons e r ih =>
      intro hg k seen f st hk hs
      rw [sizeK_cons] at hs ⊢
      rw [show f + ((spotsD m e).length + sizeK m r) = (f + sizeK m r) + (spotsD m e).length by omega]
      show runD c _ seen ((e, k) :: (r.map (fun e => (e, k)) ++ st)) = _
      rw [one e (hg e (List.mem_cons_self ..)) k seen _ _ hk (by omega), ih (fun x hx => hg x (List.mem_cons_of_mem _ hx)) k _ f st hk (by omega), Nat.add_assoc]
  refine ⟨?_, part2 n ?_⟩ <;> induction n with
  | zero => intro d h; cases h
  | succ n ih =>
    intro d h k seen f st hk hs
    cases h with
    | leaf h1 h2 h3 hf _ _ =>
      rw [spots_leaf h1 h2 h3] at hs ⊢
      have hs' : seen + 1 ≤ 30 := hs
      show runD c (f + 1) seen _ = runD c f (seen + 1) st
      rw [run_on hf (by omega) (by omega), kids_leaf h1 h2 h3]
      rfl
    | @not _ e he =>
      rw [spots_not, List.length_cons, List.length_map] at hs ⊢
      rw [show f + ((spotsD n e).length + 1) = (f + (spotsD n e).length) + 1 by omega, run_on formN (by omega) (by omega), kids_not]
      show runD c _ _ ((e, k + 1) :: st) = _
      rw [ih e he (k + 1) (seen + 1) f st (by omega) (by omega)]
      congr 1
      omega
    | @kids _ s ks hsx l2 _ hks =>
      rw [spots_kids hsx, List.length_cons] at hs ⊢
      have e0 : (kidSp (spotsD n) 0 ks).length = sizeK n ks := rfl
      rw [e0] at hs ⊢
      rw [show f + (sizeK n ks + 1) = (f + sizeK n ks) + 1 by omega, run_on (form_kids hsx l2) (by omega) (by omega), kids_kids hsx, part2 n ih ks hks (k + 1) (seen + 1) f st (by omega) (by omega)]
      congr 1
      omega
theorem mem_kidSp {f : PyData → List (List Nat)} {w : List Nat} : ∀ {ks : List PyData} {i : Nat}, w ∈ kidSp f i ks → ∃ j e w', ks[j]? = some e ∧ w' ∈ f e ∧ w = 1 :: (i + j) :: w'
  | [], _, h => by cases h
  | e :: r, i, h => by
    rw [kidSp_cons] at h
    rcases List.mem_append.mp h with h | h
    · obtain ⟨w', h1, rfl⟩ := List.mem_map.mp h
      exact ⟨0, e, w', rfl, h1, rfl⟩
    · obtain ⟨j, e', w', h1, h2, h3⟩ := mem_kidSp h
      exact ⟨j + 1, e', w', h1, h2, by rw [h3, Nat.add_right_comm, Nat.add_assoc]⟩
theorem spots_pos {n : Nat} {d : PyData} : 1 ≤ (spotsD (n + 1) d).length := by
  unfold spotsD
  split
  · split
    · simp
    · split
      · simp
      · simp
  · simp
/-- the places within a good formula -/
inductive At (c : Cols) : Nat → PyData → List Nat → Prop
  | here {n : Nat} {d : PyData} : Good c (n + 1) d → At c (n + 1) d []
  | not {n : Nat} {e : PyData} {w : List Nat} : Good c n e → At c n e w → At c (n + 1) (.tuple [.str "not", e]) (1 :: w)
  | kid {n : Nat} {s : Str} {ks : List PyData} {i : Nat} {e : PyData} {w : List Nat} : s = "and" ∨ s = "or" → 2 ≤ ks.length → ks.length ≤ 100 → (∀ e, e ∈ ks → Good c n e) → ks[i]? = some e → At c n e w → At c (n + 1) (.tuple [.str s, .tuple ks]) (1 :: i :: w)
theorem at_of_spot {c : Cols} : ∀ {n : Nat} {d : PyData}, Good c n d → ∀ w : List Nat, w ∈ spotsD n d → At c n d w
  | 0, _, h, _, _ => by cases h
  | n + 1, d, h, w, hw => by
    have h' := h
    cases h with
    | leaf h1 h2 h3 _ _ _ =>
      rw [spots_leaf h1 h2 h3] at hw
      obtain rfl := List.mem_singleton.mp hw
      exact .here h'
    | not he =>
      rw [spots_not] at hw
      rcases List.mem_cons.mp hw with rfl | hw
      · exact .here h'
      · obtain ⟨w', h1, rfl⟩ := List.mem_map.mp hw
        exact .not he (at_of_spot he _ h1)
    | kids hs l2 l100 hks =>
      rw [spots_kids hs] at hw
      rcases List.mem_cons.mp hw with rfl | hw
      · exact .here h'
      · obtain ⟨j, e, w', h1, h2, rfl⟩ := mem_kidSp hw
        rw [Nat.zero_add]
        exact .kid hs l2 l100 hks h1 (at_of_spot (hks e (List.mem_of_getElem? h1)) _ h2)
theorem put_not {s : Str} {e : PyData} {w : List Nat} {b : PyData} : putD (1 :: w) (.tuple [.str s, e]) b = .tuple [.str s, putD w e b] := rfl
theorem put_kid {s : Str} {ks : List PyData} {i : Nat} {e : PyData} {w : List Nat} {b : PyData} (h : ks[i]? = some e) : putD (1 :: i :: w) (.tuple [.str s, .tuple ks]) b = .tuple [.str s, .tuple (ks.set i (putD w e b))] := by
  show PyData.tuple [.str s, .tuple (ks.set i (putD w (ks.getD i .none) b))] = _
  rw [List.getD_eq_getElem?_getD, h]
  rfl
theorem set_split {α : Type} : ∀ {ks : List α} {i : Nat} {e y : α}, ks[i]? = some e → ∃ l r, ks = l ++ e :: r ∧ l.length = i ∧ ks.set i y = l ++ y :: r
  | [], _, _, _, h => by simp at h
  | x :: ks, 0, e, y, h => by
    obtain rfl := Option.some.inj h
    exact ⟨[], ks, rfl, rfl, rfl⟩
  | x :: ks, i + 1, e, y, h => by
    obtain ⟨l, r, h1, h2, h3⟩ := set_split (y := y) (show ks[i]? = some e from h)
    exact ⟨x :: l, r, by rw [h1]; rfl, by rw [List.length_cons, h2], by show x :: ks.set i y = _; rw [h3]; rfl⟩
/-- with a part that is none behind a place, just that part is told -/
theorem run_put {c : Cols} {b : PyData} (hb : formD c b = false) {n : Nat} {d : PyData} {w : List Nat} (h : At c n d w) : ∀ (k seen f : Nat) (st : List (PyData × Nat)), k + n ≤ 9 → seen + (spotsD n d).length ≤ 30 → (spotsD n d).length ≤ f → runD c f seen ((putD w d b, k) :: st) = some b := by
  induction h with
  | @here n d _ =>
    intro k seen f st _ _ hf
    have := spots_pos (n := n) (d := d)
    obtain ⟨g, rfl⟩ : ∃ g, f = g + 1 := ⟨f - 1, by omega⟩
    exact run_bad hb
  | @not n e w _ _ ih =>
    intro k seen f st hk hs hf
    rw [spots_not, List.length_cons, List.length_map] at hs hf
    obtain ⟨g, rfl⟩ : ∃ g, f = g + 1 := ⟨f - 1, by omega⟩
    rw [put_not, run_on formN (by omega) (by omega), kids_not]
    exact ih (k + 1) (seen + 1) g st (by omega) (by omega) (by omega)
  | @kid n s ks i e w hsx l2 _ hks hi _ ih =>
    intro k seen f st hk hs hf
    rw [spots_kids hsx, List.length_cons] at hs hf
    obtain ⟨g, rfl⟩ : ∃ g, f = g + 1 := ⟨f - 1, by omega⟩
    obtain ⟨l, r, e1, e2, e3⟩ := set_split (y := putD w e b) hi
    have l2' : 2 ≤ (ks.set i (putD w e b)).length := by rw [List.length_set]; exact l2
    rw [put_kid hi, run_on (form_kids hsx l2') (by omega) (by omega), kids_kids hsx, e3, List.map_append, List.append_assoc]
    have ez : (kidSp (spotsD n) 0 ks).length = sizeK n l + ((spotsD n e).length + sizeK n r) := by
      rw [e1, kidSp_app, List.length_append, kidSp_len _ (0 + l.length) 0]
      show sizeK n l + sizeK n (e :: r) = _
      rw [sizeK_cons]
    rw [ez] at hs hf
    have hl : ∀ x, x ∈ l → Good c n x := fun x hx => hks x (by rw [e1]; exact List.mem_append_left _ hx)
    have rg := (run_good (c := c) n).2 l hl (k + 1) (seen + 1) (g - sizeK n l) (((putD w e b :: r).map fun e => (e, k + 1)) ++ st) (by omega) (by omega)
    rw [show g - sizeK n l + sizeK n l = g by omega] at rg
    rw [rg]
    exact ih (k + 1) (seen + 1 + sizeK n l) (g - sizeK n l) _ (by omega) (by omega) (by omega)
/-! ### what may be walked over -/
inductive Tame (c : Cols) : PyData → Prop
  | mk {d : PyData} : DataOk d → (formD c d = true → (kidsD d).length ≤ 1000) → (formD c d = true → ∀ e, e ∈ kidsD d → Tame c e) → Tame c d
theorem tame_closed (c : Cols) : Closed c (Tame c) := fun d h => by
  cases h with
  | mk a b e => exact ⟨a, fun f => ⟨b f, e f⟩⟩
theorem tame_bad {c : Cols} {b : PyData} (h : formD c b = false) (ok : DataOk b) : Tame c b := .mk ok (fun f => by rw [h] at f; cases f) (fun f => by rw [h] at f; cases f)
theorem data_two {s : Str} {x : PyData} (hs : s.length ≤ 1000) (hx : StrOk x) : DataOk (.tuple [.str s, x]) := fun ds e => by
  cases e
  refine ⟨fun d hd => ?_, fun h r z => ?_, fun h a b e z => by cases z⟩
  · rcases List.mem_cons.mp hd with rfl | hd
    · intro t z
      cases z
      exact hs
    · obtain rfl := List.mem_singleton.mp hd
      exact hx
  · cases z
    rfl
theorem tame_not {c : Cols} {e : PyData} (h : Tame c e) (hx : StrOk e) : Tame c (.tuple [.str "not", e]) := by
  refine .mk (data_two (by decide +kernel) hx) (fun _ => ?_) (fun _ => ?_)
  · rw [kids_not]
    show 1 ≤ 1000
    decide
  · rw [kids_not]
    intro x hx
    obtain rfl := List.mem_singleton.mp hx
    exact h
theorem tame_kids {c : Cols} {s : Str} {ks : List PyData} (hs : s = "and" ∨ s = "or") (l : ks.length ≤ 1000) (h : ∀ e, e ∈ ks → Tame c e) : Tame c (.tuple [.str s, .tuple ks]) := by
  refine .mk (data_two (by rcases hs with h | h <;> subst h <;> decide +kernel) (fun t z => by cases z)) (fun _ => ?_) (fun _ => ?_)
  · rw [kids_kids hs]
    exact l
  · rw [kids_kids hs]
    exact h
theorem good_tup {c : Cols} {n : Nat} {d : PyData} (h : Good c n d) : StrOk d := by
  cases h <;> exact fun t z => by cases z
theorem good_tame {c : Cols} {n : Nat} {d : PyData} (h : Good c n d) : Tame c d := by
  induction h with
  | leaf h1 h2 h3 _ ok _ =>
    refine .mk ok (fun _ => ?_) (fun _ => ?_)
    · rw [kids_leaf h1 h2 h3]
      decide
    · rw [kids_leaf h1 h2 h3]
      intro x hx
      cases hx
  | not he ih => exact tame_not ih (good_tup he)
  | kids hs _ l _ ih => exact tame_kids hs (by omega) ih
theorem put_tup {c : Cols} {n : Nat} {d b : PyData} {w : List Nat} (h : At c n d w) (hb : StrOk b) : StrOk (putD w d b) := by
  cases h with
  | here _ => exact hb
  | not _ _ => exact fun t z => by cases z
  | kid _ _ _ _ _ _ => exact fun t z => by cases z
theorem put_tame {c : Cols} {n : Nat} {d b : PyData} {w : List Nat} (hb : formD c b = false) (ok : DataOk b) (sb : StrOk b) (h : At c n d w) : Tame c (putD w d b) := by
  induction h with
  | here _ => exact tame_bad hb ok
  | not _ h ih => exact tame_not ih (put_tup h sb)
  | @kid n s ks i e w hs _ l hks hi h ih =>
    rw [put_kid hi]
    refine tame_kids hs (by rw [List.length_set]; omega) fun x hx => ?_
    obtain ⟨l, r, e1, _, e3⟩ := set_split (y := putD w e b) hi
    rw [e3] at hx
    rcases List.mem_append.mp hx with hx | hx
    · exact good_tame (hks x (by rw [e1]; exact List.mem_append_left _ hx))
    · rcases List.mem_cons.mp hx with rfl | hx
      · exact ih
      · exact good_tame (hks x (by rw [e1]; exact List.mem_append_right _ (List.mem_cons_of_mem _ hx)))
/-! ### what the law compares -/
theorem run_nil (c : Cols) (f seen : Nat) : runD c f seen [] = none := by
  cases f <;> rfl
theorem whole_good {c : Cols} {n : Nat} {d : PyData} (h : Good c n d) (hn : n ≤ 8) (hs : (spotsD n d).length ≤ 30) : runD c 32 0 [(d, 1)] = none := by
  have r := (run_good (c := c) n).1 d h 1 0 (32 - (spotsD n d).length) [] (by omega) (by omega)
  rw [show 32 - (spotsD n d).length + (spotsD n d).length = 32 by omega] at r
  rw [r]
  exact run_nil _ _ _
theorem whole_put {c : Cols} {n : Nat} {d b : PyData} {w : List Nat} (hb : formD c b = false) (h : At c n d w) (hn : n ≤ 8) (hs : (spotsD n d).length ≤ 30) : runD c 32 0 [(putD w d b, 1)] = some b := run_put hb h 1 0 32 [] (by omega) (by omega) (by omega)
theorem whole_both {c : Cols} {n : Nat} {d b y : PyData} {w : List Nat} (hb : formD c b = false) (h : At c n d w) (hn : n ≤ 7) (hs : (spotsD n d).length ≤ 29) : runD c 32 0 [(.tuple [.str "or", .tuple [putD w d b, y]], 1)] = some b := by
  have e := run_on (c := c) (f := 31) (seen := 0) (k := 1) (st := []) (form_kids (s := "or") (ks := [putD w d b, y]) (.inr rfl) (Nat.le_refl 2)) (by omega) (by omega)
  rw [e, kids_kids (.inr rfl)]
  exact run_put hb h 2 1 31 [(y, 2)] (by omega) (by omega) (by omega)
def nots : Nat → PyData → PyData
  | 0, d => d
  | n + 1, d => .tuple [.str "not", nots n d]
theorem nots_good {c : Cols} {d : PyData} (h : Good c 1 d) : ∀ n, Good c (n + 1) (nots n d)
  | 0 => h
  | n + 1 => .not (nots_good h n)
theorem nots_size {d : PyData} (h : (spotsD 1 d).length = 1) : ∀ n, (spotsD (n + 1) (nots n d)).length = n + 1
  | 0 => h
  | n + 1 => by
    show (spotsD (n + 1 + 1) (.tuple [.str "not", nots n d])).length = _
    rw [spots_not, List.length_cons, List.length_map, nots_size h n]
theorem run_nots {c : Cols} {d : PyData} : ∀ (n k seen f : Nat) (st : List (PyData × Nat)), k + n = 9 → seen + n < 30 → runD c (f + n + 1) seen ((nots n d, k) :: st) = some d
  | 0, k, seen, f, st, hk, hs => by
    refine if_pos ?_
    rw [decide_eq_true (show 8 < k by omega)]
    rfl
  | n + 1, k, seen, f, st, hk, hs => by
    show runD c (f + (n + 1) + 1) seen ((.tuple [.str "not", nots n d], k) :: st) = some d
    rw [run_on formN (by omega) (by omega), kids_not]
    exact run_nots n (k + 1) (seen + 1) f st (by omega) (by omega)
theorem whole_nots {c : Cols} {d : PyData} : runD c 32 0 [(nots 8 d, 1)] = some d := run_nots 8 1 0 23 [] rfl (by decide)
/-- one that is one too many -/
theorem whole_wide {c : Cols} {l : List PyData} {d : PyData} (h : ∀ e, e ∈ l → Good c 1 e) (hl : sizeK 1 l = 29) (ll : 1 ≤ l.length) : runD c 32 0 [(.tuple [.str "and", .tuple (l ++ [d])], 1)] = some d := by
  have e := run_on (c := c) (f := 31) (seen := 0) (k := 1) (st := []) (form_kids (s := "and") (ks := l ++ [d]) (.inl rfl) (by rw [List.length_append, List.length_singleton]; omega)) (by omega) (by omega)
  rw [e, kids_kids (.inl rfl), List.map_append, List.append_assoc]
  have r := (run_good (c := c) 1).2 l h 2 1 2 ([(d, 2)] ++ []) (by omega) (by omega)
  rw [hl] at r
  refine r.trans ?_
  refine if_pos ?_
  show (decide (8 < 2) || (decide (30 < 1 + 29 + 1) || !formD c d)) = true
  rw [decide_eq_true (show 30 < 1 + 29 + 1 by omega)]
  simp

end
end My
set_option Elab.async false
set_option linter.all false
set_option maxRecDepth 100000
set_option maxHeartbeats 400000
namespace My
open PySem L2 PySem.Spec PyProof.Rows
section
variable {P : Program} {w : World} {K : PySem.W.Frag} {mg : Str → Option Value} {base : Heap}
theorem call_isC' {X : Cx} {a D : Addr} {oe : Obj} {cls : Value} {d : Option Addr} {pn : List (Addr × Obj)} (C : ExcC X.K D) (hz : Zc cls d oe) (hf : ∃ vs, oe.data = .fields vs) :
    CallR (X.suite a ((a, oe) :: pn)) (.builtin "isinstance") (fun xs H Q => cls = .ref D ∧ ∃ dd, d = some dd ∧ rIsC X.K D a dd xs H Q) := by
  intro pins s σ H xs us Q I r want
  obtain ⟨rfl, dd, rfl, want⟩ := want
  exact call_isC C hz hf pins s σ H xs us Q I r want
def sp_refused (C : Addr) (K : PySem.W.Frag) : Sp := fun vs H Q _ => ∃ (p : Addr) (c : Cols) (v : V) (d : PyData) (G : PyData → Prop), vs = [.ref p, v] ∧ ColsAt C H p c ∧ Dp K H v d ∧ Closed c G ∧ G d ∧
  (runD c 32 0 [(d, 1)] = none → SeqAt.shaped d = true ∧ ∀ H', Same H H' → Q .non H') ∧
  (∀ e, runD c 32 0 [(d, 1)] = some e → ∀ (u : V) (q : Addr) (H' : Hp), Same H H' → Dp K H u e → H' q = some (.tup [u]) → Q (.ref q) H')
theorem ok__law_refused (T : Txt K mg) : FnOk P w K mg base CX0 7 T.a__law_refused T.d__law_refused ["columns", "plan"] (sp_refused T.c_Columns K) := by
  have G_checked_plan := ok_checked_plan (P := P) (w := w) (base := base) T
  refine T.F__law_refused.ok sc__law_refused (fun vs H Q E h => ?_) (fun cdv A outer s H vs Q E hr h => ?_)
  · obtain ⟨p, c, v, d, G, rfl, _⟩ := h
    rfl
  obtain ⟨p, c, v, d, G, rfl, hc, hd, cG, gd, kN, kE⟩ := h
  refine ⟨_, pss_cons (ps_try_as (i := 3) (tb := _) (ts := _) (Wout := fun _ _ _ _ => False) rfl rfl sc__law_refused.nd rfl rfl ⟨rfl, by decide, Or.inl T.m_BadPlan⟩ takes0
      (fun W pn xe tk _ => pss_one (ps_set (i := 2) sc__law_refused.nd rfl (Or.inl rfl) (by exact (pe_callS G_checked_plan (hr.mono (by first | decide | omega)) (by rfl) T.m_checked_plan T.F_checked_plan.kp T.b_checked_plan (fun σ => passAt tk σ) (by exact (pa_cons (pv 0) (pa_cons (pv 1) pa_nil)))))))
      (fun a oe cls d pn hz hf => pss_one (ps_ret (pe_ifExp (pt_val (pe_callB (call_isC' T.xe_BadPlan hz hf) (by rfl) T.z_isinstance (by decide +kernel) (pa_cons (pv 3) (pa_cons (pe_glob (v := .ref T.c_SieveError) (by rfl) T.m_SieveError rfl) pa_nil)))) (pe_tup (pa_cons (pe_xf T.xf_BadPlan T.xn_BadPlan hz hf (pv 3)) pa_nil)) pe_non))))
    (pss_one (ps_ret (pe_ifExp (pt_cmpR (op_eqD (hu64 hr)) (pv 2) (pv 1) (nomark _)) pe_non (pe_tup (pa_cons pe_str pa_nil))))), ?_⟩
  refine ⟨_, rfl, _, rfl, p, c, v, d, G, rfl, hc, hd, cG, gd, fun hn H' g => ?_, fun e he u dx H' g du hx => ?_⟩
  · obtain ⟨sh, k⟩ := kN hn
    have d' := dp_same g _ _ hd
    refine ⟨_, rfl, _, rfl, d, d, d', d', sh, sh, _, rfl, ?_⟩
    rw [SeqAt.eqv_refl d (SeqAt.canLay_of_shaped sh)]
    exact iteT (k _ g)
  · refine ⟨true, T.xm_BadPlan, fun _ a ha => ?_, fun z => Bool.noConfusion z⟩
    refine ⟨_, rfl, rfl, dx, rfl, T.c_SieveError, true, _, rfl, hx, T.xk_BadPlan, _, rfl, iteT ?_⟩
    refine ⟨_, rfl, rfl, rfl, dx, _, u, rfl, hx, look_head, (by show 1 ≤ sizeLine; decide), fun q hq => ?_⟩
    exact kE e he u q _ (g.trans (same_new hq _)) du upd_same

end
end My
set_option Elab.async false
set_option linter.all false
set_option maxRecDepth 100000
set_option maxHeartbeats 400000
namespace My
open PySem L2 PySem.Spec PyProof.Rows
section
variable {P : Program} {w : World} {K : PySem.W.Frag} {mg : Str → Option Value} {base : Heap}
theorem no_part {σ : L2.St} {H : Hp} {Q : Option Int → Hp → Prop} (h : Q none H) : tNoPart σ H Q := h
theorem cut_whole {xs : List V} {lo hi : Option Int} (z : HT.sIx xs.length 0 lo = 0 ∧ HT.sIx xs.length xs.length hi = xs.length) : cutV xs lo hi = xs := by
  unfold cutV
  rw [z.1, z.2, List.drop_zero, Nat.sub_zero, List.take_length]
theorem rSlA_any {K : PySem.W.Frag} {H : Hp} {Q : VK} {a : Addr} {xs : List V} {lo hi : Option Int} (hs : SqT K H a xs) (k : ∀ p H', Same H H' → SqT K H' p (cutV xs lo hi) → Q (.ref p) H') : rSlA K (.ref a) lo hi H Q :=
  ⟨a, xs, rfl, hs, fun z => k a H (Same.refl _) (by rw [cut_whole z]; exact hs), fun _ p hp => k p _ (same_new hp _) (SqT.of upd_same)⟩
theorem rCatA_any {K : PySem.W.Frag} {H : Hp} {Q : VK} {a b : Addr} {xs ys : List V} (hs : SqT K H a xs) (ht : SqT K H b ys) (hz : xs.length + ys.length ≤ sizeLine) (k : ∀ p H', Same H H' → SqT K H' p (xs ++ ys) → Q (.ref p) H') : rCatA K (.ref a) (.ref b) H Q :=
  ⟨a, b, xs, ys, rfl, rfl, hs, ht, hz, fun z => k b H (Same.refl _) (by rw [z]; exact ht), fun _ z => k a H (Same.refl _) (by rw [z, List.append_nil]; exact hs), fun _ _ p hp => k p _ (same_new hp _) (SqT.of upd_same)⟩
theorem cut_to {xs : List V} {i : Nat} (h : i ≤ xs.length) : cutV xs none (some (i : Int)) = xs.take i := by
  unfold cutV
  rw [HT.sIx_none, HT.sIx_nat, List.drop_zero, Nat.sub_zero, Nat.min_eq_left h]
theorem cut_from {xs : List V} {i : Nat} (h : i ≤ xs.length) : cutV xs (some (i : Int)) none = xs.drop i := by
  unfold cutV
  rw [HT.sIx_none, HT.sIx_nat, Nat.min_eq_left h, List.take_of_length_le (by rw [List.length_drop]; omega)]
def wayD (w : List Nat) : PyData := .tuple (w.map fun i : Nat => PyData.int (i : Int))
/-- a place that is there -/
inductive Ways : PyData → List Nat → Prop
  | here {d : PyData} : Ways d []
  | step {xs : List PyData} {i : Nat} {e : PyData} {w : List Nat} : xs.length ≤ 1000 → xs[i]? = some e → Ways e w → Ways (.tuple xs) (i :: w)
theorem at_ways {c : Cols} {n : Nat} {d : PyData} {w : List Nat} (h : At c n d w) : Ways d w := by
  induction h with
  | here _ => exact .here
  | not _ _ ih => exact .step (by show 2 ≤ 1000; decide) rfl ih
  | kid _ _ l _ hi _ ih => exact .step (by show 2 ≤ 1000; decide) rfl (.step (by omega) hi ih)
theorem dps_take {K : PySem.W.Frag} {H : Hp} {vs : List V} {ds : List PyData} (h : DpAll K H vs ds) : ∀ i, DpAll K H (vs.take i) (ds.take i) := by
  intro i
  induction i generalizing vs ds with
  | zero => rw [List.take_zero, List.take_zero]; exact .nil
  | succ i ih =>
    cases h with
    | nil => exact .nil
    | cons a b => exact .cons a (ih b)
theorem dps_drop {K : PySem.W.Frag} {H : Hp} {vs : List V} {ds : List PyData} (h : DpAll K H vs ds) : ∀ i, DpAll K H (vs.drop i) (ds.drop i) := by
  intro i
  induction i generalizing vs ds with
  | zero => exact h
  | succ i ih =>
    cases h with
    | nil => exact .nil
    | cons a b => exact ih b
theorem dps_app {K : PySem.W.Frag} {H : Hp} {vs us : List V} {ds es : List PyData} (h : DpAll K H vs ds) (k : DpAll K H us es) : DpAll K H (vs ++ us) (ds ++ es) := by
  induction vs generalizing ds with
  | nil => cases h; exact k
  | cons v vs ih =>
    cases h with
    | cons a b => exact .cons a (ih b)
theorem wayD_shaped (w : List Nat) : SeqAt.shaped (wayD w) = true := by
  have h1 : ∀ w : List Nat, PyData.canLayAll0 (w.map fun i : Nat => PyData.int (i : Int)) = true := fun w => by
    induction w with
    | nil => rfl
    | cons i w ih => exact ih
  have h2 : ∀ w : List Nat, PyData.depthAll (w.map fun i : Nat => PyData.int (i : Int)) ≤ 1 := fun w => by
    induction w with
    | nil => decide
    | cons i w ih => exact Nat.max_le.mpr ⟨by show 0 ≤ 1; decide, ih⟩
  unfold SeqAt.shaped
  rw [Bool.and_eq_true]
  refine ⟨h1 w, decide_eq_true ?_⟩
  have := h2 w
  show PyData.depthAll _ + 1 ≤ 64
  omega
def sp_put (K : PySem.W.Frag) (m : Nat) : Sp := fun vs H Q _ => ∃ (v wv bv : V) (d b : PyData) (w : List Nat), vs = [v, wv, bv] ∧ Dp K H v d ∧ Dp K H wv (wayD w) ∧ Dp K H bv b ∧ Ways d w ∧ w.length < m ∧ ∀ (u : V) (H' : Hp), Same H H' → Dp K H' u (putD w d b) → Q u H'
theorem eqv_way (w : List Nat) : PyData.eqv (wayD w) (.tuple []) = decide (w = []) := by
  cases w <;> rfl
theorem ok_put (T : Txt K mg) : ∀ m, FnOk P w K mg base CX0 (m + 1) T.a__law_put T.d__law_put ["plan", "way", "part"] (sp_put K m) := by
  intro m
  induction m with
  | zero => exact T.F__law_put.ok sc__law_put (fun vs H Q E h => by obtain ⟨_, _, _, _, _, _, rfl, _⟩ := h; rfl) (fun cdv A outer s H vs Q E hr h => by obtain ⟨_, _, _, _, _, _, _, _, _, _, _, z, _⟩ := h; exact absurd z (Nat.not_lt_zero _))
  | succ m G__law_put =>
    refine T.F__law_put.ok sc__law_put (fun vs H Q E h => ?_) (fun cdv A outer s H vs Q E hr h => ?_)
    · obtain ⟨_, _, _, _, _, _, rfl, _⟩ := h
      rfl
    obtain ⟨v, wv, bv, d, b, w, rfl, hd, hw, hb, ways, lm, k⟩ := h
    refine ⟨_, (pss_cons (ps_if (pt_cmpR (op_eqD (hu64 hr)) (pv 1) (pe_tup pa_nil) (nomark _)) (pss_one (ps_ret (pv 2))) pss_nil)
    (pss_one (ps_ret (pe_op op_catA (pe_op op_catA (pe_slice sl_tupA (pv 0) po_none (po_some (pe_ix ix_tup (pv 1) pe_int (fun _ _ => rfl)))) (pe_tup (pa_cons (pe_call G__law_put (hr.mono (by first | decide | omega)) (by rfl) T.m__law_put T.F__law_put.kp T.b__law_put .nil pass0 (pa_cons (pe_ix ix_tup (pv 0) (pe_ix ix_tup (pv 1) pe_int (fun _ _ => rfl)) (fun _ _ => rfl)) (pa_cons (pe_slice sl_tupA (pv 1) (po_some pe_int) po_none) (pa_cons (pv 2) pa_nil)))) pa_nil))) (pe_slice sl_tupA (pv 0) (po_some (pe_op op_add (pe_ix ix_tup (pv 1) pe_int (fun _ _ => rfl)) pe_int)) po_none))))), ?_⟩
    refine ⟨_, rfl, (by show 0 ≤ sizeLine; decide), fun q hq => ?_⟩
    have g1 := same_new hq (.tup [])
    have sh0 : SeqAt.shaped (.tuple []) = true := by decide +kernel
    refine ⟨wayD w, .tuple [], dp_same g1 _ _ hw, .tup (SqT.of upd_same) .nil, wayD_shaped w, sh0, _, rfl, ?_⟩
    rw [eqv_way]
    cases ways with
    | here => 
      rw [decide_eq_true rfl]
      exact iteT ⟨_, rfl, k bv _ g1 (dp_same g1 _ _ hb)⟩
    | @step ds i e w l1000 hi ways =>
    rw [decide_eq_false (by simp)]
    refine iteF ?_
    cases hd with
    | @tup a xs _ hs ha =>
    cases hw with
    | @tup aw ws _ hsw haw =>
    cases haw with
    | @cons wi ws' _ _ h0 hr' =>
    cases h0
    have hs1 := Same.tup g1 hs
    have hsw1 := Same.tup g1 hsw
    have lx : xs.length = ds.length := dps_len ha
    have hl : i < ds.length := (List.getElem?_eq_some_iff.mp hi).1
    obtain ⟨x, hx, dx⟩ := dps_get ha hi
    have hlw := small1000 (n := 0) (by omega)
    have at0 : ∀ {H'}, SqT K H' aw (V.int (i : Int) :: ws') → atI (V.int (i : Int) :: ws') 0 = some (V.int (i : Int)) := fun _ => at_of (j := 0) rfl rfl
    refine ⟨_, rfl, _, rfl, aw, _, 0, _, rfl, rfl, hsw1, at_of (j := 0) rfl rfl, (i : Int), rfl, rSlA_any hs1 fun p1 H2 g2 s2 => ?_⟩
    rw [cut_to (by omega)] at s2
    have g12 := g1.trans g2
    refine ⟨_, rfl, _, rfl, aw, _, 0, _, rfl, rfl, Same.tup g2 hsw1, at_of (j := 0) rfl rfl, a, xs, i, x, rfl, rfl, Same.tup g2 hs1, at_of (j := i) rfl hx, _, rfl, 1, rfl, ?_⟩
    refine no_part ?_
    refine rSlA_any (Same.tup g2 hsw1) fun p3 H3 g3 s3 => ?_
    have c1 : cutV (V.int (i : Int) :: ws') (some 1) none = ws' := cut_from (i := 1) (by rw [List.length_cons]; omega)
    rw [c1] at s3
    have g13 := g12.trans g3
    refine ⟨_, rfl, x, .ref p3, bv, e, b, w, rfl, dp_same g13 _ _ dx, .tup s3 (dps_same g13 _ _ hr'), dp_same g13 _ _ hb, ways, Nat.lt_of_succ_lt_succ lm, fun u H4 g4 du => ⟨(by show 1 ≤ sizeLine; decide), fun q4 f4 => ?_⟩⟩
    have g14 := g13.trans g4
    have g45 := same_new f4 (.tup [u])
    have g15 := g14.trans g45
    have s4 : SqT K (upd H4 q4 (.tup [u])) q4 [u] := SqT.of upd_same
    have du5 := dp_same g45 _ _ du
    have s2' := Same.tup ((g3.trans g4).trans g45) s2
    generalize upd H4 q4 (.tup [u]) = H5 at *
    refine rCatA_any s2' s4 ?_ fun p6 H6 g6 s6 => ?_
    · rw [List.length_take]
      exact Nat.le_of_lt (Nat.lt_of_le_of_lt (show min i xs.length + 1 ≤ 1001 by omega) (by decide))
    have g16 := g15.trans g6
    refine ⟨_, rfl, _, rfl, aw, _, 0, _, rfl, rfl, Same.tup g16 hsw, at_of (j := 0) rfl rfl, _, _, rfl, rfl, _, rfl, ?_⟩
    refine no_part ?_
    refine rSlA_any (Same.tup g16 hs) fun p7 H7 g7 s7 => ?_
    rw [show ((i : Int) + 1) = ((i + 1 : Nat) : Int) by omega, cut_from (by omega)] at s7
    have g17 := g16.trans g7
    refine rCatA_any (Same.tup g7 s6) s7 ?_ fun p8 H8 g8 s8 => ?_
    · rw [List.length_append, List.length_take, List.length_drop]
      exact Nat.le_of_lt (Nat.lt_of_le_of_lt (show min i xs.length + 1 + (xs.length - (i + 1)) ≤ 2001 by omega) (by decide))
    refine k _ _ (g17.trans g8) ?_
    have e9 : putD (i :: w) (.tuple ds) b = .tuple (ds.take i ++ [putD w e b] ++ ds.drop (i + 1)) := by
      show PyData.tuple (ds.set i (putD w (ds.getD i .none) b)) = _
      obtain ⟨l, r, e1, e2, e3⟩ := set_split (y := putD w e b) hi
      rw [List.getD_eq_getElem?_getD, hi]
      show PyData.tuple (ds.set i (putD w e b)) = _
      have t1 : ds.take i = l := by rw [e1, ← e2, List.take_left]
      have t2 : ds.drop (i + 1) = r := by
        rw [e1, show l ++ e :: r = (l ++ [e]) ++ r by simp, ← e2, show l.length + 1 = (l ++ [e]).length by simp, List.drop_left]
      rw [e3, t1, t2]
      simp
    rw [e9]
    refine .tup s8 (dps_app (dps_app (dps_same (g17.trans g8) _ _ (dps_take ha i)) (.cons (dp_same ((g6.trans g7).trans g8) _ _ du5) .nil)) (dps_same (g17.trans g8) _ _ (dps_drop ha (i + 1))))
theorem ok__law_put (T : Txt K mg) : FnOk P w K mg base CX0 10 T.a__law_put T.d__law_put ["plan", "way", "part"] (sp_put K 9) := ok_put T 9

end
end My
set_option Elab.async false
set_option linter.all false
set_option maxRecDepth 100000
set_option maxHeartbeats 400000
namespace My
open PySem L2 PySem.Spec PyProof.Rows
section
variable {P : Program} {w : World} {K : PySem.W.Frag} {mg : Str → Option Value} {base : Heap}
/-! ### off the draw: what stands elsewhere than at d -/
theorem off_new {d q : Addr} {H : Hp} {o : HO} (h : H q = none) : Same (del H d) (del (upd H q o) d) := fun b u e => by
  by_cases c : b = d
  · rw [c, del_same] at e
    cases e
  · rw [del_ne c] at e ⊢
    exact same_new h o b u e
theorem off_but {d : Addr} {H H' : Hp} (h : But d H H') : Same (del H d) (del H' d) := fun b u e => by
  by_cases c : b = d
  · rw [c, del_same] at e
    cases e
  · rw [del_ne c] at e ⊢
    exact h b u c e
theorem off_same {d : Addr} {H H' : Hp} (h : Same H H') : Same (del H d) (del H' d) := off_but (Same.but h)
theorem off_in {d : Addr} {H : Hp} : Same (del H d) H := fun b u e => by
  by_cases c : b = d
  · rw [c, del_same] at e
    cases e
  · rw [del_ne c] at e
    exact e
theorem off_at {d a : Addr} {H : Hp} {o : HO} (h : H a = some o) (n : a ≠ d) : del H d a = some o := by
  rw [del_ne n]
  exact h
theorem Drw.at {K : PySem.W.Frag} {H : Hp} {d : Addr} (h : Drw K H d) : ∃ ys, H d = some (.lst ys) := by
  obtain ⟨a, ns, i, h1, _⟩ := h
  exact ⟨_, h1⟩
theorem drw_ne {K : PySem.W.Frag} {H : Hp} {d q : Addr} (h : Drw K H d) (n : H q = none) : q ≠ d := fun z => by
  obtain ⟨ys, e⟩ := h.at
  rw [z, e] at n
  cases n
/-- the parts of drawn columns -/
def ClAt (K : PySem.W.Frag) (d : Addr) (H : Hp) (cl : Addr) (hs : List Str) (as : List (Str × Bool)) (ss : List Str) : Prop := ∃ l a s, H cl = some (.tup [.ref l, .ref a, .ref s]) ∧ cl ≠ d ∧ l ≠ d ∧ a ≠ d ∧ s ≠ d ∧ SqL K H l (hs.map V.str) ∧ H a = some (.dK (kvsOf as)) ∧ SqL K H s (ss.map V.str)
theorem ClAt.but {K : PySem.W.Frag} {d : Addr} {H H' : Hp} {cl : Addr} {hs : List Str} {as : List (Str × Bool)} {ss : List Str} (h : ClAt K d H cl hs as ss) (b : But d H H') : ClAt K d H' cl hs as ss := by
  obtain ⟨l, a, s, h1, n0, n1, n2, n3, h2, h3, h4⟩ := h
  exact ⟨l, a, s, b _ _ n0 h1, n0, n1, n2, n3, b.seq n1 h2, b _ _ n2 h3, b.seq n3 h4⟩
def colsOf (hs : List Str) (as : List (Str × Bool)) : Cols := ⟨hs, askOf as⟩
def sp_gives (K : PySem.W.Frag) (n : Nat) : Sp := fun vs H Q _ => ∃ (d cl : Addr) (hs : List Str) (as : List (Str × Bool)) (ss : List Str), vs = [.ref d, .ref cl] ∧ Drw K H d ∧ ClAt K d H cl hs as ss ∧ ColsOk hs as ss ∧
  ∀ (v : V) (x : PyData) (H' : Hp), Drw K H' d → But d H H' → Dp K (del H' d) v x → Good (colsOf hs as) n x → Q v H'
theorem form_row {c : Cols} {s : Str} {a b : PyData} (h : s = "row" ∨ s = "block") (ha : nameD a = true) (hb : chanceD b = true) : formD c (.tuple [.str s, a, b]) = true := by
  have e1 : (isS (.str s) "all" || isS (.str s) "none") = false := by rcases h with h | h <;> subst h <;> decide +kernel
  have e2 : isS (.str s) "not" = false := by rcases h with h | h <;> subst h <;> decide +kernel
  have e3 : (isS (.str s) "and" || isS (.str s) "or") = false := by rcases h with h | h <;> subst h <;> decide +kernel
  have e4 : (isS (.str s) "row" || isS (.str s) "block") = true := by rcases h with h | h <;> subst h <;> decide +kernel
  refine (if_neg (by rw [e1]; decide)).trans ((if_neg (by rw [e2]; decide)).trans ((if_neg (by rw [e3]; decide)).trans ?_))
  show ((isS (.str s) "row" || isS (.str s) "block") && (nameD a && chanceD b) || _) = true
  rw [e4, ha, hb]
  rfl
theorem form_hash {c : Cols} {s : Str} {a b e : PyData} (h : s = "hash") (hm : memD c.hs a = true) (ha : nameD b = true) (hb : chanceD e = true) : formD c (.tuple [.str s, a, b, e]) = true := by
  have e1 : (isS (.str s) "all" || isS (.str s) "none") = false := by subst h; decide +kernel
  have e2 : isS (.str s) "not" = false := by subst h; decide +kernel
  have e3 : (isS (.str s) "and" || isS (.str s) "or") = false := by subst h; decide +kernel
  have e4 : isS (.str s) "hash" = true := by subst h; decide +kernel
  refine (if_neg (by rw [e1]; decide)).trans ((if_neg (by rw [e2]; decide)).trans ((if_neg (by rw [e3]; decide)).trans ?_))
  show (isS (.str s) "hash" && (memD c.hs a && nameD b && chanceD e) || _) = true
  rw [e4, hm, ha, hb]
  rfl
/-- the chances that are drawn -/
def chanceL : List (Int × Int) := [(1, 2), (1, 2), (1, 3), (2, 3), (1, 4), (0, 1), (1, 1), (997, 1000)]
def pairD (p : Int × Int) : PyData := .tuple [.int p.1, .int p.2]
theorem chance_ok : ∀ p, p ∈ chanceL → chanceD (pairD p) = true := by decide +kernel
theorem data_three {s t : Str} {x : PyData} (h1 : s.length ≤ 1000) (h2 : t.length ≤ 1000) (hx : StrOk x) : DataOk (.tuple [.str s, .str t, x]) := fun ds e => by
  cases e
  refine ⟨fun d hd => ?_, fun h r z => ?_, fun h a b e z => by cases z⟩
  · rcases List.mem_cons.mp hd with rfl | hd
    · intro t z
      cases z
      exact h1
    · rcases List.mem_cons.mp hd with rfl | hd
      · intro t z
        cases z
        exact h2
      · obtain rfl := List.mem_singleton.mp hd
        exact hx
  · cases z
    rfl
theorem data_four {s t u : Str} {x : PyData} (h1 : s.length ≤ 1000) (h2 : t.length ≤ 1000) (h3 : u.length ≤ 1000) (hx : StrOk x) : DataOk (.tuple [.str s, .str t, .str u, x]) := fun ds e => by
  cases e
  refine ⟨fun d hd => ?_, fun h r z => ?_, fun h a b e z => ?_⟩
  · rcases List.mem_cons.mp hd with rfl | hd
    · intro t z
      cases z
      exact h1
    · rcases List.mem_cons.mp hd with rfl | hd
      · intro t z
        cases z
        exact h2
      · rcases List.mem_cons.mp hd with rfl | hd
        · intro t z
          cases z
          exact h3
        · obtain rfl := List.mem_singleton.mp hd
          exact hx
  · cases z
    rfl
  · cases z
    rfl

end
end My
set_option Elab.async false
set_option linter.all false
set_option maxRecDepth 100000
set_option maxHeartbeats 400000
namespace My
open PySem L2 PySem.Spec PyProof.Rows
section
variable {P : Program} {w : World} {K : PySem.W.Frag} {mg : Str → Option Value} {base : Heap}
mutual
def tDat : PyData → TE
  | .none => tC .non
  | .bool b => tC (.bl b)
  | .int i => tC (.int i)
  | .str s => tC (.str s)
  | .tuple ds => tTup (tDats ds)
  | .list ds => tLst (tDats ds)
  | .dict _ => fun _ _ _ => False
def tDats : List PyData → TA
  | [] => tNil
  | d :: ds => tCons (tDat d) (tDats ds)
end
mutual
def smD : PyData → Bool
  | .tuple ds => decide (ds.length ≤ 1000) && smDs ds
  | .list ds => decide (ds.length ≤ 1000) && smDs ds
  | .dict _ => false
  | .none => true
  | .bool _ => true
  | .int _ => true
  | .str _ => true
def smDs : List PyData → Bool
  | [] => true
  | d :: ds => smD d && smDs ds
end
theorem le_line {n : Nat} (h : n ≤ 1000) : n ≤ sizeLine := Nat.le_of_lt (small1000 h)
mutual
theorem lay_dat {K : PySem.W.Frag} {dd : Addr} : ∀ (d : PyData) (_ : smD d = true) {σ : L2.St} {H : Hp} {Q : VK}, (∃ o, H dd = some o) → (∀ v H', Same H H' → Dp K (del H' dd) v d → Q v H') → tDat d σ H Q
  | .none, _, _, H, _, _, k => k _ H (Same.refl H) .non
  | .bool b, _, _, H, _, _, k => k _ H (Same.refl H) (.bl b)
  | .int i, _, _, H, _, _, k => k _ H (Same.refl H) (.int i)
  | .str s, _, _, H, _, _, k => k _ H (Same.refl H) (.str s)
  | .dict _, h, _, _, _, _, _ => by cases h
  | .tuple ds, h, σ, H, Q, ht, k => by
    have h' : (decide (ds.length ≤ 1000) && smDs ds) = true := h
    rw [Bool.and_eq_true] at h'
    show tTup (tDats ds) σ H Q
    refine lay_dats (K := K) ds h'.2 ht fun vs H1 g dv => ⟨le_line (by rw [dps_len dv]; exact of_decide_eq_true h'.1), fun p hp => k _ _ (g.trans (same_new hp _)) ?_⟩
    obtain ⟨o, ho⟩ := ht
    have np : p ≠ dd := fun z => by
      rw [z, g _ _ ho] at hp
      cases hp
    exact .tup (SqT.of (off_at upd_same np)) (dps_same (off_new hp) _ _ dv)
  | .list ds, h, σ, H, Q, ht, k => by
    have h' : (decide (ds.length ≤ 1000) && smDs ds) = true := h
    rw [Bool.and_eq_true] at h'
    show tLst (tDats ds) σ H Q
    refine lay_dats (K := K) ds h'.2 ht fun vs H1 g dv => ⟨le_line (by rw [dps_len dv]; exact of_decide_eq_true h'.1), fun p hp => k _ _ (g.trans (same_new hp _)) ?_⟩
    obtain ⟨o, ho⟩ := ht
    have np : p ≠ dd := fun z => by
      rw [z, g _ _ ho] at hp
      cases hp
    exact .lst (SqL.of (off_at upd_same np)) (dps_same (off_new hp) _ _ dv)
theorem lay_dats {K : PySem.W.Frag} {dd : Addr} : ∀ (ds : List PyData) (_ : smDs ds = true) {σ : L2.St} {H : Hp} {Q : List V → Hp → Prop}, (∃ o, H dd = some o) → (∀ vs H', Same H H' → DpAll K (del H' dd) vs ds → Q vs H') → tDats ds σ H Q
  | [], _, _, H, _, _, k => k _ H (Same.refl H) .nil
  | d :: ds, h, σ, H, Q, ht, k => by
    have h' : (smD d && smDs ds) = true := h
    rw [Bool.and_eq_true] at h'
    show tCons (tDat d) (tDats ds) σ H Q
    refine lay_dat (K := K) d h'.1 ht fun v H1 g dv => lay_dats (K := K) ds h'.2 ?_ fun vs H2 g2 dvs => k _ _ (g.trans g2) (.cons (dp_same (off_same g2) _ _ dv) dvs)
    obtain ⟨o, ho⟩ := ht
    exact ⟨o, g _ _ ho⟩
end
theorem dps_mem {K : PySem.W.Frag} {H : Hp} {vs : List V} {ds : List PyData} (h : DpAll K H vs ds) {i : Nat} {v : V} (hv : vs[i]? = some v) : ∃ x, x ∈ ds ∧ Dp K H v x := by
  have el := dps_len h
  have hi := (List.getElem?_eq_some_iff.mp hv).1
  obtain ⟨u, hu, du⟩ := dps_get h (List.getElem?_eq_getElem (show i < ds.length by omega))
  rw [hv] at hu
  cases hu
  exact ⟨_, List.getElem_mem _, du⟩
/-- _law_pick(draw, [..]) -/
theorem pick_dats {K : PySem.W.Frag} {d : Addr} (ds : List PyData) (sm : smDs ds = true) (l0 : 0 < ds.length) (l1 : ds.length ≤ 1000) {σ : L2.St} {H : Hp} {Q : VK} (h0 : σ[0]? = some (some (.ref d))) (hD : Drw K H d)
    (k : ∀ v x H', x ∈ ds → Drw K H' d → But d H H' → Dp K (del H' d) v x → Q v H') : tCall (sp_pick K) [] E0 (tCons (tVar 0) (tCons (tLst (tDats ds)) tNil)) σ H Q := by
  obtain ⟨ys, hy⟩ := hD.at
  refine ⟨_, h0, lay_dats (K := K) ds sm ⟨_, hy⟩ fun vs H1 g dv => ⟨le_line (by rw [dps_len dv]; exact l1), fun p hp => ?_⟩⟩
  have g2 := same_new hp (.lst vs)
  have hD2 := (hD.same g).same g2
  refine ⟨d, p, vs, rfl, hD2, .inl ⟨SqL.of upd_same, drw_ne (hD.same g) hp⟩, by rw [dps_len dv]; exact l0, fun j v H' hv hD' b => ?_⟩
  obtain ⟨x, hx, dx⟩ := dps_mem dv hv
  have bb : But d H H' := (Same.but (g.trans g2)).trans b
  exact k v x H' hx hD' bb (dp_same ((off_new hp).trans (off_but b)) _ _ dx)

end
end My
set_option Elab.async false
set_option linter.all false
set_option maxRecDepth 100000
set_option maxHeartbeats 400000
namespace My
open PySem L2 PySem.Spec PyProof.Rows
section
variable {P : Program} {w : World} {K : PySem.W.Frag} {mg : Str → Option Value} {base : Heap}
theorem let_small : ∀ c, c ∈ letL.cps.toList → c < 0x110000 := by decide +kernel
theorem nameB_lay {n : Str} (h : nameB n = true) : PyData.canLay0 (.str n) = true := by
  unfold nameB at h
  rw [Bool.and_eq_true, Bool.and_eq_true, Bool.and_eq_true] at h
  have e : (n.cps.toList.all fun c => decide (c < 0x110000)) = true := by
    rw [List.all_eq_true] at h ⊢
    exact fun c hc => decide_eq_true (let_small c (of_decide_eq_true (h.2 c hc)))
  show (n.cps.all fun c => decide (c < 0x110000)) = true
  rw [← Array.all_toList]
  exact e
theorem lay_pair (p : Int × Int) : Lay 1 (pairD p) := ⟨rfl, Nat.le_refl 1, rfl⟩
theorem word_hash {z : Nat} {j : Nat} {v : V} (h : ([V.str "row", V.str "block"] ++ (List.replicate z [V.str "hash", V.str "hash"]).flatten)[j]? = some v) : v = .str "row" ∨ v = .str "block" ∨ (v = .str "hash" ∧ 0 < z) := by
  have m := List.mem_of_getElem? h
  rcases List.mem_append.mp m with m | m
  · rcases List.mem_cons.mp m with m | m
    · exact .inl m
    · exact .inr (.inl (List.mem_singleton.mp m))
  · obtain ⟨l, hl, hv⟩ := List.mem_flatten.mp m
    obtain ⟨nz, rfl⟩ := List.mem_replicate.mp hl
    refine .inr (.inr ⟨?_, Nat.pos_of_ne_zero nz⟩)
    rcases List.mem_cons.mp hv with hv | hv
    · exact hv
    · exact List.mem_singleton.mp hv
theorem ok__law_test (T : Txt K mg) : FnOk P w K mg base CX0 4 T.a__law_test T.d__law_test ["draw", "columns"] (sp_gives K 1) := by
  have G__law_pick := ok__law_pick (P := P) (w := w) (base := base) T
  refine T.F__law_test.ok sc__law_test (fun vs H Q E h => ?_) (fun cdv A outer s H vs Q E hr h => ?_)
  · obtain ⟨d, cl, hs, as, ss, rfl, _⟩ := h
    rfl
  obtain ⟨d, cl, hs, as, ss, rfl, hD, hC, ok, k⟩ := h
  refine ⟨_, (pss_cons (ps_set (i := 2) sc__law_test.nd rfl (by first | exact Or.inl rfl | exact Or.inr rfl) (pe_call G__law_pick (hr.mono (by first | decide | omega)) (by rfl) T.m__law_pick T.F__law_pick.kp T.b__law_pick .nil pass0 (pa_cons (pv 0) (pa_cons (pe_lst (pa_cons (pe_tup (pa_cons pe_int (pa_cons pe_int pa_nil))) (pa_cons (pe_tup (pa_cons pe_int (pa_cons pe_int pa_nil))) (pa_cons (pe_tup (pa_cons pe_int (pa_cons pe_int pa_nil))) (pa_cons (pe_tup (pa_cons pe_int (pa_cons pe_int pa_nil))) (pa_cons (pe_tup (pa_cons pe_int (pa_cons pe_int pa_nil))) (pa_cons (pe_tup (pa_cons pe_int (pa_cons pe_int pa_nil))) (pa_cons (pe_tup (pa_cons pe_int (pa_cons pe_int pa_nil))) (pa_cons (pe_tup (pa_cons pe_int (pa_cons pe_int pa_nil))) pa_nil))))))))) pa_nil))))
    (pss_cons (ps_par (i := 3) (j := 4) rfl sc__law_test.nd rfl rfl (by decide) rfl rfl (pa_cons (pe_call G__law_pick (hr.mono (by first | decide | omega)) (by rfl) T.m__law_pick T.F__law_pick.kp T.b__law_pick .nil pass0 (pa_cons (pv 0) (pa_cons (pe_op op_cat (pe_lst (pa_cons pe_str (pa_cons pe_str pa_nil))) (pe_op op_rep (pe_lst (pa_cons pe_str (pa_cons pe_str pa_nil))) (pe_callB call_len_seq (by rfl) T.z_len (by decide +kernel) (pa_cons (pe_slice sl_list (pe_ix ix_tup (pv 1) pe_int (fun _ _ => rfl)) po_none (po_some pe_int)) pa_nil)))) pa_nil))) (pa_cons (pe_call G__law_pick (hr.mono (by first | decide | omega)) (by rfl) T.m__law_pick T.F__law_pick.kp T.b__law_pick .nil pass0 (pa_cons (pv 0) (pa_cons (pe_lst (pa_cons pe_str (pa_cons pe_str (pa_cons pe_str pa_nil)))) pa_nil))) pa_nil)) (by rfl))
    (pss_one (ps_ret (pe_ifExp (pt_cmpR op_eq (pv 3) pe_str (nomark _)) (pe_tup (pa_cons pe_str (pa_cons (pe_call G__law_pick (hr.mono (by first | decide | omega)) (by rfl) T.m__law_pick T.F__law_pick.kp T.b__law_pick .nil pass0 (pa_cons (pv 0) (pa_cons (pe_ix ix_tup (pv 1) pe_int (fun _ _ => rfl)) pa_nil))) (pa_cons (pv 4) (pa_cons (pv 2) pa_nil))))) (pe_tup (pa_cons (pv 3) (pa_cons (pv 4) (pa_cons (pv 2) pa_nil))))))))), ?_⟩
  refine pick_dats (chanceL.map pairD) (by decide +kernel) (by decide) (by decide) rfl hD fun cv cx H1 hcx hD1 b1 dc1 => ?_
  obtain ⟨l, a, sl, hcl, n0, n1, n2, n3, hl, ha, hsl⟩ := hC.but b1
  refine ⟨_, rfl, (by show 2 ≤ sizeLine; decide), fun p1 f1 => ⟨(by show 2 ≤ sizeLine; decide), fun p2 f2 => ?_⟩⟩
  have g2 := (same_new f1 (.lst [.str "row", .str "block"])).trans (same_new f2 (.lst [.str "hash", .str "hash"]))
  have e1 : upd (upd H1 p1 (.lst [.str "row", .str "block"])) p2 (.lst [.str "hash", .str "hash"]) p1 = some (.lst [.str "row", .str "block"]) := same_new f2 _ _ _ upd_same
  have e2 : upd (upd H1 p1 (.lst [.str "row", .str "block"])) p2 (.lst [.str "hash", .str "hash"]) p2 = some (.lst [.str "hash", .str "hash"]) := upd_same
  generalize upd (upd H1 p1 (.lst [.str "row", .str "block"])) p2 (.lst [.str "hash", .str "hash"]) = H3 at *
  refine ⟨_, rfl, cl, _, 0, _, rfl, rfl, SqT.of (g2 _ _ hcl), at_of (j := 0) rfl rfl, ?_⟩
  refine no_part ⟨1, rfl, l, _, rfl, g2.seq hl, fun p3 f3 => ?_⟩
  have g3 := g2.trans (same_new f3 (.lst (cutV (hs.map V.str) none (some 1))))
  have lz := cutV_length (hs.map V.str) none (some 1)
  rw [List.length_map] at lz
  have lh := ok.lh
  refine ⟨p3, _, rfl, .inl (SqL.of upd_same), p2, _, _, rfl, rfl, same_new f3 _ _ _ e2, by omega, by omega, ?_, fun p4 f4 => ?_⟩
  · exact le_line (show 2 * _ ≤ 1000 by rw [Int.toNat_natCast]; omega)
  generalize hz : (((cutV (hs.map V.str) none (some 1)).length : Nat) : Int).toNat = z at *
  have hz' : z = (cutV (hs.map V.str) none (some 1)).length := by rw [← hz, Int.toNat_natCast]
  have e1b := same_new f3 (.lst (cutV (hs.map V.str) none (some 1))) _ _ e1
  generalize upd H3 p3 (.lst (cutV (hs.map V.str) none (some 1))) = H4 at *
  have g4 := g3.trans (same_new f4 (.lst (List.replicate z [V.str "hash", V.str "hash"]).flatten))
  have e1c := same_new f4 (.lst (List.replicate z [V.str "hash", V.str "hash"]).flatten) _ _ e1b
  have e4 : upd H4 p4 (.lst (List.replicate z [V.str "hash", V.str "hash"]).flatten) p4 = some (.lst (List.replicate z [V.str "hash", V.str "hash"]).flatten) := upd_same
  generalize upd H4 p4 (.lst (List.replicate z [V.str "hash", V.str "hash"]).flatten) = H5 at *
  refine ⟨p1, p4, _, _, rfl, rfl, e1c, e4, ?_, fun p5 f5 => ?_⟩
  · have : (List.replicate z [V.str "hash", V.str "hash"]).flatten.length = z * 2 := by
      rw [List.length_flatten, List.map_replicate, List.sum_replicate_nat]
      rfl
    rw [this]
    exact le_line (show 2 + z * 2 ≤ 1000 by omega)
  have g5 := g4.trans (same_new f5 (.lst ([V.str "row", V.str "block"] ++ (List.replicate z [V.str "hash", V.str "hash"]).flatten)))
  have e5 : upd H5 p5 (.lst ([V.str "row", V.str "block"] ++ (List.replicate z [V.str "hash", V.str "hash"]).flatten)) p5 = some (.lst ([V.str "row", V.str "block"] ++ (List.replicate z [V.str "hash", V.str "hash"]).flatten)) := upd_same
  have np5 : p5 ≠ d := drw_ne (hD1.same g4) f5
  generalize upd H5 p5 (.lst ([V.str "row", V.str "block"] ++ (List.replicate z [V.str "hash", V.str "hash"]).flatten)) = H6 at *
  refine ⟨d, p5, _, rfl, hD1.same g5, .inl ⟨SqL.of e5, np5⟩, (by rw [List.length_append]; exact Nat.lt_of_lt_of_le (by decide) (Nat.le_add_right 2 _)), fun j wv H7 hwv hD7 b7 => ?_⟩
  have word := word_hash hwv
  have b17 : But d H1 H7 := (Same.but g5).trans b7
  refine pick_dats [.str "a", .str "a", .str "b"] (by decide +kernel) (by decide) (by decide) rfl hD7 fun sv sx H8 hsx hD8 b8 dsx => ?_
  obtain ⟨s, rfl, rfl, sok, slen, slay⟩ : ∃ s : Str, sv = .str s ∧ sx = .str s ∧ nameD (.str s) = true ∧ s.length ≤ 1000 ∧ PyData.canLay0 (.str s) = true := by
    rcases List.mem_cons.mp hsx with rfl | hsx
    · cases dsx
      exact ⟨_, rfl, rfl, by decide +kernel, by decide +kernel, by decide +kernel⟩
    rcases List.mem_cons.mp hsx with rfl | hsx
    · cases dsx
      exact ⟨_, rfl, rfl, by decide +kernel, by decide +kernel, by decide +kernel⟩
    obtain rfl := List.mem_singleton.mp hsx
    cases dsx
    exact ⟨_, rfl, rfl, by decide +kernel, by decide +kernel, by decide +kernel⟩
  refine ⟨wv, .str s, rfl, ?_⟩
  have b18 := b17.trans b8
  have b08 := b1.trans b18
  have dc8 := dp_same (off_but b18) _ _ dc1
  obtain ⟨pq, hpq, rfl⟩ := List.mem_map.mp hcx
  have cok := chance_ok pq hpq
  have plain : ∀ wd : Str, (wd = "row" ∨ wd = "block") → wv = .str wd → tRet (tIf (tTest (tOp rEq (tVar 3) (tC (.str "hash")))) (tTup (tCons (tC (.str "hash")) (tCons (tCall (sp_pick K) [] E0 (tCons (tVar 0) (tCons (tOp (rIxT K) (tVar 1) (tC (.int 0))) tNil))) (tCons (tVar 4) (tCons (tVar 2) tNil))))) (tTup (tCons (tVar 3) (tCons (tVar 4) (tCons (tVar 2) tNil)))))
      { nx := fun x H' => Q V.non H', rt := Q } [some (.ref d), some (.ref cl), some cv, some wv, some (.str s)] H8 := fun wd hwd e => by
    subst e
    refine ⟨_, rfl, rfl, _, rfl, ?_⟩
    rw [decide_eq_false (show ¬ V.str wd = V.str "hash" by rcases hwd with h | h <;> subst h <;> decide +kernel)]
    refine iteF ⟨_, rfl, _, rfl, _, rfl, (by show 3 ≤ sizeLine; decide), fun q hq => ?_⟩
    have nq : q ≠ d := drw_ne hD8 hq
    refine k _ (.tuple [.str wd, .str s, pairD pq]) _ (hD8.same (same_new hq _)) (b08.same (same_new hq _)) (.tup (SqT.of (off_at upd_same nq)) (.cons (.str _) (.cons (.str _) (.cons (dp_same (off_new hq) _ _ dc8) .nil)))) ?_
    refine .leaf ?_ ?_ ?_ (form_row hwd sok cok) (data_three (by rcases hwd with h | h <;> subst h <;> decide +kernel) slen (fun t z => by cases z)) ?_
    · rcases hwd with h | h <;> subst h <;> decide +kernel
    · rcases hwd with h | h <;> subst h <;> decide +kernel
    · rcases hwd with h | h <;> subst h <;> decide +kernel
    · refine ⟨?_, (by show 2 ≤ 3; decide), rfl⟩
      show (PyData.canLay0 (.str wd) && (PyData.canLay0 (.str s) && (true && true))) = true
      rw [slay]
      rcases hwd with h | h <;> subst h <;> decide +kernel
  rcases word with rfl | rfl | ⟨rfl, z0⟩
  · exact plain _ (.inl rfl) rfl
  · exact plain _ (.inr rfl) rfl
  refine ⟨_, rfl, rfl, _, rfl, ?_⟩
  rw [decide_eq_true rfl]
  have hl8 := b18.seq n1 hl
  refine iteT ⟨_, rfl, _, rfl, cl, _, 0, _, rfl, rfl, SqT.of (b18 _ _ n0 hcl), at_of (j := 0) rfl rfl, d, l, _, rfl, hD8, .inl ⟨hl8, n1⟩, ?_, fun j nv H9 hnv hD9 b9 => ?_⟩
  · rw [List.length_map]
    omega
  rw [List.getElem?_map] at hnv
  obtain ⟨nm, hnm, rfl⟩ := Option.map_eq_some_iff.mp hnv
  have mem := List.mem_of_getElem? hnm
  have nok := ok.h nm mem
  refine ⟨_, rfl, _, rfl, (by show 4 ≤ sizeLine; decide), fun q hq => ?_⟩
  have nq : q ≠ d := drw_ne hD9 hq
  have b09 := b08.trans b9
  refine k _ (.tuple [.str "hash", .str nm, .str s, pairD pq]) _ (hD9.same (same_new hq _)) (b09.same (same_new hq _)) (.tup (SqT.of (off_at upd_same nq)) (.cons (.str _) (.cons (.str _) (.cons (.str _) (.cons (dp_same ((off_but b9).trans (off_new hq)) _ _ dc8) .nil))))) ?_
  refine .leaf (by decide +kernel) (by decide +kernel) (by decide +kernel) (form_hash rfl ?_ sok cok) (data_four (by decide +kernel) (nameB_ok nok nm rfl) slen (fun t z => by cases z)) ?_
  · show hs.contains nm = true
    exact List.contains_iff_mem.mpr mem
  · refine ⟨?_, (by show 2 ≤ 3; decide), rfl⟩
    show (PyData.canLay0 (.str "hash") && (PyData.canLay0 (.str nm) && (PyData.canLay0 (.str s) && (true && true)))) = true
    rw [slay, nameB_lay nok]
    decide +kernel

end
end My
set_option Elab.async false
set_option linter.all false
set_option maxRecDepth 100000
set_option maxHeartbeats 400000
namespace My
open PySem L2 PySem.Spec PyProof.Rows
section
variable {P : Program} {w : World} {K : PySem.W.Frag} {mg : Str → Option Value} {base : Heap}
theorem askOf_mem {as : List (Str × Bool)} {n : Str} {b : Bool} (nd : (as.map Prod.fst).Nodup) (h : (n, b) ∈ as) : askOf as n = some b := by
  have e := kvsOf_val nd h
  rw [askOf_val] at e
  cases c : askOf as n with
  | none =>
    rw [c] at e
    cases e
  | some b' =>
    rw [c] at e
    have e' : kindV b' = kindV b := Option.some.inj e
    cases b <;> cases b' <;> first | rfl | exact absurd e' (by decide +kernel)
theorem form_num {c : Cols} {s v : Str} {x : PyData} (h : s = "less" ∨ s = "is") (ha : c.ask v = some true) (hx : nearD x = true) : formD c (.tuple [.str s, .str v, x]) = true := by
  have e1 : (isS (.str s) "all" || isS (.str s) "none") = false := by rcases h with h | h <;> subst h <;> decide +kernel
  have e2 : isS (.str s) "not" = false := by rcases h with h | h <;> subst h <;> decide +kernel
  have e3 : (isS (.str s) "and" || isS (.str s) "or") = false := by rcases h with h | h <;> subst h <;> decide +kernel
  refine (if_neg (by rw [e1]; decide)).trans ((if_neg (by rw [e2]; decide)).trans ((if_neg (by rw [e3]; decide)).trans ?_))
  have e4 : askD c [.str s, .str v, x] = true := by
    show (if isS (.str s) "less" = true then decide (c.ask v = some true) && nearD x else if (isS (.str s) "is" && decide (c.ask v = some true)) = true then nearD x else _) = true
    rw [ha, hx]
    rcases h with h | h <;> subst h
    · exact if_pos (by decide +kernel)
    · exact (if_neg (by decide +kernel)).trans (if_pos (by decide +kernel))
  rw [e4, Bool.or_true]
theorem form_txt {c : Cols} {s v : Str} {x : PyData} (h : s = "is" ∨ s = "like") (ha : c.ask v = some false) (hx : shortD x = true) : formD c (.tuple [.str s, .str v, x]) = true := by
  have e1 : (isS (.str s) "all" || isS (.str s) "none") = false := by rcases h with h | h <;> subst h <;> decide +kernel
  have e2 : isS (.str s) "not" = false := by rcases h with h | h <;> subst h <;> decide +kernel
  have e3 : (isS (.str s) "and" || isS (.str s) "or") = false := by rcases h with h | h <;> subst h <;> decide +kernel
  refine (if_neg (by rw [e1]; decide)).trans ((if_neg (by rw [e2]; decide)).trans ((if_neg (by rw [e3]; decide)).trans ?_))
  have e4 : askD c [.str s, .str v, x] = true := by
    show (if isS (.str s) "less" = true then _ else if (isS (.str s) "is" && decide (c.ask v = some true)) = true then _ else (isS (.str s) "is" || isS (.str s) "like") && (decide (c.ask v = some false) && shortD x)) = true
    rw [ha, hx]
    have e5 : (isS (.str s) "is" || isS (.str s) "like") = true := by rcases h with h | h <;> subst h <;> decide +kernel
    rw [e5]
    exact (if_neg (by rcases h with h | h <;> subst h <;> decide +kernel)).trans ((if_neg (by simp)).trans rfl)
  rw [e4, Bool.or_true]
def sp_lask (K : PySem.W.Frag) : Sp := fun vs H Q _ => ∃ (d cl : Addr) (hs : List Str) (as : List (Str × Bool)) (ss : List Str), vs = [.ref d, .ref cl] ∧ Drw K H d ∧ ClAt K d H cl hs as ss ∧ ColsOk hs as ss ∧ as ≠ [] ∧
  ∀ (v : V) (x : PyData) (H' : Hp), Drw K H' d → But d H H' → Dp K (del H' d) v x → Good (colsOf hs as) 1 x → Q v H'
def shorts1 : List PyData := [.str "", .str "a", .str "ab", .str "za", .str "*", .str "a?", .str "?"]
def shorts2 : List PyData := [.str "*", .str "a*", .str "*a", .str "?", .str "?*", .str "*a*", .str "a?", .str "ab", .str "*b?", .str "ab*ab*ab*ab*", .str "*b*a*b*a*b*", .str "abababababab"]
def strOkB : PyData → Bool
  | .str s => shortD (.str s) && (PyData.canLay0 (.str s) && decide (s.length ≤ 1000))
  | _ => false
theorem shorts1_ok : ∀ x, x ∈ shorts1 → strOkB x = true := by decide +kernel
theorem shorts2_ok : ∀ x, x ∈ shorts2 → strOkB x = true := by decide +kernel
theorem good_txt {hs : List Str} {as : List (Str × Bool)} {s n : Str} {x : PyData} (h : s = "is" ∨ s = "like") (nd : (as.map Prod.fst).Nodup) (hm : (n, false) ∈ as) (nok : nameB n = true) (hx : strOkB x = true) : Good (colsOf hs as) 1 (.tuple [.str s, .str n, x]) := by
  cases x with
  | str t =>
    have hx' : (shortD (.str t) && (PyData.canLay0 (.str t) && decide (t.length ≤ 1000))) = true := hx
    rw [Bool.and_eq_true, Bool.and_eq_true] at hx'
    refine .leaf ?_ ?_ ?_ (form_txt h (askOf_mem nd hm) hx'.1) (data_three ?_ (nameB_ok nok n rfl) (fun s' z => by cases z; exact of_decide_eq_true hx'.2.2)) ⟨?_, (by show 1 ≤ 3; decide), rfl⟩
    · rcases h with h | h <;> subst h <;> decide +kernel
    · rcases h with h | h <;> subst h <;> decide +kernel
    · rcases h with h | h <;> subst h <;> decide +kernel
    · rcases h with h | h <;> subst h <;> decide +kernel
    · show (PyData.canLay0 (.str s) && (PyData.canLay0 (.str n) && (PyData.canLay0 (.str t) && true))) = true
      rw [nameB_lay nok, hx'.2.1]
      rcases h with h | h <;> subst h <;> decide +kernel
  | _ => cases hx
theorem good_num {hs : List Str} {as : List (Str × Bool)} {s n : Str} {i : Int} (h : s = "less" ∨ s = "is") (nd : (as.map Prod.fst).Nodup) (hm : (n, true) ∈ as) (nok : nameB n = true) (hx : nearI i = true) : Good (colsOf hs as) 1 (.tuple [.str s, .str n, .int i]) := by
  refine .leaf ?_ ?_ ?_ (form_num h (askOf_mem nd hm) hx) (data_three ?_ (nameB_ok nok n rfl) (fun s' z => by cases z)) ⟨?_, (by show 1 ≤ 3; decide), rfl⟩
  · rcases h with h | h <;> subst h <;> decide +kernel
  · rcases h with h | h <;> subst h <;> decide +kernel
  · rcases h with h | h <;> subst h <;> decide +kernel
  · rcases h with h | h <;> subst h <;> decide +kernel
  · show (PyData.canLay0 (.str s) && (PyData.canLay0 (.str n) && (true && true))) = true
    rw [nameB_lay nok]
    rcases h with h | h <;> subst h <;> decide +kernel
theorem ok__law_ask (T : Txt K mg) : FnOk P w K mg base CX0 4 T.a__law_ask T.d__law_ask ["draw", "columns"] (sp_lask K) := by
  have G__law_pick := ok__law_pick (P := P) (w := w) (base := base) T
  have G__law_take := ok__law_take (P := P) (w := w) (base := base) T
  refine T.F__law_ask.ok sc__law_ask (fun vs H Q E h => ?_) (fun cdv A outer s H vs Q E hr h => ?_)
  · obtain ⟨d, cl, hs, as, ss, rfl, _⟩ := h
    rfl
  obtain ⟨d, cl, hs, as, ss, rfl, hD, hC, ok, nas, k⟩ := h
  refine ⟨_, (pss_cons (ps_set (i := 2) sc__law_ask.nd rfl (by first | exact Or.inl rfl | exact Or.inr rfl) (pe_call G__law_pick (hr.mono (by first | decide | omega)) (by rfl) T.m__law_pick T.F__law_pick.kp T.b__law_pick .nil pass0 (pa_cons (pv 0) (pa_cons (pe_callB (call_sortedD rfl) (by rfl) T.z_sorted (by decide +kernel) (pa_cons (pe_ix ix_tup (pv 1) pe_int (fun _ _ => rfl)) pa_nil)) pa_nil))))
    (pss_cons (ps_if (pt_cmpR op_eq (pe_dget (hu_of hr) (pe_ix ix_tup (pv 1) pe_int (fun _ _ => rfl)) (pv 2) (fun _ _ => rfl)) pe_str (nomark _)) (pss_one (ps_ret (pe_tup (pa_cons (pe_call G__law_pick (hr.mono (by first | decide | omega)) (by rfl) T.m__law_pick T.F__law_pick.kp T.b__law_pick .nil pass0 (pa_cons (pv 0) (pa_cons (pe_lst (pa_cons pe_str (pa_cons pe_str pa_nil))) pa_nil))) (pa_cons (pv 2) (pa_cons (pe_call G__law_pick (hr.mono (by first | decide | omega)) (by rfl) T.m__law_pick T.F__law_pick.kp T.b__law_pick .nil pass0 (pa_cons (pv 0) (pa_cons (pe_op op_cat (pe_op op_rep (pe_lst (pa_cons (pe_op op_sub (pe_call G__law_take (hr.mono (by first | decide | omega)) (by rfl) T.m__law_take T.F__law_take.kp T.b__law_take .nil pass0 (pa_cons (pv 0) (pa_cons pe_int pa_nil))) pe_int) pa_nil)) pe_int) (pe_lst (pa_cons pe_int (pa_cons (pe_un un_neg pe_int) pa_nil)))) pa_nil))) pa_nil)))))) pss_nil)
    (pss_cons (ps_if (pt_cmpR op_eq (pe_call G__law_take (hr.mono (by first | decide | omega)) (by rfl) T.m__law_take T.F__law_take.kp T.b__law_take .nil pass0 (pa_cons (pv 0) (pa_cons pe_int pa_nil))) pe_int (nomark _)) (pss_one (ps_ret (pe_tup (pa_cons pe_str (pa_cons (pv 2) (pa_cons (pe_call G__law_pick (hr.mono (by first | decide | omega)) (by rfl) T.m__law_pick T.F__law_pick.kp T.b__law_pick .nil pass0 (pa_cons (pv 0) (pa_cons (pe_lst (pa_cons pe_str (pa_cons pe_str (pa_cons pe_str (pa_cons pe_str (pa_cons pe_str (pa_cons pe_str (pa_cons pe_str pa_nil)))))))) pa_nil))) pa_nil)))))) pss_nil)
    (pss_one (ps_ret (pe_tup (pa_cons pe_str (pa_cons (pv 2) (pa_cons (pe_call G__law_pick (hr.mono (by first | decide | omega)) (by rfl) T.m__law_pick T.F__law_pick.kp T.b__law_pick .nil pass0 (pa_cons (pv 0) (pa_cons (pe_lst (pa_cons pe_str (pa_cons pe_str (pa_cons pe_str (pa_cons pe_str (pa_cons pe_str (pa_cons pe_str (pa_cons pe_str (pa_cons pe_str (pa_cons pe_str (pa_cons pe_str (pa_cons pe_str (pa_cons pe_str pa_nil))))))))))))) pa_nil))) pa_nil))))))))), ?_⟩
  obtain ⟨l, a, sl, hcl, n0, n1, n2, n3, hl, ha, hsl⟩ := id hC
  have nda := (List.nodup_append.mp (List.nodup_append.mp ok.nd).1).2.1
  have la := ok.la
  refine ⟨_, rfl, _, rfl, cl, _, 1, _, rfl, rfl, SqT.of hcl, at_of (j := 1) rfl rfl, a, kvsOf as, as.map Prod.fst, rfl, Rd.of ha, (by unfold kvsOf; rw [List.map_map, List.map_map]; rfl), (by rw [List.length_map]; omega), fun ys p pe _ hp => ?_⟩
  have l0 : 0 < ys.length := by
    rw [pe.length_eq, List.length_map]
    exact List.length_pos_iff.mpr nas
  refine ⟨d, p, _, rfl, hD.same (same_new hp _), .inl ⟨SqL.of upd_same, drw_ne hD hp⟩, by rw [List.length_map]; exact l0, fun j nv H1 hnv hD1 b1 => ?_⟩
  have b01 : But d H H1 := (Same.but (same_new hp _)).trans b1
  rw [List.getElem?_map] at hnv
  obtain ⟨nm, hnm, rfl⟩ := Option.map_eq_some_iff.mp hnv
  obtain ⟨⟨nm', b⟩, hm, rfl⟩ := List.mem_map.mp (pe.mem_iff.mp (List.mem_of_getElem? hnm))
  have nok := ok.a _ hm
  have hC1 := hC.but b01
  refine ⟨_, rfl, cl, _, 1, _, rfl, rfl, SqT.of (b01 _ _ n0 hcl), at_of (j := 1) rfl rfl, _, rfl, a, kindV b, rfl, .inl ⟨kvsOf as, Sum.inr nm', Rd.of (b01 _ _ n2 ha), rfl, (kvsOf_val nda hm).symm⟩, rfl, _, rfl, ?_⟩
  cases b with
  | true =>
    rw [decide_eq_true (show kindV true = V.str "number" from rfl)]
    refine iteT ?_
    refine pick_dats [.str "less", .str "is"] (by decide +kernel) (by decide) (by decide) rfl hD1 fun sv sx H2 hsx hD2 b2 dsx => ?_
    obtain ⟨s, rfl, rfl, hs2⟩ : ∃ s : Str, sv = .str s ∧ sx = .str s ∧ (s = "less" ∨ s = "is") := by
      rcases List.mem_cons.mp hsx with rfl | hsx
      · cases dsx
        exact ⟨_, rfl, rfl, .inl rfl⟩
      obtain rfl := List.mem_singleton.mp hsx
      cases dsx
      exact ⟨_, rfl, rfl, .inr rfl⟩
    have b02 := b01.trans b2
    refine ⟨_, rfl, _, rfl, _, rfl, d, 5, rfl, hD2, by decide, fun r H3 r0 r5 hD3 b3 => ⟨_, _, rfl, rfl, (by show 1 ≤ sizeLine; decide), fun p1 f1 => ?_⟩⟩
    refine ⟨p1, 5, _, rfl, rfl, upd_same, by decide, by decide, le_line (by show 1 * 5 ≤ 1000; decide), fun p2 f2 => ⟨_, rfl, (by show 2 ≤ sizeLine; decide), fun p3 f3 => ?_⟩⟩
    have b03 := b02.trans b3
    have g1 := (same_new f1 (.lst [.int (r - 2)])).trans (same_new f2 (.lst (List.replicate (5 : Int).toNat [V.int (r - 2)]).flatten))
    have e2 := same_new f3 (.lst [.int 1000000, .int (-1000000)]) _ _ (upd_same (H := upd H3 p1 (.lst [.int (r - 2)])) (a := p2) (o := .lst (List.replicate (5 : Int).toNat [V.int (r - 2)]).flatten))
    have g2 := g1.trans (same_new f3 (.lst [.int 1000000, .int (-1000000)]))
    refine ⟨p2, p3, _, _, rfl, rfl, e2, upd_same, le_line (by show 5 + 2 ≤ 1000; decide), fun p4 f4 => ?_⟩
    have g3 := g2.trans (same_new f4 (.lst ((List.replicate (5 : Int).toNat [V.int (r - 2)]).flatten ++ [.int 1000000, .int (-1000000)])))
    refine ⟨d, p4, _, rfl, hD3.same g3, .inl ⟨SqL.of upd_same, drw_ne (hD3.same g2) f4⟩, (by show 0 < 5 + 2; decide), fun j xv H4 hxv hD4 b4 => ?_⟩
    obtain ⟨i, rfl, hi⟩ : ∃ i : Int, xv = .int i ∧ nearI i = true := by
      have m := List.mem_of_getElem? hxv
      rcases List.mem_append.mp m with m | m
      · obtain ⟨l', hl', hv⟩ := List.mem_flatten.mp m
        obtain ⟨_, rfl⟩ := List.mem_replicate.mp hl'
        obtain rfl := List.mem_singleton.mp hv
        refine ⟨_, rfl, ?_⟩
        unfold nearI
        rw [decide_eq_true (show -1000000 ≤ r - 2 by omega), decide_eq_true (show r - 2 ≤ 1000000 by omega)]
        rfl
      · rcases List.mem_cons.mp m with rfl | m
        · exact ⟨_, rfl, by decide⟩
        · obtain rfl := List.mem_singleton.mp m
          exact ⟨_, rfl, by decide⟩
    refine ⟨(by show 3 ≤ sizeLine; decide), fun q hq => ?_⟩
    have b04 := (b03.same g3).trans b4
    have nq : q ≠ d := drw_ne hD4 hq
    exact k _ (.tuple [.str s, .str nm', .int i]) _ (hD4.same (same_new hq _)) (b04.same (same_new hq _)) (.tup (SqT.of (off_at upd_same nq)) (.cons (.str _) (.cons (.str _) (.cons (.int _) .nil)))) (good_num hs2 nda hm nok hi)
  | false =>
    rw [decide_eq_false (show ¬ kindV false = V.str "number" by decide +kernel)]
    refine iteF ?_
    have txt : ∀ (s : Str) (ds : List PyData) (H2 : Hp), s = "is" ∨ s = "like" → (∀ x, x ∈ ds → strOkB x = true) → smDs ds = true → 0 < ds.length → ds.length ≤ 1000 → Drw K H2 d → But d H H2 →
        tRet (tTup (tCons (tC (.str s)) (tCons (tVar 2) (tCons (tCall (sp_pick K) [] E0 (tCons (tVar 0) (tCons (tLst (tDats ds)) tNil))) tNil)))) { nx := fun x H' => Q V.non H', rt := Q } [some (.ref d), some (.ref cl), some (.str nm')] H2 := fun s ds H2 hs2 hds sm l0 l1 hD2 b2 => by
      refine ⟨_, rfl, pick_dats ds sm l0 l1 rfl hD2 fun xv x H3 hx hD3 b3 dx => ⟨(by show 3 ≤ sizeLine; decide), fun q hq => ?_⟩⟩
      have nq : q ≠ d := drw_ne hD3 hq
      exact k _ (.tuple [.str s, .str nm', x]) _ (hD3.same (same_new hq _)) ((b2.trans b3).same (same_new hq _)) (.tup (SqT.of (off_at upd_same nq)) (.cons (.str _) (.cons (.str _) (.cons (dp_same (off_new hq) _ _ dx) .nil)))) (good_txt hs2 nda hm nok (hds x hx))
    refine ⟨_, rfl, d, 3, rfl, hD1, by decide, fun r H2 r0 r3 hD2 b2 => ⟨rfl, _, rfl, ?_⟩⟩
    refine ite2 (fun _ => ?_) (fun _ => ?_)
    · exact txt "is" shorts1 H2 (.inl rfl) shorts1_ok (by decide +kernel) (by decide) (by decide) hD2 (b01.trans b2)
    · exact txt "like" shorts2 H2 (.inr rfl) shorts2_ok (by decide +kernel) (by decide) (by decide) hD2 (b01.trans b2)

end
end My
set_option Elab.async false
set_option linter.all false
set_option maxRecDepth 100000
set_option maxHeartbeats 400000
namespace My
open PySem L2 PySem.Spec PyProof.Rows
section
variable {P : Program} {w : World} {K : PySem.W.Frag} {mg : Str → Option Value} {base : Heap}
theorem un_of {A : Around} {k : Nat} (hr : Room k A) : A.units < cLine := by
  have := hr.un
  omega
theorem fin_bool {X : Cx} {pins : List (Addr × Obj)} {σ : L2.St} {H : Hp} {s : Shared} {Q : VK} {b : Bool} (I : Inv X pins σ H s) (q : Q (.bl b) H) : EP X pins σ Q (.bool b) s := ⟨.bl b, H, I, rfl, q⟩
/-- a dict != {} -/
theorem op_ne_d0 {X : Cx} (hu : X.A.units < cLine) : OpR X (compareOp .NotEq) (fun x y H Q => ∃ a b ks, x = .ref a ∧ y = .ref b ∧ H a = some (.dK ks) ∧ H b = some (.dK []) ∧ Q (.bl (!decide (ks.length = 0))) H) := by
  intro pins s σ H x y v u Q I rx ry h
  obtain ⟨a, b, ks, rfl, rfl, ea, eb, q⟩ := h
  obtain rfl : v = Value.ref a := rx
  obtain rfl : u = Value.ref b := ry
  obtain ⟨_, ya, va, ra, da⟩ := (show ObjOk X.prog X.w H s.heap a (.dK ks) from I.hok a _ ea)
  obtain ⟨_, yb, vb, rb, db⟩ := (show ObjOk X.prog X.w H s.heap b (.dK []) from I.hok b _ eb)
  have lb : vb.length = 0 := rb.length.symm
  have la : va.length = ks.length := ra.length.symm
  refine PySem.W.keq_ne (knd := mixKind X.prog X.w) (r := true) ya yb da db hu (fun e => ?_) (fin_bool I ?_)
  · have z : va = [] := List.length_eq_zero_iff.mp (by omega)
    rw [z]
    exact .nil
  · have e : (!(va.length == vb.length && true)) = !decide (ks.length = 0) := by
      rw [lb, la, Bool.and_true]
      rfl
    rw [e]
    exact q
theorem next_of {D : Ends} {σ : L2.St} {H : Hp} (h : D.nx σ H) : tNext D σ H := h
theorem good_up {c : Cols} {x : PyData} (h : Good c 1 x) (n : Nat) : Good c (n + 1) x := by
  cases h with
  | leaf h1 h2 h3 h4 h5 h6 => exact .leaf h1 h2 h3 h4 h5 h6
  | not h => cases h
  | @kids _ s ks _ l _ h =>
    cases ks with
    | nil => exact absurd l (by decide)
    | cons e r => cases h e (List.mem_cons_self ..)
theorem good_all {c : Cols} {s : Str} (h : s = "all" ∨ s = "none") : Good c 1 (.tuple [.str s]) := by
  refine .leaf ?_ ?_ ?_ ?_ (fun ds e => ?_) ⟨?_, (by show 1 ≤ 3; decide), rfl⟩
  · rcases h with h | h <;> subst h <;> decide +kernel
  · rcases h with h | h <;> subst h <;> decide +kernel
  · rcases h with h | h <;> subst h <;> decide +kernel
  · exact (if_pos (by rcases h with h | h <;> subst h <;> decide +kernel)).trans rfl
  · cases e
    refine ⟨fun d hd => ?_, fun h r z => ?_, fun h a b e z => by cases z⟩
    · obtain rfl := List.mem_singleton.mp hd
      intro t z
      cases z
      rcases h with h | h <;> subst h <;> decide +kernel
    · cases z
      rfl
  · show (PyData.canLay0 (.str s) && true) = true
    rcases h with h | h <;> subst h <;> decide +kernel
theorem tup_upd {K : PySem.W.Frag} {H : Hp} {D d : Addr} {ys : List V} {o : HO} (hD : H D = some (.lst ys)) : ∀ a xs, SqT K (del H d) a xs → SqT K (del (upd H D o) d) a xs := fun a xs h => by
  have st : ∀ u : HO, (∀ zs, u ≠ .lst zs) → del H d a = some u → del (upd H D o) d a = some u := fun u hu e => by
    have n : a ≠ d := fun z => by
      rw [z, del_same] at e
      cases e
    rw [del_ne n] at e ⊢
    rw [upd_ne (fun z => by rw [z, hD] at e; exact hu _ (Option.some.inj e).symm)]
    exact e
  rcases h with (h | ⟨q, h⟩) | h
  · exact .inl (.inl (st _ (fun zs z => by cases z) h))
  · exact .inl (.inr ⟨q, st _ (fun zs z => by cases z) h⟩)
  · exact .inr h
theorem good_noL {c : Cols} {n : Nat} {x : PyData} (h : Good c n x) : noL x = true := by
  induction h with
  | leaf _ _ _ _ _ l => exact l.2.2
  | @not n e h ih =>
    show (true && (noL e && true)) = true
    rw [ih]
    rfl
  | @kids n s ks _ _ _ h ih =>
    have all_ : ∀ l : List PyData, (∀ e, e ∈ l → noL e = true) → noLs l = true := fun l => by
      induction l with
      | nil => intro _; rfl
      | cons e r ihr =>
        intro hl
        show (noL e && noLs r) = true
        rw [hl e (List.mem_cons_self ..), ihr (fun x hx => hl x (List.mem_cons_of_mem _ hx))]
        rfl
    show (true && (noLs ks && true)) = true
    rw [all_ ks ih]
    rfl
theorem goods_noL {c : Cols} {n : Nat} : ∀ {xs : List PyData}, (∀ x, x ∈ xs → Good c n x) → noLs xs = true
  | [], _ => rfl
  | x :: r, h => by
    show (noL x && noLs r) = true
    rw [good_noL (h x (List.mem_cons_self ..)), goods_noL fun y hy => h y (List.mem_cons_of_mem _ hy)]
    rfl
def sp_lform (K : PySem.W.Frag) (m : Nat) : Sp := fun vs H Q _ => ∃ (d cl : Addr) (deep : Nat) (hs : List Str) (as : List (Str × Bool)) (ss : List Str), vs = [.ref d, .ref cl, .int deep, .int 3] ∧ Drw K H d ∧ ClAt K d H cl hs as ss ∧ ColsOk hs as ss ∧ deep < m ∧
  ∀ (v : V) (x : PyData) (H' : Hp), Drw K H' d → But d H H' → Dp K (del H' d) v x → Good (colsOf hs as) (deep + 1) x → Q v H'
theorem ok_lform (T : Txt K mg) : ∀ m, FnOk P w K mg base CX0 (m + 5) T.a__law_formula T.d__law_formula ["draw", "columns", "deep", "share"] (sp_lform K m) := by
  have G__law_take := ok__law_take (P := P) (w := w) (base := base) T
  have G__law_pick := ok__law_pick (P := P) (w := w) (base := base) T
  have G__law_ask := ok__law_ask (P := P) (w := w) (base := base) T
  have G__law_test := ok__law_test (P := P) (w := w) (base := base) T
  intro m
  induction m with
  | zero => exact T.F__law_formula.ok sc__law_formula (fun vs H Q E h => by obtain ⟨_, _, _, _, _, _, rfl, _⟩ := h; rfl) (fun cdv A outer s H vs Q E hr h => by obtain ⟨_, _, _, _, _, _, _, _, _, _, z, _⟩ := h; exact absurd z (Nat.not_lt_zero _))
  | succ m G__law_formula =>
    refine T.F__law_formula.ok sc__law_formula (fun vs H Q E h => ?_) (fun cdv A outer s H vs Q E hr h => ?_)
    · obtain ⟨_, _, _, _, _, _, rfl, _⟩ := h
      rfl
    obtain ⟨d, cl, deep, hs, as, ss, rfl, hD, hC, ok, dm, k⟩ := h
    refine ⟨_, (pss_cons (ps_set (i := 4) sc__law_formula.nd rfl (by first | exact Or.inl rfl | exact Or.inr rfl) (pe_call G__law_take (hr.mono (by first | decide | omega)) (by rfl) T.m__law_take T.F__law_take.kp T.b__law_take .nil pass0 (pa_cons (pv 0) (pa_cons pe_int pa_nil))))
    (pss_cons (ps_if (PW.pt (pw_or (pt_cmpR op_eq (pv 2) pe_int (nomark _)) (pw_or1 (pt_cmpR op_lt (pv 4) pe_int (nomark _))))) (pss_cons (ps_if (PW.pt (pw_and (pt_cmpR op_gt (pv 3) pe_int (nomark _)) (pw_and (pt_cmpR (op_ne_d0 (un_of hr)) (pe_ix ix_tup (pv 1) pe_int (fun _ _ => rfl)) pe_dnewK (nomark _)) (pw_and1 (pt_cmpR op_eq (pe_call G__law_take (hr.mono (by first | decide | omega)) (by rfl) T.m__law_take T.F__law_take.kp T.b__law_take .nil pass0 (pa_cons (pv 0) (pa_cons (pv 3) pa_nil))) pe_int (nomark _)))))) (pss_one (ps_ret (pe_call G__law_ask (hr.mono (by first | decide | omega)) (by rfl) T.m__law_ask T.F__law_ask.kp T.b__law_ask .nil pass0 (pa_cons (pv 0) (pa_cons (pv 1) pa_nil))))) pss_nil)
    (pss_one (ps_ret (pe_ifExp (pt_cmpR op_ne (pv 4) pe_int (nomark _)) (pe_call G__law_test (hr.mono (by first | decide | omega)) (by rfl) T.m__law_test T.F__law_test.kp T.b__law_test .nil pass0 (pa_cons (pv 0) (pa_cons (pv 1) pa_nil))) (pe_call G__law_pick (hr.mono (by first | decide | omega)) (by rfl) T.m__law_pick T.F__law_pick.kp T.b__law_pick .nil pass0 (pa_cons (pv 0) (pa_cons (pe_lst (pa_cons (pe_tup (pa_cons pe_str pa_nil)) (pa_cons (pe_tup (pa_cons pe_str pa_nil)) pa_nil))) pa_nil))))))) pss_nil)
    (pss_cons (ps_if (pt_cmpR op_eq (pv 4) pe_int (nomark _)) (pss_one (ps_ret (pe_tup (pa_cons pe_str (pa_cons (pe_call G__law_formula (hr.mono (by first | decide | omega)) (by rfl) T.m__law_formula T.F__law_formula.kp T.b__law_formula .nil pass0 (pa_cons (pv 0) (pa_cons (pv 1) (pa_cons (pe_op op_sub (pv 2) pe_int) (pa_cons (pv 3) pa_nil))))) pa_nil))))) pss_nil)
    (pss_cons (ps_set (i := 5) sc__law_formula.nd rfl (by first | exact Or.inl rfl | exact Or.inr rfl) (pe_ifExp (pt_cmpR op_lt (pv 4) pe_int (nomark _)) pe_int pe_int))
    (pss_one (ps_ret (pe_tup (pa_cons (pe_call G__law_pick (hr.mono (by first | decide | omega)) (by rfl) T.m__law_pick T.F__law_pick.kp T.b__law_pick .nil pass0 (pa_cons (pv 0) (pa_cons (pe_lst (pa_cons pe_str (pa_cons pe_str pa_nil))) pa_nil))) (pa_cons (pe_callTy call_tuple_of (by rfl) T.z_tuple (by decide +kernel) (pa_cons (pe_lc (own := [("turn", 6)]) rfl sc__law_formula.nd (pi_range1 (by rfl) T.z_range (pa_cons (pv 5) pa_nil)) (blkOk_by (own := [("turn", 6)]) (N := ["draw", "columns", "deep", "share", "kind", "many", "turn"]) (sc := defScope s__law_formula) (by decide +kernel)) (fun _ _ _ _ _ => (pg_name (i := 6) sc__law_formula.nd rfl (by first | exact Or.inl rfl | exact Or.inr rfl))) (fun _ _ _ _ _ => pts_nil) (fun _ _ _ _ _ => (pe_call G__law_formula (hr.mono (by first | decide | omega)) (by rfl) T.m__law_formula T.F__law_formula.kp T.b__law_formula .nil pass0 (pa_cons (pv 0) (pa_cons (pv 1) (pa_cons (pe_op op_sub (pv 2) pe_int) (pa_cons (pv 3) pa_nil))))))) pa_nil)) pa_nil))))))))), ?_⟩
    refine ⟨_, rfl, d, 9, rfl, hD, by decide, fun kind H1 k0 k9 hD1 b1 => ?_⟩
    have hC1 := hC.but b1
    dsimp only
    refine ifs_cut (fun b H' => H1 = H' ∧ (b = false → deep ≠ 0)) (fun b H' hb => ?_) (fun Q' fin => ?_)
    rotate_left
    · refine ⟨_, rfl, rfl, _, rfl, ite2 (fun _ => fin _ _ ⟨rfl, fun z => by cases z⟩) (fun c => ⟨_, rfl, _, _, rfl, rfl, _, rfl, fin _ _ ⟨rfl, fun _ z => c ?_⟩⟩)⟩
      subst z
      exact decide_eq_true rfl
    obtain ⟨rfl, hb⟩ := hb
    cases b with
    | true =>
      refine iteT ?_
      refine ifs_cut (fun b H' => Drw K H' d ∧ But d H1 H' ∧ (b = true → as ≠ [])) (fun b H' hb => ?_) (fun Q' fin => ?_)
      rotate_left
      · obtain ⟨l, a, sl, hcl, n0, n1, n2, n3, hl, ha, hsl⟩ := id hC1
        refine ⟨_, rfl, _, _, rfl, rfl, _, rfl, ite2 (fun _ => ?_) (fun c => absurd (by decide) c)⟩
        refine ⟨_, rfl, cl, _, 1, _, rfl, rfl, SqT.of hcl, at_of (j := 1) rfl rfl, fun p hp => ⟨a, p, kvsOf as, rfl, rfl, same_new hp _ _ _ ha, upd_same, _, rfl, ?_⟩⟩
        have g := same_new hp (.dK [])
        refine ite2 (fun c => ?_) (fun c => fin _ _ ⟨hD1.same g, Same.but g, fun z => by cases z⟩)
        have nas : as ≠ [] := fun z => by
          subst z
          cases c
        refine ⟨_, rfl, _, rfl, d, 3, rfl, hD1.same g, by decide, fun r H2 r0 r3 hD2 b2 => ⟨rfl, _, rfl, fin _ _ ⟨hD2, (Same.but g).trans b2, fun _ => nas⟩⟩⟩
      obtain ⟨hD2, b2, nas⟩ := hb
      have b12 := b1.trans b2
      have hC2 := hC.but b12
      cases b with
      | true => exact iteT ⟨_, rfl, _, rfl, d, cl, hs, as, ss, rfl, hD2, hC2, ok, nas rfl, fun v x H3 hD3 b3 dx gx => k v x H3 hD3 (b12.trans b3) dx (good_up gx deep)⟩
      | false =>
        refine iteF ⟨_, rfl, rfl, _, rfl, ite2 (fun _ => ?_) (fun _ => ?_)⟩
        · exact ⟨_, rfl, _, rfl, d, cl, hs, as, ss, rfl, hD2, hC2, ok, fun v x H3 hD3 b3 dx gx => k v x H3 hD3 (b12.trans b3) dx (good_up gx deep)⟩
        · refine pick_dats [.tuple [.str "all"], .tuple [.str "none"]] (by decide +kernel) (by decide) (by decide) rfl hD2 fun v x H3 hx hD3 b3 dx => k v x H3 hD3 (b12.trans b3) dx (good_up ?_ deep)
          rcases List.mem_cons.mp hx with rfl | hx
          · exact good_all (.inl rfl)
          · obtain rfl := List.mem_singleton.mp hx
            exact good_all (.inr rfl)
    | false =>
    refine iteF (next_of ?_)
    dsimp only
    obtain ⟨dp, rfl⟩ : ∃ dp, deep = dp + 1 := ⟨deep - 1, by have := hb rfl; omega⟩
    have e1 : ((dp + 1 : Nat) : Int) - 1 = ((dp : Nat) : Int) := by omega
    refine ifs_cut (fun b H' => H1 = H') (fun b H' hb => ?_) (fun Q' fin => ?_)
    rotate_left
    · exact ⟨_, rfl, rfl, _, rfl, fin _ _ rfl⟩
    subst hb
    cases b with
    | true =>
      refine iteT ⟨_, rfl, _, rfl, _, rfl, _, _, rfl, rfl, _, rfl, d, cl, dp, hs, as, ss, by show [V.ref d, V.ref cl, V.int (((dp + 1 : Nat) : Int) - 1), V.int 3] = _; rw [e1], hD1, hC1, ok, Nat.lt_of_succ_lt_succ dm, fun v x H3 hD3 b3 dx gx => ⟨(by show 2 ≤ sizeLine; decide), fun q hq => ?_⟩⟩
      have nq : q ≠ d := drw_ne hD3 hq
      exact k _ (.tuple [.str "not", x]) _ (hD3.same (same_new hq _)) ((b1.trans b3).same (same_new hq _)) (.tup (SqT.of (off_at upd_same nq)) (.cons (.str _) (.cons (dp_same (off_new hq) _ _ dx) .nil))) (.not gx)
    | false =>
    refine iteF (next_of ?_)
    dsimp only
    -- many = 2 if kind < 8 else 3
    refine seq_cut (fun σ' H' => H1 = H' ∧ ∃ many : Nat, 2 ≤ many ∧ many ≤ 3 ∧ σ' = [some (.ref d), some (.ref cl), some (.int ((dp + 1 : Nat) : Int)), some (.int 3), some (.int kind), some (.int many), none]) (fun σ' H' hm => ?_) (fun tail => ?_)
    rotate_left
    · refine ⟨_, rfl, _, _, rfl, rfl, _, rfl, ite2 (fun _ => ?_) (fun _ => ?_)⟩
      · exact tail _ _ ⟨rfl, 2, by decide, by decide, rfl⟩
      · exact tail _ _ ⟨rfl, 3, by decide, by decide, rfl⟩
    obtain ⟨e, many, m2, m3, rfl⟩ := hm
    subst e
    refine pick_dats [.str "and", .str "or"] (by decide +kernel) (by decide) (by decide) rfl hD1 fun sv sx H2 hsx hD2 b2 dsx => ?_
    obtain ⟨s, rfl, rfl, hs2⟩ : ∃ s : Str, sv = .str s ∧ sx = .str s ∧ (s = "and" ∨ s = "or") := by
      rcases List.mem_cons.mp hsx with rfl | hsx
      · cases dsx
        exact ⟨_, rfl, rfl, .inl rfl⟩
      obtain rfl := List.mem_singleton.mp hsx
      cases dsx
      exact ⟨_, rfl, rfl, .inr rfl⟩
    have b12 := b1.trans b2
    refine ⟨_, rfl, _, rfl, by omega, by omega, fun D hD0 => ?_⟩
    have nD : D ≠ d := drw_ne hD2 hD0
    have slay : PyData.canLay0 (.str s) = true := by rcases hs2 with h | h <;> subst h <;> decide +kernel
    refine lc_range (fun i H' => Drw K H' d ∧ But d H2 H' ∧ ∃ acc xs, H' D = some (.lst acc) ∧ xs.length = i ∧ DpAll K (del H' d) acc xs ∧ ∀ x, x ∈ xs → Good (colsOf hs as) (dp + 1) x) ⟨hD2.same (same_new hD0 _), Same.but (same_new hD0 _), [], [], upd_same, rfl, .nil, fun x hx => by cases hx⟩ ?_ ?_
    · rintro i H' hi ⟨hD3, b3, acc, xs, hacc, lx, dacc, gxs⟩
      have b13 := b12.trans b3
      refine ⟨rfl, _, rfl, _, rfl, _, rfl, _, _, rfl, rfl, _, rfl, d, cl, dp, hs, as, ss, by show [V.ref d, V.ref cl, V.int (((dp + 1 : Nat) : Int) - 1), V.int 3] = _; rw [e1], hD3, hC.but b13, ok, Nat.lt_of_succ_lt_succ dm, fun v x H4 hD4 b4 dx gx => ⟨acc, b4 _ _ nD hacc, ?_, ?_, ?_, acc ++ [v], xs ++ [x], upd_same, ?_, ?_, ?_⟩⟩
      · rw [dps_len dacc]
        exact small1000 (by omega)
      · exact hD4.but (b4 _ _ nD hacc) (Ne.symm nD) (fun b o n e => by rw [upd_ne n]; exact e)
      · exact fun b o n e => by
          rw [upd_ne (ne_of_none e hD0)]
          exact b4 _ _ n (b3 _ _ n e)
      · rw [List.length_append, lx]
        rfl
      · have tu := tup_upd (K := K) (d := d) (o := .lst (acc ++ [v])) (b4 _ _ nD hacc)
        exact dps_app (dps_tups tu _ _ (goods_noL gxs) (dps_same (off_but b4) _ _ dacc)) (.cons (dp_tups tu _ _ (good_noL gx) dx) .nil)
      · intro y hy
        rcases List.mem_append.mp hy with hy | hy
        · exact gxs y hy
        · obtain rfl := List.mem_singleton.mp hy
          exact gx
    · rintro H' ⟨hD3, b3, acc, xs, hacc, lx, dacc, gxs⟩
      rw [Int.toNat_natCast] at lx
      refine ⟨D, acc, rfl, .inl ⟨SqL.of hacc, fun l hl => ?_⟩⟩
      have g5 := same_new hl (.tup acc)
      have hD5 := hD3.same g5
      refine ⟨(by show 2 ≤ sizeLine; decide), fun q hq => ?_⟩
      have nq : q ≠ d := drw_ne hD5 hq
      have nl : l ≠ d := drw_ne hD3 hl
      have g6 := same_new hq (.tup [.str s, .ref l])
      have el : upd (upd H' l (.tup acc)) q (.tup [.str s, .ref l]) l = some (.tup acc) := g6 _ _ upd_same
      refine k _ (.tuple [.str s, .tuple xs]) _ (hD5.same g6) (((b12.trans b3).same g5).same g6) (.tup (SqT.of (off_at upd_same nq)) (.cons (.str _) (.cons (.tup (SqT.of (off_at el nl)) (dps_same ((off_new hl).trans (off_new hq)) _ _ dacc)) .nil))) (.kids hs2 (by omega) (by omega) gxs)

end
end My
set_option Elab.async false
set_option linter.all false
set_option maxRecDepth 100000
set_option maxHeartbeats 400000
namespace My
open PySem L2 PySem.Spec PyProof.Rows
section
variable {P : Program} {w : World} {K : PySem.W.Frag} {mg : Str → Option Value} {base : Heap}
theorem tup_upd0 {K : PySem.W.Frag} {H : Hp} {D : Addr} {ys : List V} {o : HO} (hD : H D = some (.lst ys)) : ∀ a xs, SqT K H a xs → SqT K (upd H D o) a xs := fun a xs h => by
  rcases h with (h | ⟨q, h⟩) | h
  · refine .inl (.inl ?_)
    rw [upd_ne (ne_of h hD (by intro z; cases z))]
    exact h
  · refine .inl (.inr ⟨q, ?_⟩)
    rw [upd_ne (ne_of h hD (by intro z; cases z))]
    exact h
  · exact .inr h
theorem ways_noL : ∀ wl : List (List Nat), noLs (wl.map wayD) = true
  | [] => rfl
  | w :: r => by
    have one : ∀ w : List Nat, noLs (w.map fun i : Nat => PyData.int (i : Int)) = true := fun w => by
      induction w with
      | nil => rfl
      | cons i w ih => exact ih
    show (noLs (w.map fun i : Nat => PyData.int (i : Int)) && noLs (r.map wayD)) = true
    rw [one, ways_noL r]
    rfl
theorem way_app {K : PySem.W.Frag} {H : Hp} {p : Addr} {pre w : List Nat} {xs : List V} (h : DpAll K H xs (w.map fun i : Nat => PyData.int (i : Int))) (hs : SqT K H p ((pre.map fun i : Nat => V.int (i : Int)) ++ xs)) : Dp K H (.ref p) (wayD (pre ++ w)) := by
  refine .tup hs ?_
  rw [List.map_append]
  refine dps_app ?_ h
  clear hs
  induction pre with
  | nil => exact .nil
  | cons i pre ih => exact .cons (.int _) ih
/-- how many places there are -/
theorem size_le {c : Cols} : ∀ {n : Nat} {d : PyData}, Good c (n + 1) d → (spotsD (n + 1) d).length ≤ 101 ^ n
  | n, d, h => by
    cases h with
    | leaf h1 h2 h3 _ _ _ =>
      rw [spots_leaf h1 h2 h3]
      exact Nat.one_le_pow _ _ (by decide)
    | @not _ e he =>
      cases n with
      | zero => cases he
      | succ n =>
        rw [spots_not, List.length_cons, List.length_map]
        have := size_le he
        rw [Nat.pow_succ]
        have p1 : 1 ≤ 101 ^ n := Nat.one_le_pow _ _ (by decide)
        omega
    | @kids _ s ks hs _ l hks =>
      cases n with
      | zero =>
        cases ks with
        | nil => 
          rw [spots_kids hs]
          decide
        | cons e r => cases hks e (List.mem_cons_self ..)
      | succ n =>
        rw [spots_kids hs, List.length_cons]
        have all_ : ∀ ks : List PyData, (∀ e, e ∈ ks → Good c (n + 1) e) → sizeK (n + 1) ks ≤ ks.length * 101 ^ n := fun ks => by
          induction ks with
          | nil => intro _; exact Nat.zero_le _
          | cons e r ih =>
            intro h
            have h1 := size_le (h e (List.mem_cons_self ..))
            have h2 := ih fun x hx => h x (List.mem_cons_of_mem _ hx)
            rw [sizeK_cons, List.length_cons, Nat.add_mul, Nat.one_mul]
            omega
        have h3 := all_ ks hks
        have h4 : ks.length * 101 ^ n ≤ 100 * 101 ^ n := Nat.mul_le_mul_right _ l
        have p1 : 1 ≤ 101 ^ n := Nat.one_le_pow _ _ (by decide)
        have e0 : (kidSp (spotsD (n + 1)) 0 ks).length = sizeK (n + 1) ks := rfl
        rw [e0, Nat.pow_succ]
        omega
theorem at_len {c : Cols} {n : Nat} {d : PyData} {w : List Nat} (h : At c n d w) : w.length ≤ 2 * n := by
  induction h with
  | here _ => exact Nat.zero_le _
  | not _ _ ih =>
    rw [List.length_cons]
    omega
  | kid _ _ _ _ _ _ ih =>
    rw [List.length_cons, List.length_cons]
    omega
def sp_lspots (K : PySem.W.Frag) (m : Nat) : Sp := fun vs H Q _ => ∃ (v : V) (c : Cols) (n : Nat) (d : PyData), vs = [v] ∧ Dp K H v d ∧ Good c n d ∧ n < m ∧ n ≤ 4 ∧
  ∀ (q : Addr) (ws : List V) (H' : Hp), Same H H' → H q = none → H' q = some (.lst ws) → DpAll K H' ws ((spotsD n d).map wayD) → Q (.ref q) H'
theorem ok_lspots (T : Txt K mg) : ∀ m, FnOk P w K mg base CX0 (m + 1) T.a__law_spots T.d__law_spots ["plan"] (sp_lspots K m) := by
  intro m
  induction m with
  | zero => exact T.F__law_spots.ok sc__law_spots (fun vs H Q E h => by obtain ⟨_, _, _, _, rfl, _⟩ := h; rfl) (fun cdv A outer s H vs Q E hr h => by obtain ⟨_, _, _, _, _, _, _, z, _⟩ := h; exact absurd z (Nat.not_lt_zero _))
  | succ m G__law_spots =>
    refine T.F__law_spots.ok sc__law_spots (fun vs H Q E h => ?_) (fun cdv A outer s H vs Q E hr h => ?_)
    · obtain ⟨_, _, _, _, rfl, _⟩ := h
      rfl
    obtain ⟨v, c, n, d, rfl, hd, gd, nm, n4, k⟩ := h
    refine ⟨_, (pss_cons (ps_if (pt_cmpR op_eq (pe_ix ix_tup (pv 0) pe_int (fun _ _ => rfl)) pe_str (nomark _)) (pss_one (ps_ret (pe_op op_cat (pe_lst (pa_cons (pe_tup pa_nil) pa_nil)) (pe_lc (own := [("way", 1)]) rfl sc__law_spots.nd (pi_list (pe_call G__law_spots (hr.mono (by first | decide | omega)) (by rfl) T.m__law_spots T.F__law_spots.kp T.b__law_spots .nil pass0 (pa_cons (pe_ix ix_tup (pv 0) pe_int (fun _ _ => rfl)) pa_nil))) (blkOk_by (own := [("way", 1)]) (N := ["plan", "way", "found", "at", "part"]) (sc := defScope s__law_spots) (by decide +kernel)) (fun _ _ _ _ _ => (pg_name (i := 1) sc__law_spots.nd rfl (by first | exact Or.inl rfl | exact Or.inr rfl))) (fun _ _ _ _ _ => pts_nil) (fun _ _ _ _ _ => (pe_op (show OpR _ _ (rCatA K) from op_catA) (pe_tup (pa_cons pe_int pa_nil)) (pv 1))))))) pss_nil)
    (pss_cons (ps_set (i := 2) sc__law_spots.nd rfl (by first | exact Or.inl rfl | exact Or.inr rfl) (pe_lst (pa_cons (pe_tup pa_nil) pa_nil)))
    (pss_cons (ps_for PassesOwn.never rfl (pi_enumT (by rfl) T.z_enumerate (pa_cons (pe_ifExp (pt_cmpR op_in_seq (pe_ix ix_tup (pv 0) pe_int (fun _ _ => rfl)) (pe_tup (pa_cons pe_str (pa_cons pe_str pa_nil))) (by with_unfolding_all rfl)) (pe_ix ix_tup (pv 0) pe_int (fun _ _ => rfl)) (pe_tup pa_nil)) pa_nil)) (pg_tup rfl (pgs_cons (pg_name (i := 3) sc__law_spots.nd rfl (by first | exact Or.inl rfl | exact Or.inr rfl)) (pgs_cons (pg_name (i := 4) sc__law_spots.nd rfl (by first | exact Or.inl rfl | exact Or.inr rfl)) pgs_nil)))
    (pss_one (ps_set (i := 2) sc__law_spots.nd rfl (by first | exact Or.inl rfl | exact Or.inr rfl) (pe_op op_cat (pv 2) (pe_lc (own := [("way", 1)]) rfl sc__law_spots.nd (pi_list (pe_call G__law_spots (hr.mono (by first | decide | omega)) (by rfl) T.m__law_spots T.F__law_spots.kp T.b__law_spots .nil pass0 (pa_cons (pv 4) pa_nil))) (blkOk_by (own := [("way", 1)]) (N := ["plan", "way", "found", "at", "part"]) (sc := defScope s__law_spots) (by decide +kernel)) (fun _ _ _ _ _ => (pg_name (i := 1) sc__law_spots.nd rfl (by first | exact Or.inl rfl | exact Or.inr rfl))) (fun _ _ _ _ _ => pts_nil) (fun _ _ _ _ _ => (pe_op (show OpR _ _ (rCatA K) from op_catA) (pe_tup (pa_cons pe_int (pa_cons (pv 3) pa_nil))) (pv 1))))))))
    (pss_one (ps_ret (pv 2)))))), ?_⟩
    cases gd with
    | @leaf n s r h1 h2 h3 hf ok lay =>
      cases hd with
      | @tup a xs _ hs ha =>
      cases ha with
      | @cons _ xs' _ _ h0 hr' =>
      cases h0
      refine ⟨_, rfl, a, _, 0, _, rfl, rfl, hs, at_of (j := 0) rfl rfl, rfl, _, rfl, ?_⟩
      rw [decide_eq_false (show ¬ V.str s = V.str "not" from fun z => h1 (V.str.inj z))]
      refine iteF (next_of ?_)
      dsimp only
      refine ⟨(by show 0 ≤ sizeLine; decide), fun p0 f0 => ⟨(by show 1 ≤ sizeLine; decide), fun p1 f1 => ?_⟩⟩
      have g1 := (same_new f0 (.tup [])).trans (same_new f1 (.lst [.ref p0]))
      have e0 : upd (upd H p0 (.tup [])) p1 (.lst [.ref p0]) p0 = some (.tup []) := same_new f1 _ _ _ upd_same
      have e1 : upd (upd H p0 (.tup [])) p1 (.lst [.ref p0]) p1 = some (.lst [.ref p0]) := upd_same
      generalize upd (upd H p0 (.tup [])) p1 (.lst [.ref p0]) = H2 at *
      refine ⟨_, rfl, a, _, 0, _, rfl, rfl, Same.tup g1 hs, at_of (j := 0) rfl rfl, (by show 2 ≤ sizeLine; decide), fun p2 f2 => ?_⟩
      refine in_pair "and" "or" (d := .str s) (.str _) rfl upd_same ⟨_, rfl, ?_⟩
      have na : (isS (.str s) "and" || isS (.str s) "or") = false := by
        show (decide (s = "and") || decide (s = "or")) = false
        simp [h2, h3]
      rw [na]
      have g2 := g1.trans (same_new f2 (.tup [.str "and", .str "or"]))
      have e1' := same_new f2 (.tup [.str "and", .str "or"]) _ _ e1
      have e0' := same_new f2 (.tup [.str "and", .str "or"]) _ _ e0
      generalize upd H2 p2 (.tup [.str "and", .str "or"]) = H3 at *
      refine iteF ⟨(by show 0 ≤ sizeLine; decide), fun p3 f3 => ⟨p3, [], rfl, SqT.of upd_same, ?_⟩⟩
      have g3 := same_new f3 (.tup [])
      have e3 : upd H3 p3 (.tup []) p3 = some (.tup []) := upd_same
      have e1 := g3 _ _ e1'
      have e0 := g3 _ _ e0'
      have g23 := g2.trans g3
      generalize upd H3 p3 (.tup []) = H4 at *
      refine for_it (walk_enumT (xs := [])) (fun i σ H' => Same H4 H' ∧ σ = [some (.ref a), none, some (.ref p1), none, none]) ⟨Same.refl _, rfl⟩ (fun i σ H' hi z => SqT.of (z.1 _ _ e3)) (fun i x σ H' H'' hi => absurd hi (Nat.not_lt_zero _)) ?_
      rintro σ H' ⟨g, rfl⟩
      refine ⟨_, rfl, k p1 _ _ (g23.trans g) ((same_new f0 (.tup [])).free f1) (g _ _ e1) ?_⟩
      rw [spots_leaf h1 h2 h3]
      exact .cons (.tup (SqT.of (g _ _ e0)) .nil) .nil
    | @not n e he =>
      cases hd with
      | @tup a xs _ hs ha =>
      cases ha with
      | @cons _ xs' _ _ h0 hr' =>
      cases hr' with
      | @cons x1 _ _ _ dx1 hr2 =>
      cases h0
      cases hr2
      refine ⟨_, rfl, a, _, 0, _, rfl, rfl, hs, at_of (j := 0) rfl rfl, rfl, _, rfl, ?_⟩
      rw [decide_eq_true rfl]
      refine iteT ⟨(by show 0 ≤ sizeLine; decide), fun p0 f0 => ⟨(by show 1 ≤ sizeLine; decide), fun p1 f1 => ?_⟩⟩
      have g1 := (same_new f0 (.tup [])).trans (same_new f1 (.lst [.ref p0]))
      have e0 : upd (upd H p0 (.tup [])) p1 (.lst [.ref p0]) p0 = some (.tup []) := same_new f1 _ _ _ upd_same
      have e1 : upd (upd H p0 (.tup [])) p1 (.lst [.ref p0]) p1 = some (.lst [.ref p0]) := upd_same
      generalize upd (upd H p0 (.tup [])) p1 (.lst [.ref p0]) = H2 at *
      refine ⟨_, rfl, a, _, 1, _, rfl, rfl, Same.tup g1 hs, at_of (j := 1) rfl rfl, x1, c, n, e, rfl, dp_same g1 _ _ dx1, he, by omega, by omega, fun q ws H3 g3 _ hq dws => ⟨q, rfl, ⟨_, SqL.of hq⟩, fun D hD => ?_⟩⟩
      have lw := dps_len dws
      rw [List.length_map] at lw
      have lim : (spotsD n e).length ≤ 2000000 := by
        cases n with
        | zero => cases he
        | succ n =>
          refine Nat.le_trans (size_le he) (Nat.le_trans (Nat.pow_le_pow_right (by decide) (show n ≤ 3 by omega)) (by decide))
      refine lc_list (K := K) (a := q) (xs := ws) (fun i H' => Same H3 H' ∧ ∃ acc, H' D = some (.lst acc) ∧ acc.length = i ∧ DpAll K H' acc (((spotsD n e).take i).map fun w => wayD (1 :: w))) ⟨same_new hD _, [], upd_same, rfl, .nil⟩ (fun i H' _ z => z.1.seq (SqL.of hq)) ?_ ?_
      · rintro i x H' hx ⟨g4, acc, hacc, la, dacc⟩
        have hi := (List.getElem?_eq_some_iff.mp hx).1
        obtain ⟨w, hw⟩ : ∃ w, (spotsD n e)[i]? = some w := ⟨_, List.getElem?_eq_getElem (by omega)⟩
        obtain ⟨x', hx', dx'⟩ := dps_get dws (i := i) (d := wayD w) (by rw [List.getElem?_map, hw]; rfl)
        rw [hx] at hx'
        cases hx'
        have dx4 := dp_same g4 _ _ dx'
        cases dx4 with
        | @tup wa wxs _ hwa dwx =>
        refine ⟨rfl, (by show 1 ≤ sizeLine; decide), fun p3 f3 => ⟨_, rfl, ?_⟩⟩
        have g5 := same_new f3 (.tup [.int 1])
        refine rCatA_any (SqT.of upd_same) (Same.tup g5 hwa) ?_ fun p4 H5 g6 s4 => ⟨acc, g6 _ _ (g5 _ _ hacc), ?_, ?_, acc ++ [.ref p4], upd_same, ?_, ?_⟩
        · have l1 := at_len (at_of_spot he _ (List.mem_of_getElem? hw))
          have l2 := dps_len dwx
          rw [List.length_map] at l2
          show 1 + wxs.length ≤ sizeLine
          exact le_line (by omega)
        · rw [la]
          exact Nat.lt_of_lt_of_le (show i < 2000001 by omega) (by decide)
        · exact same_upd ((g4.trans g5).trans g6) hD
        · rw [List.length_append, la]
          rfl
        · rw [take_more' hw, List.map_append]
          have tu := tup_upd0 (K := K) (o := .lst (acc ++ [.ref p4])) (g6 _ _ (g5 _ _ hacc))
          refine dps_app (dps_tups tu _ _ ?_ (dps_same (g5.trans g6) _ _ dacc)) (.cons ?_ .nil)
          · have := ways_noL (((spotsD n e).take i).map fun w => 1 :: w)
            rw [List.map_map] at this
            exact this
          · refine way_app (pre := [1]) (w := w) (dps_tups tu _ _ ?_ (dps_same (g5.trans g6) _ _ dwx)) (tu _ _ s4)
            exact (Bool.and_eq_true_iff.mp (ways_noL [w])).1
      · rintro H' ⟨g4, acc, hacc, la, dacc⟩
        rw [List.take_of_length_le (by omega)] at dacc
        have e1b := g4 _ _ (g3 _ _ e1)
        refine ⟨p1, D, _, _, rfl, rfl, e1b, hacc, ?_, fun p5 f5 => ?_⟩
        · rw [la]
          exact Nat.le_of_lt (Nat.lt_of_le_of_lt (show 1 + ws.length ≤ 2000001 by omega) (by decide))
        have g7 := same_new f5 (.lst ([.ref p0] ++ acc))
        refine k p5 _ _ (((g1.trans g3).trans g4).trans g7) (((g1.trans g3).trans g4).free f5) upd_same ?_
        rw [spots_not, List.map_cons, List.map_map]
        exact .cons (.tup (SqT.of (g7 _ _ (g4 _ _ (g3 _ _ e0)))) .nil) (dps_same g7 _ _ dacc)
    | @kids n s ks hsx l2 l hks =>
      cases hd with
      | @tup a xs _ hs ha =>
      cases ha with
      | @cons _ xs' _ _ h0 hr' =>
      cases hr' with
      | @cons x1 _ _ _ dx1 hr2 =>
      cases h0
      cases hr2
      cases dx1 with
      | @tup b ys _ hb dys =>
      refine ⟨_, rfl, a, _, 0, _, rfl, rfl, hs, at_of (j := 0) rfl rfl, rfl, _, rfl, ?_⟩
      rw [decide_eq_false (show ¬ V.str s = V.str "not" from fun z => by rcases hsx with h | h <;> subst h <;> exact absurd z (by decide +kernel))]
      refine iteF (next_of ?_)
      dsimp only
      refine ⟨(by show 0 ≤ sizeLine; decide), fun p0 f0 => ⟨(by show 1 ≤ sizeLine; decide), fun p1 f1 => ?_⟩⟩
      have g1 := (same_new f0 (.tup [])).trans (same_new f1 (.lst [.ref p0]))
      have e0 : upd (upd H p0 (.tup [])) p1 (.lst [.ref p0]) p0 = some (.tup []) := same_new f1 _ _ _ upd_same
      have e1 : upd (upd H p0 (.tup [])) p1 (.lst [.ref p0]) p1 = some (.lst [.ref p0]) := upd_same
      generalize upd (upd H p0 (.tup [])) p1 (.lst [.ref p0]) = H2 at *
      refine ⟨_, rfl, a, _, 0, _, rfl, rfl, Same.tup g1 hs, at_of (j := 0) rfl rfl, (by show 2 ≤ sizeLine; decide), fun p2 f2 => ?_⟩
      refine in_pair "and" "or" (d := .str s) (.str _) rfl upd_same ⟨_, rfl, ?_⟩
      have na : (isS (.str s) "and" || isS (.str s) "or") = true := by rcases hsx with h | h <;> subst h <;> decide +kernel
      rw [na]
      have g2 := g1.trans (same_new f2 (.tup [.str "and", .str "or"]))
      have e1' := same_new f2 (.tup [.str "and", .str "or"]) _ _ e1
      have e0' := same_new f2 (.tup [.str "and", .str "or"]) _ _ e0
      generalize upd H2 p2 (.tup [.str "and", .str "or"]) = H3 at *
      refine iteT ⟨_, rfl, a, _, 1, _, rfl, rfl, Same.tup g2 hs, at_of (j := 1) rfl rfl, b, ys, rfl, Same.tup g2 hb, ?_⟩
      have lys := dps_len dys
      have lim : ∀ e, e ∈ ks → (spotsD n e).length ≤ 2000000 := fun e he => by
        have ge := hks e he
        cases n with
        | zero => cases ge
        | succ n => exact Nat.le_trans (size_le ge) (Nat.le_trans (Nat.pow_le_pow_right (by decide) (show n ≤ 3 by omega)) (by decide))
      have limK : (kidSp (spotsD n) 0 ks).length ≤ 2000000 := by
        have gk : Good c (n + 1) (.tuple [.str s, .tuple ks]) := .kids hsx l2 l hks
        have h5 := size_le gk
        rw [spots_kids hsx, List.length_cons] at h5
        have h6 : 101 ^ n ≤ 101 ^ 3 := Nat.pow_le_pow_right (by decide) (by omega)
        have h7 : (101 : Nat) ^ 3 = 1030301 := by decide
        omega
      refine for_it (walk_enumT (xs := ys)) (fun i σ H' => Same H3 H' ∧ ∃ (pf : Addr) (fws : List V) (x3 x4 : Option V), σ = [some (.ref a), none, some (.ref pf), x3, x4] ∧ H pf = none ∧ H' pf = some (.lst fws) ∧ DpAll K H' fws (([] :: kidSp (spotsD n) 0 (ks.take i)).map wayD))
        ⟨Same.refl _, p1, _, none, none, rfl, (same_new f0 (.tup [])).free f1, e1', .cons (.tup (SqT.of e0') .nil) .nil⟩ (fun i σ H' hi z => Same.tup (g2.trans z.1) hb) ?_ ?_
      · rintro i x σ H' H'' hi ⟨g, pf, fws, x3, x4, rfl, npf, hpf, dfws⟩ ⟨Tt, x', y, rfl, hT, rfl, ex, ey⟩
        obtain rfl := Option.some.inj ex
        obtain ⟨e, he⟩ : ∃ e, ks[i]? = some e := ⟨_, List.getElem?_eq_getElem (by omega)⟩
        obtain ⟨y', hy', dy⟩ := dps_get dys he
        have ey' : ys[i]? = some y := ey
        rw [ey'] at hy'
        cases hy'
        have mem := List.mem_of_getElem? he
        have gT := same_new hT (.tup [.int (i : Nat), y])
        have g30 := (g2.trans g).trans gT
        refine ⟨Tt, _, rfl, SqT.of upd_same, rfl, _, _, rfl, _, [], rfl, rfl, ?_⟩
        refine ⟨_, rfl, _, rfl, y, c, n, e, rfl, dp_same g30 _ _ dy, hks e mem, by omega, by omega, fun q ws H5 g5 _ hq dws => ⟨q, rfl, ⟨_, SqL.of hq⟩, fun D hD => ?_⟩⟩
        have lw := dps_len dws
        rw [List.length_map] at lw
        have lime := lim e mem
        refine lc_list (K := K) (a := q) (xs := ws) (fun j H' => Same H5 H' ∧ ∃ acc, H' D = some (.lst acc) ∧ acc.length = j ∧ DpAll K H' acc (((spotsD n e).take j).map fun w => wayD (1 :: i :: w))) ⟨same_new hD _, [], upd_same, rfl, .nil⟩ (fun i H' _ z => z.1.seq (SqL.of hq)) ?_ ?_
        · rintro j x H' hx ⟨g4, acc, hacc, la, dacc⟩
          have hj := (List.getElem?_eq_some_iff.mp hx).1
          obtain ⟨w, hw⟩ : ∃ w, (spotsD n e)[j]? = some w := ⟨_, List.getElem?_eq_getElem (by omega)⟩
          obtain ⟨x', hx', dx'⟩ := dps_get dws (i := j) (d := wayD w) (by rw [List.getElem?_map, hw]; rfl)
          rw [hx] at hx'
          cases hx'
          have dx4 := dp_same g4 _ _ dx'
          cases dx4 with
          | @tup wa wxs _ hwa dwx =>
          refine ⟨rfl, _, rfl, (by show 2 ≤ sizeLine; decide), fun p3 f3 => ⟨_, rfl, ?_⟩⟩
          have g6 := same_new f3 (.tup [.int 1, .int (i : Nat)])
          refine rCatA_any (SqT.of upd_same) (Same.tup g6 hwa) ?_ fun p4 H6 g7 s4 => ⟨acc, g7 _ _ (g6 _ _ hacc), ?_, ?_, acc ++ [.ref p4], upd_same, ?_, ?_⟩
          · have l1 := at_len (at_of_spot (hks e mem) _ (List.mem_of_getElem? hw))
            have l2 := dps_len dwx
            rw [List.length_map] at l2
            show 2 + wxs.length ≤ sizeLine
            exact le_line (by omega)
          · rw [la]
            exact Nat.lt_of_lt_of_le (show j < 2000001 by omega) (by decide)
          · exact same_upd ((g4.trans g6).trans g7) hD
          · rw [List.length_append, la]
            rfl
          · rw [take_more' hw, List.map_append]
            have tu := tup_upd0 (K := K) (o := .lst (acc ++ [.ref p4])) (g7 _ _ (g6 _ _ hacc))
            refine dps_app (dps_tups tu _ _ ?_ (dps_same (g6.trans g7) _ _ dacc)) (.cons ?_ .nil)
            · have := ways_noL (((spotsD n e).take j).map fun w => 1 :: i :: w)
              rw [List.map_map] at this
              exact this
            · refine way_app (pre := [1, i]) (w := w) (dps_tups tu _ _ ?_ (dps_same (g6.trans g7) _ _ dwx)) (tu _ _ s4)
              exact (Bool.and_eq_true_iff.mp (ways_noL [w])).1
        · rintro H' ⟨g4, acc, hacc, la, dacc⟩
          rw [List.take_of_length_le (by omega)] at dacc
          have gg := (gT.trans g5).trans g4
          have hpf' := gg _ _ hpf
          have et : ks.take (i + 1) = ks.take i ++ [e] := take_more' he
          have lt : (ks.take i).length = i := by rw [List.length_take]; omega
          have ek : kidSp (spotsD n) 0 (ks.take (i + 1)) = kidSp (spotsD n) 0 (ks.take i) ++ (spotsD n e).map (fun w => 1 :: i :: w) := by
            rw [et, kidSp_app, lt, Nat.zero_add, kidSp_cons]
            show _ ++ (_ ++ []) = _
            rw [List.append_nil]
          have lf := dps_len dfws
          rw [List.length_map, List.length_cons] at lf
          have lk : (kidSp (spotsD n) 0 (ks.take (i + 1))).length ≤ (kidSp (spotsD n) 0 ks).length := by
            have e9 : ks = ks.take (i + 1) ++ ks.drop (i + 1) := (List.take_append_drop _ _).symm
            have e10 := congrArg List.length (congrArg (kidSp (spotsD n) 0) e9)
            rw [kidSp_app, List.length_append] at e10
            omega
          rw [ek, List.length_append, List.length_map] at lk
          refine ⟨pf, D, _, _, rfl, rfl, hpf', hacc, ?_, fun p5 f5 => ?_⟩
          · rw [la, lf]
            exact Nat.le_of_lt (Nat.lt_of_le_of_lt (show _ ≤ 2000001 by omega) (by decide))
          have g7 := same_new f5 (.lst (fws ++ acc))
          refine ⟨(g.trans gg).trans g7, p5, _, _, _, rfl, ((g2.trans g).trans gg).free f5, upd_same, ?_⟩
          rw [ek, ← List.cons_append, List.map_append, List.map_map]
          exact dps_app (dps_same (gg.trans g7) _ _ dfws) (dps_same g7 _ _ dacc)
      · rintro σ H' ⟨g, pf, fws, x3, x4, rfl, npf, hpf, dfws⟩
        rw [List.take_of_length_le (by omega)] at dfws
        refine ⟨_, rfl, k pf _ _ (g2.trans g) npf hpf ?_⟩
        rw [spots_kids hsx]
        exact dfws
theorem ok__law_spots (T : Txt K mg) : FnOk P w K mg base CX0 10 T.a__law_spots T.d__law_spots ["plan"] (sp_lspots K 9) := ok_lspots T 9

end
end My
set_option Elab.async false
set_option linter.all false
set_option maxRecDepth 100000
set_option maxHeartbeats 400000
namespace My
open PySem L2 PySem.Spec PyProof.Rows
section
variable {P : Program} {w : World} {K : PySem.W.Frag} {mg : Str → Option Value} {base : Heap}
def hsL : List (List Str) := [[], ["k"], ["k"], ["k", "llllllll"]]
def ssL : List (List Str) := [["x"], ["x"], ["x", "yyyyyyyy"]]
def bigA : List (Str × Bool) := [("v", true), ("w", false), ("vvvvvvvv", true), ("ww", false)]
def asL : List (List (Str × Bool)) := [[], [("v", true)], [("v", true), ("w", false)], [("w", false)]]
def okB (hs : List Str) (as : List (Str × Bool)) (ss : List Str) : Bool := hs.all nameB && as.all (fun p => nameB p.1) && ss.all nameB && decide ((hs ++ as.map Prod.fst ++ ss).Nodup) && decide (hs.length ≤ 2) && decide (as.length ≤ 4) && decide (ss.length ≤ 2)
theorem okB_ok {hs : List Str} {as : List (Str × Bool)} {ss : List Str} (h : okB hs as ss = true) : ColsOk hs as ss := by
  unfold okB at h
  simp only [Bool.and_eq_true, decide_eq_true_eq, List.all_eq_true] at h
  obtain ⟨⟨⟨⟨⟨⟨h1, h2⟩, h3⟩, h4⟩, h5⟩, h6⟩, h7⟩ := h
  exact ⟨h1, h2, h3, h4, h5, h6, h7⟩
theorem all_ok : ∀ hs, hs ∈ hsL → ∀ as, as ∈ bigA :: asL → ∀ ss, ss ∈ ssL → okB hs as ss = true := by decide +kernel
def tStrs : List Str → TA
  | [] => tNil
  | x :: r => tCons (tC (.str x)) (tStrs r)
def tLs : List (List Str) → TA
  | [] => tNil
  | xs :: r => tCons (tLst (tStrs xs)) (tLs r)
theorem lay_strs : ∀ (xs : List Str) {σ : L2.St} {H : Hp} {Q : List V → Hp → Prop}, Q (xs.map V.str) H → tStrs xs σ H Q
  | [], _, _, _, h => h
  | x :: r, σ, H, Q, h => lay_strs r (Q := fun vs H' => Q (.str x :: vs) H') h
theorem lay_lists {d : Addr} : ∀ (xss : List (List Str)) (_ : ∀ xs, xs ∈ xss → xs.length ≤ 1000) {σ : L2.St} {H : Hp} {Q : List V → Hp → Prop}, (∃ o, H d = some o) →
    (∀ (rs : List V) (H' : Hp), Same H H' → rs.length = xss.length → (∀ (i : Nat) (v : V), rs[i]? = some v → ∃ l xs, xs ∈ xss ∧ v = V.ref l ∧ l ≠ d ∧ H' l = some (.lst (xs.map V.str))) → Q rs H') → tLs xss σ H Q
  | [], _, _, H, _, _, k => k [] H (Same.refl H) rfl fun i v h => by simp at h
  | xs :: r, hl, σ, H, Q, ht, k => by
    show tCons (tLst (tStrs xs)) (tLs r) σ H Q
    refine lay_strs xs ⟨le_line (by rw [List.length_map]; exact hl xs (List.mem_cons_self ..)), fun p hp => ?_⟩
    obtain ⟨o, ho⟩ := ht
    have np : p ≠ d := fun z => by
      rw [z, ho] at hp
      cases hp
    refine lay_lists r (fun x hx => hl x (List.mem_cons_of_mem _ hx)) ⟨o, same_new hp _ _ _ ho⟩ fun rs H' g le all_ => k (.ref p :: rs) H' ((same_new hp _).trans g) (by rw [List.length_cons, List.length_cons, le]) fun i v hv => ?_
    cases i with
    | zero =>
      obtain rfl := Option.some.inj hv
      exact ⟨p, xs, List.mem_cons_self .., rfl, np, g _ _ upd_same⟩
    | succ i =>
      obtain ⟨l, ys, h1, h2⟩ := all_ i v hv
      exact ⟨l, ys, List.mem_cons_of_mem _ h1, h2⟩
def prs (as : List (Str × Bool)) : List (TE × TE) := as.map fun p => (tC (.str p.1), tC (kindV p.2))
theorem pairs_as : ∀ (as : List (Str × Bool)) {σ : L2.St} {H : Hp} {Q : List (V × V) → Hp → Prop}, Q (as.map fun p => (V.str p.1, kindV p.2)) H → tPairs (prs as) σ H Q
  | [], _, _, _, h => h
  | p :: r, σ, H, Q, h => pairs_as r (Q := fun ps H' => Q ((.str p.1, kindV p.2) :: ps) H') h
theorem upd_twice {H : Hp} {p : Addr} {o o' : HO} : upd (upd H p o) p o' = upd H p o' := by
  funext b
  by_cases c : b = p
  · rw [c, upd_same, upd_same]
  · rw [upd_ne c, upd_ne c, upd_ne c]
theorem merge_as : ∀ (as bs : List (Str × Bool)), ((bs ++ as).map Prod.fst).Nodup → mergeK (kvsOf bs) (kvsOf as) = kvsOf (bs ++ as)
  | [], bs, _ => by
    rw [List.append_nil]
    rfl
  | p :: r, bs, nd => by
    have n : p.1 ∉ bs.map Prod.fst := fun z => by
      rw [List.map_append, List.nodup_append] at nd
      exact nd.2.2 _ z _ (List.mem_cons_self ..) rfl
    show mergeK (putK (kvsOf bs) (Sum.inr p.1) (kindV p.2)) (kvsOf r) = _
    rw [putK_new _ (kvsOf_none n)]
    have e : kvsOf bs ++ [(Sum.inr p.1, kindV p.2)] = kvsOf (bs ++ [p]) := by
      unfold kvsOf
      rw [List.map_append]
      rfl
    rw [e, merge_as r (bs ++ [p]) (by rw [List.append_assoc]; exact nd), List.append_assoc]
    rfl
theorem disp_as (as : List (Str × Bool)) (nd : (as.map Prod.fst).Nodup) (l : as.length ≤ 15) {σ : L2.St} {H : Hp} {Q : VK} (k : ∀ p, H p = none → Q (.ref p) (upd H p (.dK (kvsOf as)))) : tDisp (prs as) σ H Q := fun p hp => pairs_as as ⟨upd_same, kvsOf as, by unfold kvsOf; rw [List.map_map]; rfl, by unfold kvsOf; rw [List.length_map]; exact l, by
  have e := merge_as as [] nd
  rw [show kvsOf [] = [] from rfl, List.nil_append] at e
  rw [e, upd_twice]
  exact k p hp⟩
def sp_lcols (K : PySem.W.Frag) : Sp := fun vs H Q _ => ∃ (d : Addr), vs = [.ref d] ∧ Drw K H d ∧
  ∀ (cl : Addr) (hs : List Str) (as : List (Str × Bool)) (ss : List Str) (H' : Hp), hs ∈ hsL → as ∈ bigA :: asL → ss ∈ ssL → Drw K H' d → But d H H' → ClAt K d H' cl hs as ss → Q (.ref cl) H'
theorem ok__law_columns (T : Txt K mg) : FnOk P w K mg base CX0 4 T.a__law_columns T.d__law_columns ["draw"] (sp_lcols K) := by
  have G__law_pick := ok__law_pick (P := P) (w := w) (base := base) T
  have G__law_take := ok__law_take (P := P) (w := w) (base := base) T
  refine T.F__law_columns.ok sc__law_columns (fun vs H Q E h => ?_) (fun cdv A outer s H vs Q E hr h => ?_)
  · obtain ⟨d, rfl, _⟩ := h
    rfl
  obtain ⟨d, rfl, hD, k⟩ := h
  refine ⟨_, (pss_cons (ps_set (i := 1) sc__law_columns.nd rfl (by first | exact Or.inl rfl | exact Or.inr rfl) (pe_call G__law_pick (hr.mono (by first | decide | omega)) (by rfl) T.m__law_pick T.F__law_pick.kp T.b__law_pick .nil pass0 (pa_cons (pv 0) (pa_cons (pe_lst (pa_cons pe_dnewK (pa_cons (pe_disp (pps_cons pe_str pe_str pps_nil) rfl rfl (List.cons_ne_nil _ _) (by decide)) (pa_cons (pe_disp (pps_cons pe_str pe_str (pps_cons pe_str pe_str pps_nil)) rfl rfl (List.cons_ne_nil _ _) (by decide)) (pa_cons (pe_disp (pps_cons pe_str pe_str pps_nil) rfl rfl (List.cons_ne_nil _ _) (by decide)) pa_nil))))) pa_nil))))
    (pss_cons (ps_if (pt_cmpR op_eq (pe_call G__law_take (hr.mono (by first | decide | omega)) (by rfl) T.m__law_take T.F__law_take.kp T.b__law_take .nil pass0 (pa_cons (pv 0) (pa_cons pe_int pa_nil))) pe_int (nomark _)) (pss_one (ps_set (i := 1) sc__law_columns.nd rfl (by first | exact Or.inl rfl | exact Or.inr rfl) (pe_disp (pps_cons pe_str pe_str (pps_cons pe_str pe_str (pps_cons pe_str pe_str (pps_cons pe_str pe_str pps_nil)))) rfl rfl (List.cons_ne_nil _ _) (by decide)))) pss_nil)
    (pss_one (ps_ret (pe_tup (pa_cons (pe_call G__law_pick (hr.mono (by first | decide | omega)) (by rfl) T.m__law_pick T.F__law_pick.kp T.b__law_pick .nil pass0 (pa_cons (pv 0) (pa_cons (pe_lst (pa_cons (pe_lst pa_nil) (pa_cons (pe_lst (pa_cons pe_str pa_nil)) (pa_cons (pe_lst (pa_cons pe_str pa_nil)) (pa_cons (pe_lst (pa_cons pe_str (pa_cons pe_str pa_nil))) pa_nil))))) pa_nil))) (pa_cons (pv 1) (pa_cons (pe_call G__law_pick (hr.mono (by first | decide | omega)) (by rfl) T.m__law_pick T.F__law_pick.kp T.b__law_pick .nil pass0 (pa_cons (pv 0) (pa_cons (pe_lst (pa_cons (pe_lst (pa_cons pe_str pa_nil)) (pa_cons (pe_lst (pa_cons pe_str pa_nil)) (pa_cons (pe_lst (pa_cons pe_str (pa_cons pe_str pa_nil))) pa_nil)))) pa_nil))) pa_nil)))))))), ?_⟩
  refine seq_cut (fun σ' H' => Drw K H' d ∧ But d H H' ∧ ∃ (a : Addr) (as : List (Str × Bool)), as ∈ asL ∧ a ≠ d ∧ H' a = some (.dK (kvsOf as)) ∧ σ' = [some (.ref d), some (.ref a)]) (fun σ' H' h => ?_) (fun tail => ?_)
  rotate_left
  · refine ⟨_, rfl, fun p1 f1 => disp_as [("v", true)] (by decide +kernel) (by decide) fun p2 f2 => disp_as [("v", true), ("w", false)] (by decide +kernel) (by decide) fun p3 f3 => disp_as [("w", false)] (by decide +kernel) (by decide) fun p4 f4 => ⟨(by show 4 ≤ sizeLine; decide), fun p5 f5 => ?_⟩⟩
    have e1 : upd H p1 (.dK []) p1 = some (.dK (kvsOf [])) := upd_same
    have g1 := same_new f1 (.dK [])
    generalize upd H p1 (.dK []) = H1 at *
    have e2 : upd H1 p2 (.dK (kvsOf [("v", true)])) p2 = some (.dK (kvsOf [("v", true)])) := upd_same
    have g2 := same_new f2 (.dK (kvsOf [("v", true)]))
    generalize upd H1 p2 (.dK (kvsOf [("v", true)])) = H2 at *
    have e3 : upd H2 p3 (.dK (kvsOf [("v", true), ("w", false)])) p3 = some (.dK (kvsOf [("v", true), ("w", false)])) := upd_same
    have g3 := same_new f3 (.dK (kvsOf [("v", true), ("w", false)]))
    generalize upd H2 p3 (.dK (kvsOf [("v", true), ("w", false)])) = H3 at *
    have e4 : upd H3 p4 (.dK (kvsOf [("w", false)])) p4 = some (.dK (kvsOf [("w", false)])) := upd_same
    have g4 := same_new f4 (.dK (kvsOf [("w", false)]))
    generalize upd H3 p4 (.dK (kvsOf [("w", false)])) = H4 at *
    have g5 := same_new f5 (.lst [.ref p1, .ref p2, .ref p3, .ref p4])
    have hD1 := hD.same g1
    have hD2 := hD1.same g2
    have hD3 := hD2.same g3
    have hD4 := hD3.same g4
    refine ⟨d, p5, _, rfl, hD4.same g5, .inl ⟨SqL.of upd_same, drw_ne hD4 f5⟩, (by show 0 < 4; decide), fun j v H6 hv hD6 b6 => ?_⟩
    have n1 : p1 ≠ d := drw_ne hD f1
    have n2 : p2 ≠ d := drw_ne hD1 f2
    have n3 : p3 ≠ d := drw_ne hD2 f3
    have n4 : p4 ≠ d := drw_ne hD3 f4
    have b0 : But d H H6 := (Same.but ((((g1.trans g2).trans g3).trans g4).trans g5)).trans b6
    obtain ⟨p, as, m, n, e, rfl⟩ : ∃ (p : Addr) (as : List (Str × Bool)), as ∈ asL ∧ p ≠ d ∧ H4 p = some (.dK (kvsOf as)) ∧ v = .ref p := by
      match j, hv with
      | 0, hv => exact ⟨p1, [], by simp [asL], n1, g4 _ _ (g3 _ _ (g2 _ _ e1)), (Option.some.inj hv).symm⟩
      | 1, hv => exact ⟨p2, _, by simp [asL], n2, g4 _ _ (g3 _ _ e2), (Option.some.inj hv).symm⟩
      | 2, hv => exact ⟨p3, _, by simp [asL], n3, g4 _ _ e3, (Option.some.inj hv).symm⟩
      | 3, hv => exact ⟨p4, _, by simp [asL], n4, e4, (Option.some.inj hv).symm⟩
      | j + 4, hv => simp at hv
    exact tail _ _ ⟨hD6, b0, p, as, m, n, b6 _ _ n (g5 _ _ e), rfl⟩
  obtain ⟨hD1, b1, a0, as0, m0, n0, e0, rfl⟩ := h
  refine seq_cut (fun σ' H'' => Drw K H'' d ∧ But d H H'' ∧ ∃ (a : Addr) (as : List (Str × Bool)), as ∈ bigA :: asL ∧ a ≠ d ∧ H'' a = some (.dK (kvsOf as)) ∧ σ' = [some (.ref d), some (.ref a)]) (fun σ' H'' h => ?_) (fun tail => ?_)
  rotate_left
  · refine ⟨_, rfl, d, 6, rfl, hD1, by decide, fun r H2 r0 r6 hD2 b2 => ⟨rfl, _, rfl, ite2 (fun _ => ?_) (fun _ => next_of ?_)⟩⟩
    · refine disp_as bigA (by decide +kernel) (by decide) fun p hp => ?_
      exact tail _ _ ⟨hD2.same (same_new hp _), (b1.trans b2).same (same_new hp _), p, bigA, List.mem_cons_self .., drw_ne hD2 hp, upd_same, rfl⟩
    · exact tail _ _ ⟨hD2, b1.trans b2, a0, as0, List.mem_cons_of_mem _ m0, n0, b2 _ _ n0 e0, rfl⟩
  obtain ⟨hD2, b2, a, as, ma, na, ea, rfl⟩ := h
  have pickL : ∀ (xss : List (List Str)) (H1 : Hp) (Q1 : VK), (∀ xs, xs ∈ xss → xs.length ≤ 1000) → 0 < xss.length → xss.length ≤ 1000 → Drw K H1 d → (∀ l xs H', xs ∈ xss → l ≠ d → Drw K H' d → But d H1 H' → H' l = some (.lst (xs.map V.str)) → Q1 (.ref l) H') →
      tCall (sp_pick K) [] E0 (tCons (tVar 0) (tCons (tLst (tLs xss)) tNil)) [some (.ref d), some (.ref a)] H1 Q1 := fun xss H1 Q1 lx l0 l1 hD1 k1 => by
    obtain ⟨yy, hy⟩ := hD1.at
    refine ⟨_, rfl, lay_lists xss lx ⟨_, hy⟩ fun rs H2 g le all_ => ⟨le_line (by rw [le]; exact l1), fun p hp => ?_⟩⟩
    have g2 := same_new hp (.lst rs)
    refine ⟨d, p, rs, rfl, (hD1.same g).same g2, .inl ⟨SqL.of upd_same, drw_ne (hD1.same g) hp⟩, by rw [le]; exact l0, fun j v H3 hv hD3 b3 => ?_⟩
    obtain ⟨l, xs, m, rfl, nl, el⟩ := all_ j v hv
    exact k1 l xs H3 m nl hD3 ((Same.but (g.trans g2)).trans b3) (b3 _ _ nl (g2 _ _ el))
  refine pickL hsL H'' _ (by decide +kernel) (by decide) (by decide) hD2 fun l hs H3 mh nl hD3 b3 el => ⟨_, rfl, ?_⟩
  refine pickL ssL H3 _ (by decide +kernel) (by decide) (by decide) hD3 fun s2 ss H4 ms ns hD4 b4 es => ⟨(by show 3 ≤ sizeLine; decide), fun q hq => ?_⟩
  have g := same_new hq (.tup [.ref l, .ref a, .ref s2])
  have nq := drw_ne hD4 hq
  exact k q hs as ss _ mh ma ms (hD4.same g) (((b2.trans b3).trans b4).same g) ⟨l, a, s2, upd_same, nq, nl, na, ns, SqL.of (g _ _ (b4 _ _ nl el)), g _ _ (b4 _ _ na (b3 _ _ na ea)), SqL.of (g _ _ es)⟩

end
end My
set_option Elab.async false
set_option linter.all false
set_option maxRecDepth 100000
set_option maxHeartbeats 400000
namespace My
open PySem L2 PySem.Spec PyProof.Rows
section
variable {P : Program} {w : World} {K : PySem.W.Frag} {mg : Str → Option Value} {base : Heap}
/-! ### displays with a name, negative numbers, texts times numbers -/
inductive Dm
  | non
  | bl (b : Bool)
  | int (i : Int)
  | neg (i : Int)
  | str (s : Str)
  | var
  | mul (s : Str) (n : Nat)
  | tup (ds : List Dm)
  | lst (ds : List Dm)
def rMulS : R2 := fun x y H Q => ∃ (s : Str) (n : Nat), x = .str s ∧ y = .int (n : Int) ∧ s.length ≤ 1000 ∧ s.length ≠ 0 ∧ 1 ≤ n ∧ n ≤ 1000 ∧ Q (.str (timesS s n)) H
mutual
def Dm.val (nm : Str) : Dm → PyData
  | .non => .none
  | .bl b => .bool b
  | .int i => .int i
  | .neg i => .int (-i)
  | .str s => .str s
  | .var => .str nm
  | .mul s n => .str (timesS s n)
  | .tup ds => .tuple (Dm.vals nm ds)
  | .lst ds => .list (Dm.vals nm ds)
def Dm.vals (nm : Str) : List Dm → List PyData
  | [] => []
  | d :: ds => Dm.val nm d :: Dm.vals nm ds
end
mutual
def tDm (k : Nat) : Dm → TE
  | .non => tC .non
  | .bl b => tC (.bl b)
  | .int i => tC (.int i)
  | .neg i => tUn (rU fun i => .int (-i)) (tC (.int i))
  | .str s => tC (.str s)
  | .var => tVar k
  | .mul s n => tOp rMulS (tC (.str s)) (tC (.int n))
  | .tup ds => tTup (tDms k ds)
  | .lst ds => tLst (tDms k ds)
def tDms (k : Nat) : List Dm → TA
  | [] => tNil
  | d :: ds => tCons (tDm k d) (tDms k ds)
end
mutual
def Dm.sm : Dm → Bool
  | .tup ds => decide (ds.length ≤ 1000) && Dm.sms ds
  | .lst ds => decide (ds.length ≤ 1000) && Dm.sms ds
  | .mul s n => decide (s.length ≤ 1000) && (decide (s.length ≠ 0) && (decide (1 ≤ n) && decide (n ≤ 1000)))
  | .non => true
  | .bl _ => true
  | .int _ => true
  | .neg _ => true
  | .str _ => true
  | .var => true
def Dm.sms : List Dm → Bool
  | [] => true
  | d :: ds => Dm.sm d && Dm.sms ds
end
mutual
def Dm.nv : Dm → Bool
  | .tup ds => Dm.nvs ds
  | .lst ds => Dm.nvs ds
  | .var => false
  | .mul _ _ => true
  | .non => true
  | .bl _ => true
  | .int _ => true
  | .neg _ => true
  | .str _ => true
def Dm.nvs : List Dm → Bool
  | [] => true
  | d :: ds => Dm.nv d && Dm.nvs ds
end
theorem Dm.vals_len (nm : Str) : ∀ ds : List Dm, (Dm.vals nm ds).length = ds.length
  | [] => rfl
  | _ :: ds => congrArg Nat.succ (Dm.vals_len nm ds)
mutual
theorem lay_dm {K : PySem.W.Frag} {dd : Addr} {k : Nat} {nm : Str} : ∀ (d : Dm) (_ : d.sm = true) {σ : L2.St} {H : Hp} {Q : VK}, (d.nv = false → σ[k]? = some (some (.str nm))) → (∃ o, H dd = some o) → (∀ v H', Same H H' → Dp K (del H' dd) v (d.val nm) → Q v H') → tDm k d σ H Q
  | .non, _, _, H, _, _, _, q => q _ H (Same.refl H) .non
  | .bl b, _, _, H, _, _, _, q => q _ H (Same.refl H) (.bl b)
  | .int i, _, _, H, _, _, _, q => q _ H (Same.refl H) (.int i)
  | .neg i, _, _, H, _, _, _, q => ⟨i, rfl, q _ H (Same.refl H) (.int _)⟩
  | .str s, _, _, H, _, _, _, q => q _ H (Same.refl H) (.str s)
  | .var, _, _, H, _, hk, _, q => ⟨_, hk rfl, q _ H (Same.refl H) (.str nm)⟩
  | .mul s n, h, _, H, _, _, _, q => by
    have h' : (decide (s.length ≤ 1000) && (decide (s.length ≠ 0) && (decide (1 ≤ n) && decide (n ≤ 1000)))) = true := h
    simp only [Bool.and_eq_true, decide_eq_true_eq] at h'
    exact ⟨s, n, rfl, rfl, h'.1, h'.2.1, h'.2.2.1, h'.2.2.2, q _ H (Same.refl H) (.str _)⟩
  | .tup ds, h, σ, H, Q, hk, ht, q => by
    have h' : (decide (ds.length ≤ 1000) && Dm.sms ds) = true := h
    rw [Bool.and_eq_true] at h'
    show tTup (tDms k ds) σ H Q
    refine lay_dms (K := K) (nm := nm) ds h'.2 hk ht fun vs H1 g dv => ⟨le_line (by rw [dps_len dv, Dm.vals_len]; exact of_decide_eq_true h'.1), fun p hp => q _ _ (g.trans (same_new hp _)) ?_⟩
    obtain ⟨o, ho⟩ := ht
    have np : p ≠ dd := fun z => by
      rw [z, g _ _ ho] at hp
      cases hp
    exact .tup (SqT.of (off_at upd_same np)) (dps_same (off_new hp) _ _ dv)
  | .lst ds, h, σ, H, Q, hk, ht, q => by
    have h' : (decide (ds.length ≤ 1000) && Dm.sms ds) = true := h
    rw [Bool.and_eq_true] at h'
    show tLst (tDms k ds) σ H Q
    refine lay_dms (K := K) (nm := nm) ds h'.2 hk ht fun vs H1 g dv => ⟨le_line (by rw [dps_len dv, Dm.vals_len]; exact of_decide_eq_true h'.1), fun p hp => q _ _ (g.trans (same_new hp _)) ?_⟩
    obtain ⟨o, ho⟩ := ht
    have np : p ≠ dd := fun z => by
      rw [z, g _ _ ho] at hp
      cases hp
    exact .lst (SqL.of (off_at upd_same np)) (dps_same (off_new hp) _ _ dv)
theorem lay_dms {K : PySem.W.Frag} {dd : Addr} {k : Nat} {nm : Str} : ∀ (ds : List Dm) (_ : Dm.sms ds = true) {σ : L2.St} {H : Hp} {Q : List V → Hp → Prop}, (Dm.nvs ds = false → σ[k]? = some (some (.str nm))) → (∃ o, H dd = some o) → (∀ vs H', Same H H' → DpAll K (del H' dd) vs (Dm.vals nm ds) → Q vs H') → tDms k ds σ H Q
  | [], _, _, H, _, _, _, q => q _ H (Same.refl H) .nil
  | d :: ds, h, σ, H, Q, hk, ht, q => by
    have h' : (Dm.sm d && Dm.sms ds) = true := h
    rw [Bool.and_eq_true] at h'
    show tCons (tDm k d) (tDms k ds) σ H Q
    have hk1 : d.nv = false → σ[k]? = some (some (.str nm)) := fun z => hk (by show (Dm.nv d && Dm.nvs ds) = false; rw [z]; rfl)
    have hk2 : Dm.nvs ds = false → σ[k]? = some (some (.str nm)) := fun z => hk (by show (Dm.nv d && Dm.nvs ds) = false; rw [z, Bool.and_false])
    refine lay_dm (K := K) (nm := nm) d h'.1 hk1 ht fun v H1 g dv => lay_dms (K := K) (nm := nm) ds h'.2 hk2 ?_ fun vs H2 g2 dvs => q _ _ (g.trans g2) (.cons (dp_same (off_same g2) _ _ dv) dvs)
    obtain ⟨o, ho⟩ := ht
    exact ⟨o, g _ _ ho⟩
end

end
end My
set_option Elab.async false
set_option linter.all false
set_option maxRecDepth 100000
set_option maxHeartbeats 400000
namespace My
open PySem L2 PySem.Spec PyProof.Rows
section
variable {P : Program} {w : World} {K : PySem.W.Frag} {mg : Str → Option Value} {base : Heap}
abbrev pD (a b : Int) : Dm := .tup [.int a, .int b]
def B0 : List Dm := [.non, .tup [], .str "all", .lst [.str "all"], .tup [.str "all", .int 1], .tup [.str "some"], .tup [.int 3], .tup [.str "not"], .tup [.str "not", .tup [.str "all"], .tup [.str "all"]], .tup [.str "and", .tup []], .tup [.str "and", .tup [.tup [.str "all"]]]]
def B1 : List Dm := [.tup [.str "or", .lst [.tup [.str "all"], .tup [.str "none"]]], .tup [.str "or", .tup [.str "all"], .tup [.str "none"]], .tup [.str "row", .str "a"], .tup [.str "row", .str "A", pD 1 2]]
def B2 : List Dm := [.tup [.str "row", .str "and", pD 1 2], .tup [.str "row", .str "a", pD 2 4]]
def B3 : List Dm := [.tup [.str "row", .str "a", pD 3 2], .tup [.str "row", .str "a", .tup [.neg 1, .int 2]], .tup [.str "row", .str "a", pD 1 1001], .tup [.str "block", .str "a", .int 1], .tup [.str "block", .str "a", .lst [.int 1, .int 2]], .tup [.str "row", .str "a", .tup [.bl true, .int 2]]]
def B4 : List Dm := [.tup [.str "hash", .str "a", pD 1 2], .tup [.str "hash", .str "zz", .str "a", pD 1 2], .tup [.str "hash", .str "x", .str "a", pD 1 2], .tup [.str "less", .str "x", .int 0], .tup [.str "is", .str "zz", .int 0], .tup [.str "row", .int 3, pD 1 2]]
def BN : List Dm := [.tup [.str "hash", .var, .str "A", pD 1 2], .tup [.str "hash", .var, .str "a", pD 2 4], .tup [.str "hash", .var, .str "a", .int 1], .tup [.str "hash", .var, .non, pD 1 2]]
def BT : List Dm := [.tup [.str "like", .var, .str "a"], .tup [.str "less", .var, .non], .tup [.str "is", .var, .str "0"], .tup [.str "less", .var, .int 1000001], .tup [.str "is", .var, .bl true], .tup [.str "less", .var]]
def BF : List Dm := [.tup [.str "less", .var, .int 0], .tup [.str "is", .var, .int 0], .tup [.str "like", .var, .mul "a" 13], .tup [.str "is", .var, .mul "a" 13], .tup [.str "like", .var, .str "a\n"], .tup [.str "like", .var, .non]]
def badL (hs : List Str) (as : List (Str × Bool)) : List PyData := Dm.vals "" B0 ++ Dm.vals "" B1 ++ Dm.vals "" B2 ++ Dm.vals "" B3 ++ Dm.vals "" B4 ++ hs.flatMap (fun n => Dm.vals n BN) ++ as.flatMap fun p => if p.2 = true then Dm.vals p.1 BT else Dm.vals p.1 BF
def strB : PyData → Bool
  | .str s => decide (s.length ≤ 1000)
  | _ => true
def head4 : List PyData → Bool
  | [_, a, _, _] => flatD a
  | _ => true
def head1 : List PyData → Bool
  | h :: _ => flatD h
  | [] => true
def dataB : PyData → Bool
  | .tuple ds => ds.all strB && (head1 ds && head4 ds)
  | _ => true
def badB (c : Cols) (x : PyData) : Bool := !formD c x && (dataB x && (strB x && SeqAt.shaped (.tuple [x])))
theorem bad_ok : ∀ hs, hs ∈ hsL → ∀ as, as ∈ bigA :: asL → ∀ x, x ∈ badL hs as → badB (colsOf hs as) x = true := by decide +kernel
theorem strB_ok {x : PyData} (h : strB x = true) : StrOk x := fun s e => by
  subst e
  exact of_decide_eq_true h
theorem dataB_ok {x : PyData} (h : dataB x = true) : DataOk x := fun ds e => by
  subst e
  have h' : (ds.all strB && (head1 ds && head4 ds)) = true := h
  rw [Bool.and_eq_true, Bool.and_eq_true, List.all_eq_true] at h'
  refine ⟨fun d hd => strB_ok (h'.1 d hd), fun h r z => ?_, fun h a b e z => ?_⟩
  · subst z
    exact h'.2.1
  · subst z
    exact h'.2.2
/-- what is known of a bad part -/
structure Bad (c : Cols) (x : PyData) : Prop where
  form : formD c x = false
  data : DataOk x
  str : StrOk x
  shape : SeqAt.shaped (.tuple [x]) = true
theorem bad_of {c : Cols} {x : PyData} (h : badB c x = true) : Bad c x := by
  unfold badB at h
  rw [Bool.and_eq_true, Bool.and_eq_true, Bool.and_eq_true] at h
  refine ⟨?_, dataB_ok h.2.1, strB_ok h.2.2.1, h.2.2.2⟩
  cases e : formD c x with
  | false => rfl
  | true =>
    rw [e] at h
    exact absurd h.1 (by decide)
/-- the list of what is bad, as far as it is put together -/
def BadAt (K : PySem.W.Frag) (d : Addr) (L : List PyData) (m : Nat) (H : Hp) (pb : Addr) : Prop := ∃ bs xs, H pb = some (.lst bs) ∧ pb ≠ d ∧ DpAll K (del H d) bs xs ∧ (∀ x, x ∈ xs → x ∈ L) ∧ (1 ≤ bs.length ∧ bs.length ≤ m)
/-- bad + [..] -/
theorem bad_more {K : PySem.W.Frag} {d pb : Addr} {L : List PyData} {m : Nat} {H : Hp} {σ : L2.St} {Q : VK} {k j : Nat} {nm : Str} (ds : List Dm) (sm : Dm.sms ds = true) (hD : Drw K H d) (hB : BadAt K d L m H pb) (hj : σ[j]? = some (some (.ref pb))) (hk : Dm.nvs ds = false → σ[k]? = some (some (.str nm)))
    (sub : ∀ x, x ∈ Dm.vals nm ds → x ∈ L) (lim : m + ds.length ≤ 1000) (k1 : ∀ p H', Same H H' → BadAt K d L (m + ds.length) H' p → Q (.ref p) H') : tOp rCat (tVar j) (tLst (tDms k ds)) σ H Q := by
  obtain ⟨bs, xs, hb, nb, db, sb, lb⟩ := hB
  obtain ⟨ys, hy⟩ := hD.at
  refine ⟨_, hj, lay_dms (K := K) (dd := d) (nm := nm) ds sm hk ⟨_, hy⟩ fun vs H1 g dv => ?_⟩
  have lv := dps_len dv
  rw [Dm.vals_len] at lv
  refine ⟨le_line (by omega), fun p1 f1 => ?_⟩
  have g1 := same_new f1 (.lst vs)
  refine ⟨pb, p1, _, _, rfl, rfl, g1 _ _ (g _ _ hb), upd_same, le_line (by omega), fun p2 f2 => ?_⟩
  have g2 := same_new f2 (.lst (bs ++ vs))
  refine k1 p2 _ ((g.trans g1).trans g2) ⟨bs ++ vs, xs ++ Dm.vals nm ds, upd_same, drw_ne ((hD.same g).same g1) f2, dps_app (dps_same (((off_same g).trans (off_new f1)).trans (off_new f2)) _ _ db) (dps_same ((off_new f1).trans (off_new f2)) _ _ dv), fun x hx => ?_, by rw [List.length_append]; omega⟩
  rcases List.mem_append.mp hx with hx | hx
  · exact sb x hx
  · exact sub x hx

end
end My
set_option Elab.async false
set_option linter.all false
set_option maxRecDepth 100000
set_option maxHeartbeats 400000
namespace My
open PySem L2 PySem.Spec PyProof.Rows
section
variable {P : Program} {w : World} {K : PySem.W.Frag} {mg : Str → Option Value} {base : Heap}
/-- an object that is no list and no tuple -/
def NoSeq : Option HO → Prop
  | some (.dK _) => True
  | some (.frz _ (.dK _)) => True
  | _ => False
mutual
theorem dp_seqs {K : PySem.W.Frag} {H H' : Hp} (e : ∀ a xs, SqT K H a xs → SqT K H' a xs) (l : ∀ a xs, SqL K H a xs → SqL K H' a xs) : ∀ (d : PyData) (v : V), Dp K H v d → Dp K H' v d
  | .none, _, h => by cases h; exact .non
  | .bool b, _, h => by cases h; exact .bl b
  | .int i, _, h => by cases h; exact .int i
  | .str s, _, h => by cases h; exact .str s
  | .dict _, _, h => by cases h
  | .list ds, _, h => by
    cases h with
    | lst hs ha => exact .lst (l _ _ hs) (dps_seqs e l ds _ ha)
  | .tuple ds, _, h => by
    cases h with
    | tup hs ha => exact .tup (e _ _ hs) (dps_seqs e l ds _ ha)
theorem dps_seqs {K : PySem.W.Frag} {H H' : Hp} (e : ∀ a xs, SqT K H a xs → SqT K H' a xs) (l : ∀ a xs, SqL K H a xs → SqL K H' a xs) : ∀ (ds : List PyData) (vs : List V), DpAll K H vs ds → DpAll K H' vs ds
  | [], _, h => by cases h; exact .nil
  | d :: ds, _, h => by
    cases h with
    | cons a b => exact .cons (dp_seqs e l d _ a) (dps_seqs e l ds _ b)
end
theorem noseq_keeps {H : Hp} {a d : Addr} {o : HO} (n : NoSeq (H a)) : ∀ b u, ¬ NoSeq (some u) → del H d b = some u → del (upd H a o) d b = some u := fun b u hu e => by
  have nd : b ≠ d := fun z => by
    rw [z, del_same] at e
    cases e
  rw [del_ne nd] at e ⊢
  rw [upd_ne (fun z => by rw [z] at e; rw [e] at n; exact hu n)]
  exact e
theorem dps_noseq {K : PySem.W.Frag} {H : Hp} {a d : Addr} {o : HO} (n : NoSeq (H a)) {vs : List V} {ds : List PyData} (h : DpAll K (del H d) vs ds) : DpAll K (del (upd H a o) d) vs ds := by
  refine dps_seqs (fun b xs z => ?_) (fun b xs z => ?_) _ _ h
  · rcases z with (z | ⟨q, z⟩) | z
    · exact .inl (.inl (noseq_keeps n b _ (fun q => q) z))
    · exact .inl (.inr ⟨q, noseq_keeps n b _ (fun q => q) z⟩)
    · exact .inr z
  · rcases z with (z | ⟨q, z⟩) | z
    · exact .inl (.inl (noseq_keeps n b _ (fun q => q) z))
    · exact .inl (.inr ⟨q, noseq_keeps n b _ (fun q => q) z⟩)
    · exact .inr z
theorem drw_noseq {K : PySem.W.Frag} {H : Hp} {a d : Addr} {o : HO} (n : NoSeq (H a)) (h : Drw K H d) : Drw K (upd H a o) d := by
  obtain ⟨sc, ns, i, h1, h2, h3⟩ := h
  refine ⟨sc, ns, i, ?_, ?_, h3⟩
  · rw [upd_ne (fun z => by rw [← z, h1] at n; exact n)]
    exact h1
  · rcases h2 with ⟨q, h2⟩ | h2
    · refine .inl ⟨q, ?_⟩
      rw [upd_ne (fun z => by rw [← z, h2] at n; exact n)]
      exact h2
    · exact .inr h2
theorem bad_noseq {K : PySem.W.Frag} {H : Hp} {a d pb : Addr} {o : HO} {L : List PyData} {m : Nat} (n : NoSeq (H a)) (h : BadAt K d L m H pb) : BadAt K d L m (upd H a o) pb := by
  obtain ⟨bs, xs, h1, h2, h3, h4, h5⟩ := h
  refine ⟨bs, xs, ?_, h2, dps_noseq n h3, h4, h5⟩
  rw [upd_ne (fun z => by rw [← z, h1] at n; exact n)]
  exact h1
theorem BadAt.same {K : PySem.W.Frag} {d pb : Addr} {L : List PyData} {m : Nat} {H H' : Hp} (h : BadAt K d L m H pb) (g : Same H H') : BadAt K d L m H' pb := by
  obtain ⟨bs, xs, h1, h2, h3, h4, h5⟩ := h
  exact ⟨bs, xs, g _ _ h1, h2, dps_same (off_same g) _ _ h3, h4, h5⟩
theorem bad_set {K : PySem.W.Frag} {d pb : Addr} {L : List PyData} {m : Nat} {H : Hp} {σ : L2.St} {D : Ends} {u : TS} {t : TA} {nm : Str} (ds : List Dm) (ht : t = tDms 3 ds) (sm : Dm.sms ds = true) (hD : Drw K H d) (hB : BadAt K d L m H pb) (hj : σ[2]? = some (some (.ref pb))) (hk : Dm.nvs ds = false → σ[3]? = some (some (.str nm)))
    (sub : ∀ x, x ∈ Dm.vals nm ds → x ∈ L) (lim : m + ds.length ≤ 1000) (k1 : ∀ p H', Same H H' → BadAt K d L (m + ds.length) H' p → u D (σ.set 2 (some (.ref p))) H') : tSeq (tAsg (tOp rCat (tVar 2) (tLst t)) (gName 2)) u D σ H := by
  subst ht
  exact bad_more (k := 3) (j := 2) (nm := nm) (Q := fun v H' => u D (σ.set 2 (some v)) H') ds sm hD hB hj hk sub lim k1
theorem bad_set1 {K : PySem.W.Frag} {d pb : Addr} {L : List PyData} {m : Nat} {H : Hp} {σ : L2.St} {D : Ends} {t : TA} {nm : Str} (ds : List Dm) (ht : t = tDms 3 ds) (sm : Dm.sms ds = true) (hD : Drw K H d) (hB : BadAt K d L m H pb) (hj : σ[2]? = some (some (.ref pb))) (hk : Dm.nvs ds = false → σ[3]? = some (some (.str nm)))
    (sub : ∀ x, x ∈ Dm.vals nm ds → x ∈ L) (lim : m + ds.length ≤ 1000) (k1 : ∀ p H', Same H H' → BadAt K d L (m + ds.length) H' p → D.nx (σ.set 2 (some (.ref p))) H') : tAsg (tOp rCat (tVar 2) (tLst t)) (gName 2) D σ H := by
  subst ht
  exact bad_more (k := 3) (j := 2) (nm := nm) (Q := fun v H' => D.nx (σ.set 2 (some v)) H') ds sm hD hB hj hk sub lim k1
theorem bad_first {K : PySem.W.Frag} {d : Addr} {H : Hp} {σ : L2.St} {D : Ends} {u : TS} {t : TA} {nm : Str} (ds : List Dm) (ht : t = tDms 3 ds) (sm : Dm.sms ds = true) (hD : Drw K H d) (hk : Dm.nvs ds = false → σ[3]? = some (some (.str nm)))
    (k1 : ∀ vs H1, Same H H1 → DpAll K (del H1 d) vs (Dm.vals nm ds) → vs.length ≤ sizeLine ∧ ∀ p, H1 p = none → u D (σ.set 2 (some (.ref p))) (upd H1 p (.lst vs))) : tSeq (tAsg (tLst t) (gName 2)) u D σ H := by
  subst ht
  obtain ⟨ys, hy⟩ := hD.at
  exact lay_dms (K := K) (dd := d) (k := 3) (nm := nm) (Q := fun vs H1 => vs.length ≤ sizeLine ∧ ∀ p, H1 p = none → u D (σ.set 2 (some (.ref p))) (upd H1 p (.lst vs))) ds sm hk ⟨_, hy⟩ k1
def sp_lbad (K : PySem.W.Frag) : Sp := fun vs H Q _ => ∃ (d cl : Addr) (hs : List Str) (as : List (Str × Bool)) (ss : List Str), vs = [.ref d, .ref cl] ∧ hs ∈ hsL ∧ as ∈ bigA :: asL ∧ Drw K H d ∧ ClAt K d H cl hs as ss ∧
  ∀ (v : V) (x : PyData) (H' : Hp), Drw K H' d → But d H H' → Dp K (del H' d) v x → Bad (colsOf hs as) x → Q v H'
theorem ok__law_bad (T : Txt K mg) : FnOk P w K mg base CX0 4 T.a__law_bad T.d__law_bad ["draw", "columns"] (sp_lbad K) := by
  have G__law_pick := ok__law_pick (P := P) (w := w) (base := base) T
  refine T.F__law_bad.ok sc__law_bad (fun vs H Q E h => ?_) (fun cdv A outer s H vs Q E hr h => ?_)
  · obtain ⟨d, cl, hs, as, ss, rfl, _⟩ := h
    rfl
  obtain ⟨d, cl, hs, as, ss, rfl, mh, ma, hD, hC, k⟩ := h
  refine ⟨_, (pss_cons (ps_set (i := 2) sc__law_bad.nd rfl (by first | exact Or.inl rfl | exact Or.inr rfl) (pe_lst (pa_cons pe_non (pa_cons (pe_tup pa_nil) (pa_cons pe_str (pa_cons (pe_lst (pa_cons pe_str pa_nil)) (pa_cons (pe_tup (pa_cons pe_str (pa_cons pe_int pa_nil))) (pa_cons (pe_tup (pa_cons pe_str pa_nil)) (pa_cons (pe_tup (pa_cons pe_int pa_nil)) (pa_cons (pe_tup (pa_cons pe_str pa_nil)) (pa_cons (pe_tup (pa_cons pe_str (pa_cons (pe_tup (pa_cons pe_str pa_nil)) (pa_cons (pe_tup (pa_cons pe_str pa_nil)) pa_nil)))) (pa_cons (pe_tup (pa_cons pe_str (pa_cons (pe_tup pa_nil) pa_nil))) (pa_cons (pe_tup (pa_cons pe_str (pa_cons (pe_tup (pa_cons (pe_tup (pa_cons pe_str pa_nil)) pa_nil)) pa_nil))) pa_nil)))))))))))))
    (pss_cons (ps_set (i := 2) sc__law_bad.nd rfl (by first | exact Or.inl rfl | exact Or.inr rfl) (pe_op op_cat (pv 2) (pe_lst (pa_cons (pe_tup (pa_cons pe_str (pa_cons (pe_lst (pa_cons (pe_tup (pa_cons pe_str pa_nil)) (pa_cons (pe_tup (pa_cons pe_str pa_nil)) pa_nil))) pa_nil))) (pa_cons (pe_tup (pa_cons pe_str (pa_cons (pe_tup (pa_cons pe_str pa_nil)) (pa_cons (pe_tup (pa_cons pe_str pa_nil)) pa_nil)))) (pa_cons (pe_tup (pa_cons pe_str (pa_cons pe_str pa_nil))) (pa_cons (pe_tup (pa_cons pe_str (pa_cons pe_str (pa_cons (pe_tup (pa_cons pe_int (pa_cons pe_int pa_nil))) pa_nil)))) pa_nil)))))))
    (pss_cons (ps_set (i := 2) sc__law_bad.nd rfl (by first | exact Or.inl rfl | exact Or.inr rfl) (pe_op op_cat (pv 2) (pe_lst (pa_cons (pe_tup (pa_cons pe_str (pa_cons pe_str (pa_cons (pe_tup (pa_cons pe_int (pa_cons pe_int pa_nil))) pa_nil)))) (pa_cons (pe_tup (pa_cons pe_str (pa_cons pe_str (pa_cons (pe_tup (pa_cons pe_int (pa_cons pe_int pa_nil))) pa_nil)))) pa_nil)))))
    (pss_cons (ps_set (i := 2) sc__law_bad.nd rfl (by first | exact Or.inl rfl | exact Or.inr rfl) (pe_op op_cat (pv 2) (pe_lst (pa_cons (pe_tup (pa_cons pe_str (pa_cons pe_str (pa_cons (pe_tup (pa_cons pe_int (pa_cons pe_int pa_nil))) pa_nil)))) (pa_cons (pe_tup (pa_cons pe_str (pa_cons pe_str (pa_cons (pe_tup (pa_cons (pe_un un_neg pe_int) (pa_cons pe_int pa_nil))) pa_nil)))) (pa_cons (pe_tup (pa_cons pe_str (pa_cons pe_str (pa_cons (pe_tup (pa_cons pe_int (pa_cons pe_int pa_nil))) pa_nil)))) (pa_cons (pe_tup (pa_cons pe_str (pa_cons pe_str (pa_cons pe_int pa_nil)))) (pa_cons (pe_tup (pa_cons pe_str (pa_cons pe_str (pa_cons (pe_lst (pa_cons pe_int (pa_cons pe_int pa_nil))) pa_nil)))) (pa_cons (pe_tup (pa_cons pe_str (pa_cons pe_str (pa_cons (pe_tup (pa_cons pe_bl (pa_cons pe_int pa_nil))) pa_nil)))) pa_nil)))))))))
    (pss_cons (ps_set (i := 2) sc__law_bad.nd rfl (by first | exact Or.inl rfl | exact Or.inr rfl) (pe_op op_cat (pv 2) (pe_lst (pa_cons (pe_tup (pa_cons pe_str (pa_cons pe_str (pa_cons (pe_tup (pa_cons pe_int (pa_cons pe_int pa_nil))) pa_nil)))) (pa_cons (pe_tup (pa_cons pe_str (pa_cons pe_str (pa_cons pe_str (pa_cons (pe_tup (pa_cons pe_int (pa_cons pe_int pa_nil))) pa_nil))))) (pa_cons (pe_tup (pa_cons pe_str (pa_cons pe_str (pa_cons pe_str (pa_cons (pe_tup (pa_cons pe_int (pa_cons pe_int pa_nil))) pa_nil))))) (pa_cons (pe_tup (pa_cons pe_str (pa_cons pe_str (pa_cons pe_int pa_nil)))) (pa_cons (pe_tup (pa_cons pe_str (pa_cons pe_str (pa_cons pe_int pa_nil)))) (pa_cons (pe_tup (pa_cons pe_str (pa_cons pe_int (pa_cons (pe_tup (pa_cons pe_int (pa_cons pe_int pa_nil))) pa_nil)))) pa_nil)))))))))
    (pss_cons (ps_for PassesOwn.never rfl (pi_list (pe_ix ix_tup (pv 1) pe_int (fun _ _ => rfl))) (pg_name (i := 3) sc__law_bad.nd rfl (by first | exact Or.inl rfl | exact Or.inr rfl))
    (pss_one (ps_set (i := 2) sc__law_bad.nd rfl (by first | exact Or.inl rfl | exact Or.inr rfl) (pe_op op_cat (pv 2) (pe_lst (pa_cons (pe_tup (pa_cons pe_str (pa_cons (pv 3) (pa_cons pe_str (pa_cons (pe_tup (pa_cons pe_int (pa_cons pe_int pa_nil))) pa_nil))))) (pa_cons (pe_tup (pa_cons pe_str (pa_cons (pv 3) (pa_cons pe_str (pa_cons (pe_tup (pa_cons pe_int (pa_cons pe_int pa_nil))) pa_nil))))) (pa_cons (pe_tup (pa_cons pe_str (pa_cons (pv 3) (pa_cons pe_str (pa_cons pe_int pa_nil))))) (pa_cons (pe_tup (pa_cons pe_str (pa_cons (pv 3) (pa_cons pe_non (pa_cons (pe_tup (pa_cons pe_int (pa_cons pe_int pa_nil))) pa_nil))))) pa_nil)))))))))
    (pss_cons (ps_lock (ps_for PassesOwn.never rfl (pi_items (pe_ix ix_tup (pv 1) pe_int (fun _ _ => rfl))) (pg_tup rfl (pgs_cons (pg_name (i := 3) sc__law_bad.nd rfl (by first | exact Or.inl rfl | exact Or.inr rfl)) (pgs_cons (pg_name (i := 4) sc__law_bad.nd rfl (by first | exact Or.inl rfl | exact Or.inr rfl)) pgs_nil)))
    (pss_one (ps_if (pt_cmpR op_eq (pv 4) pe_str (nomark _)) (pss_one (ps_set (i := 2) sc__law_bad.nd rfl (by first | exact Or.inl rfl | exact Or.inr rfl) (pe_op op_cat (pv 2) (pe_lst (pa_cons (pe_tup (pa_cons pe_str (pa_cons (pv 3) (pa_cons pe_str pa_nil)))) (pa_cons (pe_tup (pa_cons pe_str (pa_cons (pv 3) (pa_cons pe_non pa_nil)))) (pa_cons (pe_tup (pa_cons pe_str (pa_cons (pv 3) (pa_cons pe_str pa_nil)))) (pa_cons (pe_tup (pa_cons pe_str (pa_cons (pv 3) (pa_cons pe_int pa_nil)))) (pa_cons (pe_tup (pa_cons pe_str (pa_cons (pv 3) (pa_cons pe_bl pa_nil)))) (pa_cons (pe_tup (pa_cons pe_str (pa_cons (pv 3) pa_nil))) pa_nil)))))))))) (pss_one (ps_set (i := 2) sc__law_bad.nd rfl (by first | exact Or.inl rfl | exact Or.inr rfl) (pe_op op_cat (pv 2) (pe_lst (pa_cons (pe_tup (pa_cons pe_str (pa_cons (pv 3) (pa_cons pe_int pa_nil)))) (pa_cons (pe_tup (pa_cons pe_str (pa_cons (pv 3) (pa_cons pe_int pa_nil)))) (pa_cons (pe_tup (pa_cons pe_str (pa_cons (pv 3) (pa_cons (pe_op (show OpR _ _ rMulS from op_mulS) pe_str pe_int) pa_nil)))) (pa_cons (pe_tup (pa_cons pe_str (pa_cons (pv 3) (pa_cons (pe_op (show OpR _ _ rMulS from op_mulS) pe_str pe_int) pa_nil)))) (pa_cons (pe_tup (pa_cons pe_str (pa_cons (pv 3) (pa_cons pe_str pa_nil)))) (pa_cons (pe_tup (pa_cons pe_str (pa_cons (pv 3) (pa_cons pe_non pa_nil)))) pa_nil))))))))))))))
    (pss_one (ps_ret (pe_call G__law_pick (hr.mono (by first | decide | omega)) (by rfl) T.m__law_pick T.F__law_pick.kp T.b__law_pick .nil pass0 (pa_cons (pv 0) (pa_cons (pv 2) pa_nil)))))))))))), ?_⟩
  obtain ⟨ys, hy⟩ := hD.at
  have in0 : ∀ x, x ∈ Dm.vals "" B0 → x ∈ badL hs as := fun x hx => by simp only [badL, List.mem_append, hx, true_or, or_true]
  have in1 : ∀ x, x ∈ Dm.vals "" B1 → x ∈ badL hs as := fun x hx => by simp only [badL, List.mem_append, hx, true_or, or_true]
  have in2 : ∀ x, x ∈ Dm.vals "" B2 → x ∈ badL hs as := fun x hx => by simp only [badL, List.mem_append, hx, true_or, or_true]
  have in3 : ∀ x, x ∈ Dm.vals "" B3 → x ∈ badL hs as := fun x hx => by simp only [badL, List.mem_append, hx, true_or, or_true]
  have in4 : ∀ x, x ∈ Dm.vals "" B4 → x ∈ badL hs as := fun x hx => by simp only [badL, List.mem_append, hx, true_or, or_true]
  refine bad_first (nm := "") B0 rfl (by decide +kernel) hD (fun z => absurd z (by decide)) fun vs H1 g1 dv => ?_
  have lv := dps_len dv
  rw [Dm.vals_len] at lv
  have lv' : vs.length = 11 := lv
  refine ⟨le_line (by omega), fun p0 f0 => ?_⟩
  have g0 := g1.trans (same_new f0 (.lst vs))
  have hB0 : BadAt K d (badL hs as) 11 (upd H1 p0 (.lst vs)) p0 := ⟨vs, _, upd_same, drw_ne (hD.same g1) f0, dps_same (off_new f0) _ _ dv, in0, by omega⟩
  generalize upd H1 p0 (.lst vs) = H2 at *
  refine bad_set (nm := "") B1 rfl (by decide +kernel) (hD.same g0) hB0 rfl (fun z => absurd z (by decide)) in1 (by decide) fun p1 H3 g3 hB1 => ?_
  have g03 := g0.trans g3
  refine bad_set (nm := "") B2 rfl (by decide +kernel) (hD.same g03) hB1 rfl (fun z => absurd z (by decide)) in2 (by decide) fun p2 H4 g4 hB2 => ?_
  have g04 := g03.trans g4
  refine bad_set (nm := "") B3 rfl (by decide +kernel) (hD.same g04) hB2 rfl (fun z => absurd z (by decide)) in3 (by decide) fun p3 H5 g5 hB3 => ?_
  have g05 := g04.trans g5
  refine bad_set (nm := "") B4 rfl (by decide +kernel) (hD.same g05) hB3 rfl (fun z => absurd z (by decide)) in4 (by decide) fun p4 H6 g6 hB4 => ?_
  have g06 := g05.trans g6
  obtain ⟨l, a, sl, hcl, n0, n1, n2, n3, hl, ha, hsl⟩ := id hC
  have lh : hs.length ≤ 2 := (by decide +kernel : ∀ hs, hs ∈ hsL → hs.length ≤ 2) hs mh
  have la : as.length ≤ 4 := (by decide +kernel : ∀ as, as ∈ bigA :: asL → as.length ≤ 4) as ma
  -- for name in columns[0]
  refine seq_cut (fun σ' H' => Same H H' ∧ ∃ (pb : Addr) (x3 : Option V), σ' = [some (.ref d), some (.ref cl), some (.ref pb), x3, none] ∧ BadAt K d (badL hs as) 100 H' pb) (fun σ' H7 h => ?_) (fun tail => ?_)
  rotate_left
  · refine ⟨_, rfl, cl, _, 0, _, rfl, rfl, SqT.of (g06 _ _ hcl), at_of (j := 0) rfl rfl, l, rfl, ⟨_, g06.seq hl⟩, ?_⟩
    refine for_list (K := K) (a := l) (xs := hs.map V.str) (fun i σ' H' => Same H H' ∧ ∃ (pb : Addr) (x3 : Option V), σ' = [some (.ref d), some (.ref cl), some (.ref pb), x3, none] ∧ BadAt K d (badL hs as) (29 + 4 * i) H' pb) ⟨g06, p4, none, rfl, hB4⟩ (fun i σ' H' _ z => z.1.seq hl) ?_ ?_
    · rintro i x σ' H' hx ⟨g, pb, x3, rfl, hB⟩
      rw [List.getElem?_map] at hx
      obtain ⟨n, hn, rfl⟩ := Option.map_eq_some_iff.mp hx
      have hi := (List.getElem?_eq_some_iff.mp hn).1
      refine bad_set1 (nm := n) BN rfl (by decide +kernel) (hD.same g) hB rfl (fun _ => rfl) (fun x hx => ?_) (by show 29 + 4 * i + 4 ≤ 1000; omega) fun p H'' g2 hB2 => ⟨g.trans g2, p, _, rfl, ?_⟩
      · simp only [badL, List.mem_append]
        exact .inl (.inr (List.mem_flatMap.mpr ⟨n, List.mem_of_getElem? hn, hx⟩))
      · have e : 29 + 4 * i + BN.length = 29 + 4 * (i + 1) := by show 29 + 4 * i + 4 = _; omega
        rw [e] at hB2
        exact hB2
    · rintro σ' H' ⟨g, pb, x3, rfl, bs, xs, h1, h2, h3, h4, h5⟩
      rw [List.length_map] at h5
      exact tail _ _ ⟨g, pb, x3, rfl, bs, xs, h1, h2, h3, h4, by omega⟩
  obtain ⟨g, pb, x3, rfl, hB⟩ := h
  have hDg := hD.same g
  have hag := g _ _ ha
  have nca : cl ≠ a := ne_of hcl ha (by intro z; cases z)
  have nsq : NoSeq (H7 a) := by
    rw [hag]
    trivial
  refine seq_cut (fun σ' H'' => Drw K H'' d ∧ But d H H'' ∧ ∃ (pb : Addr) (x3 x4 : Option V), σ' = [some (.ref d), some (.ref cl), some (.ref pb), x3, x4] ∧ BadAt K d (badL hs as) 200 H'' pb) (fun σ' H'' h => ?_) (fun tail => ?_)
  rotate_left
  · refine ⟨a, _, hag, trivial, fun od => ⟨_, rfl, cl, _, 1, _, rfl, rfl, SqT.of (by rw [upd_ne nca]; exact g _ _ hcl), at_of (j := 1) rfl rfl, a, od, kvsOf as, rfl, upd_same, ?_⟩⟩
    refine for_it walk_items (fun i σ' H1 => ∃ (pb : Addr) (x3 x4 : Option V), σ' = [some (.ref d), some (.ref cl), some (.ref pb), x3, x4] ∧ H1 a = some (.frz od (.dK (kvsOf as))) ∧ (∀ b o, b ≠ a → H b = some o → H1 b = some o) ∧ Drw K H1 d ∧ BadAt K d (badL hs as) (100 + 6 * i) H1 pb)
      ⟨pb, x3, none, rfl, upd_same, fun b o n e => by rw [upd_ne n]; exact g _ _ e, drw_noseq nsq hDg, bad_noseq nsq hB⟩ (fun i σ' H1 _ z => by obtain ⟨_, _, _, _, z, _⟩ := z; exact z) ?_ ?_
    · rintro i x σ' H1 H2 hi ⟨pb, x3, x4, rfl, e1, e2, hD1, hB1⟩ ⟨Tt, xn, y, rfl, hT, rfl, ex, ey⟩
      have hi' : i < as.length := by
        rw [show (kvsOf as).length = as.length from List.length_map ..] at hi
        exact hi
      obtain ⟨⟨n, b⟩, hp⟩ : ∃ p, as[i]? = some p := ⟨_, List.getElem?_eq_getElem hi'⟩
      have ek : (kvsOf as)[i]? = some (Sum.inr n, kindV b) := by
        unfold kvsOf
        rw [List.getElem?_map, hp]
        rfl
      have ex' : ((kvsOf as)[i]?.map fun kv => kV kv.1) = some xn := ex
      have ey' : ((kvsOf as)[i]?.map Prod.snd) = some y := ey
      rw [ek] at ex' ey'
      obtain rfl : xn = .str n := (Option.some.inj ex').symm
      obtain rfl : y = kindV b := (Option.some.inj ey').symm
      have gT := same_new hT (.tup [.str n, kindV b])
      have mem := List.mem_of_getElem? hp
      refine ⟨Tt, _, rfl, SqT.of upd_same, rfl, _, _, rfl, _, [], rfl, rfl, ?_⟩
      have fin : ∀ p H'' m', Same (upd H1 Tt (.tup [.str n, kindV b])) H'' → BadAt K d (badL hs as) m' H'' p → m' ≤ 100 + 6 * (i + 1) → ∃ (pb : Addr) (x3 x4 : Option V), ([some (.ref d), some (.ref cl), some (.ref p), some (.str n), some (kindV b)] : L2.St) = [some (.ref d), some (.ref cl), some (.ref pb), x3, x4] ∧ H'' a = some (.frz od (.dK (kvsOf as))) ∧ (∀ b o, b ≠ a → H b = some o → H'' b = some o) ∧ Drw K H'' d ∧ BadAt K d (badL hs as) (100 + 6 * (i + 1)) H'' pb := fun p H'' m' g2 hB2 lm => by
        obtain ⟨bs, xs, h1, h2, h3, h4, h5⟩ := hB2
        exact ⟨p, _, _, rfl, g2 _ _ (gT _ _ e1), fun b o n e => g2 _ _ (gT _ _ (e2 b o n e)), (hD1.same gT).same g2, bs, xs, h1, h2, h3, h4, by omega⟩
      refine ⟨_, rfl, rfl, _, rfl, ?_⟩
      cases b with
      | true =>
        rw [decide_eq_true (show kindV true = V.str "number" from rfl)]
        refine iteT (bad_set1 (nm := n) BT rfl (by decide +kernel) (hD1.same gT) (hB1.same gT) rfl (fun _ => rfl) (fun x hx => ?_) (by show 100 + 6 * i + 6 ≤ 1000; omega) fun p H'' g2 hB2 => fin p H'' _ g2 hB2 (by show 100 + 6 * i + 6 ≤ _; omega))
        simp only [badL, List.mem_append]
        exact .inr (List.mem_flatMap.mpr ⟨_, mem, by rw [if_pos rfl]; exact hx⟩)
      | false =>
        rw [decide_eq_false (show ¬ kindV false = V.str "number" by decide +kernel)]
        refine iteF (bad_set1 (nm := n) BF rfl (by decide +kernel) (hD1.same gT) (hB1.same gT) rfl (fun _ => rfl) (fun x hx => ?_) (by show 100 + 6 * i + 6 ≤ 1000; omega) fun p H'' g2 hB2 => fin p H'' _ g2 hB2 (by show 100 + 6 * i + 6 ≤ _; omega))
        simp only [badL, List.mem_append]
        exact .inr (List.mem_flatMap.mpr ⟨_, mem, by rw [if_neg (by exact Bool.false_ne_true)]; exact hx⟩)
    · rintro σ' H1 ⟨pb, x3, x4, rfl, e1, e2, hD1, hB1⟩
      have ns1 : NoSeq (H1 a) := by
        rw [e1]
        trivial
      have l4 : (kvsOf as).length = as.length := List.length_map ..
      refine ⟨e1, tail _ _ ⟨drw_noseq ns1 hD1, fun b o n e => ?_, pb, x3, x4, rfl, ?_⟩⟩
      · by_cases c : b = a
        · rw [c] at e ⊢
          rw [ha] at e
          rw [← e]
          exact upd_same
        · rw [upd_ne c]
          exact e2 b o c e
      · obtain ⟨bs, xs, h1, h2, h3, h4, h5⟩ := bad_noseq (o := .dK (kvsOf as)) ns1 hB1
        exact ⟨bs, xs, h1, h2, h3, h4, by omega⟩
  obtain ⟨hDf, bf, pb2, y3, y4, rfl, bs, xs, h1, h2, h3, h4, h5⟩ := h
  refine ⟨_, rfl, _, rfl, d, pb2, bs, rfl, hDf, .inl ⟨SqL.of h1, h2⟩, by omega, fun j v H8 hv hD8 b8 => ?_⟩
  obtain ⟨x, hx, dx⟩ := dps_mem h3 hv
  exact k v x H8 hD8 (bf.trans b8) (dp_same (off_but b8) _ _ dx) (bad_of (bad_ok hs mh as ma x (h4 x hx)))

end
end My
set_option Elab.async false
set_option linter.all false
set_option maxRecDepth 100000
set_option maxHeartbeats 400000
namespace My
open PySem L2 PySem.Spec PyProof.Rows
section
variable {P : Program} {w : World} {K : PySem.W.Frag} {mg : Str → Option Value} {base : Heap}
theorem depths_le {m : Nat} : ∀ {ks : List PyData}, (∀ e, e ∈ ks → e.depth ≤ m) → PyData.depthAll ks ≤ m
  | [], _ => Nat.zero_le _
  | e :: r, h => Nat.max_le.mpr ⟨h e (List.mem_cons_self ..), depths_le fun x hx => h x (List.mem_cons_of_mem _ hx)⟩
theorem lays_all : ∀ {ks : List PyData}, (∀ e, e ∈ ks → e.canLay0 = true) → PyData.canLayAll0 ks = true
  | [], _ => rfl
  | e :: r, h => by
    show (PyData.canLay0 e && PyData.canLayAll0 r) = true
    rw [h e (List.mem_cons_self ..), lays_all fun x hx => h x (List.mem_cons_of_mem _ hx)]
    rfl
theorem good_lay {c : Cols} {n : Nat} {d : PyData} (h : Good c n d) : d.canLay0 = true ∧ d.depth ≤ 2 * n + 1 := by
  induction h with
  | leaf _ _ _ _ _ l => exact ⟨l.1, by have := l.2.1; omega⟩
  | @not n e _ ih =>
    refine ⟨?_, ?_⟩
    · show (PyData.canLay0 (.str "not") && (PyData.canLay0 e && true)) = true
      rw [ih.1]
      decide +kernel
    · show PyData.depthAll [.str "not", e] + 1 ≤ _
      have : PyData.depthAll [.str "not", e] ≤ 2 * n + 1 := depths_le fun x hx => by
        rcases List.mem_cons.mp hx with rfl | hx
        · exact Nat.zero_le _
        · obtain rfl := List.mem_singleton.mp hx
          exact ih.2
      omega
  | @kids n s ks hs _ _ _ ih =>
    refine ⟨?_, ?_⟩
    · show (PyData.canLay0 (.str s) && (PyData.canLayAll0 ks && true)) = true
      rw [lays_all fun e he => (ih e he).1]
      rcases hs with h | h <;> subst h <;> decide +kernel
    · show PyData.depthAll [.str s, .tuple ks] + 1 ≤ _
      have k1 : PyData.depthAll ks ≤ 2 * n + 1 := depths_le fun e he => (ih e he).2
      have : PyData.depthAll [.str s, .tuple ks] ≤ 2 * n + 2 := depths_le fun x hx => by
        rcases List.mem_cons.mp hx with rfl | hx
        · exact Nat.zero_le _
        · obtain rfl := List.mem_singleton.mp hx
          show PyData.depthAll ks + 1 ≤ _
          omega
      omega
theorem good_shaped {c : Cols} {n : Nat} {d : PyData} (h : Good c n d) (hn : n ≤ 9) : SeqAt.shaped d = true := by
  have l := good_lay h
  unfold SeqAt.shaped
  rw [Bool.and_eq_true]
  exact ⟨l.1, decide_eq_true (by omega)⟩
/-- columns that stand off the draw -/
def ColsOff (C d : Addr) (H : Hp) (p : Addr) (c : Cols) : Prop := ColsAt C (del H d) p c
theorem ColsOff.but {C d : Addr} {H H' : Hp} {p : Addr} {c : Cols} (h : ColsOff C d H p c) (b : But d H H') : ColsOff C d H' p c := ColsAt.same h (off_but b)
theorem ColsOff.at {C d : Addr} {H : Hp} {p : Addr} {c : Cols} (h : ColsOff C d H p c) : ColsAt C H p c := ColsAt.same h off_in
theorem cols_off {K : PySem.W.Frag} {C d : Addr} {H : Hp} {p : Addr} {c : Cols} (hD : Drw K H d) (h : ColsAt C H p c) : ColsOff C d H p c := by
  obtain ⟨ys, hy⟩ := hD.at
  obtain ⟨dx, fs, t, dd, kvs, h1, h2, h3, h4, h5, h6⟩ := h
  exact ⟨dx, fs, t, dd, kvs, off_at h1 (ne_of h1 hy (by intro z; cases z)), h2, off_at h3 (ne_of h3 hy (by intro z; cases z)), h4, off_at h5 (ne_of h5 hy (by intro z; cases z)), h6⟩
def sp_law (K : PySem.W.Frag) : Sp := fun vs H Q _ => ∃ (a : Addr) (ns : List Int), vs = [.ref a] ∧ SqF K H a (ns.map V.int) ∧ ns.length ≤ 63 ∧ ∀ H', Q (.bl true) H'
theorem ok__law_formula (T : Txt K mg) : FnOk P w K mg base CX0 14 T.a__law_formula T.d__law_formula ["draw", "columns", "deep", "share"] (sp_lform K 9) := ok_lform T 9

end
end My
set_option Elab.async false
set_option linter.all false
set_option maxRecDepth 100000
set_option maxHeartbeats 400000
namespace My
open PySem L2 PySem.Spec PyProof.Rows
section
variable {P : Program} {w : World} {K : PySem.W.Frag} {mg : Str → Option Value} {base : Heap}
/-- a row `block a 1/3` -/
def leafD : PyData := .tuple [.str "block", .str "a", pairD (1, 3)]
theorem leaf_good {c : Cols} : Good c 1 leafD := by
  refine .leaf (by decide +kernel) (by decide +kernel) (by decide +kernel) (form_row (.inr rfl) (by decide +kernel) (by decide +kernel)) (data_three (by decide +kernel) (by decide +kernel) (fun t z => by cases z)) ⟨by decide +kernel, (by show 2 ≤ 3; decide), rfl⟩
theorem nots_leaf_size (n : Nat) : (spotsD (n + 1) (nots n leafD)).length = n + 1 := nots_size (d := leafD) rfl n
def rowD (i : Nat) : PyData := .tuple [.str "row", .str (timesS "a" (1 + i % 8)), pairD (1, 2 + (i : Int))]
def rowB (i : Nat) : Bool := nameD (.str (timesS "a" (1 + i % 8))) && (chanceD (pairD (1, 2 + (i : Int))) && (decide ((timesS "a" (1 + i % 8)).length ≤ 1000) && (rowD i).canLay0))
theorem rowB_ok : ∀ i, i < 30 → rowB i = true := by decide +kernel
theorem row_good {c : Cols} {i : Nat} (h : i < 30) : Good c 1 (rowD i) := by
  have b := rowB_ok i h
  unfold rowB at b
  rw [Bool.and_eq_true, Bool.and_eq_true, Bool.and_eq_true] at b
  obtain ⟨b1, b2, b3, b4⟩ := b
  exact .leaf (by decide +kernel) (by decide +kernel) (by decide +kernel) (form_row (.inl rfl) b1 b2) (data_three (by decide +kernel) (of_decide_eq_true b3) (fun t z => by cases z)) ⟨b4, (by show 2 ≤ 3; decide), rfl⟩
def rowsD (n : Nat) : List PyData := (List.range n).map rowD
theorem rows_len (n : Nat) : (rowsD n).length = n := by simp [rowsD]
theorem rows_succ (n : Nat) : rowsD (n + 1) = rowsD n ++ [rowD n] := by simp [rowsD, List.range_succ]
theorem rows_mem {n : Nat} {c : Cols} (h : n ≤ 30) : ∀ e, e ∈ rowsD n → Good c 1 e := fun e he => by
  obtain ⟨i, hi, rfl⟩ := List.mem_map.mp he
  exact row_good (Nat.lt_of_lt_of_le (List.mem_range.mp hi) h)
theorem rows_size : ∀ n, sizeK 1 (rowsD n) = n := by
  have part : ∀ l : List Nat, sizeK 1 (l.map rowD) = l.length := fun l => by
    induction l with
    | nil => rfl
    | cons i r ih =>
      show sizeK 1 (rowD i :: r.map rowD) = _
      rw [sizeK_cons, ih, List.length_cons]
      have : (spotsD 1 (rowD i)).length = 1 := by
        show (spotsD (0 + 1) (.tuple (.str "row" :: _))).length = 1
        rw [spots_leaf (by decide +kernel) (by decide +kernel) (by decide +kernel)]
        rfl
      omega
  intro n
  have := part (List.range n)
  rw [List.length_range] at this
  exact this
theorem noL_row (i : Nat) : noL (rowD i) = true := rfl
theorem noL_rows : ∀ l : List Nat, noLs (l.map rowD) = true
  | [] => rfl
  | i :: r => by
    show (noL (rowD i) && noLs (r.map rowD)) = true
    rw [noL_row, noL_rows r]
    rfl
theorem rows_good {c : Cols} {n : Nat} (h2 : 2 ≤ n) (h : n ≤ 30) : Good c 2 (.tuple [.str "and", .tuple (rowsD n)]) :=
  .kids (.inl rfl) (by rw [rows_len]; exact h2) (by rw [rows_len]; omega) (rows_mem h)
theorem whole_rows {c : Cols} {n : Nat} (h2 : 2 ≤ n) (h : n ≤ 29) : runD c 32 0 [(.tuple [.str "and", .tuple (rowsD n)], 1)] = none := by
  refine whole_good (rows_good h2 (by omega)) (by decide) ?_
  rw [spots_kids (.inl rfl), List.length_cons]
  have := rows_size n
  unfold sizeK at this
  omega
theorem whole_thirty {c : Cols} : runD c 32 0 [(.tuple [.str "and", .tuple (rowsD 30)], 1)] = some (rowD 29) := by
  rw [rows_succ]
  exact whole_wide (rows_mem (by decide)) (rows_size 29) (by rw [rows_len]; decide)
theorem row_shape : ∀ i, i < 30 → SeqAt.shaped (.tuple [rowD i]) = true := by decide +kernel
theorem leaf_shape : SeqAt.shaped (.tuple [leafD]) = true := by decide +kernel
theorem none_shape : SeqAt.shaped .none = true := by decide +kernel
theorem row_name {i : Nat} : V.int (1 + (0 + (i : Int)) % 8) = V.int ((1 + i % 8 : Nat) : Int) := by
  congr 1
  omega
theorem dp_int_eq {K : PySem.W.Frag} {H : Hp} {i j : Int} (h : i = j) : Dp K H (.int i) (.int j) := by
  subst h
  exact .int _

end
end My
set_option Elab.async false
set_option linter.all false
set_option maxRecDepth 100000
set_option maxHeartbeats 400000
namespace My
open PySem L2 PySem.Spec PyProof.Rows
section
variable {P : Program} {w : World} {K : PySem.W.Frag} {mg : Str → Option Value} {base : Heap}
theorem name_of {i : Nat} {v : V} {σ : L2.St} {H : Hp} {Q : L2.St → Hp → Prop} (h : Q (σ.set i (some v)) H) : gName i v σ H Q := h
theorem ok_law (T : Txt K mg) : FnOk P w K mg base CX0 15 T.a_law T.d_law ["script"] (sp_law K) := by
  have G__law_columns := ok__law_columns (P := P) (w := w) (base := base) T
  have G_Columns_init := ok_Columns_init (P := P) (w := w) (base := base) T
  have G__law_formula := ok__law_formula (P := P) (w := w) (base := base) T
  have G__law_refused := ok__law_refused (P := P) (w := w) (base := base) T
  have G__law_pick := ok__law_pick (P := P) (w := w) (base := base) T
  have G__law_bad := ok__law_bad (P := P) (w := w) (base := base) T
  have G__law_take := ok__law_take (P := P) (w := w) (base := base) T
  have G__law_spots := ok__law_spots (P := P) (w := w) (base := base) T
  have G__law_put := ok__law_put (P := P) (w := w) (base := base) T
  refine T.F_law.ok sc_law (fun vs H Q E h => ?_) (fun cdv A outer s H vs Q E hr h => ?_)
  · obtain ⟨a, ns, rfl, _⟩ := h
    rfl
  obtain ⟨a, ns, rfl, hs, hl, k⟩ := h
  refine ⟨_, (pss_cons (ps_set (i := 1) sc_law.nd rfl (by first | exact Or.inl rfl | exact Or.inr rfl) (pe_lst (pa_cons (pv 0) (pa_cons pe_int pa_nil))))
    (pss_cons (ps_set (i := 2) sc_law.nd rfl (by first | exact Or.inl rfl | exact Or.inr rfl) (pe_call G__law_columns (hr.mono (by first | decide | omega)) (by rfl) T.m__law_columns T.F__law_columns.kp T.b__law_columns .nil pass0 (pa_cons (pv 1) pa_nil)))
    (pss_cons (ps_set (i := 3) sc_law.nd rfl (by first | exact Or.inl rfl | exact Or.inr rfl) (pe_make T.mk_Columns G_Columns_init (hr.mono (by first | decide | omega)) (by rfl) T.m_Columns T.b_Columns_init .nil pass0 (pa_cons (pe_ix ix_tup (pv 2) pe_int (fun _ _ => rfl)) (pa_cons (pe_ix ix_tup (pv 2) pe_int (fun _ _ => rfl)) (pa_cons (pe_ix ix_tup (pv 2) pe_int (fun _ _ => rfl)) pa_nil)))))
    (pss_cons (ps_for PassesOwn.never rfl (pi_range1 (by rfl) T.z_range (pa_cons pe_int pa_nil)) (pg_name (i := 4) sc_law.nd rfl (by first | exact Or.inl rfl | exact Or.inr rfl))
    (pss_cons (ps_set (i := 5) sc_law.nd rfl (by first | exact Or.inl rfl | exact Or.inr rfl) (pe_call G__law_formula (hr.mono (by first | decide | omega)) (by rfl) T.m__law_formula T.F__law_formula.kp T.b__law_formula .nil pass0 (pa_cons (pv 1) (pa_cons (pv 2) (pa_cons pe_int (pa_cons pe_int pa_nil))))))
    (pss_cons (ps_if (pt_cmpR op_gt (pe_callB call_len_seq (by rfl) T.z_len (by decide +kernel) (pa_cons (pe_call G__law_spots (hr.mono (by first | decide | omega)) (by rfl) T.m__law_spots T.F__law_spots.kp T.b__law_spots .nil pass0 (pa_cons (pv 5) pa_nil)) pa_nil)) pe_int (nomark _)) (pss_one ps_continue) pss_nil)
    (pss_cons (ps_if (pt_cmpR op_notN (pe_call G__law_refused (hr.mono (by first | decide | omega)) (by rfl) T.m__law_refused T.F__law_refused.kp T.b__law_refused .nil pass0 (pa_cons (pv 3) (pa_cons (pv 5) pa_nil))) pe_non (nomark _)) (pss_one (ps_ret pe_bl)) pss_nil)
    (pss_cons (ps_par (i := 6) (j := 7) rfl sc_law.nd rfl rfl (by decide) rfl rfl (pa_cons (pe_call G__law_pick (hr.mono (by first | decide | omega)) (by rfl) T.m__law_pick T.F__law_pick.kp T.b__law_pick .nil pass0 (pa_cons (pv 1) (pa_cons (pe_call G__law_spots (hr.mono (by first | decide | omega)) (by rfl) T.m__law_spots T.F__law_spots.kp T.b__law_spots .nil pass0 (pa_cons (pv 5) pa_nil)) pa_nil))) (pa_cons (pe_call G__law_bad (hr.mono (by first | decide | omega)) (by rfl) T.m__law_bad T.F__law_bad.kp T.b__law_bad .nil pass0 (pa_cons (pv 1) (pa_cons (pv 2) pa_nil))) pa_nil)) (by rfl))
    (pss_cons (ps_if (pt_cmpR (op_neD (hu64 hr)) (pe_call G__law_refused (hr.mono (by first | decide | omega)) (by rfl) T.m__law_refused T.F__law_refused.kp T.b__law_refused .nil pass0 (pa_cons (pv 3) (pa_cons (pe_call G__law_put (hr.mono (by first | decide | omega)) (by rfl) T.m__law_put T.F__law_put.kp T.b__law_put .nil pass0 (pa_cons (pv 5) (pa_cons (pv 6) (pa_cons (pv 7) pa_nil)))) pa_nil))) (pe_tup (pa_cons (pv 7) pa_nil)) (nomark _)) (pss_one (ps_ret pe_bl)) pss_nil)
    (pss_cons (ps_set (i := 8) sc_law.nd rfl (by first | exact Or.inl rfl | exact Or.inr rfl) (pe_tup (pa_cons pe_str (pa_cons (pe_tup (pa_cons (pe_call G__law_put (hr.mono (by first | decide | omega)) (by rfl) T.m__law_put T.F__law_put.kp T.b__law_put .nil pass0 (pa_cons (pv 5) (pa_cons (pv 6) (pa_cons (pv 7) pa_nil)))) (pa_cons (pe_tup (pa_cons pe_str pa_nil)) pa_nil))) pa_nil))))
    (pss_one (ps_if (PW.pt (pw_and (pt_cmpR op_lt (pe_callB call_len_seq (by rfl) T.z_len (by decide +kernel) (pa_cons (pe_call G__law_spots (hr.mono (by first | decide | omega)) (by rfl) T.m__law_spots T.F__law_spots.kp T.b__law_spots .nil pass0 (pa_cons (pv 5) pa_nil)) pa_nil)) pe_int (nomark _)) (pw_and1 (pt_cmpR (op_neD (hu64 hr)) (pe_call G__law_refused (hr.mono (by first | decide | omega)) (by rfl) T.m__law_refused T.F__law_refused.kp T.b__law_refused .nil pass0 (pa_cons (pv 3) (pa_cons (pv 8) pa_nil))) (pe_tup (pa_cons (pv 7) pa_nil)) (nomark _))))) (pss_one (ps_ret pe_bl)) pss_nil)))))))))
    (pss_cons (ps_par (i := 9) (j := 10) rfl sc_law.nd rfl rfl (by decide) rfl rfl (pa_cons (pe_op op_add pe_int (pe_call G__law_take (hr.mono (by first | decide | omega)) (by rfl) T.m__law_take T.F__law_take.kp T.b__law_take .nil pass0 (pa_cons (pv 1) (pa_cons pe_int pa_nil)))) (pa_cons (pe_op op_add pe_int (pe_call G__law_take (hr.mono (by first | decide | omega)) (by rfl) T.m__law_take T.F__law_take.kp T.b__law_take .nil pass0 (pa_cons (pv 1) (pa_cons pe_int pa_nil)))) pa_nil)) (by rfl))
    (pss_cons (ps_set (i := 5) sc_law.nd rfl (by first | exact Or.inl rfl | exact Or.inr rfl) (pe_tup (pa_cons pe_str (pa_cons pe_str (pa_cons (pe_tup (pa_cons pe_int (pa_cons pe_int pa_nil))) pa_nil)))))
    (pss_cons (ps_for PassesOwn.never rfl (pi_range1 (by rfl) T.z_range (pa_cons (pe_op op_sub (pv 9) pe_int) pa_nil)) (pg_name (i := 4) sc_law.nd rfl (by first | exact Or.inl rfl | exact Or.inr rfl))
    (pss_one (ps_set (i := 5) sc_law.nd rfl (by first | exact Or.inl rfl | exact Or.inr rfl) (pe_tup (pa_cons pe_str (pa_cons (pv 5) pa_nil))))))
    (pss_cons (ps_if (pt_cmpR (op_neD (hu64 hr)) (pe_call G__law_refused (hr.mono (by first | decide | omega)) (by rfl) T.m__law_refused T.F__law_refused.kp T.b__law_refused .nil pass0 (pa_cons (pv 3) (pa_cons (pv 5) pa_nil))) (pe_ifExp (pt_cmpR op_le (pv 9) pe_int (nomark _)) pe_non (pe_ifExp (pt_cmpR op_eq (pv 9) pe_int (nomark _)) (pe_tup (pa_cons (pe_tup (pa_cons pe_str (pa_cons pe_str (pa_cons (pe_tup (pa_cons pe_int (pa_cons pe_int pa_nil))) pa_nil)))) pa_nil)) (pe_call G__law_refused (hr.mono (by first | decide | omega)) (by rfl) T.m__law_refused T.F__law_refused.kp T.b__law_refused .nil pass0 (pa_cons (pv 3) (pa_cons (pv 5) pa_nil))))) (nomark _)) (pss_one (ps_ret pe_bl)) pss_nil)
    (pss_cons (ps_set (i := 11) sc_law.nd rfl (by first | exact Or.inl rfl | exact Or.inr rfl) (pe_callTy call_tuple_of (by rfl) T.z_tuple (by decide +kernel) (pa_cons (pe_lc (own := [("at", 12)]) rfl sc_law.nd (pi_range1 (by rfl) T.z_range (pa_cons (pe_op op_sub (pv 10) pe_int) pa_nil)) (blkOk_by (own := [("at", 12)]) (N := ["script", "draw", "columns", "made", "turn", "plan", "way", "bad", "both", "deep", "many", "rows", "at"]) (sc := defScope s_law) (by decide +kernel)) (fun _ _ _ _ _ => (pg_name (i := 12) sc_law.nd rfl (by first | exact Or.inl rfl | exact Or.inr rfl))) (fun _ _ _ _ _ => pts_nil) (fun _ _ _ _ _ => (pe_tup (pa_cons pe_str (pa_cons (pe_op (show OpR _ _ rMulS from op_mulS) pe_str (pe_op op_add pe_int (pe_op op_mod (pe_callTy call_int1 (by rfl) T.z_int (by decide +kernel) (pa_cons (pv 12) pa_nil)) pe_int))) (pa_cons (pe_tup (pa_cons pe_int (pa_cons (pe_op op_add pe_int (pv 12)) pa_nil))) pa_nil)))))) pa_nil)))
    (pss_one (ps_ret (pe_cmpR (op_eqD (hu64 hr)) (pe_call G__law_refused (hr.mono (by first | decide | omega)) (by rfl) T.m__law_refused T.F__law_refused.kp T.b__law_refused .nil pass0 (pa_cons (pv 3) (pa_cons (pe_tup (pa_cons pe_str (pa_cons (pv 11) pa_nil))) pa_nil))) (pe_ifExp (pt_cmpR op_le (pv 10) pe_int (nomark _)) pe_non (pe_tup (pa_cons (pe_ix ix_tup (pv 11) pe_int (fun _ _ => rfl)) pa_nil))) (nomark _))))))))))))), ?_⟩
  refine ⟨_, rfl, (by show 2 ≤ sizeLine; decide), fun d hd => ?_⟩
  have hD : Drw K (upd H d (.lst [.ref a, .int 0])) d := ⟨a, ns, 0, upd_same, hs.same (same_new hd _), hl⟩
  generalize upd H d (.lst [.ref a, .int 0]) = H1 at *
  refine ⟨_, rfl, d, rfl, hD, fun cl hs as ss H2 mh ma ms hD2 b2 hC => ?_⟩
  have cok := okB_ok (all_ok hs mh as ma ss ms)
  obtain ⟨l, al, sl, hcl, n0, n1, n2, n3, hl2, ha2, hs2⟩ := id hC
  refine ⟨_, rfl, cl, _, 0, _, rfl, rfl, SqT.of hcl, at_of (j := 0) rfl rfl, _, rfl, cl, _, 1, _, rfl, rfl, SqT.of hcl, at_of (j := 1) rfl rfl, _, rfl, cl, _, 2, _, rfl, rfl, SqT.of hcl, at_of (j := 2) rfl rfl, ?_⟩
  intro x dx hx hdx nx
  have ux : ∀ (b : Addr) (o : HO), H2 b = some o → upd (upd H2 dx (.own x)) x (.ins T.c_Columns dx []) b = some o := fun b o e => by
    rw [upd_ne (ne_of_none e hx), upd_ne (ne_of_none e hdx)]
    exact e
  have gx : Same H2 (upd (upd H2 dx (.own x)) x (.ins T.c_Columns dx [])) := ux
  refine ⟨x, l, al, sl, dx, hs, as, ss, rfl, upd_same, gx.seq hl2, gx _ _ ha2, gx.seq hs2, cok, fun H3 b3 hc3 => ⟨rfl, ?_⟩⟩
  have g3 : Same H2 H3 := fun b o e => b3 b o (ne_of_none e hx) (gx _ _ e)
  have hD3 := hD2.same g3
  have hC3 := hC.but (Same.but g3)
  have hm3 : ColsOff T.c_Columns d H3 x (colsOf hs as) := cols_off hD3 hc3
  dsimp only
  -- six turns
  refine seq_cut (fun σ' H' => Drw K H' d ∧ ColsOff T.c_Columns d H' x (colsOf hs as) ∧ ∃ x4 x5 x6 x7 x8 : Option V, σ' = [some (.ref a), some (.ref d), some (.ref cl), some (.ref x), x4, x5, x6, x7, x8, none, none, none, none]) (fun σ' H4 h => ?_) (fun tail => ?_)
  rotate_left
  · refine ⟨6, rfl, by decide, by decide, ?_⟩
    refine for_it walk_range (fun i σ' H' => Drw K H' d ∧ But d H3 H' ∧ ∃ x4 x5 x6 x7 x8 : Option V, σ' = [some (.ref a), some (.ref d), some (.ref cl), some (.ref x), x4, x5, x6, x7, x8, none, none, none, none]) ⟨hD3, But.refl _ _, none, none, none, none, none, rfl⟩ (fun _ _ _ _ _ => trivial) ?_ ?_
    · rintro i xi σ' H' H'' hi ⟨hD', b', y4, y5, y6, y7, y8, rfl⟩ ⟨e1, e2⟩
      subst e1 e2
      have hCb := hC3.but b'
      refine ⟨_, rfl, _, rfl, d, cl, 3, hs, as, ss, rfl, hD', hCb, cok, by decide, fun v z H5 hD5 b5 dz gz => ?_⟩
      dsimp only
      have b35 := b'.trans b5
      have dz5 := dp_same off_in _ _ dz
      have cA5 := (hm3.but b35).at
      -- len(_law_spots(plan)) > 30
      refine ifs_cut (fun b H6 => Same H5 H6 ∧ (b = false → (spotsD 4 z).length ≤ 30)) (fun b H6 hb => ?_) (fun Q' fin => ?_)
      rotate_left
      · refine ⟨_, rfl, v, colsOf hs as, 4, z, rfl, dz5, gz, by decide, by decide, fun q ws H6 g6 _ hq dws => ⟨q, ws, rfl, .inl (SqL.of hq), _, _, rfl, rfl, _, rfl, fin _ _ ⟨g6, fun e => ?_⟩⟩⟩
        have lw := dps_len dws
        rw [List.length_map] at lw
        have := of_decide_eq_false e
        omega
      obtain ⟨g6, hb⟩ := hb
      have next_ : ∀ (H7 : Hp) (u6 u7 u8 : Option V), Drw K H7 d → But d H3 H7 → Drw K H7 d ∧ But d H3 H7 ∧ ∃ x4 x5 x6 x7 x8 : Option V, ([some (.ref a), some (.ref d), some (.ref cl), some (.ref x), some (.int (0 + (i : Int))), some v, u6, u7, u8, none, none, none, none] : L2.St) = [some (.ref a), some (.ref d), some (.ref cl), some (.ref x), x4, x5, x6, x7, x8, none, none, none, none] := fun H7 u6 u7 u8 h1 h2 => ⟨h1, h2, _, _, _, _, _, rfl⟩
      have hD6 := hD5.same g6
      have b36 := b35.same g6
      cases b with
      | true => exact iteT (next_ H6 y6 y7 y8 hD6 b36)
      | false =>
      have sz := hb rfl
      refine iteF (next_of ?_)
      dsimp only
      have dz6 := dp_same g6 _ _ dz5
      -- _law_refused(made, plan) is not None
      refine ifs_cut (fun b H7 => Same H6 H7 ∧ b = false) (fun b H7 hb => ?_) (fun Q' fin => ?_)
      rotate_left
      · refine ⟨_, rfl, _, rfl, x, colsOf hs as, v, z, Tame (colsOf hs as), rfl, ColsAt.same cA5 g6, dz6, tame_closed _, good_tame gz, fun _ => ⟨good_shaped gz (by decide), fun H7 g7 => ⟨rfl, _, rfl, fin _ _ ⟨g7, rfl⟩⟩⟩, fun e he => ?_⟩
        rw [whole_good gz (by decide) sz] at he
        cases he
      obtain ⟨g7, rfl⟩ := hb
      refine iteF (next_of ?_)
      dsimp only
      have hD7 := hD6.same g7
      have b37 := b36.same g7
      have dz7 := dp_same g7 _ _ dz6
      have dzo7 := dp_same (off_same (d := d) (g6.trans g7)) _ _ dz
      -- way, bad
      refine ⟨_, rfl, _, rfl, v, colsOf hs as, 4, z, rfl, dz7, gz, by decide, by decide, fun q ws H8 g8 fq hq dws => ?_⟩
      have nq : q ≠ d := drw_ne hD7 fq
      have lw := dps_len dws
      rw [List.length_map] at lw
      have sp1 : 1 ≤ (spotsD 4 z).length := spots_pos (n := 3) (d := z)
      have hD8 := hD7.same g8
      obtain ⟨yy, hy8⟩ := hD8.at
      refine ⟨d, q, ws, rfl, hD8, .inl ⟨SqL.of hq, nq⟩, by omega, fun j wv H9 hwv hD9 b9 => ?_⟩
      obtain ⟨wd, hwd, dwv⟩ := dps_mem dws hwv
      obtain ⟨w, hw, rfl⟩ := List.mem_map.mp hwd
      have atw := at_of_spot gz w hw
      have nlw : noL (wayD w) = true := (Bool.and_eq_true_iff.mp (ways_noL [w])).1
      have dw9 : Dp K H9 wv (wayD w) := dp_tups (fun a xs h => b9.tup hy8 h) _ _ nlw dwv
      have b39 := (b37.same g8).trans b9
      refine ⟨_, rfl, _, rfl, d, cl, hs, as, ss, rfl, mh, ma, hD9, hC3.but b39, fun bv bx H10 hD10 b10 dbx badx => ⟨wv, bv, rfl, ?_⟩⟩
      obtain ⟨y9, hy9⟩ := hD9.at
      have dw10 : Dp K H10 wv (wayD w) := dp_tups (fun a xs h => b10.tup hy9 h) _ _ nlw dw9
      have b310 := b39.trans b10
      have dz10 := dp_same off_in _ _ (dp_same (off_but (((Same.but g8).trans b9).trans b10)) _ _ dzo7)
      have db10 := dp_same off_in _ _ dbx
      have cA10 := (hm3.but b310).at
      have lw9 : w.length < 9 := by
        have := at_len atw
        omega
      have wways := at_ways atw
      dsimp only
      -- _law_refused(made, _law_put(plan, way, bad)) != (bad,)
      refine ifs_cut (fun b H11 => Same H10 H11 ∧ b = false) (fun b H11 hb => ?_) (fun Q' fin => ?_)
      rotate_left
      · refine ⟨_, rfl, _, rfl, _, rfl, _, rfl, v, wv, bv, z, bx, w, rfl, dz10, dw10, db10, wways, lw9, fun u H11 g11 du => ?_⟩
        refine ⟨x, colsOf hs as, u, putD w z bx, Tame (colsOf hs as), rfl, ColsAt.same cA10 g11, du, tame_closed _, put_tame badx.form badx.data badx.str atw, fun hn => ?_, fun e he u2 q2 H12 g12 du2 hq2 => ?_⟩
        · rw [whole_put badx.form atw (by decide) sz] at hn
          cases hn
        · rw [whole_put badx.form atw (by decide) sz] at he
          cases he
          refine ⟨_, rfl, (by show 1 ≤ sizeLine; decide), fun q3 f3 => ?_⟩
          have g13 := same_new f3 (.tup [bv])
          refine ⟨.tuple [bx], .tuple [bx], .tup (SqT.of (g13 _ _ hq2)) (.cons (dp_same (g12.trans g13) _ _ du2) .nil), .tup (SqT.of upd_same) (.cons (dp_same ((g11.trans g12).trans g13) _ _ db10) .nil), badx.shape, badx.shape, _, rfl, fin _ _ ⟨(g11.trans g12).trans g13, ?_⟩⟩
          rw [SeqAt.eqv_refl _ (SeqAt.canLay_of_shaped badx.shape)]
          rfl
      obtain ⟨g11, rfl⟩ := hb
      refine iteF (next_of ?_)
      dsimp only
      -- both
      refine ⟨_, rfl, _, rfl, _, rfl, v, wv, bv, z, bx, w, rfl, dp_same g11 _ _ dz10, dp_same g11 _ _ dw10, dp_same g11 _ _ db10, wways, lw9, fun u H12 g12 du => ⟨(by show 1 ≤ sizeLine; decide), fun p1 f1 => ⟨(by show 2 ≤ sizeLine; decide), fun p2 f2 => ⟨(by show 2 ≤ sizeLine; decide), fun p3 f3 => ?_⟩⟩⟩⟩
      have k1 := same_new f1 (.tup [.str "row"])
      have k2 := same_new f2 (.tup [u, .ref p1])
      have k3 := same_new f3 (.tup [.str "or", .ref p2])
      have dboth : Dp K _ (.ref p3) (.tuple [.str "or", .tuple [putD w z bx, .tuple [.str "row"]]]) := .tup (SqT.of (upd_same (o := .tup [.str "or", .ref p2]))) (.cons (.str _) (.cons (.tup (SqT.of (k3 _ _ upd_same)) (.cons (dp_same ((k1.trans k2).trans k3) _ _ du) (.cons (.tup (SqT.of ((k2.trans k3) _ _ upd_same)) (.cons (.str _) .nil)) .nil))) .nil))
      have g15 := ((g11.trans g12).trans k1).trans (k2.trans k3)
      generalize upd (upd (upd H12 p1 (.tup [.str "row"])) p2 (.tup [u, .ref p1])) p3 (.tup [.str "or", .ref p2]) = H15 at *
      dsimp only
      refine name_of ?_
      refine if_cut (fun b H16 => Same H15 H16 ∧ b = false) (fun b H16 hb => ?_) (fun Q' fin => ?_)
      rotate_left
      · refine ⟨_, rfl, v, colsOf hs as, 4, z, rfl, dp_same g15 _ _ dz10, gz, by decide, by decide, fun q ws H16 g16 fq hq dws => ⟨q, ws, rfl, .inl (SqL.of hq), _, _, rfl, rfl, _, rfl, ite2 (fun c28 => ?_) (fun _ => fin _ _ ⟨g16, rfl⟩)⟩⟩
        have lw2 := dps_len dws
        rw [List.length_map] at lw2
        have c28' := of_decide_eq_true c28
        have row_bad : formD (colsOf hs as) (.tuple [.str "row"]) = false := rfl
        have tb : Tame (colsOf hs as) (.tuple [.str "or", .tuple [putD w z bx, .tuple [.str "row"]]]) := tame_kids (.inr rfl) (by show 2 ≤ 1000; decide) fun e he => by
          rcases List.mem_cons.mp he with rfl | he
          · exact put_tame badx.form badx.data badx.str atw
          · obtain rfl := List.mem_singleton.mp he
            exact tame_bad row_bad (dataB_ok (by decide +kernel))
        have wb := whole_both (y := .tuple [.str "row"]) badx.form atw (by decide) (show (spotsD 4 z).length ≤ 29 by omega)
        refine ⟨_, rfl, _, rfl, x, colsOf hs as, _, _, Tame (colsOf hs as), rfl, ColsAt.same cA10 (g15.trans g16), dp_same g16 _ _ dboth, tame_closed _, tb, fun hn => ?_, fun e he u2 q2 H17 g17 du2 hq2 => ?_⟩
        · rw [wb] at hn
          cases hn
        · rw [wb] at he
          cases he
          refine ⟨_, rfl, (by show 1 ≤ sizeLine; decide), fun q3 f3 => ?_⟩
          have g18 := same_new f3 (.tup [bv])
          refine ⟨.tuple [bx], .tuple [bx], .tup (SqT.of (g18 _ _ hq2)) (.cons (dp_same (g17.trans g18) _ _ du2) .nil), .tup (SqT.of upd_same) (.cons (dp_same (((g15.trans g16).trans g17).trans g18) _ _ db10) .nil), badx.shape, badx.shape, _, rfl, fin _ _ ⟨(g16.trans g17).trans g18, ?_⟩⟩
          rw [SeqAt.eqv_refl _ (SeqAt.canLay_of_shaped badx.shape)]
          rfl
      obtain ⟨g16, rfl⟩ := hb
      exact iteF (next_of (next_ H16 _ _ _ ((hD10.same g15).same g16) ((b310.same g15).same g16)))
    · rintro σ' H' ⟨h1, h2, h3⟩
      exact tail _ _ ⟨h1, hm3.but h2, h3⟩
  obtain ⟨hD4, hm4, x4, x5, x6, x7, x8, rfl⟩ := h
  refine ⟨_, rfl, d, 9, rfl, hD4, by decide, fun r1 H5 h10 h19 hD5 b5 => ⟨_, _, rfl, rfl, _, rfl, d, 5, rfl, hD5, by decide, fun r2 H6 h20 h25 hD6 b6 => ⟨_, _, rfl, rfl, _, _, rfl, ?_⟩⟩⟩
  have hm6 := (hm4.but b5).but b6
  obtain ⟨n1, rfl⟩ : ∃ n : Nat, r1 = (n : Int) := ⟨r1.toNat, by omega⟩
  obtain ⟨m1, rfl⟩ : ∃ n : Nat, r2 = (n : Int) := ⟨r2.toNat, by omega⟩
  dsimp only
  refine ⟨(by show 2 ≤ sizeLine; decide), fun p1 f1 => ⟨(by show 3 ≤ sizeLine; decide), fun p2 f2 => ?_⟩⟩
  have k1 := same_new f1 (.tup [.int 1, .int 3])
  have k2 := same_new f2 (.tup [.str "block", .str "a", .ref p1])
  have dl : Dp K _ (.ref p2) leafD := .tup (SqT.of (upd_same (o := .tup [.str "block", .str "a", .ref p1]))) (.cons (.str _) (.cons (.str _) (.cons (.tup (SqT.of (k2 _ _ upd_same)) (.cons (.int _) (.cons (.int _) .nil))) .nil)))
  have hD7 := (hD6.same k1).same k2
  have hm7 := (hm6.but (Same.but k1)).but (Same.but k2)
  generalize upd (upd H6 p1 (.tup [.int 1, .int 3])) p2 (.tup [.str "block", .str "a", .ref p1]) = H7 at *
  dsimp only
  refine name_of ?_
  -- the nots
  refine seq_cut (σ := [some (.ref a), some (.ref d), some (.ref cl), some (.ref x), x4, some (.ref p2), x6, x7, x8, some (.int (1 + (n1 : Int))), some (.int (27 + (m1 : Int))), none, none]) (fun σ' H' => Same H7 H' ∧ ∃ (y4 : Option V) (v : V), Dp K H' v (nots n1 leafD) ∧ σ' = [some (.ref a), some (.ref d), some (.ref cl), some (.ref x), y4, some v, x6, x7, x8, some (.int (1 + (n1 : Int))), some (.int (27 + (m1 : Int))), none, none]) (fun σ' H8 h => ?_) (fun tail => ?_)
  rotate_left
  · refine ⟨_, rfl, _, _, rfl, rfl, _, rfl, by omega, by omega, ?_⟩
    rw [show (1 + (n1 : Int) - 1).toNat = n1 by omega]
    refine for_it walk_range (fun i σ' H' => Same H7 H' ∧ ∃ (y4 : Option V) (v : V), Dp K H' v (nots i leafD) ∧ σ' = [some (.ref a), some (.ref d), some (.ref cl), some (.ref x), y4, some v, x6, x7, x8, some (.int (1 + (n1 : Int))), some (.int (27 + (m1 : Int))), none, none]) ⟨Same.refl _, x4, _, dl, rfl⟩ (fun _ _ _ _ _ => trivial) ?_ ?_
    · rintro i xi σ' H' H'' hi ⟨g, y4, v, dv, rfl⟩ ⟨e1, e2⟩
      subst e1 e2
      refine ⟨_, rfl, (by show 2 ≤ sizeLine; decide), fun q fq => ?_⟩
      have gq := same_new fq (.tup [.str "not", v])
      exact ⟨g.trans gq, _, .ref q, .tup (SqT.of (upd_same (o := .tup [.str "not", v]))) (.cons (.str _) (.cons (dp_same gq _ _ dv) .nil)), rfl⟩
    · rintro σ' H' h
      exact tail _ _ h
  obtain ⟨g8, y4, pv, dpv, rfl⟩ := h
  have hD8 := hD7.same g8
  have hm8 := hm7.but (Same.but g8)
  have cA8 := hm8.at
  have ng : Good (colsOf hs as) (n1 + 1) (nots n1 leafD) := nots_good leaf_good n1
  -- _law_refused(made, plan) != ..
  refine ifs_cut (fun b H' => Same H8 H' ∧ b = false) (fun b H9 hb => ?_) (fun Q' fin => ?_)
  rotate_left
  · refine ⟨_, rfl, _, rfl, x, colsOf hs as, pv, nots n1 leafD, Tame (colsOf hs as), rfl, cA8, dpv, tame_closed _, good_tame ng, fun hn => ⟨good_shaped ng (by omega), fun H9 g9 => ?_⟩, fun e he u2 q2 H9 g9 du2 hq2 => ?_⟩
    · refine ⟨_, rfl, _, _, rfl, rfl, _, rfl, ite2 (fun c8 => ⟨.none, .none, .non, .non, none_shape, none_shape, _, rfl, fin _ _ ⟨g9, rfl⟩⟩) (fun c8 => ?_)⟩
      have c8' := of_decide_eq_false (Bool.eq_false_iff.mpr c8)
      have : n1 = 8 := by omega
      subst this
      rw [whole_nots] at hn
      cases hn
    · refine ⟨_, rfl, _, _, rfl, rfl, _, rfl, ite2 (fun c8 => ?_) (fun c8 => ?_)⟩
      · have c8' := of_decide_eq_true c8
        rw [whole_good ng (by omega) (by rw [nots_leaf_size]; omega)] at he
        cases he
      · have c8' := of_decide_eq_false (Bool.eq_false_iff.mpr c8)
        have : n1 = 8 := by omega
        subst this
        rw [whole_nots] at he
        cases he
        refine ⟨_, rfl, rfl, _, rfl, ?_⟩
        rw [decide_eq_true (show V.int (1 + ((8 : Nat) : Int)) = V.int 9 from rfl)]
        refine iteT ⟨(by show 2 ≤ sizeLine; decide), fun q3 f3 => ⟨(by show 3 ≤ sizeLine; decide), fun q4 f4 => ⟨(by show 1 ≤ sizeLine; decide), fun q5 f5 => ?_⟩⟩⟩
        have j3 := same_new f3 (.tup [.int 1, .int 3])
        have j4 := same_new f4 (.tup [.str "block", .str "a", .ref q3])
        have j5 := same_new f5 (.tup [.ref q4])
        have dl5 : Dp K _ (.ref q5) (.tuple [leafD]) := .tup (SqT.of (upd_same (o := .tup [.ref q4]))) (.cons (.tup (SqT.of (j5 _ _ upd_same)) (.cons (.str _) (.cons (.str _) (.cons (.tup (SqT.of ((j4.trans j5) _ _ upd_same)) (.cons (.int _) (.cons (.int _) .nil))) .nil)))) .nil)
        have j35 := j3.trans (j4.trans j5)
        exact ⟨.tuple [leafD], .tuple [leafD], .tup (SqT.of (j35 _ _ hq2)) (.cons (dp_same (g9.trans j35) _ _ du2) .nil), dl5, leaf_shape, leaf_shape, _, rfl, fin _ _ ⟨g9.trans j35, by
          rw [SeqAt.eqv_refl _ (SeqAt.canLay_of_shaped leaf_shape)]
          rfl⟩⟩
  obtain ⟨g9, rfl⟩ := hb
  refine iteF (next_of ?_)
  dsimp only
  have hm9 := hm8.but (Same.but g9)
  have hD9 := hD8.same g9
  -- rows
  refine ⟨_, rfl, _, _, rfl, rfl, _, rfl, by omega, by omega, fun D hDn => ?_⟩
  rw [show (27 + (m1 : Int) - 1).toNat = 26 + m1 by omega]
  refine lc_it walk_range (fun i H' => (∀ b o, b ≠ D → H9 b = some o → H' b = some o) ∧ ∃ vs, H' D = some (.lst vs) ∧ DpAll K H' vs (rowsD i)) ⟨fun b o n e => by rw [upd_ne n]; exact e, [], upd_same, .nil⟩ (fun _ _ _ _ => trivial) ?_ ?_
  · rintro i xi H10 H11 hi ⟨g, vs, hv, dv⟩ ⟨rfl, rfl⟩
    have nd : ∀ {q : Addr} {o : HO}, H11 q = none → Same H11 (upd H11 q o) := fun hq => same_new hq _
    refine ⟨rfl, _, rfl, .inl ⟨_, rfl, _, _, rfl, rfl, (show (0 : Int) < 8 by decide), _, _, rfl, rfl, "a", 1 + i % 8, rfl, row_name, (by decide +kernel), (by decide +kernel), by omega, by omega, _, rfl, _, _, rfl, rfl, (by show 2 ≤ sizeLine; decide), fun q1 f1 => ⟨(by show 3 ≤ sizeLine; decide), fun q2 f2 => ?_⟩⟩⟩
    have j1 := same_new f1 (.tup [.int 1, .int (2 + (0 + (i : Int)))])
    have j2 := same_new f2 (.tup [.str "row", .str (timesS "a" (1 + i % 8)), .ref q1])
    have n1D : q1 ≠ D := fun e => by subst e; rw [hv] at f1; cases f1
    have n2D : q2 ≠ D := fun e => by subst e; rw [j1 _ _ hv] at f2; cases f2
    have dr : Dp K (upd (upd H11 q1 (.tup [.int 1, .int (2 + (0 + (i : Int)))])) q2 (.tup [.str "row", .str (timesS "a" (1 + i % 8)), .ref q1])) (.ref q2) (rowD i) := by
      refine .tup (SqT.of (upd_same (o := .tup [.str "row", .str (timesS "a" (1 + i % 8)), .ref q1]))) (.cons (.str _) (.cons (.str _) (.cons (.tup (SqT.of (j2 _ _ upd_same)) (.cons (.int _) (.cons (dp_int_eq (by show (2 : Int) + (0 + (i : Int)) = 2 + (i : Int); omega)) .nil))) .nil)))
    have hv2 := (j1.trans j2) _ _ hv
    have dv2 := dps_same (j1.trans j2) _ _ dv
    have g2 : ∀ b o, b ≠ D → H9 b = some o → _ := fun b o n e => (j1.trans j2) _ _ (g b o n e)
    generalize upd (upd H11 q1 (.tup [.int 1, .int (2 + (0 + (i : Int)))])) q2 (.tup [.str "row", .str (timesS "a" (1 + i % 8)), .ref q1]) = H12 at *
    have bD : But D H12 (upd H12 D (.lst (vs ++ [.ref q2]))) := fun b o n e => by rw [upd_ne n]; exact e
    refine ⟨vs, hv2, ?_, fun b o n e => bD b o n (g2 b o n e), _, upd_same, ?_⟩
    · have lv := dps_len dv2
      rw [rows_len] at lv
      exact Nat.lt_of_le_of_lt (show vs.length ≤ 1000 by omega) (small1000 (Nat.le_refl _))
    · rw [rows_succ]
      exact dps_app (dps_tups (fun a xs h => bD.tup hv2 h) _ _ (noL_rows _) dv2) (.cons (dp_tups (fun a xs h => bD.tup hv2 h) _ _ (noL_row i) dr) .nil)
  · rintro H10 ⟨g10, vs, hv, dv⟩
    have g10' : Same H9 H10 := fun b o e => g10 b o (ne_of_none e hDn) e
    have hm10 := hm9.but (Same.but g10')
    refine ⟨D, vs, rfl, .inl ⟨SqL.of hv, fun l hl => ?_⟩⟩
    have jl := same_new hl (.tup vs)
    have dvl := dps_same jl _ _ dv
    have hm11 := hm10.but (Same.but jl)
    have eL : upd H10 l (.tup vs) l = some (.tup vs) := upd_same
    generalize upd H10 l (.tup vs) = H11 at *
    refine name_of ?_
    refine ⟨_, rfl, _, rfl, (by show 2 ≤ sizeLine; decide), fun q fq => ?_⟩
    have jq := same_new fq (.tup [.str "and", .ref l])
    have dan : Dp K _ (.ref q) (.tuple [.str "and", .tuple (rowsD (26 + m1))]) := .tup (SqT.of (upd_same (o := .tup [.str "and", .ref l]))) (.cons (.str _) (.cons (.tup (SqT.of (jq _ _ eL)) (dps_same jq _ _ dvl)) .nil))
    have hm12 := hm11.but (Same.but jq)
    have eL2 := jq _ _ eL
    have dv2 := dps_same jq _ _ dvl
    generalize upd H11 q (.tup [.str "and", .ref l]) = H12 at *
    have rg : Good (colsOf hs as) 2 (.tuple [.str "and", .tuple (rowsD (26 + m1))]) := rows_good (by omega) (by omega)
    refine ⟨x, colsOf hs as, .ref q, _, Tame (colsOf hs as), rfl, hm12.at, dan, tame_closed _, good_tame rg, fun hn => ⟨good_shaped rg (by omega), fun H13 g13 => ?_⟩, fun e he u2 q2 H13 g13 du2 hq2 => ?_⟩
    · refine ⟨_, rfl, _, _, rfl, rfl, _, rfl, ite2 (fun c8 => ⟨.none, .none, .non, .non, none_shape, none_shape, k _⟩) (fun c8 => ?_)⟩
      have c8' := of_decide_eq_false (Bool.eq_false_iff.mpr c8)
      have : m1 = 4 := by omega
      subst this
      rw [whole_thirty] at hn
      cases hn
    · refine ⟨_, rfl, _, _, rfl, rfl, _, rfl, ite2 (fun c8 => ?_) (fun c8 => ?_)⟩
      · have c8' := of_decide_eq_true c8
        rw [whole_rows (by omega) (by omega)] at he
        cases he
      · have c8' := of_decide_eq_false (Bool.eq_false_iff.mpr c8)
        have : m1 = 4 := by omega
        subst this
        rw [whole_thirty] at he
        cases he
        obtain ⟨v29, hv29, dv29⟩ := dps_get (i := 29) (d := rowD 29) dv2 rfl
        refine ⟨_, rfl, l, vs, 29, v29, rfl, rfl, SqT.of (g13 _ _ eL2), at_of (j := 29) rfl hv29, (by show 1 ≤ sizeLine; decide), fun q5 f5 => ?_⟩
        have j5 := same_new f5 (.tup [v29])
        refine ⟨.tuple [rowD 29], .tuple [rowD 29], .tup (SqT.of (j5 _ _ hq2)) (.cons (dp_same (g13.trans j5) _ _ du2) .nil), .tup (SqT.of upd_same) (.cons (dp_same (g13.trans j5) _ _ dv29) .nil), row_shape 29 (by decide), row_shape 29 (by decide), ?_⟩
        rw [SeqAt.eqv_refl _ (SeqAt.canLay_of_shaped (row_shape 29 (by decide)))]
        exact k _

end
end My
namespace My
open PySem L2 PySem.Spec PyProof.Rows
theorem all_mk {l : PySem.W.OpenLaw} {w : World} {K : PySem.W.Frag} {h : Heap} {mg : Str → Option Value} {fa f0 f1 f2 f3 f4 f5 f6 f7 f8 f9 f10 f11 f12 f13 f14 f15 f16 f17 f18 f19 f20 f21 f22 f23 f24 f25 f26 f27 f28 f29 f30 : Addr} (X : K.In h) (G : h.Ns mainGlobals mg) (hfa : mg "law" = some (.ref fa))
    {od0 an0 : Option Addr} {sl0 : Array (Option Value)} {oc0 kV0 dc0 pm0 cd0 ct0 : Value}
    {od1 an1 : Option Addr} {sl1 : Array (Option Value)} {oc1 kV1 dc1 pm1 cd1 ct1 : Value}
    {od2 an2 : Option Addr} {sl2 : Array (Option Value)} {oc2 kV2 dc2 pm2 cd2 ct2 : Value}
    {od3 an3 : Option Addr} {sl3 : Array (Option Value)} {oc3 kV3 dc3 pm3 cd3 ct3 : Value}
    {od4 an4 : Option Addr} {sl4 : Array (Option Value)} {oc4 kV4 dc4 pm4 cd4 ct4 : Value}
    {od5 an5 : Option Addr} {sl5 : Array (Option Value)} {oc5 kV5 dc5 pm5 cd5 ct5 : Value}
    {od6 an6 : Option Addr} {sl6 : Array (Option Value)} {oc6 kV6 dc6 pm6 cd6 ct6 : Value}
    {od7 an7 : Option Addr} {sl7 : Array (Option Value)} {oc7 kV7 dc7 pm7 cd7 ct7 : Value}
    {od8 an8 : Option Addr} {sl8 : Array (Option Value)} {oc8 kV8 dc8 pm8 cd8 ct8 : Value}
    {od9 an9 : Option Addr} {sl9 : Array (Option Value)} {oc9 kV9 dc9 pm9 cd9 ct9 : Value}
    {od10 an10 : Option Addr} {sl10 : Array (Option Value)} {oc10 kV10 dc10 pm10 cd10 ct10 : Value}
    {od11 an11 : Option Addr} {sl11 : Array (Option Value)} {oc11 kV11 dc11 pm11 cd11 ct11 : Value}
    {od12 an12 : Option Addr} {sl12 : Array (Option Value)} {oc12 kV12 dc12 pm12 cd12 ct12 : Value}
    {od13 an13 : Option Addr} {sl13 : Array (Option Value)} {oc13 kV13 dc13 pm13 cd13 ct13 : Value}
    {od14 an14 : Option Addr} {sl14 : Array (Option Value)} {oc14 kV14 dc14 pm14 cd14 ct14 : Value}
    {od15 an15 : Option Addr} {sl15 : Array (Option Value)} {oc15 kV15 dc15 pm15 cd15 ct15 : Value}
    {o_Columns_asked : Addr} {rest_Columns_asked : List Value}
    {od16 an16 : Option Addr} {sl16 : Array (Option Value)} {oc16 kV16 dc16 pm16 cd16 ct16 : Value}
    {od17 an17 : Option Addr} {sl17 : Array (Option Value)} {oc17 kV17 dc17 pm17 cd17 ct17 : Value}
    {od18 an18 : Option Addr} {sl18 : Array (Option Value)} {oc18 kV18 dc18 pm18 cd18 ct18 : Value}
    {od19 an19 : Option Addr} {sl19 : Array (Option Value)} {oc19 kV19 dc19 pm19 cd19 ct19 : Value}
    {od20 an20 : Option Addr} {sl20 : Array (Option Value)} {oc20 kV20 dc20 pm20 cd20 ct20 : Value}
    {od21 an21 : Option Addr} {sl21 : Array (Option Value)} {oc21 kV21 dc21 pm21 cd21 ct21 : Value}
    {od22 an22 : Option Addr} {sl22 : Array (Option Value)} {oc22 kV22 dc22 pm22 cd22 ct22 : Value}
    {od23 an23 : Option Addr} {sl23 : Array (Option Value)} {oc23 kV23 dc23 pm23 cd23 ct23 : Value}
    {od24 an24 : Option Addr} {sl24 : Array (Option Value)} {oc24 kV24 dc24 pm24 cd24 ct24 : Value}
    {od25 an25 : Option Addr} {sl25 : Array (Option Value)} {oc25 kV25 dc25 pm25 cd25 ct25 : Value}
    {od26 an26 : Option Addr} {sl26 : Array (Option Value)} {oc26 kV26 dc26 pm26 cd26 ct26 : Value}
    {od27 an27 : Option Addr} {sl27 : Array (Option Value)} {oc27 kV27 dc27 pm27 cd27 ct27 : Value}
    {od28 an28 : Option Addr} {sl28 : Array (Option Value)} {oc28 kV28 dc28 pm28 cd28 ct28 : Value}
    {od29 an29 : Option Addr} {sl29 : Array (Option Value)} {oc29 kV29 dc29 pm29 cd29 ct29 : Value}
    {od30 an30 : Option Addr} {sl30 : Array (Option Value)} {oc30 kV30 dc30 pm30 cd30 ct30 : Value}
    {c_Columns : Addr}
    {c_SieveError : Addr}
    {c_BadPlan : Addr}
    {nm_BadPlan q_BadPlan : Str} {N_BadPlan : Addr} {bs_BadPlan bm_BadPlan : List Value} {sn_BadPlan : List Str} {sub_BadPlan : List Value} {ab_BadPlan : Bool} {col_BadPlan : Option Bool} {dd_BadPlan : Option Addr} {k0_BadPlan k1_BadPlan k2_BadPlan k3_BadPlan k5_BadPlan : Option Value}
    {t_LETTERS : Tok}
    {t_FAR : Tok}
    {t_LONGEST_NAME : Tok}
    {t_DEEPEST : Tok}
    {t_MOST_FORMULAS : Tok}
    {t_LONGEST_STRING : Tok}
    {t_GREATEST_BELOW : Tok}
    {t_MOST_HASHED : Tok}
    {t_MOST_ASKED : Tok}
    {t_MOST_SUMMED : Tok}
    {dd_RESERVED : Option Addr} {n_RESERVED : Nat} {sl_RESERVED : Array (Option Value)} {t_RESERVED_0 t_RESERVED_1 t_RESERVED_2 t_RESERVED_3 t_RESERVED_4 t_RESERVED_5 t_RESERVED_6 t_RESERVED_7 t_RESERVED_8 : Tok} {g_RESERVED : Addr}
    (ac_Columns : PySem.W.nsIn K mainGlobals "Columns" = some (some (.ref c_Columns)))
    (ac_SieveError : PySem.W.nsIn K mainGlobals "SieveError" = some (some (.ref c_SieveError)))
    (ac_BadPlan : PySem.W.nsIn K mainGlobals "BadPlan" = some (some (.ref c_BadPlan)))
    (a0 : PySem.W.nsIn K mainGlobals "is_whole" = some (some (.ref f0)))
    (l0 : K.lookup f0 = some ⟨oc0, od0, .func (PySem.W.fnOf "is_whole" "is_whole" (defArgs s_is_whole) (defBody s_is_whole) (defScope s_is_whole) .none kV0 dc0 pm0 an0 cd0 ct0), sl0⟩)
    (c0 : PySem.W.codeIn K cd0 "is_whole" = true) (k0 : PySem.W.keepIn K (.ref f0) = true)
    (a1 : PySem.W.nsIn K mainGlobals "is_between" = some (some (.ref f1)))
    (l1 : K.lookup f1 = some ⟨oc1, od1, .func (PySem.W.fnOf "is_between" "is_between" (defArgs s_is_between) (defBody s_is_between) (defScope s_is_between) .none kV1 dc1 pm1 an1 cd1 ct1), sl1⟩)
    (c1 : PySem.W.codeIn K cd1 "is_between" = true) (k1 : PySem.W.keepIn K (.ref f1) = true)
    (a2 : PySem.W.nsIn K mainGlobals "is_near" = some (some (.ref f2)))
    (l2 : K.lookup f2 = some ⟨oc2, od2, .func (PySem.W.fnOf "is_near" "is_near" (defArgs s_is_near) (defBody s_is_near) (defScope s_is_near) .none kV2 dc2 pm2 an2 cd2 ct2), sl2⟩)
    (c2 : PySem.W.codeIn K cd2 "is_near" = true) (k2 : PySem.W.keepIn K (.ref f2) = true)
    (a3 : PySem.W.nsIn K mainGlobals "is_row" = some (some (.ref f3)))
    (l3 : K.lookup f3 = some ⟨oc3, od3, .func (PySem.W.fnOf "is_row" "is_row" (defArgs s_is_row) (defBody s_is_row) (defScope s_is_row) .none kV3 dc3 pm3 an3 cd3 ct3), sl3⟩)
    (c3 : PySem.W.codeIn K cd3 "is_row" = true) (k3 : PySem.W.keepIn K (.ref f3) = true)
    (a4 : PySem.W.nsIn K mainGlobals "is_name" = some (some (.ref f4)))
    (l4 : K.lookup f4 = some ⟨oc4, od4, .func (PySem.W.fnOf "is_name" "is_name" (defArgs s_is_name) (defBody s_is_name) (defScope s_is_name) .none kV4 dc4 pm4 an4 cd4 ct4), sl4⟩)
    (c4 : PySem.W.codeIn K cd4 "is_name" = true) (k4 : PySem.W.keepIn K (.ref f4) = true)
    (a5 : PySem.W.findIn K (.ref c_BadPlan) "__init__" = some (some (.ref f5)))
    (l5 : K.lookup f5 = some ⟨oc5, od5, .func (PySem.W.fnOf "__init__" "BadPlan.__init__" (defArgs s_BadPlan_init) (defBody s_BadPlan_init) (defScope s_BadPlan_init) .none kV5 dc5 pm5 an5 cd5 ct5), sl5⟩)
    (c5 : PySem.W.codeIn K cd5 "BadPlan.__init__" = true) (k5 : PySem.W.keepIn K (.ref f5) = true)
    (a6 : PySem.W.nsIn K mainGlobals "is_fraction" = some (some (.ref f6)))
    (l6 : K.lookup f6 = some ⟨oc6, od6, .func (PySem.W.fnOf "is_fraction" "is_fraction" (defArgs s_is_fraction) (defBody s_is_fraction) (defScope s_is_fraction) .none kV6 dc6 pm6 an6 cd6 ct6), sl6⟩)
    (c6 : PySem.W.codeIn K cd6 "is_fraction" = true) (k6 : PySem.W.keepIn K (.ref f6) = true)
    (a7 : PySem.W.nsIn K mainGlobals "checked_plan" = some (some (.ref f7)))
    (l7 : K.lookup f7 = some ⟨oc7, od7, .func (PySem.W.fnOf "checked_plan" "checked_plan" (defArgs s_checked_plan) (defBody s_checked_plan) (defScope s_checked_plan) .none kV7 dc7 pm7 an7 cd7 ct7), sl7⟩)
    (c7 : PySem.W.codeIn K cd7 "checked_plan" = true) (k7 : PySem.W.keepIn K (.ref f7) = true)
    (a8 : PySem.W.nsIn K mainGlobals "is_formed" = some (some (.ref f8)))
    (l8 : K.lookup f8 = some ⟨oc8, od8, .func (PySem.W.fnOf "is_formed" "is_formed" (defArgs s_is_formed) (defBody s_is_formed) (defScope s_is_formed) .none kV8 dc8 pm8 an8 cd8 ct8), sl8⟩)
    (c8 : PySem.W.codeIn K cd8 "is_formed" = true) (k8 : PySem.W.keepIn K (.ref f8) = true)
    (a9 : PySem.W.nsIn K mainGlobals "is_test" = some (some (.ref f9)))
    (l9 : K.lookup f9 = some ⟨oc9, od9, .func (PySem.W.fnOf "is_test" "is_test" (defArgs s_is_test) (defBody s_is_test) (defScope s_is_test) .none kV9 dc9 pm9 an9 cd9 ct9), sl9⟩)
    (c9 : PySem.W.codeIn K cd9 "is_test" = true) (k9 : PySem.W.keepIn K (.ref f9) = true)
    (a10 : PySem.W.nsIn K mainGlobals "is_threshold" = some (some (.ref f10)))
    (l10 : K.lookup f10 = some ⟨oc10, od10, .func (PySem.W.fnOf "is_threshold" "is_threshold" (defArgs s_is_threshold) (defBody s_is_threshold) (defScope s_is_threshold) .none kV10 dc10 pm10 an10 cd10 ct10), sl10⟩)
    (c10 : PySem.W.codeIn K cd10 "is_threshold" = true) (k10 : PySem.W.keepIn K (.ref f10) = true)
    (a11 : PySem.W.nsIn K mainGlobals "is_ask" = some (some (.ref f11)))
    (l11 : K.lookup f11 = some ⟨oc11, od11, .func (PySem.W.fnOf "is_ask" "is_ask" (defArgs s_is_ask) (defBody s_is_ask) (defScope s_is_ask) .none kV11 dc11 pm11 an11 cd11 ct11), sl11⟩)
    (c11 : PySem.W.codeIn K cd11 "is_ask" = true) (k11 : PySem.W.keepIn K (.ref f11) = true)
    (a12 : PySem.W.nsIn K mainGlobals "is_short" = some (some (.ref f12)))
    (l12 : K.lookup f12 = some ⟨oc12, od12, .func (PySem.W.fnOf "is_short" "is_short" (defArgs s_is_short) (defBody s_is_short) (defScope s_is_short) .none kV12 dc12 pm12 an12 cd12 ct12), sl12⟩)
    (c12 : PySem.W.codeIn K cd12 "is_short" = true) (k12 : PySem.W.keepIn K (.ref f12) = true)
    (a13 : PySem.W.nsIn K mainGlobals "within" = some (some (.ref f13)))
    (l13 : K.lookup f13 = some ⟨oc13, od13, .func (PySem.W.fnOf "within" "within" (defArgs s_within) (defBody s_within) (defScope s_within) .none kV13 dc13 pm13 an13 cd13 ct13), sl13⟩)
    (c13 : PySem.W.codeIn K cd13 "within" = true) (k13 : PySem.W.keepIn K (.ref f13) = true)
    (a14 : PySem.W.findIn K (.ref c_Columns) "__init__" = some (some (.ref f14)))
    (l14 : K.lookup f14 = some ⟨oc14, od14, .func (PySem.W.fnOf "__init__" "Columns.__init__" (defArgs s_Columns_init) (defBody s_Columns_init) (defScope s_Columns_init) .none kV14 dc14 pm14 an14 cd14 ct14), sl14⟩)
    (c14 : PySem.W.codeIn K cd14 "Columns.__init__" = true) (k14 : PySem.W.keepIn K (.ref f14) = true)
    (pa_Columns_asked : PySem.W.findIn K (.ref c_Columns) "asked" = some (some (.ref o_Columns_asked))) (pb_Columns_asked : PySem.W.specialIn K (.ref o_Columns_asked) "__get__" = some (some (.builtin "property.__get__"))) (pc_Columns_asked : PySem.W.takesIn K (.ref o_Columns_asked) = some true) (pd_Columns_asked : PySem.W.recIn K o_Columns_asked "property" = some (.ref f15 :: rest_Columns_asked))
    (l15 : K.lookup f15 = some ⟨oc15, od15, .func (PySem.W.fnOf "asked" "Columns.asked" (defArgs s_Columns_asked) (defBody s_Columns_asked) (defScope s_Columns_asked) .none kV15 dc15 pm15 an15 cd15 ct15), sl15⟩)
    (c15 : PySem.W.codeIn K cd15 "Columns.asked" = true) (k15 : PySem.W.keepIn K (.ref f15) = true)
    (a16 : PySem.W.nsIn K mainGlobals "wrong_part" = some (some (.ref f16)))
    (l16 : K.lookup f16 = some ⟨oc16, od16, .func (PySem.W.fnOf "wrong_part" "wrong_part" (defArgs s_wrong_part) (defBody s_wrong_part) (defScope s_wrong_part) .none kV16 dc16 pm16 an16 cd16 ct16), sl16⟩)
    (c16 : PySem.W.codeIn K cd16 "wrong_part" = true) (k16 : PySem.W.keepIn K (.ref f16) = true)
    (a17 : PySem.W.nsIn K mainGlobals "are_names" = some (some (.ref f17)))
    (l17 : K.lookup f17 = some ⟨oc17, od17, .func (PySem.W.fnOf "are_names" "are_names" (defArgs s_are_names) (defBody s_are_names) (defScope s_are_names) .none kV17 dc17 pm17 an17 cd17 ct17), sl17⟩)
    (c17 : PySem.W.codeIn K cd17 "are_names" = true) (k17 : PySem.W.keepIn K (.ref f17) = true)
    (a18 : PySem.W.nsIn K mainGlobals "are_asked" = some (some (.ref f18)))
    (l18 : K.lookup f18 = some ⟨oc18, od18, .func (PySem.W.fnOf "are_asked" "are_asked" (defArgs s_are_asked) (defBody s_are_asked) (defScope s_are_asked) .none kV18 dc18 pm18 an18 cd18 ct18), sl18⟩)
    (c18 : PySem.W.codeIn K cd18 "are_asked" = true) (k18 : PySem.W.keepIn K (.ref f18) = true)
    (a19 : PySem.W.nsIn K mainGlobals "_law_number" = some (some (.ref f19)))
    (l19 : K.lookup f19 = some ⟨oc19, od19, .func (PySem.W.fnOf "_law_number" "_law_number" (defArgs s__law_number) (defBody s__law_number) (defScope s__law_number) .none kV19 dc19 pm19 an19 cd19 ct19), sl19⟩)
    (c19 : PySem.W.codeIn K cd19 "_law_number" = true) (k19 : PySem.W.keepIn K (.ref f19) = true)
    (a20 : PySem.W.nsIn K mainGlobals "_law_take" = some (some (.ref f20)))
    (l20 : K.lookup f20 = some ⟨oc20, od20, .func (PySem.W.fnOf "_law_take" "_law_take" (defArgs s__law_take) (defBody s__law_take) (defScope s__law_take) .none kV20 dc20 pm20 an20 cd20 ct20), sl20⟩)
    (c20 : PySem.W.codeIn K cd20 "_law_take" = true) (k20 : PySem.W.keepIn K (.ref f20) = true)
    (a21 : PySem.W.nsIn K mainGlobals "_law_pick" = some (some (.ref f21)))
    (l21 : K.lookup f21 = some ⟨oc21, od21, .func (PySem.W.fnOf "_law_pick" "_law_pick" (defArgs s__law_pick) (defBody s__law_pick) (defScope s__law_pick) .none kV21 dc21 pm21 an21 cd21 ct21), sl21⟩)
    (c21 : PySem.W.codeIn K cd21 "_law_pick" = true) (k21 : PySem.W.keepIn K (.ref f21) = true)
    (a22 : PySem.W.nsIn K mainGlobals "_law_columns" = some (some (.ref f22)))
    (l22 : K.lookup f22 = some ⟨oc22, od22, .func (PySem.W.fnOf "_law_columns" "_law_columns" (defArgs s__law_columns) (defBody s__law_columns) (defScope s__law_columns) .none kV22 dc22 pm22 an22 cd22 ct22), sl22⟩)
    (c22 : PySem.W.codeIn K cd22 "_law_columns" = true) (k22 : PySem.W.keepIn K (.ref f22) = true)
    (a23 : PySem.W.nsIn K mainGlobals "_law_test" = some (some (.ref f23)))
    (l23 : K.lookup f23 = some ⟨oc23, od23, .func (PySem.W.fnOf "_law_test" "_law_test" (defArgs s__law_test) (defBody s__law_test) (defScope s__law_test) .none kV23 dc23 pm23 an23 cd23 ct23), sl23⟩)
    (c23 : PySem.W.codeIn K cd23 "_law_test" = true) (k23 : PySem.W.keepIn K (.ref f23) = true)
    (a24 : PySem.W.nsIn K mainGlobals "_law_ask" = some (some (.ref f24)))
    (l24 : K.lookup f24 = some ⟨oc24, od24, .func (PySem.W.fnOf "_law_ask" "_law_ask" (defArgs s__law_ask) (defBody s__law_ask) (defScope s__law_ask) .none kV24 dc24 pm24 an24 cd24 ct24), sl24⟩)
    (c24 : PySem.W.codeIn K cd24 "_law_ask" = true) (k24 : PySem.W.keepIn K (.ref f24) = true)
    (a25 : PySem.W.nsIn K mainGlobals "_law_formula" = some (some (.ref f25)))
    (l25 : K.lookup f25 = some ⟨oc25, od25, .func (PySem.W.fnOf "_law_formula" "_law_formula" (defArgs s__law_formula) (defBody s__law_formula) (defScope s__law_formula) .none kV25 dc25 pm25 an25 cd25 ct25), sl25⟩)
    (c25 : PySem.W.codeIn K cd25 "_law_formula" = true) (k25 : PySem.W.keepIn K (.ref f25) = true)
    (a26 : PySem.W.nsIn K mainGlobals "_law_refused" = some (some (.ref f26)))
    (l26 : K.lookup f26 = some ⟨oc26, od26, .func (PySem.W.fnOf "_law_refused" "_law_refused" (defArgs s__law_refused) (defBody s__law_refused) (defScope s__law_refused) .none kV26 dc26 pm26 an26 cd26 ct26), sl26⟩)
    (c26 : PySem.W.codeIn K cd26 "_law_refused" = true) (k26 : PySem.W.keepIn K (.ref f26) = true)
    (a27 : PySem.W.nsIn K mainGlobals "_law_spots" = some (some (.ref f27)))
    (l27 : K.lookup f27 = some ⟨oc27, od27, .func (PySem.W.fnOf "_law_spots" "_law_spots" (defArgs s__law_spots) (defBody s__law_spots) (defScope s__law_spots) .none kV27 dc27 pm27 an27 cd27 ct27), sl27⟩)
    (c27 : PySem.W.codeIn K cd27 "_law_spots" = true) (k27 : PySem.W.keepIn K (.ref f27) = true)
    (a28 : PySem.W.nsIn K mainGlobals "_law_put" = some (some (.ref f28)))
    (l28 : K.lookup f28 = some ⟨oc28, od28, .func (PySem.W.fnOf "_law_put" "_law_put" (defArgs s__law_put) (defBody s__law_put) (defScope s__law_put) .none kV28 dc28 pm28 an28 cd28 ct28), sl28⟩)
    (c28 : PySem.W.codeIn K cd28 "_law_put" = true) (k28 : PySem.W.keepIn K (.ref f28) = true)
    (a29 : PySem.W.nsIn K mainGlobals "_law_bad" = some (some (.ref f29)))
    (l29 : K.lookup f29 = some ⟨oc29, od29, .func (PySem.W.fnOf "_law_bad" "_law_bad" (defArgs s__law_bad) (defBody s__law_bad) (defScope s__law_bad) .none kV29 dc29 pm29 an29 cd29 ct29), sl29⟩)
    (c29 : PySem.W.codeIn K cd29 "_law_bad" = true) (k29 : PySem.W.keepIn K (.ref f29) = true)
    (a30 : PySem.W.nsIn K mainGlobals "law" = some (some (.ref f30)))
    (l30 : K.lookup f30 = some ⟨oc30, od30, .func (PySem.W.fnOf "law" "law" (defArgs s_law) (defBody s_law) (defScope s_law) .none kV30 dc30 pm30 an30 cd30 ct30), sl30⟩)
    (c30 : PySem.W.codeIn K cd30 "law" = true) (k30 : PySem.W.keepIn K (.ref f30) = true)
    (pg_Columns : PySem.W.plainGet K c_Columns Str.empty = true) (hd_Columns : PySem.W.hasDictIn K c_Columns = true) (po_Columns : PySem.W.plainOver K c_Columns = true) (sa_Columns : PySem.W.findIn K (.ref c_Columns) "__setattr__" = some (some (.builtin "object.__setattr__"))) (mk_Columns : PySem.W.makesIn K c_Columns = true) (kc_Columns : PySem.W.keepIn K (.ref c_Columns) = true) (fn_Columns : PySem.W.isFn K (.ref f14) = true)
    (n_Columns_hashed : PySem.W.findIn K (.ref c_Columns) "hashed" = some none)
    (n_Columns__asked : PySem.W.findIn K (.ref c_Columns) "_asked" = some none)
    (n_Columns_summed : PySem.W.findIn K (.ref c_Columns) "summed" = some none)
    (ra_SieveError : PySem.W.readsIn K c_SieveError (.type "type") = true) (rb_SieveError : PySem.W.specialIn K (.ref c_SieveError) "__getattribute__" = some (some (.builtin "type.__getattribute__"))) (ri_SieveError : PySem.W.findCls K (.ref c_SieveError) (.type "type") "__init__" = some (.val (.builtin "ValueError.__init__"))) (yb_SieveError : PySem.W.subIn K (.ref c_SieveError) (.type "BaseException") = some true) (yh_SieveError : PySem.W.hasDictIn K c_SieveError = true) (yt_SieveError : PySem.W.typeIn K (.ref c_SieveError) = some (.type "type"))
    (xl_BadPlan : K.lookup c_BadPlan = some (excClassObj nm_BadPlan q_BadPlan c_BadPlan N_BadPlan bs_BadPlan bm_BadPlan true sn_BadPlan sub_BadPlan ab_BadPlan col_BadPlan dd_BadPlan k0_BadPlan k1_BadPlan k2_BadPlan k3_BadPlan k5_BadPlan "ValueError.__new__")) (xb_BadPlan : PySem.HandSPX.refsVE bm_BadPlan = true)
    (xs_BadPlan : PySem.W.findIn K (.ref c_BadPlan) "__setattr__" = some (some (.builtin "object.__setattr__"))) (xx_BadPlan : PySem.W.subIn K (.ref c_BadPlan) (.type "BaseException") = some true) (xy_BadPlan : PySem.W.typeIn K (.ref c_BadPlan) = some (.type "type")) (xc_BadPlan : PySem.W.keepIn K (.ref c_BadPlan) = true) (xt_BadPlan : PySem.W.typeIn K (.ref f5) = some (.type "function")) (xn_BadPlan : PySem.W.findIn K (.ref c_BadPlan) "part" = some none)
    (xg_BadPlan : PySem.W.findIn K (.ref c_BadPlan) "__getattribute__" = some (some (.builtin "BaseException.__getattribute__"))) (xh_BadPlan : PySem.W.findIn K (.ref c_BadPlan) "__getattr__" = some none) (xd_BadPlan : PySem.W.hasDictIn K c_BadPlan = true) (xv_BadPlan : PySem.W.subIn K (.ref c_BadPlan) (.ref c_BadPlan) = some true) (xw_BadPlan : PySem.W.subIn K (.ref c_BadPlan) (.ref c_SieveError) = some true)
    (xp_BadPlan : PySem.W.findIn K (.ref c_BadPlan) "__class__" = some (some (.builtin "object.__class__"))) (xq_BadPlan : PySem.W.specialIn K (.builtin "object.__class__") "__get__" = some (some (.builtin "getset_descriptor.__get__"))) (xr_BadPlan : PySem.W.takesIn K (.builtin "object.__class__") = some true) (xo_BadPlan : PySem.W.mroIn K c_BadPlan (.type "object") = some true)
    (g_LETTERS : PySem.W.nsIn K mainGlobals "LETTERS" = some (some (.str "abcdefghijklmnopqrstuvwxyz" t_LETTERS)))
    (g_FAR : PySem.W.nsIn K mainGlobals "FAR" = some (some (.int 1000000 t_FAR)))
    (g_LONGEST_NAME : PySem.W.nsIn K mainGlobals "LONGEST_NAME" = some (some (.int 8 t_LONGEST_NAME)))
    (g_DEEPEST : PySem.W.nsIn K mainGlobals "DEEPEST" = some (some (.int 8 t_DEEPEST)))
    (g_MOST_FORMULAS : PySem.W.nsIn K mainGlobals "MOST_FORMULAS" = some (some (.int 30 t_MOST_FORMULAS)))
    (g_LONGEST_STRING : PySem.W.nsIn K mainGlobals "LONGEST_STRING" = some (some (.int 12 t_LONGEST_STRING)))
    (g_GREATEST_BELOW : PySem.W.nsIn K mainGlobals "GREATEST_BELOW" = some (some (.int 1000 t_GREATEST_BELOW)))
    (g_MOST_HASHED : PySem.W.nsIn K mainGlobals "MOST_HASHED" = some (some (.int 2 t_MOST_HASHED)))
    (g_MOST_ASKED : PySem.W.nsIn K mainGlobals "MOST_ASKED" = some (some (.int 4 t_MOST_ASKED)))
    (g_MOST_SUMMED : PySem.W.nsIn K mainGlobals "MOST_SUMMED" = some (some (.int 2 t_MOST_SUMMED)))
    (z_ValueError : PySem.W.nsIn K mainGlobals "ValueError" = some none)
    (z_isinstance : PySem.W.nsIn K mainGlobals "isinstance" = some none)
    (z_all : PySem.W.nsIn K mainGlobals "all" = some none)
    (z_range : PySem.W.nsIn K mainGlobals "range" = some none)
    (z_int : PySem.W.nsIn K mainGlobals "int" = some none)
    (z_enumerate : PySem.W.nsIn K mainGlobals "enumerate" = some none)
    (z_tuple : PySem.W.nsIn K mainGlobals "tuple" = some none)
    (z_list : PySem.W.nsIn K mainGlobals "list" = some none)
    (z_str : PySem.W.nsIn K mainGlobals "str" = some none)
    (z_dict : PySem.W.nsIn K mainGlobals "dict" = some none)
    (z_len : PySem.W.nsIn K mainGlobals "len" = some none)
    (z_sorted : PySem.W.nsIn K mainGlobals "sorted" = some none)
    (z_bool : PySem.W.nsIn K mainGlobals "bool" = some none)
    (z_set : PySem.W.nsIn K mainGlobals "set" = some none)
    (e_gcd : PySem.W.nsIn K mainGlobals "gcd" = some (some (.builtin "math.gcd")))
    (a_RESERVED : PySem.W.nsIn K mainGlobals "RESERVED" = some (some (.ref g_RESERVED)))
    (l_RESERVED : K.lookup g_RESERVED = some ⟨.type "tuple", dd_RESERVED, .seq #[.str "row" t_RESERVED_0, .str "block" t_RESERVED_1, .str "hash" t_RESERVED_2, .str "not" t_RESERVED_3, .str "and" t_RESERVED_4, .str "or" t_RESERVED_5, .str "all" t_RESERVED_6, .str "none" t_RESERVED_7, .str "like" t_RESERVED_8] n_RESERVED, sl_RESERVED⟩) :
    ∃ fd : FuncData, (∀ (s : Shared) (v : Value), BindsTo s fd ⟨[v], []⟩ [("script", v)]) ∧ ∀ base : Heap, K.In base → base.Ns mainGlobals mg → FnOk l.prog w K mg base CX0 15 fa fd ["script"] (sp_law K) := by
  have e : fa = f30 := by
    have z := hfa.symm.trans (PySem.W.mg_of X G a30)
    injection z with z
    injection z
  let T : Txt K mg := {
    a_is_whole := f0
    d_is_whole := PySem.W.fnOf "is_whole" "is_whole" (defArgs s_is_whole) (defBody s_is_whole) (defScope s_is_whole) .none kV0 dc0 pm0 an0 cd0 ct0
    F_is_whole := fun_mk (st := s_is_whole) l0 c0 k0
    b_is_whole := (fun_mk (st := s_is_whole) l0 c0 k0).binds (ps := ["value"]) fun _ _ _ _ _ _ us hl => match us, hl with | [_], _ => rfl
    m_is_whole := PySem.W.mg_of X G a0
    a_is_between := f1
    d_is_between := PySem.W.fnOf "is_between" "is_between" (defArgs s_is_between) (defBody s_is_between) (defScope s_is_between) .none kV1 dc1 pm1 an1 cd1 ct1
    F_is_between := fun_mk (st := s_is_between) l1 c1 k1
    b_is_between := (fun_mk (st := s_is_between) l1 c1 k1).binds (ps := ["value", "low", "high"]) fun _ _ _ _ _ _ us hl => match us, hl with | [_, _, _], _ => rfl
    m_is_between := PySem.W.mg_of X G a1
    a_is_near := f2
    d_is_near := PySem.W.fnOf "is_near" "is_near" (defArgs s_is_near) (defBody s_is_near) (defScope s_is_near) .none kV2 dc2 pm2 an2 cd2 ct2
    F_is_near := fun_mk (st := s_is_near) l2 c2 k2
    b_is_near := (fun_mk (st := s_is_near) l2 c2 k2).binds (ps := ["value"]) fun _ _ _ _ _ _ us hl => match us, hl with | [_], _ => rfl
    m_is_near := PySem.W.mg_of X G a2
    a_is_row := f3
    d_is_row := PySem.W.fnOf "is_row" "is_row" (defArgs s_is_row) (defBody s_is_row) (defScope s_is_row) .none kV3 dc3 pm3 an3 cd3 ct3
    F_is_row := fun_mk (st := s_is_row) l3 c3 k3
    b_is_row := (fun_mk (st := s_is_row) l3 c3 k3).binds (ps := ["value"]) fun _ _ _ _ _ _ us hl => match us, hl with | [_], _ => rfl
    m_is_row := PySem.W.mg_of X G a3
    a_is_name := f4
    d_is_name := PySem.W.fnOf "is_name" "is_name" (defArgs s_is_name) (defBody s_is_name) (defScope s_is_name) .none kV4 dc4 pm4 an4 cd4 ct4
    F_is_name := fun_mk (st := s_is_name) l4 c4 k4
    b_is_name := (fun_mk (st := s_is_name) l4 c4 k4).binds (ps := ["value"]) fun _ _ _ _ _ _ us hl => match us, hl with | [_], _ => rfl
    m_is_name := PySem.W.mg_of X G a4
    a_BadPlan_init := f5
    d_BadPlan_init := PySem.W.fnOf "__init__" "BadPlan.__init__" (defArgs s_BadPlan_init) (defBody s_BadPlan_init) (defScope s_BadPlan_init) .none kV5 dc5 pm5 an5 cd5 ct5
    F_BadPlan_init := fun_mk (st := s_BadPlan_init) l5 c5 k5
    b_BadPlan_init := (fun_mk (st := s_BadPlan_init) l5 c5 k5).binds (ps := ["self", "part"]) fun _ _ _ _ _ _ us hl => match us, hl with | [_, _], _ => rfl
    a_is_fraction := f6
    d_is_fraction := PySem.W.fnOf "is_fraction" "is_fraction" (defArgs s_is_fraction) (defBody s_is_fraction) (defScope s_is_fraction) .none kV6 dc6 pm6 an6 cd6 ct6
    F_is_fraction := fun_mk (st := s_is_fraction) l6 c6 k6
    b_is_fraction := (fun_mk (st := s_is_fraction) l6 c6 k6).binds (ps := ["value"]) fun _ _ _ _ _ _ us hl => match us, hl with | [_], _ => rfl
    m_is_fraction := PySem.W.mg_of X G a6
    a_checked_plan := f7
    d_checked_plan := PySem.W.fnOf "checked_plan" "checked_plan" (defArgs s_checked_plan) (defBody s_checked_plan) (defScope s_checked_plan) .none kV7 dc7 pm7 an7 cd7 ct7
    F_checked_plan := fun_mk (st := s_checked_plan) l7 c7 k7
    b_checked_plan := (fun_mk (st := s_checked_plan) l7 c7 k7).binds (ps := ["columns", "plan"]) fun _ _ _ _ _ _ us hl => match us, hl with | [_, _], _ => rfl
    m_checked_plan := PySem.W.mg_of X G a7
    a_is_formed := f8
    d_is_formed := PySem.W.fnOf "is_formed" "is_formed" (defArgs s_is_formed) (defBody s_is_formed) (defScope s_is_formed) .none kV8 dc8 pm8 an8 cd8 ct8
    F_is_formed := fun_mk (st := s_is_formed) l8 c8 k8
    b_is_formed := (fun_mk (st := s_is_formed) l8 c8 k8).binds (ps := ["columns", "part"]) fun _ _ _ _ _ _ us hl => match us, hl with | [_, _], _ => rfl
    m_is_formed := PySem.W.mg_of X G a8
    a_is_test := f9
    d_is_test := PySem.W.fnOf "is_test" "is_test" (defArgs s_is_test) (defBody s_is_test) (defScope s_is_test) .none kV9 dc9 pm9 an9 cd9 ct9
    F_is_test := fun_mk (st := s_is_test) l9 c9 k9
    b_is_test := (fun_mk (st := s_is_test) l9 c9 k9).binds (ps := ["columns", "part"]) fun _ _ _ _ _ _ us hl => match us, hl with | [_, _], _ => rfl
    m_is_test := PySem.W.mg_of X G a9
    a_is_threshold := f10
    d_is_threshold := PySem.W.fnOf "is_threshold" "is_threshold" (defArgs s_is_threshold) (defBody s_is_threshold) (defScope s_is_threshold) .none kV10 dc10 pm10 an10 cd10 ct10
    F_is_threshold := fun_mk (st := s_is_threshold) l10 c10 k10
    b_is_threshold := (fun_mk (st := s_is_threshold) l10 c10 k10).binds (ps := ["value"]) fun _ _ _ _ _ _ us hl => match us, hl with | [_], _ => rfl
    m_is_threshold := PySem.W.mg_of X G a10
    a_is_ask := f11
    d_is_ask := PySem.W.fnOf "is_ask" "is_ask" (defArgs s_is_ask) (defBody s_is_ask) (defScope s_is_ask) .none kV11 dc11 pm11 an11 cd11 ct11
    F_is_ask := fun_mk (st := s_is_ask) l11 c11 k11
    b_is_ask := (fun_mk (st := s_is_ask) l11 c11 k11).binds (ps := ["columns", "part"]) fun _ _ _ _ _ _ us hl => match us, hl with | [_, _], _ => rfl
    m_is_ask := PySem.W.mg_of X G a11
    a_is_short := f12
    d_is_short := PySem.W.fnOf "is_short" "is_short" (defArgs s_is_short) (defBody s_is_short) (defScope s_is_short) .none kV12 dc12 pm12 an12 cd12 ct12
    F_is_short := fun_mk (st := s_is_short) l12 c12 k12
    b_is_short := (fun_mk (st := s_is_short) l12 c12 k12).binds (ps := ["value"]) fun _ _ _ _ _ _ us hl => match us, hl with | [_], _ => rfl
    m_is_short := PySem.W.mg_of X G a12
    a_within := f13
    d_within := PySem.W.fnOf "within" "within" (defArgs s_within) (defBody s_within) (defScope s_within) .none kV13 dc13 pm13 an13 cd13 ct13
    F_within := fun_mk (st := s_within) l13 c13 k13
    b_within := (fun_mk (st := s_within) l13 c13 k13).binds (ps := ["formula"]) fun _ _ _ _ _ _ us hl => match us, hl with | [_], _ => rfl
    m_within := PySem.W.mg_of X G a13
    a_Columns_init := f14
    d_Columns_init := PySem.W.fnOf "__init__" "Columns.__init__" (defArgs s_Columns_init) (defBody s_Columns_init) (defScope s_Columns_init) .none kV14 dc14 pm14 an14 cd14 ct14
    F_Columns_init := fun_mk (st := s_Columns_init) l14 c14 k14
    b_Columns_init := (fun_mk (st := s_Columns_init) l14 c14 k14).binds (ps := ["self", "hashed", "asked", "summed"]) fun _ _ _ _ _ _ us hl => match us, hl with | [_, _, _, _], _ => rfl
    a_Columns_asked := f15
    d_Columns_asked := PySem.W.fnOf "asked" "Columns.asked" (defArgs s_Columns_asked) (defBody s_Columns_asked) (defScope s_Columns_asked) .none kV15 dc15 pm15 an15 cd15 ct15
    F_Columns_asked := fun_mk (st := s_Columns_asked) l15 c15 k15
    b_Columns_asked := (fun_mk (st := s_Columns_asked) l15 c15 k15).binds (ps := ["self"]) fun _ _ _ _ _ _ us hl => match us, hl with | [_], _ => rfl
    a_wrong_part := f16
    d_wrong_part := PySem.W.fnOf "wrong_part" "wrong_part" (defArgs s_wrong_part) (defBody s_wrong_part) (defScope s_wrong_part) .none kV16 dc16 pm16 an16 cd16 ct16
    F_wrong_part := fun_mk (st := s_wrong_part) l16 c16 k16
    b_wrong_part := (fun_mk (st := s_wrong_part) l16 c16 k16).binds (ps := ["hashed", "asked", "summed"]) fun _ _ _ _ _ _ us hl => match us, hl with | [_, _, _], _ => rfl
    m_wrong_part := PySem.W.mg_of X G a16
    a_are_names := f17
    d_are_names := PySem.W.fnOf "are_names" "are_names" (defArgs s_are_names) (defBody s_are_names) (defScope s_are_names) .none kV17 dc17 pm17 an17 cd17 ct17
    F_are_names := fun_mk (st := s_are_names) l17 c17 k17
    b_are_names := (fun_mk (st := s_are_names) l17 c17 k17).binds (ps := ["row", "most"]) fun _ _ _ _ _ _ us hl => match us, hl with | [_, _], _ => rfl
    m_are_names := PySem.W.mg_of X G a17
    a_are_asked := f18
    d_are_asked := PySem.W.fnOf "are_asked" "are_asked" (defArgs s_are_asked) (defBody s_are_asked) (defScope s_are_asked) .none kV18 dc18 pm18 an18 cd18 ct18
    F_are_asked := fun_mk (st := s_are_asked) l18 c18 k18
    b_are_asked := (fun_mk (st := s_are_asked) l18 c18 k18).binds (ps := ["asked"]) fun _ _ _ _ _ _ us hl => match us, hl with | [_], _ => rfl
    m_are_asked := PySem.W.mg_of X G a18
    a__law_number := f19
    d__law_number := PySem.W.fnOf "_law_number" "_law_number" (defArgs s__law_number) (defBody s__law_number) (defScope s__law_number) .none kV19 dc19 pm19 an19 cd19 ct19
    F__law_number := fun_mk (st := s__law_number) l19 c19 k19
    b__law_number := (fun_mk (st := s__law_number) l19 c19 k19).binds (ps := ["script", "index"]) fun _ _ _ _ _ _ us hl => match us, hl with | [_, _], _ => rfl
    m__law_number := PySem.W.mg_of X G a19
    a__law_take := f20
    d__law_take := PySem.W.fnOf "_law_take" "_law_take" (defArgs s__law_take) (defBody s__law_take) (defScope s__law_take) .none kV20 dc20 pm20 an20 cd20 ct20
    F__law_take := fun_mk (st := s__law_take) l20 c20 k20
    b__law_take := (fun_mk (st := s__law_take) l20 c20 k20).binds (ps := ["draw", "many"]) fun _ _ _ _ _ _ us hl => match us, hl with | [_, _], _ => rfl
    m__law_take := PySem.W.mg_of X G a20
    a__law_pick := f21
    d__law_pick := PySem.W.fnOf "_law_pick" "_law_pick" (defArgs s__law_pick) (defBody s__law_pick) (defScope s__law_pick) .none kV21 dc21 pm21 an21 cd21 ct21
    F__law_pick := fun_mk (st := s__law_pick) l21 c21 k21
    b__law_pick := (fun_mk (st := s__law_pick) l21 c21 k21).binds (ps := ["draw", "items"]) fun _ _ _ _ _ _ us hl => match us, hl with | [_, _], _ => rfl
    m__law_pick := PySem.W.mg_of X G a21
    a__law_columns := f22
    d__law_columns := PySem.W.fnOf "_law_columns" "_law_columns" (defArgs s__law_columns) (defBody s__law_columns) (defScope s__law_columns) .none kV22 dc22 pm22 an22 cd22 ct22
    F__law_columns := fun_mk (st := s__law_columns) l22 c22 k22
    b__law_columns := (fun_mk (st := s__law_columns) l22 c22 k22).binds (ps := ["draw"]) fun _ _ _ _ _ _ us hl => match us, hl with | [_], _ => rfl
    m__law_columns := PySem.W.mg_of X G a22
    a__law_test := f23
    d__law_test := PySem.W.fnOf "_law_test" "_law_test" (defArgs s__law_test) (defBody s__law_test) (defScope s__law_test) .none kV23 dc23 pm23 an23 cd23 ct23
    F__law_test := fun_mk (st := s__law_test) l23 c23 k23
    b__law_test := (fun_mk (st := s__law_test) l23 c23 k23).binds (ps := ["draw", "columns"]) fun _ _ _ _ _ _ us hl => match us, hl with | [_, _], _ => rfl
    m__law_test := PySem.W.mg_of X G a23
    a__law_ask := f24
    d__law_ask := PySem.W.fnOf "_law_ask" "_law_ask" (defArgs s__law_ask) (defBody s__law_ask) (defScope s__law_ask) .none kV24 dc24 pm24 an24 cd24 ct24
    F__law_ask := fun_mk (st := s__law_ask) l24 c24 k24
    b__law_ask := (fun_mk (st := s__law_ask) l24 c24 k24).binds (ps := ["draw", "columns"]) fun _ _ _ _ _ _ us hl => match us, hl with | [_, _], _ => rfl
    m__law_ask := PySem.W.mg_of X G a24
    a__law_formula := f25
    d__law_formula := PySem.W.fnOf "_law_formula" "_law_formula" (defArgs s__law_formula) (defBody s__law_formula) (defScope s__law_formula) .none kV25 dc25 pm25 an25 cd25 ct25
    F__law_formula := fun_mk (st := s__law_formula) l25 c25 k25
    b__law_formula := (fun_mk (st := s__law_formula) l25 c25 k25).binds (ps := ["draw", "columns", "deep", "share"]) fun _ _ _ _ _ _ us hl => match us, hl with | [_, _, _, _], _ => rfl
    m__law_formula := PySem.W.mg_of X G a25
    a__law_refused := f26
    d__law_refused := PySem.W.fnOf "_law_refused" "_law_refused" (defArgs s__law_refused) (defBody s__law_refused) (defScope s__law_refused) .none kV26 dc26 pm26 an26 cd26 ct26
    F__law_refused := fun_mk (st := s__law_refused) l26 c26 k26
    b__law_refused := (fun_mk (st := s__law_refused) l26 c26 k26).binds (ps := ["columns", "plan"]) fun _ _ _ _ _ _ us hl => match us, hl with | [_, _], _ => rfl
    m__law_refused := PySem.W.mg_of X G a26
    a__law_spots := f27
    d__law_spots := PySem.W.fnOf "_law_spots" "_law_spots" (defArgs s__law_spots) (defBody s__law_spots) (defScope s__law_spots) .none kV27 dc27 pm27 an27 cd27 ct27
    F__law_spots := fun_mk (st := s__law_spots) l27 c27 k27
    b__law_spots := (fun_mk (st := s__law_spots) l27 c27 k27).binds (ps := ["plan"]) fun _ _ _ _ _ _ us hl => match us, hl with | [_], _ => rfl
    m__law_spots := PySem.W.mg_of X G a27
    a__law_put := f28
    d__law_put := PySem.W.fnOf "_law_put" "_law_put" (defArgs s__law_put) (defBody s__law_put) (defScope s__law_put) .none kV28 dc28 pm28 an28 cd28 ct28
    F__law_put := fun_mk (st := s__law_put) l28 c28 k28
    b__law_put := (fun_mk (st := s__law_put) l28 c28 k28).binds (ps := ["plan", "way", "part"]) fun _ _ _ _ _ _ us hl => match us, hl with | [_, _, _], _ => rfl
    m__law_put := PySem.W.mg_of X G a28
    a__law_bad := f29
    d__law_bad := PySem.W.fnOf "_law_bad" "_law_bad" (defArgs s__law_bad) (defBody s__law_bad) (defScope s__law_bad) .none kV29 dc29 pm29 an29 cd29 ct29
    F__law_bad := fun_mk (st := s__law_bad) l29 c29 k29
    b__law_bad := (fun_mk (st := s__law_bad) l29 c29 k29).binds (ps := ["draw", "columns"]) fun _ _ _ _ _ _ us hl => match us, hl with | [_, _], _ => rfl
    m__law_bad := PySem.W.mg_of X G a29
    a_law := f30
    d_law := PySem.W.fnOf "law" "law" (defArgs s_law) (defBody s_law) (defScope s_law) .none kV30 dc30 pm30 an30 cd30 ct30
    F_law := fun_mk (st := s_law) l30 c30 k30
    b_law := (fun_mk (st := s_law) l30 c30 k30).binds (ps := ["script"]) fun _ _ _ _ _ _ us hl => match us, hl with | [_], _ => rfl
    m_law := PySem.W.mg_of X G a30
    c_Columns := c_Columns
    m_Columns := PySem.W.mg_of X G ac_Columns
    c_SieveError := c_SieveError
    m_SieveError := PySem.W.mg_of X G ac_SieveError
    c_BadPlan := c_BadPlan
    m_BadPlan := PySem.W.mg_of X G ac_BadPlan
    cl_Columns := ⟨pg_Columns, hd_Columns, po_Columns, sa_Columns⟩
    mk_Columns := ⟨mk_Columns, a14, fn_Columns, kc_Columns⟩
    n_Columns_hashed := n_Columns_hashed
    n_Columns__asked := n_Columns__asked
    n_Columns_summed := n_Columns_summed
    o_Columns_asked := o_Columns_asked
    p_Columns_asked := ⟨pa_Columns_asked, pb_Columns_asked, pc_Columns_asked, ⟨_, pd_Columns_asked⟩⟩
    r_SieveError := ⟨ra_SieveError, rb_SieveError⟩
    i_SieveError := ri_SieveError
    x_BadPlan := ⟨⟨_, _, _, _, _, _, _, _, _, _, _, _, _, _, _, xl_BadPlan, xb_BadPlan⟩, xs_BadPlan, xx_BadPlan, xy_BadPlan, xc_BadPlan⟩
    xi_BadPlan := a5
    xt_BadPlan := xt_BadPlan
    xn_BadPlan := xn_BadPlan
    xf_BadPlan := ⟨xg_BadPlan, xh_BadPlan, xx_BadPlan, xd_BadPlan⟩
    xm_BadPlan := PySem.W.exm_ref xx_BadPlan xd_BadPlan xy_BadPlan xv_BadPlan
    xe_BadPlan := ⟨xg_BadPlan, xh_BadPlan, xx_BadPlan, xd_BadPlan, xp_BadPlan, xq_BadPlan, xr_BadPlan, xo_BadPlan⟩
    xk_BadPlan := kit_of_exm (PySem.W.exm_ref yb_SieveError yh_SieveError yt_SieveError xw_BadPlan)
    t_LETTERS := t_LETTERS
    m_LETTERS := PySem.W.mg_of X G g_LETTERS
    t_FAR := t_FAR
    m_FAR := PySem.W.mg_of X G g_FAR
    t_LONGEST_NAME := t_LONGEST_NAME
    m_LONGEST_NAME := PySem.W.mg_of X G g_LONGEST_NAME
    t_DEEPEST := t_DEEPEST
    m_DEEPEST := PySem.W.mg_of X G g_DEEPEST
    t_MOST_FORMULAS := t_MOST_FORMULAS
    m_MOST_FORMULAS := PySem.W.mg_of X G g_MOST_FORMULAS
    t_LONGEST_STRING := t_LONGEST_STRING
    m_LONGEST_STRING := PySem.W.mg_of X G g_LONGEST_STRING
    t_GREATEST_BELOW := t_GREATEST_BELOW
    m_GREATEST_BELOW := PySem.W.mg_of X G g_GREATEST_BELOW
    t_MOST_HASHED := t_MOST_HASHED
    m_MOST_HASHED := PySem.W.mg_of X G g_MOST_HASHED
    t_MOST_ASKED := t_MOST_ASKED
    m_MOST_ASKED := PySem.W.mg_of X G g_MOST_ASKED
    t_MOST_SUMMED := t_MOST_SUMMED
    m_MOST_SUMMED := PySem.W.mg_of X G g_MOST_SUMMED
    z_ValueError := PySem.W.mg_none_of X G z_ValueError
    z_isinstance := PySem.W.mg_none_of X G z_isinstance
    z_all := PySem.W.mg_none_of X G z_all
    z_range := PySem.W.mg_none_of X G z_range
    z_int := PySem.W.mg_none_of X G z_int
    z_enumerate := PySem.W.mg_none_of X G z_enumerate
    z_tuple := PySem.W.mg_none_of X G z_tuple
    z_list := PySem.W.mg_none_of X G z_list
    z_str := PySem.W.mg_none_of X G z_str
    z_dict := PySem.W.mg_none_of X G z_dict
    z_len := PySem.W.mg_none_of X G z_len
    z_sorted := PySem.W.mg_none_of X G z_sorted
    z_bool := PySem.W.mg_none_of X G z_bool
    z_set := PySem.W.mg_none_of X G z_set
    m_gcd := PySem.W.mg_of X G e_gcd
    a_RESERVED := g_RESERVED
    m_RESERVED := PySem.W.mg_of X G a_RESERVED
    q_RESERVED := fun H => .inr ⟨_, _, _, l_RESERVED, rfl, rfl, (by show 9 ≤ sizeLine; decide), (.cons ⟨_, rfl⟩ (.cons ⟨_, rfl⟩ (.cons ⟨_, rfl⟩ (.cons ⟨_, rfl⟩ (.cons ⟨_, rfl⟩ (.cons ⟨_, rfl⟩ (.cons ⟨_, rfl⟩ (.cons ⟨_, rfl⟩ (.cons ⟨_, rfl⟩ .nil)))))))))⟩ }
  rw [e]
  exact ⟨T.d_law, fun s v => .of_eq rfl, fun base _ _ => ok_law (P := l.prog) (w := w) (base := base) T⟩
theorem walk {l : PySem.W.OpenLaw} {q : Program} {loose : List Str} {XP : (Str → Option Value) → Heap → Prop} {YP : World → Heap → Prop} {d : DefRec} {K : Params → PySem.W.Frag} (hn : l.most = some 63) (hdf : d.params.defaults = [])
    (hY : ∀ (w : World) (h : Heap), YP w h → (K w.params).In h)
    (F : ∀ (w : World) (mg : Str → Option Value) (fa : Addr) (h : Heap), (K w.params).In h → h.Ns mainGlobals mg → mg d.name = some (.ref fa) →
      ∃ fd : FuncData, (∀ (s : Shared) (u : Value), BindsTo s fd ⟨[u], []⟩ [("script", u)]) ∧ ∀ base : Heap, (K w.params).In base → base.Ns mainGlobals mg → FnOk l.prog w (K w.params) mg base CX0 15 fa fd ["script"] (sp_law (K w.params))) :
    PySem.W.WalkO q loose XP YP l.row.toRowW d [] (fun f vs => PySem.call f vs) :=
  L2.walk_of (n := 63) (k := 15) (x := "script") (CX := fun _ => CX0) (sp := fun w => sp_law (K w.params)) hn (by decide) hdf ⟨rfl, by decide, by decide⟩ hY F (fun _ _ a ns hl hO hS => ⟨a, ns, rfl, SqF.only hO hS, hl, fun _ => rfl⟩) fun _ _ _ _ _ z => z
end My
open PySem PySem.W PyProof.Rows in
set_option maxRecDepth 100000 in
set_option maxHeartbeats 0 in
theorem PySem.Challenge.cw_evensieve_k02_plans_holds : PySem.Challenge.rw_evensieve_k02_plans.Holds := by
  w_on; o_law; k_head; (case hw => w_witness2)
  k_fill
  refine My.walk (l := PySem.Challenge.rw_evensieve_k02_plans) rfl rfl (fun w h Y => PySem.W.kIn_of Y) ?F
  case F =>
    intro w mg fa h KX G hmg
    refine' My.all_mk KX G hmg ?ac_Columns ?ac_SieveError ?ac_BadPlan ?a0 ?l0 ?c0 ?k0 ?a1 ?l1 ?c1 ?k1 ?a2 ?l2 ?c2 ?k2 ?a3 ?l3 ?c3 ?k3 ?a4 ?l4 ?c4 ?k4 ?a5 ?l5 ?c5 ?k5 ?a6 ?l6 ?c6 ?k6 ?a7 ?l7 ?c7 ?k7 ?a8 ?l8 ?c8 ?k8 ?a9 ?l9 ?c9 ?k9 ?a10 ?l10 ?c10 ?k10 ?a11 ?l11 ?c11 ?k11 ?a12 ?l12 ?c12 ?k12 ?a13 ?l13 ?c13 ?k13 ?a14 ?l14 ?c14 ?k14 ?pa_Columns_asked ?pb_Columns_asked ?pc_Columns_asked ?pd_Columns_asked ?l15 ?c15 ?k15 ?a16 ?l16 ?c16 ?k16 ?a17 ?l17 ?c17 ?k17 ?a18 ?l18 ?c18 ?k18 ?a19 ?l19 ?c19 ?k19 ?a20 ?l20 ?c20 ?k20 ?a21 ?l21 ?c21 ?k21 ?a22 ?l22 ?c22 ?k22 ?a23 ?l23 ?c23 ?k23 ?a24 ?l24 ?c24 ?k24 ?a25 ?l25 ?c25 ?k25 ?a26 ?l26 ?c26 ?k26 ?a27 ?l27 ?c27 ?k27 ?a28 ?l28 ?c28 ?k28 ?a29 ?l29 ?c29 ?k29 ?a30 ?l30 ?c30 ?k30 ?pg_Columns ?hd_Columns ?po_Columns ?sa_Columns ?mk_Columns ?kc_Columns ?fn_Columns ?n_Columns_hashed ?n_Columns__asked ?n_Columns_summed ?ra_SieveError ?rb_SieveError ?ri_SieveError ?yb_SieveError ?yh_SieveError ?yt_SieveError ?xl_BadPlan ?xb_BadPlan ?xs_BadPlan ?xx_BadPlan ?xy_BadPlan ?xc_BadPlan ?xt_BadPlan ?xn_BadPlan ?xg_BadPlan ?xh_BadPlan ?xd_BadPlan ?xv_BadPlan ?xw_BadPlan ?xp_BadPlan ?xq_BadPlan ?xr_BadPlan ?xo_BadPlan ?g_LETTERS ?g_FAR ?g_LONGEST_NAME ?g_DEEPEST ?g_MOST_FORMULAS ?g_LONGEST_STRING ?g_GREATEST_BELOW ?g_MOST_HASHED ?g_MOST_ASKED ?g_MOST_SUMMED ?z_ValueError ?z_isinstance ?z_all ?z_range ?z_int ?z_enumerate ?z_tuple ?z_list ?z_str ?z_dict ?z_len ?z_sorted ?z_bool ?z_set ?e_gcd ?a_RESERVED ?l_RESERVED
    (case ac_Columns => k_is)
    (case ac_SieveError => k_is)
    (case ac_BadPlan => k_is)
    (case a0 => k_is)
    (case l0 => k_is)
    (case c0 => k_is)
    (case k0 => k_is)
    (case a1 => k_is)
    (case l1 => k_is)
    (case c1 => k_is)
    (case k1 => k_is)
    (case a2 => k_is)
    (case l2 => k_is)
    (case c2 => k_is)
    (case k2 => k_is)
    (case a3 => k_is)
    (case l3 => k_is)
    (case c3 => k_is)
    (case k3 => k_is)
    (case a4 => k_is)
    (case l4 => k_is)
    (case c4 => k_is)
    (case k4 => k_is)
    (case a5 => k_is)
    (case l5 => k_is)
    (case c5 => k_is)
    (case k5 => k_is)
    (case a6 => k_is)
    (case l6 => k_is)
    (case c6 => k_is)
    (case k6 => k_is)
    (case a7 => k_is)
    (case l7 => k_is)
    (case c7 => k_is)
    (case k7 => k_is)
    (case a8 => k_is)
    (case l8 => k_is)
    (case c8 => k_is)
    (case k8 => k_is)
    (case a9 => k_is)
    (case l9 => k_is)
    (case c9 => k_is)
    (case k9 => k_is)
    (case a10 => k_is)
    (case l10 => k_is)
    (case c10 => k_is)
    (case k10 => k_is)
    (case a11 => k_is)
    (case l11 => k_is)
    (case c11 => k_is)
    (case k11 => k_is)
    (case a12 => k_is)
    (case l12 => k_is)
    (case c12 => k_is)
    (case k12 => k_is)
    (case a13 => k_is)
    (case l13 => k_is)
    (case c13 => k_is)
    (case k13 => k_is)
    (case a14 => k_is)
    (case l14 => k_is)
    (case c14 => k_is)
    (case k14 => k_is)
    (case pa_Columns_asked => k_is)
    (case pb_Columns_asked => k_is)
    (case pc_Columns_asked => k_is)
    (case pd_Columns_asked => k_is)
    (case l15 => k_is)
    (case c15 => k_is)
    (case k15 => k_is)
    (case a16 => k_is)
    (case l16 => k_is)
    (case c16 => k_is)
    (case k16 => k_is)
    (case a17 => k_is)
    (case l17 => k_is)
    (case c17 => k_is)
    (case k17 => k_is)
    (case a18 => k_is)
    (case l18 => k_is)
    (case c18 => k_is)
    (case k18 => k_is)
    (case a19 => k_is)
    (case l19 => k_is)
    (case c19 => k_is)
    (case k19 => k_is)
    (case a20 => k_is)
    (case l20 => k_is)
    (case c20 => k_is)
    (case k20 => k_is)
    (case a21 => k_is)
    (case l21 => k_is)
    (case c21 => k_is)
    (case k21 => k_is)
    (case a22 => k_is)
    (case l22 => k_is)
    (case c22 => k_is)
    (case k22 => k_is)
    (case a23 => k_is)
    (case l23 => k_is)
    (case c23 => k_is)
    (case k23 => k_is)
    (case a24 => k_is)
    (case l24 => k_is)
    (case c24 => k_is)
    (case k24 => k_is)
    (case a25 => k_is)
    (case l25 => k_is)
    (case c25 => k_is)
    (case k25 => k_is)
    (case a26 => k_is)
    (case l26 => k_is)
    (case c26 => k_is)
    (case k26 => k_is)
    (case a27 => k_is)
    (case l27 => k_is)
    (case c27 => k_is)
    (case k27 => k_is)
    (case a28 => k_is)
    (case l28 => k_is)
    (case c28 => k_is)
    (case k28 => k_is)
    (case a29 => k_is)
    (case l29 => k_is)
    (case c29 => k_is)
    (case k29 => k_is)
    (case a30 => k_is)
    (case l30 => k_is)
    (case c30 => k_is)
    (case k30 => k_is)
    (case pg_Columns => k_is)
    (case hd_Columns => k_is)
    (case po_Columns => k_is)
    (case sa_Columns => k_is)
    (case mk_Columns => k_is)
    (case kc_Columns => k_is)
    (case fn_Columns => k_is)
    (case n_Columns_hashed => k_is)
    (case n_Columns__asked => k_is)
    (case n_Columns_summed => k_is)
    (case ra_SieveError => k_is)
    (case rb_SieveError => k_is)
    (case ri_SieveError => k_is)
    (case yb_SieveError => k_is)
    (case yh_SieveError => k_is)
    (case yt_SieveError => k_is)
    (case xl_BadPlan => k_is)
    (case xb_BadPlan => decide +kernel)
    (case xs_BadPlan => k_is)
    (case xx_BadPlan => k_is)
    (case xy_BadPlan => k_is)
    (case xc_BadPlan => k_is)
    (case xt_BadPlan => k_is)
    (case xn_BadPlan => k_is)
    (case xg_BadPlan => k_is)
    (case xh_BadPlan => k_is)
    (case xd_BadPlan => k_is)
    (case xv_BadPlan => k_is)
    (case xw_BadPlan => k_is)
    (case xp_BadPlan => k_is)
    (case xq_BadPlan => k_is)
    (case xr_BadPlan => k_is)
    (case xo_BadPlan => k_is)
    (case g_LETTERS => k_is)
    (case g_FAR => k_is)
    (case g_LONGEST_NAME => k_is)
    (case g_DEEPEST => k_is)
    (case g_MOST_FORMULAS => k_is)
    (case g_LONGEST_STRING => k_is)
    (case g_GREATEST_BELOW => k_is)
    (case g_MOST_HASHED => k_is)
    (case g_MOST_ASKED => k_is)
    (case g_MOST_SUMMED => k_is)
    (case z_ValueError => k_is)
    (case z_isinstance => k_is)
    (case z_all => k_is)
    (case z_range => k_is)
    (case z_int => k_is)
    (case z_enumerate => k_is)
    (case z_tuple => k_is)
    (case z_list => k_is)
    (case z_str => k_is)
    (case z_dict => k_is)
    (case z_len => k_is)
    (case z_sorted => k_is)
    (case z_bool => k_is)
    (case z_set => k_is)
    (case e_gcd => k_is)
    (case a_RESERVED => k_is)
    (case l_RESERVED => k_is)
