import PyProof.Rows.All
import Wide.All
import OpenK.AllK
import Wide.FinOn
import HandS.ForMost
import HandS.Wide
import HandS.Gcd
import HandS.IsInst
import PySem.Challenge.RW_evensieve_k62_whole_fractions
set_option Elab.async false
set_option linter.all false
set_option maxRecDepth 100000
set_option maxHeartbeats 4000000
namespace My
open PySem L2 PySem.Spec PyProof.Rows
/-! ### rules of my own: a list's item read for `draw[1] += 1`; an item of a list or a tuple; a quotient by any great number -/
theorem get_list {X : Cx} : PGet X (rIxL X.K) := by
  intro pins s σ H o i ov iv Q I ro ri want
  obtain ⟨l, items, at_, got, eo, ei, seq, place, end_⟩ := want
  subst eo ei
  cases ro
  obtain ⟨tok, rfl⟩ := ri
  obtain ⟨own, rel, plain, _⟩ := I.list seq
  obtain ⟨k, ix, gk, kl, lo, up⟩ := atI_get place
  obtain ⟨u, gu, ru⟩ := rel.get gk
  have len := rel.length
  have far := line63
  have done_ : EP X pins σ Q u s := ⟨got, H, I, ru, end_⟩
  rcases Int.lt_or_le at_ 0 with neg | pos
  · have ek : (at_ + (own.toArray.size : Int)).toNat = k := by
      rw [seqIndex_neg neg lo] at ix
      rw [List.size_toArray, ← len]
      exact Option.some.inj ix
    exact wpAny_getItem_list_neg plain.isList neg (by rw [List.size_toArray] <;> omega) (by omega) (by rw [ek]; simpa using gu) done_
  · have ek : at_.toNat = k := by
      rw [seqIndex_of pos up] at ix
      exact Option.some.inj ix
    exact wpAny_getItem_list plain.isList pos (by omega) (by rw [ek]; simpa using gu) done_
theorem ix_lt {X : Cx} : IxR X (fun x y H Q => rIxL X.K x y H Q ∨ rIxT X.K x y H Q) := ix_list.or ix_tup
theorem seq_cut {t u : TS} {D : Ends} {σ : L2.St} {H : Hp} (R : L2.St → Hp → Prop) (h2 : ∀ σ' H', R σ' H' → u D σ' H') (h1 : (∀ σ' H', R σ' H' → u D σ' H') → t { D with nx := u D } σ H) : tSeq t u D σ H := h1 h2
theorem eqv_nil_ints (ns : List Int) (h : ns ≠ []) : PyData.eqv (.list (ns.map PyData.int)) (.list []) = false := by
  cases ns with
  | nil => exact absurd rfl h
  | cons n r => rfl

def CDivA (_ j : Int) : Prop := j ≠ 0 ∧ j.natAbs.log2 < 9000
theorem op_fdivA {X : Cx} : OpR X (binaryOp .FloorDiv) (rI CDivA fun i j => .int (i.fdiv j)) := opI fun i j _ _ _ _ _ hc q =>
  floordiv_int hc.1 q (.inl (PyProof.noPylong_of_log2 hc.2))
theorem hu64 {A : Around} {k : Nat} (hr : Room k A) : A.units + 64 < cLine := by
  have := hr.un
  omega
theorem divA_small {i j : Int} (h : j ≠ 0) (h1 : j.natAbs < 4294967296) : CDivA i j := ⟨h, Nat.lt_trans (PySem.Flt.log2_lt_of (k := 32) (by decide) (by simpa using h1)) (by decide)⟩
/-! ### the text by places -/
def top (i : Nat) : Stmt := PySem.Challenge.pw_evensieve_k62_whole_fractions.main.body.getD i (.Pass ⟨0, 0, 0, 0⟩)
abbrev s_is_whole : Stmt := top 2
theorem sc_is_whole : FnScope ["value"] ["value"] (defScope s_is_whole) := ⟨rfl, rfl, rfl, by decide +kernel, rfl, by decide +kernel, by decide +kernel⟩
abbrev s_lowest : Stmt := top 6
theorem sc_lowest : FnScope ["above", "below", "shared"] ["above", "below"] (defScope s_lowest) := ⟨rfl, rfl, rfl, by decide +kernel, rfl, by decide +kernel, by decide +kernel⟩
abbrev s_plus : Stmt := top 7
theorem sc_plus : FnScope ["one", "other"] ["one", "other"] (defScope s_plus) := ⟨rfl, rfl, rfl, by decide +kernel, rfl, by decide +kernel, by decide +kernel⟩
abbrev s_minus : Stmt := top 8
theorem sc_minus : FnScope ["one", "other"] ["one", "other"] (defScope s_minus) := ⟨rfl, rfl, rfl, by decide +kernel, rfl, by decide +kernel, by decide +kernel⟩
abbrev s_times : Stmt := top 9
theorem sc_times : FnScope ["one", "other"] ["one", "other"] (defScope s_times) := ⟨rfl, rfl, rfl, by decide +kernel, rfl, by decide +kernel, by decide +kernel⟩
abbrev s_over : Stmt := top 10
theorem sc_over : FnScope ["one", "other"] ["one", "other"] (defScope s_over) := ⟨rfl, rfl, rfl, by decide +kernel, rfl, by decide +kernel, by decide +kernel⟩
abbrev s_is_less : Stmt := top 11
theorem sc_is_less : FnScope ["one", "other"] ["one", "other"] (defScope s_is_less) := ⟨rfl, rfl, rfl, by decide +kernel, rfl, by decide +kernel, by decide +kernel⟩
abbrev s_total : Stmt := top 12
theorem sc_total : FnScope ["rows", "told", "row"] ["rows"] (defScope s_total) := ⟨rfl, rfl, rfl, by decide +kernel, rfl, by decide +kernel, by decide +kernel⟩
abbrev s_product_of : Stmt := top 13
theorem sc_product_of : FnScope ["rows", "told", "row"] ["rows"] (defScope s_product_of) := ⟨rfl, rfl, rfl, by decide +kernel, rfl, by decide +kernel, by decide +kernel⟩
abbrev s_is_fraction : Stmt := top 14
theorem sc_is_fraction : FnScope ["value", "above", "below"] ["value"] (defScope s_is_fraction) := ⟨rfl, rfl, rfl, by decide +kernel, rfl, by decide +kernel, by decide +kernel⟩
abbrev s__law_number : Stmt := top 16
theorem sc__law_number : FnScope ["script", "index", "cell", "turn", "rest", "step", "blend"] ["script", "index"] (defScope s__law_number) := ⟨rfl, rfl, rfl, by decide +kernel, rfl, by decide +kernel, by decide +kernel⟩
abbrev s__law_take : Stmt := top 17
theorem sc__law_take : FnScope ["draw", "many"] ["draw", "many"] (defScope s__law_take) := ⟨rfl, rfl, rfl, by decide +kernel, rfl, by decide +kernel, by decide +kernel⟩
abbrev s__law_pick : Stmt := top 18
theorem sc__law_pick : FnScope ["draw", "items"] ["draw", "items"] (defScope s__law_pick) := ⟨rfl, rfl, rfl, by decide +kernel, rfl, by decide +kernel, by decide +kernel⟩
abbrev s__law_lowest : Stmt := top 19
theorem sc__law_lowest : FnScope ["above", "below", "one", "other", "turn"] ["above", "below"] (defScope s__law_lowest) := ⟨rfl, rfl, rfl, by decide +kernel, rfl, by decide +kernel, by decide +kernel⟩
abbrev s_law : Stmt := top 20
theorem sc_law : FnScope ["script", "draw", "rows", "turn", "above", "below", "one", "other", "sums", "products", "value"] ["script"] (defScope s_law) := ⟨rfl, rfl, rfl, by decide +kernel, rfl, by decide +kernel, by decide +kernel⟩
structure Txt (K : PySem.W.Frag) (mg : Str → Option Value) where
  a_is_whole : Addr
  d_is_whole : FuncData
  F_is_whole : Fun K "is_whole" "is_whole" s_is_whole a_is_whole d_is_whole
  b_is_whole : Binds K d_is_whole ["value"] []
  m_is_whole : mg "is_whole" = some (.ref a_is_whole)
  a_lowest : Addr
  d_lowest : FuncData
  F_lowest : Fun K "lowest" "lowest" s_lowest a_lowest d_lowest
  b_lowest : Binds K d_lowest ["above", "below"] []
  m_lowest : mg "lowest" = some (.ref a_lowest)
  a_plus : Addr
  d_plus : FuncData
  F_plus : Fun K "plus" "plus" s_plus a_plus d_plus
  b_plus : Binds K d_plus ["one", "other"] []
  m_plus : mg "plus" = some (.ref a_plus)
  a_minus : Addr
  d_minus : FuncData
  F_minus : Fun K "minus" "minus" s_minus a_minus d_minus
  b_minus : Binds K d_minus ["one", "other"] []
  m_minus : mg "minus" = some (.ref a_minus)
  a_times : Addr
  d_times : FuncData
  F_times : Fun K "times" "times" s_times a_times d_times
  b_times : Binds K d_times ["one", "other"] []
  m_times : mg "times" = some (.ref a_times)
  a_over : Addr
  d_over : FuncData
  F_over : Fun K "over" "over" s_over a_over d_over
  b_over : Binds K d_over ["one", "other"] []
  m_over : mg "over" = some (.ref a_over)
  a_is_less : Addr
  d_is_less : FuncData
  F_is_less : Fun K "is_less" "is_less" s_is_less a_is_less d_is_less
  b_is_less : Binds K d_is_less ["one", "other"] []
  m_is_less : mg "is_less" = some (.ref a_is_less)
  a_total : Addr
  d_total : FuncData
  F_total : Fun K "total" "total" s_total a_total d_total
  b_total : Binds K d_total ["rows"] []
  m_total : mg "total" = some (.ref a_total)
  a_product_of : Addr
  d_product_of : FuncData
  F_product_of : Fun K "product_of" "product_of" s_product_of a_product_of d_product_of
  b_product_of : Binds K d_product_of ["rows"] []
  m_product_of : mg "product_of" = some (.ref a_product_of)
  a_is_fraction : Addr
  d_is_fraction : FuncData
  F_is_fraction : Fun K "is_fraction" "is_fraction" s_is_fraction a_is_fraction d_is_fraction
  b_is_fraction : Binds K d_is_fraction ["value"] []
  m_is_fraction : mg "is_fraction" = some (.ref a_is_fraction)
  a__law_number : Addr
  d__law_number : FuncData
  F__law_number : Fun K "_law_number" "_law_number" s__law_number a__law_number d__law_number
  b__law_number : Binds K d__law_number ["script", "index"] []
  m__law_number : mg "_law_number" = some (.ref a__law_number)
  a__law_take : Addr
  d__law_take : FuncData
  F__law_take : Fun K "_law_take" "_law_take" s__law_take a__law_take d__law_take
  b__law_take : Binds K d__law_take ["draw", "many"] []
  m__law_take : mg "_law_take" = some (.ref a__law_take)
  a__law_pick : Addr
  d__law_pick : FuncData
  F__law_pick : Fun K "_law_pick" "_law_pick" s__law_pick a__law_pick d__law_pick
  b__law_pick : Binds K d__law_pick ["draw", "items"] []
  m__law_pick : mg "_law_pick" = some (.ref a__law_pick)
  a__law_lowest : Addr
  d__law_lowest : FuncData
  F__law_lowest : Fun K "_law_lowest" "_law_lowest" s__law_lowest a__law_lowest d__law_lowest
  b__law_lowest : Binds K d__law_lowest ["above", "below"] []
  m__law_lowest : mg "_law_lowest" = some (.ref a__law_lowest)
  a_law : Addr
  d_law : FuncData
  F_law : Fun K "law" "law" s_law a_law d_law
  b_law : Binds K d_law ["script"] []
  m_law : mg "law" = some (.ref a_law)
  z_range : mg "range" = none
  z_int : mg "int" = none
  z_isinstance : mg "isinstance" = none
  z_abs : mg "abs" = none
  z_any : mg "any" = none
  z_bool : mg "bool" = none
  z_tuple : mg "tuple" = none
  z_len : mg "len" = none
  m_gcd : mg "gcd" = some (.builtin "math.gcd")
  a_ZERO : Addr
  m_ZERO : mg "ZERO" = some (.ref a_ZERO)
  q_ZERO : ∀ H : Hp, SqT K H a_ZERO [.int 0, .int 1]
  a_ONE : Addr
  m_ONE : mg "ONE" = some (.ref a_ONE)
  q_ONE : ∀ H : Hp, SqT K H a_ONE [.int 1, .int 1]
/-! ### drawn numbers -/
/-- the script: a list that is locked, or one of the module's own -/
def SqF (K : PySem.W.Frag) (H : Hp) (a : Addr) (xs : List V) : Prop := (∃ o, H a = some (.frz o (.lst xs))) ∨ ∀ H' : Hp, SqL K H' a xs
theorem SqF.sq {K : PySem.W.Frag} {H : Hp} {a : Addr} {xs : List V} (h : SqF K H a xs) : SqL K H a xs := by
  rcases h with ⟨o, h⟩ | h
  · exact .inl (.inr ⟨o, h⟩)
  · exact h H
theorem SqF.same {K : PySem.W.Frag} {H H' : Hp} {a : Addr} {xs : List V} (h : SqF K H a xs) (e : Same H H') : SqF K H' a xs := by
  rcases h with ⟨o, h⟩ | h
  · exact .inl ⟨o, e _ _ h⟩
  · exact .inr h
theorem SqF.only {K : PySem.W.Frag} {H : Hp} {a : Addr} {xs : List V} (hO : Only H) (h : SqL K H a xs) : SqF K H a xs := by
  rcases h with (h | ⟨o, h⟩) | h
  · rcases hO a with z | ⟨o, ys, z⟩
    · rw [h] at z
      cases z
    · rw [h] at z
      cases z
  · exact .inl ⟨o, h⟩
  · exact .inr fun _ => .inr h
/-- at d stands [the script, how many were drawn] -/
def Drw (K : PySem.W.Frag) (H : Hp) (d : Addr) : Prop := ∃ (a : Addr) (ns : List Int) (i : Int), H d = some (.lst [.ref a, .int i]) ∧ SqF K H a (ns.map V.int) ∧ ns.length ≤ 63
/-- all that was tracked but what stands at d is as it was -/
def But (d : Addr) (H H' : Hp) : Prop := ∀ b o, b ≠ d → H b = some o → H' b = some o
theorem But.refl (d : Addr) (H : Hp) : But d H H := fun _ _ _ h => h
theorem But.trans {d : Addr} {H H1 H2 : Hp} (a : But d H H1) (b : But d H1 H2) : But d H H2 := fun c o n h => b c o n (a c o n h)
theorem But.same {d : Addr} {H H1 H2 : Hp} (a : But d H H1) (b : Same H1 H2) : But d H H2 := fun c o n h => b c o (a c o n h)
theorem Same.but {d : Addr} {H H1 : Hp} (a : Same H H1) : But d H H1 := fun c o _ h => a c o h
theorem same_new {H : Hp} {p : Addr} (h : H p = none) (o : HO) : Same H (upd H p o) := fun b u q => by rw [upd_ne (ne_of_none q h)]; exact q
theorem Drw.same {K : PySem.W.Frag} {H H' : Hp} {d : Addr} (h : Drw K H d) (e : Same H H') : Drw K H' d := by
  obtain ⟨a, ns, i, h1, h2, h3⟩ := h
  exact ⟨a, ns, i, e _ _ h1, h2.same e, h3⟩
/-- a change of a list leaves the script -/
theorem SqF.but {K : PySem.W.Frag} {H H' : Hp} {d a : Addr} {xs ys : List V} (h : SqF K H a xs) (hd : H d = some (.lst ys)) (e : But d H H') : SqF K H' a xs := by
  rcases h with ⟨o, h⟩ | h
  · exact .inl ⟨o, e _ _ (ne_of h hd (by intro z; cases z)) h⟩
  · exact .inr h
theorem Drw.but {K : PySem.W.Frag} {H H' : Hp} {d p : Addr} {ys : List V} (h : Drw K H d) (hp : H p = some (.lst ys)) (n : d ≠ p) (e : But p H H') : Drw K H' d := by
  obtain ⟨a, ns, i, h1, h2, h3⟩ := h
  exact ⟨a, ns, i, e _ _ n h1, h2.but hp e, h3⟩
def sp_number (K : PySem.W.Frag) : Sp := fun vs H Q _ => ∃ (a : Addr) (ns : List Int) (i : Int), vs = [.ref a, .int i] ∧ SqL K H a (ns.map V.int) ∧ ns.length ≤ 63 ∧ ∀ (n : Int) (H' : Hp), Same H H' → Q (.int n) H'
def sp_take (K : PySem.W.Frag) : Sp := fun vs H Q _ => ∃ (d : Addr) (m : Int), vs = [.ref d, .int m] ∧ Drw K H d ∧ 0 < m ∧ ∀ (r : Int) (H' : Hp), 0 ≤ r → r < m → Drw K H' d → But d H H' → Q (.int r) H'
/-- a list that is not the draw's, or a tuple -/
def SqD (K : PySem.W.Frag) (d : Addr) (H : Hp) (p : Addr) (xs : List V) : Prop := (SqL K H p xs ∧ p ≠ d) ∨ SqT K H p xs
def sp_pick (K : PySem.W.Frag) : Sp := fun vs H Q _ => ∃ (d p : Addr) (xs : List V), vs = [.ref d, .ref p] ∧ Drw K H d ∧ SqD K d H p xs ∧ 0 < xs.length ∧ ∀ (j : Nat) (x : V) (H' : Hp), xs[j]? = some x → Drw K H' d → But d H H' → Q x H'
theorem But.seq {K : PySem.W.Frag} {H H' : Hp} {d a : Addr} {xs : List V} (e : But d H H') (n : a ≠ d) (h : SqL K H a xs) : SqL K H' a xs := by
  rcases h with (h | ⟨o, h⟩) | h
  · exact .inl (.inl (e _ _ n h))
  · exact .inl (.inr ⟨o, e _ _ n h⟩)
  · exact .inr h
theorem But.tup {K : PySem.W.Frag} {H H' : Hp} {d a : Addr} {xs ys : List V} (e : But d H H') (hd : H d = some (.lst ys)) (h : SqT K H a xs) : SqT K H' a xs := by
  rcases h with (h | ⟨o, h⟩) | h
  · exact .inl (.inl (e _ _ (ne_of h hd (by intro z; cases z)) h))
  · exact .inl (.inr ⟨o, e _ _ (ne_of h hd (by intro z; cases z)) h⟩)
  · exact .inr h
theorem dp_ints {K : PySem.W.Frag} {H : Hp} : ∀ ns : List Int, DpAll K H (ns.map V.int) (ns.map PyData.int)
  | [] => .nil
  | n :: r => .cons (.int n) (dp_ints r)


/-! ### fractions: the mathematics -/
def gq (a b : Int) : Int := ((Nat.gcd a.natAbs b.natAbs : Nat) : Int)
def sg (a b : Int) : Int := if b < 0 then -gq a b else gq a b
def low (a b : Int) : Int × Int := (a.fdiv (sg a b), b.fdiv (sg a b))
theorem gq_pos {a b : Int} (h : b ≠ 0) : 0 < gq a b := by
  have : 0 < Nat.gcd a.natAbs b.natAbs := Nat.gcd_pos_of_pos_right _ (by omega)
  unfold gq
  omega
theorem sg_ne {a b : Int} (h : b ≠ 0) : sg a b ≠ 0 := by
  have := gq_pos (a := a) h
  unfold sg
  split <;> omega
theorem gq_le {a b : Int} (h : b ≠ 0) : (gq a b).natAbs ≤ b.natAbs := by
  have : Nat.gcd a.natAbs b.natAbs ≤ b.natAbs := Nat.gcd_le_right _ (by omega)
  unfold gq
  omega
theorem sg_le {a b : Int} (h : b ≠ 0) : (sg a b).natAbs ≤ b.natAbs := by
  have := gq_le (a := a) h
  unfold sg
  split <;> omega
/-- both are multiples of the divisor -/
theorem sg_parts {a b : Int} (h : b ≠ 0) : ∃ x y : Int, a = sg a b * x ∧ b = sg a b * y ∧ 0 < y ∧ Nat.gcd x.natAbs y.natAbs = 1 := by
  have g0 : 0 < Nat.gcd a.natAbs b.natAbs := Nat.gcd_pos_of_pos_right _ (by omega)
  obtain ⟨u, hu⟩ := Nat.gcd_dvd_left a.natAbs b.natAbs
  obtain ⟨v, hv⟩ := Nat.gcd_dvd_right a.natAbs b.natAbs
  have hc : Nat.gcd u v = 1 := by
    have e : Nat.gcd a.natAbs b.natAbs * Nat.gcd u v = Nat.gcd a.natAbs b.natAbs * 1 := by
      rw [← Nat.gcd_mul_left, ← hu, ← hv, Nat.mul_one]
    exact Nat.eq_of_mul_eq_mul_left g0 e
  have hv0 : 0 < v := by
    rcases Nat.eq_zero_or_pos v with z | z
    · rw [z, Nat.mul_zero] at hv
      omega
    · exact z
  have gi : gq a b = ((Nat.gcd a.natAbs b.natAbs : Nat) : Int) := rfl
  generalize Nat.gcd a.natAbs b.natAbs = g at *
  have ua : (a.natAbs : Int) = (g : Int) * (u : Int) := by rw [hu]; simp
  have vb : (b.natAbs : Int) = (g : Int) * (v : Int) := by rw [hv]; simp
  unfold sg
  rw [gi]
  by_cases hb : b < 0
  · rw [if_pos hb]
    by_cases ha : a < 0
    · refine ⟨u, v, ?_, ?_, by omega, by simpa using hc⟩
      · rw [Int.neg_mul]; omega
      · rw [Int.neg_mul]; omega
    · refine ⟨-u, v, ?_, ?_, by omega, by simpa using hc⟩
      · rw [Int.neg_mul_neg]; omega
      · rw [Int.neg_mul]; omega
  · rw [if_neg hb]
    by_cases ha : a < 0
    · refine ⟨-u, v, ?_, ?_, by omega, by simpa using hc⟩
      · rw [Int.mul_neg]; omega
      · omega
    · refine ⟨u, v, by omega, by omega, by omega, by simpa using hc⟩
theorem low_eq {a b x y : Int} (h : b ≠ 0) (ha : a = sg a b * x) (hb : b = sg a b * y) : low a b = (x, y) := by
  have s := sg_ne (a := a) h
  unfold low
  generalize sg a b = g at *
  subst ha hb
  rw [Int.mul_fdiv_cancel_left _ s, Int.mul_fdiv_cancel_left _ s]
/-- p / q in lowest terms -/
structure Lw (p q : Int) : Prop where
  pos : 0 < q
  cop : Nat.gcd p.natAbs q.natAbs = 1
theorem low_spec {a b : Int} (h : b ≠ 0) : Lw (low a b).1 (low a b).2 ∧ (low a b).1 * b = a * (low a b).2 ∧ (low a b).1.natAbs ≤ a.natAbs ∧ (low a b).2.natAbs ≤ b.natAbs := by
  obtain ⟨x, y, ha, hb, y0, hc⟩ := sg_parts (a := a) h
  have s := sg_ne (a := a) h
  rw [low_eq h ha hb]
  refine ⟨⟨y0, hc⟩, ?_, ?_, ?_⟩
  · show x * b = a * y
    rw [hb]
    conv => rhs; rw [ha]
    rw [Int.mul_left_comm, Int.mul_assoc]
  · show x.natAbs ≤ a.natAbs
    conv => rhs; rw [ha]
    rw [Int.natAbs_mul]
    exact Nat.le_mul_of_pos_left _ (by omega)
  · show y.natAbs ≤ b.natAbs
    conv => rhs; rw [hb]
    rw [Int.natAbs_mul]
    exact Nat.le_mul_of_pos_left _ (by omega)
theorem Lw.eq {p q r s : Int} (h : Lw p q) (k : Lw r s) (e : p * s = r * q) : p = r ∧ q = s := by
  have e2 : p.natAbs * s.natAbs = r.natAbs * q.natAbs := by rw [← Int.natAbs_mul, ← Int.natAbs_mul, e]
  have d1 : q.natAbs ∣ s.natAbs := Nat.Coprime.dvd_of_dvd_mul_left (Nat.Coprime.symm h.cop) ⟨r.natAbs, by rw [e2, Nat.mul_comm]⟩
  have d2 : s.natAbs ∣ q.natAbs := Nat.Coprime.dvd_of_dvd_mul_left (Nat.Coprime.symm k.cop) ⟨p.natAbs, by rw [← e2, Nat.mul_comm]⟩
  have e3 : q.natAbs = s.natAbs := Nat.dvd_antisymm d1 d2
  have hp := h.pos
  have kp := k.pos
  have e4 : q = s := by omega
  subst e4
  exact ⟨Int.eq_of_mul_eq_mul_right (by omega) e, rfl⟩
theorem low_of {a b p q : Int} (h : b ≠ 0) (k : Lw p q) (e : p * b = a * q) : low a b = (p, q) := by
  obtain ⟨l, m, _, _⟩ := low_spec (a := a) h
  have hb : (low a b).1 * q = p * (low a b).2 := by
    have z : ((low a b).1 * q - p * (low a b).2) * b = 0 := by grind
    rcases Int.mul_eq_zero.mp z with z | z
    · omega
    · exact absurd z h
  obtain ⟨e1, e2⟩ := l.eq k hb
  exact Prod.ext e1 e2
theorem low_low {a b : Int} (h : Lw a b) : low a b = (a, b) := low_of (by have := h.pos; omega) h rfl
theorem low_neg {a b : Int} (h : b ≠ 0) : low (-a) (-b) = low a b := by
  obtain ⟨l, m, _, _⟩ := low_spec (a := a) h
  refine low_of (by omega) l ?_
  show (low a b).1 * -b = -a * (low a b).2
  rw [Int.mul_neg, Int.neg_mul, m]
/-- (x + y) - y = x -/
theorem low_minus {a b c d p q : Int} (h : Lw a b) (hd : 0 < d) (e : low (a * d + c * b) (b * d) = (p, q)) : low (p * d - c * q) (q * d) = (a, b) := by
  have hb := h.pos
  have hbd : b * d ≠ 0 := Int.ne_of_gt (Int.mul_pos hb hd)
  obtain ⟨l, m, _, _⟩ := low_spec (a := a * d + c * b) hbd
  rw [e] at l m
  have hq := l.pos
  refine low_of (Int.ne_of_gt (Int.mul_pos hq hd)) h ?_
  have m' : p * (b * d) = (a * d + c * b) * q := m
  have z : (a * (q * d) - (p * d - c * q) * b) * d = 0 := by grind
  rcases Int.mul_eq_zero.mp z with z | z
  · omega
  · omega
/-- (x / y) * y = x -/
theorem low_times {a b c d p q : Int} (h : Lw a b) (hd : 0 < d) (hc : c ≠ 0) (e : low (a * d) (b * c) = (p, q)) : low (p * c) (q * d) = (a, b) := by
  have hb := h.pos
  have hbd : b * c ≠ 0 := Int.mul_ne_zero (by omega) hc
  obtain ⟨l, m, _, _⟩ := low_spec (a := a * d) hbd
  rw [e] at l m
  have hq := l.pos
  refine low_of (Int.ne_of_gt (Int.mul_pos hq hd)) h ?_
  have m' : p * (b * c) = (a * d) * q := m
  grind
theorem not_low2 {a b : Int} : Nat.gcd (2 * a).natAbs (2 * b).natAbs ≠ 1 := by
  rw [Int.natAbs_mul, Int.natAbs_mul, Nat.gcd_mul_left]
  intro z
  have e : Int.natAbs 2 = 2 := rfl
  rw [e] at z
  omega
/-! Euclid's turns -/
def Eu (n g x y i : Nat) : Prop := Nat.gcd x y = g ∧ ((i = 0 ∧ 0 < y ∧ y < 2 ^ n) ∨ (0 < i ∧ 0 < x ∧ y ≤ x ∧ x * y * 2 ^ (i - 1) < 2 ^ (2 * n)))
theorem Eu.next {n g x y i : Nat} (h : Eu n g x y i) (hy : y ≠ 0) : Eu n g y (x % y) (i + 1) := by
  obtain ⟨e, h⟩ := h
  have hy0 : 0 < y := by omega
  have hm : x % y < y := Nat.mod_lt _ hy0
  refine ⟨by rw [← e, Nat.gcd_comm x y, Nat.gcd_rec y x, Nat.gcd_comm], .inr ⟨by omega, hy0, by omega, ?_⟩⟩
  rw [Nat.add_sub_cancel]
  rcases h with ⟨h0, h1, h2⟩ | ⟨h0, h1, h2, h3⟩
  · subst h0
    rw [Nat.pow_zero, Nat.mul_one, Nat.two_mul, Nat.pow_add]
    exact Nat.mul_lt_mul'' h2 (by omega)
  · obtain ⟨j, rfl⟩ : ∃ j, i = j + 1 := ⟨i - 1, by omega⟩
    rw [Nat.add_sub_cancel] at h3
    have d := Nat.div_add_mod x y
    have d1 : 1 ≤ x / y := (Nat.one_le_div_iff hy0).mpr h2
    have d2 : y * 1 ≤ y * (x / y) := Nat.mul_le_mul_left _ d1
    have h4 : 2 * (x % y) ≤ x := by omega
    refine Nat.lt_of_le_of_lt ?_ h3
    rw [Nat.pow_succ]
    have e1 : y * (x % y) * (2 ^ j * 2) = y * (2 * (x % y)) * 2 ^ j := by grind
    rw [e1, Nat.mul_comm x y]
    exact Nat.mul_le_mul_right _ (Nat.mul_le_mul_left _ h4)
theorem Eu.stop {n g x i : Nat} (h : Eu n g x 0 i) : x = g := by
  have := h.1
  rwa [Nat.gcd_zero_right] at this
theorem Eu.last {n g x y : Nat} (h : Eu n g x y 5000) (hn : n ≤ 1000) : y = 0 := by
  rcases h.2 with ⟨h0, _⟩ | ⟨_, h1, _, h3⟩
  · omega
  · rcases Nat.eq_zero_or_pos y with z | z
    · exact z
    · have a : 1 ≤ x * y := Nat.mul_pos h1 z
      have b : 2 ^ (2 * n) ≤ 2 ^ (5000 - 1) := Nat.pow_le_pow_right (by decide) (by omega)
      generalize (2 : Nat) ^ (5000 - 1) = m at *
      have c : 1 * m ≤ x * y * m := Nat.mul_le_mul_right _ a
      omega

/-! ### fractions: what each def promises -/
/-- at v stands a / b, b above 0, both below 2 ^ n -/
def Fr (K : PySem.W.Frag) (H : Hp) (p : Addr) (a b : Int) (n : Nat) : Prop := SqT K H p [.int a, .int b] ∧ 0 < b ∧ a.natAbs < 2 ^ n ∧ b.natAbs < 2 ^ n ∧ 0 < n
def newF (H : Hp) (Q : VK) (z : Int × Int) : Prop := ∀ r, H r = none → Q (.ref r) (upd H r (.tup [.int z.1, .int z.2]))
def sp_lowest : Sp := fun vs H Q _ => ∃ (a b : Int) (n : Nat), vs = [.int a, .int b] ∧ b ≠ 0 ∧ b.natAbs < 2 ^ n ∧ 0 < n ∧ n ≤ 9000 ∧ newF H Q (low a b)
def sp_arith (K : PySem.W.Frag) (f : Int → Int → Int → Int → Int × Int) : Sp := fun vs H Q _ => ∃ (p q : Addr) (a b c d : Int) (m n : Nat), vs = [.ref p, .ref q] ∧ Fr K H p a b m ∧ Fr K H q c d n ∧ m + n ≤ 4000 ∧ newF H Q (f a b c d)
def fPlus (a b c d : Int) : Int × Int := low (a * d + c * b) (b * d)
def fMinus (a b c d : Int) : Int × Int := low (a * d - c * b) (b * d)
def fTimes (a b c d : Int) : Int × Int := low (a * c) (b * d)
def fOver (a b c d : Int) : Int × Int := low (a * d) (b * c)
def sp_over (K : PySem.W.Frag) : Sp := fun vs H Q _ => ∃ (p q : Addr) (a b c d : Int) (m n : Nat), vs = [.ref p, .ref q] ∧ Fr K H p a b m ∧ Fr K H q c d n ∧ m + n ≤ 4000 ∧ c ≠ 0 ∧ newF H Q (fOver a b c d)
def sp_less (K : PySem.W.Frag) : Sp := fun vs H Q _ => ∃ (p q : Addr) (a b c d : Int) (m n : Nat), vs = [.ref p, .ref q] ∧ Fr K H p a b m ∧ Fr K H q c d n ∧ m + n ≤ 4000 ∧ Q (.bl (decide (a * d < c * b))) H
theorem two_add_le {x y n : Nat} (hx : x < 2 ^ n) (hy : y < 2 ^ n) : x + y < 2 ^ (n + 1) := by
  rw [Nat.pow_succ]
  omega
theorem mulW {i j : Int} {m n : Nat} (hi : i.natAbs < 2 ^ m) (hj : j.natAbs < 2 ^ n) (h0 : 0 < m) (h1 : 0 < n) (h : m + n ≤ 4000) : CMulW i j := wide_mul hi hj h0 h1 (by omega)
theorem add_lt {i j : Int} {n : Nat} (hi : i.natAbs < 2 ^ n) (hj : j.natAbs < 2 ^ n) : (i + j).natAbs < 2 ^ (n + 1) := Nat.lt_of_le_of_lt (Int.natAbs_add_le i j) (two_add_le hi hj)
theorem sub_lt {i j : Int} {n : Nat} (hi : i.natAbs < 2 ^ n) (hj : j.natAbs < 2 ^ n) : (i - j).natAbs < 2 ^ (n + 1) := Nat.lt_of_le_of_lt (Int.natAbs_sub_le i j) (two_add_le hi hj)
theorem pow_le {x m n : Nat} (h : x < 2 ^ m) (k : m ≤ n) : x < 2 ^ n := Nat.lt_of_lt_of_le h (Nat.pow_le_pow_right (by decide) k)
theorem Fr.mul_pos {K : PySem.W.Frag} {H : Hp} {p q : Addr} {a b c d : Int} {m n : Nat} (h : Fr K H p a b m) (k : Fr K H q c d n) : 0 < b * d := Int.mul_pos h.2.1 k.2.1

section
variable {P : Program} {w : World} {K : PySem.W.Frag} {mg : Str → Option Value} {base : Heap}

theorem ok__law_number (T : Txt K mg) : FnOk P w K mg base CX0 1 T.a__law_number T.d__law_number ["script", "index"] (sp_number K) := by

  refine T.F__law_number.ok sc__law_number (fun vs H Q E h => ?_) (fun cdv A outer s H vs Q E hr h => ?_)
  · obtain ⟨a, ns, i, rfl, _⟩ := h
    rfl
  obtain ⟨a, ns, i, rfl, hS, h63, k⟩ := h
  refine ⟨_, (pss_cons (ps_asg (pe_ifExp (pt_cmpR (op_neD (hu64 hr)) (pv 0) (pe_lst pa_nil) (nomark _)) (pe_tup (pa_cons (pe_ix ix_list (pv 0) (pe_op op_mod (pv 1) (pe_callB call_len_seq (by rfl) T.z_len (by decide +kernel) (pa_cons (pv 0) pa_nil))) (fun _ _ => rfl)) (pa_cons (pe_op op_fdivA (pv 1) (pe_callB call_len_seq (by rfl) T.z_len (by decide +kernel) (pa_cons (pv 0) pa_nil))) pa_nil))) (pe_tup (pa_cons pe_int (pa_cons pe_int pa_nil)))) (pg_tup rfl (pgs_cons (pg_name (i := 2) sc__law_number.nd rfl (Or.inl rfl)) (pgs_cons (pg_name (i := 3) sc__law_number.nd rfl (Or.inl rfl)) pgs_nil))))
    (pss_cons (ps_set (i := 4) sc__law_number.nd rfl (Or.inl rfl) (pe_ifExp (pt_cmpR op_lt (pv 3) pe_int (nomark _)) (pe_op op_sub (pv 2) (pe_op op_pow pe_int pe_int)) pe_int))
    (pss_cons (ps_for PassesOwn.never rfl (pi_range1 (by rfl) T.z_range (pa_cons (pe_op op_mod (pe_callTy call_int1 (by rfl) T.z_int (by decide +kernel) (pa_cons (pv 3) pa_nil)) pe_int) pa_nil)) (pg_name (i := 5) sc__law_number.nd rfl (Or.inl rfl))
    (pss_one (ps_set (i := 4) sc__law_number.nd rfl (Or.inl rfl) (pe_op op_fdivA (pv 4) pe_int))))
    (pss_cons (ps_if (pt_cmpR op_gt (pv 4) pe_int (nomark _)) (pss_one (ps_ret (pe_op op_mod (pe_callTy call_int1 (by rfl) T.z_int (by decide +kernel) (pa_cons (pv 4) pa_nil)) pe_int))) pss_nil)
    (pss_cons (ps_set (i := 6) sc__law_number.nd rfl (Or.inl rfl) (pe_op op_mod (pe_op op_add (pe_op op_mul (pe_callTy call_int1 (by rfl) T.z_int (by decide +kernel) (pa_cons (pe_op op_add (pv 2) (pe_op op_mul pe_int (pv 1))) pa_nil)) pe_int) (pe_op op_mul pe_int (pe_callB call_len_seq (by rfl) T.z_len (by decide +kernel) (pa_cons (pv 0) pa_nil)))) pe_int))
    (pss_cons (ps_set (i := 6) sc__law_number.nd rfl (Or.inl rfl) (pe_op op_mod (pe_op op_add (pe_op op_mul (pv 6) (pv 6)) (pe_op op_mul pe_int (pv 1))) pe_int))
    (pss_one (ps_ret (pe_callTy call_int1 (by rfl) T.z_int (by decide +kernel) (pa_cons (pe_op op_mod (pe_op op_add (pe_op op_mul (pv 6) pe_int) (pe_op op_fdivA (pv 6) pe_int)) pe_int) pa_nil)))))))))), ?_⟩
  -- cell, turn = ..
  refine seq_cut (fun σ' H' => ∃ c t : Int, σ' = [some (.ref a), some (.int i), some (.int c), some (.int t), none, none, none] ∧ Same H H') ?_ (fun tail => ?_)
  · rintro σ' H' ⟨c, t, rfl, g⟩
    have hS' := g.seq hS
    -- rest = ..
    refine seq_cut (fun σ' H' => ∃ r : Int, σ' = [some (.ref a), some (.int i), some (.int c), some (.int t), some (.int r), none, none] ∧ Same H H') ?_ (fun tail => ?_)
    · rintro σ' H' ⟨r, rfl, g⟩
      have hS' := g.seq hS
      -- for step in range(int(turn) % 60)
      refine ⟨_, rfl, .inl ⟨t, rfl, _, _, rfl, rfl, (by show (0 : Int) < 60; decide), ?_⟩⟩
      have m0 : 0 ≤ t % 60 := Int.emod_nonneg _ (by decide)
      have m1 : t % 60 < 60 := Int.emod_lt_of_pos _ (by decide)
      refine ⟨t % 60, rfl, by omega, by omega, for_range (lo := 0) (n := (t % 60).toNat) (fun _ σ' H' => ∃ (r : Int) (z : Option V), σ' = [some (.ref a), some (.int i), some (.int c), some (.int t), some (.int r), z, none] ∧ Same H H') ⟨r, none, rfl, g⟩ ?_ ?_⟩
      · rintro j σ' H' hj ⟨r, z, rfl, g⟩
        exact ⟨_, rfl, _, _, rfl, rfl, divA_small (by decide) (by decide), _, _, rfl, g⟩
      · rintro σ' H' ⟨r, z, rfl, g⟩
        have hS' := g.seq hS
        dsimp only
        refine seq_cut (fun σ' H'' => σ' = [some (.ref a), some (.int i), some (.int c), some (.int t), some (.int r), z, none] ∧ H'' = H') ?_ (fun tail => ?_)
        rotate_left
        · refine ⟨_, rfl, _, _, rfl, rfl, _, rfl, ?_⟩
          refine ite2 (fun _ => ?_) (fun _ => ?_)
          · exact ⟨_, rfl, .inl ⟨_, rfl, _, _, rfl, rfl, (by show (0 : Int) < 1009; decide), k _ _ g⟩⟩
          · exact tail _ _ ⟨rfl, rfl⟩
        · rintro σ' H'' ⟨rfl, rfl⟩
          refine seq_cut (fun σ' H' => ∃ (b : Int) (z : Option V), σ' = [some (.ref a), some (.int i), some (.int c), some (.int t), some (.int r), z, some (.int b)] ∧ 0 ≤ b ∧ b < 2147483647 ∧ Same H H') ?_ (fun tail => ?_)
          · rintro σ' H' ⟨b, z, rfl, b0, b1, g⟩
            refine ⟨_, rfl, _, rfl, _, _, rfl, rfl, .inl ⟨by omega, by omega⟩, _, rfl, _, _, rfl, rfl, .inl ⟨by decide, by decide⟩, _, _, rfl, rfl, _, _, rfl, rfl, (by show (0 : Int) < 2147483629; decide), ?_⟩
            exact ⟨_, rfl, _, _, rfl, rfl, .inr ⟨by decide, by decide⟩, _, rfl, _, _, rfl, rfl, divA_small (by decide) (by decide), _, _, rfl, rfl, _, _, rfl, rfl, (by show (0 : Int) < 2147483587; decide), .inl ⟨_, rfl, k _ _ g⟩⟩
          · refine ⟨_, rfl, _, rfl, _, _, rfl, rfl, .inl ⟨by decide, by decide⟩, _, _, rfl, rfl, .inl ⟨_, rfl, _, _, rfl, rfl, .inr ⟨by decide, by decide⟩, ?_⟩⟩
            refine ⟨_, rfl, a, _, rfl, .inl hS', _, _, rfl, rfl, .inl ⟨by decide, by decide⟩, _, _, rfl, rfl, _, _, rfl, rfl, (by show (0 : Int) < 2147483647; decide), ?_⟩
            exact tail _ _ ⟨_, _, rfl, Int.emod_nonneg _ (by decide), Int.emod_lt_of_pos _ (by decide), g⟩
    · refine ⟨_, rfl, _, _, rfl, rfl, _, rfl, ?_⟩
      refine ite2 (fun _ => ?_) (fun _ => ?_)
      · exact ⟨_, rfl, _, _, rfl, rfl, ⟨by decide, by decide, by decide⟩, _, _, rfl, rfl, tail _ _ ⟨_, rfl, g⟩⟩
      · exact tail _ _ ⟨_, rfl, g⟩
  · refine ⟨_, rfl, (by show 0 ≤ sizeLine; decide), fun p hp => ?_⟩
    have g1 : Same H (upd H p (.lst [])) := same_new hp _
    have hS1 := g1.seq hS
    refine ⟨.list (ns.map .int), .list [], .lst hS1 (dp_ints ns), .lst (SqL.of upd_same) .nil, PySem.W.ke_shaped_ints ns, rfl, _, rfl, ?_⟩
    by_cases e : ns = []
    · subst e
      refine iteF ⟨(by show 2 ≤ sizeLine; decide), fun q hq => ?_⟩
      exact ⟨_, _, rfl, SqT.of upd_same, rfl, _, _, rfl, _, _, rfl, rfl, tail _ _ ⟨_, _, rfl, g1.trans (same_new hq _)⟩⟩
    · rw [eqv_nil_ints ns e]
      have hl : 0 < ns.length := List.length_pos_iff.mpr e
      have em : (ns.map V.int).length = ns.length := List.length_map _
      have j0 : 0 ≤ i % ((ns.map V.int).length : Int) := Int.emod_nonneg _ (by omega)
      have j1 : i % ((ns.map V.int).length : Int) < ((ns.map V.int).length : Int) := Int.emod_lt_of_pos _ (by omega)
      obtain ⟨c, hc⟩ : ∃ c : Int, atI (ns.map V.int) (i % ((ns.map V.int).length : Int)) = some (.int c) := by
        have hj : (i % ((ns.map V.int).length : Int)).toNat < ns.length := by omega
        refine ⟨ns[(i % ((ns.map V.int).length : Int)).toNat], at_of (j := (i % ((ns.map V.int).length : Int)).toNat) (by omega) ?_⟩
        rw [List.getElem?_map, List.getElem?_eq_getElem hj]
        rfl
      refine iteT ?_
      refine ⟨_, rfl, _, rfl, _, rfl, a, _, rfl, .inl hS1, _, _, rfl, rfl, (by show (0 : Int) < ((ns.map V.int).length : Int); omega), a, _, _, _, rfl, rfl, hS1, hc, ?_⟩
      refine ⟨_, rfl, _, rfl, a, _, rfl, .inl hS1, _, _, rfl, rfl, divA_small (by omega) (by omega), (by show 2 ≤ sizeLine; decide), fun q hq => ?_⟩
      exact ⟨_, _, rfl, SqT.of upd_same, rfl, _, _, rfl, _, _, rfl, rfl, tail _ _ ⟨_, _, rfl, g1.trans (same_new hq _)⟩⟩

theorem ok__law_take (T : Txt K mg) : FnOk P w K mg base CX0 2 T.a__law_take T.d__law_take ["draw", "many"] (sp_take K) := by
  have G__law_number := ok__law_number (P := P) (w := w) (base := base) T
  refine T.F__law_take.ok sc__law_take (fun vs H Q E h => ?_) (fun cdv A outer s H vs Q E hr h => ?_)
  · obtain ⟨d, m, rfl, _⟩ := h
    rfl
  obtain ⟨d, m, rfl, ⟨a, ns, i, hd, hS, h63⟩, m0, k⟩ := h
  refine ⟨_, (pss_cons (ps_augS (pv 0) pe_int get_list pe_int ip_add set_list)
    (pss_one (ps_ret (pe_op op_mod (pe_callTy call_int1 (by rfl) T.z_int (by decide +kernel) (pa_cons (pe_call G__law_number (hr.mono (by decide)) (by rfl) T.m__law_number T.F__law_number.kp T.b__law_number .nil pass0 (pa_cons (pe_ix ix_list (pv 0) pe_int (fun _ _ => rfl)) (pa_cons (pe_callTy call_int1 (by rfl) T.z_int (by decide +kernel) (pa_cons (pe_ix ix_list (pv 0) pe_int (fun _ _ => rfl)) pa_nil)) pa_nil))) pa_nil)) (pv 1))))), ?_⟩
  have b1 : But d H (upd H d (.lst [.ref a, .int (i + 1)])) := fun b o n e => by rw [upd_ne n]; exact e
  have hS1 := hS.but hd b1
  refine ⟨_, rfl, d, _, _, _, rfl, rfl, SqL.of hd, at_of (j := 1) rfl rfl, i, 1, rfl, rfl, d, _, _, 1, rfl, rfl, hd, rfl, ?_⟩
  have e1 : upd H d (.lst [.ref a, .int (i + 1)]) d = some (.lst [.ref a, .int (i + 1)]) := upd_same
  refine ⟨_, rfl, d, _, _, _, rfl, rfl, SqL.of e1, at_of (j := 0) rfl rfl, ?_⟩
  refine ⟨_, rfl, d, _, _, _, rfl, rfl, SqL.of e1, at_of (j := 1) rfl rfl, .inl ⟨_, rfl, a, ns, i + 1, rfl, hS1.sq, h63, fun n H' g => ?_⟩⟩
  refine .inl ⟨n, rfl, _, rfl, _, _, rfl, rfl, m0, ?_⟩
  exact k _ _ (Int.emod_nonneg _ (by omega)) (Int.emod_lt_of_pos _ m0) ⟨a, ns, i + 1, g _ _ e1, hS1.same g, h63⟩ (b1.same g)
theorem ok__law_pick (T : Txt K mg) : FnOk P w K mg base CX0 3 T.a__law_pick T.d__law_pick ["draw", "items"] (sp_pick K) := by
  have G__law_take := ok__law_take (P := P) (w := w) (base := base) T
  refine T.F__law_pick.ok sc__law_pick (fun vs H Q E h => ?_) (fun cdv A outer s H vs Q E hr h => ?_)
  · obtain ⟨d, p, xs, rfl, _⟩ := h
    rfl
  obtain ⟨d, p, xs, rfl, hd, hx, hl, k⟩ := h
  refine ⟨_, (pss_one (ps_ret (pe_ix ix_lt (pv 1) (pe_call G__law_take (hr.mono (by decide)) (by rfl) T.m__law_take T.F__law_take.kp T.b__law_take .nil pass0 (pa_cons (pv 0) (pa_cons (pe_callB call_len_seq (by rfl) T.z_len (by decide +kernel) (pa_cons (pv 1) pa_nil)) pa_nil))) (fun _ _ => rfl)))), ?_⟩
  have hlen : SqL K H p xs ∨ SqT K H p xs := hx.imp (fun z => z.1) fun z => z
  refine ⟨_, rfl, _, rfl, _, rfl, p, xs, rfl, hlen, d, _, rfl, hd, (by show (0 : Int) < (xs.length : Int); omega), fun r H' r0 r1 hd' b => ?_⟩
  have hj : r.toNat < xs.length := by omega
  have ha : atI xs r = some xs[r.toNat] := at_of (j := r.toNat) (by omega) (List.getElem?_eq_getElem hj)
  have fin := k r.toNat _ H' (List.getElem?_eq_getElem hj) hd' b
  obtain ⟨a, ns, i, h1, _⟩ := hd
  rcases hx with ⟨z, n⟩ | z
  · exact .inl ⟨p, xs, r, _, rfl, rfl, b.seq n z, ha, fin⟩
  · exact .inr ⟨p, xs, r, _, rfl, rfl, b.tup h1 z, ha, fin⟩

theorem ok_lowest (T : Txt K mg) : FnOk P w K mg base CX0 1 T.a_lowest T.d_lowest ["above", "below"] sp_lowest := by
  refine T.F_lowest.ok sc_lowest (fun vs H Q E h => ?_) (fun cdv A outer s H vs Q E hr h => ?_)
  · obtain ⟨a, b, n, rfl, _⟩ := h
    rfl
  obtain ⟨a, b, n, rfl, b0, hn, n0, n9, k⟩ := h
  refine ⟨_, (pss_cons (ps_set (i := 2) sc_lowest.nd rfl (Or.inl rfl) (pe_callBfun cr_gcd (by rfl) T.m_gcd (pa_cons (pv 0) (pa_cons (pv 1) pa_nil))))
    (pss_cons (ps_if (pt_cmpR op_lt (pv 1) pe_int (nomark _)) (pss_one (ps_set (i := 2) sc_lowest.nd rfl (Or.inl rfl) (pe_un un_neg (pv 2)))) pss_nil)
    (pss_one (ps_ret (pe_tup (pa_cons (pe_op op_fdivA (pv 0) (pv 2)) (pa_cons (pe_op op_fdivA (pv 1) (pv 2)) pa_nil))))))), ?_⟩
  have hs : CDivA a (sg a b) := ⟨sg_ne b0, Nat.lt_of_lt_of_le (PySem.Flt.log2_lt_of n0 (Nat.lt_of_le_of_lt (sg_le b0) hn)) n9⟩
  have tail : ∀ σ' : L2.St, σ' = [some (.int a), some (.int b), some (.int (sg a b))] → newF H Q (low a b) → True := fun _ _ _ => trivial
  refine seq_cut (fun σ' H' => σ' = [some (.int a), some (.int b), some (.int (gq a b))] ∧ H' = H) ?_ (fun tail => ?_)
  rotate_left
  · exact ⟨_, rfl, _, rfl, a, b, rfl, tail _ _ ⟨rfl, rfl⟩⟩
  rintro σ' H' ⟨rfl, rfl⟩
  refine seq_cut (fun σ' H'' => σ' = [some (.int a), some (.int b), some (.int (sg a b))] ∧ H'' = H') ?_ (fun tail => ?_)
  rotate_left
  · refine ⟨_, rfl, _, _, rfl, rfl, _, rfl, ?_⟩
    refine ite2 (fun c => ?_) (fun c => ?_)
    · have c' : b < 0 := of_decide_eq_true c
      exact ⟨_, rfl, _, rfl, tail _ _ ⟨by unfold sg; rw [if_pos c']; rfl, rfl⟩⟩
    · have c' : ¬ b < 0 := of_decide_eq_false (Bool.eq_false_iff.mpr c)
      exact tail _ _ ⟨by unfold sg; rw [if_neg c'], rfl⟩
  rintro σ' H'' ⟨rfl, rfl⟩
  exact ⟨_, rfl, _, rfl, _, _, rfl, rfl, hs, _, rfl, _, rfl, _, _, rfl, rfl, hs, (by show 2 ≤ sizeLine; decide), fun r hr' => k r hr'⟩
theorem ok_plus (T : Txt K mg) : FnOk P w K mg base CX0 2 T.a_plus T.d_plus ["one", "other"] (sp_arith K fPlus) := by
  have G_lowest := ok_lowest (P := P) (w := w) (base := base) T
  refine T.F_plus.ok sc_plus (fun vs H Q E h => ?_) (fun cdv A outer s H vs Q E hr h => ?_)
  · obtain ⟨p, q, a, b, c, d, m, n, rfl, _⟩ := h
    rfl
  obtain ⟨p, q, a, b, c, d, m, n, rfl, hp, hq, hmn, k⟩ := h
  refine ⟨_, (pss_one (ps_ret (pe_call G_lowest (hr.mono (by decide)) (by rfl) T.m_lowest T.F_lowest.kp T.b_lowest .nil pass0 (pa_cons (pe_op op_add (pe_op op_mulW (pe_ix ix_tup (pv 0) pe_int (fun _ _ => rfl)) (pe_ix ix_tup (pv 1) pe_int (fun _ _ => rfl))) (pe_op op_mulW (pe_ix ix_tup (pv 1) pe_int (fun _ _ => rfl)) (pe_ix ix_tup (pv 0) pe_int (fun _ _ => rfl)))) (pa_cons (pe_op op_mulW (pe_ix ix_tup (pv 0) pe_int (fun _ _ => rfl)) (pe_ix ix_tup (pv 1) pe_int (fun _ _ => rfl))) pa_nil))))), ?_⟩
  have bd := hp.mul_pos hq
  obtain ⟨tp, b0, a1, b1, m0⟩ := hp
  obtain ⟨tq, d0, c1, d1, n0⟩ := hq
  refine ⟨_, rfl, p, _, _, _, rfl, rfl, tp, at_of (j := 0) rfl rfl, _, rfl, q, _, _, _, rfl, rfl, tq, at_of (j := 1) rfl rfl, _, _, rfl, rfl, mulW a1 d1 m0 n0 hmn, ?_⟩
  refine ⟨_, rfl, q, _, _, _, rfl, rfl, tq, at_of (j := 0) rfl rfl, _, rfl, p, _, _, _, rfl, rfl, tp, at_of (j := 1) rfl rfl, _, _, rfl, rfl, mulW c1 b1 n0 m0 (by omega), _, _, rfl, rfl, ?_⟩
  refine ⟨_, rfl, p, _, _, _, rfl, rfl, tp, at_of (j := 1) rfl rfl, _, rfl, q, _, _, _, rfl, rfl, tq, at_of (j := 1) rfl rfl, _, _, rfl, rfl, mulW b1 d1 m0 n0 hmn, ?_⟩
  exact ⟨_, _, m + n, rfl, by omega, wide_lt b1 d1, by omega, by omega, k⟩
theorem ok_minus (T : Txt K mg) : FnOk P w K mg base CX0 2 T.a_minus T.d_minus ["one", "other"] (sp_arith K fMinus) := by
  have G_lowest := ok_lowest (P := P) (w := w) (base := base) T
  refine T.F_minus.ok sc_minus (fun vs H Q E h => ?_) (fun cdv A outer s H vs Q E hr h => ?_)
  · obtain ⟨p, q, a, b, c, d, m, n, rfl, _⟩ := h
    rfl
  obtain ⟨p, q, a, b, c, d, m, n, rfl, hp, hq, hmn, k⟩ := h
  refine ⟨_, (pss_one (ps_ret (pe_call G_lowest (hr.mono (by decide)) (by rfl) T.m_lowest T.F_lowest.kp T.b_lowest .nil pass0 (pa_cons (pe_op op_sub (pe_op op_mulW (pe_ix ix_tup (pv 0) pe_int (fun _ _ => rfl)) (pe_ix ix_tup (pv 1) pe_int (fun _ _ => rfl))) (pe_op op_mulW (pe_ix ix_tup (pv 1) pe_int (fun _ _ => rfl)) (pe_ix ix_tup (pv 0) pe_int (fun _ _ => rfl)))) (pa_cons (pe_op op_mulW (pe_ix ix_tup (pv 0) pe_int (fun _ _ => rfl)) (pe_ix ix_tup (pv 1) pe_int (fun _ _ => rfl))) pa_nil))))), ?_⟩
  have bd := hp.mul_pos hq
  obtain ⟨tp, b0, a1, b1, m0⟩ := hp
  obtain ⟨tq, d0, c1, d1, n0⟩ := hq
  refine ⟨_, rfl, p, _, _, _, rfl, rfl, tp, at_of (j := 0) rfl rfl, _, rfl, q, _, _, _, rfl, rfl, tq, at_of (j := 1) rfl rfl, _, _, rfl, rfl, mulW a1 d1 m0 n0 hmn, ?_⟩
  refine ⟨_, rfl, q, _, _, _, rfl, rfl, tq, at_of (j := 0) rfl rfl, _, rfl, p, _, _, _, rfl, rfl, tp, at_of (j := 1) rfl rfl, _, _, rfl, rfl, mulW c1 b1 n0 m0 (by omega), _, _, rfl, rfl, ?_⟩
  refine ⟨_, rfl, p, _, _, _, rfl, rfl, tp, at_of (j := 1) rfl rfl, _, rfl, q, _, _, _, rfl, rfl, tq, at_of (j := 1) rfl rfl, _, _, rfl, rfl, mulW b1 d1 m0 n0 hmn, ?_⟩
  exact ⟨_, _, m + n, rfl, by omega, wide_lt b1 d1, by omega, by omega, k⟩
theorem ok_times (T : Txt K mg) : FnOk P w K mg base CX0 2 T.a_times T.d_times ["one", "other"] (sp_arith K fTimes) := by
  have G_lowest := ok_lowest (P := P) (w := w) (base := base) T
  refine T.F_times.ok sc_times (fun vs H Q E h => ?_) (fun cdv A outer s H vs Q E hr h => ?_)
  · obtain ⟨p, q, a, b, c, d, m, n, rfl, _⟩ := h
    rfl
  obtain ⟨p, q, a, b, c, d, m, n, rfl, hp, hq, hmn, k⟩ := h
  refine ⟨_, (pss_one (ps_ret (pe_call G_lowest (hr.mono (by decide)) (by rfl) T.m_lowest T.F_lowest.kp T.b_lowest .nil pass0 (pa_cons (pe_op op_mulW (pe_ix ix_tup (pv 0) pe_int (fun _ _ => rfl)) (pe_ix ix_tup (pv 1) pe_int (fun _ _ => rfl))) (pa_cons (pe_op op_mulW (pe_ix ix_tup (pv 0) pe_int (fun _ _ => rfl)) (pe_ix ix_tup (pv 1) pe_int (fun _ _ => rfl))) pa_nil))))), ?_⟩
  have bd := hp.mul_pos hq
  obtain ⟨tp, b0, a1, b1, m0⟩ := hp
  obtain ⟨tq, d0, c1, d1, n0⟩ := hq
  refine ⟨_, rfl, p, _, _, _, rfl, rfl, tp, at_of (j := 0) rfl rfl, _, rfl, q, _, _, _, rfl, rfl, tq, at_of (j := 0) rfl rfl, _, _, rfl, rfl, mulW a1 c1 m0 n0 hmn, ?_⟩
  refine ⟨_, rfl, p, _, _, _, rfl, rfl, tp, at_of (j := 1) rfl rfl, _, rfl, q, _, _, _, rfl, rfl, tq, at_of (j := 1) rfl rfl, _, _, rfl, rfl, mulW b1 d1 m0 n0 hmn, ?_⟩
  exact ⟨_, _, m + n, rfl, by omega, wide_lt b1 d1, by omega, by omega, k⟩
theorem ok_over (T : Txt K mg) : FnOk P w K mg base CX0 2 T.a_over T.d_over ["one", "other"] (sp_over K) := by
  have G_lowest := ok_lowest (P := P) (w := w) (base := base) T
  refine T.F_over.ok sc_over (fun vs H Q E h => ?_) (fun cdv A outer s H vs Q E hr h => ?_)
  · obtain ⟨p, q, a, b, c, d, m, n, rfl, _⟩ := h
    rfl
  obtain ⟨p, q, a, b, c, d, m, n, rfl, hp, hq, hmn, cn, k⟩ := h
  refine ⟨_, (pss_one (ps_ret (pe_call G_lowest (hr.mono (by decide)) (by rfl) T.m_lowest T.F_lowest.kp T.b_lowest .nil pass0 (pa_cons (pe_op op_mulW (pe_ix ix_tup (pv 0) pe_int (fun _ _ => rfl)) (pe_ix ix_tup (pv 1) pe_int (fun _ _ => rfl))) (pa_cons (pe_op op_mulW (pe_ix ix_tup (pv 0) pe_int (fun _ _ => rfl)) (pe_ix ix_tup (pv 1) pe_int (fun _ _ => rfl))) pa_nil))))), ?_⟩
  obtain ⟨tp, b0, a1, b1, m0⟩ := hp
  obtain ⟨tq, d0, c1, d1, n0⟩ := hq
  refine ⟨_, rfl, p, _, _, _, rfl, rfl, tp, at_of (j := 0) rfl rfl, _, rfl, q, _, _, _, rfl, rfl, tq, at_of (j := 1) rfl rfl, _, _, rfl, rfl, mulW a1 d1 m0 n0 hmn, ?_⟩
  refine ⟨_, rfl, p, _, _, _, rfl, rfl, tp, at_of (j := 1) rfl rfl, _, rfl, q, _, _, _, rfl, rfl, tq, at_of (j := 0) rfl rfl, _, _, rfl, rfl, mulW b1 c1 m0 n0 hmn, ?_⟩
  exact ⟨_, _, m + n, rfl, Int.mul_ne_zero (by omega) cn, wide_lt b1 c1, by omega, by omega, k⟩
theorem ok_is_less (T : Txt K mg) : FnOk P w K mg base CX0 1 T.a_is_less T.d_is_less ["one", "other"] (sp_less K) := by
  refine T.F_is_less.ok sc_is_less (fun vs H Q E h => ?_) (fun cdv A outer s H vs Q E hr h => ?_)
  · obtain ⟨p, q, a, b, c, d, m, n, rfl, _⟩ := h
    rfl
  obtain ⟨p, q, a, b, c, d, m, n, rfl, hp, hq, hmn, k⟩ := h
  refine ⟨_, (pss_one (ps_ret (pe_cmpR op_lt (pe_op op_mulW (pe_ix ix_tup (pv 0) pe_int (fun _ _ => rfl)) (pe_ix ix_tup (pv 1) pe_int (fun _ _ => rfl))) (pe_op op_mulW (pe_ix ix_tup (pv 1) pe_int (fun _ _ => rfl)) (pe_ix ix_tup (pv 0) pe_int (fun _ _ => rfl))) (nomark _)))), ?_⟩
  obtain ⟨tp, b0, a1, b1, m0⟩ := hp
  obtain ⟨tq, d0, c1, d1, n0⟩ := hq
  refine ⟨_, rfl, p, _, _, _, rfl, rfl, tp, at_of (j := 0) rfl rfl, _, rfl, q, _, _, _, rfl, rfl, tq, at_of (j := 1) rfl rfl, _, _, rfl, rfl, mulW a1 d1 m0 n0 hmn, ?_⟩
  exact ⟨_, rfl, q, _, _, _, rfl, rfl, tq, at_of (j := 0) rfl rfl, _, rfl, p, _, _, _, rfl, rfl, tp, at_of (j := 1) rfl rfl, _, _, rfl, rfl, mulW c1 b1 n0 m0 (by omega), _, _, rfl, rfl, k⟩

theorem low_bound {a b : Int} {n : Nat} (h : b ≠ 0) (ha : a.natAbs < 2 ^ n) (hb : b.natAbs < 2 ^ n) : 0 < (low a b).2 ∧ (low a b).1.natAbs < 2 ^ n ∧ (low a b).2.natAbs < 2 ^ n := by
  obtain ⟨l, _, h1, h2⟩ := low_spec (a := a) h
  exact ⟨l.pos, by omega, by omega⟩
/-- a fraction's numbers: above 0 below, below 2 ^ n -/
def Sz (z : Int × Int) (n : Nat) : Prop := 0 < z.2 ∧ z.1.natAbs < 2 ^ n ∧ z.2.natAbs < 2 ^ n ∧ 0 < n
theorem sz_plus {z x : Int × Int} {m n : Nat} (h : Sz z m) (k : Sz x n) : Sz (fPlus z.1 z.2 x.1 x.2) (m + n + 1) := by
  obtain ⟨h1, h2, h3, h4⟩ := h
  obtain ⟨k1, k2, k3, k4⟩ := k
  have e : n + m = m + n := Nat.add_comm _ _
  have q := low_bound (n := m + n + 1) (Int.ne_of_gt (Int.mul_pos h1 k1)) (add_lt (wide_lt h2 k3) (by rw [← e]; exact wide_lt k2 h3)) (pow_le (wide_lt h3 k3) (by omega))
  exact ⟨q.1, q.2.1, q.2.2, by omega⟩
theorem sz_times {z x : Int × Int} {m n : Nat} (h : Sz z m) (k : Sz x n) : Sz (fTimes z.1 z.2 x.1 x.2) (m + n + 1) := by
  obtain ⟨h1, h2, h3, h4⟩ := h
  obtain ⟨k1, k2, k3, k4⟩ := k
  have q := low_bound (n := m + n + 1) (Int.ne_of_gt (Int.mul_pos h1 k1)) (pow_le (wide_lt h2 k2) (by omega)) (pow_le (wide_lt h3 k3) (by omega))
  exact ⟨q.1, q.2.1, q.2.2, by omega⟩
theorem sz_over {z x : Int × Int} {m n : Nat} (h : Sz z m) (k : Sz x n) (c : x.1 ≠ 0) : Sz (fOver z.1 z.2 x.1 x.2) (m + n + 1) := by
  obtain ⟨h1, h2, h3, h4⟩ := h
  obtain ⟨k1, k2, k3, k4⟩ := k
  have q := low_bound (n := m + n + 1) (Int.mul_ne_zero (by omega) c) (pow_le (wide_lt h2 k3) (by omega)) (pow_le (wide_lt h3 k2) (by omega))
  exact ⟨q.1, q.2.1, q.2.2, by omega⟩
theorem Fr.mk {K : PySem.W.Frag} {H : Hp} {p : Addr} {z : Int × Int} {n : Nat} (h : SqT K H p [.int z.1, .int z.2]) (s : Sz z n) : Fr K H p z.1 z.2 n := ⟨h, s.1, s.2.1, s.2.2.1, s.2.2.2⟩
theorem Same.tup {K : PySem.W.Frag} {H H' : Hp} {a : Addr} {xs : List V} (e : Same H H') (h : SqT K H a xs) : SqT K H' a xs := by
  rcases h with (h | ⟨o, h⟩) | h
  · exact .inl (.inl (e _ _ h))
  · exact .inl (.inr ⟨o, e _ _ h⟩)
  · exact .inr h
/-! rows of fractions: their places and numbers -/
abbrev Fs := List (Addr × (Int × Int))
def refs (rs : Fs) : List V := rs.map fun x => .ref x.1
def AllF (K : PySem.W.Frag) (H : Hp) (rs : Fs) : Prop := ∀ x ∈ rs, SqT K H x.1 [.int x.2.1, .int x.2.2] ∧ Sz x.2 72
theorem AllF.same {K : PySem.W.Frag} {H H' : Hp} {rs : Fs} (h : AllF K H rs) (e : Same H H') : AllF K H' rs := fun x m => ⟨Same.tup e (h x m).1, (h x m).2⟩
def sumF (rs : Fs) : Int × Int := rs.foldl (fun z x => fPlus z.1 z.2 x.2.1 x.2.2) (0, 1)
def prodF (rs : Fs) : Int × Int := rs.foldl (fun z x => fTimes z.1 z.2 x.2.1 x.2.2) (1, 1)
theorem sz_fold {f : Int × Int → Int × Int → Int × Int} (hf : ∀ z x m n, Sz z m → Sz x n → Sz (f z x) (m + n + 1)) : ∀ (rs : Fs) (z : Int × Int) (m : Nat), Sz z m → (∀ x ∈ rs, Sz x.2 72) → Sz (rs.foldl (fun z x => f z x.2) z) (m + 73 * rs.length)
  | [], z, m, h, _ => h
  | x :: r, z, m, h, k => by
    have q := sz_fold hf r (f z x.2) (m + 72 + 1) (hf z x.2 m 72 h (k x List.mem_cons_self)) fun y hy => k y (List.mem_cons_of_mem _ hy)
    have e : m + 72 + 1 + 73 * r.length = m + 73 * (x :: r).length := by
      rw [List.length_cons]
      omega
    rw [← e]
    exact q
theorem sz_sum {K : PySem.W.Frag} {H : Hp} {rs : Fs} (h : AllF K H rs) : Sz (sumF rs) (1 + 73 * rs.length) := sz_fold (f := fun z x => fPlus z.1 z.2 x.1 x.2) (fun _ _ _ _ => sz_plus) rs (0, 1) 1 ⟨by decide, by decide, by decide, by decide⟩ fun x m => (h x m).2
theorem sz_prod {K : PySem.W.Frag} {H : Hp} {rs : Fs} (h : AllF K H rs) : Sz (prodF rs) (1 + 73 * rs.length) := sz_fold (f := fun z x => fTimes z.1 z.2 x.1 x.2) (fun _ _ _ _ => sz_times) rs (1, 1) 1 ⟨by decide, by decide, by decide, by decide⟩ fun x m => (h x m).2
theorem AllF.take {K : PySem.W.Frag} {H : Hp} {rs : Fs} (h : AllF K H rs) (i : Nat) : AllF K H (rs.take i) := fun x m => h x (List.mem_of_mem_take m)
theorem take_next {α : Type} {rs : List α} {i : Nat} {x : α} (h : rs[i]? = some x) : rs.take (i + 1) = rs.take i ++ [x] := by
  rw [List.take_add_one, h]
  rfl
theorem sumF_next {rs : Fs} {i : Nat} {x : Addr × (Int × Int)} (h : rs[i]? = some x) : sumF (rs.take (i + 1)) = fPlus (sumF (rs.take i)).1 (sumF (rs.take i)).2 x.2.1 x.2.2 := by
  rw [take_next h]
  unfold sumF
  rw [List.foldl_append]
  rfl
theorem prodF_next {rs : Fs} {i : Nat} {x : Addr × (Int × Int)} (h : rs[i]? = some x) : prodF (rs.take (i + 1)) = fTimes (prodF (rs.take i)).1 (prodF (rs.take i)).2 x.2.1 x.2.2 := by
  rw [take_next h]
  unfold prodF
  rw [List.foldl_append]
  rfl
theorem refs_get {rs : Fs} {i : Nat} {v : V} (h : (refs rs)[i]? = some v) : ∃ x, rs[i]? = some x ∧ v = .ref x.1 := by
  unfold refs at h
  rw [List.getElem?_map] at h
  cases e : rs[i]? with
  | none =>
    rw [e] at h
    cases h
  | some x =>
    rw [e] at h
    exact ⟨x, rfl, (Option.some.inj h).symm⟩
def sp_total (K : PySem.W.Frag) : Sp := fun vs H Q _ => ∃ (R : Addr) (rs : Fs), vs = [.ref R] ∧ SqL K H R (refs rs) ∧ AllF K H rs ∧ rs.length ≤ 5 ∧ ∀ r H', Same H H' → SqT K H' r [.int (sumF rs).1, .int (sumF rs).2] → Q (.ref r) H'
def sp_product (K : PySem.W.Frag) : Sp := fun vs H Q _ => ∃ (R : Addr) (rs : Fs), vs = [.ref R] ∧ SqT K H R (refs rs) ∧ AllF K H rs ∧ rs.length ≤ 5 ∧ ∀ r H', Same H H' → SqT K H' r [.int (prodF rs).1, .int (prodF rs).2] → Q (.ref r) H'
theorem ok_total (T : Txt K mg) : FnOk P w K mg base CX0 3 T.a_total T.d_total ["rows"] (sp_total K) := by
  have G_plus := ok_plus (P := P) (w := w) (base := base) T
  refine T.F_total.ok sc_total (fun vs H Q E h => ?_) (fun cdv A outer s H vs Q E hr h => ?_)
  · obtain ⟨R, rs, rfl, _⟩ := h
    rfl
  obtain ⟨R, rs, rfl, hR, hA, h5, k⟩ := h
  refine ⟨_, (pss_cons (ps_set (i := 1) sc_total.nd rfl (Or.inl rfl) (pe_glob (v := .ref T.a_ZERO) (by rfl) T.m_ZERO rfl))
    (pss_cons (ps_for PassesOwn.never rfl (pi_list (pv 0)) (pg_name (i := 2) sc_total.nd rfl (Or.inl rfl))
    (pss_one (ps_set (i := 1) sc_total.nd rfl (Or.inl rfl) (pe_call G_plus (hr.mono (by decide)) (by rfl) T.m_plus T.F_plus.kp T.b_plus .nil pass0 (pa_cons (pv 1) (pa_cons (pv 2) pa_nil))))))
    (pss_one (ps_ret (pv 1))))), ?_⟩
  have el : (refs rs).length = rs.length := List.length_map _
  refine ⟨_, rfl, R, rfl, ⟨_, hR⟩, for_list (K := K) (a := R) (xs := refs rs) (fun i σ' H' => ∃ (r : Addr) (v : Option V), σ' = [some (.ref R), some (.ref r), v] ∧ Same H H' ∧ SqT K H' r [.int (sumF (rs.take i)).1, .int (sumF (rs.take i)).2])
    ⟨T.a_ZERO, none, rfl, Same.refl _, T.q_ZERO _⟩ (fun i σ' H' _ ⟨_, _, _, g, _⟩ => g.seq hR) ?_ ?_⟩
  · rintro i y σ' H' hi ⟨r, v, rfl, g, hr'⟩
    obtain ⟨x, hx, rfl⟩ := refs_get hi
    have hm := List.mem_of_getElem? hx
    have hi5 : i < rs.length := (List.getElem?_eq_some_iff.mp hx).1
    have hs := sz_sum (hA.take i)
    have hA' := hA.same g
    have htl : (rs.take i).length = i := by rw [List.length_take]; omega
    rw [htl] at hs
    refine ⟨_, rfl, _, rfl, r, x.1, _, _, _, _, _, _, rfl, Fr.mk hr' hs, Fr.mk (hA' x hm).1 (hA' x hm).2, by omega, fun q hq => ?_⟩
    refine ⟨q, _, rfl, g.trans (same_new hq _), ?_⟩
    rw [sumF_next hx]
    exact SqT.of upd_same
  · rintro σ' H' ⟨r, v, rfl, g, hr'⟩
    rw [el, List.take_length] at hr'
    exact ⟨_, rfl, k r H' g hr'⟩
theorem ok_product_of (T : Txt K mg) : FnOk P w K mg base CX0 3 T.a_product_of T.d_product_of ["rows"] (sp_product K) := by
  have G_times := ok_times (P := P) (w := w) (base := base) T
  refine T.F_product_of.ok sc_product_of (fun vs H Q E h => ?_) (fun cdv A outer s H vs Q E hr h => ?_)
  · obtain ⟨R, rs, rfl, _⟩ := h
    rfl
  obtain ⟨R, rs, rfl, hR, hA, h5, k⟩ := h
  refine ⟨_, (pss_cons (ps_set (i := 1) sc_product_of.nd rfl (Or.inl rfl) (pe_glob (v := .ref T.a_ONE) (by rfl) T.m_ONE rfl))
    (pss_cons (ps_for PassesOwn.never rfl (pi_tup (pv 0)) (pg_name (i := 2) sc_product_of.nd rfl (Or.inl rfl))
    (pss_one (ps_set (i := 1) sc_product_of.nd rfl (Or.inl rfl) (pe_call G_times (hr.mono (by decide)) (by rfl) T.m_times T.F_times.kp T.b_times .nil pass0 (pa_cons (pv 1) (pa_cons (pv 2) pa_nil))))))
    (pss_one (ps_ret (pv 1))))), ?_⟩
  have el : (refs rs).length = rs.length := List.length_map _
  refine ⟨_, rfl, R, rfl, ⟨_, hR⟩, for_tup (K := K) (a := R) (xs := refs rs) (fun i σ' H' => ∃ (r : Addr) (v : Option V), σ' = [some (.ref R), some (.ref r), v] ∧ Same H H' ∧ SqT K H' r [.int (prodF (rs.take i)).1, .int (prodF (rs.take i)).2])
    ⟨T.a_ONE, none, rfl, Same.refl _, T.q_ONE _⟩ (fun i σ' H' _ ⟨_, _, _, g, _⟩ => Same.tup g hR) ?_ ?_⟩
  · rintro i y σ' H' hi ⟨r, v, rfl, g, hr'⟩
    obtain ⟨x, hx, rfl⟩ := refs_get hi
    have hm := List.mem_of_getElem? hx
    have hi5 : i < rs.length := (List.getElem?_eq_some_iff.mp hx).1
    have hs := sz_prod (hA.take i)
    have hA' := hA.same g
    have htl : (rs.take i).length = i := by rw [List.length_take]; omega
    rw [htl] at hs
    refine ⟨_, rfl, _, rfl, r, x.1, _, _, _, _, _, _, rfl, Fr.mk hr' hs, Fr.mk (hA' x hm).1 (hA' x hm).2, by omega, fun q hq => ?_⟩
    refine ⟨q, _, rfl, g.trans (same_new hq _), ?_⟩
    rw [prodF_next hx]
    exact SqT.of upd_same
  · rintro σ' H' ⟨r, v, rfl, g, hr'⟩
    rw [el, List.take_length] at hr'
    exact ⟨_, rfl, k r H' g hr'⟩

/-! ### what is a whole number, what is a fraction -/
def wholeB : V → Option Bool
  | .int _ => some true
  | .bl _ => some false
  | .str _ => some false
  | .non => some false
  | _ => none
def sp_whole : Sp := fun vs H Q _ => ∃ (x : V) (b : Bool), vs = [x] ∧ wholeB x = some b ∧ Q (.bl b) H
theorem ok_is_whole (T : Txt K mg) : FnOk P w K mg base CX0 1 T.a_is_whole T.d_is_whole ["value"] sp_whole := by
  refine T.F_is_whole.ok sc_is_whole (fun vs H Q E h => ?_) (fun cdv A outer s H vs Q E hr h => ?_)
  · obtain ⟨x, b, rfl, _⟩ := h
    rfl
  obtain ⟨x, b, rfl, hb, k⟩ := h
  refine ⟨_, (pss_one (ps_ret (pe_and (pe_callB call_isi (by rfl) T.z_isinstance (by decide +kernel) (pa_cons (pv 0) (pa_cons (pe_bltn (v := .ty "int") (by rfl) T.z_int (by decide +kernel) rfl) pa_nil))) (pe_one (pe_not (pe_callB call_isi (by rfl) T.z_isinstance (by decide +kernel) (pa_cons (pv 0) (pa_cons (pe_bltn (v := .ty "bool") (by rfl) T.z_bool (by decide +kernel) rfl) pa_nil)))))))), ?_⟩
  cases x with
  | int i =>
    cases hb
    exact ⟨_, rfl, .int i, .ty "int", .type "int", .type "int", true, rfl, .ty _, .base (.int i), kit_ty (by decide +kernel), _, rfl, iteT ⟨_, rfl, .int i, .ty "bool", .type "int", .type "bool", false, rfl, .ty _, .base (.int i), kit_ty (by decide +kernel), _, rfl, k⟩⟩
  | bl i =>
    cases hb
    exact ⟨_, rfl, .bl i, .ty "int", .type "bool", .type "int", true, rfl, .ty _, .base (.bl i), kit_ty (by decide +kernel), _, rfl, iteT ⟨_, rfl, .bl i, .ty "bool", .type "bool", .type "bool", true, rfl, .ty _, .base (.bl i), kit_ty (by decide +kernel), _, rfl, k⟩⟩
  | str i =>
    cases hb
    exact ⟨_, rfl, .str i, .ty "int", .type "str", .type "int", false, rfl, .ty _, .base (.str i), kit_ty (by decide +kernel), _, rfl, iteF k⟩
  | non =>
    cases hb
    exact ⟨_, rfl, .non, .ty "int", .type "NoneType", .type "int", false, rfl, .ty _, .base .non, kit_ty (by decide +kernel), _, rfl, iteF k⟩
  | _ => cases hb
def pairB (x y : V) : Option Bool :=
  match x, y with
  | .int a, .int b => some (decide (1 ≤ b) && decide (((Nat.gcd a.natAbs b.natAbs : Nat) : Int) = 1))
  | .int _, y => (wholeB y).map fun _ => false
  | x, _ => (wholeB x).map fun _ => false
/-- what is_fraction tells of a value -/
inductive IsFr (K : PySem.W.Frag) (H : Hp) : V → Bool → Prop where
  | pair {p : Addr} {x y : V} {b : Bool} (h : H p = some (.tup [x, y])) (e : pairB x y = some b) : IsFr K H (.ref p) b
  | long {p : Addr} {xs : List V} (h : H p = some (.tup xs)) (n : xs.length ≠ 2) : IsFr K H (.ref p) false
  | lst {p : Addr} {xs : List V} (h : H p = some (.lst xs)) : IsFr K H (.ref p) false
  | flat {x : V} {t : String} (h : ∀ H, TyX K H x (.type t)) (n : kitB t "tuple" = some false) : IsFr K H x false
theorem IsFr.same {K : PySem.W.Frag} {H H' : Hp} {x : V} {b : Bool} (h : IsFr K H x b) (e : Same H H') : IsFr K H' x b := by
  cases h with
  | pair h q => exact .pair (e _ _ h) q
  | long h n => exact .long (e _ _ h) n
  | lst h => exact .lst (e _ _ h)
  | flat h n => exact .flat h n
def sp_isf (K : PySem.W.Frag) : Sp := fun vs H Q _ => ∃ (x : V) (b : Bool), vs = [x] ∧ IsFr K H x b ∧ Q (.bl b) H
theorem ok_is_fraction (T : Txt K mg) : FnOk P w K mg base CX0 2 T.a_is_fraction T.d_is_fraction ["value"] (sp_isf K) := by
  have G_is_whole := ok_is_whole (P := P) (w := w) (base := base) T
  refine T.F_is_fraction.ok sc_is_fraction (fun vs H Q E h => ?_) (fun cdv A outer s H vs Q E hr h => ?_)
  · obtain ⟨x, b, rfl, _⟩ := h
    rfl
  obtain ⟨x, b, rfl, hb, k⟩ := h
  refine ⟨_, (pss_cons (ps_if (PW.pt (pw_or (pt_not (pt_val (pe_callB call_isi (by rfl) T.z_isinstance (by decide +kernel) (pa_cons (pv 0) (pa_cons (pe_bltn (v := .ty "tuple") (by rfl) T.z_tuple (by decide +kernel) rfl) pa_nil))))) (pw_or1 (pt_cmpR op_ne (pe_callB call_len_seq (by rfl) T.z_len (by decide +kernel) (pa_cons (pv 0) pa_nil)) pe_int (nomark _))))) (pss_one (ps_ret pe_bl)) pss_nil)
    (pss_cons (ps_asg (pv 0) (pg_tup rfl (pgs_cons (pg_name (i := 1) sc_is_fraction.nd rfl (Or.inl rfl)) (pgs_cons (pg_name (i := 2) sc_is_fraction.nd rfl (Or.inl rfl)) pgs_nil))))
    (pss_one (ps_ret (pe_and (pe_call G_is_whole (hr.mono (by decide)) (by rfl) T.m_is_whole T.F_is_whole.kp T.b_is_whole .nil pass0 (pa_cons (pv 1) pa_nil)) (pe_and (pe_call G_is_whole (hr.mono (by decide)) (by rfl) T.m_is_whole T.F_is_whole.kp T.b_is_whole .nil pass0 (pa_cons (pv 2) pa_nil)) (pe_and (pe_cmpR op_ge (pv 2) pe_int (nomark _)) (pe_one (pe_cmpR op_eq (pe_callBfun cr_gcd (by rfl) T.m_gcd (pa_cons (pv 1) (pa_cons (pv 2) pa_nil))) pe_int (nomark _)))))))))), ?_⟩
  refine seq_cut (fun σ' H' => H' = H ∧ ∃ p y z, x = .ref p ∧ H p = some (.tup [y, z]) ∧ pairB y z = some b ∧ σ' = [some (.ref p), none, none]) ?_ (fun tail => ?_)
  rotate_left
  · cases hb with
    | @pair p y z b hp e =>
      refine ⟨_, rfl, .ref p, .ty "tuple", .type "tuple", .type "tuple", true, rfl, .ty _, .base (.tup hp), kit_ty (by decide +kernel), _, rfl, ?_⟩
      refine iteF ⟨_, rfl, p, _, rfl, .inr (SqT.of hp), rfl, _, rfl, ?_⟩
      exact tail _ _ ⟨rfl, p, y, z, rfl, hp, e, rfl⟩
    | @long p xs hp n =>
      refine ⟨_, rfl, .ref p, .ty "tuple", .type "tuple", .type "tuple", true, rfl, .ty _, .base (.tup hp), kit_ty (by decide +kernel), _, rfl, ?_⟩
      refine iteF ⟨_, rfl, p, _, rfl, .inr (SqT.of hp), rfl, _, rfl, ?_⟩
      have e : (!decide (V.int (xs.length : Int) = V.int 2)) = true := by
        rw [decide_eq_false (fun z => n (by injection z with z; omega))]
        rfl
      rw [e]
      exact iteT k
    | @lst p xs hp =>
      refine ⟨_, rfl, .ref p, .ty "tuple", .type "list", .type "tuple", false, rfl, .ty _, .base (.lst hp), kit_ty (by decide +kernel), _, rfl, ?_⟩
      exact iteT k
    | @flat x t h n =>
      refine ⟨_, rfl, x, .ty "tuple", .type t, .type "tuple", false, rfl, .ty _, h _, kit_ty n, _, rfl, ?_⟩
      exact iteT k
  rintro σ' H' ⟨rfl, p, y, z, rfl, hp, e, rfl⟩
  refine ⟨_, rfl, _, _, rfl, SqT.of hp, rfl, _, _, rfl, _, _, rfl, rfl, ?_⟩
  -- is_whole(above) and is_whole(below) and below >= 1 and gcd(above, below) == 1
  have fin1 : ∀ c, wholeB y = some false → pairB y z = some c → c = false := fun c h1 h2 => by
    cases y <;> first | cases h1 | (cases h1; done) | skip
    all_goals (first | (cases h2; rfl) | (cases z <;> cases h2 <;> rfl))
  obtain ⟨c1, hc1⟩ : ∃ c, wholeB y = some c := by
    cases y <;> first | exact ⟨_, rfl⟩ | (cases z <;> cases e)
  refine ⟨_, rfl, y, c1, rfl, hc1, _, rfl, ?_⟩
  cases c1 with
  | false =>
    rw [fin1 b hc1 e] at k
    exact iteF k
  | true =>
    obtain ⟨i, rfl⟩ : ∃ i, y = V.int i := by
      cases y <;> first | exact ⟨_, rfl⟩ | cases hc1
    obtain ⟨c2, hc2⟩ : ∃ c, wholeB z = some c := by
      cases z <;> first | exact ⟨_, rfl⟩ | cases e
    refine iteT ⟨_, rfl, z, c2, rfl, hc2, _, rfl, ?_⟩
    cases c2 with
    | false =>
      have eb : b = false := by
        cases z <;> first | (cases hc2; done) | exact (Option.some.inj e).symm
      rw [eb] at k
      exact iteF k
    | true =>
      obtain ⟨j, rfl⟩ : ∃ j, z = V.int j := by
        cases z <;> first | exact ⟨_, rfl⟩ | cases hc2
      refine iteT ⟨_, rfl, _, _, rfl, rfl, _, rfl, ?_⟩
      have eb : b = (decide (1 ≤ j) && decide (((Nat.gcd i.natAbs j.natAbs : Nat) : Int) = 1)) := (Option.some.inj e).symm
      by_cases h1 : (1 : Int) ≤ j
      · rw [decide_eq_true h1] at eb ⊢
        refine iteT ⟨_, rfl, _, rfl, i, j, rfl, rfl, ?_⟩
        rw [Bool.true_and] at eb
        have e2 : decide (V.int ((Nat.gcd i.natAbs j.natAbs : Nat) : Int) = V.int 1) = b := by
          rw [eb]
          generalize ((Nat.gcd i.natAbs j.natAbs : Nat) : Int) = g
          by_cases h2 : g = 1
          · rw [h2]
            rfl
          · rw [decide_eq_false h2, decide_eq_false (fun z => h2 (by injection z))]
        show Q (V.bl (decide (V.int ((Nat.gcd i.natAbs j.natAbs : Nat) : Int) = V.int 1))) _
        rw [e2]
        exact k
      · rw [decide_eq_false h1] at eb ⊢
        rw [eb] at k
        exact iteF k

def sp_llow : Sp := fun vs H Q _ => ∃ (a b : Int) (n : Nat), vs = [.int a, .int b] ∧ 0 < b ∧ a.natAbs < 2 ^ n ∧ b.natAbs < 2 ^ n ∧ 0 < n ∧ n ≤ 1000 ∧ newF H Q (low a b)
theorem ok__law_lowest (T : Txt K mg) : FnOk P w K mg base CX0 1 T.a__law_lowest T.d__law_lowest ["above", "below"] sp_llow := by
  refine T.F__law_lowest.ok sc__law_lowest (fun vs H Q E h => ?_) (fun cdv A outer s H vs Q E hr h => ?_)
  · obtain ⟨a, b, n, rfl, _⟩ := h
    rfl
  obtain ⟨a, b, n, rfl, b0, ha, hb, n0, n9, k⟩ := h
  refine ⟨_, (pss_cons (ps_par (i := 2) (j := 3) rfl sc__law_lowest.nd rfl rfl (by decide) rfl rfl (pa_cons (pe_callB call_abs (by rfl) T.z_abs (by decide +kernel) (pa_cons (pv 0) pa_nil)) (pa_cons (pe_callB call_abs (by rfl) T.z_abs (by decide +kernel) (pa_cons (pv 1) pa_nil)) pa_nil)) (by rfl))
    (pss_cons (ps_for PassesOwn.never rfl (pi_range1 (by rfl) T.z_range (pa_cons pe_int pa_nil)) (pg_name (i := 4) sc__law_lowest.nd rfl (Or.inl rfl))
    (pss_cons (ps_if (pt_cmpR op_eq (pv 3) pe_int (nomark _)) (pss_one ps_break) pss_nil)
    (pss_one (ps_par (i := 2) (j := 3) rfl sc__law_lowest.nd rfl rfl (by decide) rfl rfl (pa_cons (pv 3) (pa_cons (pe_op op_mod (pe_callTy call_int1 (by rfl) T.z_int (by decide +kernel) (pa_cons (pv 2) pa_nil)) (pv 3)) pa_nil)) (by rfl)))))
    (pss_one (ps_ret (pe_tup (pa_cons (pe_op op_fdivA (pv 0) (pv 2)) (pa_cons (pe_op op_fdivA (pv 1) (pv 2)) pa_nil))))))), ?_⟩
  have abs_ : ∀ z : Int, (if z < 0 then -z else z) = ((z.natAbs : Nat) : Int) := fun z => by split <;> omega
  have e0 : sg a b = gq a b := by unfold sg; rw [if_neg (by omega)]
  have hd : CDivA a (gq a b) := by
    rw [← e0]
    exact ⟨sg_ne (by omega), Nat.lt_of_lt_of_le (PySem.Flt.log2_lt_of n0 (Nat.lt_of_le_of_lt (sg_le (by omega)) hb)) (by omega)⟩
  refine seq_cut (fun σ' H' => σ' = [some (.int a), some (.int b), some (.int ((a.natAbs : Nat) : Int)), some (.int ((b.natAbs : Nat) : Int)), none] ∧ H' = H) ?_ (fun tail => ?_)
  rotate_left
  · refine ⟨_, rfl, _, rfl, _, rfl, _, rfl, _, _, rfl, tail _ _ ⟨?_, rfl⟩⟩
    rw [abs_ a, abs_ b]
    rfl
  rintro σ' H' ⟨rfl, rfl⟩
  refine seq_cut (fun σ' H'' => ∃ z w : Option V, σ' = [some (.int a), some (.int b), some (.int (gq a b)), z, w] ∧ H'' = H') ?_ (fun tail => ?_)
  rotate_left
  · refine ⟨5000, rfl, by decide, by decide, for_range (lo := 0) (n := 5000) (fun i σ' H'' => ∃ (x y : Nat) (w : Option V), σ' = [some (.int a), some (.int b), some (.int (x : Int)), some (.int (y : Int)), w] ∧ H'' = H' ∧ Eu n (Nat.gcd a.natAbs b.natAbs) x y i)
      ⟨_, _, none, rfl, rfl, rfl, .inl ⟨rfl, by omega, hb⟩⟩ ?_ ?_⟩
    · rintro i σ' H'' hi ⟨x, y, w, rfl, rfl, he⟩
      refine seq_cut (fun σ' H3 => y ≠ 0 ∧ ∃ w, σ' = [some (.int a), some (.int b), some (.int (x : Int)), some (.int (y : Int)), w] ∧ H3 = H'') ?_ (fun tail2 => ?_)
      rotate_left
      · refine ⟨_, rfl, rfl, _, rfl, ?_⟩
        refine ite2 (fun c => ?_) (fun c => ?_)
        · have c' : V.int (y : Int) = V.int 0 := of_decide_eq_true c
          have y0 : y = 0 := by
            injection c' with c'
            omega
          subst y0
          have hx : x = Nat.gcd a.natAbs b.natAbs := he.stop
          subst hx
          exact tail _ _ ⟨_, _, rfl, rfl⟩
        · have c' : ¬ V.int (y : Int) = V.int 0 := of_decide_eq_false (Bool.eq_false_iff.mpr c)
          exact tail2 _ _ ⟨fun z => c' (by rw [z]; rfl), _, rfl, rfl⟩
      rintro σ' H3 ⟨y0, w, rfl, rfl⟩
      refine ⟨_, rfl, _, rfl, .inl ⟨_, rfl, _, rfl, _, _, rfl, rfl, by omega, _, _, rfl, ?_⟩⟩
      refine ⟨y, x % y, w, ?_, rfl, he.next y0⟩
      rw [Int.natCast_emod]
      rfl
    · rintro σ' H'' ⟨x, y, w, rfl, rfl, he⟩
      have y0 := he.last n9
      subst y0
      have hx : x = Nat.gcd a.natAbs b.natAbs := he.stop
      subst hx
      exact tail _ _ ⟨_, _, rfl, rfl⟩
  rintro σ' H'' ⟨z, w, rfl, rfl⟩
  refine ⟨_, rfl, _, rfl, _, _, rfl, rfl, hd, _, rfl, _, rfl, _, _, rfl, rfl, hd, (by show 2 ≤ sizeLine; decide), fun r hr' => ?_⟩
  have q := k r hr'
  unfold low at q
  rw [e0] at q
  exact q

/-! ### the law -/
def sp_law (K : PySem.W.Frag) : Sp := fun vs H Q _ => ∃ (a : Addr) (ns : List Int), vs = [.ref a] ∧ SqF K H a (ns.map V.int) ∧ ns.length ≤ 63 ∧ ∀ H', Q (.bl true) H'
theorem shaped2 (x y : Int) : SeqAt.shaped (.tuple [.int x, .int y]) = true := rfl
theorem dp2 {K : PySem.W.Frag} {H : Hp} {p : Addr} {x y : Int} (h : SqT K H p [.int x, .int y]) : Dp K H (.ref p) (.tuple [.int x, .int y]) := .tup h (.cons (.int _) (.cons (.int _) .nil))
theorem ne_same {K : PySem.W.Frag} {H : Hp} {p q : Addr} {x y : Int} {Q : VK} (h : SqT K H p [.int x, .int y]) (h' : SqT K H q [.int x, .int y]) (k : Q (.bl false) H) : rNeD K (.ref p) (.ref q) H Q := by
  refine ⟨_, _, dp2 h, dp2 h', shaped2 _ _, shaped2 _ _, ?_⟩
  rw [SeqAt.eqv_refl _ (SeqAt.canLay_of_shaped (shaped2 x y))]
  exact k
theorem pairB_lw {p q : Int} (l : Lw p q) : pairB (.int p) (.int q) = some true := by
  show some (decide (1 ≤ q) && decide (((Nat.gcd p.natAbs q.natAbs : Nat) : Int) = 1)) = some true
  have := l.pos
  rw [decide_eq_true (show (1 : Int) ≤ q by omega), l.cop]
  rfl
theorem pairB_two {p q : Int} : pairB (.int (2 * p)) (.int (2 * q)) = some false := by
  show some (decide (1 ≤ 2 * q) && decide (((Nat.gcd (2 * p).natAbs (2 * q).natAbs : Nat) : Int) = 1)) = some false
  have h := not_low2 (a := p) (b := q)
  rw [decide_eq_false (p := ((Nat.gcd (2 * p).natAbs (2 * q).natAbs : Nat) : Int) = 1) (by omega), Bool.and_false]
theorem new_at {H : Hp} {p : Addr} (_ : H p = none) (o : HO) : upd H p o p = some o := upd_same
structure Rows (H : Hp) (R : Addr) (rs : Fs) : Prop where
  at_ : H R = some (.lst (refs rs))
  all : ∀ x ∈ rs, H x.1 = some (.tup [.int x.2.1, .int x.2.2]) ∧ Sz x.2 72 ∧ Lw x.2.1 x.2.2
theorem Rows.same {H H' : Hp} {R : Addr} {rs : Fs} (h : Rows H R rs) (e : Same H H') : Rows H' R rs := ⟨e _ _ h.at_, fun x m => ⟨e _ _ (h.all x m).1, (h.all x m).2⟩⟩
theorem Rows.but {H H' : Hp} {R d : Addr} {rs : Fs} {ys : List V} (h : Rows H R rs) (hd : H d = some (.lst ys)) (n : R ≠ d) (e : But d H H') : Rows H' R rs :=
  ⟨e _ _ n h.at_, fun x m => ⟨e _ _ (ne_of (h.all x m).1 hd (by intro z; cases z)) (h.all x m).1, (h.all x m).2⟩⟩
theorem Rows.allF {K : PySem.W.Frag} {H : Hp} {R : Addr} {rs : Fs} (h : Rows H R rs) : AllF K H rs := fun x m => ⟨SqT.of (h.all x m).1, (h.all x m).2.1⟩
theorem Drw.at_ {K : PySem.W.Frag} {H : Hp} {d : Addr} (h : Drw K H d) : ∃ ys, H d = some (.lst ys) := let ⟨_, _, _, h1, _⟩ := h; ⟨_, h1⟩
theorem Rows.drw {K : PySem.W.Frag} {H H' : Hp} {R d : Addr} {rs : Fs} (h : Rows H R rs) (hd : Drw K H d) (n : R ≠ d) (e : But d H H') : Rows H' R rs := let ⟨_, q⟩ := hd.at_; h.but q n e
/-- the law's slots -/
def sl (a d R : Addr) (z3 z4 z5 z6 z7 z8 z9 z10 : Option V) : L2.St := [some (.ref a), some (.ref d), some (.ref R), z3, z4, z5, z6, z7, z8, z9, z10]
theorem ok_law (T : Txt K mg) : FnOk P w K mg base CX0 4 T.a_law T.d_law ["script"] (sp_law K) := by
  have G__law_lowest := ok__law_lowest (P := P) (w := w) (base := base) T
  have G_is_fraction := ok_is_fraction (P := P) (w := w) (base := base) T
  have G_plus := ok_plus (P := P) (w := w) (base := base) T
  have G_times := ok_times (P := P) (w := w) (base := base) T
  have G_total := ok_total (P := P) (w := w) (base := base) T
  have G_product_of := ok_product_of (P := P) (w := w) (base := base) T
  have G__law_take := ok__law_take (P := P) (w := w) (base := base) T
  have G__law_pick := ok__law_pick (P := P) (w := w) (base := base) T
  have G_lowest := ok_lowest (P := P) (w := w) (base := base) T
  have G_minus := ok_minus (P := P) (w := w) (base := base) T
  have G_is_less := ok_is_less (P := P) (w := w) (base := base) T
  have G_over := ok_over (P := P) (w := w) (base := base) T
  refine T.F_law.ok sc_law (fun vs H Q E h => ?_) (fun cdv A outer s H vs Q E hr h => ?_)
  · obtain ⟨a, ns, rfl, _⟩ := h
    rfl
  obtain ⟨a, ns, rfl, hS, h63, k⟩ := h
  refine ⟨_, (pss_cons (ps_set (i := 1) sc_law.nd rfl (Or.inl rfl) (pe_lst (pa_cons (pv 0) (pa_cons pe_int pa_nil))))
    (pss_cons (ps_set (i := 2) sc_law.nd rfl (Or.inl rfl) (pe_lst pa_nil))
    (pss_cons (ps_for PassesOwn.never rfl (pi_range1 (by rfl) T.z_range (pa_cons pe_int pa_nil)) (pg_name (i := 3) sc_law.nd rfl (Or.inl rfl))
    (pss_cons (ps_par (i := 4) (j := 5) rfl sc_law.nd rfl rfl (by decide) rfl rfl (pa_cons (pe_op op_sub (pe_call G__law_take (hr.mono (by decide)) (by rfl) T.m__law_take T.F__law_take.kp T.b__law_take .nil pass0 (pa_cons (pv 1) (pa_cons pe_int pa_nil))) pe_int) (pa_cons (pe_op op_mul (pe_op op_add pe_int (pe_call G__law_take (hr.mono (by decide)) (by rfl) T.m__law_take T.F__law_take.kp T.b__law_take .nil pass0 (pa_cons (pv 1) (pa_cons pe_int pa_nil)))) (pe_call G__law_pick (hr.mono (by decide)) (by rfl) T.m__law_pick T.F__law_pick.kp T.b__law_pick .nil pass0 (pa_cons (pv 1) (pa_cons (pe_lst (pa_cons pe_int (pa_cons (pe_op op_pow pe_int pe_int) pa_nil))) pa_nil)))) pa_nil)) (by rfl))
    (pss_cons (ps_set (i := 6) sc_law.nd rfl (Or.inl rfl) (pe_call G__law_lowest (hr.mono (by decide)) (by rfl) T.m__law_lowest T.F__law_lowest.kp T.b__law_lowest .nil pass0 (pa_cons (pv 4) (pa_cons (pv 5) pa_nil))))
    (pss_cons (ps_if (PW.pt (pw_or (pt_cmpR (op_neD (hu64 hr)) (pe_call G_lowest (hr.mono (by decide)) (by rfl) T.m_lowest T.F_lowest.kp T.b_lowest .nil pass0 (pa_cons (pv 4) (pa_cons (pv 5) pa_nil))) (pv 6) (nomark _)) (pw_or (pt_cmpR (op_neD (hu64 hr)) (pe_call G_lowest (hr.mono (by decide)) (by rfl) T.m_lowest T.F_lowest.kp T.b_lowest .nil pass0 (pa_cons (pe_un un_neg (pv 4)) (pa_cons (pe_un un_neg (pv 5)) pa_nil))) (pv 6) (nomark _)) (pw_or (pt_not (pt_val (pe_call G_is_fraction (hr.mono (by decide)) (by rfl) T.m_is_fraction T.F_is_fraction.kp T.b_is_fraction .nil pass0 (pa_cons (pv 6) pa_nil)))) (pw_or1 (pt_val (pe_call G_is_fraction (hr.mono (by decide)) (by rfl) T.m_is_fraction T.F_is_fraction.kp T.b_is_fraction .nil pass0 (pa_cons (pe_tup (pa_cons (pe_op op_mul pe_int (pe_ix ix_tup (pv 6) pe_int (fun _ _ => rfl))) (pa_cons (pe_op op_mul pe_int (pe_ix ix_tup (pv 6) pe_int (fun _ _ => rfl))) pa_nil))) pa_nil)))))))) (pss_one (ps_ret pe_bl)) pss_nil)
    (pss_one (ps_expr (pe_bm PySem.F.plainAttrs_list PySem.F.slot_list_append PySem.F.type_list_append mt_append (pv 2) (pa_cons (pv 6) pa_nil))))))))
    (pss_cons (ps_for PassesOwn.never rfl (pi_list (pv 2)) (pg_name (i := 6) sc_law.nd rfl (Or.inl rfl))
    (pss_one (ps_for PassesOwn.never rfl (pi_list (pv 2)) (pg_name (i := 7) sc_law.nd rfl (Or.inl rfl))
    (pss_cons (ps_if (PW.pt (pw_or (pt_cmpR (op_neD (hu64 hr)) (pe_call G_plus (hr.mono (by decide)) (by rfl) T.m_plus T.F_plus.kp T.b_plus .nil pass0 (pa_cons (pv 6) (pa_cons (pv 7) pa_nil))) (pe_call G__law_lowest (hr.mono (by decide)) (by rfl) T.m__law_lowest T.F__law_lowest.kp T.b__law_lowest .nil pass0 (pa_cons (pe_op op_add (pe_op op_mulW (pe_ix ix_tup (pv 6) pe_int (fun _ _ => rfl)) (pe_ix ix_tup (pv 7) pe_int (fun _ _ => rfl))) (pe_op op_mulW (pe_ix ix_tup (pv 7) pe_int (fun _ _ => rfl)) (pe_ix ix_tup (pv 6) pe_int (fun _ _ => rfl)))) (pa_cons (pe_op op_mulW (pe_ix ix_tup (pv 6) pe_int (fun _ _ => rfl)) (pe_ix ix_tup (pv 7) pe_int (fun _ _ => rfl))) pa_nil))) (nomark _)) (pw_or1 (pt_cmpR (op_neD (hu64 hr)) (pe_call G_minus (hr.mono (by decide)) (by rfl) T.m_minus T.F_minus.kp T.b_minus .nil pass0 (pa_cons (pe_call G_plus (hr.mono (by decide)) (by rfl) T.m_plus T.F_plus.kp T.b_plus .nil pass0 (pa_cons (pv 6) (pa_cons (pv 7) pa_nil))) (pa_cons (pv 7) pa_nil))) (pv 6) (nomark _))))) (pss_one (ps_ret pe_bl)) pss_nil)
    (pss_cons (ps_if (PW.pt (pw_or (pt_cmpR (op_neD (hu64 hr)) (pe_call G_times (hr.mono (by decide)) (by rfl) T.m_times T.F_times.kp T.b_times .nil pass0 (pa_cons (pv 6) (pa_cons (pv 7) pa_nil))) (pe_call G__law_lowest (hr.mono (by decide)) (by rfl) T.m__law_lowest T.F__law_lowest.kp T.b__law_lowest .nil pass0 (pa_cons (pe_op op_mulW (pe_ix ix_tup (pv 6) pe_int (fun _ _ => rfl)) (pe_ix ix_tup (pv 7) pe_int (fun _ _ => rfl))) (pa_cons (pe_op op_mulW (pe_ix ix_tup (pv 6) pe_int (fun _ _ => rfl)) (pe_ix ix_tup (pv 7) pe_int (fun _ _ => rfl))) pa_nil))) (nomark _)) (pw_or1 (pt_cmpR op_ne (pe_call G_is_less (hr.mono (by decide)) (by rfl) T.m_is_less T.F_is_less.kp T.b_is_less .nil pass0 (pa_cons (pv 6) (pa_cons (pv 7) pa_nil))) (pe_cmpR op_lt (pe_op op_mulW (pe_ix ix_tup (pv 6) pe_int (fun _ _ => rfl)) (pe_ix ix_tup (pv 7) pe_int (fun _ _ => rfl))) (pe_op op_mulW (pe_ix ix_tup (pv 7) pe_int (fun _ _ => rfl)) (pe_ix ix_tup (pv 6) pe_int (fun _ _ => rfl))) (nomark _)) (nomark _))))) (pss_one (ps_ret pe_bl)) pss_nil)
    (pss_one (ps_if (PW.pt (pw_and (pt_cmpR op_ne (pe_ix ix_tup (pv 7) pe_int (fun _ _ => rfl)) pe_int (nomark _)) (pw_and1 (PW.pt (pw_or (pt_cmpR (op_neD (hu64 hr)) (pe_call G_times (hr.mono (by decide)) (by rfl) T.m_times T.F_times.kp T.b_times .nil pass0 (pa_cons (pe_call G_over (hr.mono (by decide)) (by rfl) T.m_over T.F_over.kp T.b_over .nil pass0 (pa_cons (pv 6) (pa_cons (pv 7) pa_nil))) (pa_cons (pv 7) pa_nil))) (pv 6) (nomark _)) (pw_or1 (pt_cmpR op_lt (pe_ix ix_tup (pe_call G_over (hr.mono (by decide)) (by rfl) T.m_over T.F_over.kp T.b_over .nil pass0 (pa_cons (pv 6) (pa_cons (pv 7) pa_nil))) pe_int (fun _ _ => rfl)) pe_int (nomark _)))))))) (pss_one (ps_ret pe_bl)) pss_nil)))))))
    (pss_cons (ps_asg (pe_tup (pa_cons (pe_tup (pa_cons pe_int (pa_cons pe_int pa_nil))) (pa_cons (pe_tup (pa_cons pe_int (pa_cons pe_int pa_nil))) pa_nil))) (pg_tup rfl (pgs_cons (pg_name (i := 8) sc_law.nd rfl (Or.inl rfl)) (pgs_cons (pg_name (i := 9) sc_law.nd rfl (Or.inl rfl)) pgs_nil))))
    (pss_cons (ps_for PassesOwn.never rfl (pi_list (pv 2)) (pg_name (i := 6) sc_law.nd rfl (Or.inl rfl))
    (pss_one (ps_par (i := 8) (j := 9) rfl sc_law.nd rfl rfl (by decide) rfl rfl (pa_cons (pe_call G_plus (hr.mono (by decide)) (by rfl) T.m_plus T.F_plus.kp T.b_plus .nil pass0 (pa_cons (pv 8) (pa_cons (pv 6) pa_nil))) (pa_cons (pe_call G_times (hr.mono (by decide)) (by rfl) T.m_times T.F_times.kp T.b_times .nil pass0 (pa_cons (pv 9) (pa_cons (pv 6) pa_nil))) pa_nil)) (by rfl))))
    (pss_cons (ps_if (PW.pt (pw_or (pt_cmpR (op_neD (hu64 hr)) (pe_call G_total (hr.mono (by decide)) (by rfl) T.m_total T.F_total.kp T.b_total .nil pass0 (pa_cons (pv 2) pa_nil)) (pv 8) (nomark _)) (pw_or (pt_cmpR (op_neD (hu64 hr)) (pe_call G_product_of (hr.mono (by decide)) (by rfl) T.m_product_of T.F_product_of.kp T.b_product_of .nil pass0 (pa_cons (pe_callTy call_tuple_of (by rfl) T.z_tuple (by decide +kernel) (pa_cons (pv 2) pa_nil)) pa_nil)) (pv 9) (nomark _)) (pw_or (pt_cmpR (op_neD (hu64 hr)) (pe_call G_total (hr.mono (by decide)) (by rfl) T.m_total T.F_total.kp T.b_total .nil pass0 (pa_cons (pe_lst pa_nil) pa_nil)) (pe_tup (pa_cons pe_int (pa_cons pe_int pa_nil))) (nomark _)) (pw_or1 (pt_cmpR (op_neD (hu64 hr)) (pe_call G_product_of (hr.mono (by decide)) (by rfl) T.m_product_of T.F_product_of.kp T.b_product_of .nil pass0 (pa_cons (pe_tup pa_nil) pa_nil)) (pe_tup (pa_cons pe_int (pa_cons pe_int pa_nil))) (nomark _))))))) (pss_one (ps_ret pe_bl)) pss_nil)
    (pss_one (ps_ret (pe_not (pe_callB (cr_any rfl) (by rfl) T.z_any (by decide +kernel) (pa_cons (pe_lc (own := [("value", 10)]) rfl sc_law.nd (pi_tup (pe_tup (pa_cons (pe_tup (pa_cons pe_int (pa_cons pe_int pa_nil))) (pa_cons (pe_tup (pa_cons pe_int (pa_cons (pe_un un_neg pe_int) pa_nil))) (pa_cons (pe_lst (pa_cons pe_int (pa_cons pe_int pa_nil))) (pa_cons (pe_tup (pa_cons pe_int (pa_cons pe_int (pa_cons pe_int pa_nil)))) (pa_cons (pe_tup (pa_cons pe_str (pa_cons pe_int pa_nil))) (pa_cons (pe_tup (pa_cons pe_bl (pa_cons pe_int pa_nil))) (pa_cons pe_non (pa_cons pe_int (pa_cons pe_str (pa_cons (pe_tup (pa_cons pe_int (pa_cons pe_int pa_nil))) (pa_cons (pe_tup (pa_cons pe_int (pa_cons pe_bl pa_nil))) pa_nil))))))))))))) (blkOk_by (own := [("value", 10)]) (N := ["script", "draw", "rows", "turn", "above", "below", "one", "other", "sums", "products", "value"]) (sc := defScope s_law) (by decide +kernel)) (fun _ _ _ _ _ => (pg_name (i := 10) sc_law.nd rfl (Or.inl rfl))) (fun _ _ _ _ _ => pts_nil) (fun _ _ _ _ _ => (pe_call G_is_fraction (hr.mono (by decide)) (by rfl) T.m_is_fraction T.F_is_fraction.kp T.b_is_fraction .nil pass0 (pa_cons (pv 10) pa_nil)))) pa_nil)))))))))))), ?_⟩
  -- draw = [script, 0]
  refine seq_cut (fun σ' H' => ∃ d, σ' = [some (.ref a), some (.ref d), none, none, none, none, none, none, none, none, none] ∧ Drw K H' d) ?_ (fun tail => ?_)
  rotate_left
  · refine ⟨_, rfl, (by show 2 ≤ sizeLine; decide), fun d hd => ?_⟩
    exact tail _ _ ⟨d, rfl, a, ns, 0, upd_same, hS.same (same_new hd _), h63⟩
  rintro σ' H1 ⟨d, rfl, hd⟩
  -- rows = []
  refine seq_cut (fun σ' H' => ∃ R, σ' = sl a d R none none none none none none none none ∧ Drw K H' d ∧ Rows H' R [] ∧ R ≠ d) ?_ (fun tail => ?_)
  rotate_left
  · refine ⟨(by show 0 ≤ sizeLine; decide), fun R hR => ?_⟩
    obtain ⟨ys, hy⟩ := hd.at_
    exact tail _ _ ⟨R, rfl, hd.same (same_new hR _), ⟨upd_same, fun x m => nomatch m⟩, (ne_of_none hy hR).symm⟩
  rintro σ' H2 ⟨R, rfl, hd, hR, nR⟩
  -- for turn in range(5)
  refine seq_cut (fun σ' H' => ∃ rs z3 z4 z5 z6, σ' = sl a d R z3 z4 z5 z6 none none none none ∧ Rows H' R rs ∧ rs.length = 5) ?_ (fun tail => ?_)
  rotate_left
  · refine ⟨5, rfl, by decide, by decide, for_range (lo := 0) (n := 5) (fun i σ' H' => ∃ rs z3 z4 z5 z6, σ' = sl a d R z3 z4 z5 z6 none none none none ∧ Drw K H' d ∧ Rows H' R rs ∧ rs.length = i)
      ⟨[], _, _, _, _, rfl, hd, hR, rfl⟩ ?_ ?_⟩
    rotate_left
    · rintro σ' H' ⟨rs, z3, z4, z5, z6, rfl, hd, hR, hl⟩
      exact tail _ _ ⟨rs, _, _, _, _, rfl, hR, hl⟩
    rintro i σ' H3 hi ⟨rs, z3, z4, z5, z6, rfl, hd, hR, hl⟩
    -- above, below = ..
    refine seq_cut (fun σ' H' => ∃ z3 z6 x y, σ' = sl a d R z3 (some (.int x)) (some (.int y)) z6 none none none none ∧ Drw K H' d ∧ Rows H' R rs ∧ 0 < y ∧ x.natAbs < 2 ^ 72 ∧ y.natAbs < 2 ^ 72) ?_ (fun tail => ?_)
    rotate_left
    · refine ⟨_, rfl, d, 41, rfl, hd, by decide, fun r1 H4 r10 r11 hd4 b4 => ?_⟩
      have hR4 := hR.drw hd nR b4
      refine ⟨_, _, rfl, rfl, _, rfl, d, 30, rfl, hd4, by decide, fun r2 H5 r20 r21 hd5 b5 => ?_⟩
      have hR5 := hR4.drw hd4 nR b5
      refine ⟨_, _, rfl, rfl, _, rfl, _, _, rfl, rfl, ⟨by decide, by decide, by decide⟩, (by show 2 ≤ sizeLine; decide), fun p hp => ?_⟩
      obtain ⟨ys, hy⟩ := hd5.at_
      refine ⟨d, p, _, rfl, hd5.same (same_new hp _), .inl ⟨SqL.of upd_same, (ne_of_none hy hp).symm⟩, by decide, fun j x H6 hx hd6 b6 => ?_⟩
      have hR6 := (hR5.same (same_new hp _)).drw (hd5.same (same_new hp _)) nR b6
      obtain ⟨e, rfl, he⟩ : ∃ e : Int, x = .int e ∧ (e = 1 ∨ e = 10 ^ 20) := by
        match j, hx with
        | 0, hx => exact ⟨1, (Option.some.inj hx).symm, .inl rfl⟩
        | 1, hx => exact ⟨10 ^ 20, (Option.some.inj hx).symm, .inr rfl⟩
      have e2 : (2 : Nat) ^ 72 = 4722366482869645213696 := by decide
      refine ⟨_, _, rfl, rfl, .inl ⟨by omega, by omega⟩, _, _, rfl, tail _ _ ⟨_, _, _, _, rfl, hd6, hR6, ?_, ?_, ?_⟩⟩
      · rcases he with rfl | rfl <;> omega
      · rw [e2]
        omega
      · rw [e2]
        rcases he with rfl | rfl <;> omega
    rintro σ' H4 ⟨z3, z6, x, y, rfl, hd, hR, y0, hx, hy⟩
    have y1 : y ≠ 0 := by omega
    -- one = _law_lowest(above, below)
    refine seq_cut (fun σ' H' => ∃ q, σ' = sl a d R z3 (some (.int x)) (some (.int y)) (some (.ref q)) none none none none ∧ Drw K H' d ∧ Rows H' R rs ∧ H' q = some (.tup [.int (low x y).1, .int (low x y).2])) ?_ (fun tail => ?_)
    rotate_left
    · refine ⟨_, rfl, _, rfl, x, y, 72, rfl, y0, hx, hy, by decide, by decide, fun q hq => ?_⟩
      exact tail _ _ ⟨q, rfl, hd.same (same_new hq _), hR.same (same_new hq _), upd_same⟩
    rintro σ' H5 ⟨q, rfl, hd, hR, hq⟩
    have lw := (low_spec (a := x) y1).1
    have sz := low_bound (n := 72) y1 hx hy
    -- the tests
    refine seq_cut (fun σ' H' => σ' = sl a d R z3 (some (.int x)) (some (.int y)) (some (.ref q)) none none none none ∧ Same H5 H') ?_ (fun tail => ?_)
    rotate_left
    · refine ⟨_, rfl, _, rfl, x, y, 72, rfl, y1, hy, by decide, by decide, fun q1 hq1 => ?_⟩
      have g1 := same_new hq1 (.tup [.int (low x y).1, .int (low x y).2])
      refine ⟨_, rfl, ne_same (SqT.of upd_same) (SqT.of (g1 _ _ hq)) ⟨_, rfl, ?_⟩⟩
      refine iteF ?_
      refine ⟨_, rfl, _, rfl, _, rfl, _, rfl, -x, -y, 72, rfl, by omega, by omega, by decide, by decide, fun q2 hq2 => ?_⟩
      have g2 := g1.trans (same_new hq2 (.tup [.int (low (-x) (-y)).1, .int (low (-x) (-y)).2]))
      refine ⟨_, rfl, ne_same (SqT.of upd_same) (by rw [low_neg y1]; exact SqT.of ((same_new hq2 _) _ _ (g1 _ _ hq))) ⟨_, rfl, ?_⟩⟩
      refine iteF ?_
      have hq2' := g2 _ _ hq
      refine ⟨_, rfl, .ref q, true, rfl, .pair hq2' (pairB_lw lw), _, rfl, ?_⟩
      refine iteF ?_
      refine ⟨_, rfl, q, _, _, _, rfl, rfl, SqT.of hq2', at_of (j := 0) rfl rfl, _, _, rfl, rfl, .inl ⟨by decide, by decide⟩, ?_⟩
      refine ⟨_, rfl, q, _, _, _, rfl, rfl, SqT.of hq2', at_of (j := 1) rfl rfl, _, _, rfl, rfl, .inl ⟨by decide, by decide⟩, (by show 2 ≤ sizeLine; decide), fun q3 hq3 => ?_⟩
      refine ⟨.ref q3, false, rfl, .pair upd_same pairB_two, _, rfl, ?_⟩
      exact iteF (tail _ _ ⟨rfl, g2.trans (same_new hq3 _)⟩)
    rintro σ' H6 ⟨rfl, g⟩
    -- rows.append(one)
    have hR6 := hR.same g
    have hd6 := hd.same g
    have hq6 := g _ _ hq
    have hll : (refs rs).length = rs.length := List.length_map _
    refine ⟨_, rfl, .inl ⟨rfl, _, SqL.of hR6.at_⟩, _, rfl, R, _, _, rfl, rfl, hR6.at_, (by rw [hll]; exact Nat.lt_of_le_of_lt (by omega : rs.length ≤ 5) (by decide)), ?_⟩
    have bR : But R H6 (upd H6 R (.lst (refs rs ++ [V.ref q]))) := fun b o n e => by rw [upd_ne n]; exact e
    have nt : ∀ {b : Addr} {xs : List V}, H6 b = some (.tup xs) → b ≠ R := fun e => ne_of e hR6.at_ (by intro z; cases z)
    refine ⟨rs ++ [(q, low x y)], _, _, _, _, rfl, ?_, ⟨?_, fun w m => ?_⟩, ?_⟩
    · exact hd6.but hR6.at_ (Ne.symm nR) bR
    · unfold refs
      rw [List.map_append]
      exact upd_same
    · rcases List.mem_append.mp m with m | m
      · have z := hR6.all w m
        exact ⟨bR _ _ (nt z.1) z.1, z.2⟩
      · have e : w = (q, low x y) := by simpa using m
        subst e
        exact ⟨bR _ _ (nt hq6) hq6, ⟨sz.1, sz.2.1, sz.2.2, by decide⟩, lw⟩
    · rw [List.length_append, hl]
      rfl
  rintro σ' H3 ⟨rs, z3, z4, z5, z6, rfl, hR, h5⟩
  have el : (refs rs).length = rs.length := List.length_map _
  -- for one in rows: for other in rows
  refine seq_cut (fun σ' H' => ∃ z3 z4 z5 z6 z7, σ' = sl a d R z3 z4 z5 z6 z7 none none none ∧ Same H3 H') ?_ (fun tail => ?_)
  rotate_left
  · refine ⟨_, rfl, R, rfl, ⟨_, SqL.of hR.at_⟩, for_list (K := K) (a := R) (xs := refs rs) (fun i σ' H' => ∃ z6 z7, σ' = sl a d R z3 z4 z5 z6 z7 none none none ∧ Same H3 H')
      ⟨_, _, rfl, Same.refl _⟩ (fun i σ' H' _ ⟨_, _, _, g⟩ => g.seq (SqL.of hR.at_)) ?_ ?_⟩
    rotate_left
    · rintro σ' H' ⟨z6, z7, rfl, g⟩
      exact tail _ _ ⟨_, _, _, _, _, rfl, g⟩
    rintro i v σ' H4 hi ⟨z6, z7, rfl, g4⟩
    obtain ⟨x, hx, rfl⟩ := refs_get hi
    have mx := List.mem_of_getElem? hx
    refine ⟨_, rfl, R, rfl, ⟨_, g4.seq (SqL.of hR.at_)⟩, for_list (K := K) (a := R) (xs := refs rs) (fun j σ' H' => ∃ z7, σ' = sl a d R z3 z4 z5 (some (.ref x.1)) z7 none none none ∧ Same H3 H')
      ⟨_, rfl, g4⟩ (fun i σ' H' _ ⟨_, _, g⟩ => g.seq (SqL.of hR.at_)) ?_ ?_⟩
    rotate_left
    · rintro σ' H' ⟨z7, rfl, g⟩
      exact ⟨_, _, rfl, g⟩
    rintro j v σ' H5 hj ⟨z7, rfl, g5⟩
    obtain ⟨y, hy, rfl⟩ := refs_get hj
    have my := List.mem_of_getElem? hy
    obtain ⟨tx, sx, lx⟩ := hR.all x mx
    obtain ⟨ty, sy, ly⟩ := hR.all y my
    obtain ⟨p1, ⟨x1, x2⟩⟩ := x
    obtain ⟨p2, ⟨y1, y2⟩⟩ := y
    dsimp only at tx sx lx ty sy ly
    have hxy : 0 < x2 * y2 := Int.mul_pos sx.1 sy.1
    have sxp := sz_plus sx sy
    have sxt := sz_times sx sy
    -- what all tests are asked at: a heap that keeps both
    refine seq_cut (fun σ' H' => σ' = sl a d R z3 z4 z5 (some (.ref p1)) (some (.ref p2)) none none none ∧ Same H3 H') ?_ (fun tail => ?_)
    rotate_left
    · -- plus(one, other) != .. or minus(plus(one, other), other) != one
      have fx : ∀ {H'}, Same H3 H' → Fr K H' p1 x1 x2 72 := fun g => Fr.mk (z := (x1, x2)) (SqT.of (g _ _ tx)) sx
      have fy : ∀ {H'}, Same H3 H' → Fr K H' p2 y1 y2 72 := fun g => Fr.mk (z := (y1, y2)) (SqT.of (g _ _ ty)) sy
      refine ⟨_, rfl, _, rfl, p1, p2, x1, x2, y1, y2, 72, 72, rfl, fx g5, fy g5, by decide, fun q1 hq1 => ?_⟩
      have g6 := g5.trans (same_new hq1 (.tup [.int (fPlus x1 x2 y1 y2).1, .int (fPlus x1 x2 y1 y2).2]))
      have t1 := SqT.of (K := K) (g6 _ _ tx)
      have t2 := SqT.of (K := K) (g6 _ _ ty)
      refine ⟨_, rfl, p1, _, _, _, rfl, rfl, t1, at_of (j := 0) rfl rfl, _, rfl, p2, _, _, _, rfl, rfl, t2, at_of (j := 1) rfl rfl, _, _, rfl, rfl, mulW sx.2.1 sy.2.2.1 (by decide) (by decide) (by decide), ?_⟩
      refine ⟨_, rfl, p2, _, _, _, rfl, rfl, t2, at_of (j := 0) rfl rfl, _, rfl, p1, _, _, _, rfl, rfl, t1, at_of (j := 1) rfl rfl, _, _, rfl, rfl, mulW sy.2.1 sx.2.2.1 (by decide) (by decide) (by decide), _, _, rfl, rfl, ?_⟩
      refine ⟨_, rfl, p1, _, _, _, rfl, rfl, t1, at_of (j := 1) rfl rfl, _, rfl, p2, _, _, _, rfl, rfl, t2, at_of (j := 1) rfl rfl, _, _, rfl, rfl, mulW sx.2.2.1 sy.2.2.1 (by decide) (by decide) (by decide), ?_⟩
      refine ⟨_, _, 145, rfl, hxy, add_lt (n := 144) (wide_lt sx.2.1 sy.2.2.1) (wide_lt sy.2.1 sx.2.2.1), pow_le (m := 144) (wide_lt sx.2.2.1 sy.2.2.1) (by decide), by decide, by decide, fun q2 hq2 => ?_⟩
      have g7 := g6.trans (same_new hq2 (.tup [.int (low (x1 * y2 + y1 * x2) (x2 * y2)).1, .int (low (x1 * y2 + y1 * x2) (x2 * y2)).2]))
      refine ne_same (x := (fPlus x1 x2 y1 y2).1) (y := (fPlus x1 x2 y1 y2).2) (SqT.of ((same_new hq2 _) _ _ upd_same)) (SqT.of upd_same) ⟨_, rfl, ?_⟩
      refine iteF ?_
      -- minus(plus(one, other), other) != one
      refine ⟨_, rfl, _, rfl, p1, p2, x1, x2, y1, y2, 72, 72, rfl, fx g7, fy g7, by decide, fun q3 hq3 => ?_⟩
      have g8 := g7.trans (same_new hq3 (.tup [.int (fPlus x1 x2 y1 y2).1, .int (fPlus x1 x2 y1 y2).2]))
      refine ⟨_, rfl, q3, p2, _, _, y1, y2, 145, 72, rfl, Fr.mk (SqT.of upd_same) sxp, fy g8, by decide, fun q4 hq4 => ?_⟩
      have em : fMinus (fPlus x1 x2 y1 y2).1 (fPlus x1 x2 y1 y2).2 y1 y2 = (x1, x2) := low_minus lx sy.1 rfl
      have g9 := g8.trans (same_new hq4 (.tup [.int (fMinus (fPlus x1 x2 y1 y2).1 (fPlus x1 x2 y1 y2).2 y1 y2).1, .int (fMinus (fPlus x1 x2 y1 y2).1 (fPlus x1 x2 y1 y2).2 y1 y2).2]))
      refine ⟨_, rfl, ne_same (x := x1) (y := x2) ?_ (SqT.of (g9 _ _ tx)) ⟨_, rfl, ?_⟩⟩
      · rw [em]
        exact SqT.of upd_same
      exact iteF (tail _ _ ⟨rfl, g9⟩)
    rintro σ' H6 ⟨rfl, g6⟩
    have fx : ∀ {H'}, Same H3 H' → Fr K H' p1 x1 x2 72 := fun g => Fr.mk (z := (x1, x2)) (SqT.of (g _ _ tx)) sx
    have fy : ∀ {H'}, Same H3 H' → Fr K H' p2 y1 y2 72 := fun g => Fr.mk (z := (y1, y2)) (SqT.of (g _ _ ty)) sy
    refine seq_cut (fun σ' H' => σ' = sl a d R z3 z4 z5 (some (.ref p1)) (some (.ref p2)) none none none ∧ Same H3 H') ?_ (fun tail => ?_)
    rotate_left
    · -- times(one, other) != .. or is_less(one, other) != (..)
      refine ⟨_, rfl, _, rfl, p1, p2, x1, x2, y1, y2, 72, 72, rfl, fx g6, fy g6, by decide, fun q1 hq1 => ?_⟩
      have g7 := g6.trans (same_new hq1 (.tup [.int (fTimes x1 x2 y1 y2).1, .int (fTimes x1 x2 y1 y2).2]))
      have t1 := SqT.of (K := K) (g7 _ _ tx)
      have t2 := SqT.of (K := K) (g7 _ _ ty)
      refine ⟨_, rfl, p1, _, _, _, rfl, rfl, t1, at_of (j := 0) rfl rfl, _, rfl, p2, _, _, _, rfl, rfl, t2, at_of (j := 0) rfl rfl, _, _, rfl, rfl, mulW sx.2.1 sy.2.1 (by decide) (by decide) (by decide), ?_⟩
      refine ⟨_, rfl, p1, _, _, _, rfl, rfl, t1, at_of (j := 1) rfl rfl, _, rfl, p2, _, _, _, rfl, rfl, t2, at_of (j := 1) rfl rfl, _, _, rfl, rfl, mulW sx.2.2.1 sy.2.2.1 (by decide) (by decide) (by decide), ?_⟩
      refine ⟨_, _, 144, rfl, hxy, wide_lt sx.2.1 sy.2.1, wide_lt sx.2.2.1 sy.2.2.1, by decide, by decide, fun q2 hq2 => ?_⟩
      have g8 := g7.trans (same_new hq2 (.tup [.int (low (x1 * y1) (x2 * y2)).1, .int (low (x1 * y1) (x2 * y2)).2]))
      refine ne_same (x := (fTimes x1 x2 y1 y2).1) (y := (fTimes x1 x2 y1 y2).2) (SqT.of ((same_new hq2 _) _ _ upd_same)) (SqT.of upd_same) ⟨_, rfl, ?_⟩
      refine iteF ?_
      -- is_less(one, other) != (..)
      refine ⟨_, rfl, _, rfl, p1, p2, x1, x2, y1, y2, 72, 72, rfl, fx g8, fy g8, by decide, ?_⟩
      have t1 := SqT.of (K := K) (g8 _ _ tx)
      have t2 := SqT.of (K := K) (g8 _ _ ty)
      refine ⟨_, rfl, p1, _, _, _, rfl, rfl, t1, at_of (j := 0) rfl rfl, _, rfl, p2, _, _, _, rfl, rfl, t2, at_of (j := 1) rfl rfl, _, _, rfl, rfl, mulW sx.2.1 sy.2.2.1 (by decide) (by decide) (by decide), ?_⟩
      refine ⟨_, rfl, p2, _, _, _, rfl, rfl, t2, at_of (j := 0) rfl rfl, _, rfl, p1, _, _, _, rfl, rfl, t1, at_of (j := 1) rfl rfl, _, _, rfl, rfl, mulW sy.2.1 sx.2.2.1 (by decide) (by decide) (by decide), _, _, rfl, rfl, rfl, _, rfl, ?_⟩
      exact iteNS rfl (tail _ _ ⟨rfl, g8⟩)
    rintro σ' H7 ⟨rfl, g7⟩
    -- other[0] != 0 and (times(over(one, other), other) != one or over(one, other)[1] < 1)
    refine ⟨_, rfl, p2, _, _, _, rfl, rfl, SqT.of (g7 _ _ ty), at_of (j := 0) rfl rfl, rfl, _, rfl, ?_⟩
    by_cases c : y1 = 0
    · rw [decide_eq_true (congrArg V.int c)]
      exact iteF (iteF ⟨_, rfl, g7⟩)
    rw [decide_eq_false (fun z => c (by injection z))]
    refine iteT ?_
    have so := sz_over sx sy c
    refine ⟨_, rfl, _, rfl, p1, p2, x1, x2, y1, y2, 72, 72, rfl, fx g7, fy g7, by decide, c, fun q1 hq1 => ?_⟩
    have g8 := g7.trans (same_new hq1 (.tup [.int (fOver x1 x2 y1 y2).1, .int (fOver x1 x2 y1 y2).2]))
    refine ⟨_, rfl, q1, p2, _, _, y1, y2, 145, 72, rfl, Fr.mk (SqT.of upd_same) so, fy g8, by decide, fun q2 hq2 => ?_⟩
    have em : fTimes (fOver x1 x2 y1 y2).1 (fOver x1 x2 y1 y2).2 y1 y2 = (x1, x2) := low_times lx sy.1 c rfl
    have g9 := g8.trans (same_new hq2 (.tup [.int (fTimes (fOver x1 x2 y1 y2).1 (fOver x1 x2 y1 y2).2 y1 y2).1, .int (fTimes (fOver x1 x2 y1 y2).1 (fOver x1 x2 y1 y2).2 y1 y2).2]))
    refine ⟨_, rfl, ne_same (x := x1) (y := x2) ?_ (SqT.of (g9 _ _ tx)) ⟨_, rfl, ?_⟩⟩
    · rw [em]
      exact SqT.of upd_same
    refine iteF ?_
    refine ⟨_, rfl, _, rfl, p1, p2, x1, x2, y1, y2, 72, 72, rfl, fx g9, fy g9, by decide, c, fun q3 hq3 => ?_⟩
    refine ⟨q3, _, _, _, rfl, rfl, SqT.of upd_same, at_of (j := 1) rfl rfl, _, _, rfl, rfl, _, rfl, ?_⟩
    have so1 : 0 < (fOver x1 x2 y1 y2).2 := so.1
    rw [decide_eq_false (show ¬ (fOver x1 x2 y1 y2).2 < 1 by omega)]
    exact iteF ⟨_, rfl, g9.trans (same_new hq3 _)⟩
  rintro σ' H4 ⟨z3, z4, z5, z6, z7, rfl, g4⟩
  have hR4 := hR.same g4
  -- sums, products = ((0, 1), (1, 1))
  refine seq_cut (fun σ' H' => ∃ r1 r2, σ' = sl a d R z3 z4 z5 z6 z7 (some (.ref r1)) (some (.ref r2)) none ∧ Same H4 H' ∧ SqT K H' r1 [.int 0, .int 1] ∧ SqT K H' r2 [.int 1, .int 1]) ?_ (fun tail => ?_)
  rotate_left
  · refine ⟨(by show 2 ≤ sizeLine; decide), fun r1 h1 => ?_⟩
    refine ⟨(by show 2 ≤ sizeLine; decide), fun r2 h2 => ?_⟩
    refine ⟨(by show 2 ≤ sizeLine; decide), fun r3 h3 => ?_⟩
    refine ⟨r3, _, rfl, SqT.of upd_same, rfl, _, _, rfl, _, _, rfl, rfl, ?_⟩
    exact tail _ _ ⟨r1, r2, rfl, (same_new h1 _).trans ((same_new h2 _).trans (same_new h3 _)), SqT.of ((same_new h3 _) _ _ ((same_new h2 _) _ _ upd_same)), SqT.of ((same_new h3 _) _ _ upd_same)⟩
  rintro σ' H5 ⟨r1, r2, rfl, g5, hr1, hr2⟩
  have hR5 := hR4.same g5
  have hA5 : AllF K H5 rs := hR5.allF
  -- for one in rows: sums, products = (plus(sums, one), times(products, one))
  refine seq_cut (fun σ' H' => ∃ z6 r1 r2, σ' = sl a d R z3 z4 z5 z6 z7 (some (.ref r1)) (some (.ref r2)) none ∧ Same H5 H' ∧ SqT K H' r1 [.int (sumF rs).1, .int (sumF rs).2] ∧ SqT K H' r2 [.int (prodF rs).1, .int (prodF rs).2]) ?_ (fun tail => ?_)
  rotate_left
  · refine ⟨_, rfl, R, rfl, ⟨_, SqL.of hR5.at_⟩, for_list (K := K) (a := R) (xs := refs rs) (fun i σ' H' => ∃ z6 r1 r2, σ' = sl a d R z3 z4 z5 z6 z7 (some (.ref r1)) (some (.ref r2)) none ∧ Same H5 H' ∧ SqT K H' r1 [.int (sumF (rs.take i)).1, .int (sumF (rs.take i)).2] ∧ SqT K H' r2 [.int (prodF (rs.take i)).1, .int (prodF (rs.take i)).2])
      ⟨_, r1, r2, rfl, Same.refl _, hr1, hr2⟩ (fun i σ' H' _ ⟨_, _, _, _, g, _⟩ => g.seq (SqL.of hR5.at_)) ?_ ?_⟩
    rotate_left
    · rintro σ' H' ⟨z6, r1, r2, rfl, g, e1, e2⟩
      rw [el, List.take_length] at e1 e2
      exact tail _ _ ⟨_, r1, r2, rfl, g, e1, e2⟩
    rintro i v σ' H6 hi ⟨z6, r1, r2, rfl, g, e1, e2⟩
    obtain ⟨x, hx, rfl⟩ := refs_get hi
    have mx := List.mem_of_getElem? hx
    have hi5 : i < rs.length := (List.getElem?_eq_some_iff.mp hx).1
    have htl : (rs.take i).length = i := by rw [List.length_take]; omega
    have s1 := sz_sum (hA5.take i)
    have s2 := sz_prod (hA5.take i)
    rw [htl] at s1 s2
    have fx : ∀ {H'}, Same H5 H' → Fr K H' x.1 x.2.1 x.2.2 72 := fun g => Fr.mk (Same.tup g (hA5 x mx).1) (hA5 x mx).2
    refine ⟨_, rfl, _, rfl, r1, x.1, _, _, _, _, _, _, rfl, Fr.mk e1 s1, fx g, by omega, fun q1 hq1 => ?_⟩
    have g1 := same_new hq1 (.tup [.int (fPlus (sumF (rs.take i)).1 (sumF (rs.take i)).2 x.2.1 x.2.2).1, .int (fPlus (sumF (rs.take i)).1 (sumF (rs.take i)).2 x.2.1 x.2.2).2])
    refine ⟨_, rfl, _, rfl, r2, x.1, _, _, _, _, _, _, rfl, Fr.mk (Same.tup g1 e2) s2, fx (g.trans g1), by omega, fun q2 hq2 => ?_⟩
    refine ⟨_, _, rfl, _, q1, q2, rfl, g.trans (g1.trans (same_new hq2 _)), ?_, ?_⟩
    · rw [sumF_next hx]
      exact SqT.of ((same_new hq2 _) _ _ upd_same)
    · rw [prodF_next hx]
      exact SqT.of upd_same
  rintro σ' H6 ⟨z6, r1, r2, rfl, g6, hr1, hr2⟩
  have hR6 := hR5.same g6
  have hA6 : AllF K H6 rs := hR6.allF
  have none_ : ∀ {H'}, AllF K H' [] := fun x m => nomatch m
  -- total(rows) != sums or ..
  refine seq_cut (fun σ' H' => σ' = sl a d R z3 z4 z5 z6 z7 (some (.ref r1)) (some (.ref r2)) none) ?_ (fun tail => ?_)
  rotate_left
  · refine ⟨_, rfl, R, rs, rfl, SqL.of hR6.at_, hA6, by omega, fun q1 H7 g7 t7 => ?_⟩
    refine ⟨_, rfl, ne_same t7 (Same.tup g7 hr1) ⟨_, rfl, ?_⟩⟩
    refine iteF ?_
    refine ⟨_, rfl, R, _, rfl, .inl ⟨g7.seq (SqL.of hR6.at_), fun q2 hq2 => ?_⟩⟩
    have g8 := g7.trans (same_new hq2 (.tup (refs rs)))
    refine ⟨q2, rs, rfl, SqT.of upd_same, hA6.same g8, by omega, fun q3 H9 g9 t9 => ?_⟩
    refine ⟨_, rfl, ne_same t9 (Same.tup (g8.trans g9) hr2) ⟨_, rfl, ?_⟩⟩
    refine iteF ?_
    refine ⟨(by show 0 ≤ sizeLine; decide), fun q4 hq4 => ?_⟩
    refine ⟨q4, [], rfl, SqL.of upd_same, none_, by decide, fun q5 H10 g10 t10 => ?_⟩
    refine ⟨(by show 2 ≤ sizeLine; decide), fun q6 hq6 => ?_⟩
    refine ne_same (Same.tup (same_new hq6 _) t10) (SqT.of upd_same) ⟨_, rfl, ?_⟩
    refine iteF ?_
    refine ⟨(by show 0 ≤ sizeLine; decide), fun q7 hq7 => ?_⟩
    refine ⟨q7, [], rfl, SqT.of upd_same, none_, by decide, fun q8 H11 g11 t11 => ?_⟩
    refine ⟨(by show 2 ≤ sizeLine; decide), fun q9 hq9 => ?_⟩
    refine ne_same (Same.tup (same_new hq9 _) t11) (SqT.of upd_same) ⟨_, rfl, ?_⟩
    exact iteF (tail _ _ rfl)
  rintro σ' H7 rfl
  -- return not any([..])
  refine ⟨(by show 2 ≤ sizeLine; decide), fun q1 h1 => ?_⟩
  refine ⟨_, rfl, (by show 2 ≤ sizeLine; decide), fun q2 h2 => ?_⟩
  refine ⟨(by show 2 ≤ sizeLine; decide), fun q3 h3 => ?_⟩
  refine ⟨(by show 3 ≤ sizeLine; decide), fun q4 h4 => ?_⟩
  refine ⟨(by show 2 ≤ sizeLine; decide), fun q5 h5 => ?_⟩
  refine ⟨(by show 2 ≤ sizeLine; decide), fun q6 h6 => ?_⟩
  refine ⟨(by show 2 ≤ sizeLine; decide), fun q7 h7 => ?_⟩
  refine ⟨(by show 2 ≤ sizeLine; decide), fun q8 h8 => ?_⟩
  refine ⟨(by show 11 ≤ sizeLine; decide), fun q9 h9 => ?_⟩
  have s9 := same_new h9 (.tup [.ref q1, .ref q2, .ref q3, .ref q4, .ref q5, .ref q6, .non, .int 5, .str "12", .ref q7, .ref q8])
  have s8 := (same_new h8 (.tup [.int 1, .bl true])).trans s9
  have s7 := (same_new h7 (.tup [.int 0, .int 2])).trans s8
  have s6 := (same_new h6 (.tup [.bl true, .int 1])).trans s7
  have s5 := (same_new h5 (.tup [.str "1", .int 2])).trans s6
  have s4 := (same_new h4 (.tup [.int 1, .int 2, .int 3])).trans s5
  have s3 := (same_new h3 (.lst [.int 1, .int 2])).trans s4
  have s2 := (same_new h2 (.tup [.int 1, .int (-2)])).trans s3
  have f1 := s2 _ _ (upd_same (o := .tup [.int 1, .int 0]))
  have f2 := s3 _ _ (upd_same (o := .tup [.int 1, .int (-2)]))
  have f3 := s4 _ _ (upd_same (o := .lst [.int 1, .int 2]))
  have f4 := s5 _ _ (upd_same (o := .tup [.int 1, .int 2, .int 3]))
  have f5 := s6 _ _ (upd_same (o := .tup [.str "1", .int 2]))
  have f6 := s7 _ _ (upd_same (o := .tup [.bl true, .int 1]))
  have f7 := s8 _ _ (upd_same (o := .tup [.int 0, .int 2]))
  have f8 := s9 _ _ (upd_same (o := .tup [.int 1, .bl true]))
  refine ⟨q9, rfl, ⟨_, SqT.of upd_same⟩, fun D hD => ?_⟩
  have f9 := new_at h9 (.tup [.ref q1, .ref q2, .ref q3, .ref q4, .ref q5, .ref q6, .non, .int 5, .str "12", .ref q7, .ref q8])
  generalize hHs : upd _ q9 _ = Hs at f1 f2 f3 f4 f5 f6 f7 f8 f9 hD ⊢
  have all_ : ∀ (i : Nat) (x : V), ([.ref q1, .ref q2, .ref q3, .ref q4, .ref q5, .ref q6, .non, .int 5, .str "12", .ref q7, .ref q8] : List V)[i]? = some x → IsFr K Hs x false := fun i x hx => by
    match i, hx with
    | 0, hx => cases hx; exact .pair f1 (by decide)
    | 1, hx => cases hx; exact .pair f2 (by decide)
    | 2, hx => cases hx; exact .lst f3
    | 3, hx => cases hx; exact .long f4 (by decide)
    | 4, hx => cases hx; exact .pair f5 rfl
    | 5, hx => cases hx; exact .pair f6 rfl
    | 6, hx => cases hx; exact .flat (t := "NoneType") (fun _ => .base .non) (by decide +kernel)
    | 7, hx => cases hx; exact .flat (t := "int") (fun _ => .base (.int _)) (by decide +kernel)
    | 8, hx => cases hx; exact .flat (t := "str") (fun _ => .base (.str _)) (by decide +kernel)
    | 9, hx => cases hx; exact .pair f7 (by decide)
    | 10, hx => cases hx; exact .pair f8 rfl
    | n + 11, hx => cases hx
  refine lc_tup (K := K) (a := q9) (xs := [.ref q1, .ref q2, .ref q3, .ref q4, .ref q5, .ref q6, .non, .int 5, .str "12", .ref q7, .ref q8]) (fun i H' => Same Hs H' ∧ H' D = some (.lst (List.replicate i (.bl false)))) ⟨same_new hD _, upd_same⟩ (fun i H' _ ⟨g, _⟩ => SqT.of (g _ _ f9)) ?_ ?_
  · rintro i x H' hx ⟨g, e⟩
    have hi : i < 11 := (List.getElem?_eq_some_iff.mp hx).1
    refine ⟨rfl, _, rfl, x, false, rfl, (all_ i x hx).same g, _, e, ?_, ?_, ?_⟩
    · rw [List.length_replicate]
      exact Nat.lt_of_le_of_lt (by omega : i ≤ 11) (by decide)
    · exact fun b o hb => by rw [upd_ne (ne_of_none hb hD)]; exact g b o hb
    · rw [← List.replicate_succ']
      exact upd_same
  · rintro H' ⟨g, e⟩
    exact ⟨D, List.replicate 11 false, rfl, SqL.of e, _, rfl, k _⟩

end
theorem all_mk {l : PySem.W.OpenLaw} {w : World} {K : PySem.W.Frag} {h : Heap} {mg : Str → Option Value} {fa f0 f1 f2 f3 f4 f5 f6 f7 f8 f9 f10 f11 f12 f13 f14 : Addr} (X : K.In h) (G : h.Ns mainGlobals mg) (hfa : mg "law" = some (.ref fa))
    {od0 an0 : Option Addr} {sl0 : Array (Option Value)} {oc0 kV0 dc0 pm0 cd0 ct0 : Value}
    {od1 an1 : Option Addr} {sl1 : Array (Option Value)} {oc1 kV1 dc1 pm1 cd1 ct1 : Value}
    {od2 an2 : Option Addr} {sl2 : Array (Option Value)} {oc2 kV2 dc2 pm2 cd2 ct2 : Value}
    {od3 an3 : Option Addr} {sl3 : Array (Option Value)} {oc3 kV3 dc3 pm3 cd3 ct3 : Value}
    {od4 an4 : Option Addr} {sl4 : Array (Option Value)} {oc4 kV4 dc4 pm4 cd4 ct4 : Value}
    {od5 an5 : Option Addr} {sl5 : Array (Option Value)} {oc5 kV5 dc5 pm5 cd5 ct5 : Value}
    {od6 an6 : Option Addr} {sl6 : Array (Option Value)} {oc6 kV6 dc6 pm6 cd6 ct6 : Value}
    {od7 an7 : Option Addr} {sl7 : Array (Option Value)} {oc7 kV7 dc7 pm7 cd7 ct7 : Value}
    {od8 an8 : Option Addr} {sl8 : Array (Option Value)} {oc8 kV8 dc8 pm8 cd8 ct8 : Value}
    {od9 an9 : Option Addr} {sl9 : Array (Option Value)} {oc9 kV9 dc9 pm9 cd9 ct9 : Value}
    {od10 an10 : Option Addr} {sl10 : Array (Option Value)} {oc10 kV10 dc10 pm10 cd10 ct10 : Value}
    {od11 an11 : Option Addr} {sl11 : Array (Option Value)} {oc11 kV11 dc11 pm11 cd11 ct11 : Value}
    {od12 an12 : Option Addr} {sl12 : Array (Option Value)} {oc12 kV12 dc12 pm12 cd12 ct12 : Value}
    {od13 an13 : Option Addr} {sl13 : Array (Option Value)} {oc13 kV13 dc13 pm13 cd13 ct13 : Value}
    {od14 an14 : Option Addr} {sl14 : Array (Option Value)} {oc14 kV14 dc14 pm14 cd14 ct14 : Value}
    {dd_ZERO : Option Addr} {n_ZERO : Nat} {sl_ZERO : Array (Option Value)} {t_ZERO_0 t_ZERO_1 : Tok} {g_ZERO : Addr}
    {dd_ONE : Option Addr} {n_ONE : Nat} {sl_ONE : Array (Option Value)} {t_ONE_0 t_ONE_1 : Tok} {g_ONE : Addr}
    (a0 : PySem.W.nsIn K mainGlobals "is_whole" = some (some (.ref f0)))
    (l0 : K.lookup f0 = some ⟨oc0, od0, .func (PySem.W.fnOf "is_whole" "is_whole" (defArgs s_is_whole) (defBody s_is_whole) (defScope s_is_whole) .none kV0 dc0 pm0 an0 cd0 ct0), sl0⟩)
    (c0 : PySem.W.codeIn K cd0 "is_whole" = true) (k0 : PySem.W.keepIn K (.ref f0) = true)
    (a1 : PySem.W.nsIn K mainGlobals "lowest" = some (some (.ref f1)))
    (l1 : K.lookup f1 = some ⟨oc1, od1, .func (PySem.W.fnOf "lowest" "lowest" (defArgs s_lowest) (defBody s_lowest) (defScope s_lowest) .none kV1 dc1 pm1 an1 cd1 ct1), sl1⟩)
    (c1 : PySem.W.codeIn K cd1 "lowest" = true) (k1 : PySem.W.keepIn K (.ref f1) = true)
    (a2 : PySem.W.nsIn K mainGlobals "plus" = some (some (.ref f2)))
    (l2 : K.lookup f2 = some ⟨oc2, od2, .func (PySem.W.fnOf "plus" "plus" (defArgs s_plus) (defBody s_plus) (defScope s_plus) .none kV2 dc2 pm2 an2 cd2 ct2), sl2⟩)
    (c2 : PySem.W.codeIn K cd2 "plus" = true) (k2 : PySem.W.keepIn K (.ref f2) = true)
    (a3 : PySem.W.nsIn K mainGlobals "minus" = some (some (.ref f3)))
    (l3 : K.lookup f3 = some ⟨oc3, od3, .func (PySem.W.fnOf "minus" "minus" (defArgs s_minus) (defBody s_minus) (defScope s_minus) .none kV3 dc3 pm3 an3 cd3 ct3), sl3⟩)
    (c3 : PySem.W.codeIn K cd3 "minus" = true) (k3 : PySem.W.keepIn K (.ref f3) = true)
    (a4 : PySem.W.nsIn K mainGlobals "times" = some (some (.ref f4)))
    (l4 : K.lookup f4 = some ⟨oc4, od4, .func (PySem.W.fnOf "times" "times" (defArgs s_times) (defBody s_times) (defScope s_times) .none kV4 dc4 pm4 an4 cd4 ct4), sl4⟩)
    (c4 : PySem.W.codeIn K cd4 "times" = true) (k4 : PySem.W.keepIn K (.ref f4) = true)
    (a5 : PySem.W.nsIn K mainGlobals "over" = some (some (.ref f5)))
    (l5 : K.lookup f5 = some ⟨oc5, od5, .func (PySem.W.fnOf "over" "over" (defArgs s_over) (defBody s_over) (defScope s_over) .none kV5 dc5 pm5 an5 cd5 ct5), sl5⟩)
    (c5 : PySem.W.codeIn K cd5 "over" = true) (k5 : PySem.W.keepIn K (.ref f5) = true)
    (a6 : PySem.W.nsIn K mainGlobals "is_less" = some (some (.ref f6)))
    (l6 : K.lookup f6 = some ⟨oc6, od6, .func (PySem.W.fnOf "is_less" "is_less" (defArgs s_is_less) (defBody s_is_less) (defScope s_is_less) .none kV6 dc6 pm6 an6 cd6 ct6), sl6⟩)
    (c6 : PySem.W.codeIn K cd6 "is_less" = true) (k6 : PySem.W.keepIn K (.ref f6) = true)
    (a7 : PySem.W.nsIn K mainGlobals "total" = some (some (.ref f7)))
    (l7 : K.lookup f7 = some ⟨oc7, od7, .func (PySem.W.fnOf "total" "total" (defArgs s_total) (defBody s_total) (defScope s_total) .none kV7 dc7 pm7 an7 cd7 ct7), sl7⟩)
    (c7 : PySem.W.codeIn K cd7 "total" = true) (k7 : PySem.W.keepIn K (.ref f7) = true)
    (a8 : PySem.W.nsIn K mainGlobals "product_of" = some (some (.ref f8)))
    (l8 : K.lookup f8 = some ⟨oc8, od8, .func (PySem.W.fnOf "product_of" "product_of" (defArgs s_product_of) (defBody s_product_of) (defScope s_product_of) .none kV8 dc8 pm8 an8 cd8 ct8), sl8⟩)
    (c8 : PySem.W.codeIn K cd8 "product_of" = true) (k8 : PySem.W.keepIn K (.ref f8) = true)
    (a9 : PySem.W.nsIn K mainGlobals "is_fraction" = some (some (.ref f9)))
    (l9 : K.lookup f9 = some ⟨oc9, od9, .func (PySem.W.fnOf "is_fraction" "is_fraction" (defArgs s_is_fraction) (defBody s_is_fraction) (defScope s_is_fraction) .none kV9 dc9 pm9 an9 cd9 ct9), sl9⟩)
    (c9 : PySem.W.codeIn K cd9 "is_fraction" = true) (k9 : PySem.W.keepIn K (.ref f9) = true)
    (a10 : PySem.W.nsIn K mainGlobals "_law_number" = some (some (.ref f10)))
    (l10 : K.lookup f10 = some ⟨oc10, od10, .func (PySem.W.fnOf "_law_number" "_law_number" (defArgs s__law_number) (defBody s__law_number) (defScope s__law_number) .none kV10 dc10 pm10 an10 cd10 ct10), sl10⟩)
    (c10 : PySem.W.codeIn K cd10 "_law_number" = true) (k10 : PySem.W.keepIn K (.ref f10) = true)
    (a11 : PySem.W.nsIn K mainGlobals "_law_take" = some (some (.ref f11)))
    (l11 : K.lookup f11 = some ⟨oc11, od11, .func (PySem.W.fnOf "_law_take" "_law_take" (defArgs s__law_take) (defBody s__law_take) (defScope s__law_take) .none kV11 dc11 pm11 an11 cd11 ct11), sl11⟩)
    (c11 : PySem.W.codeIn K cd11 "_law_take" = true) (k11 : PySem.W.keepIn K (.ref f11) = true)
    (a12 : PySem.W.nsIn K mainGlobals "_law_pick" = some (some (.ref f12)))
    (l12 : K.lookup f12 = some ⟨oc12, od12, .func (PySem.W.fnOf "_law_pick" "_law_pick" (defArgs s__law_pick) (defBody s__law_pick) (defScope s__law_pick) .none kV12 dc12 pm12 an12 cd12 ct12), sl12⟩)
    (c12 : PySem.W.codeIn K cd12 "_law_pick" = true) (k12 : PySem.W.keepIn K (.ref f12) = true)
    (a13 : PySem.W.nsIn K mainGlobals "_law_lowest" = some (some (.ref f13)))
    (l13 : K.lookup f13 = some ⟨oc13, od13, .func (PySem.W.fnOf "_law_lowest" "_law_lowest" (defArgs s__law_lowest) (defBody s__law_lowest) (defScope s__law_lowest) .none kV13 dc13 pm13 an13 cd13 ct13), sl13⟩)
    (c13 : PySem.W.codeIn K cd13 "_law_lowest" = true) (k13 : PySem.W.keepIn K (.ref f13) = true)
    (a14 : PySem.W.nsIn K mainGlobals "law" = some (some (.ref f14)))
    (l14 : K.lookup f14 = some ⟨oc14, od14, .func (PySem.W.fnOf "law" "law" (defArgs s_law) (defBody s_law) (defScope s_law) .none kV14 dc14 pm14 an14 cd14 ct14), sl14⟩)
    (c14 : PySem.W.codeIn K cd14 "law" = true) (k14 : PySem.W.keepIn K (.ref f14) = true)
    (z_range : PySem.W.nsIn K mainGlobals "range" = some none)
    (z_int : PySem.W.nsIn K mainGlobals "int" = some none)
    (z_isinstance : PySem.W.nsIn K mainGlobals "isinstance" = some none)
    (z_abs : PySem.W.nsIn K mainGlobals "abs" = some none)
    (z_any : PySem.W.nsIn K mainGlobals "any" = some none)
    (z_bool : PySem.W.nsIn K mainGlobals "bool" = some none)
    (z_tuple : PySem.W.nsIn K mainGlobals "tuple" = some none)
    (z_len : PySem.W.nsIn K mainGlobals "len" = some none)
    (e_gcd : PySem.W.nsIn K mainGlobals "gcd" = some (some (.builtin "math.gcd")))
    (a_ZERO : PySem.W.nsIn K mainGlobals "ZERO" = some (some (.ref g_ZERO)))
    (l_ZERO : K.lookup g_ZERO = some ⟨.type "tuple", dd_ZERO, .seq #[.int 0 t_ZERO_0, .int 1 t_ZERO_1] n_ZERO, sl_ZERO⟩)
    (a_ONE : PySem.W.nsIn K mainGlobals "ONE" = some (some (.ref g_ONE)))
    (l_ONE : K.lookup g_ONE = some ⟨.type "tuple", dd_ONE, .seq #[.int 1 t_ONE_0, .int 1 t_ONE_1] n_ONE, sl_ONE⟩) :
    ∃ fd : FuncData, (∀ (s : Shared) (v : Value), BindsTo s fd ⟨[v], []⟩ [("script", v)]) ∧ ∀ base : Heap, K.In base → base.Ns mainGlobals mg → FnOk l.prog w K mg base CX0 4 fa fd ["script"] (sp_law K) := by
  have e : fa = f14 := by
    have z := hfa.symm.trans (PySem.W.mg_of X G a14)
    injection z with z
    injection z
  let T : Txt K mg := {
    a_is_whole := f0
    d_is_whole := PySem.W.fnOf "is_whole" "is_whole" (defArgs s_is_whole) (defBody s_is_whole) (defScope s_is_whole) .none kV0 dc0 pm0 an0 cd0 ct0
    F_is_whole := fun_mk (st := s_is_whole) l0 c0 k0
    b_is_whole := (fun_mk (st := s_is_whole) l0 c0 k0).binds (ps := ["value"]) fun _ _ _ _ _ _ us hl => match us, hl with | [_], _ => rfl
    m_is_whole := PySem.W.mg_of X G a0
    a_lowest := f1
    d_lowest := PySem.W.fnOf "lowest" "lowest" (defArgs s_lowest) (defBody s_lowest) (defScope s_lowest) .none kV1 dc1 pm1 an1 cd1 ct1
    F_lowest := fun_mk (st := s_lowest) l1 c1 k1
    b_lowest := (fun_mk (st := s_lowest) l1 c1 k1).binds (ps := ["above", "below"]) fun _ _ _ _ _ _ us hl => match us, hl with | [_, _], _ => rfl
    m_lowest := PySem.W.mg_of X G a1
    a_plus := f2
    d_plus := PySem.W.fnOf "plus" "plus" (defArgs s_plus) (defBody s_plus) (defScope s_plus) .none kV2 dc2 pm2 an2 cd2 ct2
    F_plus := fun_mk (st := s_plus) l2 c2 k2
    b_plus := (fun_mk (st := s_plus) l2 c2 k2).binds (ps := ["one", "other"]) fun _ _ _ _ _ _ us hl => match us, hl with | [_, _], _ => rfl
    m_plus := PySem.W.mg_of X G a2
    a_minus := f3
    d_minus := PySem.W.fnOf "minus" "minus" (defArgs s_minus) (defBody s_minus) (defScope s_minus) .none kV3 dc3 pm3 an3 cd3 ct3
    F_minus := fun_mk (st := s_minus) l3 c3 k3
    b_minus := (fun_mk (st := s_minus) l3 c3 k3).binds (ps := ["one", "other"]) fun _ _ _ _ _ _ us hl => match us, hl with | [_, _], _ => rfl
    m_minus := PySem.W.mg_of X G a3
    a_times := f4
    d_times := PySem.W.fnOf "times" "times" (defArgs s_times) (defBody s_times) (defScope s_times) .none kV4 dc4 pm4 an4 cd4 ct4
    F_times := fun_mk (st := s_times) l4 c4 k4
    b_times := (fun_mk (st := s_times) l4 c4 k4).binds (ps := ["one", "other"]) fun _ _ _ _ _ _ us hl => match us, hl with | [_, _], _ => rfl
    m_times := PySem.W.mg_of X G a4
    a_over := f5
    d_over := PySem.W.fnOf "over" "over" (defArgs s_over) (defBody s_over) (defScope s_over) .none kV5 dc5 pm5 an5 cd5 ct5
    F_over := fun_mk (st := s_over) l5 c5 k5
    b_over := (fun_mk (st := s_over) l5 c5 k5).binds (ps := ["one", "other"]) fun _ _ _ _ _ _ us hl => match us, hl with | [_, _], _ => rfl
    m_over := PySem.W.mg_of X G a5
    a_is_less := f6
    d_is_less := PySem.W.fnOf "is_less" "is_less" (defArgs s_is_less) (defBody s_is_less) (defScope s_is_less) .none kV6 dc6 pm6 an6 cd6 ct6
    F_is_less := fun_mk (st := s_is_less) l6 c6 k6
    b_is_less := (fun_mk (st := s_is_less) l6 c6 k6).binds (ps := ["one", "other"]) fun _ _ _ _ _ _ us hl => match us, hl with | [_, _], _ => rfl
    m_is_less := PySem.W.mg_of X G a6
    a_total := f7
    d_total := PySem.W.fnOf "total" "total" (defArgs s_total) (defBody s_total) (defScope s_total) .none kV7 dc7 pm7 an7 cd7 ct7
    F_total := fun_mk (st := s_total) l7 c7 k7
    b_total := (fun_mk (st := s_total) l7 c7 k7).binds (ps := ["rows"]) fun _ _ _ _ _ _ us hl => match us, hl with | [_], _ => rfl
    m_total := PySem.W.mg_of X G a7
    a_product_of := f8
    d_product_of := PySem.W.fnOf "product_of" "product_of" (defArgs s_product_of) (defBody s_product_of) (defScope s_product_of) .none kV8 dc8 pm8 an8 cd8 ct8
    F_product_of := fun_mk (st := s_product_of) l8 c8 k8
    b_product_of := (fun_mk (st := s_product_of) l8 c8 k8).binds (ps := ["rows"]) fun _ _ _ _ _ _ us hl => match us, hl with | [_], _ => rfl
    m_product_of := PySem.W.mg_of X G a8
    a_is_fraction := f9
    d_is_fraction := PySem.W.fnOf "is_fraction" "is_fraction" (defArgs s_is_fraction) (defBody s_is_fraction) (defScope s_is_fraction) .none kV9 dc9 pm9 an9 cd9 ct9
    F_is_fraction := fun_mk (st := s_is_fraction) l9 c9 k9
    b_is_fraction := (fun_mk (st := s_is_fraction) l9 c9 k9).binds (ps := ["value"]) fun _ _ _ _ _ _ us hl => match us, hl with | [_], _ => rfl
    m_is_fraction := PySem.W.mg_of X G a9
    a__law_number := f10
    d__law_number := PySem.W.fnOf "_law_number" "_law_number" (defArgs s__law_number) (defBody s__law_number) (defScope s__law_number) .none kV10 dc10 pm10 an10 cd10 ct10
    F__law_number := fun_mk (st := s__law_number) l10 c10 k10
    b__law_number := (fun_mk (st := s__law_number) l10 c10 k10).binds (ps := ["script", "index"]) fun _ _ _ _ _ _ us hl => match us, hl with | [_, _], _ => rfl
    m__law_number := PySem.W.mg_of X G a10
    a__law_take := f11
    d__law_take := PySem.W.fnOf "_law_take" "_law_take" (defArgs s__law_take) (defBody s__law_take) (defScope s__law_take) .none kV11 dc11 pm11 an11 cd11 ct11
    F__law_take := fun_mk (st := s__law_take) l11 c11 k11
    b__law_take := (fun_mk (st := s__law_take) l11 c11 k11).binds (ps := ["draw", "many"]) fun _ _ _ _ _ _ us hl => match us, hl with | [_, _], _ => rfl
    m__law_take := PySem.W.mg_of X G a11
    a__law_pick := f12
    d__law_pick := PySem.W.fnOf "_law_pick" "_law_pick" (defArgs s__law_pick) (defBody s__law_pick) (defScope s__law_pick) .none kV12 dc12 pm12 an12 cd12 ct12
    F__law_pick := fun_mk (st := s__law_pick) l12 c12 k12
    b__law_pick := (fun_mk (st := s__law_pick) l12 c12 k12).binds (ps := ["draw", "items"]) fun _ _ _ _ _ _ us hl => match us, hl with | [_, _], _ => rfl
    m__law_pick := PySem.W.mg_of X G a12
    a__law_lowest := f13
    d__law_lowest := PySem.W.fnOf "_law_lowest" "_law_lowest" (defArgs s__law_lowest) (defBody s__law_lowest) (defScope s__law_lowest) .none kV13 dc13 pm13 an13 cd13 ct13
    F__law_lowest := fun_mk (st := s__law_lowest) l13 c13 k13
    b__law_lowest := (fun_mk (st := s__law_lowest) l13 c13 k13).binds (ps := ["above", "below"]) fun _ _ _ _ _ _ us hl => match us, hl with | [_, _], _ => rfl
    m__law_lowest := PySem.W.mg_of X G a13
    a_law := f14
    d_law := PySem.W.fnOf "law" "law" (defArgs s_law) (defBody s_law) (defScope s_law) .none kV14 dc14 pm14 an14 cd14 ct14
    F_law := fun_mk (st := s_law) l14 c14 k14
    b_law := (fun_mk (st := s_law) l14 c14 k14).binds (ps := ["script"]) fun _ _ _ _ _ _ us hl => match us, hl with | [_], _ => rfl
    m_law := PySem.W.mg_of X G a14
    z_range := PySem.W.mg_none_of X G z_range
    z_int := PySem.W.mg_none_of X G z_int
    z_isinstance := PySem.W.mg_none_of X G z_isinstance
    z_abs := PySem.W.mg_none_of X G z_abs
    z_any := PySem.W.mg_none_of X G z_any
    z_bool := PySem.W.mg_none_of X G z_bool
    z_tuple := PySem.W.mg_none_of X G z_tuple
    z_len := PySem.W.mg_none_of X G z_len
    m_gcd := PySem.W.mg_of X G e_gcd
    a_ZERO := g_ZERO
    m_ZERO := PySem.W.mg_of X G a_ZERO
    q_ZERO := fun H => .inr ⟨_, _, _, l_ZERO, rfl, rfl, (by show 2 ≤ sizeLine; decide), (.cons ⟨_, rfl⟩ (.cons ⟨_, rfl⟩ .nil))⟩
    a_ONE := g_ONE
    m_ONE := PySem.W.mg_of X G a_ONE
    q_ONE := fun H => .inr ⟨_, _, _, l_ONE, rfl, rfl, (by show 2 ≤ sizeLine; decide), (.cons ⟨_, rfl⟩ (.cons ⟨_, rfl⟩ .nil))⟩ }
  rw [e]
  exact ⟨T.d_law, fun s v => .of_eq rfl, fun base _ _ => ok_law (P := l.prog) (w := w) (base := base) T⟩
theorem walk {l : PySem.W.OpenLaw} {q : Program} {loose : List Str} {XP : (Str → Option Value) → Heap → Prop} {YP : World → Heap → Prop} {d : DefRec} {K : Params → PySem.W.Frag} (hn : l.most = some 63) (hdf : d.params.defaults = [])
    (hY : ∀ (w : World) (h : Heap), YP w h → (K w.params).In h)
    (F : ∀ (w : World) (mg : Str → Option Value) (fa : Addr) (h : Heap), (K w.params).In h → h.Ns mainGlobals mg → mg d.name = some (.ref fa) →
      ∃ fd : FuncData, (∀ (s : Shared) (u : Value), BindsTo s fd ⟨[u], []⟩ [("script", u)]) ∧ ∀ base : Heap, (K w.params).In base → base.Ns mainGlobals mg → FnOk l.prog w (K w.params) mg base CX0 4 fa fd ["script"] (sp_law (K w.params))) :
    PySem.W.WalkO q loose XP YP l.row.toRowW d [] (fun f vs => PySem.call f vs) :=
  L2.walk_of (n := 63) (k := 4) (x := "script") (CX := fun _ => CX0) (sp := fun w => sp_law (K w.params)) hn (by decide) hdf ⟨rfl, by decide, by decide⟩ hY F (fun _ _ a ns hl hO hS => ⟨a, ns, rfl, SqF.only hO hS, hl, fun _ => rfl⟩) fun _ _ _ _ _ z => z
end My
open PySem PySem.W PyProof.Rows in
set_option maxRecDepth 100000 in
set_option maxHeartbeats 0 in
theorem PySem.Challenge.cw_evensieve_k62_whole_fractions_holds : PySem.Challenge.rw_evensieve_k62_whole_fractions.Holds := by
  w_on; o_law; k_head; (case hw => w_witness2)
  k_fill
  refine My.walk (l := PySem.Challenge.rw_evensieve_k62_whole_fractions) rfl rfl (fun w h Y => PySem.W.kIn_of Y) ?F
  case F =>
    intro w mg fa h KX G hmg
    refine' My.all_mk KX G hmg ?a0 ?l0 ?c0 ?k0 ?a1 ?l1 ?c1 ?k1 ?a2 ?l2 ?c2 ?k2 ?a3 ?l3 ?c3 ?k3 ?a4 ?l4 ?c4 ?k4 ?a5 ?l5 ?c5 ?k5 ?a6 ?l6 ?c6 ?k6 ?a7 ?l7 ?c7 ?k7 ?a8 ?l8 ?c8 ?k8 ?a9 ?l9 ?c9 ?k9 ?a10 ?l10 ?c10 ?k10 ?a11 ?l11 ?c11 ?k11 ?a12 ?l12 ?c12 ?k12 ?a13 ?l13 ?c13 ?k13 ?a14 ?l14 ?c14 ?k14 ?z_range ?z_int ?z_isinstance ?z_abs ?z_any ?z_bool ?z_tuple ?z_len ?e_gcd ?a_ZERO ?l_ZERO ?a_ONE ?l_ONE
    (case a0 => k_is)
    (case l0 => k_is)
    (case c0 => k_is)
    (case k0 => k_is)
    (case a1 => k_is)
    (case l1 => k_is)
    (case c1 => k_is)
    (case k1 => k_is)
    (case a2 => k_is)
    (case l2 => k_is)
    (case c2 => k_is)
    (case k2 => k_is)
    (case a3 => k_is)
    (case l3 => k_is)
    (case c3 => k_is)
    (case k3 => k_is)
    (case a4 => k_is)
    (case l4 => k_is)
    (case c4 => k_is)
    (case k4 => k_is)
    (case a5 => k_is)
    (case l5 => k_is)
    (case c5 => k_is)
    (case k5 => k_is)
    (case a6 => k_is)
    (case l6 => k_is)
    (case c6 => k_is)
    (case k6 => k_is)
    (case a7 => k_is)
    (case l7 => k_is)
    (case c7 => k_is)
    (case k7 => k_is)
    (case a8 => k_is)
    (case l8 => k_is)
    (case c8 => k_is)
    (case k8 => k_is)
    (case a9 => k_is)
    (case l9 => k_is)
    (case c9 => k_is)
    (case k9 => k_is)
    (case a10 => k_is)
    (case l10 => k_is)
    (case c10 => k_is)
    (case k10 => k_is)
    (case a11 => k_is)
    (case l11 => k_is)
    (case c11 => k_is)
    (case k11 => k_is)
    (case a12 => k_is)
    (case l12 => k_is)
    (case c12 => k_is)
    (case k12 => k_is)
    (case a13 => k_is)
    (case l13 => k_is)
    (case c13 => k_is)
    (case k13 => k_is)
    (case a14 => k_is)
    (case l14 => k_is)
    (case c14 => k_is)
    (case k14 => k_is)
    (case z_range => k_is)
    (case z_int => k_is)
    (case z_isinstance => k_is)
    (case z_abs => k_is)
    (case z_any => k_is)
    (case z_bool => k_is)
    (case z_tuple => k_is)
    (case z_len => k_is)
    (case e_gcd => k_is)
    (case a_ZERO => k_is)
    (case l_ZERO => k_is)
    (case a_ONE => k_is)
    (case l_ONE => k_is)
