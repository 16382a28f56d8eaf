/-
  The law ArithDeep, walked. No condition but where its terms lie.
-/
import Derived.Test.YtmgephleogiaoaaQAr19
namespace Go.Proofs.Ytmgephleogiaoaa
open Go.RowKit Go.Maps
set_option linter.unusedVariables false
set_option linter.unusedSimpArgs false
def twoT (nm : List UInt8) (t u : Tm) : Tm := .node 4 nm 0 [t, u]
theorem twoT_right {nm : List UInt8} {t u : Tm} (h : (twoT nm t u).right = true) : nm.length ≤ 64 ∧ t.right = true ∧ u.right = true := by
  have hR := right_of.1 h
  obtain ⟨h1, h2, h3⟩ := hR
  simp only [twoT, Tm.ok, okL] at h1
  simp at h1
  simp only [twoT, Tm.ns, nsL] at h2
  simp only [twoT, Tm.nd, ndL] at h3
  simp at h2 h3
  refine ⟨h1.2, right_of.2 ⟨h1.1.1, ?_, ?_⟩, right_of.2 ⟨h1.1.2, ?_, ?_⟩⟩ <;> omega
theorem balP_refl {b : Tm} (h : b.k = 0 ∨ b.ok = true) : LikeP b b := by
  rcases h with h | h
  · exact .inl ⟨h, h⟩
  · exact .inr ⟨h, h, rfl⟩
theorem ballV_P (t : Tm) : (ballV t).k = 0 ∨ (ballV t).ok = true := by
  unfold ballV
  by_cases h : t.right = true
  · rw [if_pos h]
    exact .inr (ball_ok ((t.tree.tm_right).2 (Tm.tree_right (right_of.1 h))).1)
  · rw [if_neg h]; exact .inl rfl
theorem resW_P (r : Rs) : (resW r).b.k = 0 ∨ (resW r).b.ok = true := by
  unfold resW
  by_cases h : r.2 = []
  · rw [if_pos h]; exact .inl rfl
  · rw [if_neg h]; exact ballV_P _
mutual
theorem wo_P : ∀ t : Tm, (wo t).b.k = 0 ∨ (wo t).b.ok = true
  | .node k nm i args => by
    rw [wo]
    by_cases h : k = 2
    · rw [if_pos h]; exact .inl rfl
    rw [if_neg h]
    by_cases h : k = 1
    · rw [if_pos h]; exact ballV_P _
    rw [if_neg h]
    by_cases h : k = 3
    · rw [if_pos h]; exact ballV_P _
    rw [if_neg h]
    by_cases h : isFn nm args.length = true
    · rw [if_pos h]; exact woL_P nm args []
    · rw [if_neg h]; exact ballV_P _
theorem woL_P (nm : List UInt8) : ∀ (ts : List Tm) (xs : List Int), (woL nm ts xs).b.k = 0 ∨ (woL nm ts xs).b.ok = true
  | [], xs => by rw [woL]; exact resW_P _
  | t :: ts, xs => by
    rw [woL]
    have h := wo_P t
    cases hw : wo t with
    | num v => exact woL_P nm ts (xs ++ [v])
    | bal b => rw [hw] at h; exact h
end
theorem evW_P (t : Tm) : (evW t).b.k = 0 ∨ (evW t).b.ok = true := by
  unfold evW
  by_cases h : t.right = true
  · rw [if_pos h]; exact wo_P t
  · rw [if_neg h]; exact .inl rfl
theorem ev_two {nm : List UInt8} {t u : Tm} (h : (twoT nm t u).right = true) (hf : isFn nm 2 = true) : evW (twoT nm t u) = woL nm [t, u] [] := by
  rw [evW, if_pos h, wo_f (t := twoT nm t u) rfl hf]; rfl
theorem ev_two1 {nm : List UInt8} {t u : Tm} {b : Tm} (h : (twoT nm t u).right = true) (hf : isFn nm 2 = true) (h1 : evW t = .bal b) : evW (twoT nm t u) = .bal b := by
  rw [ev_two h hf, woL]
  rw [evW, if_pos (twoT_right h).2.1] at h1
  rw [h1]
theorem ev_two2 {nm : List UInt8} {t u : Tm} {b : Tm} {x : Int} (h : (twoT nm t u).right = true) (hf : isFn nm 2 = true) (h1 : evW t = .num x) (h2 : evW u = .bal b) : evW (twoT nm t u) = .bal b := by
  rw [ev_two h hf, woL]
  rw [evW, if_pos (twoT_right h).2.1] at h1
  rw [evW, if_pos (twoT_right h).2.2] at h2
  rw [h1]
  show woL nm [u] [x] = _
  rw [woL, h2]
theorem ev_two3 {nm : List UInt8} {t u : Tm} {x y : Int} (h : (twoT nm t u).right = true) (hf : isFn nm 2 = true) (h1 : evW t = .num x) (h2 : evW u = .num y) : evW (twoT nm t u) = evW (opT nm x y) := by
  rw [ev_two h hf, ev_op (twoT_right h).1 hf, woL]
  rw [evW, if_pos (twoT_right h).2.1] at h1
  rw [evW, if_pos (twoT_right h).2.2] at h2
  rw [h1]
  show woL nm [u] [x] = _
  rw [woL, h2]
  rfl
theorem ev_twoN {nm : List UInt8} {t u : Tm} (h : (twoT nm t u).right = true) (hf : isFn nm 2 = false) : evW (twoT nm t u) = .bal (ballT (evF nm 2)) := by
  rw [evW, if_pos h, wo_n (t := twoT nm t u) rfl hf]
  show Wth.bal (ballV (evF nm 2)) = _
  rw [ballV_ev (twoT_right h).1]
theorem ev_opN {nm : List UInt8} {a b : Int} (h : nm.length ≤ 64) (hf : isFn nm 2 = false) : evW (opT nm a b) = .bal (ballT (evF nm 2)) := by
  rw [evW, if_pos (opT_right.2 h), wo_n (t := opT nm a b) rfl hf]
  show Wth.bal (ballV (evF nm 2)) = _
  rw [ballV_ev h]
theorem ev_op11 {nm : List UInt8} (hf : isFn nm 2 = true) : ∃ v, evW (opT nm 1 1) = .num v := by
  rcases name_all nm with rfl | rfl | rfl | rfl | rfl | rfl | rfl | rfl | rfl | rfl | rfl | rfl | rfl | rfl | rfl | rfl | rfl | rfl | h
  all_goals first
    | (exfalso; revert hf; decide)
    | exact ⟨_, (ev_op (by decide) hf).trans rfl⟩
    | (exfalso; simp only [str_eq, decide_eq_false_iff_not] at h; simp [isFn, h] at hf)
theorem right_two {nm : List UInt8} {t u : Tm} (h : (twoT nm t u).right = true) : (evF nm 2).ok = true := (right_of.1 (evF_right (n := 2) (twoT_right h).1)).1
theorem eval_gen {W : World} {t : Tm} {a : Option Addr} {c : Nat} (hT : TmAt W.heap.size W t a c) : Calls Try.prog 10 #[tv t a c] W fun e w' => ∃ a' c', e = .returned (.tuple #[.int .i64 (evW t).v, tv (evW t).b a' c', .bool (evW t).k]) ∧ Own W.heap.size w' (evW t).b a' c' ∧ Keep (fun g => g < W.heap.size) W w' := by
  refine Calls.mono (Eval_any hT) ?_
  rintro e w' ⟨a', c', rfl, h2, -, h3⟩
  exact ⟨a', c', rfl, h2, h3⟩
theorem eval_numI {W : World} {t : Tm} {a : Option Addr} {c : Nat} {v : Int} (hT : TmAt W.heap.size W t a c) (h : evW t = .num v) : Calls Try.prog 10 #[tv t a c] W fun e w' => ∃ a' c', e = .returned (.tuple #[.int .i64 v, tv zeroT a' c', .bool true]) ∧ inR v ∧ Own W.heap.size w' zeroT a' c' ∧ Keep (fun g => g < W.heap.size) W w' := by
  have h1 := Eval_any hT
  rw [h] at h1
  refine Calls.mono h1 ?_
  rintro e w' ⟨a', c', rfl, h2, h4, h3⟩
  exact ⟨a', c', rfl, h4, h2, h3⟩
def oA7_0_0 : Oper := ⟨some 4, Op.box 24 (Operand.tmp 1), 0, "law.go:141", #[], none⟩
def oA7_0_1 : Oper := ⟨some 5, Op.box 24 (Operand.tmp 2), 0, "law.go:141", #[], none⟩
def oA7_0_2 : Oper := ⟨some 6, Op.assign (Operand.const (Value.bool false)), 4, "law.go:141", #[], none⟩
def OA7_0 : Array Oper := List.toArray (oA7_0_0 :: oA7_0_1 :: oA7_0_2 :: [])
theorem gA7_0_0 : OA7_0[0]? = some oA7_0_0 := rfl
theorem gA7_0_1 : OA7_0[1]? = some oA7_0_1 := rfl
theorem gA7_0_2 : OA7_0[2]? = some oA7_0_2 := rfl
def cA7_1 : Code := Code.region 0 OA7_0 false
def oA7_1_0 : Oper := ⟨some 23, Op.call { callee := Callee.value (Operand.func 9), args := #[], argTypes := #[] }, 4, "law.go:142", #[], none⟩
def oA7_1_1 : Oper := ⟨some 24, Op.unOp Go.UnOp.not 4 (Operand.tmp 23), 4, "law.go:142", #[ed_ 0], none⟩
def OA7_1 : Array Oper := List.toArray (oA7_1_0 :: oA7_1_1 :: [])
theorem gA7_1_0 : OA7_1[0]? = some oA7_1_0 := rfl
theorem gA7_1_1 : OA7_1[1]? = some oA7_1_1 := rfl
def cA7_4 : Code := Code.region 1 OA7_1 false
def oA7_2_0 : Oper := ⟨some 6, Op.assign (Operand.const (Value.bool false)), 4, "law.go:143", #[], none⟩
def OA7_2 : Array Oper := List.toArray (oA7_2_0 :: [])
def cA7_7 : Code := Code.region 2 OA7_2 false
def cA7_6 : Code := Code.seq cA7_7 Code.ret
def cA7_5 : Code := Code.cond (Operand.tmp 24) cA7_6 Code.skip
def cA7_3 : Code := Code.seq cA7_4 cA7_5
def oA7_3_0 : Oper := ⟨some 25, Op.move (Operand.tmp 0), 9, "law.go:145", #[], none⟩
def oA7_3_1 : Oper := ⟨some 26, Op.load 24 (Operand.tmp 4), 24, "law.go:145", #[], none⟩
def oA7_3_2 : Oper := ⟨some 27, Op.load 24 (Operand.tmp 5), 24, "law.go:145", #[], none⟩
def oA7_3_3 : Oper := ⟨some 28, Op.buildSlice 22 2 #[(0, Operand.tmp 26), (1, Operand.tmp 27)], 22, "law.go:145", #[ed_ 1, ed_ 2], none⟩
def oA7_3_4 : Oper := ⟨some 29, Op.call { callee := Callee.value (Operand.func 15), args := #[Operand.tmp 25, Operand.tmp 28], argTypes := #[9, 22] }, 24, "law.go:145", #[ed_ 0, ed_ 3], none⟩
def oA7_3_5 : Oper := ⟨some 7, Op.alloc 24, 0, "law.go:145", #[], none⟩
def oA7_3_6 : Oper := ⟨none, Op.store 24 (Operand.tmp 7) (Operand.tmp 29), 0, "law.go:145", #[ed_ 5, ed_ 4, ec_ 4, ep_ 0, ep_ 1, ep_ 2, ep_ 3, ep_ 4, ep_ 5], none⟩
def OA7_3 : Array Oper := List.toArray (oA7_3_0 :: oA7_3_1 :: oA7_3_2 :: oA7_3_3 :: oA7_3_4 :: oA7_3_5 :: oA7_3_6 :: [])
theorem gA7_3_0 : OA7_3[0]? = some oA7_3_0 := rfl
theorem gA7_3_1 : OA7_3[1]? = some oA7_3_1 := rfl
theorem gA7_3_2 : OA7_3[2]? = some oA7_3_2 := rfl
theorem gA7_3_3 : OA7_3[3]? = some oA7_3_3 := rfl
theorem gA7_3_4 : OA7_3[4]? = some oA7_3_4 := rfl
theorem gA7_3_5 : OA7_3[5]? = some oA7_3_5 := rfl
theorem gA7_3_6 : OA7_3[6]? = some oA7_3_6 := rfl
def cA7_11 : Code := Code.region 3 OA7_3 false
def oA7_4_0 : Oper := ⟨some 31, Op.load 24 (Operand.tmp 7), 24, "law.go:146", #[], none⟩
def oA7_4_1 : Oper := ⟨some 32, Op.call { callee := Callee.value (Operand.func 10), args := #[Operand.tmp 31], argTypes := #[24] }, 26, "law.go:146", #[ed_ 0], none⟩
def oA7_4_2 : Oper := ⟨some 30, Op.move (Operand.tmp 32), 26, "law.go:146", #[ed_ 1], none⟩
def oA7_4_3 : Oper := ⟨some 33, Op.extract (Operand.tmp 30) 0, 2, "law.go:146", #[ed_ 2], none⟩
def oA7_4_4 : Oper := ⟨some 34, Op.extract (Operand.tmp 30) 1, 24, "law.go:146", #[ed_ 2, { on := 7, ground := Go.Ground.gcOnly Go.Departure.lateStores }], none⟩
def oA7_4_5 : Oper := ⟨some 35, Op.extract (Operand.tmp 30) 2, 4, "law.go:146", #[ed_ 2, { on := 8, ground := Go.Ground.gcOnly Go.Departure.lateStores }], none⟩
def oA7_4_6 : Oper := ⟨some 9, Op.alloc 24, 0, "law.go:146", #[], none⟩
def oA7_4_7 : Oper := ⟨some 8, Op.assign (Operand.tmp 33), 2, "law.go:146", #[ed_ 3, ec_ 1, ep_ 0, ep_ 1, ep_ 2, ep_ 3, { on := 4, ground := Go.Ground.textOnly Go.Departure.lateStores }, { on := 5, ground := Go.Ground.textOnly Go.Departure.lateStores }, ep_ 6], none⟩
def oA7_4_8 : Oper := ⟨none, Op.store 24 (Operand.tmp 9) (Operand.tmp 34), 0, "law.go:146", #[ed_ 6, ed_ 4, ec_ 7, ep_ 0, ep_ 1, ep_ 2, ep_ 3, ep_ 4, { on := 5, ground := Go.Ground.textOnly Go.Departure.lateStores }, ep_ 6, ep_ 7], none⟩
def oA7_4_9 : Oper := ⟨some 10, Op.assign (Operand.tmp 35), 4, "law.go:146", #[ed_ 5, ec_ 8, ep_ 0, ep_ 1, ep_ 2, ep_ 3, ep_ 4, ep_ 5, ep_ 6, ep_ 7, ep_ 8], none⟩
def OA7_4 : Array Oper := List.toArray (oA7_4_0 :: oA7_4_1 :: oA7_4_2 :: oA7_4_3 :: oA7_4_4 :: oA7_4_5 :: oA7_4_6 :: oA7_4_7 :: oA7_4_8 :: oA7_4_9 :: [])
theorem gA7_4_0 : OA7_4[0]? = some oA7_4_0 := rfl
theorem gA7_4_1 : OA7_4[1]? = some oA7_4_1 := rfl
theorem gA7_4_2 : OA7_4[2]? = some oA7_4_2 := rfl
theorem gA7_4_3 : OA7_4[3]? = some oA7_4_3 := rfl
theorem gA7_4_4 : OA7_4[4]? = some oA7_4_4 := rfl
theorem gA7_4_5 : OA7_4[5]? = some oA7_4_5 := rfl
theorem gA7_4_6 : OA7_4[6]? = some oA7_4_6 := rfl
theorem gA7_4_7 : OA7_4[7]? = some oA7_4_7 := rfl
theorem gA7_4_8 : OA7_4[8]? = some oA7_4_8 := rfl
theorem gA7_4_9 : OA7_4[9]? = some oA7_4_9 := rfl
def cA7_13 : Code := Code.region 4 OA7_4 false
def oA7_5_0 : Oper := ⟨some 37, Op.load 24 (Operand.tmp 4), 24, "law.go:147", #[], none⟩
def oA7_5_1 : Oper := ⟨some 38, Op.call { callee := Callee.value (Operand.func 10), args := #[Operand.tmp 37], argTypes := #[24] }, 26, "law.go:147", #[ed_ 0], none⟩
def oA7_5_2 : Oper := ⟨some 36, Op.move (Operand.tmp 38), 26, "law.go:147", #[ed_ 1], none⟩
def oA7_5_3 : Oper := ⟨some 39, Op.extract (Operand.tmp 36) 0, 2, "law.go:147", #[ed_ 2], none⟩
def oA7_5_4 : Oper := ⟨some 40, Op.extract (Operand.tmp 36) 1, 24, "law.go:147", #[ed_ 2, { on := 7, ground := Go.Ground.gcOnly Go.Departure.lateStores }], none⟩
def oA7_5_5 : Oper := ⟨some 41, Op.extract (Operand.tmp 36) 2, 4, "law.go:147", #[ed_ 2, { on := 8, ground := Go.Ground.gcOnly Go.Departure.lateStores }], none⟩
def oA7_5_6 : Oper := ⟨some 12, Op.alloc 24, 0, "law.go:147", #[], none⟩
def oA7_5_7 : Oper := ⟨some 11, Op.assign (Operand.tmp 39), 2, "law.go:147", #[ed_ 3, ec_ 1, ep_ 0, ep_ 1, ep_ 2, ep_ 3, { on := 4, ground := Go.Ground.textOnly Go.Departure.lateStores }, { on := 5, ground := Go.Ground.textOnly Go.Departure.lateStores }, ep_ 6], none⟩
def oA7_5_8 : Oper := ⟨none, Op.store 24 (Operand.tmp 12) (Operand.tmp 40), 0, "law.go:147", #[ed_ 6, ed_ 4, ec_ 7, ep_ 0, ep_ 1, ep_ 2, ep_ 3, ep_ 4, { on := 5, ground := Go.Ground.textOnly Go.Departure.lateStores }, ep_ 6, ep_ 7], none⟩
def oA7_5_9 : Oper := ⟨some 13, Op.assign (Operand.tmp 41), 4, "law.go:147", #[ed_ 5, ec_ 8, ep_ 0, ep_ 1, ep_ 2, ep_ 3, ep_ 4, ep_ 5, ep_ 6, ep_ 7, ep_ 8], none⟩
def OA7_5 : Array Oper := List.toArray (oA7_5_0 :: oA7_5_1 :: oA7_5_2 :: oA7_5_3 :: oA7_5_4 :: oA7_5_5 :: oA7_5_6 :: oA7_5_7 :: oA7_5_8 :: oA7_5_9 :: [])
theorem gA7_5_0 : OA7_5[0]? = some oA7_5_0 := rfl
theorem gA7_5_1 : OA7_5[1]? = some oA7_5_1 := rfl
theorem gA7_5_2 : OA7_5[2]? = some oA7_5_2 := rfl
theorem gA7_5_3 : OA7_5[3]? = some oA7_5_3 := rfl
theorem gA7_5_4 : OA7_5[4]? = some oA7_5_4 := rfl
theorem gA7_5_5 : OA7_5[5]? = some oA7_5_5 := rfl
theorem gA7_5_6 : OA7_5[6]? = some oA7_5_6 := rfl
theorem gA7_5_7 : OA7_5[7]? = some oA7_5_7 := rfl
theorem gA7_5_8 : OA7_5[8]? = some oA7_5_8 := rfl
theorem gA7_5_9 : OA7_5[9]? = some oA7_5_9 := rfl
def cA7_15 : Code := Code.region 5 OA7_5 false
def oA7_6_0 : Oper := ⟨some 43, Op.load 24 (Operand.tmp 5), 24, "law.go:148", #[], none⟩
def oA7_6_1 : Oper := ⟨some 44, Op.call { callee := Callee.value (Operand.func 10), args := #[Operand.tmp 43], argTypes := #[24] }, 26, "law.go:148", #[ed_ 0], none⟩
def oA7_6_2 : Oper := ⟨some 42, Op.move (Operand.tmp 44), 26, "law.go:148", #[ed_ 1], none⟩
def oA7_6_3 : Oper := ⟨some 45, Op.extract (Operand.tmp 42) 0, 2, "law.go:148", #[ed_ 2], none⟩
def oA7_6_4 : Oper := ⟨some 46, Op.extract (Operand.tmp 42) 1, 24, "law.go:148", #[ed_ 2, { on := 7, ground := Go.Ground.gcOnly Go.Departure.lateStores }], none⟩
def oA7_6_5 : Oper := ⟨some 47, Op.extract (Operand.tmp 42) 2, 4, "law.go:148", #[ed_ 2, { on := 8, ground := Go.Ground.gcOnly Go.Departure.lateStores }], none⟩
def oA7_6_6 : Oper := ⟨some 15, Op.alloc 24, 0, "law.go:148", #[], none⟩
def oA7_6_7 : Oper := ⟨some 14, Op.assign (Operand.tmp 45), 2, "law.go:148", #[ed_ 3, ec_ 1, ep_ 0, ep_ 1, ep_ 2, ep_ 3, { on := 4, ground := Go.Ground.textOnly Go.Departure.lateStores }, { on := 5, ground := Go.Ground.textOnly Go.Departure.lateStores }, ep_ 6], none⟩
def oA7_6_8 : Oper := ⟨none, Op.store 24 (Operand.tmp 15) (Operand.tmp 46), 0, "law.go:148", #[ed_ 6, ed_ 4, ec_ 7, ep_ 0, ep_ 1, ep_ 2, ep_ 3, ep_ 4, { on := 5, ground := Go.Ground.textOnly Go.Departure.lateStores }, ep_ 6, ep_ 7], none⟩
def oA7_6_9 : Oper := ⟨some 16, Op.assign (Operand.tmp 47), 4, "law.go:148", #[ed_ 5, ec_ 8, ep_ 0, ep_ 1, ep_ 2, ep_ 3, ep_ 4, ep_ 5, ep_ 6, ep_ 7, ep_ 8], none⟩
def OA7_6 : Array Oper := List.toArray (oA7_6_0 :: oA7_6_1 :: oA7_6_2 :: oA7_6_3 :: oA7_6_4 :: oA7_6_5 :: oA7_6_6 :: oA7_6_7 :: oA7_6_8 :: oA7_6_9 :: [])
theorem gA7_6_0 : OA7_6[0]? = some oA7_6_0 := rfl
theorem gA7_6_1 : OA7_6[1]? = some oA7_6_1 := rfl
theorem gA7_6_2 : OA7_6[2]? = some oA7_6_2 := rfl
theorem gA7_6_3 : OA7_6[3]? = some oA7_6_3 := rfl
theorem gA7_6_4 : OA7_6[4]? = some oA7_6_4 := rfl
theorem gA7_6_5 : OA7_6[5]? = some oA7_6_5 := rfl
theorem gA7_6_6 : OA7_6[6]? = some oA7_6_6 := rfl
theorem gA7_6_7 : OA7_6[7]? = some oA7_6_7 := rfl
theorem gA7_6_8 : OA7_6[8]? = some oA7_6_8 := rfl
theorem gA7_6_9 : OA7_6[9]? = some oA7_6_9 := rfl
def cA7_17 : Code := Code.region 6 OA7_6 false
def oA7_7_0 : Oper := ⟨some 48, Op.load 24 (Operand.tmp 7), 24, "law.go:149", #[], none⟩
def oA7_7_1 : Oper := ⟨some 49, Op.call { callee := Callee.value (Operand.func 11), args := #[Operand.tmp 48], argTypes := #[24] }, 4, "law.go:149", #[ed_ 0], none⟩
def oA7_7_2 : Oper := ⟨some 50, Op.unOp Go.UnOp.not 4 (Operand.tmp 49), 4, "law.go:149", #[ed_ 1], none⟩
def OA7_7 : Array Oper := List.toArray (oA7_7_0 :: oA7_7_1 :: oA7_7_2 :: [])
theorem gA7_7_0 : OA7_7[0]? = some oA7_7_0 := rfl
theorem gA7_7_1 : OA7_7[1]? = some oA7_7_1 := rfl
theorem gA7_7_2 : OA7_7[2]? = some oA7_7_2 := rfl
def cA7_20 : Code := Code.region 7 OA7_7 false
def oA7_8_0 : Oper := ⟨some 51, Op.move (Operand.tmp 10), 4, "law.go:150", #[], none⟩
def oA7_8_1 : Oper := ⟨some 52, Op.unOp Go.UnOp.not 4 (Operand.tmp 51), 4, "law.go:150", #[ed_ 0], none⟩
def oA7_8_2 : Oper := ⟨some 53, Op.move (Operand.tmp 52), 4, "law.go:150", #[ed_ 1], none⟩
def oA7_8_3 : Oper := ⟨some 54, Op.fieldAddr 24 (Operand.tmp 9) 0, 0, "law.go:150", #[eg_ 2], some (2, true)⟩
def oA7_8_4 : Oper := ⟨some 55, Op.load 3 (Operand.tmp 54), 3, "law.go:150", #[ed_ 3, eg_ 2], some (2, true)⟩
def oA7_8_5 : Oper := ⟨some 56, Op.binOp Go.BinOp.eql 3 (Operand.tmp 55) (Operand.const (Value.int IntKind.i64 0)) 3, 4, "law.go:150", #[ed_ 4, eg_ 2], some (2, true)⟩
def oA7_8_6 : Oper := ⟨some 57, Op.pick (Operand.tmp 53) (Operand.tmp 56) (Operand.const (Value.bool false)), 4, "law.go:150", #[ed_ 2, ed_ 5], none⟩
def oA7_8_7 : Oper := ⟨some 6, Op.assign (Operand.tmp 57), 4, "law.go:150", #[ed_ 6, ec_ 2, ep_ 0, ep_ 1, ep_ 2, ep_ 3, ep_ 4, ep_ 5, ep_ 6], none⟩
def OA7_8 : Array Oper := List.toArray (oA7_8_0 :: oA7_8_1 :: oA7_8_2 :: oA7_8_3 :: oA7_8_4 :: oA7_8_5 :: oA7_8_6 :: oA7_8_7 :: [])
theorem gA7_8_0 : OA7_8[0]? = some oA7_8_0 := rfl
theorem gA7_8_1 : OA7_8[1]? = some oA7_8_1 := rfl
theorem gA7_8_2 : OA7_8[2]? = some oA7_8_2 := rfl
theorem gA7_8_3 : OA7_8[3]? = some oA7_8_3 := rfl
theorem gA7_8_4 : OA7_8[4]? = some oA7_8_4 := rfl
theorem gA7_8_5 : OA7_8[5]? = some oA7_8_5 := rfl
theorem gA7_8_6 : OA7_8[6]? = some oA7_8_6 := rfl
theorem gA7_8_7 : OA7_8[7]? = some oA7_8_7 := rfl
def cA7_23 : Code := Code.region 8 OA7_8 false
def cA7_22 : Code := Code.seq cA7_23 Code.ret
def cA7_21 : Code := Code.cond (Operand.tmp 50) cA7_22 Code.skip
def cA7_19 : Code := Code.seq cA7_20 cA7_21
def oA7_9_0 : Oper := ⟨some 59, Op.move (Operand.tmp 0), 9, "law.go:152", #[], none⟩
def oA7_9_1 : Oper := ⟨some 60, Op.call { callee := Callee.value (Operand.func 14), args := #[Operand.tmp 59, Operand.const (Value.int IntKind.i64 1), Operand.const (Value.int IntKind.i64 1)], argTypes := #[9, 2, 2] }, 24, "law.go:152", #[ed_ 0], none⟩
def oA7_9_2 : Oper := ⟨some 61, Op.call { callee := Callee.value (Operand.func 10), args := #[Operand.tmp 60], argTypes := #[24] }, 26, "law.go:152", #[ed_ 1, ec_ 1], none⟩
def oA7_9_3 : Oper := ⟨some 58, Op.move (Operand.tmp 61), 26, "law.go:152", #[ed_ 2], none⟩
def oA7_9_4 : Oper := ⟨some 62, Op.extract (Operand.tmp 58) 0, 2, "law.go:152", #[ed_ 3], none⟩
def oA7_9_5 : Oper := ⟨some 63, Op.extract (Operand.tmp 58) 1, 24, "law.go:152", #[ed_ 3, { on := 8, ground := Go.Ground.gcOnly Go.Departure.lateStores }], none⟩
def oA7_9_6 : Oper := ⟨some 64, Op.extract (Operand.tmp 58) 2, 4, "law.go:152", #[ed_ 3, { on := 9, ground := Go.Ground.gcOnly Go.Departure.lateStores }], none⟩
def oA7_9_7 : Oper := ⟨some 18, Op.alloc 24, 0, "law.go:152", #[], none⟩
def oA7_9_8 : Oper := ⟨some 17, Op.assign (Operand.tmp 62), 2, "law.go:152", #[ed_ 4, ec_ 2, ep_ 0, ep_ 1, ep_ 2, ep_ 3, ep_ 4, { on := 5, ground := Go.Ground.textOnly Go.Departure.lateStores }, { on := 6, ground := Go.Ground.textOnly Go.Departure.lateStores }, ep_ 7], none⟩
def oA7_9_9 : Oper := ⟨none, Op.store 24 (Operand.tmp 18) (Operand.tmp 63), 0, "law.go:152", #[ed_ 7, ed_ 5, ec_ 8, ep_ 0, ep_ 1, ep_ 2, ep_ 3, ep_ 4, ep_ 5, { on := 6, ground := Go.Ground.textOnly Go.Departure.lateStores }, ep_ 7, ep_ 8], none⟩
def oA7_9_10 : Oper := ⟨some 19, Op.assign (Operand.tmp 64), 4, "law.go:152", #[ed_ 6, ec_ 9, ep_ 0, ep_ 1, ep_ 2, ep_ 3, ep_ 4, ep_ 5, ep_ 6, ep_ 7, ep_ 8, ep_ 9], none⟩
def OA7_9 : Array Oper := List.toArray (oA7_9_0 :: oA7_9_1 :: oA7_9_2 :: oA7_9_3 :: oA7_9_4 :: oA7_9_5 :: oA7_9_6 :: oA7_9_7 :: oA7_9_8 :: oA7_9_9 :: oA7_9_10 :: [])
theorem gA7_9_0 : OA7_9[0]? = some oA7_9_0 := rfl
theorem gA7_9_1 : OA7_9[1]? = some oA7_9_1 := rfl
theorem gA7_9_2 : OA7_9[2]? = some oA7_9_2 := rfl
theorem gA7_9_3 : OA7_9[3]? = some oA7_9_3 := rfl
theorem gA7_9_4 : OA7_9[4]? = some oA7_9_4 := rfl
theorem gA7_9_5 : OA7_9[5]? = some oA7_9_5 := rfl
theorem gA7_9_6 : OA7_9[6]? = some oA7_9_6 := rfl
theorem gA7_9_7 : OA7_9[7]? = some oA7_9_7 := rfl
theorem gA7_9_8 : OA7_9[8]? = some oA7_9_8 := rfl
theorem gA7_9_9 : OA7_9[9]? = some oA7_9_9 := rfl
theorem gA7_9_10 : OA7_9[10]? = some oA7_9_10 := rfl
def cA7_27 : Code := Code.region 9 OA7_9 false
def oA7_10_0 : Oper := ⟨some 65, Op.move (Operand.tmp 19), 4, "law.go:153", #[], none⟩
def oA7_10_1 : Oper := ⟨some 66, Op.unOp Go.UnOp.not 4 (Operand.tmp 65), 4, "law.go:153", #[ed_ 0], none⟩
def oA7_10_2 : Oper := ⟨some 67, Op.move (Operand.tmp 66), 4, "law.go:153", #[ed_ 1], none⟩
def oA7_10_3 : Oper := ⟨some 68, Op.fieldAddr 24 (Operand.tmp 18) 0, 0, "law.go:153", #[eg_ 2], some (2, true)⟩
def oA7_10_4 : Oper := ⟨some 69, Op.load 3 (Operand.tmp 68), 3, "law.go:153", #[ed_ 3, eg_ 2], some (2, true)⟩
def oA7_10_5 : Oper := ⟨some 70, Op.binOp Go.BinOp.eql 3 (Operand.tmp 69) (Operand.const (Value.int IntKind.i64 4)) 3, 4, "law.go:153", #[ed_ 4, eg_ 2], some (2, true)⟩
def oA7_10_6 : Oper := ⟨some 71, Op.pick (Operand.tmp 67) (Operand.tmp 70) (Operand.const (Value.bool false)), 4, "law.go:153", #[ed_ 2, ed_ 5], none⟩
def oA7_10_7 : Oper := ⟨some 72, Op.move (Operand.tmp 71), 4, "law.go:153", #[ed_ 6, ec_ 2], none⟩
def oA7_10_8 : Oper := ⟨some 73, Op.fieldAddr 24 (Operand.tmp 18) 3, 0, "law.go:153", #[eg_ 7], some (7, true)⟩
def oA7_10_9 : Oper := ⟨some 74, Op.load 22 (Operand.tmp 73), 22, "law.go:153", #[ed_ 8, eg_ 7], some (7, true)⟩
def oA7_10_10 : Oper := ⟨some 75, Op.call { callee := Callee.builtin Go.Builtin.len, args := #[Operand.tmp 74], argTypes := #[22] }, 3, "law.go:153", #[ed_ 9, eg_ 7], some (7, true)⟩
def oA7_10_11 : Oper := ⟨some 76, Op.binOp Go.BinOp.eql 3 (Operand.tmp 75) (Operand.const (Value.int IntKind.i64 2)) 3, 4, "law.go:153", #[ed_ 10, eg_ 7], some (7, true)⟩
def oA7_10_12 : Oper := ⟨some 77, Op.pick (Operand.tmp 72) (Operand.tmp 76) (Operand.const (Value.bool false)), 4, "law.go:153", #[ed_ 7, ed_ 11], none⟩
def oA7_10_13 : Oper := ⟨some 78, Op.move (Operand.tmp 77), 4, "law.go:153", #[ed_ 12, ec_ 7], none⟩
def oA7_10_14 : Oper := ⟨some 79, Op.fieldAddr 24 (Operand.tmp 18) 3, 0, "law.go:153", #[eg_ 13], some (13, true)⟩
def oA7_10_15 : Oper := ⟨some 80, Op.load 22 (Operand.tmp 79), 22, "law.go:153", #[ed_ 14, eg_ 13], some (13, true)⟩
def oA7_10_16 : Oper := ⟨some 81, Op.indexAddr 22 (Operand.tmp 80) (Operand.const (Value.int IntKind.i64 0)), 0, "law.go:153", #[ed_ 15, eg_ 13], some (13, true)⟩
def oA7_10_17 : Oper := ⟨some 82, Op.fieldAddr 24 (Operand.tmp 81) 1, 0, "law.go:153", #[ed_ 16, eg_ 13], some (13, true)⟩
def oA7_10_18 : Oper := ⟨some 83, Op.load 9 (Operand.tmp 82), 9, "law.go:153", #[ed_ 17, eg_ 13], some (13, true)⟩
def oA7_10_19 : Oper := ⟨some 84, Op.binOp Go.BinOp.eql 9 (Operand.tmp 83) (Operand.const (Value.string { data := #[116, 121, 112, 101, 95, 101, 114, 114, 111, 114] })) 9, 4, "law.go:153", #[ed_ 18, eg_ 13], some (13, true)⟩
def oA7_10_20 : Oper := ⟨some 85, Op.pick (Operand.tmp 78) (Operand.tmp 84) (Operand.const (Value.bool false)), 4, "law.go:153", #[ed_ 13, ed_ 19], none⟩
def OA7_10 : Array Oper := List.toArray (oA7_10_0 :: oA7_10_1 :: oA7_10_2 :: oA7_10_3 :: oA7_10_4 :: oA7_10_5 :: oA7_10_6 :: oA7_10_7 :: oA7_10_8 :: oA7_10_9 :: oA7_10_10 :: oA7_10_11 :: oA7_10_12 :: oA7_10_13 :: oA7_10_14 :: oA7_10_15 :: oA7_10_16 :: oA7_10_17 :: oA7_10_18 :: oA7_10_19 :: oA7_10_20 :: [])
theorem gA7_10_0 : OA7_10[0]? = some oA7_10_0 := rfl
theorem gA7_10_1 : OA7_10[1]? = some oA7_10_1 := rfl
theorem gA7_10_2 : OA7_10[2]? = some oA7_10_2 := rfl
theorem gA7_10_3 : OA7_10[3]? = some oA7_10_3 := rfl
theorem gA7_10_4 : OA7_10[4]? = some oA7_10_4 := rfl
theorem gA7_10_5 : OA7_10[5]? = some oA7_10_5 := rfl
theorem gA7_10_6 : OA7_10[6]? = some oA7_10_6 := rfl
theorem gA7_10_7 : OA7_10[7]? = some oA7_10_7 := rfl
theorem gA7_10_8 : OA7_10[8]? = some oA7_10_8 := rfl
theorem gA7_10_9 : OA7_10[9]? = some oA7_10_9 := rfl
theorem gA7_10_10 : OA7_10[10]? = some oA7_10_10 := rfl
theorem gA7_10_11 : OA7_10[11]? = some oA7_10_11 := rfl
theorem gA7_10_12 : OA7_10[12]? = some oA7_10_12 := rfl
theorem gA7_10_13 : OA7_10[13]? = some oA7_10_13 := rfl
theorem gA7_10_14 : OA7_10[14]? = some oA7_10_14 := rfl
theorem gA7_10_15 : OA7_10[15]? = some oA7_10_15 := rfl
theorem gA7_10_16 : OA7_10[16]? = some oA7_10_16 := rfl
theorem gA7_10_17 : OA7_10[17]? = some oA7_10_17 := rfl
theorem gA7_10_18 : OA7_10[18]? = some oA7_10_18 := rfl
theorem gA7_10_19 : OA7_10[19]? = some oA7_10_19 := rfl
theorem gA7_10_20 : OA7_10[20]? = some oA7_10_20 := rfl
def cA7_30 : Code := Code.region 10 OA7_10 false
def oA7_11_0 : Oper := ⟨some 86, Op.move (Operand.tmp 10), 4, "law.go:154", #[], none⟩
def oA7_11_1 : Oper := ⟨some 87, Op.unOp Go.UnOp.not 4 (Operand.tmp 86), 4, "law.go:154", #[ed_ 0], none⟩
def oA7_11_2 : Oper := ⟨some 88, Op.move (Operand.tmp 87), 4, "law.go:154", #[ed_ 1], none⟩
def oA7_11_3 : Oper := ⟨some 89, Op.move (Operand.tmp 8), 2, "law.go:154", #[eg_ 2], some (2, true)⟩
def oA7_11_4 : Oper := ⟨some 90, Op.binOp Go.BinOp.eql 2 (Operand.tmp 89) (Operand.const (Value.int IntKind.i64 0)) 2, 4, "law.go:154", #[ed_ 3, eg_ 2], some (2, true)⟩
def oA7_11_5 : Oper := ⟨some 91, Op.pick (Operand.tmp 88) (Operand.tmp 90) (Operand.const (Value.bool false)), 4, "law.go:154", #[ed_ 2, ed_ 4], none⟩
def oA7_11_6 : Oper := ⟨some 92, Op.move (Operand.tmp 91), 4, "law.go:154", #[ed_ 5, ec_ 2], none⟩
def oA7_11_7 : Oper := ⟨some 93, Op.move (Operand.tmp 17), 2, "law.go:154", #[eg_ 6], some (6, true)⟩
def oA7_11_8 : Oper := ⟨some 94, Op.binOp Go.BinOp.eql 2 (Operand.tmp 93) (Operand.const (Value.int IntKind.i64 0)) 2, 4, "law.go:154", #[ed_ 7, eg_ 6], some (6, true)⟩
def oA7_11_9 : Oper := ⟨some 95, Op.pick (Operand.tmp 92) (Operand.tmp 94) (Operand.const (Value.bool false)), 4, "law.go:154", #[ed_ 6, ed_ 8], none⟩
def oA7_11_10 : Oper := ⟨some 96, Op.move (Operand.tmp 95), 4, "law.go:154", #[ed_ 9, ec_ 6], none⟩
def oA7_11_11 : Oper := ⟨some 97, Op.load 24 (Operand.tmp 9), 24, "law.go:154", #[eg_ 10], some (10, true)⟩
def oA7_11_12 : Oper := ⟨some 98, Op.load 24 (Operand.tmp 18), 24, "law.go:154", #[eg_ 10], some (10, true)⟩
def oA7_11_13 : Oper := ⟨some 99, Op.call { callee := Callee.value (Operand.func 13), args := #[Operand.tmp 97, Operand.tmp 98], argTypes := #[24, 24] }, 4, "law.go:154", #[ed_ 11, ed_ 12, ec_ 10, eg_ 10], some (10, true)⟩
def oA7_11_14 : Oper := ⟨some 100, Op.pick (Operand.tmp 96) (Operand.tmp 99) (Operand.const (Value.bool false)), 4, "law.go:154", #[ed_ 10, ed_ 13], none⟩
def oA7_11_15 : Oper := ⟨some 6, Op.assign (Operand.tmp 100), 4, "law.go:154", #[ed_ 14, ec_ 13, ep_ 0, ep_ 1, ep_ 2, ep_ 3, ep_ 4, ep_ 5, ep_ 6, ep_ 7, ep_ 8, ep_ 9, ep_ 10, ep_ 11, ep_ 12, ep_ 13, ep_ 14], none⟩
def OA7_11 : Array Oper := List.toArray (oA7_11_0 :: oA7_11_1 :: oA7_11_2 :: oA7_11_3 :: oA7_11_4 :: oA7_11_5 :: oA7_11_6 :: oA7_11_7 :: oA7_11_8 :: oA7_11_9 :: oA7_11_10 :: oA7_11_11 :: oA7_11_12 :: oA7_11_13 :: oA7_11_14 :: oA7_11_15 :: [])
theorem gA7_11_0 : OA7_11[0]? = some oA7_11_0 := rfl
theorem gA7_11_1 : OA7_11[1]? = some oA7_11_1 := rfl
theorem gA7_11_2 : OA7_11[2]? = some oA7_11_2 := rfl
theorem gA7_11_3 : OA7_11[3]? = some oA7_11_3 := rfl
theorem gA7_11_4 : OA7_11[4]? = some oA7_11_4 := rfl
theorem gA7_11_5 : OA7_11[5]? = some oA7_11_5 := rfl
theorem gA7_11_6 : OA7_11[6]? = some oA7_11_6 := rfl
theorem gA7_11_7 : OA7_11[7]? = some oA7_11_7 := rfl
theorem gA7_11_8 : OA7_11[8]? = some oA7_11_8 := rfl
theorem gA7_11_9 : OA7_11[9]? = some oA7_11_9 := rfl
theorem gA7_11_10 : OA7_11[10]? = some oA7_11_10 := rfl
theorem gA7_11_11 : OA7_11[11]? = some oA7_11_11 := rfl
theorem gA7_11_12 : OA7_11[12]? = some oA7_11_12 := rfl
theorem gA7_11_13 : OA7_11[13]? = some oA7_11_13 := rfl
theorem gA7_11_14 : OA7_11[14]? = some oA7_11_14 := rfl
theorem gA7_11_15 : OA7_11[15]? = some oA7_11_15 := rfl
def cA7_33 : Code := Code.region 11 OA7_11 false
def cA7_32 : Code := Code.seq cA7_33 Code.ret
def cA7_31 : Code := Code.cond (Operand.tmp 85) cA7_32 Code.skip
def cA7_29 : Code := Code.seq cA7_30 cA7_31
def oA7_12_0 : Oper := ⟨some 101, Op.move (Operand.tmp 13), 4, "law.go:156", #[], none⟩
def oA7_12_1 : Oper := ⟨some 102, Op.unOp Go.UnOp.not 4 (Operand.tmp 101), 4, "law.go:156", #[ed_ 0], none⟩
def OA7_12 : Array Oper := List.toArray (oA7_12_0 :: oA7_12_1 :: [])
theorem gA7_12_0 : OA7_12[0]? = some oA7_12_0 := rfl
theorem gA7_12_1 : OA7_12[1]? = some oA7_12_1 := rfl
def cA7_38 : Code := Code.region 12 OA7_12 false
def oA7_13_0 : Oper := ⟨some 103, Op.move (Operand.tmp 10), 4, "law.go:157", #[], none⟩
def oA7_13_1 : Oper := ⟨some 104, Op.unOp Go.UnOp.not 4 (Operand.tmp 103), 4, "law.go:157", #[ed_ 0], none⟩
def oA7_13_2 : Oper := ⟨some 105, Op.move (Operand.tmp 104), 4, "law.go:157", #[ed_ 1], none⟩
def oA7_13_3 : Oper := ⟨some 106, Op.move (Operand.tmp 8), 2, "law.go:157", #[eg_ 2], some (2, true)⟩
def oA7_13_4 : Oper := ⟨some 107, Op.binOp Go.BinOp.eql 2 (Operand.tmp 106) (Operand.const (Value.int IntKind.i64 0)) 2, 4, "law.go:157", #[ed_ 3, eg_ 2], some (2, true)⟩
def oA7_13_5 : Oper := ⟨some 108, Op.pick (Operand.tmp 105) (Operand.tmp 107) (Operand.const (Value.bool false)), 4, "law.go:157", #[ed_ 2, ed_ 4], none⟩
def oA7_13_6 : Oper := ⟨some 109, Op.move (Operand.tmp 108), 4, "law.go:157", #[ed_ 5, ec_ 2], none⟩
def oA7_13_7 : Oper := ⟨some 110, Op.load 24 (Operand.tmp 9), 24, "law.go:157", #[eg_ 6], some (6, true)⟩
def oA7_13_8 : Oper := ⟨some 111, Op.load 24 (Operand.tmp 12), 24, "law.go:157", #[eg_ 6], some (6, true)⟩
def oA7_13_9 : Oper := ⟨some 112, Op.call { callee := Callee.value (Operand.func 13), args := #[Operand.tmp 110, Operand.tmp 111], argTypes := #[24, 24] }, 4, "law.go:157", #[ed_ 7, ed_ 8, ec_ 6, eg_ 6], some (6, true)⟩
def oA7_13_10 : Oper := ⟨some 113, Op.pick (Operand.tmp 109) (Operand.tmp 112) (Operand.const (Value.bool false)), 4, "law.go:157", #[ed_ 6, ed_ 9], none⟩
def oA7_13_11 : Oper := ⟨some 6, Op.assign (Operand.tmp 113), 4, "law.go:157", #[ed_ 10, ec_ 9, ep_ 0, ep_ 1, ep_ 2, ep_ 3, ep_ 4, ep_ 5, ep_ 6, ep_ 7, ep_ 8, ep_ 9, ep_ 10], none⟩
def OA7_13 : Array Oper := List.toArray (oA7_13_0 :: oA7_13_1 :: oA7_13_2 :: oA7_13_3 :: oA7_13_4 :: oA7_13_5 :: oA7_13_6 :: oA7_13_7 :: oA7_13_8 :: oA7_13_9 :: oA7_13_10 :: oA7_13_11 :: [])
theorem gA7_13_0 : OA7_13[0]? = some oA7_13_0 := rfl
theorem gA7_13_1 : OA7_13[1]? = some oA7_13_1 := rfl
theorem gA7_13_2 : OA7_13[2]? = some oA7_13_2 := rfl
theorem gA7_13_3 : OA7_13[3]? = some oA7_13_3 := rfl
theorem gA7_13_4 : OA7_13[4]? = some oA7_13_4 := rfl
theorem gA7_13_5 : OA7_13[5]? = some oA7_13_5 := rfl
theorem gA7_13_6 : OA7_13[6]? = some oA7_13_6 := rfl
theorem gA7_13_7 : OA7_13[7]? = some oA7_13_7 := rfl
theorem gA7_13_8 : OA7_13[8]? = some oA7_13_8 := rfl
theorem gA7_13_9 : OA7_13[9]? = some oA7_13_9 := rfl
theorem gA7_13_10 : OA7_13[10]? = some oA7_13_10 := rfl
theorem gA7_13_11 : OA7_13[11]? = some oA7_13_11 := rfl
def cA7_41 : Code := Code.region 13 OA7_13 false
def cA7_40 : Code := Code.seq cA7_41 Code.ret
def cA7_39 : Code := Code.cond (Operand.tmp 102) cA7_40 Code.skip
def cA7_37 : Code := Code.seq cA7_38 cA7_39
def oA7_14_0 : Oper := ⟨some 114, Op.move (Operand.tmp 16), 4, "law.go:159", #[], none⟩
def oA7_14_1 : Oper := ⟨some 115, Op.unOp Go.UnOp.not 4 (Operand.tmp 114), 4, "law.go:159", #[ed_ 0], none⟩
def OA7_14 : Array Oper := List.toArray (oA7_14_0 :: oA7_14_1 :: [])
theorem gA7_14_0 : OA7_14[0]? = some oA7_14_0 := rfl
theorem gA7_14_1 : OA7_14[1]? = some oA7_14_1 := rfl
def cA7_46 : Code := Code.region 14 OA7_14 false
def oA7_15_0 : Oper := ⟨some 116, Op.move (Operand.tmp 10), 4, "law.go:160", #[], none⟩
def oA7_15_1 : Oper := ⟨some 117, Op.unOp Go.UnOp.not 4 (Operand.tmp 116), 4, "law.go:160", #[ed_ 0], none⟩
def oA7_15_2 : Oper := ⟨some 118, Op.move (Operand.tmp 117), 4, "law.go:160", #[ed_ 1], none⟩
def oA7_15_3 : Oper := ⟨some 119, Op.move (Operand.tmp 8), 2, "law.go:160", #[eg_ 2], some (2, true)⟩
def oA7_15_4 : Oper := ⟨some 120, Op.binOp Go.BinOp.eql 2 (Operand.tmp 119) (Operand.const (Value.int IntKind.i64 0)) 2, 4, "law.go:160", #[ed_ 3, eg_ 2], some (2, true)⟩
def oA7_15_5 : Oper := ⟨some 121, Op.pick (Operand.tmp 118) (Operand.tmp 120) (Operand.const (Value.bool false)), 4, "law.go:160", #[ed_ 2, ed_ 4], none⟩
def oA7_15_6 : Oper := ⟨some 122, Op.move (Operand.tmp 121), 4, "law.go:160", #[ed_ 5, ec_ 2], none⟩
def oA7_15_7 : Oper := ⟨some 123, Op.load 24 (Operand.tmp 9), 24, "law.go:160", #[eg_ 6], some (6, true)⟩
def oA7_15_8 : Oper := ⟨some 124, Op.load 24 (Operand.tmp 15), 24, "law.go:160", #[eg_ 6], some (6, true)⟩
def oA7_15_9 : Oper := ⟨some 125, Op.call { callee := Callee.value (Operand.func 13), args := #[Operand.tmp 123, Operand.tmp 124], argTypes := #[24, 24] }, 4, "law.go:160", #[ed_ 7, ed_ 8, ec_ 6, eg_ 6], some (6, true)⟩
def oA7_15_10 : Oper := ⟨some 126, Op.pick (Operand.tmp 122) (Operand.tmp 125) (Operand.const (Value.bool false)), 4, "law.go:160", #[ed_ 6, ed_ 9], none⟩
def oA7_15_11 : Oper := ⟨some 6, Op.assign (Operand.tmp 126), 4, "law.go:160", #[ed_ 10, ec_ 9, ep_ 0, ep_ 1, ep_ 2, ep_ 3, ep_ 4, ep_ 5, ep_ 6, ep_ 7, ep_ 8, ep_ 9, ep_ 10], none⟩
def OA7_15 : Array Oper := List.toArray (oA7_15_0 :: oA7_15_1 :: oA7_15_2 :: oA7_15_3 :: oA7_15_4 :: oA7_15_5 :: oA7_15_6 :: oA7_15_7 :: oA7_15_8 :: oA7_15_9 :: oA7_15_10 :: oA7_15_11 :: [])
theorem gA7_15_0 : OA7_15[0]? = some oA7_15_0 := rfl
theorem gA7_15_1 : OA7_15[1]? = some oA7_15_1 := rfl
theorem gA7_15_2 : OA7_15[2]? = some oA7_15_2 := rfl
theorem gA7_15_3 : OA7_15[3]? = some oA7_15_3 := rfl
theorem gA7_15_4 : OA7_15[4]? = some oA7_15_4 := rfl
theorem gA7_15_5 : OA7_15[5]? = some oA7_15_5 := rfl
theorem gA7_15_6 : OA7_15[6]? = some oA7_15_6 := rfl
theorem gA7_15_7 : OA7_15[7]? = some oA7_15_7 := rfl
theorem gA7_15_8 : OA7_15[8]? = some oA7_15_8 := rfl
theorem gA7_15_9 : OA7_15[9]? = some oA7_15_9 := rfl
theorem gA7_15_10 : OA7_15[10]? = some oA7_15_10 := rfl
theorem gA7_15_11 : OA7_15[11]? = some oA7_15_11 := rfl
def cA7_49 : Code := Code.region 15 OA7_15 false
def cA7_48 : Code := Code.seq cA7_49 Code.ret
def cA7_47 : Code := Code.cond (Operand.tmp 115) cA7_48 Code.skip
def cA7_45 : Code := Code.seq cA7_46 cA7_47
def oA7_16_0 : Oper := ⟨some 128, Op.move (Operand.tmp 0), 9, "law.go:162", #[], none⟩
def oA7_16_1 : Oper := ⟨some 129, Op.move (Operand.tmp 11), 2, "law.go:162", #[], none⟩
def oA7_16_2 : Oper := ⟨some 130, Op.move (Operand.tmp 14), 2, "law.go:162", #[], none⟩
def oA7_16_3 : Oper := ⟨some 131, Op.call { callee := Callee.value (Operand.func 14), args := #[Operand.tmp 128, Operand.tmp 129, Operand.tmp 130], argTypes := #[9, 2, 2] }, 24, "law.go:162", #[ed_ 0, ed_ 1, ed_ 2], none⟩
def oA7_16_4 : Oper := ⟨some 132, Op.call { callee := Callee.value (Operand.func 10), args := #[Operand.tmp 131], argTypes := #[24] }, 26, "law.go:162", #[ed_ 3, ec_ 3], none⟩
def oA7_16_5 : Oper := ⟨some 127, Op.move (Operand.tmp 132), 26, "law.go:162", #[ed_ 4], none⟩
def oA7_16_6 : Oper := ⟨some 133, Op.extract (Operand.tmp 127) 0, 2, "law.go:162", #[ed_ 5], none⟩
def oA7_16_7 : Oper := ⟨some 134, Op.extract (Operand.tmp 127) 1, 24, "law.go:162", #[ed_ 5, { on := 10, ground := Go.Ground.gcOnly Go.Departure.lateStores }], none⟩
def oA7_16_8 : Oper := ⟨some 135, Op.extract (Operand.tmp 127) 2, 4, "law.go:162", #[ed_ 5, { on := 11, ground := Go.Ground.gcOnly Go.Departure.lateStores }], none⟩
def oA7_16_9 : Oper := ⟨some 21, Op.alloc 24, 0, "law.go:162", #[], none⟩
def oA7_16_10 : Oper := ⟨some 20, Op.assign (Operand.tmp 133), 2, "law.go:162", #[ed_ 6, ec_ 4, ep_ 0, ep_ 1, ep_ 2, ep_ 3, ep_ 4, ep_ 5, ep_ 6, { on := 7, ground := Go.Ground.textOnly Go.Departure.lateStores }, { on := 8, ground := Go.Ground.textOnly Go.Departure.lateStores }, ep_ 9], none⟩
def oA7_16_11 : Oper := ⟨none, Op.store 24 (Operand.tmp 21) (Operand.tmp 134), 0, "law.go:162", #[ed_ 9, ed_ 7, ec_ 10, ep_ 0, ep_ 1, ep_ 2, ep_ 3, ep_ 4, ep_ 5, ep_ 6, ep_ 7, { on := 8, ground := Go.Ground.textOnly Go.Departure.lateStores }, ep_ 9, ep_ 10], none⟩
def oA7_16_12 : Oper := ⟨some 22, Op.assign (Operand.tmp 135), 4, "law.go:162", #[ed_ 8, ec_ 11, ep_ 0, ep_ 1, ep_ 2, ep_ 3, ep_ 4, ep_ 5, ep_ 6, ep_ 7, ep_ 8, ep_ 9, ep_ 10, ep_ 11], none⟩
def OA7_16 : Array Oper := List.toArray (oA7_16_0 :: oA7_16_1 :: oA7_16_2 :: oA7_16_3 :: oA7_16_4 :: oA7_16_5 :: oA7_16_6 :: oA7_16_7 :: oA7_16_8 :: oA7_16_9 :: oA7_16_10 :: oA7_16_11 :: oA7_16_12 :: [])
theorem gA7_16_0 : OA7_16[0]? = some oA7_16_0 := rfl
theorem gA7_16_1 : OA7_16[1]? = some oA7_16_1 := rfl
theorem gA7_16_2 : OA7_16[2]? = some oA7_16_2 := rfl
theorem gA7_16_3 : OA7_16[3]? = some oA7_16_3 := rfl
theorem gA7_16_4 : OA7_16[4]? = some oA7_16_4 := rfl
theorem gA7_16_5 : OA7_16[5]? = some oA7_16_5 := rfl
theorem gA7_16_6 : OA7_16[6]? = some oA7_16_6 := rfl
theorem gA7_16_7 : OA7_16[7]? = some oA7_16_7 := rfl
theorem gA7_16_8 : OA7_16[8]? = some oA7_16_8 := rfl
theorem gA7_16_9 : OA7_16[9]? = some oA7_16_9 := rfl
theorem gA7_16_10 : OA7_16[10]? = some oA7_16_10 := rfl
theorem gA7_16_11 : OA7_16[11]? = some oA7_16_11 := rfl
theorem gA7_16_12 : OA7_16[12]? = some oA7_16_12 := rfl
def cA7_53 : Code := Code.region 16 OA7_16 false
def oA7_17_0 : Oper := ⟨some 136, Op.move (Operand.tmp 8), 2, "law.go:163", #[], none⟩
def oA7_17_1 : Oper := ⟨some 137, Op.move (Operand.tmp 20), 2, "law.go:163", #[], none⟩
def oA7_17_2 : Oper := ⟨some 138, Op.binOp Go.BinOp.eql 2 (Operand.tmp 136) (Operand.tmp 137) 2, 4, "law.go:163", #[ed_ 0, ed_ 1], none⟩
def oA7_17_3 : Oper := ⟨some 139, Op.move (Operand.tmp 138), 4, "law.go:163", #[ed_ 2], none⟩
def oA7_17_4 : Oper := ⟨some 140, Op.move (Operand.tmp 10), 4, "law.go:163", #[eg_ 3], some (3, true)⟩
def oA7_17_5 : Oper := ⟨some 141, Op.move (Operand.tmp 22), 4, "law.go:163", #[eg_ 3], some (3, true)⟩
def oA7_17_6 : Oper := ⟨some 142, Op.binOp Go.BinOp.eql 4 (Operand.tmp 140) (Operand.tmp 141) 4, 4, "law.go:163", #[ed_ 4, ed_ 5, eg_ 3], some (3, true)⟩
def oA7_17_7 : Oper := ⟨some 143, Op.pick (Operand.tmp 139) (Operand.tmp 142) (Operand.const (Value.bool false)), 4, "law.go:163", #[ed_ 3, ed_ 6], none⟩
def oA7_17_8 : Oper := ⟨some 144, Op.move (Operand.tmp 143), 4, "law.go:163", #[ed_ 7, ec_ 3], none⟩
def oA7_17_9 : Oper := ⟨some 145, Op.load 24 (Operand.tmp 9), 24, "law.go:163", #[eg_ 8], some (8, true)⟩
def oA7_17_10 : Oper := ⟨some 146, Op.load 24 (Operand.tmp 21), 24, "law.go:163", #[eg_ 8], some (8, true)⟩
def oA7_17_11 : Oper := ⟨some 147, Op.call { callee := Callee.value (Operand.func 13), args := #[Operand.tmp 145, Operand.tmp 146], argTypes := #[24, 24] }, 4, "law.go:163", #[ed_ 9, ed_ 10, ec_ 8, eg_ 8], some (8, true)⟩
def oA7_17_12 : Oper := ⟨some 148, Op.pick (Operand.tmp 144) (Operand.tmp 147) (Operand.const (Value.bool false)), 4, "law.go:163", #[ed_ 8, ed_ 11], none⟩
def oA7_17_13 : Oper := ⟨some 6, Op.assign (Operand.tmp 148), 4, "law.go:163", #[ed_ 12, ec_ 11, ep_ 0, ep_ 1, ep_ 2, ep_ 3, ep_ 4, ep_ 5, ep_ 6, ep_ 7, ep_ 8, ep_ 9, ep_ 10, ep_ 11, ep_ 12], none⟩
def OA7_17 : Array Oper := List.toArray (oA7_17_0 :: oA7_17_1 :: oA7_17_2 :: oA7_17_3 :: oA7_17_4 :: oA7_17_5 :: oA7_17_6 :: oA7_17_7 :: oA7_17_8 :: oA7_17_9 :: oA7_17_10 :: oA7_17_11 :: oA7_17_12 :: oA7_17_13 :: [])
theorem gA7_17_0 : OA7_17[0]? = some oA7_17_0 := rfl
theorem gA7_17_1 : OA7_17[1]? = some oA7_17_1 := rfl
theorem gA7_17_2 : OA7_17[2]? = some oA7_17_2 := rfl
theorem gA7_17_3 : OA7_17[3]? = some oA7_17_3 := rfl
theorem gA7_17_4 : OA7_17[4]? = some oA7_17_4 := rfl
theorem gA7_17_5 : OA7_17[5]? = some oA7_17_5 := rfl
theorem gA7_17_6 : OA7_17[6]? = some oA7_17_6 := rfl
theorem gA7_17_7 : OA7_17[7]? = some oA7_17_7 := rfl
theorem gA7_17_8 : OA7_17[8]? = some oA7_17_8 := rfl
theorem gA7_17_9 : OA7_17[9]? = some oA7_17_9 := rfl
theorem gA7_17_10 : OA7_17[10]? = some oA7_17_10 := rfl
theorem gA7_17_11 : OA7_17[11]? = some oA7_17_11 := rfl
theorem gA7_17_12 : OA7_17[12]? = some oA7_17_12 := rfl
theorem gA7_17_13 : OA7_17[13]? = some oA7_17_13 := rfl
def cA7_55 : Code := Code.region 17 OA7_17 false
def cA7_54 : Code := Code.seq cA7_55 Code.ret
def cA7_52 : Code := Code.seq cA7_53 cA7_54
def cA7_44 : Code := Code.seq cA7_45 cA7_52
def cA7_36 : Code := Code.seq cA7_37 cA7_44
def cA7_28 : Code := Code.seq cA7_29 cA7_36
def cA7_26 : Code := Code.seq cA7_27 cA7_28
def cA7_18 : Code := Code.seq cA7_19 cA7_26
def cA7_16 : Code := Code.seq cA7_17 cA7_18
def cA7_14 : Code := Code.seq cA7_15 cA7_16
def cA7_12 : Code := Code.seq cA7_13 cA7_14
def cA7_10 : Code := Code.seq cA7_11 cA7_12
def cA7_2 : Code := Code.seq cA7_3 cA7_10
def cA7_0 : Code := Code.seq cA7_1 cA7_2
theorem enA7_10 : Enters Try.prog 10 := enters_of Try.func10 (by kernel_rfl) rfl
theorem enA7_11 : Enters Try.prog 11 := enters_of Try.func11 (by kernel_rfl) rfl
theorem enA7_13 : Enters Try.prog 13 := enters_of Try.func13 (by kernel_rfl) rfl
theorem enA7_15 : Enters Try.prog 15 := enters_of Try.func15 (by kernel_rfl) rfl
theorem bodyA7 : Try.f7.body = some cA7_0 := by kernel_rfl
set_option maxRecDepth 100000 in
set_option maxHeartbeats 4000000 in
theorem deep_w {W : World} {nm : List UInt8} {ta tb : Tm} {pa pb : Option Addr} {ca cb : Nat}  {f0 : Act} {w0 : World} (R : FrS 149 f0) (h0 : f0.tmps[0]? = some (.string (str nm))) (h1 : f0.tmps[1]? = some (.agg #[.int .i64 ta.k, .string (str ta.nm), .int .i64 ta.i, .slice pa ta.args.length ca])) (h2 : f0.tmps[2]? = some (.agg #[.int .i64 tb.k, .string (str tb.nm), .int .i64 tb.i, .slice pb tb.args.length cb])) (K1 : Keep (fun g => g < W.heap.size) W w0)  (HTa : Hid (TmAt W.heap.size W ta pa ca)) (HTb : Hid (TmAt W.heap.size W tb pb cb)) (HNM : Hid (nm.length ≤ maxLen)) (HR : Hid ((twoT nm ta tb).right = false)) (HE0 : Hid (evW (twoT nm ta tb) = .bal zeroT)) : cA7_0.wp Try.prog (bodyPost Try.prog Try.f7 (fun e w' => e = .returned (.bool true) ∧ Keep (fun g => g < W.heap.size) W w')) f0 w0 := by
  refine wp_seq (x := cA7_1) (y := cA7_2) ?_
  change (Code.region 0 OA7_0 false).wp _ _ _ _
  refine reg_in (l := [0, 1, 2]) rfl ?_
  have F : FE_ _ [] f0 f0 := ⟨R, Ag_.refl _⟩; clear R
  have Y : (execOp f0.eval oA7_0_0).run Try.prog w0 = .ok (.value (.pointer (some ⟨w0.heap.size, 0, none⟩))) (w0.alloc (.cells #[.int .i64 ta.k, .string (str ta.nm), .int .i64 ta.i, .slice pa ta.args.length ca] 24)) := by have r1 := F.of h1; unfold oA7_0_0; go_simp
  have B1 := Blk.new w0 24 #[.int .i64 ta.k, .string (str ta.nm), .int .i64 ta.i, .slice pa ta.args.length ca]
  obtain ⟨w2, hw⟩ : ∃ x, x = w0.alloc (.cells #[.int .i64 ta.k, .string (str ta.nm), .int .i64 ta.i, .slice pa ta.args.length ca] 24) := ⟨_, rfl⟩; rw [← hw] at Y B1
  obtain ⟨b1, hb⟩ : ∃ x, x = w0.heap.size := ⟨_, rfl⟩; rw [← hb] at Y B1
  have LK1_b1 := lk_ hb K1; replace K1 := ka_ hw K1; clear hw hb
  refine sv_ gA7_0_0 Y fun a3 e => ?_; clear Y
  have h4 := pt_ F e; replace F := pu_ F e; clear e
  have Y : (execOp a3.eval oA7_0_1).run Try.prog w2 = .ok (.value (.pointer (some ⟨w2.heap.size, 0, none⟩))) (w2.alloc (.cells #[.int .i64 tb.k, .string (str tb.nm), .int .i64 tb.i, .slice pb tb.args.length cb] 24)) := by have r2 := F.of h2; unfold oA7_0_1; go_simp
  have B4 := Blk.new w2 24 #[.int .i64 tb.k, .string (str tb.nm), .int .i64 tb.i, .slice pb tb.args.length cb]
  obtain ⟨w5, hw⟩ : ∃ x, x = w2.alloc (.cells #[.int .i64 tb.k, .string (str tb.nm), .int .i64 tb.i, .slice pb tb.args.length cb] 24) := ⟨_, rfl⟩; rw [← hw] at Y B4
  obtain ⟨b4, hb⟩ : ∃ x, x = w2.heap.size := ⟨_, rfl⟩; rw [← hb] at Y B4
  have Nb1_b4 := nb_ hb B1; replace B1 := ba_ hw B1; have LK1_b4 := lk_ hb K1; replace K1 := ka_ hw K1; clear hw hb
  refine sv_ gA7_0_1 Y fun a6 e => ?_; clear Y
  have h5 := pt_ F e; replace F := pu_ F e; replace h4 := so_ e h4; clear e
  have Y : (execOp a6.eval oA7_0_2).run Try.prog w5 = .ok (.value (.bool false)) w5 := by unfold oA7_0_2; go_simp
  refine sv_ gA7_0_2 Y fun a7 e => ?_; clear Y
  have h6 := pt_ F e; replace F := pu_ F e; replace h4 := so_ e h4; replace h5 := so_ e h5; clear e
  refine st_end ?_
  replace h0 := F.of h0; clear h1; clear h2; have R := F.r; clear F
  change (cA7_2).wp _ _ _ _
  refine wp_seq (x := cA7_3) (y := cA7_10) ?_
  refine wp_seq (x := cA7_4) (y := cA7_5) ?_
  change (Code.region 1 OA7_1 false).wp _ _ _ _
  refine reg_in (l := [0, 1]) rfl ?_
  have F : FE_ _ [] a7 a7 := ⟨R, Ag_.refl _⟩; clear R
  have Y : (execOp a7.eval oA7_1_0).run Try.prog w5 = .ok (.enter 9 #[]) w5 := by unfold oA7_1_0; go_simp
  refine st_call gA7_1_0 rfl (wanted_free rfl) Y ((alive_any _).mono ?_); clear Y
  rintro e9 w8 ⟨rfl, kk⟩
  replace K1 := keep_onto K1 kk
  replace B1 := blk_on B1 kk
  replace B4 := blk_on B4 kk
  clear kk
  refine ⟨_, rfl, fun a9 e => ?_⟩
  have h23 := pt_ F e; replace F := pu_ F e; clear e
  have Y : (execOp a9.eval oA7_1_1).run Try.prog w8 = .ok (.value (.bool false)) w8 := by unfold oA7_1_1; go_simp
  refine sv_ gA7_1_1 Y fun a10 e => ?_; clear Y
  clear h23; have h24 := pt_ F e; replace F := pu_ F e; clear e
  refine st_end ?_
  replace h0 := F.of h0; replace h4 := F.of h4; replace h5 := F.of h5; replace h6 := F.of h6; have R := F.r; clear F
  change (cA7_5).wp _ _ _ _
  refine wp_cond_false (x := cA7_6) (y := Code.skip) (eval_slot h24) ?_
  refine wp_skip ?_
  change (cA7_10).wp _ _ _ _
  refine wp_seq (x := cA7_11) (y := cA7_12) ?_
  change (Code.region 3 OA7_3 false).wp _ _ _ _
  refine reg_in (l := [0, 1, 2, 3, 4, 5, 6]) rfl ?_
  have F : FE_ _ [] a10 a10 := ⟨R, Ag_.refl _⟩; clear R
  refine sv_ gA7_3_0 (ym_ rfl (F.of h0)) fun a11 e => ?_
  have h25 := pt_ F e; replace F := pu_ F e; clear e
  refine sv_ gA7_3_1 (yl4_ rfl (F.of h4) B1) fun a12 e => ?_
  have h26 := pt_ F e; replace F := pu_ F e; replace h25 := so_ e h25; clear e
  refine sv_ gA7_3_2 (yl4_ rfl (F.of h5) B4) fun a13 e => ?_
  have h27 := pt_ F e; replace F := pu_ F e; replace h25 := so_ e h25; replace h26 := so_ e h26; clear e
  have Y : (execOp a13.eval oA7_3_3).run Try.prog w8 = .ok (.value (.slice (some ⟨w8.heap.size, 0, none⟩) 2 2)) (w8.alloc (.cells #[.int .i64 ta.k, .string (str ta.nm), .int .i64 ta.i, .slice pa ta.args.length ca, .int .i64 tb.k, .string (str tb.nm), .int .i64 tb.i, .slice pb tb.args.length cb] 24)) := by unfold oA7_3_3; go_simp
  have B14 := Blk.new w8 24 #[.int .i64 ta.k, .string (str ta.nm), .int .i64 ta.i, .slice pa ta.args.length ca, .int .i64 tb.k, .string (str tb.nm), .int .i64 tb.i, .slice pb tb.args.length cb]
  obtain ⟨w15, hw⟩ : ∃ x, x = w8.alloc (.cells #[.int .i64 ta.k, .string (str ta.nm), .int .i64 ta.i, .slice pa ta.args.length ca, .int .i64 tb.k, .string (str tb.nm), .int .i64 tb.i, .slice pb tb.args.length cb] 24) := ⟨_, rfl⟩; rw [← hw] at Y B14
  obtain ⟨b14, hb⟩ : ∃ x, x = w8.heap.size := ⟨_, rfl⟩; rw [← hb] at Y B14
  have Nb1_b14 := nb_ hb B1; replace B1 := ba_ hw B1; have Nb4_b14 := nb_ hb B4; replace B4 := ba_ hw B4; have LK1_b14 := lk_ hb K1; replace K1 := ka_ hw K1; clear hw hb
  refine sv_ gA7_3_3 Y fun a16 e => ?_; clear Y
  clear h26 h27; have h28 := pt_ F e; replace F := pu_ F e; replace h25 := so_ e h25; clear e
  have hT : TmAt w15.heap.size w15 (twoT nm ta tb) (some ⟨b14, 0, none⟩) 2 := comp_at (ps := [(ta, pa, ca), (tb, pb, cb)]) B14 (fun p hp => by rcases List.mem_cons.1 hp with rfl | hp; exact HTa.out.on K1; rw [List.mem_singleton.1 hp]; exact HTb.out.on K1) HNM.out (Nat.le_of_ble_eq_true rfl)
  refine st_call gA7_3_4 rfl (wanted_free rfl) (yc2_ enA7_15 rfl h25 h28) ((refC_any _ nm [ta, tb] (some ⟨b14, 0, none⟩) 2).mono ?_)
  rintro e9 w17 ⟨rfl, kk⟩
  replace K1 := keep_onto K1 kk
  replace B1 := blk_on B1 kk
  replace B4 := blk_on B4 kk
  replace B14 := blk_on B14 kk
  have kk9 := kk
  clear kk
  have kk0 := kk9
  have HXT := Lib.hid (hT.on kk0)
  have KXT := Keep.refl (fun g => g < w17.heap.size) w17
  clear hT kk0 kk9
  refine ⟨_, rfl, fun a18 e => ?_⟩
  clear h25 h28; have h29 := pt_ F e; replace F := pu_ F e; clear e
  have Y : (execOp a18.eval oA7_3_5).run Try.prog w17 = .ok (.value (.pointer (some ⟨w17.heap.size, 0, none⟩))) (w17.alloc (.cells #[.int .i64 0, .string (⟨#[]⟩), .int .i64 0, .slice none 0 0] 24)) := by unfold oA7_3_5; go_simp
  have B19 := Blk.new w17 24 #[.int .i64 0, .string (⟨#[]⟩), .int .i64 0, .slice none 0 0]
  obtain ⟨w20, hw⟩ : ∃ x, x = w17.alloc (.cells #[.int .i64 0, .string (⟨#[]⟩), .int .i64 0, .slice none 0 0] 24) := ⟨_, rfl⟩; rw [← hw] at Y B19
  obtain ⟨b19, hb⟩ : ∃ x, x = w17.heap.size := ⟨_, rfl⟩; rw [← hb] at Y B19
  have Nb1_b19 := nb_ hb B1; replace B1 := ba_ hw B1; have Nb4_b19 := nb_ hb B4; replace B4 := ba_ hw B4; have Nb14_b19 := nb_ hb B14; replace B14 := ba_ hw B14; have LK1_b19 := lk_ hb K1; replace K1 := ka_ hw K1; have LKXT_b19 := lk_ hb KXT; replace KXT := ka_ hw KXT; clear hw hb
  refine sv_ gA7_3_5 Y fun a21 e => ?_; clear Y
  have h7 := pt_ F e; replace F := pu_ F e; replace h29 := so_ e h29; clear e
  obtain ⟨w22, Y, hk, hB⟩ := ys4_ (o := oA7_3_6) rfl h7 h29 B19
  replace K1 := kx_ hk K1 (Nat.not_lt.2 LK1_b19); replace KXT := kx_ hk KXT (Nat.not_lt.2 LKXT_b19); replace B1 := bx_ hk B1 Nb1_b19; replace B4 := bx_ hk B4 Nb4_b19; replace B14 := bx_ hk B14 Nb14_b19; clear B19; have B19 := hB; clear hB hk
  refine st_skip gA7_3_6 rfl (wanted_free rfl) Y ?_; clear Y
  refine st_end ?_
  replace h0 := F.of h0; replace h4 := F.of h4; replace h5 := F.of h5; replace h6 := F.of h6; clear h24; clear h29; have R := F.r; clear F
  change (cA7_12).wp _ _ _ _
  refine wp_seq (x := cA7_13) (y := cA7_14) ?_
  change (Code.region 4 OA7_4 false).wp _ _ _ _
  refine reg_in (l := [0, 1, 2, 3, 4, 5, 6, 7, 8, 9]) rfl ?_
  have F : FE_ _ [] a21 a21 := ⟨R, Ag_.refl _⟩; clear R
  refine sv_ gA7_4_0 (yl4_ rfl (F.of h7) B19) fun a23 e => ?_
  have h31 := pt_ F e; replace F := pu_ F e; clear e
  have hca := eval_bal (HXT.out.on KXT) HE0.out
  refine st_call gA7_4_1 rfl (wanted_free rfl) (yc1_ enA7_10 rfl h31) ((hca).mono ?_)
  rintro e9 w24 ⟨ae0, ce0, rfl, hx, kk⟩
  replace K1 := keep_onto K1 kk
  replace KXT := keep_onto KXT kk
  replace B1 := blk_on B1 kk
  replace B4 := blk_on B4 kk
  replace B14 := blk_on B14 kk
  replace B19 := blk_on B19 kk
  clear kk
  have HXe0 := Lib.hid hx.at_; clear hx hca
  have KXe0 := Keep.refl (fun g => g < w24.heap.size) w24
  refine ⟨_, rfl, fun a25 e => ?_⟩
  clear h31; have h32 := pt_ F e; replace F := pu_ F e; clear e
  refine sv_ gA7_4_2 (ym_ rfl h32) fun a26 e => ?_
  clear h32; have h30 := pt_ F e; replace F := pu_ F e; clear e
  refine sv_ gA7_4_3 (ye30_ rfl h30) fun a27 e => ?_
  have h33 := pt_ F e; replace F := pu_ F e; replace h30 := so_ e h30; clear e
  refine sv_ gA7_4_4 (ye31_ rfl h30) fun a28 e => ?_
  have h34 := pt_ F e; replace F := pu_ F e; replace h30 := so_ e h30; replace h33 := so_ e h33; clear e
  refine sv_ gA7_4_5 (ye32_ rfl h30) fun a29 e => ?_
  clear h30; have h35 := pt_ F e; replace F := pu_ F e; replace h33 := so_ e h33; replace h34 := so_ e h34; clear e
  have Y : (execOp a29.eval oA7_4_6).run Try.prog w24 = .ok (.value (.pointer (some ⟨w24.heap.size, 0, none⟩))) (w24.alloc (.cells #[.int .i64 0, .string (⟨#[]⟩), .int .i64 0, .slice none 0 0] 24)) := by unfold oA7_4_6; go_simp
  have B30 := Blk.new w24 24 #[.int .i64 0, .string (⟨#[]⟩), .int .i64 0, .slice none 0 0]
  obtain ⟨w31, hw⟩ : ∃ x, x = w24.alloc (.cells #[.int .i64 0, .string (⟨#[]⟩), .int .i64 0, .slice none 0 0] 24) := ⟨_, rfl⟩; rw [← hw] at Y B30
  obtain ⟨b30, hb⟩ : ∃ x, x = w24.heap.size := ⟨_, rfl⟩; rw [← hb] at Y B30
  have Nb1_b30 := nb_ hb B1; replace B1 := ba_ hw B1; have Nb4_b30 := nb_ hb B4; replace B4 := ba_ hw B4; have Nb14_b30 := nb_ hb B14; replace B14 := ba_ hw B14; have Nb19_b30 := nb_ hb B19; replace B19 := ba_ hw B19; have LK1_b30 := lk_ hb K1; replace K1 := ka_ hw K1; have LKXT_b30 := lk_ hb KXT; replace KXT := ka_ hw KXT; have LKXe0_b30 := lk_ hb KXe0; replace KXe0 := ka_ hw KXe0; clear hw hb
  refine sv_ gA7_4_6 Y fun a32 e => ?_; clear Y
  have h9 := pt_ F e; replace F := pu_ F e; replace h33 := so_ e h33; replace h34 := so_ e h34; replace h35 := so_ e h35; clear e
  refine sv_ gA7_4_7 (ya_ rfl h33) fun a33 e => ?_
  clear h33; have h8 := pt_ F e; replace F := pu_ F e; replace h9 := so_ e h9; replace h34 := so_ e h34; replace h35 := so_ e h35; clear e
  obtain ⟨w34, Y, hk, hB⟩ := ys4_ (o := oA7_4_8) rfl h9 h34 B30
  replace K1 := kx_ hk K1 (Nat.not_lt.2 LK1_b30); replace KXT := kx_ hk KXT (Nat.not_lt.2 LKXT_b30); replace KXe0 := kx_ hk KXe0 (Nat.not_lt.2 LKXe0_b30); replace B1 := bx_ hk B1 Nb1_b30; replace B4 := bx_ hk B4 Nb4_b30; replace B14 := bx_ hk B14 Nb14_b30; replace B19 := bx_ hk B19 Nb19_b30; clear B30; have B30 := hB; clear hB hk
  refine st_skip gA7_4_8 rfl (wanted_free rfl) Y ?_; clear Y
  refine sv_ gA7_4_9 (ya_ rfl h35) fun a35 e => ?_
  clear h34 h35; have h10 := pt_ F e; replace F := pu_ F e; replace h8 := so_ e h8; replace h9 := so_ e h9; clear e
  refine st_end ?_
  replace h0 := F.of h0; replace h4 := F.of h4; replace h5 := F.of h5; replace h6 := F.of h6; replace h7 := F.of h7; have R := F.r; clear F
  change (cA7_14).wp _ _ _ _
  refine wp_seq (x := cA7_15) (y := cA7_16) ?_
  change (Code.region 5 OA7_5 false).wp _ _ _ _
  refine reg_in (l := [0, 1, 2, 3, 4, 5, 6, 7, 8, 9]) rfl ?_
  have F : FE_ _ [] a35 a35 := ⟨R, Ag_.refl _⟩; clear R
  refine sv_ gA7_5_0 (yl4_ rfl (F.of h4) B1) fun a36 e => ?_
  have h37 := pt_ F e; replace F := pu_ F e; clear e
  have hca := eval_gen (HTa.out.on K1)
  refine st_call gA7_5_1 rfl (wanted_free rfl) (yc1_ enA7_10 rfl h37) ((hca).mono ?_)
  rintro e9 w37 ⟨aea, cea, rfl, hx, kk⟩
  replace K1 := keep_onto K1 kk
  replace KXT := keep_onto KXT kk
  replace KXe0 := keep_onto KXe0 kk
  replace B1 := blk_on B1 kk
  replace B4 := blk_on B4 kk
  replace B14 := blk_on B14 kk
  replace B19 := blk_on B19 kk
  replace B30 := blk_on B30 kk
  clear kk
  have HXea := Lib.hid hx.at_; clear hx hca
  have KXea := Keep.refl (fun g => g < w37.heap.size) w37
  refine ⟨_, rfl, fun a38 e => ?_⟩
  clear h37; have h38 := pt_ F e; replace F := pu_ F e; clear e
  refine sv_ gA7_5_2 (ym_ rfl h38) fun a39 e => ?_
  clear h38; have h36 := pt_ F e; replace F := pu_ F e; clear e
  refine sv_ gA7_5_3 (ye30_ rfl h36) fun a40 e => ?_
  have h39 := pt_ F e; replace F := pu_ F e; replace h36 := so_ e h36; clear e
  refine sv_ gA7_5_4 (ye31_ rfl h36) fun a41 e => ?_
  have h40 := pt_ F e; replace F := pu_ F e; replace h36 := so_ e h36; replace h39 := so_ e h39; clear e
  refine sv_ gA7_5_5 (ye32_ rfl h36) fun a42 e => ?_
  clear h36; have h41 := pt_ F e; replace F := pu_ F e; replace h39 := so_ e h39; replace h40 := so_ e h40; clear e
  have Y : (execOp a42.eval oA7_5_6).run Try.prog w37 = .ok (.value (.pointer (some ⟨w37.heap.size, 0, none⟩))) (w37.alloc (.cells #[.int .i64 0, .string (⟨#[]⟩), .int .i64 0, .slice none 0 0] 24)) := by unfold oA7_5_6; go_simp
  have B43 := Blk.new w37 24 #[.int .i64 0, .string (⟨#[]⟩), .int .i64 0, .slice none 0 0]
  obtain ⟨w44, hw⟩ : ∃ x, x = w37.alloc (.cells #[.int .i64 0, .string (⟨#[]⟩), .int .i64 0, .slice none 0 0] 24) := ⟨_, rfl⟩; rw [← hw] at Y B43
  obtain ⟨b43, hb⟩ : ∃ x, x = w37.heap.size := ⟨_, rfl⟩; rw [← hb] at Y B43
  have Nb1_b43 := nb_ hb B1; replace B1 := ba_ hw B1; have Nb4_b43 := nb_ hb B4; replace B4 := ba_ hw B4; have Nb14_b43 := nb_ hb B14; replace B14 := ba_ hw B14; have Nb19_b43 := nb_ hb B19; replace B19 := ba_ hw B19; have Nb30_b43 := nb_ hb B30; replace B30 := ba_ hw B30; have LK1_b43 := lk_ hb K1; replace K1 := ka_ hw K1; have LKXT_b43 := lk_ hb KXT; replace KXT := ka_ hw KXT; have LKXe0_b43 := lk_ hb KXe0; replace KXe0 := ka_ hw KXe0; have LKXea_b43 := lk_ hb KXea; replace KXea := ka_ hw KXea; clear hw hb
  refine sv_ gA7_5_6 Y fun a45 e => ?_; clear Y
  have h12 := pt_ F e; replace F := pu_ F e; replace h39 := so_ e h39; replace h40 := so_ e h40; replace h41 := so_ e h41; clear e
  refine sv_ gA7_5_7 (ya_ rfl h39) fun a46 e => ?_
  clear h39; have h11 := pt_ F e; replace F := pu_ F e; replace h12 := so_ e h12; replace h40 := so_ e h40; replace h41 := so_ e h41; clear e
  obtain ⟨w47, Y, hk, hB⟩ := ys4_ (o := oA7_5_8) rfl h12 h40 B43
  replace K1 := kx_ hk K1 (Nat.not_lt.2 LK1_b43); replace KXT := kx_ hk KXT (Nat.not_lt.2 LKXT_b43); replace KXe0 := kx_ hk KXe0 (Nat.not_lt.2 LKXe0_b43); replace KXea := kx_ hk KXea (Nat.not_lt.2 LKXea_b43); replace B1 := bx_ hk B1 Nb1_b43; replace B4 := bx_ hk B4 Nb4_b43; replace B14 := bx_ hk B14 Nb14_b43; replace B19 := bx_ hk B19 Nb19_b43; replace B30 := bx_ hk B30 Nb30_b43; clear B43; have B43 := hB; clear hB hk
  refine st_skip gA7_5_8 rfl (wanted_free rfl) Y ?_; clear Y
  refine sv_ gA7_5_9 (ya_ rfl h41) fun a48 e => ?_
  clear h40 h41; have h13 := pt_ F e; replace F := pu_ F e; replace h11 := so_ e h11; replace h12 := so_ e h12; clear e
  refine st_end ?_
  replace h0 := F.of h0; clear h4; replace h5 := F.of h5; replace h6 := F.of h6; replace h7 := F.of h7; replace h8 := F.of h8; replace h9 := F.of h9; replace h10 := F.of h10; have R := F.r; clear F
  change (cA7_16).wp _ _ _ _
  refine wp_seq (x := cA7_17) (y := cA7_18) ?_
  change (Code.region 6 OA7_6 false).wp _ _ _ _
  refine reg_in (l := [0, 1, 2, 3, 4, 5, 6, 7, 8, 9]) rfl ?_
  have F : FE_ _ [] a48 a48 := ⟨R, Ag_.refl _⟩; clear R
  refine sv_ gA7_6_0 (yl4_ rfl (F.of h5) B4) fun a49 e => ?_
  have h43 := pt_ F e; replace F := pu_ F e; clear e
  have hca := eval_gen (HTb.out.on K1)
  refine st_call gA7_6_1 rfl (wanted_free rfl) (yc1_ enA7_10 rfl h43) ((hca).mono ?_)
  rintro e9 w50 ⟨aeb, ceb, rfl, hx, kk⟩
  replace K1 := keep_onto K1 kk
  replace KXT := keep_onto KXT kk
  replace KXe0 := keep_onto KXe0 kk
  replace KXea := keep_onto KXea kk
  replace B1 := blk_on B1 kk
  replace B4 := blk_on B4 kk
  replace B14 := blk_on B14 kk
  replace B19 := blk_on B19 kk
  replace B30 := blk_on B30 kk
  replace B43 := blk_on B43 kk
  clear kk
  have HXeb := Lib.hid hx.at_; clear hx hca
  have KXeb := Keep.refl (fun g => g < w50.heap.size) w50
  refine ⟨_, rfl, fun a51 e => ?_⟩
  clear h43; have h44 := pt_ F e; replace F := pu_ F e; clear e
  refine sv_ gA7_6_2 (ym_ rfl h44) fun a52 e => ?_
  clear h44; have h42 := pt_ F e; replace F := pu_ F e; clear e
  refine sv_ gA7_6_3 (ye30_ rfl h42) fun a53 e => ?_
  have h45 := pt_ F e; replace F := pu_ F e; replace h42 := so_ e h42; clear e
  refine sv_ gA7_6_4 (ye31_ rfl h42) fun a54 e => ?_
  have h46 := pt_ F e; replace F := pu_ F e; replace h42 := so_ e h42; replace h45 := so_ e h45; clear e
  refine sv_ gA7_6_5 (ye32_ rfl h42) fun a55 e => ?_
  clear h42; have h47 := pt_ F e; replace F := pu_ F e; replace h45 := so_ e h45; replace h46 := so_ e h46; clear e
  have Y : (execOp a55.eval oA7_6_6).run Try.prog w50 = .ok (.value (.pointer (some ⟨w50.heap.size, 0, none⟩))) (w50.alloc (.cells #[.int .i64 0, .string (⟨#[]⟩), .int .i64 0, .slice none 0 0] 24)) := by unfold oA7_6_6; go_simp
  have B56 := Blk.new w50 24 #[.int .i64 0, .string (⟨#[]⟩), .int .i64 0, .slice none 0 0]
  obtain ⟨w57, hw⟩ : ∃ x, x = w50.alloc (.cells #[.int .i64 0, .string (⟨#[]⟩), .int .i64 0, .slice none 0 0] 24) := ⟨_, rfl⟩; rw [← hw] at Y B56
  obtain ⟨b56, hb⟩ : ∃ x, x = w50.heap.size := ⟨_, rfl⟩; rw [← hb] at Y B56
  have Nb1_b56 := nb_ hb B1; replace B1 := ba_ hw B1; have Nb4_b56 := nb_ hb B4; replace B4 := ba_ hw B4; have Nb14_b56 := nb_ hb B14; replace B14 := ba_ hw B14; have Nb19_b56 := nb_ hb B19; replace B19 := ba_ hw B19; have Nb30_b56 := nb_ hb B30; replace B30 := ba_ hw B30; have Nb43_b56 := nb_ hb B43; replace B43 := ba_ hw B43; have LK1_b56 := lk_ hb K1; replace K1 := ka_ hw K1; have LKXT_b56 := lk_ hb KXT; replace KXT := ka_ hw KXT; have LKXe0_b56 := lk_ hb KXe0; replace KXe0 := ka_ hw KXe0; have LKXea_b56 := lk_ hb KXea; replace KXea := ka_ hw KXea; have LKXeb_b56 := lk_ hb KXeb; replace KXeb := ka_ hw KXeb; clear hw hb
  refine sv_ gA7_6_6 Y fun a58 e => ?_; clear Y
  have h15 := pt_ F e; replace F := pu_ F e; replace h45 := so_ e h45; replace h46 := so_ e h46; replace h47 := so_ e h47; clear e
  refine sv_ gA7_6_7 (ya_ rfl h45) fun a59 e => ?_
  clear h45; have h14 := pt_ F e; replace F := pu_ F e; replace h15 := so_ e h15; replace h46 := so_ e h46; replace h47 := so_ e h47; clear e
  obtain ⟨w60, Y, hk, hB⟩ := ys4_ (o := oA7_6_8) rfl h15 h46 B56
  replace K1 := kx_ hk K1 (Nat.not_lt.2 LK1_b56); replace KXT := kx_ hk KXT (Nat.not_lt.2 LKXT_b56); replace KXe0 := kx_ hk KXe0 (Nat.not_lt.2 LKXe0_b56); replace KXea := kx_ hk KXea (Nat.not_lt.2 LKXea_b56); replace KXeb := kx_ hk KXeb (Nat.not_lt.2 LKXeb_b56); replace B1 := bx_ hk B1 Nb1_b56; replace B4 := bx_ hk B4 Nb4_b56; replace B14 := bx_ hk B14 Nb14_b56; replace B19 := bx_ hk B19 Nb19_b56; replace B30 := bx_ hk B30 Nb30_b56; replace B43 := bx_ hk B43 Nb43_b56; clear B56; have B56 := hB; clear hB hk
  refine st_skip gA7_6_8 rfl (wanted_free rfl) Y ?_; clear Y
  refine sv_ gA7_6_9 (ya_ rfl h47) fun a61 e => ?_
  clear h46 h47; have h16 := pt_ F e; replace F := pu_ F e; replace h14 := so_ e h14; replace h15 := so_ e h15; clear e
  refine st_end ?_
  replace h0 := F.of h0; clear h5; replace h6 := F.of h6; replace h7 := F.of h7; replace h8 := F.of h8; replace h9 := F.of h9; replace h10 := F.of h10; replace h11 := F.of h11; replace h12 := F.of h12; replace h13 := F.of h13; have R := F.r; clear F
  change (cA7_18).wp _ _ _ _
  refine wp_seq (x := cA7_19) (y := cA7_26) ?_
  refine wp_seq (x := cA7_20) (y := cA7_21) ?_
  change (Code.region 7 OA7_7 false).wp _ _ _ _
  refine reg_in (l := [0, 1, 2]) rfl ?_
  have F : FE_ _ [] a61 a61 := ⟨R, Ag_.refl _⟩; clear R
  refine sv_ gA7_7_0 (yl4_ rfl (F.of h7) B19) fun a62 e => ?_
  have h48 := pt_ F e; replace F := pu_ F e; clear e
  refine st_call gA7_7_1 rfl (wanted_free rfl) (yc1_ enA7_11 rfl h48) ((right_is (HXT.out.on KXT) HR.out).mono ?_)
  rintro e9 w63 ⟨rfl, kk⟩
  replace K1 := keep_onto K1 kk
  replace KXT := keep_onto KXT kk
  replace KXe0 := keep_onto KXe0 kk
  replace KXea := keep_onto KXea kk
  replace KXeb := keep_onto KXeb kk
  replace B1 := blk_on B1 kk
  replace B4 := blk_on B4 kk
  replace B14 := blk_on B14 kk
  replace B19 := blk_on B19 kk
  replace B30 := blk_on B30 kk
  replace B43 := blk_on B43 kk
  replace B56 := blk_on B56 kk
  clear kk
  refine ⟨_, rfl, fun a64 e => ?_⟩
  clear h48; have h49 := pt_ F e; replace F := pu_ F e; clear e
  have Y : (execOp a64.eval oA7_7_2).run Try.prog w63 = .ok (.value (.bool true)) w63 := by unfold oA7_7_2; go_simp
  refine sv_ gA7_7_2 Y fun a65 e => ?_; clear Y
  clear h49; have h50 := pt_ F e; replace F := pu_ F e; clear e
  refine st_end ?_
  replace h0 := F.of h0; replace h6 := F.of h6; clear h7; replace h8 := F.of h8; replace h9 := F.of h9; replace h10 := F.of h10; replace h11 := F.of h11; replace h12 := F.of h12; replace h13 := F.of h13; replace h14 := F.of h14; replace h15 := F.of h15; replace h16 := F.of h16; have R := F.r; clear F
  change (cA7_21).wp _ _ _ _
  refine wp_cond_true (x := cA7_22) (y := Code.skip) (eval_slot h50) ?_
  refine wp_seq (x := cA7_23) (y := Code.ret) ?_
  change (Code.region 8 OA7_8 false).wp _ _ _ _
  refine reg_in (l := [0, 1, 2, 3, 4, 5, 6, 7]) rfl ?_
  have F : FE_ _ [] a65 a65 := ⟨R, Ag_.refl _⟩; clear R
  refine sv_ gA7_8_0 (ym_ rfl (F.of h10)) fun a66 e => ?_
  have h51 := pt_ F e; replace F := pu_ F e; clear e
  have Y : (execOp a66.eval oA7_8_1).run Try.prog w63 = .ok (.value (.bool true)) w63 := by unfold oA7_8_1; go_simp
  refine sv_ gA7_8_1 Y fun a67 e => ?_; clear Y
  clear h51; have h52 := pt_ F e; replace F := pu_ F e; clear e
  refine sv_ gA7_8_2 (ym_ rfl h52) fun a68 e => ?_
  clear h52; have h53 := pt_ F e; replace F := pu_ F e; clear e
  refine st_val gA7_8_3 rfl (wanted_is (j := 2) (d := 53) rfl rfl h53 rfl) (yf0_ rfl (F.of h9)) fun a69 e => ?_
  have h54 := pt_ F e; replace F := pu_ F e; replace h53 := so_ e h53; clear e
  refine st_val gA7_8_4 rfl (wanted_is (j := 2) (d := 53) rfl rfl h53 rfl) (yk0_ rfl h54 B30) fun a70 e => ?_
  clear h54; have h55 := pt_ F e; replace F := pu_ F e; replace h53 := so_ e h53; clear e
  have Y : (execOp a70.eval oA7_8_5).run Try.prog w63 = .ok (.value (.bool true)) w63 := by have h8 : zeroT.k = 0 := rfl; unfold oA7_8_5; go_simp
  refine st_val gA7_8_5 rfl (wanted_is (j := 2) (d := 53) rfl rfl h53 rfl) Y fun a71 e => ?_; clear Y
  clear h55; have h56 := pt_ F e; replace F := pu_ F e; replace h53 := so_ e h53; clear e
  have Y : (execOp a71.eval oA7_8_6).run Try.prog w63 = .ok (.value (.bool true)) w63 := by unfold oA7_8_6; go_simp
  refine sv_ gA7_8_6 Y fun a72 e => ?_; clear Y
  clear h53 h56; have h57 := pt_ F e; replace F := pu_ F e; clear e
  refine sv_ gA7_8_7 (ya_ rfl h57) fun a73 e => ?_
  clear h57 h6; have h6 := pt_ F e; replace F := pu_ F e; clear e
  refine st_end ?_
  replace h0 := F.of h0; replace h8 := F.of h8; replace h9 := F.of h9; replace h10 := F.of h10; replace h11 := F.of h11; replace h12 := F.of h12; replace h13 := F.of h13; replace h14 := F.of h14; replace h15 := F.of h15; replace h16 := F.of h16; clear h50; have R := F.r; clear F
  change (Code.ret).wp _ _ _ _
  refine wp_ret ?_
  change bodyPost Try.prog Try.f7 (fun e w' => e = .returned (.bool true) ∧ Keep (fun g => g < W.heap.size) W w') .ret a73 w63
  refine ret_one rfl R h6 ?_
  exact ⟨rfl, K1⟩
set_option maxRecDepth 100000 in
set_option maxHeartbeats 4000000 in
theorem deep_n {W : World} {nm : List UInt8} {ta tb : Tm} {pa pb : Option Addr} {ca cb : Nat}  {f0 : Act} {w0 : World} (R : FrS 149 f0) (h0 : f0.tmps[0]? = some (.string (str nm))) (h1 : f0.tmps[1]? = some (.agg #[.int .i64 ta.k, .string (str ta.nm), .int .i64 ta.i, .slice pa ta.args.length ca])) (h2 : f0.tmps[2]? = some (.agg #[.int .i64 tb.k, .string (str tb.nm), .int .i64 tb.i, .slice pb tb.args.length cb])) (K1 : Keep (fun g => g < W.heap.size) W w0)  (HTa : Hid (TmAt W.heap.size W ta pa ca)) (HTb : Hid (TmAt W.heap.size W tb pb cb)) (HNM : Hid (nm.length ≤ maxLen)) (HR : Hid ((twoT nm ta tb).right = true)) (HE0 : Hid (evW (twoT nm ta tb) = .bal (ballT (evF nm 2)))) (HE1 : Hid (evW (opT nm 1 1) = .bal (ballT (evF nm 2)))) (HOK : Hid ((evF nm 2).ok = true)) : cA7_0.wp Try.prog (bodyPost Try.prog Try.f7 (fun e w' => e = .returned (.bool true) ∧ Keep (fun g => g < W.heap.size) W w')) f0 w0 := by
  refine wp_seq (x := cA7_1) (y := cA7_2) ?_
  change (Code.region 0 OA7_0 false).wp _ _ _ _
  refine reg_in (l := [0, 1, 2]) rfl ?_
  have F : FE_ _ [] f0 f0 := ⟨R, Ag_.refl _⟩; clear R
  have Y : (execOp f0.eval oA7_0_0).run Try.prog w0 = .ok (.value (.pointer (some ⟨w0.heap.size, 0, none⟩))) (w0.alloc (.cells #[.int .i64 ta.k, .string (str ta.nm), .int .i64 ta.i, .slice pa ta.args.length ca] 24)) := by have r1 := F.of h1; unfold oA7_0_0; go_simp
  have B74 := Blk.new w0 24 #[.int .i64 ta.k, .string (str ta.nm), .int .i64 ta.i, .slice pa ta.args.length ca]
  obtain ⟨w75, hw⟩ : ∃ x, x = w0.alloc (.cells #[.int .i64 ta.k, .string (str ta.nm), .int .i64 ta.i, .slice pa ta.args.length ca] 24) := ⟨_, rfl⟩; rw [← hw] at Y B74
  obtain ⟨b74, hb⟩ : ∃ x, x = w0.heap.size := ⟨_, rfl⟩; rw [← hb] at Y B74
  have LK1_b74 := lk_ hb K1; replace K1 := ka_ hw K1; clear hw hb
  refine sv_ gA7_0_0 Y fun a76 e => ?_; clear Y
  have h4 := pt_ F e; replace F := pu_ F e; clear e
  have Y : (execOp a76.eval oA7_0_1).run Try.prog w75 = .ok (.value (.pointer (some ⟨w75.heap.size, 0, none⟩))) (w75.alloc (.cells #[.int .i64 tb.k, .string (str tb.nm), .int .i64 tb.i, .slice pb tb.args.length cb] 24)) := by have r2 := F.of h2; unfold oA7_0_1; go_simp
  have B77 := Blk.new w75 24 #[.int .i64 tb.k, .string (str tb.nm), .int .i64 tb.i, .slice pb tb.args.length cb]
  obtain ⟨w78, hw⟩ : ∃ x, x = w75.alloc (.cells #[.int .i64 tb.k, .string (str tb.nm), .int .i64 tb.i, .slice pb tb.args.length cb] 24) := ⟨_, rfl⟩; rw [← hw] at Y B77
  obtain ⟨b77, hb⟩ : ∃ x, x = w75.heap.size := ⟨_, rfl⟩; rw [← hb] at Y B77
  have Nb74_b77 := nb_ hb B74; replace B74 := ba_ hw B74; have LK1_b77 := lk_ hb K1; replace K1 := ka_ hw K1; clear hw hb
  refine sv_ gA7_0_1 Y fun a79 e => ?_; clear Y
  have h5 := pt_ F e; replace F := pu_ F e; replace h4 := so_ e h4; clear e
  have Y : (execOp a79.eval oA7_0_2).run Try.prog w78 = .ok (.value (.bool false)) w78 := by unfold oA7_0_2; go_simp
  refine sv_ gA7_0_2 Y fun a80 e => ?_; clear Y
  have h6 := pt_ F e; replace F := pu_ F e; replace h4 := so_ e h4; replace h5 := so_ e h5; clear e
  refine st_end ?_
  replace h0 := F.of h0; clear h1; clear h2; have R := F.r; clear F
  change (cA7_2).wp _ _ _ _
  refine wp_seq (x := cA7_3) (y := cA7_10) ?_
  refine wp_seq (x := cA7_4) (y := cA7_5) ?_
  change (Code.region 1 OA7_1 false).wp _ _ _ _
  refine reg_in (l := [0, 1]) rfl ?_
  have F : FE_ _ [] a80 a80 := ⟨R, Ag_.refl _⟩; clear R
  have Y : (execOp a80.eval oA7_1_0).run Try.prog w78 = .ok (.enter 9 #[]) w78 := by unfold oA7_1_0; go_simp
  refine st_call gA7_1_0 rfl (wanted_free rfl) Y ((alive_any _).mono ?_); clear Y
  rintro e9 w81 ⟨rfl, kk⟩
  replace K1 := keep_onto K1 kk
  replace B74 := blk_on B74 kk
  replace B77 := blk_on B77 kk
  clear kk
  refine ⟨_, rfl, fun a82 e => ?_⟩
  have h23 := pt_ F e; replace F := pu_ F e; clear e
  have Y : (execOp a82.eval oA7_1_1).run Try.prog w81 = .ok (.value (.bool false)) w81 := by unfold oA7_1_1; go_simp
  refine sv_ gA7_1_1 Y fun a83 e => ?_; clear Y
  clear h23; have h24 := pt_ F e; replace F := pu_ F e; clear e
  refine st_end ?_
  replace h0 := F.of h0; replace h4 := F.of h4; replace h5 := F.of h5; replace h6 := F.of h6; have R := F.r; clear F
  change (cA7_5).wp _ _ _ _
  refine wp_cond_false (x := cA7_6) (y := Code.skip) (eval_slot h24) ?_
  refine wp_skip ?_
  change (cA7_10).wp _ _ _ _
  refine wp_seq (x := cA7_11) (y := cA7_12) ?_
  change (Code.region 3 OA7_3 false).wp _ _ _ _
  refine reg_in (l := [0, 1, 2, 3, 4, 5, 6]) rfl ?_
  have F : FE_ _ [] a83 a83 := ⟨R, Ag_.refl _⟩; clear R
  refine sv_ gA7_3_0 (ym_ rfl (F.of h0)) fun a84 e => ?_
  have h25 := pt_ F e; replace F := pu_ F e; clear e
  refine sv_ gA7_3_1 (yl4_ rfl (F.of h4) B74) fun a85 e => ?_
  have h26 := pt_ F e; replace F := pu_ F e; replace h25 := so_ e h25; clear e
  refine sv_ gA7_3_2 (yl4_ rfl (F.of h5) B77) fun a86 e => ?_
  have h27 := pt_ F e; replace F := pu_ F e; replace h25 := so_ e h25; replace h26 := so_ e h26; clear e
  have Y : (execOp a86.eval oA7_3_3).run Try.prog w81 = .ok (.value (.slice (some ⟨w81.heap.size, 0, none⟩) 2 2)) (w81.alloc (.cells #[.int .i64 ta.k, .string (str ta.nm), .int .i64 ta.i, .slice pa ta.args.length ca, .int .i64 tb.k, .string (str tb.nm), .int .i64 tb.i, .slice pb tb.args.length cb] 24)) := by unfold oA7_3_3; go_simp
  have B87 := Blk.new w81 24 #[.int .i64 ta.k, .string (str ta.nm), .int .i64 ta.i, .slice pa ta.args.length ca, .int .i64 tb.k, .string (str tb.nm), .int .i64 tb.i, .slice pb tb.args.length cb]
  obtain ⟨w88, hw⟩ : ∃ x, x = w81.alloc (.cells #[.int .i64 ta.k, .string (str ta.nm), .int .i64 ta.i, .slice pa ta.args.length ca, .int .i64 tb.k, .string (str tb.nm), .int .i64 tb.i, .slice pb tb.args.length cb] 24) := ⟨_, rfl⟩; rw [← hw] at Y B87
  obtain ⟨b87, hb⟩ : ∃ x, x = w81.heap.size := ⟨_, rfl⟩; rw [← hb] at Y B87
  have Nb74_b87 := nb_ hb B74; replace B74 := ba_ hw B74; have Nb77_b87 := nb_ hb B77; replace B77 := ba_ hw B77; have LK1_b87 := lk_ hb K1; replace K1 := ka_ hw K1; clear hw hb
  refine sv_ gA7_3_3 Y fun a89 e => ?_; clear Y
  clear h26 h27; have h28 := pt_ F e; replace F := pu_ F e; replace h25 := so_ e h25; clear e
  have hT : TmAt w88.heap.size w88 (twoT nm ta tb) (some ⟨b87, 0, none⟩) 2 := comp_at (ps := [(ta, pa, ca), (tb, pb, cb)]) B87 (fun p hp => by rcases List.mem_cons.1 hp with rfl | hp; exact HTa.out.on K1; rw [List.mem_singleton.1 hp]; exact HTb.out.on K1) HNM.out (Nat.le_of_ble_eq_true rfl)
  refine st_call gA7_3_4 rfl (wanted_free rfl) (yc2_ enA7_15 rfl h25 h28) ((refC_any _ nm [ta, tb] (some ⟨b87, 0, none⟩) 2).mono ?_)
  rintro e9 w90 ⟨rfl, kk⟩
  replace K1 := keep_onto K1 kk
  replace B74 := blk_on B74 kk
  replace B77 := blk_on B77 kk
  replace B87 := blk_on B87 kk
  have kk9 := kk
  clear kk
  have kk0 := kk9
  have HXT := Lib.hid (hT.on kk0)
  have KXT := Keep.refl (fun g => g < w90.heap.size) w90
  clear hT kk0 kk9
  refine ⟨_, rfl, fun a91 e => ?_⟩
  clear h25 h28; have h29 := pt_ F e; replace F := pu_ F e; clear e
  have Y : (execOp a91.eval oA7_3_5).run Try.prog w90 = .ok (.value (.pointer (some ⟨w90.heap.size, 0, none⟩))) (w90.alloc (.cells #[.int .i64 0, .string (⟨#[]⟩), .int .i64 0, .slice none 0 0] 24)) := by unfold oA7_3_5; go_simp
  have B92 := Blk.new w90 24 #[.int .i64 0, .string (⟨#[]⟩), .int .i64 0, .slice none 0 0]
  obtain ⟨w93, hw⟩ : ∃ x, x = w90.alloc (.cells #[.int .i64 0, .string (⟨#[]⟩), .int .i64 0, .slice none 0 0] 24) := ⟨_, rfl⟩; rw [← hw] at Y B92
  obtain ⟨b92, hb⟩ : ∃ x, x = w90.heap.size := ⟨_, rfl⟩; rw [← hb] at Y B92
  have Nb74_b92 := nb_ hb B74; replace B74 := ba_ hw B74; have Nb77_b92 := nb_ hb B77; replace B77 := ba_ hw B77; have Nb87_b92 := nb_ hb B87; replace B87 := ba_ hw B87; have LK1_b92 := lk_ hb K1; replace K1 := ka_ hw K1; have LKXT_b92 := lk_ hb KXT; replace KXT := ka_ hw KXT; clear hw hb
  refine sv_ gA7_3_5 Y fun a94 e => ?_; clear Y
  have h7 := pt_ F e; replace F := pu_ F e; replace h29 := so_ e h29; clear e
  obtain ⟨w95, Y, hk, hB⟩ := ys4_ (o := oA7_3_6) rfl h7 h29 B92
  replace K1 := kx_ hk K1 (Nat.not_lt.2 LK1_b92); replace KXT := kx_ hk KXT (Nat.not_lt.2 LKXT_b92); replace B74 := bx_ hk B74 Nb74_b92; replace B77 := bx_ hk B77 Nb77_b92; replace B87 := bx_ hk B87 Nb87_b92; clear B92; have B92 := hB; clear hB hk
  refine st_skip gA7_3_6 rfl (wanted_free rfl) Y ?_; clear Y
  refine st_end ?_
  replace h0 := F.of h0; replace h4 := F.of h4; replace h5 := F.of h5; replace h6 := F.of h6; clear h24; clear h29; have R := F.r; clear F
  change (cA7_12).wp _ _ _ _
  refine wp_seq (x := cA7_13) (y := cA7_14) ?_
  change (Code.region 4 OA7_4 false).wp _ _ _ _
  refine reg_in (l := [0, 1, 2, 3, 4, 5, 6, 7, 8, 9]) rfl ?_
  have F : FE_ _ [] a94 a94 := ⟨R, Ag_.refl _⟩; clear R
  refine sv_ gA7_4_0 (yl4_ rfl (F.of h7) B92) fun a96 e => ?_
  have h31 := pt_ F e; replace F := pu_ F e; clear e
  have hca := eval_bal (HXT.out.on KXT) HE0.out
  refine st_call gA7_4_1 rfl (wanted_free rfl) (yc1_ enA7_10 rfl h31) ((hca).mono ?_)
  rintro e9 w97 ⟨ae0, ce0, rfl, hx, kk⟩
  replace K1 := keep_onto K1 kk
  replace KXT := keep_onto KXT kk
  replace B74 := blk_on B74 kk
  replace B77 := blk_on B77 kk
  replace B87 := blk_on B87 kk
  replace B92 := blk_on B92 kk
  clear kk
  have HXe0 := Lib.hid hx.at_; clear hx hca
  have KXe0 := Keep.refl (fun g => g < w97.heap.size) w97
  refine ⟨_, rfl, fun a98 e => ?_⟩
  clear h31; have h32 := pt_ F e; replace F := pu_ F e; clear e
  refine sv_ gA7_4_2 (ym_ rfl h32) fun a99 e => ?_
  clear h32; have h30 := pt_ F e; replace F := pu_ F e; clear e
  refine sv_ gA7_4_3 (ye30_ rfl h30) fun a100 e => ?_
  have h33 := pt_ F e; replace F := pu_ F e; replace h30 := so_ e h30; clear e
  refine sv_ gA7_4_4 (ye31_ rfl h30) fun a101 e => ?_
  have h34 := pt_ F e; replace F := pu_ F e; replace h30 := so_ e h30; replace h33 := so_ e h33; clear e
  refine sv_ gA7_4_5 (ye32_ rfl h30) fun a102 e => ?_
  clear h30; have h35 := pt_ F e; replace F := pu_ F e; replace h33 := so_ e h33; replace h34 := so_ e h34; clear e
  have Y : (execOp a102.eval oA7_4_6).run Try.prog w97 = .ok (.value (.pointer (some ⟨w97.heap.size, 0, none⟩))) (w97.alloc (.cells #[.int .i64 0, .string (⟨#[]⟩), .int .i64 0, .slice none 0 0] 24)) := by unfold oA7_4_6; go_simp
  have B103 := Blk.new w97 24 #[.int .i64 0, .string (⟨#[]⟩), .int .i64 0, .slice none 0 0]
  obtain ⟨w104, hw⟩ : ∃ x, x = w97.alloc (.cells #[.int .i64 0, .string (⟨#[]⟩), .int .i64 0, .slice none 0 0] 24) := ⟨_, rfl⟩; rw [← hw] at Y B103
  obtain ⟨b103, hb⟩ : ∃ x, x = w97.heap.size := ⟨_, rfl⟩; rw [← hb] at Y B103
  have Nb74_b103 := nb_ hb B74; replace B74 := ba_ hw B74; have Nb77_b103 := nb_ hb B77; replace B77 := ba_ hw B77; have Nb87_b103 := nb_ hb B87; replace B87 := ba_ hw B87; have Nb92_b103 := nb_ hb B92; replace B92 := ba_ hw B92; have LK1_b103 := lk_ hb K1; replace K1 := ka_ hw K1; have LKXT_b103 := lk_ hb KXT; replace KXT := ka_ hw KXT; have LKXe0_b103 := lk_ hb KXe0; replace KXe0 := ka_ hw KXe0; clear hw hb
  refine sv_ gA7_4_6 Y fun a105 e => ?_; clear Y
  have h9 := pt_ F e; replace F := pu_ F e; replace h33 := so_ e h33; replace h34 := so_ e h34; replace h35 := so_ e h35; clear e
  refine sv_ gA7_4_7 (ya_ rfl h33) fun a106 e => ?_
  clear h33; have h8 := pt_ F e; replace F := pu_ F e; replace h9 := so_ e h9; replace h34 := so_ e h34; replace h35 := so_ e h35; clear e
  obtain ⟨w107, Y, hk, hB⟩ := ys4_ (o := oA7_4_8) rfl h9 h34 B103
  replace K1 := kx_ hk K1 (Nat.not_lt.2 LK1_b103); replace KXT := kx_ hk KXT (Nat.not_lt.2 LKXT_b103); replace KXe0 := kx_ hk KXe0 (Nat.not_lt.2 LKXe0_b103); replace B74 := bx_ hk B74 Nb74_b103; replace B77 := bx_ hk B77 Nb77_b103; replace B87 := bx_ hk B87 Nb87_b103; replace B92 := bx_ hk B92 Nb92_b103; clear B103; have B103 := hB; clear hB hk
  refine st_skip gA7_4_8 rfl (wanted_free rfl) Y ?_; clear Y
  refine sv_ gA7_4_9 (ya_ rfl h35) fun a108 e => ?_
  clear h34 h35; have h10 := pt_ F e; replace F := pu_ F e; replace h8 := so_ e h8; replace h9 := so_ e h9; clear e
  refine st_end ?_
  replace h0 := F.of h0; replace h4 := F.of h4; replace h5 := F.of h5; replace h6 := F.of h6; replace h7 := F.of h7; have R := F.r; clear F
  change (cA7_14).wp _ _ _ _
  refine wp_seq (x := cA7_15) (y := cA7_16) ?_
  change (Code.region 5 OA7_5 false).wp _ _ _ _
  refine reg_in (l := [0, 1, 2, 3, 4, 5, 6, 7, 8, 9]) rfl ?_
  have F : FE_ _ [] a108 a108 := ⟨R, Ag_.refl _⟩; clear R
  refine sv_ gA7_5_0 (yl4_ rfl (F.of h4) B74) fun a109 e => ?_
  have h37 := pt_ F e; replace F := pu_ F e; clear e
  have hca := eval_gen (HTa.out.on K1)
  refine st_call gA7_5_1 rfl (wanted_free rfl) (yc1_ enA7_10 rfl h37) ((hca).mono ?_)
  rintro e9 w110 ⟨aea, cea, rfl, hx, kk⟩
  replace K1 := keep_onto K1 kk
  replace KXT := keep_onto KXT kk
  replace KXe0 := keep_onto KXe0 kk
  replace B74 := blk_on B74 kk
  replace B77 := blk_on B77 kk
  replace B87 := blk_on B87 kk
  replace B92 := blk_on B92 kk
  replace B103 := blk_on B103 kk
  clear kk
  have HXea := Lib.hid hx.at_; clear hx hca
  have KXea := Keep.refl (fun g => g < w110.heap.size) w110
  refine ⟨_, rfl, fun a111 e => ?_⟩
  clear h37; have h38 := pt_ F e; replace F := pu_ F e; clear e
  refine sv_ gA7_5_2 (ym_ rfl h38) fun a112 e => ?_
  clear h38; have h36 := pt_ F e; replace F := pu_ F e; clear e
  refine sv_ gA7_5_3 (ye30_ rfl h36) fun a113 e => ?_
  have h39 := pt_ F e; replace F := pu_ F e; replace h36 := so_ e h36; clear e
  refine sv_ gA7_5_4 (ye31_ rfl h36) fun a114 e => ?_
  have h40 := pt_ F e; replace F := pu_ F e; replace h36 := so_ e h36; replace h39 := so_ e h39; clear e
  refine sv_ gA7_5_5 (ye32_ rfl h36) fun a115 e => ?_
  clear h36; have h41 := pt_ F e; replace F := pu_ F e; replace h39 := so_ e h39; replace h40 := so_ e h40; clear e
  have Y : (execOp a115.eval oA7_5_6).run Try.prog w110 = .ok (.value (.pointer (some ⟨w110.heap.size, 0, none⟩))) (w110.alloc (.cells #[.int .i64 0, .string (⟨#[]⟩), .int .i64 0, .slice none 0 0] 24)) := by unfold oA7_5_6; go_simp
  have B116 := Blk.new w110 24 #[.int .i64 0, .string (⟨#[]⟩), .int .i64 0, .slice none 0 0]
  obtain ⟨w117, hw⟩ : ∃ x, x = w110.alloc (.cells #[.int .i64 0, .string (⟨#[]⟩), .int .i64 0, .slice none 0 0] 24) := ⟨_, rfl⟩; rw [← hw] at Y B116
  obtain ⟨b116, hb⟩ : ∃ x, x = w110.heap.size := ⟨_, rfl⟩; rw [← hb] at Y B116
  have Nb74_b116 := nb_ hb B74; replace B74 := ba_ hw B74; have Nb77_b116 := nb_ hb B77; replace B77 := ba_ hw B77; have Nb87_b116 := nb_ hb B87; replace B87 := ba_ hw B87; have Nb92_b116 := nb_ hb B92; replace B92 := ba_ hw B92; have Nb103_b116 := nb_ hb B103; replace B103 := ba_ hw B103; have LK1_b116 := lk_ hb K1; replace K1 := ka_ hw K1; have LKXT_b116 := lk_ hb KXT; replace KXT := ka_ hw KXT; have LKXe0_b116 := lk_ hb KXe0; replace KXe0 := ka_ hw KXe0; have LKXea_b116 := lk_ hb KXea; replace KXea := ka_ hw KXea; clear hw hb
  refine sv_ gA7_5_6 Y fun a118 e => ?_; clear Y
  have h12 := pt_ F e; replace F := pu_ F e; replace h39 := so_ e h39; replace h40 := so_ e h40; replace h41 := so_ e h41; clear e
  refine sv_ gA7_5_7 (ya_ rfl h39) fun a119 e => ?_
  clear h39; have h11 := pt_ F e; replace F := pu_ F e; replace h12 := so_ e h12; replace h40 := so_ e h40; replace h41 := so_ e h41; clear e
  obtain ⟨w120, Y, hk, hB⟩ := ys4_ (o := oA7_5_8) rfl h12 h40 B116
  replace K1 := kx_ hk K1 (Nat.not_lt.2 LK1_b116); replace KXT := kx_ hk KXT (Nat.not_lt.2 LKXT_b116); replace KXe0 := kx_ hk KXe0 (Nat.not_lt.2 LKXe0_b116); replace KXea := kx_ hk KXea (Nat.not_lt.2 LKXea_b116); replace B74 := bx_ hk B74 Nb74_b116; replace B77 := bx_ hk B77 Nb77_b116; replace B87 := bx_ hk B87 Nb87_b116; replace B92 := bx_ hk B92 Nb92_b116; replace B103 := bx_ hk B103 Nb103_b116; clear B116; have B116 := hB; clear hB hk
  refine st_skip gA7_5_8 rfl (wanted_free rfl) Y ?_; clear Y
  refine sv_ gA7_5_9 (ya_ rfl h41) fun a121 e => ?_
  clear h40 h41; have h13 := pt_ F e; replace F := pu_ F e; replace h11 := so_ e h11; replace h12 := so_ e h12; clear e
  refine st_end ?_
  replace h0 := F.of h0; clear h4; replace h5 := F.of h5; replace h6 := F.of h6; replace h7 := F.of h7; replace h8 := F.of h8; replace h9 := F.of h9; replace h10 := F.of h10; have R := F.r; clear F
  change (cA7_16).wp _ _ _ _
  refine wp_seq (x := cA7_17) (y := cA7_18) ?_
  change (Code.region 6 OA7_6 false).wp _ _ _ _
  refine reg_in (l := [0, 1, 2, 3, 4, 5, 6, 7, 8, 9]) rfl ?_
  have F : FE_ _ [] a121 a121 := ⟨R, Ag_.refl _⟩; clear R
  refine sv_ gA7_6_0 (yl4_ rfl (F.of h5) B77) fun a122 e => ?_
  have h43 := pt_ F e; replace F := pu_ F e; clear e
  have hca := eval_gen (HTb.out.on K1)
  refine st_call gA7_6_1 rfl (wanted_free rfl) (yc1_ enA7_10 rfl h43) ((hca).mono ?_)
  rintro e9 w123 ⟨aeb, ceb, rfl, hx, kk⟩
  replace K1 := keep_onto K1 kk
  replace KXT := keep_onto KXT kk
  replace KXe0 := keep_onto KXe0 kk
  replace KXea := keep_onto KXea kk
  replace B74 := blk_on B74 kk
  replace B77 := blk_on B77 kk
  replace B87 := blk_on B87 kk
  replace B92 := blk_on B92 kk
  replace B103 := blk_on B103 kk
  replace B116 := blk_on B116 kk
  clear kk
  have HXeb := Lib.hid hx.at_; clear hx hca
  have KXeb := Keep.refl (fun g => g < w123.heap.size) w123
  refine ⟨_, rfl, fun a124 e => ?_⟩
  clear h43; have h44 := pt_ F e; replace F := pu_ F e; clear e
  refine sv_ gA7_6_2 (ym_ rfl h44) fun a125 e => ?_
  clear h44; have h42 := pt_ F e; replace F := pu_ F e; clear e
  refine sv_ gA7_6_3 (ye30_ rfl h42) fun a126 e => ?_
  have h45 := pt_ F e; replace F := pu_ F e; replace h42 := so_ e h42; clear e
  refine sv_ gA7_6_4 (ye31_ rfl h42) fun a127 e => ?_
  have h46 := pt_ F e; replace F := pu_ F e; replace h42 := so_ e h42; replace h45 := so_ e h45; clear e
  refine sv_ gA7_6_5 (ye32_ rfl h42) fun a128 e => ?_
  clear h42; have h47 := pt_ F e; replace F := pu_ F e; replace h45 := so_ e h45; replace h46 := so_ e h46; clear e
  have Y : (execOp a128.eval oA7_6_6).run Try.prog w123 = .ok (.value (.pointer (some ⟨w123.heap.size, 0, none⟩))) (w123.alloc (.cells #[.int .i64 0, .string (⟨#[]⟩), .int .i64 0, .slice none 0 0] 24)) := by unfold oA7_6_6; go_simp
  have B129 := Blk.new w123 24 #[.int .i64 0, .string (⟨#[]⟩), .int .i64 0, .slice none 0 0]
  obtain ⟨w130, hw⟩ : ∃ x, x = w123.alloc (.cells #[.int .i64 0, .string (⟨#[]⟩), .int .i64 0, .slice none 0 0] 24) := ⟨_, rfl⟩; rw [← hw] at Y B129
  obtain ⟨b129, hb⟩ : ∃ x, x = w123.heap.size := ⟨_, rfl⟩; rw [← hb] at Y B129
  have Nb74_b129 := nb_ hb B74; replace B74 := ba_ hw B74; have Nb77_b129 := nb_ hb B77; replace B77 := ba_ hw B77; have Nb87_b129 := nb_ hb B87; replace B87 := ba_ hw B87; have Nb92_b129 := nb_ hb B92; replace B92 := ba_ hw B92; have Nb103_b129 := nb_ hb B103; replace B103 := ba_ hw B103; have Nb116_b129 := nb_ hb B116; replace B116 := ba_ hw B116; have LK1_b129 := lk_ hb K1; replace K1 := ka_ hw K1; have LKXT_b129 := lk_ hb KXT; replace KXT := ka_ hw KXT; have LKXe0_b129 := lk_ hb KXe0; replace KXe0 := ka_ hw KXe0; have LKXea_b129 := lk_ hb KXea; replace KXea := ka_ hw KXea; have LKXeb_b129 := lk_ hb KXeb; replace KXeb := ka_ hw KXeb; clear hw hb
  refine sv_ gA7_6_6 Y fun a131 e => ?_; clear Y
  have h15 := pt_ F e; replace F := pu_ F e; replace h45 := so_ e h45; replace h46 := so_ e h46; replace h47 := so_ e h47; clear e
  refine sv_ gA7_6_7 (ya_ rfl h45) fun a132 e => ?_
  clear h45; have h14 := pt_ F e; replace F := pu_ F e; replace h15 := so_ e h15; replace h46 := so_ e h46; replace h47 := so_ e h47; clear e
  obtain ⟨w133, Y, hk, hB⟩ := ys4_ (o := oA7_6_8) rfl h15 h46 B129
  replace K1 := kx_ hk K1 (Nat.not_lt.2 LK1_b129); replace KXT := kx_ hk KXT (Nat.not_lt.2 LKXT_b129); replace KXe0 := kx_ hk KXe0 (Nat.not_lt.2 LKXe0_b129); replace KXea := kx_ hk KXea (Nat.not_lt.2 LKXea_b129); replace KXeb := kx_ hk KXeb (Nat.not_lt.2 LKXeb_b129); replace B74 := bx_ hk B74 Nb74_b129; replace B77 := bx_ hk B77 Nb77_b129; replace B87 := bx_ hk B87 Nb87_b129; replace B92 := bx_ hk B92 Nb92_b129; replace B103 := bx_ hk B103 Nb103_b129; replace B116 := bx_ hk B116 Nb116_b129; clear B129; have B129 := hB; clear hB hk
  refine st_skip gA7_6_8 rfl (wanted_free rfl) Y ?_; clear Y
  refine sv_ gA7_6_9 (ya_ rfl h47) fun a134 e => ?_
  clear h46 h47; have h16 := pt_ F e; replace F := pu_ F e; replace h14 := so_ e h14; replace h15 := so_ e h15; clear e
  refine st_end ?_
  replace h0 := F.of h0; clear h5; replace h6 := F.of h6; replace h7 := F.of h7; replace h8 := F.of h8; replace h9 := F.of h9; replace h10 := F.of h10; replace h11 := F.of h11; replace h12 := F.of h12; replace h13 := F.of h13; have R := F.r; clear F
  change (cA7_18).wp _ _ _ _
  refine wp_seq (x := cA7_19) (y := cA7_26) ?_
  refine wp_seq (x := cA7_20) (y := cA7_21) ?_
  change (Code.region 7 OA7_7 false).wp _ _ _ _
  refine reg_in (l := [0, 1, 2]) rfl ?_
  have F : FE_ _ [] a134 a134 := ⟨R, Ag_.refl _⟩; clear R
  refine sv_ gA7_7_0 (yl4_ rfl (F.of h7) B92) fun a135 e => ?_
  have h48 := pt_ F e; replace F := pu_ F e; clear e
  refine st_call gA7_7_1 rfl (wanted_free rfl) (yc1_ enA7_11 rfl h48) ((right_is (HXT.out.on KXT) HR.out).mono ?_)
  rintro e9 w136 ⟨rfl, kk⟩
  replace K1 := keep_onto K1 kk
  replace KXT := keep_onto KXT kk
  replace KXe0 := keep_onto KXe0 kk
  replace KXea := keep_onto KXea kk
  replace KXeb := keep_onto KXeb kk
  replace B74 := blk_on B74 kk
  replace B77 := blk_on B77 kk
  replace B87 := blk_on B87 kk
  replace B92 := blk_on B92 kk
  replace B103 := blk_on B103 kk
  replace B116 := blk_on B116 kk
  replace B129 := blk_on B129 kk
  clear kk
  refine ⟨_, rfl, fun a137 e => ?_⟩
  clear h48; have h49 := pt_ F e; replace F := pu_ F e; clear e
  have Y : (execOp a137.eval oA7_7_2).run Try.prog w136 = .ok (.value (.bool false)) w136 := by unfold oA7_7_2; go_simp
  refine sv_ gA7_7_2 Y fun a138 e => ?_; clear Y
  clear h49; have h50 := pt_ F e; replace F := pu_ F e; clear e
  refine st_end ?_
  replace h0 := F.of h0; replace h6 := F.of h6; clear h7; replace h8 := F.of h8; replace h9 := F.of h9; replace h10 := F.of h10; replace h11 := F.of h11; replace h12 := F.of h12; replace h13 := F.of h13; replace h14 := F.of h14; replace h15 := F.of h15; replace h16 := F.of h16; have R := F.r; clear F
  change (cA7_21).wp _ _ _ _
  refine wp_cond_false (x := cA7_22) (y := Code.skip) (eval_slot h50) ?_
  refine wp_skip ?_
  change (cA7_26).wp _ _ _ _
  refine wp_seq (x := cA7_27) (y := cA7_28) ?_
  change (Code.region 9 OA7_9 false).wp _ _ _ _
  refine reg_in (l := [0, 1, 2, 3, 4, 5, 6, 7, 8, 9, 10]) rfl ?_
  have F : FE_ _ [] a138 a138 := ⟨R, Ag_.refl _⟩; clear R
  refine sv_ gA7_9_0 (ym_ rfl (F.of h0)) fun a139 e => ?_
  have h59 := pt_ F e; replace F := pu_ F e; clear e
  have Y : (execOp a139.eval oA7_9_1).run Try.prog w136 = .ok (.enter 14 #[.string (str nm), .int .i64 1, .int .i64 1]) w136 := by unfold oA7_9_1; go_simp
  refine st_call gA7_9_1 rfl (wanted_free rfl) Y ((opT_any (W := w136) (nm := nm) (i := 1) (k := 1) HNM.out (by decide) (by decide)).mono ?_); clear Y
  rintro e9 w140 ⟨ao, co, rfl, hx, kk⟩
  replace K1 := keep_onto K1 kk
  replace KXT := keep_onto KXT kk
  replace KXe0 := keep_onto KXe0 kk
  replace KXea := keep_onto KXea kk
  replace KXeb := keep_onto KXeb kk
  replace B74 := blk_on B74 kk
  replace B77 := blk_on B77 kk
  replace B87 := blk_on B87 kk
  replace B92 := blk_on B92 kk
  replace B103 := blk_on B103 kk
  replace B116 := blk_on B116 kk
  replace B129 := blk_on B129 kk
  clear kk
  have HXo := Lib.hid hx.at_; clear hx
  have KXo := Keep.refl (fun g => g < w140.heap.size) w140
  refine ⟨_, rfl, fun a141 e => ?_⟩
  clear h59; have h60 := pt_ F e; replace F := pu_ F e; clear e
  have hca := eval_bal (HXo.out.on KXo) HE1.out
  refine st_call gA7_9_2 rfl (wanted_free rfl) (yc1_ enA7_10 rfl h60) ((hca).mono ?_)
  rintro e9 w142 ⟨aow, cow, rfl, hx, kk⟩
  replace K1 := keep_onto K1 kk
  replace KXT := keep_onto KXT kk
  replace KXe0 := keep_onto KXe0 kk
  replace KXea := keep_onto KXea kk
  replace KXeb := keep_onto KXeb kk
  replace KXo := keep_onto KXo kk
  replace B74 := blk_on B74 kk
  replace B77 := blk_on B77 kk
  replace B87 := blk_on B87 kk
  replace B92 := blk_on B92 kk
  replace B103 := blk_on B103 kk
  replace B116 := blk_on B116 kk
  replace B129 := blk_on B129 kk
  clear kk
  have HXow := Lib.hid hx.at_; clear hx hca
  have KXow := Keep.refl (fun g => g < w142.heap.size) w142
  refine ⟨_, rfl, fun a143 e => ?_⟩
  clear h60; have h61 := pt_ F e; replace F := pu_ F e; clear e
  refine sv_ gA7_9_3 (ym_ rfl h61) fun a144 e => ?_
  clear h61; have h58 := pt_ F e; replace F := pu_ F e; clear e
  refine sv_ gA7_9_4 (ye30_ rfl h58) fun a145 e => ?_
  have h62 := pt_ F e; replace F := pu_ F e; replace h58 := so_ e h58; clear e
  refine sv_ gA7_9_5 (ye31_ rfl h58) fun a146 e => ?_
  have h63 := pt_ F e; replace F := pu_ F e; replace h58 := so_ e h58; replace h62 := so_ e h62; clear e
  refine sv_ gA7_9_6 (ye32_ rfl h58) fun a147 e => ?_
  clear h58; have h64 := pt_ F e; replace F := pu_ F e; replace h62 := so_ e h62; replace h63 := so_ e h63; clear e
  have Y : (execOp a147.eval oA7_9_7).run Try.prog w142 = .ok (.value (.pointer (some ⟨w142.heap.size, 0, none⟩))) (w142.alloc (.cells #[.int .i64 0, .string (⟨#[]⟩), .int .i64 0, .slice none 0 0] 24)) := by unfold oA7_9_7; go_simp
  have B148 := Blk.new w142 24 #[.int .i64 0, .string (⟨#[]⟩), .int .i64 0, .slice none 0 0]
  obtain ⟨w149, hw⟩ : ∃ x, x = w142.alloc (.cells #[.int .i64 0, .string (⟨#[]⟩), .int .i64 0, .slice none 0 0] 24) := ⟨_, rfl⟩; rw [← hw] at Y B148
  obtain ⟨b148, hb⟩ : ∃ x, x = w142.heap.size := ⟨_, rfl⟩; rw [← hb] at Y B148
  have Nb74_b148 := nb_ hb B74; replace B74 := ba_ hw B74; have Nb77_b148 := nb_ hb B77; replace B77 := ba_ hw B77; have Nb87_b148 := nb_ hb B87; replace B87 := ba_ hw B87; have Nb92_b148 := nb_ hb B92; replace B92 := ba_ hw B92; have Nb103_b148 := nb_ hb B103; replace B103 := ba_ hw B103; have Nb116_b148 := nb_ hb B116; replace B116 := ba_ hw B116; have Nb129_b148 := nb_ hb B129; replace B129 := ba_ hw B129; have LK1_b148 := lk_ hb K1; replace K1 := ka_ hw K1; have LKXT_b148 := lk_ hb KXT; replace KXT := ka_ hw KXT; have LKXe0_b148 := lk_ hb KXe0; replace KXe0 := ka_ hw KXe0; have LKXea_b148 := lk_ hb KXea; replace KXea := ka_ hw KXea; have LKXeb_b148 := lk_ hb KXeb; replace KXeb := ka_ hw KXeb; have LKXo_b148 := lk_ hb KXo; replace KXo := ka_ hw KXo; have LKXow_b148 := lk_ hb KXow; replace KXow := ka_ hw KXow; clear hw hb
  refine sv_ gA7_9_7 Y fun a150 e => ?_; clear Y
  have h18 := pt_ F e; replace F := pu_ F e; replace h62 := so_ e h62; replace h63 := so_ e h63; replace h64 := so_ e h64; clear e
  refine sv_ gA7_9_8 (ya_ rfl h62) fun a151 e => ?_
  clear h62; have h17 := pt_ F e; replace F := pu_ F e; replace h18 := so_ e h18; replace h63 := so_ e h63; replace h64 := so_ e h64; clear e
  obtain ⟨w152, Y, hk, hB⟩ := ys4_ (o := oA7_9_9) rfl h18 h63 B148
  replace K1 := kx_ hk K1 (Nat.not_lt.2 LK1_b148); replace KXT := kx_ hk KXT (Nat.not_lt.2 LKXT_b148); replace KXe0 := kx_ hk KXe0 (Nat.not_lt.2 LKXe0_b148); replace KXea := kx_ hk KXea (Nat.not_lt.2 LKXea_b148); replace KXeb := kx_ hk KXeb (Nat.not_lt.2 LKXeb_b148); replace KXo := kx_ hk KXo (Nat.not_lt.2 LKXo_b148); replace KXow := kx_ hk KXow (Nat.not_lt.2 LKXow_b148); replace B74 := bx_ hk B74 Nb74_b148; replace B77 := bx_ hk B77 Nb77_b148; replace B87 := bx_ hk B87 Nb87_b148; replace B92 := bx_ hk B92 Nb92_b148; replace B103 := bx_ hk B103 Nb103_b148; replace B116 := bx_ hk B116 Nb116_b148; replace B129 := bx_ hk B129 Nb129_b148; clear B148; have B148 := hB; clear hB hk
  refine st_skip gA7_9_9 rfl (wanted_free rfl) Y ?_; clear Y
  refine sv_ gA7_9_10 (ya_ rfl h64) fun a153 e => ?_
  clear h63 h64; have h19 := pt_ F e; replace F := pu_ F e; replace h17 := so_ e h17; replace h18 := so_ e h18; clear e
  refine st_end ?_
  replace h0 := F.of h0; replace h6 := F.of h6; replace h8 := F.of h8; replace h9 := F.of h9; replace h10 := F.of h10; replace h11 := F.of h11; replace h12 := F.of h12; replace h13 := F.of h13; replace h14 := F.of h14; replace h15 := F.of h15; replace h16 := F.of h16; clear h50; have R := F.r; clear F
  change (cA7_28).wp _ _ _ _
  refine wp_seq (x := cA7_29) (y := cA7_36) ?_
  refine wp_seq (x := cA7_30) (y := cA7_31) ?_
  change (Code.region 10 OA7_10 false).wp _ _ _ _
  refine reg_in (l := [0, 1, 2, 3, 4, 5, 6, 7, 8, 9, 10, 11, 12, 13, 14, 15, 16, 17, 18, 19, 20]) rfl ?_
  have F : FE_ _ [] a153 a153 := ⟨R, Ag_.refl _⟩; clear R
  refine sv_ gA7_10_0 (ym_ rfl (F.of h19)) fun a154 e => ?_
  have h65 := pt_ F e; replace F := pu_ F e; clear e
  have Y : (execOp a154.eval oA7_10_1).run Try.prog w152 = .ok (.value (.bool true)) w152 := by unfold oA7_10_1; go_simp
  refine sv_ gA7_10_1 Y fun a155 e => ?_; clear Y
  clear h65; have h66 := pt_ F e; replace F := pu_ F e; clear e
  refine sv_ gA7_10_2 (ym_ rfl h66) fun a156 e => ?_
  clear h66; have h67 := pt_ F e; replace F := pu_ F e; clear e
  refine st_val gA7_10_3 rfl (wanted_is (j := 2) (d := 67) rfl rfl h67 rfl) (yf0_ rfl (F.of h18)) fun a157 e => ?_
  have h68 := pt_ F e; replace F := pu_ F e; replace h67 := so_ e h67; clear e
  refine st_val gA7_10_4 rfl (wanted_is (j := 2) (d := 67) rfl rfl h67 rfl) (yk0_ rfl h68 B148) fun a158 e => ?_
  clear h68; have h69 := pt_ F e; replace F := pu_ F e; replace h67 := so_ e h67; clear e
  have Y : (execOp a158.eval oA7_10_5).run Try.prog w152 = .ok (.value (.bool true)) w152 := by have h8 : (ballT (evF nm 2)).k = 4 := rfl; unfold oA7_10_5; go_simp
  refine st_val gA7_10_5 rfl (wanted_is (j := 2) (d := 67) rfl rfl h67 rfl) Y fun a159 e => ?_; clear Y
  clear h69; have h70 := pt_ F e; replace F := pu_ F e; replace h67 := so_ e h67; clear e
  have Y : (execOp a159.eval oA7_10_6).run Try.prog w152 = .ok (.value (.bool true)) w152 := by unfold oA7_10_6; go_simp
  refine sv_ gA7_10_6 Y fun a160 e => ?_; clear Y
  clear h67 h70; have h71 := pt_ F e; replace F := pu_ F e; clear e
  refine sv_ gA7_10_7 (ym_ rfl h71) fun a161 e => ?_
  clear h71; have h72 := pt_ F e; replace F := pu_ F e; clear e
  refine st_val gA7_10_8 rfl (wanted_is (j := 7) (d := 72) rfl rfl h72 rfl) (yf3_ rfl (F.of h18)) fun a162 e => ?_
  have h73 := pt_ F e; replace F := pu_ F e; replace h72 := so_ e h72; clear e
  refine st_val gA7_10_9 rfl (wanted_is (j := 7) (d := 72) rfl rfl h72 rfl) (yk3_ rfl h73 B148) fun a163 e => ?_
  clear h73; have h74 := pt_ F e; replace F := pu_ F e; replace h72 := so_ e h72; clear e
  have Y : (execOp a163.eval oA7_10_10).run Try.prog w152 = .ok (.value (.int .i64 ((ballT (evF nm 2)).args.length))) w152 := by unfold oA7_10_10; go_simp
  refine st_val gA7_10_10 rfl (wanted_is (j := 7) (d := 72) rfl rfl h72 rfl) Y fun a164 e => ?_; clear Y
  clear h74; have h75 := pt_ F e; replace F := pu_ F e; replace h72 := so_ e h72; clear e
  have Y : (execOp a164.eval oA7_10_11).run Try.prog w152 = .ok (.value (.bool true)) w152 := by have h8 : (ballT (evF nm 2)).args.length = 2 := rfl; unfold oA7_10_11; go_simp
  refine st_val gA7_10_11 rfl (wanted_is (j := 7) (d := 72) rfl rfl h72 rfl) Y fun a165 e => ?_; clear Y
  clear h75; have h76 := pt_ F e; replace F := pu_ F e; replace h72 := so_ e h72; clear e
  have Y : (execOp a165.eval oA7_10_12).run Try.prog w152 = .ok (.value (.bool true)) w152 := by unfold oA7_10_12; go_simp
  refine sv_ gA7_10_12 Y fun a166 e => ?_; clear Y
  clear h72 h76; have h77 := pt_ F e; replace F := pu_ F e; clear e
  refine sv_ gA7_10_13 (ym_ rfl h77) fun a167 e => ?_
  clear h77; have h78 := pt_ F e; replace F := pu_ F e; clear e
  refine st_val gA7_10_14 rfl (wanted_is (j := 13) (d := 78) rfl rfl h78 rfl) (yf3_ rfl (F.of h18)) fun a168 e => ?_
  have h79 := pt_ F e; replace F := pu_ F e; replace h78 := so_ e h78; clear e
  refine st_val gA7_10_15 rfl (wanted_is (j := 13) (d := 78) rfl rfl h78 rfl) (yk3_ rfl h79 B148) fun a169 e => ?_
  clear h79; have h80 := pt_ F e; replace F := pu_ F e; replace h78 := so_ e h78; clear e
  obtain ⟨bA, oA, ax, cx, hA, hbA, hTx, u0, u1, u2, u3⟩ := (HXow.out.on KXow).arg (j := 0) (x := evF nm 2) rfl
  simp only [Nat.zero_mul, Nat.zero_add, Nat.add_zero] at u0 u1 u2 u3; have HU := Lib.hid u1; have HA := Lib.hid hA; clear hA u0 u1 u2 u3 hTx hbA
  have Y : (execOp a169.eval oA7_10_16).run Try.prog w152 = .ok (.value (.pointer (some ⟨bA, oA, none⟩))) w152 := by have hA := HA.out; have h8 : (ballT (evF nm 2)).args.length = 2 := rfl; unfold oA7_10_16; go_simp
  refine st_val gA7_10_16 rfl (wanted_is (j := 13) (d := 78) rfl rfl h78 rfl) Y fun a170 e => ?_; clear Y
  clear h80; have h81 := pt_ F e; replace F := pu_ F e; replace h78 := so_ e h78; clear e
  have Y : (execOp a170.eval oA7_10_17).run Try.prog w152 = .ok (.value (.pointer (some ⟨bA, oA + 1, none⟩))) w152 := by unfold oA7_10_17; go_simp
  refine st_val gA7_10_17 rfl (wanted_is (j := 13) (d := 78) rfl rfl h78 rfl) Y fun a171 e => ?_; clear Y
  clear h81; have h82 := pt_ F e; replace F := pu_ F e; replace h78 := so_ e h78; clear e
  have Y : (execOp a171.eval oA7_10_18).run Try.prog w152 = .ok (.value (.string (str (evF nm 2).nm))) w152 := by have h8 := HU.out; unfold oA7_10_18; go_simp
  refine st_val gA7_10_18 rfl (wanted_is (j := 13) (d := 78) rfl rfl h78 rfl) Y fun a172 e => ?_; clear Y
  clear h82; have h83 := pt_ F e; replace F := pu_ F e; replace h78 := so_ e h78; clear e
  have Y : (execOp a172.eval oA7_10_19).run Try.prog w152 = .ok (.value (.bool true)) w152 := by have h8 : ((str (evF nm 2).nm).toList == [116, 121, 112, 101, 95, 101, 114, 114, 111, 114]) = true := (by rw [str_eq]; exact decide_eq_true rfl); unfold oA7_10_19; go_simp
  refine st_val gA7_10_19 rfl (wanted_is (j := 13) (d := 78) rfl rfl h78 rfl) Y fun a173 e => ?_; clear Y
  clear h83; have h84 := pt_ F e; replace F := pu_ F e; replace h78 := so_ e h78; clear e
  have Y : (execOp a173.eval oA7_10_20).run Try.prog w152 = .ok (.value (.bool true)) w152 := by unfold oA7_10_20; go_simp
  refine sv_ gA7_10_20 Y fun a174 e => ?_; clear Y
  clear h78 h84; have h85 := pt_ F e; replace F := pu_ F e; clear e
  refine st_end ?_
  replace h0 := F.of h0; replace h6 := F.of h6; replace h8 := F.of h8; replace h9 := F.of h9; replace h10 := F.of h10; replace h11 := F.of h11; replace h12 := F.of h12; replace h13 := F.of h13; replace h14 := F.of h14; replace h15 := F.of h15; replace h16 := F.of h16; replace h17 := F.of h17; replace h18 := F.of h18; clear h19; have R := F.r; clear F
  change (cA7_31).wp _ _ _ _
  refine wp_cond_true (x := cA7_32) (y := Code.skip) (eval_slot h85) ?_
  refine wp_seq (x := cA7_33) (y := Code.ret) ?_
  change (Code.region 11 OA7_11 false).wp _ _ _ _
  refine reg_in (l := [0, 1, 2, 3, 4, 5, 6, 7, 8, 9, 10, 11, 12, 13, 14, 15]) rfl ?_
  have F : FE_ _ [] a174 a174 := ⟨R, Ag_.refl _⟩; clear R
  refine sv_ gA7_11_0 (ym_ rfl (F.of h10)) fun a175 e => ?_
  have h86 := pt_ F e; replace F := pu_ F e; clear e
  have Y : (execOp a175.eval oA7_11_1).run Try.prog w152 = .ok (.value (.bool true)) w152 := by unfold oA7_11_1; go_simp
  refine sv_ gA7_11_1 Y fun a176 e => ?_; clear Y
  clear h86; have h87 := pt_ F e; replace F := pu_ F e; clear e
  refine sv_ gA7_11_2 (ym_ rfl h87) fun a177 e => ?_
  clear h87; have h88 := pt_ F e; replace F := pu_ F e; clear e
  refine st_val gA7_11_3 rfl (wanted_is (j := 2) (d := 88) rfl rfl h88 rfl) (ym_ rfl (F.of h8)) fun a178 e => ?_
  have h89 := pt_ F e; replace F := pu_ F e; replace h88 := so_ e h88; clear e
  have Y : (execOp a178.eval oA7_11_4).run Try.prog w152 = .ok (.value (.bool true)) w152 := by unfold oA7_11_4; go_simp
  refine st_val gA7_11_4 rfl (wanted_is (j := 2) (d := 88) rfl rfl h88 rfl) Y fun a179 e => ?_; clear Y
  clear h89; have h90 := pt_ F e; replace F := pu_ F e; replace h88 := so_ e h88; clear e
  have Y : (execOp a179.eval oA7_11_5).run Try.prog w152 = .ok (.value (.bool true)) w152 := by unfold oA7_11_5; go_simp
  refine sv_ gA7_11_5 Y fun a180 e => ?_; clear Y
  clear h88 h90; have h91 := pt_ F e; replace F := pu_ F e; clear e
  refine sv_ gA7_11_6 (ym_ rfl h91) fun a181 e => ?_
  clear h91; have h92 := pt_ F e; replace F := pu_ F e; clear e
  refine st_val gA7_11_7 rfl (wanted_is (j := 6) (d := 92) rfl rfl h92 rfl) (ym_ rfl (F.of h17)) fun a182 e => ?_
  have h93 := pt_ F e; replace F := pu_ F e; replace h92 := so_ e h92; clear e
  have Y : (execOp a182.eval oA7_11_8).run Try.prog w152 = .ok (.value (.bool true)) w152 := by unfold oA7_11_8; go_simp
  refine st_val gA7_11_8 rfl (wanted_is (j := 6) (d := 92) rfl rfl h92 rfl) Y fun a183 e => ?_; clear Y
  clear h93; have h94 := pt_ F e; replace F := pu_ F e; replace h92 := so_ e h92; clear e
  have Y : (execOp a183.eval oA7_11_9).run Try.prog w152 = .ok (.value (.bool true)) w152 := by unfold oA7_11_9; go_simp
  refine sv_ gA7_11_9 Y fun a184 e => ?_; clear Y
  clear h92 h94; have h95 := pt_ F e; replace F := pu_ F e; clear e
  refine sv_ gA7_11_10 (ym_ rfl h95) fun a185 e => ?_
  clear h95; have h96 := pt_ F e; replace F := pu_ F e; clear e
  refine st_val gA7_11_11 rfl (wanted_is (j := 10) (d := 96) rfl rfl h96 rfl) (yl4_ rfl (F.of h9) B103) fun a186 e => ?_
  have h97 := pt_ F e; replace F := pu_ F e; replace h96 := so_ e h96; clear e
  refine st_val gA7_11_12 rfl (wanted_is (j := 10) (d := 96) rfl rfl h96 rfl) (yl4_ rfl (F.of h18) B148) fun a187 e => ?_
  have h98 := pt_ F e; replace F := pu_ F e; replace h96 := so_ e h96; replace h97 := so_ e h97; clear e
  refine st_call gA7_11_13 rfl (wanted_is (j := 10) (d := 96) rfl rfl h96 rfl) (yc2_ enA7_13 rfl h97 h98) ((like_ok (HXe0.out.on KXe0) (HXow.out.on KXow) (.inr ⟨ball_ok HOK.out, ball_ok HOK.out, rfl⟩)).mono ?_)
  rintro e9 w188 ⟨rfl, kk⟩
  replace K1 := keep_onto K1 kk
  replace KXT := keep_onto KXT kk
  replace KXe0 := keep_onto KXe0 kk
  replace KXea := keep_onto KXea kk
  replace KXeb := keep_onto KXeb kk
  replace KXo := keep_onto KXo kk
  replace KXow := keep_onto KXow kk
  replace B74 := blk_on B74 kk
  replace B77 := blk_on B77 kk
  replace B87 := blk_on B87 kk
  replace B92 := blk_on B92 kk
  replace B103 := blk_on B103 kk
  replace B116 := blk_on B116 kk
  replace B129 := blk_on B129 kk
  replace B148 := blk_on B148 kk
  clear kk
  refine ⟨_, rfl, fun a189 e => ?_⟩
  clear h97 h98; have h99 := pt_ F e; replace F := pu_ F e; replace h96 := so_ e h96; clear e
  have Y : (execOp a189.eval oA7_11_14).run Try.prog w188 = .ok (.value (.bool true)) w188 := by unfold oA7_11_14; go_simp
  refine sv_ gA7_11_14 Y fun a190 e => ?_; clear Y
  clear h96 h99; have h100 := pt_ F e; replace F := pu_ F e; clear e
  refine sv_ gA7_11_15 (ya_ rfl h100) fun a191 e => ?_
  clear h100 h6; have h6 := pt_ F e; replace F := pu_ F e; clear e
  refine st_end ?_
  replace h0 := F.of h0; replace h8 := F.of h8; replace h9 := F.of h9; replace h10 := F.of h10; replace h11 := F.of h11; replace h12 := F.of h12; replace h13 := F.of h13; replace h14 := F.of h14; replace h15 := F.of h15; replace h16 := F.of h16; clear h17; clear h18; clear h85; have R := F.r; clear F
  change (Code.ret).wp _ _ _ _
  refine wp_ret ?_
  change bodyPost Try.prog Try.f7 (fun e w' => e = .returned (.bool true) ∧ Keep (fun g => g < W.heap.size) W w') .ret a191 w188
  refine ret_one rfl R h6 ?_
  exact ⟨rfl, K1⟩
set_option maxRecDepth 100000 in
set_option maxHeartbeats 4000000 in
theorem deep_l {W : World} {nm : List UInt8} {ta tb bb : Tm} {pa pb : Option Addr} {ca cb : Nat} {v1 : Int} {f0 : Act} {w0 : World} (R : FrS 149 f0) (h0 : f0.tmps[0]? = some (.string (str nm))) (h1 : f0.tmps[1]? = some (.agg #[.int .i64 ta.k, .string (str ta.nm), .int .i64 ta.i, .slice pa ta.args.length ca])) (h2 : f0.tmps[2]? = some (.agg #[.int .i64 tb.k, .string (str tb.nm), .int .i64 tb.i, .slice pb tb.args.length cb])) (K1 : Keep (fun g => g < W.heap.size) W w0)  (HTa : Hid (TmAt W.heap.size W ta pa ca)) (HTb : Hid (TmAt W.heap.size W tb pb cb)) (HNM : Hid (nm.length ≤ maxLen)) (HR : Hid ((twoT nm ta tb).right = true)) (HE0 : Hid (evW (twoT nm ta tb) = .bal bb)) (HE1 : Hid (evW (opT nm 1 1) = .num v1)) (HEa : Hid (evW ta = .bal bb)) (HP : Hid (bb.k = 0 ∨ bb.ok = true)) : cA7_0.wp Try.prog (bodyPost Try.prog Try.f7 (fun e w' => e = .returned (.bool true) ∧ Keep (fun g => g < W.heap.size) W w')) f0 w0 := by
  refine wp_seq (x := cA7_1) (y := cA7_2) ?_
  change (Code.region 0 OA7_0 false).wp _ _ _ _
  refine reg_in (l := [0, 1, 2]) rfl ?_
  have F : FE_ _ [] f0 f0 := ⟨R, Ag_.refl _⟩; clear R
  have Y : (execOp f0.eval oA7_0_0).run Try.prog w0 = .ok (.value (.pointer (some ⟨w0.heap.size, 0, none⟩))) (w0.alloc (.cells #[.int .i64 ta.k, .string (str ta.nm), .int .i64 ta.i, .slice pa ta.args.length ca] 24)) := by have r1 := F.of h1; unfold oA7_0_0; go_simp
  have B192 := Blk.new w0 24 #[.int .i64 ta.k, .string (str ta.nm), .int .i64 ta.i, .slice pa ta.args.length ca]
  obtain ⟨w193, hw⟩ : ∃ x, x = w0.alloc (.cells #[.int .i64 ta.k, .string (str ta.nm), .int .i64 ta.i, .slice pa ta.args.length ca] 24) := ⟨_, rfl⟩; rw [← hw] at Y B192
  obtain ⟨b192, hb⟩ : ∃ x, x = w0.heap.size := ⟨_, rfl⟩; rw [← hb] at Y B192
  have LK1_b192 := lk_ hb K1; replace K1 := ka_ hw K1; clear hw hb
  refine sv_ gA7_0_0 Y fun a194 e => ?_; clear Y
  have h4 := pt_ F e; replace F := pu_ F e; clear e
  have Y : (execOp a194.eval oA7_0_1).run Try.prog w193 = .ok (.value (.pointer (some ⟨w193.heap.size, 0, none⟩))) (w193.alloc (.cells #[.int .i64 tb.k, .string (str tb.nm), .int .i64 tb.i, .slice pb tb.args.length cb] 24)) := by have r2 := F.of h2; unfold oA7_0_1; go_simp
  have B195 := Blk.new w193 24 #[.int .i64 tb.k, .string (str tb.nm), .int .i64 tb.i, .slice pb tb.args.length cb]
  obtain ⟨w196, hw⟩ : ∃ x, x = w193.alloc (.cells #[.int .i64 tb.k, .string (str tb.nm), .int .i64 tb.i, .slice pb tb.args.length cb] 24) := ⟨_, rfl⟩; rw [← hw] at Y B195
  obtain ⟨b195, hb⟩ : ∃ x, x = w193.heap.size := ⟨_, rfl⟩; rw [← hb] at Y B195
  have Nb192_b195 := nb_ hb B192; replace B192 := ba_ hw B192; have LK1_b195 := lk_ hb K1; replace K1 := ka_ hw K1; clear hw hb
  refine sv_ gA7_0_1 Y fun a197 e => ?_; clear Y
  have h5 := pt_ F e; replace F := pu_ F e; replace h4 := so_ e h4; clear e
  have Y : (execOp a197.eval oA7_0_2).run Try.prog w196 = .ok (.value (.bool false)) w196 := by unfold oA7_0_2; go_simp
  refine sv_ gA7_0_2 Y fun a198 e => ?_; clear Y
  have h6 := pt_ F e; replace F := pu_ F e; replace h4 := so_ e h4; replace h5 := so_ e h5; clear e
  refine st_end ?_
  replace h0 := F.of h0; clear h1; clear h2; have R := F.r; clear F
  change (cA7_2).wp _ _ _ _
  refine wp_seq (x := cA7_3) (y := cA7_10) ?_
  refine wp_seq (x := cA7_4) (y := cA7_5) ?_
  change (Code.region 1 OA7_1 false).wp _ _ _ _
  refine reg_in (l := [0, 1]) rfl ?_
  have F : FE_ _ [] a198 a198 := ⟨R, Ag_.refl _⟩; clear R
  have Y : (execOp a198.eval oA7_1_0).run Try.prog w196 = .ok (.enter 9 #[]) w196 := by unfold oA7_1_0; go_simp
  refine st_call gA7_1_0 rfl (wanted_free rfl) Y ((alive_any _).mono ?_); clear Y
  rintro e9 w199 ⟨rfl, kk⟩
  replace K1 := keep_onto K1 kk
  replace B192 := blk_on B192 kk
  replace B195 := blk_on B195 kk
  clear kk
  refine ⟨_, rfl, fun a200 e => ?_⟩
  have h23 := pt_ F e; replace F := pu_ F e; clear e
  have Y : (execOp a200.eval oA7_1_1).run Try.prog w199 = .ok (.value (.bool false)) w199 := by unfold oA7_1_1; go_simp
  refine sv_ gA7_1_1 Y fun a201 e => ?_; clear Y
  clear h23; have h24 := pt_ F e; replace F := pu_ F e; clear e
  refine st_end ?_
  replace h0 := F.of h0; replace h4 := F.of h4; replace h5 := F.of h5; replace h6 := F.of h6; have R := F.r; clear F
  change (cA7_5).wp _ _ _ _
  refine wp_cond_false (x := cA7_6) (y := Code.skip) (eval_slot h24) ?_
  refine wp_skip ?_
  change (cA7_10).wp _ _ _ _
  refine wp_seq (x := cA7_11) (y := cA7_12) ?_
  change (Code.region 3 OA7_3 false).wp _ _ _ _
  refine reg_in (l := [0, 1, 2, 3, 4, 5, 6]) rfl ?_
  have F : FE_ _ [] a201 a201 := ⟨R, Ag_.refl _⟩; clear R
  refine sv_ gA7_3_0 (ym_ rfl (F.of h0)) fun a202 e => ?_
  have h25 := pt_ F e; replace F := pu_ F e; clear e
  refine sv_ gA7_3_1 (yl4_ rfl (F.of h4) B192) fun a203 e => ?_
  have h26 := pt_ F e; replace F := pu_ F e; replace h25 := so_ e h25; clear e
  refine sv_ gA7_3_2 (yl4_ rfl (F.of h5) B195) fun a204 e => ?_
  have h27 := pt_ F e; replace F := pu_ F e; replace h25 := so_ e h25; replace h26 := so_ e h26; clear e
  have Y : (execOp a204.eval oA7_3_3).run Try.prog w199 = .ok (.value (.slice (some ⟨w199.heap.size, 0, none⟩) 2 2)) (w199.alloc (.cells #[.int .i64 ta.k, .string (str ta.nm), .int .i64 ta.i, .slice pa ta.args.length ca, .int .i64 tb.k, .string (str tb.nm), .int .i64 tb.i, .slice pb tb.args.length cb] 24)) := by unfold oA7_3_3; go_simp
  have B205 := Blk.new w199 24 #[.int .i64 ta.k, .string (str ta.nm), .int .i64 ta.i, .slice pa ta.args.length ca, .int .i64 tb.k, .string (str tb.nm), .int .i64 tb.i, .slice pb tb.args.length cb]
  obtain ⟨w206, hw⟩ : ∃ x, x = w199.alloc (.cells #[.int .i64 ta.k, .string (str ta.nm), .int .i64 ta.i, .slice pa ta.args.length ca, .int .i64 tb.k, .string (str tb.nm), .int .i64 tb.i, .slice pb tb.args.length cb] 24) := ⟨_, rfl⟩; rw [← hw] at Y B205
  obtain ⟨b205, hb⟩ : ∃ x, x = w199.heap.size := ⟨_, rfl⟩; rw [← hb] at Y B205
  have Nb192_b205 := nb_ hb B192; replace B192 := ba_ hw B192; have Nb195_b205 := nb_ hb B195; replace B195 := ba_ hw B195; have LK1_b205 := lk_ hb K1; replace K1 := ka_ hw K1; clear hw hb
  refine sv_ gA7_3_3 Y fun a207 e => ?_; clear Y
  clear h26 h27; have h28 := pt_ F e; replace F := pu_ F e; replace h25 := so_ e h25; clear e
  have hT : TmAt w206.heap.size w206 (twoT nm ta tb) (some ⟨b205, 0, none⟩) 2 := comp_at (ps := [(ta, pa, ca), (tb, pb, cb)]) B205 (fun p hp => by rcases List.mem_cons.1 hp with rfl | hp; exact HTa.out.on K1; rw [List.mem_singleton.1 hp]; exact HTb.out.on K1) HNM.out (Nat.le_of_ble_eq_true rfl)
  refine st_call gA7_3_4 rfl (wanted_free rfl) (yc2_ enA7_15 rfl h25 h28) ((refC_any _ nm [ta, tb] (some ⟨b205, 0, none⟩) 2).mono ?_)
  rintro e9 w208 ⟨rfl, kk⟩
  replace K1 := keep_onto K1 kk
  replace B192 := blk_on B192 kk
  replace B195 := blk_on B195 kk
  replace B205 := blk_on B205 kk
  have kk9 := kk
  clear kk
  have kk0 := kk9
  have HXT := Lib.hid (hT.on kk0)
  have KXT := Keep.refl (fun g => g < w208.heap.size) w208
  clear hT kk0 kk9
  refine ⟨_, rfl, fun a209 e => ?_⟩
  clear h25 h28; have h29 := pt_ F e; replace F := pu_ F e; clear e
  have Y : (execOp a209.eval oA7_3_5).run Try.prog w208 = .ok (.value (.pointer (some ⟨w208.heap.size, 0, none⟩))) (w208.alloc (.cells #[.int .i64 0, .string (⟨#[]⟩), .int .i64 0, .slice none 0 0] 24)) := by unfold oA7_3_5; go_simp
  have B210 := Blk.new w208 24 #[.int .i64 0, .string (⟨#[]⟩), .int .i64 0, .slice none 0 0]
  obtain ⟨w211, hw⟩ : ∃ x, x = w208.alloc (.cells #[.int .i64 0, .string (⟨#[]⟩), .int .i64 0, .slice none 0 0] 24) := ⟨_, rfl⟩; rw [← hw] at Y B210
  obtain ⟨b210, hb⟩ : ∃ x, x = w208.heap.size := ⟨_, rfl⟩; rw [← hb] at Y B210
  have Nb192_b210 := nb_ hb B192; replace B192 := ba_ hw B192; have Nb195_b210 := nb_ hb B195; replace B195 := ba_ hw B195; have Nb205_b210 := nb_ hb B205; replace B205 := ba_ hw B205; have LK1_b210 := lk_ hb K1; replace K1 := ka_ hw K1; have LKXT_b210 := lk_ hb KXT; replace KXT := ka_ hw KXT; clear hw hb
  refine sv_ gA7_3_5 Y fun a212 e => ?_; clear Y
  have h7 := pt_ F e; replace F := pu_ F e; replace h29 := so_ e h29; clear e
  obtain ⟨w213, Y, hk, hB⟩ := ys4_ (o := oA7_3_6) rfl h7 h29 B210
  replace K1 := kx_ hk K1 (Nat.not_lt.2 LK1_b210); replace KXT := kx_ hk KXT (Nat.not_lt.2 LKXT_b210); replace B192 := bx_ hk B192 Nb192_b210; replace B195 := bx_ hk B195 Nb195_b210; replace B205 := bx_ hk B205 Nb205_b210; clear B210; have B210 := hB; clear hB hk
  refine st_skip gA7_3_6 rfl (wanted_free rfl) Y ?_; clear Y
  refine st_end ?_
  replace h0 := F.of h0; replace h4 := F.of h4; replace h5 := F.of h5; replace h6 := F.of h6; clear h24; clear h29; have R := F.r; clear F
  change (cA7_12).wp _ _ _ _
  refine wp_seq (x := cA7_13) (y := cA7_14) ?_
  change (Code.region 4 OA7_4 false).wp _ _ _ _
  refine reg_in (l := [0, 1, 2, 3, 4, 5, 6, 7, 8, 9]) rfl ?_
  have F : FE_ _ [] a212 a212 := ⟨R, Ag_.refl _⟩; clear R
  refine sv_ gA7_4_0 (yl4_ rfl (F.of h7) B210) fun a214 e => ?_
  have h31 := pt_ F e; replace F := pu_ F e; clear e
  have hca := eval_bal (HXT.out.on KXT) HE0.out
  refine st_call gA7_4_1 rfl (wanted_free rfl) (yc1_ enA7_10 rfl h31) ((hca).mono ?_)
  rintro e9 w215 ⟨ae0, ce0, rfl, hx, kk⟩
  replace K1 := keep_onto K1 kk
  replace KXT := keep_onto KXT kk
  replace B192 := blk_on B192 kk
  replace B195 := blk_on B195 kk
  replace B205 := blk_on B205 kk
  replace B210 := blk_on B210 kk
  clear kk
  have HXe0 := Lib.hid hx.at_; clear hx hca
  have KXe0 := Keep.refl (fun g => g < w215.heap.size) w215
  refine ⟨_, rfl, fun a216 e => ?_⟩
  clear h31; have h32 := pt_ F e; replace F := pu_ F e; clear e
  refine sv_ gA7_4_2 (ym_ rfl h32) fun a217 e => ?_
  clear h32; have h30 := pt_ F e; replace F := pu_ F e; clear e
  refine sv_ gA7_4_3 (ye30_ rfl h30) fun a218 e => ?_
  have h33 := pt_ F e; replace F := pu_ F e; replace h30 := so_ e h30; clear e
  refine sv_ gA7_4_4 (ye31_ rfl h30) fun a219 e => ?_
  have h34 := pt_ F e; replace F := pu_ F e; replace h30 := so_ e h30; replace h33 := so_ e h33; clear e
  refine sv_ gA7_4_5 (ye32_ rfl h30) fun a220 e => ?_
  clear h30; have h35 := pt_ F e; replace F := pu_ F e; replace h33 := so_ e h33; replace h34 := so_ e h34; clear e
  have Y : (execOp a220.eval oA7_4_6).run Try.prog w215 = .ok (.value (.pointer (some ⟨w215.heap.size, 0, none⟩))) (w215.alloc (.cells #[.int .i64 0, .string (⟨#[]⟩), .int .i64 0, .slice none 0 0] 24)) := by unfold oA7_4_6; go_simp
  have B221 := Blk.new w215 24 #[.int .i64 0, .string (⟨#[]⟩), .int .i64 0, .slice none 0 0]
  obtain ⟨w222, hw⟩ : ∃ x, x = w215.alloc (.cells #[.int .i64 0, .string (⟨#[]⟩), .int .i64 0, .slice none 0 0] 24) := ⟨_, rfl⟩; rw [← hw] at Y B221
  obtain ⟨b221, hb⟩ : ∃ x, x = w215.heap.size := ⟨_, rfl⟩; rw [← hb] at Y B221
  have Nb192_b221 := nb_ hb B192; replace B192 := ba_ hw B192; have Nb195_b221 := nb_ hb B195; replace B195 := ba_ hw B195; have Nb205_b221 := nb_ hb B205; replace B205 := ba_ hw B205; have Nb210_b221 := nb_ hb B210; replace B210 := ba_ hw B210; have LK1_b221 := lk_ hb K1; replace K1 := ka_ hw K1; have LKXT_b221 := lk_ hb KXT; replace KXT := ka_ hw KXT; have LKXe0_b221 := lk_ hb KXe0; replace KXe0 := ka_ hw KXe0; clear hw hb
  refine sv_ gA7_4_6 Y fun a223 e => ?_; clear Y
  have h9 := pt_ F e; replace F := pu_ F e; replace h33 := so_ e h33; replace h34 := so_ e h34; replace h35 := so_ e h35; clear e
  refine sv_ gA7_4_7 (ya_ rfl h33) fun a224 e => ?_
  clear h33; have h8 := pt_ F e; replace F := pu_ F e; replace h9 := so_ e h9; replace h34 := so_ e h34; replace h35 := so_ e h35; clear e
  obtain ⟨w225, Y, hk, hB⟩ := ys4_ (o := oA7_4_8) rfl h9 h34 B221
  replace K1 := kx_ hk K1 (Nat.not_lt.2 LK1_b221); replace KXT := kx_ hk KXT (Nat.not_lt.2 LKXT_b221); replace KXe0 := kx_ hk KXe0 (Nat.not_lt.2 LKXe0_b221); replace B192 := bx_ hk B192 Nb192_b221; replace B195 := bx_ hk B195 Nb195_b221; replace B205 := bx_ hk B205 Nb205_b221; replace B210 := bx_ hk B210 Nb210_b221; clear B221; have B221 := hB; clear hB hk
  refine st_skip gA7_4_8 rfl (wanted_free rfl) Y ?_; clear Y
  refine sv_ gA7_4_9 (ya_ rfl h35) fun a226 e => ?_
  clear h34 h35; have h10 := pt_ F e; replace F := pu_ F e; replace h8 := so_ e h8; replace h9 := so_ e h9; clear e
  refine st_end ?_
  replace h0 := F.of h0; replace h4 := F.of h4; replace h5 := F.of h5; replace h6 := F.of h6; replace h7 := F.of h7; have R := F.r; clear F
  change (cA7_14).wp _ _ _ _
  refine wp_seq (x := cA7_15) (y := cA7_16) ?_
  change (Code.region 5 OA7_5 false).wp _ _ _ _
  refine reg_in (l := [0, 1, 2, 3, 4, 5, 6, 7, 8, 9]) rfl ?_
  have F : FE_ _ [] a226 a226 := ⟨R, Ag_.refl _⟩; clear R
  refine sv_ gA7_5_0 (yl4_ rfl (F.of h4) B192) fun a227 e => ?_
  have h37 := pt_ F e; replace F := pu_ F e; clear e
  have hca := eval_bal (HTa.out.on K1) HEa.out
  refine st_call gA7_5_1 rfl (wanted_free rfl) (yc1_ enA7_10 rfl h37) ((hca).mono ?_)
  rintro e9 w228 ⟨aea, cea, rfl, hx, kk⟩
  replace K1 := keep_onto K1 kk
  replace KXT := keep_onto KXT kk
  replace KXe0 := keep_onto KXe0 kk
  replace B192 := blk_on B192 kk
  replace B195 := blk_on B195 kk
  replace B205 := blk_on B205 kk
  replace B210 := blk_on B210 kk
  replace B221 := blk_on B221 kk
  clear kk
  have HXea := Lib.hid hx.at_; clear hx hca
  have KXea := Keep.refl (fun g => g < w228.heap.size) w228
  refine ⟨_, rfl, fun a229 e => ?_⟩
  clear h37; have h38 := pt_ F e; replace F := pu_ F e; clear e
  refine sv_ gA7_5_2 (ym_ rfl h38) fun a230 e => ?_
  clear h38; have h36 := pt_ F e; replace F := pu_ F e; clear e
  refine sv_ gA7_5_3 (ye30_ rfl h36) fun a231 e => ?_
  have h39 := pt_ F e; replace F := pu_ F e; replace h36 := so_ e h36; clear e
  refine sv_ gA7_5_4 (ye31_ rfl h36) fun a232 e => ?_
  have h40 := pt_ F e; replace F := pu_ F e; replace h36 := so_ e h36; replace h39 := so_ e h39; clear e
  refine sv_ gA7_5_5 (ye32_ rfl h36) fun a233 e => ?_
  clear h36; have h41 := pt_ F e; replace F := pu_ F e; replace h39 := so_ e h39; replace h40 := so_ e h40; clear e
  have Y : (execOp a233.eval oA7_5_6).run Try.prog w228 = .ok (.value (.pointer (some ⟨w228.heap.size, 0, none⟩))) (w228.alloc (.cells #[.int .i64 0, .string (⟨#[]⟩), .int .i64 0, .slice none 0 0] 24)) := by unfold oA7_5_6; go_simp
  have B234 := Blk.new w228 24 #[.int .i64 0, .string (⟨#[]⟩), .int .i64 0, .slice none 0 0]
  obtain ⟨w235, hw⟩ : ∃ x, x = w228.alloc (.cells #[.int .i64 0, .string (⟨#[]⟩), .int .i64 0, .slice none 0 0] 24) := ⟨_, rfl⟩; rw [← hw] at Y B234
  obtain ⟨b234, hb⟩ : ∃ x, x = w228.heap.size := ⟨_, rfl⟩; rw [← hb] at Y B234
  have Nb192_b234 := nb_ hb B192; replace B192 := ba_ hw B192; have Nb195_b234 := nb_ hb B195; replace B195 := ba_ hw B195; have Nb205_b234 := nb_ hb B205; replace B205 := ba_ hw B205; have Nb210_b234 := nb_ hb B210; replace B210 := ba_ hw B210; have Nb221_b234 := nb_ hb B221; replace B221 := ba_ hw B221; have LK1_b234 := lk_ hb K1; replace K1 := ka_ hw K1; have LKXT_b234 := lk_ hb KXT; replace KXT := ka_ hw KXT; have LKXe0_b234 := lk_ hb KXe0; replace KXe0 := ka_ hw KXe0; have LKXea_b234 := lk_ hb KXea; replace KXea := ka_ hw KXea; clear hw hb
  refine sv_ gA7_5_6 Y fun a236 e => ?_; clear Y
  have h12 := pt_ F e; replace F := pu_ F e; replace h39 := so_ e h39; replace h40 := so_ e h40; replace h41 := so_ e h41; clear e
  refine sv_ gA7_5_7 (ya_ rfl h39) fun a237 e => ?_
  clear h39; have h11 := pt_ F e; replace F := pu_ F e; replace h12 := so_ e h12; replace h40 := so_ e h40; replace h41 := so_ e h41; clear e
  obtain ⟨w238, Y, hk, hB⟩ := ys4_ (o := oA7_5_8) rfl h12 h40 B234
  replace K1 := kx_ hk K1 (Nat.not_lt.2 LK1_b234); replace KXT := kx_ hk KXT (Nat.not_lt.2 LKXT_b234); replace KXe0 := kx_ hk KXe0 (Nat.not_lt.2 LKXe0_b234); replace KXea := kx_ hk KXea (Nat.not_lt.2 LKXea_b234); replace B192 := bx_ hk B192 Nb192_b234; replace B195 := bx_ hk B195 Nb195_b234; replace B205 := bx_ hk B205 Nb205_b234; replace B210 := bx_ hk B210 Nb210_b234; replace B221 := bx_ hk B221 Nb221_b234; clear B234; have B234 := hB; clear hB hk
  refine st_skip gA7_5_8 rfl (wanted_free rfl) Y ?_; clear Y
  refine sv_ gA7_5_9 (ya_ rfl h41) fun a239 e => ?_
  clear h40 h41; have h13 := pt_ F e; replace F := pu_ F e; replace h11 := so_ e h11; replace h12 := so_ e h12; clear e
  refine st_end ?_
  replace h0 := F.of h0; clear h4; replace h5 := F.of h5; replace h6 := F.of h6; replace h7 := F.of h7; replace h8 := F.of h8; replace h9 := F.of h9; replace h10 := F.of h10; have R := F.r; clear F
  change (cA7_16).wp _ _ _ _
  refine wp_seq (x := cA7_17) (y := cA7_18) ?_
  change (Code.region 6 OA7_6 false).wp _ _ _ _
  refine reg_in (l := [0, 1, 2, 3, 4, 5, 6, 7, 8, 9]) rfl ?_
  have F : FE_ _ [] a239 a239 := ⟨R, Ag_.refl _⟩; clear R
  refine sv_ gA7_6_0 (yl4_ rfl (F.of h5) B195) fun a240 e => ?_
  have h43 := pt_ F e; replace F := pu_ F e; clear e
  have hca := eval_gen (HTb.out.on K1)
  refine st_call gA7_6_1 rfl (wanted_free rfl) (yc1_ enA7_10 rfl h43) ((hca).mono ?_)
  rintro e9 w241 ⟨aeb, ceb, rfl, hx, kk⟩
  replace K1 := keep_onto K1 kk
  replace KXT := keep_onto KXT kk
  replace KXe0 := keep_onto KXe0 kk
  replace KXea := keep_onto KXea kk
  replace B192 := blk_on B192 kk
  replace B195 := blk_on B195 kk
  replace B205 := blk_on B205 kk
  replace B210 := blk_on B210 kk
  replace B221 := blk_on B221 kk
  replace B234 := blk_on B234 kk
  clear kk
  have HXeb := Lib.hid hx.at_; clear hx hca
  have KXeb := Keep.refl (fun g => g < w241.heap.size) w241
  refine ⟨_, rfl, fun a242 e => ?_⟩
  clear h43; have h44 := pt_ F e; replace F := pu_ F e; clear e
  refine sv_ gA7_6_2 (ym_ rfl h44) fun a243 e => ?_
  clear h44; have h42 := pt_ F e; replace F := pu_ F e; clear e
  refine sv_ gA7_6_3 (ye30_ rfl h42) fun a244 e => ?_
  have h45 := pt_ F e; replace F := pu_ F e; replace h42 := so_ e h42; clear e
  refine sv_ gA7_6_4 (ye31_ rfl h42) fun a245 e => ?_
  have h46 := pt_ F e; replace F := pu_ F e; replace h42 := so_ e h42; replace h45 := so_ e h45; clear e
  refine sv_ gA7_6_5 (ye32_ rfl h42) fun a246 e => ?_
  clear h42; have h47 := pt_ F e; replace F := pu_ F e; replace h45 := so_ e h45; replace h46 := so_ e h46; clear e
  have Y : (execOp a246.eval oA7_6_6).run Try.prog w241 = .ok (.value (.pointer (some ⟨w241.heap.size, 0, none⟩))) (w241.alloc (.cells #[.int .i64 0, .string (⟨#[]⟩), .int .i64 0, .slice none 0 0] 24)) := by unfold oA7_6_6; go_simp
  have B247 := Blk.new w241 24 #[.int .i64 0, .string (⟨#[]⟩), .int .i64 0, .slice none 0 0]
  obtain ⟨w248, hw⟩ : ∃ x, x = w241.alloc (.cells #[.int .i64 0, .string (⟨#[]⟩), .int .i64 0, .slice none 0 0] 24) := ⟨_, rfl⟩; rw [← hw] at Y B247
  obtain ⟨b247, hb⟩ : ∃ x, x = w241.heap.size := ⟨_, rfl⟩; rw [← hb] at Y B247
  have Nb192_b247 := nb_ hb B192; replace B192 := ba_ hw B192; have Nb195_b247 := nb_ hb B195; replace B195 := ba_ hw B195; have Nb205_b247 := nb_ hb B205; replace B205 := ba_ hw B205; have Nb210_b247 := nb_ hb B210; replace B210 := ba_ hw B210; have Nb221_b247 := nb_ hb B221; replace B221 := ba_ hw B221; have Nb234_b247 := nb_ hb B234; replace B234 := ba_ hw B234; have LK1_b247 := lk_ hb K1; replace K1 := ka_ hw K1; have LKXT_b247 := lk_ hb KXT; replace KXT := ka_ hw KXT; have LKXe0_b247 := lk_ hb KXe0; replace KXe0 := ka_ hw KXe0; have LKXea_b247 := lk_ hb KXea; replace KXea := ka_ hw KXea; have LKXeb_b247 := lk_ hb KXeb; replace KXeb := ka_ hw KXeb; clear hw hb
  refine sv_ gA7_6_6 Y fun a249 e => ?_; clear Y
  have h15 := pt_ F e; replace F := pu_ F e; replace h45 := so_ e h45; replace h46 := so_ e h46; replace h47 := so_ e h47; clear e
  refine sv_ gA7_6_7 (ya_ rfl h45) fun a250 e => ?_
  clear h45; have h14 := pt_ F e; replace F := pu_ F e; replace h15 := so_ e h15; replace h46 := so_ e h46; replace h47 := so_ e h47; clear e
  obtain ⟨w251, Y, hk, hB⟩ := ys4_ (o := oA7_6_8) rfl h15 h46 B247
  replace K1 := kx_ hk K1 (Nat.not_lt.2 LK1_b247); replace KXT := kx_ hk KXT (Nat.not_lt.2 LKXT_b247); replace KXe0 := kx_ hk KXe0 (Nat.not_lt.2 LKXe0_b247); replace KXea := kx_ hk KXea (Nat.not_lt.2 LKXea_b247); replace KXeb := kx_ hk KXeb (Nat.not_lt.2 LKXeb_b247); replace B192 := bx_ hk B192 Nb192_b247; replace B195 := bx_ hk B195 Nb195_b247; replace B205 := bx_ hk B205 Nb205_b247; replace B210 := bx_ hk B210 Nb210_b247; replace B221 := bx_ hk B221 Nb221_b247; replace B234 := bx_ hk B234 Nb234_b247; clear B247; have B247 := hB; clear hB hk
  refine st_skip gA7_6_8 rfl (wanted_free rfl) Y ?_; clear Y
  refine sv_ gA7_6_9 (ya_ rfl h47) fun a252 e => ?_
  clear h46 h47; have h16 := pt_ F e; replace F := pu_ F e; replace h14 := so_ e h14; replace h15 := so_ e h15; clear e
  refine st_end ?_
  replace h0 := F.of h0; clear h5; replace h6 := F.of h6; replace h7 := F.of h7; replace h8 := F.of h8; replace h9 := F.of h9; replace h10 := F.of h10; replace h11 := F.of h11; replace h12 := F.of h12; replace h13 := F.of h13; have R := F.r; clear F
  change (cA7_18).wp _ _ _ _
  refine wp_seq (x := cA7_19) (y := cA7_26) ?_
  refine wp_seq (x := cA7_20) (y := cA7_21) ?_
  change (Code.region 7 OA7_7 false).wp _ _ _ _
  refine reg_in (l := [0, 1, 2]) rfl ?_
  have F : FE_ _ [] a252 a252 := ⟨R, Ag_.refl _⟩; clear R
  refine sv_ gA7_7_0 (yl4_ rfl (F.of h7) B210) fun a253 e => ?_
  have h48 := pt_ F e; replace F := pu_ F e; clear e
  refine st_call gA7_7_1 rfl (wanted_free rfl) (yc1_ enA7_11 rfl h48) ((right_is (HXT.out.on KXT) HR.out).mono ?_)
  rintro e9 w254 ⟨rfl, kk⟩
  replace K1 := keep_onto K1 kk
  replace KXT := keep_onto KXT kk
  replace KXe0 := keep_onto KXe0 kk
  replace KXea := keep_onto KXea kk
  replace KXeb := keep_onto KXeb kk
  replace B192 := blk_on B192 kk
  replace B195 := blk_on B195 kk
  replace B205 := blk_on B205 kk
  replace B210 := blk_on B210 kk
  replace B221 := blk_on B221 kk
  replace B234 := blk_on B234 kk
  replace B247 := blk_on B247 kk
  clear kk
  refine ⟨_, rfl, fun a255 e => ?_⟩
  clear h48; have h49 := pt_ F e; replace F := pu_ F e; clear e
  have Y : (execOp a255.eval oA7_7_2).run Try.prog w254 = .ok (.value (.bool false)) w254 := by unfold oA7_7_2; go_simp
  refine sv_ gA7_7_2 Y fun a256 e => ?_; clear Y
  clear h49; have h50 := pt_ F e; replace F := pu_ F e; clear e
  refine st_end ?_
  replace h0 := F.of h0; replace h6 := F.of h6; clear h7; replace h8 := F.of h8; replace h9 := F.of h9; replace h10 := F.of h10; replace h11 := F.of h11; replace h12 := F.of h12; replace h13 := F.of h13; replace h14 := F.of h14; replace h15 := F.of h15; replace h16 := F.of h16; have R := F.r; clear F
  change (cA7_21).wp _ _ _ _
  refine wp_cond_false (x := cA7_22) (y := Code.skip) (eval_slot h50) ?_
  refine wp_skip ?_
  change (cA7_26).wp _ _ _ _
  refine wp_seq (x := cA7_27) (y := cA7_28) ?_
  change (Code.region 9 OA7_9 false).wp _ _ _ _
  refine reg_in (l := [0, 1, 2, 3, 4, 5, 6, 7, 8, 9, 10]) rfl ?_
  have F : FE_ _ [] a256 a256 := ⟨R, Ag_.refl _⟩; clear R
  refine sv_ gA7_9_0 (ym_ rfl (F.of h0)) fun a257 e => ?_
  have h59 := pt_ F e; replace F := pu_ F e; clear e
  have Y : (execOp a257.eval oA7_9_1).run Try.prog w254 = .ok (.enter 14 #[.string (str nm), .int .i64 1, .int .i64 1]) w254 := by unfold oA7_9_1; go_simp
  refine st_call gA7_9_1 rfl (wanted_free rfl) Y ((opT_any (W := w254) (nm := nm) (i := 1) (k := 1) HNM.out (by decide) (by decide)).mono ?_); clear Y
  rintro e9 w258 ⟨ao, co, rfl, hx, kk⟩
  replace K1 := keep_onto K1 kk
  replace KXT := keep_onto KXT kk
  replace KXe0 := keep_onto KXe0 kk
  replace KXea := keep_onto KXea kk
  replace KXeb := keep_onto KXeb kk
  replace B192 := blk_on B192 kk
  replace B195 := blk_on B195 kk
  replace B205 := blk_on B205 kk
  replace B210 := blk_on B210 kk
  replace B221 := blk_on B221 kk
  replace B234 := blk_on B234 kk
  replace B247 := blk_on B247 kk
  clear kk
  have HXo := Lib.hid hx.at_; clear hx
  have KXo := Keep.refl (fun g => g < w258.heap.size) w258
  refine ⟨_, rfl, fun a259 e => ?_⟩
  clear h59; have h60 := pt_ F e; replace F := pu_ F e; clear e
  have hca := eval_numI (HXo.out.on KXo) HE1.out
  refine st_call gA7_9_2 rfl (wanted_free rfl) (yc1_ enA7_10 rfl h60) ((hca).mono ?_)
  rintro e9 w260 ⟨aow, cow, rfl, hin, hx, kk⟩
  replace K1 := keep_onto K1 kk
  replace KXT := keep_onto KXT kk
  replace KXe0 := keep_onto KXe0 kk
  replace KXea := keep_onto KXea kk
  replace KXeb := keep_onto KXeb kk
  replace KXo := keep_onto KXo kk
  replace B192 := blk_on B192 kk
  replace B195 := blk_on B195 kk
  replace B205 := blk_on B205 kk
  replace B210 := blk_on B210 kk
  replace B221 := blk_on B221 kk
  replace B234 := blk_on B234 kk
  replace B247 := blk_on B247 kk
  clear kk
  have HXow := Lib.hid hx.at_; clear hx hca; have HIow := Lib.hid hin; clear hin
  have KXow := Keep.refl (fun g => g < w260.heap.size) w260
  refine ⟨_, rfl, fun a261 e => ?_⟩
  clear h60; have h61 := pt_ F e; replace F := pu_ F e; clear e
  refine sv_ gA7_9_3 (ym_ rfl h61) fun a262 e => ?_
  clear h61; have h58 := pt_ F e; replace F := pu_ F e; clear e
  refine sv_ gA7_9_4 (ye30_ rfl h58) fun a263 e => ?_
  have h62 := pt_ F e; replace F := pu_ F e; replace h58 := so_ e h58; clear e
  refine sv_ gA7_9_5 (ye31_ rfl h58) fun a264 e => ?_
  have h63 := pt_ F e; replace F := pu_ F e; replace h58 := so_ e h58; replace h62 := so_ e h62; clear e
  refine sv_ gA7_9_6 (ye32_ rfl h58) fun a265 e => ?_
  clear h58; have h64 := pt_ F e; replace F := pu_ F e; replace h62 := so_ e h62; replace h63 := so_ e h63; clear e
  have Y : (execOp a265.eval oA7_9_7).run Try.prog w260 = .ok (.value (.pointer (some ⟨w260.heap.size, 0, none⟩))) (w260.alloc (.cells #[.int .i64 0, .string (⟨#[]⟩), .int .i64 0, .slice none 0 0] 24)) := by unfold oA7_9_7; go_simp
  have B266 := Blk.new w260 24 #[.int .i64 0, .string (⟨#[]⟩), .int .i64 0, .slice none 0 0]
  obtain ⟨w267, hw⟩ : ∃ x, x = w260.alloc (.cells #[.int .i64 0, .string (⟨#[]⟩), .int .i64 0, .slice none 0 0] 24) := ⟨_, rfl⟩; rw [← hw] at Y B266
  obtain ⟨b266, hb⟩ : ∃ x, x = w260.heap.size := ⟨_, rfl⟩; rw [← hb] at Y B266
  have Nb192_b266 := nb_ hb B192; replace B192 := ba_ hw B192; have Nb195_b266 := nb_ hb B195; replace B195 := ba_ hw B195; have Nb205_b266 := nb_ hb B205; replace B205 := ba_ hw B205; have Nb210_b266 := nb_ hb B210; replace B210 := ba_ hw B210; have Nb221_b266 := nb_ hb B221; replace B221 := ba_ hw B221; have Nb234_b266 := nb_ hb B234; replace B234 := ba_ hw B234; have Nb247_b266 := nb_ hb B247; replace B247 := ba_ hw B247; have LK1_b266 := lk_ hb K1; replace K1 := ka_ hw K1; have LKXT_b266 := lk_ hb KXT; replace KXT := ka_ hw KXT; have LKXe0_b266 := lk_ hb KXe0; replace KXe0 := ka_ hw KXe0; have LKXea_b266 := lk_ hb KXea; replace KXea := ka_ hw KXea; have LKXeb_b266 := lk_ hb KXeb; replace KXeb := ka_ hw KXeb; have LKXo_b266 := lk_ hb KXo; replace KXo := ka_ hw KXo; have LKXow_b266 := lk_ hb KXow; replace KXow := ka_ hw KXow; clear hw hb
  refine sv_ gA7_9_7 Y fun a268 e => ?_; clear Y
  have h18 := pt_ F e; replace F := pu_ F e; replace h62 := so_ e h62; replace h63 := so_ e h63; replace h64 := so_ e h64; clear e
  refine sv_ gA7_9_8 (ya_ rfl h62) fun a269 e => ?_
  clear h62; have h17 := pt_ F e; replace F := pu_ F e; replace h18 := so_ e h18; replace h63 := so_ e h63; replace h64 := so_ e h64; clear e
  obtain ⟨w270, Y, hk, hB⟩ := ys4_ (o := oA7_9_9) rfl h18 h63 B266
  replace K1 := kx_ hk K1 (Nat.not_lt.2 LK1_b266); replace KXT := kx_ hk KXT (Nat.not_lt.2 LKXT_b266); replace KXe0 := kx_ hk KXe0 (Nat.not_lt.2 LKXe0_b266); replace KXea := kx_ hk KXea (Nat.not_lt.2 LKXea_b266); replace KXeb := kx_ hk KXeb (Nat.not_lt.2 LKXeb_b266); replace KXo := kx_ hk KXo (Nat.not_lt.2 LKXo_b266); replace KXow := kx_ hk KXow (Nat.not_lt.2 LKXow_b266); replace B192 := bx_ hk B192 Nb192_b266; replace B195 := bx_ hk B195 Nb195_b266; replace B205 := bx_ hk B205 Nb205_b266; replace B210 := bx_ hk B210 Nb210_b266; replace B221 := bx_ hk B221 Nb221_b266; replace B234 := bx_ hk B234 Nb234_b266; replace B247 := bx_ hk B247 Nb247_b266; clear B266; have B266 := hB; clear hB hk
  refine st_skip gA7_9_9 rfl (wanted_free rfl) Y ?_; clear Y
  refine sv_ gA7_9_10 (ya_ rfl h64) fun a271 e => ?_
  clear h63 h64; have h19 := pt_ F e; replace F := pu_ F e; replace h17 := so_ e h17; replace h18 := so_ e h18; clear e
  refine st_end ?_
  replace h0 := F.of h0; replace h6 := F.of h6; replace h8 := F.of h8; replace h9 := F.of h9; replace h10 := F.of h10; replace h11 := F.of h11; replace h12 := F.of h12; replace h13 := F.of h13; replace h14 := F.of h14; replace h15 := F.of h15; replace h16 := F.of h16; clear h50; have R := F.r; clear F
  change (cA7_28).wp _ _ _ _
  refine wp_seq (x := cA7_29) (y := cA7_36) ?_
  refine wp_seq (x := cA7_30) (y := cA7_31) ?_
  change (Code.region 10 OA7_10 false).wp _ _ _ _
  refine reg_in (l := [0, 1, 2, 3, 4, 5, 6, 7, 8, 9, 10, 11, 12, 13, 14, 15, 16, 17, 18, 19, 20]) rfl ?_
  have F : FE_ _ [] a271 a271 := ⟨R, Ag_.refl _⟩; clear R
  refine sv_ gA7_10_0 (ym_ rfl (F.of h19)) fun a272 e => ?_
  have h65 := pt_ F e; replace F := pu_ F e; clear e
  have Y : (execOp a272.eval oA7_10_1).run Try.prog w270 = .ok (.value (.bool false)) w270 := by unfold oA7_10_1; go_simp
  refine sv_ gA7_10_1 Y fun a273 e => ?_; clear Y
  clear h65; have h66 := pt_ F e; replace F := pu_ F e; clear e
  refine sv_ gA7_10_2 (ym_ rfl h66) fun a274 e => ?_
  clear h66; have h67 := pt_ F e; replace F := pu_ F e; clear e
  refine st_not gA7_10_3 rfl (wanted_is (j := 2) (d := 67) rfl rfl h67 rfl) fun a275 e => ?_
  have h68 := pt_ F e; replace F := pu_ F e; replace h67 := so_ e h67; clear e
  refine st_not gA7_10_4 rfl (wanted_is (j := 2) (d := 67) rfl rfl h67 rfl) fun a276 e => ?_
  clear h68; have h69 := pt_ F e; replace F := pu_ F e; replace h67 := so_ e h67; clear e
  refine st_not gA7_10_5 rfl (wanted_is (j := 2) (d := 67) rfl rfl h67 rfl) fun a277 e => ?_
  clear h69; have h70 := pt_ F e; replace F := pu_ F e; replace h67 := so_ e h67; clear e
  have Y : (execOp a277.eval oA7_10_6).run Try.prog w270 = .ok (.value (.bool false)) w270 := by unfold oA7_10_6; go_simp
  refine sv_ gA7_10_6 Y fun a278 e => ?_; clear Y
  clear h67 h70; have h71 := pt_ F e; replace F := pu_ F e; clear e
  refine sv_ gA7_10_7 (ym_ rfl h71) fun a279 e => ?_
  clear h71; have h72 := pt_ F e; replace F := pu_ F e; clear e
  refine st_not gA7_10_8 rfl (wanted_is (j := 7) (d := 72) rfl rfl h72 rfl) fun a280 e => ?_
  have h73 := pt_ F e; replace F := pu_ F e; replace h72 := so_ e h72; clear e
  refine st_not gA7_10_9 rfl (wanted_is (j := 7) (d := 72) rfl rfl h72 rfl) fun a281 e => ?_
  clear h73; have h74 := pt_ F e; replace F := pu_ F e; replace h72 := so_ e h72; clear e
  refine st_not gA7_10_10 rfl (wanted_is (j := 7) (d := 72) rfl rfl h72 rfl) fun a282 e => ?_
  clear h74; have h75 := pt_ F e; replace F := pu_ F e; replace h72 := so_ e h72; clear e
  refine st_not gA7_10_11 rfl (wanted_is (j := 7) (d := 72) rfl rfl h72 rfl) fun a283 e => ?_
  clear h75; have h76 := pt_ F e; replace F := pu_ F e; replace h72 := so_ e h72; clear e
  have Y : (execOp a283.eval oA7_10_12).run Try.prog w270 = .ok (.value (.bool false)) w270 := by unfold oA7_10_12; go_simp
  refine sv_ gA7_10_12 Y fun a284 e => ?_; clear Y
  clear h72 h76; have h77 := pt_ F e; replace F := pu_ F e; clear e
  refine sv_ gA7_10_13 (ym_ rfl h77) fun a285 e => ?_
  clear h77; have h78 := pt_ F e; replace F := pu_ F e; clear e
  refine st_not gA7_10_14 rfl (wanted_is (j := 13) (d := 78) rfl rfl h78 rfl) fun a286 e => ?_
  have h79 := pt_ F e; replace F := pu_ F e; replace h78 := so_ e h78; clear e
  refine st_not gA7_10_15 rfl (wanted_is (j := 13) (d := 78) rfl rfl h78 rfl) fun a287 e => ?_
  clear h79; have h80 := pt_ F e; replace F := pu_ F e; replace h78 := so_ e h78; clear e
  refine st_not gA7_10_16 rfl (wanted_is (j := 13) (d := 78) rfl rfl h78 rfl) fun a288 e => ?_
  clear h80; have h81 := pt_ F e; replace F := pu_ F e; replace h78 := so_ e h78; clear e
  refine st_not gA7_10_17 rfl (wanted_is (j := 13) (d := 78) rfl rfl h78 rfl) fun a289 e => ?_
  clear h81; have h82 := pt_ F e; replace F := pu_ F e; replace h78 := so_ e h78; clear e
  refine st_not gA7_10_18 rfl (wanted_is (j := 13) (d := 78) rfl rfl h78 rfl) fun a290 e => ?_
  clear h82; have h83 := pt_ F e; replace F := pu_ F e; replace h78 := so_ e h78; clear e
  refine st_not gA7_10_19 rfl (wanted_is (j := 13) (d := 78) rfl rfl h78 rfl) fun a291 e => ?_
  clear h83; have h84 := pt_ F e; replace F := pu_ F e; replace h78 := so_ e h78; clear e
  have Y : (execOp a291.eval oA7_10_20).run Try.prog w270 = .ok (.value (.bool false)) w270 := by unfold oA7_10_20; go_simp
  refine sv_ gA7_10_20 Y fun a292 e => ?_; clear Y
  clear h78 h84; have h85 := pt_ F e; replace F := pu_ F e; clear e
  refine st_end ?_
  replace h0 := F.of h0; replace h6 := F.of h6; replace h8 := F.of h8; replace h9 := F.of h9; replace h10 := F.of h10; replace h11 := F.of h11; replace h12 := F.of h12; replace h13 := F.of h13; replace h14 := F.of h14; replace h15 := F.of h15; replace h16 := F.of h16; replace h17 := F.of h17; replace h18 := F.of h18; clear h19; have R := F.r; clear F
  change (cA7_31).wp _ _ _ _
  refine wp_cond_false (x := cA7_32) (y := Code.skip) (eval_slot h85) ?_
  refine wp_skip ?_
  change (cA7_36).wp _ _ _ _
  refine wp_seq (x := cA7_37) (y := cA7_44) ?_
  refine wp_seq (x := cA7_38) (y := cA7_39) ?_
  change (Code.region 12 OA7_12 false).wp _ _ _ _
  refine reg_in (l := [0, 1]) rfl ?_
  have F : FE_ _ [] a292 a292 := ⟨R, Ag_.refl _⟩; clear R
  refine sv_ gA7_12_0 (ym_ rfl (F.of h13)) fun a293 e => ?_
  have h101 := pt_ F e; replace F := pu_ F e; clear e
  have Y : (execOp a293.eval oA7_12_1).run Try.prog w270 = .ok (.value (.bool true)) w270 := by unfold oA7_12_1; go_simp
  refine sv_ gA7_12_1 Y fun a294 e => ?_; clear Y
  clear h101; have h102 := pt_ F e; replace F := pu_ F e; clear e
  refine st_end ?_
  replace h0 := F.of h0; replace h6 := F.of h6; replace h8 := F.of h8; replace h9 := F.of h9; replace h10 := F.of h10; replace h11 := F.of h11; replace h12 := F.of h12; clear h13; replace h14 := F.of h14; replace h15 := F.of h15; replace h16 := F.of h16; clear h17; clear h18; clear h85; have R := F.r; clear F
  change (cA7_39).wp _ _ _ _
  refine wp_cond_true (x := cA7_40) (y := Code.skip) (eval_slot h102) ?_
  refine wp_seq (x := cA7_41) (y := Code.ret) ?_
  change (Code.region 13 OA7_13 false).wp _ _ _ _
  refine reg_in (l := [0, 1, 2, 3, 4, 5, 6, 7, 8, 9, 10, 11]) rfl ?_
  have F : FE_ _ [] a294 a294 := ⟨R, Ag_.refl _⟩; clear R
  refine sv_ gA7_13_0 (ym_ rfl (F.of h10)) fun a295 e => ?_
  have h103 := pt_ F e; replace F := pu_ F e; clear e
  have Y : (execOp a295.eval oA7_13_1).run Try.prog w270 = .ok (.value (.bool true)) w270 := by unfold oA7_13_1; go_simp
  refine sv_ gA7_13_1 Y fun a296 e => ?_; clear Y
  clear h103; have h104 := pt_ F e; replace F := pu_ F e; clear e
  refine sv_ gA7_13_2 (ym_ rfl h104) fun a297 e => ?_
  clear h104; have h105 := pt_ F e; replace F := pu_ F e; clear e
  refine st_val gA7_13_3 rfl (wanted_is (j := 2) (d := 105) rfl rfl h105 rfl) (ym_ rfl (F.of h8)) fun a298 e => ?_
  have h106 := pt_ F e; replace F := pu_ F e; replace h105 := so_ e h105; clear e
  have Y : (execOp a298.eval oA7_13_4).run Try.prog w270 = .ok (.value (.bool true)) w270 := by unfold oA7_13_4; go_simp
  refine st_val gA7_13_4 rfl (wanted_is (j := 2) (d := 105) rfl rfl h105 rfl) Y fun a299 e => ?_; clear Y
  clear h106; have h107 := pt_ F e; replace F := pu_ F e; replace h105 := so_ e h105; clear e
  have Y : (execOp a299.eval oA7_13_5).run Try.prog w270 = .ok (.value (.bool true)) w270 := by unfold oA7_13_5; go_simp
  refine sv_ gA7_13_5 Y fun a300 e => ?_; clear Y
  clear h105 h107; have h108 := pt_ F e; replace F := pu_ F e; clear e
  refine sv_ gA7_13_6 (ym_ rfl h108) fun a301 e => ?_
  clear h108; have h109 := pt_ F e; replace F := pu_ F e; clear e
  refine st_val gA7_13_7 rfl (wanted_is (j := 6) (d := 109) rfl rfl h109 rfl) (yl4_ rfl (F.of h9) B221) fun a302 e => ?_
  have h110 := pt_ F e; replace F := pu_ F e; replace h109 := so_ e h109; clear e
  refine st_val gA7_13_8 rfl (wanted_is (j := 6) (d := 109) rfl rfl h109 rfl) (yl4_ rfl (F.of h12) B234) fun a303 e => ?_
  have h111 := pt_ F e; replace F := pu_ F e; replace h109 := so_ e h109; replace h110 := so_ e h110; clear e
  refine st_call gA7_13_9 rfl (wanted_is (j := 6) (d := 109) rfl rfl h109 rfl) (yc2_ enA7_13 rfl h110 h111) ((like_ok (HXe0.out.on KXe0) (HXea.out.on KXea) (balP_refl HP.out)).mono ?_)
  rintro e9 w304 ⟨rfl, kk⟩
  replace K1 := keep_onto K1 kk
  replace KXT := keep_onto KXT kk
  replace KXe0 := keep_onto KXe0 kk
  replace KXea := keep_onto KXea kk
  replace KXeb := keep_onto KXeb kk
  replace KXo := keep_onto KXo kk
  replace KXow := keep_onto KXow kk
  replace B192 := blk_on B192 kk
  replace B195 := blk_on B195 kk
  replace B205 := blk_on B205 kk
  replace B210 := blk_on B210 kk
  replace B221 := blk_on B221 kk
  replace B234 := blk_on B234 kk
  replace B247 := blk_on B247 kk
  replace B266 := blk_on B266 kk
  clear kk
  refine ⟨_, rfl, fun a305 e => ?_⟩
  clear h110 h111; have h112 := pt_ F e; replace F := pu_ F e; replace h109 := so_ e h109; clear e
  have Y : (execOp a305.eval oA7_13_10).run Try.prog w304 = .ok (.value (.bool true)) w304 := by unfold oA7_13_10; go_simp
  refine sv_ gA7_13_10 Y fun a306 e => ?_; clear Y
  clear h109 h112; have h113 := pt_ F e; replace F := pu_ F e; clear e
  refine sv_ gA7_13_11 (ya_ rfl h113) fun a307 e => ?_
  clear h113 h6; have h6 := pt_ F e; replace F := pu_ F e; clear e
  refine st_end ?_
  replace h0 := F.of h0; replace h8 := F.of h8; replace h9 := F.of h9; replace h10 := F.of h10; replace h11 := F.of h11; clear h12; replace h14 := F.of h14; replace h15 := F.of h15; replace h16 := F.of h16; clear h102; have R := F.r; clear F
  change (Code.ret).wp _ _ _ _
  refine wp_ret ?_
  change bodyPost Try.prog Try.f7 (fun e w' => e = .returned (.bool true) ∧ Keep (fun g => g < W.heap.size) W w') .ret a307 w304
  refine ret_one rfl R h6 ?_
  exact ⟨rfl, K1⟩
set_option maxRecDepth 100000 in
set_option maxHeartbeats 4000000 in
theorem deep_r {W : World} {nm : List UInt8} {ta tb bb : Tm} {pa pb : Option Addr} {ca cb : Nat} {v1 xa : Int} {f0 : Act} {w0 : World} (R : FrS 149 f0) (h0 : f0.tmps[0]? = some (.string (str nm))) (h1 : f0.tmps[1]? = some (.agg #[.int .i64 ta.k, .string (str ta.nm), .int .i64 ta.i, .slice pa ta.args.length ca])) (h2 : f0.tmps[2]? = some (.agg #[.int .i64 tb.k, .string (str tb.nm), .int .i64 tb.i, .slice pb tb.args.length cb])) (K1 : Keep (fun g => g < W.heap.size) W w0)  (HTa : Hid (TmAt W.heap.size W ta pa ca)) (HTb : Hid (TmAt W.heap.size W tb pb cb)) (HNM : Hid (nm.length ≤ maxLen)) (HR : Hid ((twoT nm ta tb).right = true)) (HE0 : Hid (evW (twoT nm ta tb) = .bal bb)) (HE1 : Hid (evW (opT nm 1 1) = .num v1)) (HEa : Hid (evW ta = .num xa)) (HEb : Hid (evW tb = .bal bb)) (HP : Hid (bb.k = 0 ∨ bb.ok = true)) : cA7_0.wp Try.prog (bodyPost Try.prog Try.f7 (fun e w' => e = .returned (.bool true) ∧ Keep (fun g => g < W.heap.size) W w')) f0 w0 := by
  refine wp_seq (x := cA7_1) (y := cA7_2) ?_
  change (Code.region 0 OA7_0 false).wp _ _ _ _
  refine reg_in (l := [0, 1, 2]) rfl ?_
  have F : FE_ _ [] f0 f0 := ⟨R, Ag_.refl _⟩; clear R
  have Y : (execOp f0.eval oA7_0_0).run Try.prog w0 = .ok (.value (.pointer (some ⟨w0.heap.size, 0, none⟩))) (w0.alloc (.cells #[.int .i64 ta.k, .string (str ta.nm), .int .i64 ta.i, .slice pa ta.args.length ca] 24)) := by have r1 := F.of h1; unfold oA7_0_0; go_simp
  have B308 := Blk.new w0 24 #[.int .i64 ta.k, .string (str ta.nm), .int .i64 ta.i, .slice pa ta.args.length ca]
  obtain ⟨w309, hw⟩ : ∃ x, x = w0.alloc (.cells #[.int .i64 ta.k, .string (str ta.nm), .int .i64 ta.i, .slice pa ta.args.length ca] 24) := ⟨_, rfl⟩; rw [← hw] at Y B308
  obtain ⟨b308, hb⟩ : ∃ x, x = w0.heap.size := ⟨_, rfl⟩; rw [← hb] at Y B308
  have LK1_b308 := lk_ hb K1; replace K1 := ka_ hw K1; clear hw hb
  refine sv_ gA7_0_0 Y fun a310 e => ?_; clear Y
  have h4 := pt_ F e; replace F := pu_ F e; clear e
  have Y : (execOp a310.eval oA7_0_1).run Try.prog w309 = .ok (.value (.pointer (some ⟨w309.heap.size, 0, none⟩))) (w309.alloc (.cells #[.int .i64 tb.k, .string (str tb.nm), .int .i64 tb.i, .slice pb tb.args.length cb] 24)) := by have r2 := F.of h2; unfold oA7_0_1; go_simp
  have B311 := Blk.new w309 24 #[.int .i64 tb.k, .string (str tb.nm), .int .i64 tb.i, .slice pb tb.args.length cb]
  obtain ⟨w312, hw⟩ : ∃ x, x = w309.alloc (.cells #[.int .i64 tb.k, .string (str tb.nm), .int .i64 tb.i, .slice pb tb.args.length cb] 24) := ⟨_, rfl⟩; rw [← hw] at Y B311
  obtain ⟨b311, hb⟩ : ∃ x, x = w309.heap.size := ⟨_, rfl⟩; rw [← hb] at Y B311
  have Nb308_b311 := nb_ hb B308; replace B308 := ba_ hw B308; have LK1_b311 := lk_ hb K1; replace K1 := ka_ hw K1; clear hw hb
  refine sv_ gA7_0_1 Y fun a313 e => ?_; clear Y
  have h5 := pt_ F e; replace F := pu_ F e; replace h4 := so_ e h4; clear e
  have Y : (execOp a313.eval oA7_0_2).run Try.prog w312 = .ok (.value (.bool false)) w312 := by unfold oA7_0_2; go_simp
  refine sv_ gA7_0_2 Y fun a314 e => ?_; clear Y
  have h6 := pt_ F e; replace F := pu_ F e; replace h4 := so_ e h4; replace h5 := so_ e h5; clear e
  refine st_end ?_
  replace h0 := F.of h0; clear h1; clear h2; have R := F.r; clear F
  change (cA7_2).wp _ _ _ _
  refine wp_seq (x := cA7_3) (y := cA7_10) ?_
  refine wp_seq (x := cA7_4) (y := cA7_5) ?_
  change (Code.region 1 OA7_1 false).wp _ _ _ _
  refine reg_in (l := [0, 1]) rfl ?_
  have F : FE_ _ [] a314 a314 := ⟨R, Ag_.refl _⟩; clear R
  have Y : (execOp a314.eval oA7_1_0).run Try.prog w312 = .ok (.enter 9 #[]) w312 := by unfold oA7_1_0; go_simp
  refine st_call gA7_1_0 rfl (wanted_free rfl) Y ((alive_any _).mono ?_); clear Y
  rintro e9 w315 ⟨rfl, kk⟩
  replace K1 := keep_onto K1 kk
  replace B308 := blk_on B308 kk
  replace B311 := blk_on B311 kk
  clear kk
  refine ⟨_, rfl, fun a316 e => ?_⟩
  have h23 := pt_ F e; replace F := pu_ F e; clear e
  have Y : (execOp a316.eval oA7_1_1).run Try.prog w315 = .ok (.value (.bool false)) w315 := by unfold oA7_1_1; go_simp
  refine sv_ gA7_1_1 Y fun a317 e => ?_; clear Y
  clear h23; have h24 := pt_ F e; replace F := pu_ F e; clear e
  refine st_end ?_
  replace h0 := F.of h0; replace h4 := F.of h4; replace h5 := F.of h5; replace h6 := F.of h6; have R := F.r; clear F
  change (cA7_5).wp _ _ _ _
  refine wp_cond_false (x := cA7_6) (y := Code.skip) (eval_slot h24) ?_
  refine wp_skip ?_
  change (cA7_10).wp _ _ _ _
  refine wp_seq (x := cA7_11) (y := cA7_12) ?_
  change (Code.region 3 OA7_3 false).wp _ _ _ _
  refine reg_in (l := [0, 1, 2, 3, 4, 5, 6]) rfl ?_
  have F : FE_ _ [] a317 a317 := ⟨R, Ag_.refl _⟩; clear R
  refine sv_ gA7_3_0 (ym_ rfl (F.of h0)) fun a318 e => ?_
  have h25 := pt_ F e; replace F := pu_ F e; clear e
  refine sv_ gA7_3_1 (yl4_ rfl (F.of h4) B308) fun a319 e => ?_
  have h26 := pt_ F e; replace F := pu_ F e; replace h25 := so_ e h25; clear e
  refine sv_ gA7_3_2 (yl4_ rfl (F.of h5) B311) fun a320 e => ?_
  have h27 := pt_ F e; replace F := pu_ F e; replace h25 := so_ e h25; replace h26 := so_ e h26; clear e
  have Y : (execOp a320.eval oA7_3_3).run Try.prog w315 = .ok (.value (.slice (some ⟨w315.heap.size, 0, none⟩) 2 2)) (w315.alloc (.cells #[.int .i64 ta.k, .string (str ta.nm), .int .i64 ta.i, .slice pa ta.args.length ca, .int .i64 tb.k, .string (str tb.nm), .int .i64 tb.i, .slice pb tb.args.length cb] 24)) := by unfold oA7_3_3; go_simp
  have B321 := Blk.new w315 24 #[.int .i64 ta.k, .string (str ta.nm), .int .i64 ta.i, .slice pa ta.args.length ca, .int .i64 tb.k, .string (str tb.nm), .int .i64 tb.i, .slice pb tb.args.length cb]
  obtain ⟨w322, hw⟩ : ∃ x, x = w315.alloc (.cells #[.int .i64 ta.k, .string (str ta.nm), .int .i64 ta.i, .slice pa ta.args.length ca, .int .i64 tb.k, .string (str tb.nm), .int .i64 tb.i, .slice pb tb.args.length cb] 24) := ⟨_, rfl⟩; rw [← hw] at Y B321
  obtain ⟨b321, hb⟩ : ∃ x, x = w315.heap.size := ⟨_, rfl⟩; rw [← hb] at Y B321
  have Nb308_b321 := nb_ hb B308; replace B308 := ba_ hw B308; have Nb311_b321 := nb_ hb B311; replace B311 := ba_ hw B311; have LK1_b321 := lk_ hb K1; replace K1 := ka_ hw K1; clear hw hb
  refine sv_ gA7_3_3 Y fun a323 e => ?_; clear Y
  clear h26 h27; have h28 := pt_ F e; replace F := pu_ F e; replace h25 := so_ e h25; clear e
  have hT : TmAt w322.heap.size w322 (twoT nm ta tb) (some ⟨b321, 0, none⟩) 2 := comp_at (ps := [(ta, pa, ca), (tb, pb, cb)]) B321 (fun p hp => by rcases List.mem_cons.1 hp with rfl | hp; exact HTa.out.on K1; rw [List.mem_singleton.1 hp]; exact HTb.out.on K1) HNM.out (Nat.le_of_ble_eq_true rfl)
  refine st_call gA7_3_4 rfl (wanted_free rfl) (yc2_ enA7_15 rfl h25 h28) ((refC_any _ nm [ta, tb] (some ⟨b321, 0, none⟩) 2).mono ?_)
  rintro e9 w324 ⟨rfl, kk⟩
  replace K1 := keep_onto K1 kk
  replace B308 := blk_on B308 kk
  replace B311 := blk_on B311 kk
  replace B321 := blk_on B321 kk
  have kk9 := kk
  clear kk
  have kk0 := kk9
  have HXT := Lib.hid (hT.on kk0)
  have KXT := Keep.refl (fun g => g < w324.heap.size) w324
  clear hT kk0 kk9
  refine ⟨_, rfl, fun a325 e => ?_⟩
  clear h25 h28; have h29 := pt_ F e; replace F := pu_ F e; clear e
  have Y : (execOp a325.eval oA7_3_5).run Try.prog w324 = .ok (.value (.pointer (some ⟨w324.heap.size, 0, none⟩))) (w324.alloc (.cells #[.int .i64 0, .string (⟨#[]⟩), .int .i64 0, .slice none 0 0] 24)) := by unfold oA7_3_5; go_simp
  have B326 := Blk.new w324 24 #[.int .i64 0, .string (⟨#[]⟩), .int .i64 0, .slice none 0 0]
  obtain ⟨w327, hw⟩ : ∃ x, x = w324.alloc (.cells #[.int .i64 0, .string (⟨#[]⟩), .int .i64 0, .slice none 0 0] 24) := ⟨_, rfl⟩; rw [← hw] at Y B326
  obtain ⟨b326, hb⟩ : ∃ x, x = w324.heap.size := ⟨_, rfl⟩; rw [← hb] at Y B326
  have Nb308_b326 := nb_ hb B308; replace B308 := ba_ hw B308; have Nb311_b326 := nb_ hb B311; replace B311 := ba_ hw B311; have Nb321_b326 := nb_ hb B321; replace B321 := ba_ hw B321; have LK1_b326 := lk_ hb K1; replace K1 := ka_ hw K1; have LKXT_b326 := lk_ hb KXT; replace KXT := ka_ hw KXT; clear hw hb
  refine sv_ gA7_3_5 Y fun a328 e => ?_; clear Y
  have h7 := pt_ F e; replace F := pu_ F e; replace h29 := so_ e h29; clear e
  obtain ⟨w329, Y, hk, hB⟩ := ys4_ (o := oA7_3_6) rfl h7 h29 B326
  replace K1 := kx_ hk K1 (Nat.not_lt.2 LK1_b326); replace KXT := kx_ hk KXT (Nat.not_lt.2 LKXT_b326); replace B308 := bx_ hk B308 Nb308_b326; replace B311 := bx_ hk B311 Nb311_b326; replace B321 := bx_ hk B321 Nb321_b326; clear B326; have B326 := hB; clear hB hk
  refine st_skip gA7_3_6 rfl (wanted_free rfl) Y ?_; clear Y
  refine st_end ?_
  replace h0 := F.of h0; replace h4 := F.of h4; replace h5 := F.of h5; replace h6 := F.of h6; clear h24; clear h29; have R := F.r; clear F
  change (cA7_12).wp _ _ _ _
  refine wp_seq (x := cA7_13) (y := cA7_14) ?_
  change (Code.region 4 OA7_4 false).wp _ _ _ _
  refine reg_in (l := [0, 1, 2, 3, 4, 5, 6, 7, 8, 9]) rfl ?_
  have F : FE_ _ [] a328 a328 := ⟨R, Ag_.refl _⟩; clear R
  refine sv_ gA7_4_0 (yl4_ rfl (F.of h7) B326) fun a330 e => ?_
  have h31 := pt_ F e; replace F := pu_ F e; clear e
  have hca := eval_bal (HXT.out.on KXT) HE0.out
  refine st_call gA7_4_1 rfl (wanted_free rfl) (yc1_ enA7_10 rfl h31) ((hca).mono ?_)
  rintro e9 w331 ⟨ae0, ce0, rfl, hx, kk⟩
  replace K1 := keep_onto K1 kk
  replace KXT := keep_onto KXT kk
  replace B308 := blk_on B308 kk
  replace B311 := blk_on B311 kk
  replace B321 := blk_on B321 kk
  replace B326 := blk_on B326 kk
  clear kk
  have HXe0 := Lib.hid hx.at_; clear hx hca
  have KXe0 := Keep.refl (fun g => g < w331.heap.size) w331
  refine ⟨_, rfl, fun a332 e => ?_⟩
  clear h31; have h32 := pt_ F e; replace F := pu_ F e; clear e
  refine sv_ gA7_4_2 (ym_ rfl h32) fun a333 e => ?_
  clear h32; have h30 := pt_ F e; replace F := pu_ F e; clear e
  refine sv_ gA7_4_3 (ye30_ rfl h30) fun a334 e => ?_
  have h33 := pt_ F e; replace F := pu_ F e; replace h30 := so_ e h30; clear e
  refine sv_ gA7_4_4 (ye31_ rfl h30) fun a335 e => ?_
  have h34 := pt_ F e; replace F := pu_ F e; replace h30 := so_ e h30; replace h33 := so_ e h33; clear e
  refine sv_ gA7_4_5 (ye32_ rfl h30) fun a336 e => ?_
  clear h30; have h35 := pt_ F e; replace F := pu_ F e; replace h33 := so_ e h33; replace h34 := so_ e h34; clear e
  have Y : (execOp a336.eval oA7_4_6).run Try.prog w331 = .ok (.value (.pointer (some ⟨w331.heap.size, 0, none⟩))) (w331.alloc (.cells #[.int .i64 0, .string (⟨#[]⟩), .int .i64 0, .slice none 0 0] 24)) := by unfold oA7_4_6; go_simp
  have B337 := Blk.new w331 24 #[.int .i64 0, .string (⟨#[]⟩), .int .i64 0, .slice none 0 0]
  obtain ⟨w338, hw⟩ : ∃ x, x = w331.alloc (.cells #[.int .i64 0, .string (⟨#[]⟩), .int .i64 0, .slice none 0 0] 24) := ⟨_, rfl⟩; rw [← hw] at Y B337
  obtain ⟨b337, hb⟩ : ∃ x, x = w331.heap.size := ⟨_, rfl⟩; rw [← hb] at Y B337
  have Nb308_b337 := nb_ hb B308; replace B308 := ba_ hw B308; have Nb311_b337 := nb_ hb B311; replace B311 := ba_ hw B311; have Nb321_b337 := nb_ hb B321; replace B321 := ba_ hw B321; have Nb326_b337 := nb_ hb B326; replace B326 := ba_ hw B326; have LK1_b337 := lk_ hb K1; replace K1 := ka_ hw K1; have LKXT_b337 := lk_ hb KXT; replace KXT := ka_ hw KXT; have LKXe0_b337 := lk_ hb KXe0; replace KXe0 := ka_ hw KXe0; clear hw hb
  refine sv_ gA7_4_6 Y fun a339 e => ?_; clear Y
  have h9 := pt_ F e; replace F := pu_ F e; replace h33 := so_ e h33; replace h34 := so_ e h34; replace h35 := so_ e h35; clear e
  refine sv_ gA7_4_7 (ya_ rfl h33) fun a340 e => ?_
  clear h33; have h8 := pt_ F e; replace F := pu_ F e; replace h9 := so_ e h9; replace h34 := so_ e h34; replace h35 := so_ e h35; clear e
  obtain ⟨w341, Y, hk, hB⟩ := ys4_ (o := oA7_4_8) rfl h9 h34 B337
  replace K1 := kx_ hk K1 (Nat.not_lt.2 LK1_b337); replace KXT := kx_ hk KXT (Nat.not_lt.2 LKXT_b337); replace KXe0 := kx_ hk KXe0 (Nat.not_lt.2 LKXe0_b337); replace B308 := bx_ hk B308 Nb308_b337; replace B311 := bx_ hk B311 Nb311_b337; replace B321 := bx_ hk B321 Nb321_b337; replace B326 := bx_ hk B326 Nb326_b337; clear B337; have B337 := hB; clear hB hk
  refine st_skip gA7_4_8 rfl (wanted_free rfl) Y ?_; clear Y
  refine sv_ gA7_4_9 (ya_ rfl h35) fun a342 e => ?_
  clear h34 h35; have h10 := pt_ F e; replace F := pu_ F e; replace h8 := so_ e h8; replace h9 := so_ e h9; clear e
  refine st_end ?_
  replace h0 := F.of h0; replace h4 := F.of h4; replace h5 := F.of h5; replace h6 := F.of h6; replace h7 := F.of h7; have R := F.r; clear F
  change (cA7_14).wp _ _ _ _
  refine wp_seq (x := cA7_15) (y := cA7_16) ?_
  change (Code.region 5 OA7_5 false).wp _ _ _ _
  refine reg_in (l := [0, 1, 2, 3, 4, 5, 6, 7, 8, 9]) rfl ?_
  have F : FE_ _ [] a342 a342 := ⟨R, Ag_.refl _⟩; clear R
  refine sv_ gA7_5_0 (yl4_ rfl (F.of h4) B308) fun a343 e => ?_
  have h37 := pt_ F e; replace F := pu_ F e; clear e
  have hca := eval_numI (HTa.out.on K1) HEa.out
  refine st_call gA7_5_1 rfl (wanted_free rfl) (yc1_ enA7_10 rfl h37) ((hca).mono ?_)
  rintro e9 w344 ⟨aea, cea, rfl, hin, hx, kk⟩
  replace K1 := keep_onto K1 kk
  replace KXT := keep_onto KXT kk
  replace KXe0 := keep_onto KXe0 kk
  replace B308 := blk_on B308 kk
  replace B311 := blk_on B311 kk
  replace B321 := blk_on B321 kk
  replace B326 := blk_on B326 kk
  replace B337 := blk_on B337 kk
  clear kk
  have HXea := Lib.hid hx.at_; clear hx hca; have HIea := Lib.hid hin; clear hin
  have KXea := Keep.refl (fun g => g < w344.heap.size) w344
  refine ⟨_, rfl, fun a345 e => ?_⟩
  clear h37; have h38 := pt_ F e; replace F := pu_ F e; clear e
  refine sv_ gA7_5_2 (ym_ rfl h38) fun a346 e => ?_
  clear h38; have h36 := pt_ F e; replace F := pu_ F e; clear e
  refine sv_ gA7_5_3 (ye30_ rfl h36) fun a347 e => ?_
  have h39 := pt_ F e; replace F := pu_ F e; replace h36 := so_ e h36; clear e
  refine sv_ gA7_5_4 (ye31_ rfl h36) fun a348 e => ?_
  have h40 := pt_ F e; replace F := pu_ F e; replace h36 := so_ e h36; replace h39 := so_ e h39; clear e
  refine sv_ gA7_5_5 (ye32_ rfl h36) fun a349 e => ?_
  clear h36; have h41 := pt_ F e; replace F := pu_ F e; replace h39 := so_ e h39; replace h40 := so_ e h40; clear e
  have Y : (execOp a349.eval oA7_5_6).run Try.prog w344 = .ok (.value (.pointer (some ⟨w344.heap.size, 0, none⟩))) (w344.alloc (.cells #[.int .i64 0, .string (⟨#[]⟩), .int .i64 0, .slice none 0 0] 24)) := by unfold oA7_5_6; go_simp
  have B350 := Blk.new w344 24 #[.int .i64 0, .string (⟨#[]⟩), .int .i64 0, .slice none 0 0]
  obtain ⟨w351, hw⟩ : ∃ x, x = w344.alloc (.cells #[.int .i64 0, .string (⟨#[]⟩), .int .i64 0, .slice none 0 0] 24) := ⟨_, rfl⟩; rw [← hw] at Y B350
  obtain ⟨b350, hb⟩ : ∃ x, x = w344.heap.size := ⟨_, rfl⟩; rw [← hb] at Y B350
  have Nb308_b350 := nb_ hb B308; replace B308 := ba_ hw B308; have Nb311_b350 := nb_ hb B311; replace B311 := ba_ hw B311; have Nb321_b350 := nb_ hb B321; replace B321 := ba_ hw B321; have Nb326_b350 := nb_ hb B326; replace B326 := ba_ hw B326; have Nb337_b350 := nb_ hb B337; replace B337 := ba_ hw B337; have LK1_b350 := lk_ hb K1; replace K1 := ka_ hw K1; have LKXT_b350 := lk_ hb KXT; replace KXT := ka_ hw KXT; have LKXe0_b350 := lk_ hb KXe0; replace KXe0 := ka_ hw KXe0; have LKXea_b350 := lk_ hb KXea; replace KXea := ka_ hw KXea; clear hw hb
  refine sv_ gA7_5_6 Y fun a352 e => ?_; clear Y
  have h12 := pt_ F e; replace F := pu_ F e; replace h39 := so_ e h39; replace h40 := so_ e h40; replace h41 := so_ e h41; clear e
  refine sv_ gA7_5_7 (ya_ rfl h39) fun a353 e => ?_
  clear h39; have h11 := pt_ F e; replace F := pu_ F e; replace h12 := so_ e h12; replace h40 := so_ e h40; replace h41 := so_ e h41; clear e
  obtain ⟨w354, Y, hk, hB⟩ := ys4_ (o := oA7_5_8) rfl h12 h40 B350
  replace K1 := kx_ hk K1 (Nat.not_lt.2 LK1_b350); replace KXT := kx_ hk KXT (Nat.not_lt.2 LKXT_b350); replace KXe0 := kx_ hk KXe0 (Nat.not_lt.2 LKXe0_b350); replace KXea := kx_ hk KXea (Nat.not_lt.2 LKXea_b350); replace B308 := bx_ hk B308 Nb308_b350; replace B311 := bx_ hk B311 Nb311_b350; replace B321 := bx_ hk B321 Nb321_b350; replace B326 := bx_ hk B326 Nb326_b350; replace B337 := bx_ hk B337 Nb337_b350; clear B350; have B350 := hB; clear hB hk
  refine st_skip gA7_5_8 rfl (wanted_free rfl) Y ?_; clear Y
  refine sv_ gA7_5_9 (ya_ rfl h41) fun a355 e => ?_
  clear h40 h41; have h13 := pt_ F e; replace F := pu_ F e; replace h11 := so_ e h11; replace h12 := so_ e h12; clear e
  refine st_end ?_
  replace h0 := F.of h0; clear h4; replace h5 := F.of h5; replace h6 := F.of h6; replace h7 := F.of h7; replace h8 := F.of h8; replace h9 := F.of h9; replace h10 := F.of h10; have R := F.r; clear F
  change (cA7_16).wp _ _ _ _
  refine wp_seq (x := cA7_17) (y := cA7_18) ?_
  change (Code.region 6 OA7_6 false).wp _ _ _ _
  refine reg_in (l := [0, 1, 2, 3, 4, 5, 6, 7, 8, 9]) rfl ?_
  have F : FE_ _ [] a355 a355 := ⟨R, Ag_.refl _⟩; clear R
  refine sv_ gA7_6_0 (yl4_ rfl (F.of h5) B311) fun a356 e => ?_
  have h43 := pt_ F e; replace F := pu_ F e; clear e
  have hca := eval_bal (HTb.out.on K1) HEb.out
  refine st_call gA7_6_1 rfl (wanted_free rfl) (yc1_ enA7_10 rfl h43) ((hca).mono ?_)
  rintro e9 w357 ⟨aeb, ceb, rfl, hx, kk⟩
  replace K1 := keep_onto K1 kk
  replace KXT := keep_onto KXT kk
  replace KXe0 := keep_onto KXe0 kk
  replace KXea := keep_onto KXea kk
  replace B308 := blk_on B308 kk
  replace B311 := blk_on B311 kk
  replace B321 := blk_on B321 kk
  replace B326 := blk_on B326 kk
  replace B337 := blk_on B337 kk
  replace B350 := blk_on B350 kk
  clear kk
  have HXeb := Lib.hid hx.at_; clear hx hca
  have KXeb := Keep.refl (fun g => g < w357.heap.size) w357
  refine ⟨_, rfl, fun a358 e => ?_⟩
  clear h43; have h44 := pt_ F e; replace F := pu_ F e; clear e
  refine sv_ gA7_6_2 (ym_ rfl h44) fun a359 e => ?_
  clear h44; have h42 := pt_ F e; replace F := pu_ F e; clear e
  refine sv_ gA7_6_3 (ye30_ rfl h42) fun a360 e => ?_
  have h45 := pt_ F e; replace F := pu_ F e; replace h42 := so_ e h42; clear e
  refine sv_ gA7_6_4 (ye31_ rfl h42) fun a361 e => ?_
  have h46 := pt_ F e; replace F := pu_ F e; replace h42 := so_ e h42; replace h45 := so_ e h45; clear e
  refine sv_ gA7_6_5 (ye32_ rfl h42) fun a362 e => ?_
  clear h42; have h47 := pt_ F e; replace F := pu_ F e; replace h45 := so_ e h45; replace h46 := so_ e h46; clear e
  have Y : (execOp a362.eval oA7_6_6).run Try.prog w357 = .ok (.value (.pointer (some ⟨w357.heap.size, 0, none⟩))) (w357.alloc (.cells #[.int .i64 0, .string (⟨#[]⟩), .int .i64 0, .slice none 0 0] 24)) := by unfold oA7_6_6; go_simp
  have B363 := Blk.new w357 24 #[.int .i64 0, .string (⟨#[]⟩), .int .i64 0, .slice none 0 0]
  obtain ⟨w364, hw⟩ : ∃ x, x = w357.alloc (.cells #[.int .i64 0, .string (⟨#[]⟩), .int .i64 0, .slice none 0 0] 24) := ⟨_, rfl⟩; rw [← hw] at Y B363
  obtain ⟨b363, hb⟩ : ∃ x, x = w357.heap.size := ⟨_, rfl⟩; rw [← hb] at Y B363
  have Nb308_b363 := nb_ hb B308; replace B308 := ba_ hw B308; have Nb311_b363 := nb_ hb B311; replace B311 := ba_ hw B311; have Nb321_b363 := nb_ hb B321; replace B321 := ba_ hw B321; have Nb326_b363 := nb_ hb B326; replace B326 := ba_ hw B326; have Nb337_b363 := nb_ hb B337; replace B337 := ba_ hw B337; have Nb350_b363 := nb_ hb B350; replace B350 := ba_ hw B350; have LK1_b363 := lk_ hb K1; replace K1 := ka_ hw K1; have LKXT_b363 := lk_ hb KXT; replace KXT := ka_ hw KXT; have LKXe0_b363 := lk_ hb KXe0; replace KXe0 := ka_ hw KXe0; have LKXea_b363 := lk_ hb KXea; replace KXea := ka_ hw KXea; have LKXeb_b363 := lk_ hb KXeb; replace KXeb := ka_ hw KXeb; clear hw hb
  refine sv_ gA7_6_6 Y fun a365 e => ?_; clear Y
  have h15 := pt_ F e; replace F := pu_ F e; replace h45 := so_ e h45; replace h46 := so_ e h46; replace h47 := so_ e h47; clear e
  refine sv_ gA7_6_7 (ya_ rfl h45) fun a366 e => ?_
  clear h45; have h14 := pt_ F e; replace F := pu_ F e; replace h15 := so_ e h15; replace h46 := so_ e h46; replace h47 := so_ e h47; clear e
  obtain ⟨w367, Y, hk, hB⟩ := ys4_ (o := oA7_6_8) rfl h15 h46 B363
  replace K1 := kx_ hk K1 (Nat.not_lt.2 LK1_b363); replace KXT := kx_ hk KXT (Nat.not_lt.2 LKXT_b363); replace KXe0 := kx_ hk KXe0 (Nat.not_lt.2 LKXe0_b363); replace KXea := kx_ hk KXea (Nat.not_lt.2 LKXea_b363); replace KXeb := kx_ hk KXeb (Nat.not_lt.2 LKXeb_b363); replace B308 := bx_ hk B308 Nb308_b363; replace B311 := bx_ hk B311 Nb311_b363; replace B321 := bx_ hk B321 Nb321_b363; replace B326 := bx_ hk B326 Nb326_b363; replace B337 := bx_ hk B337 Nb337_b363; replace B350 := bx_ hk B350 Nb350_b363; clear B363; have B363 := hB; clear hB hk
  refine st_skip gA7_6_8 rfl (wanted_free rfl) Y ?_; clear Y
  refine sv_ gA7_6_9 (ya_ rfl h47) fun a368 e => ?_
  clear h46 h47; have h16 := pt_ F e; replace F := pu_ F e; replace h14 := so_ e h14; replace h15 := so_ e h15; clear e
  refine st_end ?_
  replace h0 := F.of h0; clear h5; replace h6 := F.of h6; replace h7 := F.of h7; replace h8 := F.of h8; replace h9 := F.of h9; replace h10 := F.of h10; replace h11 := F.of h11; replace h12 := F.of h12; replace h13 := F.of h13; have R := F.r; clear F
  change (cA7_18).wp _ _ _ _
  refine wp_seq (x := cA7_19) (y := cA7_26) ?_
  refine wp_seq (x := cA7_20) (y := cA7_21) ?_
  change (Code.region 7 OA7_7 false).wp _ _ _ _
  refine reg_in (l := [0, 1, 2]) rfl ?_
  have F : FE_ _ [] a368 a368 := ⟨R, Ag_.refl _⟩; clear R
  refine sv_ gA7_7_0 (yl4_ rfl (F.of h7) B326) fun a369 e => ?_
  have h48 := pt_ F e; replace F := pu_ F e; clear e
  refine st_call gA7_7_1 rfl (wanted_free rfl) (yc1_ enA7_11 rfl h48) ((right_is (HXT.out.on KXT) HR.out).mono ?_)
  rintro e9 w370 ⟨rfl, kk⟩
  replace K1 := keep_onto K1 kk
  replace KXT := keep_onto KXT kk
  replace KXe0 := keep_onto KXe0 kk
  replace KXea := keep_onto KXea kk
  replace KXeb := keep_onto KXeb kk
  replace B308 := blk_on B308 kk
  replace B311 := blk_on B311 kk
  replace B321 := blk_on B321 kk
  replace B326 := blk_on B326 kk
  replace B337 := blk_on B337 kk
  replace B350 := blk_on B350 kk
  replace B363 := blk_on B363 kk
  clear kk
  refine ⟨_, rfl, fun a371 e => ?_⟩
  clear h48; have h49 := pt_ F e; replace F := pu_ F e; clear e
  have Y : (execOp a371.eval oA7_7_2).run Try.prog w370 = .ok (.value (.bool false)) w370 := by unfold oA7_7_2; go_simp
  refine sv_ gA7_7_2 Y fun a372 e => ?_; clear Y
  clear h49; have h50 := pt_ F e; replace F := pu_ F e; clear e
  refine st_end ?_
  replace h0 := F.of h0; replace h6 := F.of h6; clear h7; replace h8 := F.of h8; replace h9 := F.of h9; replace h10 := F.of h10; replace h11 := F.of h11; replace h12 := F.of h12; replace h13 := F.of h13; replace h14 := F.of h14; replace h15 := F.of h15; replace h16 := F.of h16; have R := F.r; clear F
  change (cA7_21).wp _ _ _ _
  refine wp_cond_false (x := cA7_22) (y := Code.skip) (eval_slot h50) ?_
  refine wp_skip ?_
  change (cA7_26).wp _ _ _ _
  refine wp_seq (x := cA7_27) (y := cA7_28) ?_
  change (Code.region 9 OA7_9 false).wp _ _ _ _
  refine reg_in (l := [0, 1, 2, 3, 4, 5, 6, 7, 8, 9, 10]) rfl ?_
  have F : FE_ _ [] a372 a372 := ⟨R, Ag_.refl _⟩; clear R
  refine sv_ gA7_9_0 (ym_ rfl (F.of h0)) fun a373 e => ?_
  have h59 := pt_ F e; replace F := pu_ F e; clear e
  have Y : (execOp a373.eval oA7_9_1).run Try.prog w370 = .ok (.enter 14 #[.string (str nm), .int .i64 1, .int .i64 1]) w370 := by unfold oA7_9_1; go_simp
  refine st_call gA7_9_1 rfl (wanted_free rfl) Y ((opT_any (W := w370) (nm := nm) (i := 1) (k := 1) HNM.out (by decide) (by decide)).mono ?_); clear Y
  rintro e9 w374 ⟨ao, co, rfl, hx, kk⟩
  replace K1 := keep_onto K1 kk
  replace KXT := keep_onto KXT kk
  replace KXe0 := keep_onto KXe0 kk
  replace KXea := keep_onto KXea kk
  replace KXeb := keep_onto KXeb kk
  replace B308 := blk_on B308 kk
  replace B311 := blk_on B311 kk
  replace B321 := blk_on B321 kk
  replace B326 := blk_on B326 kk
  replace B337 := blk_on B337 kk
  replace B350 := blk_on B350 kk
  replace B363 := blk_on B363 kk
  clear kk
  have HXo := Lib.hid hx.at_; clear hx
  have KXo := Keep.refl (fun g => g < w374.heap.size) w374
  refine ⟨_, rfl, fun a375 e => ?_⟩
  clear h59; have h60 := pt_ F e; replace F := pu_ F e; clear e
  have hca := eval_numI (HXo.out.on KXo) HE1.out
  refine st_call gA7_9_2 rfl (wanted_free rfl) (yc1_ enA7_10 rfl h60) ((hca).mono ?_)
  rintro e9 w376 ⟨aow, cow, rfl, hin, hx, kk⟩
  replace K1 := keep_onto K1 kk
  replace KXT := keep_onto KXT kk
  replace KXe0 := keep_onto KXe0 kk
  replace KXea := keep_onto KXea kk
  replace KXeb := keep_onto KXeb kk
  replace KXo := keep_onto KXo kk
  replace B308 := blk_on B308 kk
  replace B311 := blk_on B311 kk
  replace B321 := blk_on B321 kk
  replace B326 := blk_on B326 kk
  replace B337 := blk_on B337 kk
  replace B350 := blk_on B350 kk
  replace B363 := blk_on B363 kk
  clear kk
  have HXow := Lib.hid hx.at_; clear hx hca; have HIow := Lib.hid hin; clear hin
  have KXow := Keep.refl (fun g => g < w376.heap.size) w376
  refine ⟨_, rfl, fun a377 e => ?_⟩
  clear h60; have h61 := pt_ F e; replace F := pu_ F e; clear e
  refine sv_ gA7_9_3 (ym_ rfl h61) fun a378 e => ?_
  clear h61; have h58 := pt_ F e; replace F := pu_ F e; clear e
  refine sv_ gA7_9_4 (ye30_ rfl h58) fun a379 e => ?_
  have h62 := pt_ F e; replace F := pu_ F e; replace h58 := so_ e h58; clear e
  refine sv_ gA7_9_5 (ye31_ rfl h58) fun a380 e => ?_
  have h63 := pt_ F e; replace F := pu_ F e; replace h58 := so_ e h58; replace h62 := so_ e h62; clear e
  refine sv_ gA7_9_6 (ye32_ rfl h58) fun a381 e => ?_
  clear h58; have h64 := pt_ F e; replace F := pu_ F e; replace h62 := so_ e h62; replace h63 := so_ e h63; clear e
  have Y : (execOp a381.eval oA7_9_7).run Try.prog w376 = .ok (.value (.pointer (some ⟨w376.heap.size, 0, none⟩))) (w376.alloc (.cells #[.int .i64 0, .string (⟨#[]⟩), .int .i64 0, .slice none 0 0] 24)) := by unfold oA7_9_7; go_simp
  have B382 := Blk.new w376 24 #[.int .i64 0, .string (⟨#[]⟩), .int .i64 0, .slice none 0 0]
  obtain ⟨w383, hw⟩ : ∃ x, x = w376.alloc (.cells #[.int .i64 0, .string (⟨#[]⟩), .int .i64 0, .slice none 0 0] 24) := ⟨_, rfl⟩; rw [← hw] at Y B382
  obtain ⟨b382, hb⟩ : ∃ x, x = w376.heap.size := ⟨_, rfl⟩; rw [← hb] at Y B382
  have Nb308_b382 := nb_ hb B308; replace B308 := ba_ hw B308; have Nb311_b382 := nb_ hb B311; replace B311 := ba_ hw B311; have Nb321_b382 := nb_ hb B321; replace B321 := ba_ hw B321; have Nb326_b382 := nb_ hb B326; replace B326 := ba_ hw B326; have Nb337_b382 := nb_ hb B337; replace B337 := ba_ hw B337; have Nb350_b382 := nb_ hb B350; replace B350 := ba_ hw B350; have Nb363_b382 := nb_ hb B363; replace B363 := ba_ hw B363; have LK1_b382 := lk_ hb K1; replace K1 := ka_ hw K1; have LKXT_b382 := lk_ hb KXT; replace KXT := ka_ hw KXT; have LKXe0_b382 := lk_ hb KXe0; replace KXe0 := ka_ hw KXe0; have LKXea_b382 := lk_ hb KXea; replace KXea := ka_ hw KXea; have LKXeb_b382 := lk_ hb KXeb; replace KXeb := ka_ hw KXeb; have LKXo_b382 := lk_ hb KXo; replace KXo := ka_ hw KXo; have LKXow_b382 := lk_ hb KXow; replace KXow := ka_ hw KXow; clear hw hb
  refine sv_ gA7_9_7 Y fun a384 e => ?_; clear Y
  have h18 := pt_ F e; replace F := pu_ F e; replace h62 := so_ e h62; replace h63 := so_ e h63; replace h64 := so_ e h64; clear e
  refine sv_ gA7_9_8 (ya_ rfl h62) fun a385 e => ?_
  clear h62; have h17 := pt_ F e; replace F := pu_ F e; replace h18 := so_ e h18; replace h63 := so_ e h63; replace h64 := so_ e h64; clear e
  obtain ⟨w386, Y, hk, hB⟩ := ys4_ (o := oA7_9_9) rfl h18 h63 B382
  replace K1 := kx_ hk K1 (Nat.not_lt.2 LK1_b382); replace KXT := kx_ hk KXT (Nat.not_lt.2 LKXT_b382); replace KXe0 := kx_ hk KXe0 (Nat.not_lt.2 LKXe0_b382); replace KXea := kx_ hk KXea (Nat.not_lt.2 LKXea_b382); replace KXeb := kx_ hk KXeb (Nat.not_lt.2 LKXeb_b382); replace KXo := kx_ hk KXo (Nat.not_lt.2 LKXo_b382); replace KXow := kx_ hk KXow (Nat.not_lt.2 LKXow_b382); replace B308 := bx_ hk B308 Nb308_b382; replace B311 := bx_ hk B311 Nb311_b382; replace B321 := bx_ hk B321 Nb321_b382; replace B326 := bx_ hk B326 Nb326_b382; replace B337 := bx_ hk B337 Nb337_b382; replace B350 := bx_ hk B350 Nb350_b382; replace B363 := bx_ hk B363 Nb363_b382; clear B382; have B382 := hB; clear hB hk
  refine st_skip gA7_9_9 rfl (wanted_free rfl) Y ?_; clear Y
  refine sv_ gA7_9_10 (ya_ rfl h64) fun a387 e => ?_
  clear h63 h64; have h19 := pt_ F e; replace F := pu_ F e; replace h17 := so_ e h17; replace h18 := so_ e h18; clear e
  refine st_end ?_
  replace h0 := F.of h0; replace h6 := F.of h6; replace h8 := F.of h8; replace h9 := F.of h9; replace h10 := F.of h10; replace h11 := F.of h11; replace h12 := F.of h12; replace h13 := F.of h13; replace h14 := F.of h14; replace h15 := F.of h15; replace h16 := F.of h16; clear h50; have R := F.r; clear F
  change (cA7_28).wp _ _ _ _
  refine wp_seq (x := cA7_29) (y := cA7_36) ?_
  refine wp_seq (x := cA7_30) (y := cA7_31) ?_
  change (Code.region 10 OA7_10 false).wp _ _ _ _
  refine reg_in (l := [0, 1, 2, 3, 4, 5, 6, 7, 8, 9, 10, 11, 12, 13, 14, 15, 16, 17, 18, 19, 20]) rfl ?_
  have F : FE_ _ [] a387 a387 := ⟨R, Ag_.refl _⟩; clear R
  refine sv_ gA7_10_0 (ym_ rfl (F.of h19)) fun a388 e => ?_
  have h65 := pt_ F e; replace F := pu_ F e; clear e
  have Y : (execOp a388.eval oA7_10_1).run Try.prog w386 = .ok (.value (.bool false)) w386 := by unfold oA7_10_1; go_simp
  refine sv_ gA7_10_1 Y fun a389 e => ?_; clear Y
  clear h65; have h66 := pt_ F e; replace F := pu_ F e; clear e
  refine sv_ gA7_10_2 (ym_ rfl h66) fun a390 e => ?_
  clear h66; have h67 := pt_ F e; replace F := pu_ F e; clear e
  refine st_not gA7_10_3 rfl (wanted_is (j := 2) (d := 67) rfl rfl h67 rfl) fun a391 e => ?_
  have h68 := pt_ F e; replace F := pu_ F e; replace h67 := so_ e h67; clear e
  refine st_not gA7_10_4 rfl (wanted_is (j := 2) (d := 67) rfl rfl h67 rfl) fun a392 e => ?_
  clear h68; have h69 := pt_ F e; replace F := pu_ F e; replace h67 := so_ e h67; clear e
  refine st_not gA7_10_5 rfl (wanted_is (j := 2) (d := 67) rfl rfl h67 rfl) fun a393 e => ?_
  clear h69; have h70 := pt_ F e; replace F := pu_ F e; replace h67 := so_ e h67; clear e
  have Y : (execOp a393.eval oA7_10_6).run Try.prog w386 = .ok (.value (.bool false)) w386 := by unfold oA7_10_6; go_simp
  refine sv_ gA7_10_6 Y fun a394 e => ?_; clear Y
  clear h67 h70; have h71 := pt_ F e; replace F := pu_ F e; clear e
  refine sv_ gA7_10_7 (ym_ rfl h71) fun a395 e => ?_
  clear h71; have h72 := pt_ F e; replace F := pu_ F e; clear e
  refine st_not gA7_10_8 rfl (wanted_is (j := 7) (d := 72) rfl rfl h72 rfl) fun a396 e => ?_
  have h73 := pt_ F e; replace F := pu_ F e; replace h72 := so_ e h72; clear e
  refine st_not gA7_10_9 rfl (wanted_is (j := 7) (d := 72) rfl rfl h72 rfl) fun a397 e => ?_
  clear h73; have h74 := pt_ F e; replace F := pu_ F e; replace h72 := so_ e h72; clear e
  refine st_not gA7_10_10 rfl (wanted_is (j := 7) (d := 72) rfl rfl h72 rfl) fun a398 e => ?_
  clear h74; have h75 := pt_ F e; replace F := pu_ F e; replace h72 := so_ e h72; clear e
  refine st_not gA7_10_11 rfl (wanted_is (j := 7) (d := 72) rfl rfl h72 rfl) fun a399 e => ?_
  clear h75; have h76 := pt_ F e; replace F := pu_ F e; replace h72 := so_ e h72; clear e
  have Y : (execOp a399.eval oA7_10_12).run Try.prog w386 = .ok (.value (.bool false)) w386 := by unfold oA7_10_12; go_simp
  refine sv_ gA7_10_12 Y fun a400 e => ?_; clear Y
  clear h72 h76; have h77 := pt_ F e; replace F := pu_ F e; clear e
  refine sv_ gA7_10_13 (ym_ rfl h77) fun a401 e => ?_
  clear h77; have h78 := pt_ F e; replace F := pu_ F e; clear e
  refine st_not gA7_10_14 rfl (wanted_is (j := 13) (d := 78) rfl rfl h78 rfl) fun a402 e => ?_
  have h79 := pt_ F e; replace F := pu_ F e; replace h78 := so_ e h78; clear e
  refine st_not gA7_10_15 rfl (wanted_is (j := 13) (d := 78) rfl rfl h78 rfl) fun a403 e => ?_
  clear h79; have h80 := pt_ F e; replace F := pu_ F e; replace h78 := so_ e h78; clear e
  refine st_not gA7_10_16 rfl (wanted_is (j := 13) (d := 78) rfl rfl h78 rfl) fun a404 e => ?_
  clear h80; have h81 := pt_ F e; replace F := pu_ F e; replace h78 := so_ e h78; clear e
  refine st_not gA7_10_17 rfl (wanted_is (j := 13) (d := 78) rfl rfl h78 rfl) fun a405 e => ?_
  clear h81; have h82 := pt_ F e; replace F := pu_ F e; replace h78 := so_ e h78; clear e
  refine st_not gA7_10_18 rfl (wanted_is (j := 13) (d := 78) rfl rfl h78 rfl) fun a406 e => ?_
  clear h82; have h83 := pt_ F e; replace F := pu_ F e; replace h78 := so_ e h78; clear e
  refine st_not gA7_10_19 rfl (wanted_is (j := 13) (d := 78) rfl rfl h78 rfl) fun a407 e => ?_
  clear h83; have h84 := pt_ F e; replace F := pu_ F e; replace h78 := so_ e h78; clear e
  have Y : (execOp a407.eval oA7_10_20).run Try.prog w386 = .ok (.value (.bool false)) w386 := by unfold oA7_10_20; go_simp
  refine sv_ gA7_10_20 Y fun a408 e => ?_; clear Y
  clear h78 h84; have h85 := pt_ F e; replace F := pu_ F e; clear e
  refine st_end ?_
  replace h0 := F.of h0; replace h6 := F.of h6; replace h8 := F.of h8; replace h9 := F.of h9; replace h10 := F.of h10; replace h11 := F.of h11; replace h12 := F.of h12; replace h13 := F.of h13; replace h14 := F.of h14; replace h15 := F.of h15; replace h16 := F.of h16; replace h17 := F.of h17; replace h18 := F.of h18; clear h19; have R := F.r; clear F
  change (cA7_31).wp _ _ _ _
  refine wp_cond_false (x := cA7_32) (y := Code.skip) (eval_slot h85) ?_
  refine wp_skip ?_
  change (cA7_36).wp _ _ _ _
  refine wp_seq (x := cA7_37) (y := cA7_44) ?_
  refine wp_seq (x := cA7_38) (y := cA7_39) ?_
  change (Code.region 12 OA7_12 false).wp _ _ _ _
  refine reg_in (l := [0, 1]) rfl ?_
  have F : FE_ _ [] a408 a408 := ⟨R, Ag_.refl _⟩; clear R
  refine sv_ gA7_12_0 (ym_ rfl (F.of h13)) fun a409 e => ?_
  have h101 := pt_ F e; replace F := pu_ F e; clear e
  have Y : (execOp a409.eval oA7_12_1).run Try.prog w386 = .ok (.value (.bool false)) w386 := by unfold oA7_12_1; go_simp
  refine sv_ gA7_12_1 Y fun a410 e => ?_; clear Y
  clear h101; have h102 := pt_ F e; replace F := pu_ F e; clear e
  refine st_end ?_
  replace h0 := F.of h0; replace h6 := F.of h6; replace h8 := F.of h8; replace h9 := F.of h9; replace h10 := F.of h10; replace h11 := F.of h11; replace h12 := F.of h12; clear h13; replace h14 := F.of h14; replace h15 := F.of h15; replace h16 := F.of h16; clear h17; clear h18; clear h85; have R := F.r; clear F
  change (cA7_39).wp _ _ _ _
  refine wp_cond_false (x := cA7_40) (y := Code.skip) (eval_slot h102) ?_
  refine wp_skip ?_
  change (cA7_44).wp _ _ _ _
  refine wp_seq (x := cA7_45) (y := cA7_52) ?_
  refine wp_seq (x := cA7_46) (y := cA7_47) ?_
  change (Code.region 14 OA7_14 false).wp _ _ _ _
  refine reg_in (l := [0, 1]) rfl ?_
  have F : FE_ _ [] a410 a410 := ⟨R, Ag_.refl _⟩; clear R
  refine sv_ gA7_14_0 (ym_ rfl (F.of h16)) fun a411 e => ?_
  have h114 := pt_ F e; replace F := pu_ F e; clear e
  have Y : (execOp a411.eval oA7_14_1).run Try.prog w386 = .ok (.value (.bool true)) w386 := by unfold oA7_14_1; go_simp
  refine sv_ gA7_14_1 Y fun a412 e => ?_; clear Y
  clear h114; have h115 := pt_ F e; replace F := pu_ F e; clear e
  refine st_end ?_
  replace h0 := F.of h0; replace h6 := F.of h6; replace h8 := F.of h8; replace h9 := F.of h9; replace h10 := F.of h10; replace h11 := F.of h11; clear h12; replace h14 := F.of h14; replace h15 := F.of h15; clear h16; clear h102; have R := F.r; clear F
  change (cA7_47).wp _ _ _ _
  refine wp_cond_true (x := cA7_48) (y := Code.skip) (eval_slot h115) ?_
  refine wp_seq (x := cA7_49) (y := Code.ret) ?_
  change (Code.region 15 OA7_15 false).wp _ _ _ _
  refine reg_in (l := [0, 1, 2, 3, 4, 5, 6, 7, 8, 9, 10, 11]) rfl ?_
  have F : FE_ _ [] a412 a412 := ⟨R, Ag_.refl _⟩; clear R
  refine sv_ gA7_15_0 (ym_ rfl (F.of h10)) fun a413 e => ?_
  have h116 := pt_ F e; replace F := pu_ F e; clear e
  have Y : (execOp a413.eval oA7_15_1).run Try.prog w386 = .ok (.value (.bool true)) w386 := by unfold oA7_15_1; go_simp
  refine sv_ gA7_15_1 Y fun a414 e => ?_; clear Y
  clear h116; have h117 := pt_ F e; replace F := pu_ F e; clear e
  refine sv_ gA7_15_2 (ym_ rfl h117) fun a415 e => ?_
  clear h117; have h118 := pt_ F e; replace F := pu_ F e; clear e
  refine st_val gA7_15_3 rfl (wanted_is (j := 2) (d := 118) rfl rfl h118 rfl) (ym_ rfl (F.of h8)) fun a416 e => ?_
  have h119 := pt_ F e; replace F := pu_ F e; replace h118 := so_ e h118; clear e
  have Y : (execOp a416.eval oA7_15_4).run Try.prog w386 = .ok (.value (.bool true)) w386 := by unfold oA7_15_4; go_simp
  refine st_val gA7_15_4 rfl (wanted_is (j := 2) (d := 118) rfl rfl h118 rfl) Y fun a417 e => ?_; clear Y
  clear h119; have h120 := pt_ F e; replace F := pu_ F e; replace h118 := so_ e h118; clear e
  have Y : (execOp a417.eval oA7_15_5).run Try.prog w386 = .ok (.value (.bool true)) w386 := by unfold oA7_15_5; go_simp
  refine sv_ gA7_15_5 Y fun a418 e => ?_; clear Y
  clear h118 h120; have h121 := pt_ F e; replace F := pu_ F e; clear e
  refine sv_ gA7_15_6 (ym_ rfl h121) fun a419 e => ?_
  clear h121; have h122 := pt_ F e; replace F := pu_ F e; clear e
  refine st_val gA7_15_7 rfl (wanted_is (j := 6) (d := 122) rfl rfl h122 rfl) (yl4_ rfl (F.of h9) B337) fun a420 e => ?_
  have h123 := pt_ F e; replace F := pu_ F e; replace h122 := so_ e h122; clear e
  refine st_val gA7_15_8 rfl (wanted_is (j := 6) (d := 122) rfl rfl h122 rfl) (yl4_ rfl (F.of h15) B363) fun a421 e => ?_
  have h124 := pt_ F e; replace F := pu_ F e; replace h122 := so_ e h122; replace h123 := so_ e h123; clear e
  refine st_call gA7_15_9 rfl (wanted_is (j := 6) (d := 122) rfl rfl h122 rfl) (yc2_ enA7_13 rfl h123 h124) ((like_ok (HXe0.out.on KXe0) (HXeb.out.on KXeb) (balP_refl HP.out)).mono ?_)
  rintro e9 w422 ⟨rfl, kk⟩
  replace K1 := keep_onto K1 kk
  replace KXT := keep_onto KXT kk
  replace KXe0 := keep_onto KXe0 kk
  replace KXea := keep_onto KXea kk
  replace KXeb := keep_onto KXeb kk
  replace KXo := keep_onto KXo kk
  replace KXow := keep_onto KXow kk
  replace B308 := blk_on B308 kk
  replace B311 := blk_on B311 kk
  replace B321 := blk_on B321 kk
  replace B326 := blk_on B326 kk
  replace B337 := blk_on B337 kk
  replace B350 := blk_on B350 kk
  replace B363 := blk_on B363 kk
  replace B382 := blk_on B382 kk
  clear kk
  refine ⟨_, rfl, fun a423 e => ?_⟩
  clear h123 h124; have h125 := pt_ F e; replace F := pu_ F e; replace h122 := so_ e h122; clear e
  have Y : (execOp a423.eval oA7_15_10).run Try.prog w422 = .ok (.value (.bool true)) w422 := by unfold oA7_15_10; go_simp
  refine sv_ gA7_15_10 Y fun a424 e => ?_; clear Y
  clear h122 h125; have h126 := pt_ F e; replace F := pu_ F e; clear e
  refine sv_ gA7_15_11 (ya_ rfl h126) fun a425 e => ?_
  clear h126 h6; have h6 := pt_ F e; replace F := pu_ F e; clear e
  refine st_end ?_
  replace h0 := F.of h0; replace h8 := F.of h8; replace h9 := F.of h9; replace h10 := F.of h10; replace h11 := F.of h11; replace h14 := F.of h14; clear h15; clear h115; have R := F.r; clear F
  change (Code.ret).wp _ _ _ _
  refine wp_ret ?_
  change bodyPost Try.prog Try.f7 (fun e w' => e = .returned (.bool true) ∧ Keep (fun g => g < W.heap.size) W w') .ret a425 w422
  refine ret_one rfl R h6 ?_
  exact ⟨rfl, K1⟩
set_option maxRecDepth 100000 in
set_option maxHeartbeats 4000000 in
theorem deep_f {W : World} {nm : List UInt8} {ta tb : Tm} {pa pb : Option Addr} {ca cb : Nat} {ez : Wth} {kz : Bool} {v1 xa xb : Int} {f0 : Act} {w0 : World} (R : FrS 149 f0) (h0 : f0.tmps[0]? = some (.string (str nm))) (h1 : f0.tmps[1]? = some (.agg #[.int .i64 ta.k, .string (str ta.nm), .int .i64 ta.i, .slice pa ta.args.length ca])) (h2 : f0.tmps[2]? = some (.agg #[.int .i64 tb.k, .string (str tb.nm), .int .i64 tb.i, .slice pb tb.args.length cb])) (K1 : Keep (fun g => g < W.heap.size) W w0)  (HTa : Hid (TmAt W.heap.size W ta pa ca)) (HTb : Hid (TmAt W.heap.size W tb pb cb)) (HNM : Hid (nm.length ≤ maxLen)) (HR : Hid ((twoT nm ta tb).right = true)) (HE0 : Hid (evW (twoT nm ta tb) = ez)) (HE1 : Hid (evW (opT nm 1 1) = .num v1)) (HEa : Hid (evW ta = .num xa)) (HEb : Hid (evW tb = .num xb)) (HEp : Hid (evW (opT nm xa xb) = ez)) (HKZ : Hid (ez.k = kz)) (HP : Hid (ez.b.k = 0 ∨ ez.b.ok = true)) : cA7_0.wp Try.prog (bodyPost Try.prog Try.f7 (fun e w' => e = .returned (.bool true) ∧ Keep (fun g => g < W.heap.size) W w')) f0 w0 := by
  refine wp_seq (x := cA7_1) (y := cA7_2) ?_
  change (Code.region 0 OA7_0 false).wp _ _ _ _
  refine reg_in (l := [0, 1, 2]) rfl ?_
  have F : FE_ _ [] f0 f0 := ⟨R, Ag_.refl _⟩; clear R
  have Y : (execOp f0.eval oA7_0_0).run Try.prog w0 = .ok (.value (.pointer (some ⟨w0.heap.size, 0, none⟩))) (w0.alloc (.cells #[.int .i64 ta.k, .string (str ta.nm), .int .i64 ta.i, .slice pa ta.args.length ca] 24)) := by have r1 := F.of h1; unfold oA7_0_0; go_simp
  have B426 := Blk.new w0 24 #[.int .i64 ta.k, .string (str ta.nm), .int .i64 ta.i, .slice pa ta.args.length ca]
  obtain ⟨w427, hw⟩ : ∃ x, x = w0.alloc (.cells #[.int .i64 ta.k, .string (str ta.nm), .int .i64 ta.i, .slice pa ta.args.length ca] 24) := ⟨_, rfl⟩; rw [← hw] at Y B426
  obtain ⟨b426, hb⟩ : ∃ x, x = w0.heap.size := ⟨_, rfl⟩; rw [← hb] at Y B426
  have LK1_b426 := lk_ hb K1; replace K1 := ka_ hw K1; clear hw hb
  refine sv_ gA7_0_0 Y fun a428 e => ?_; clear Y
  have h4 := pt_ F e; replace F := pu_ F e; clear e
  have Y : (execOp a428.eval oA7_0_1).run Try.prog w427 = .ok (.value (.pointer (some ⟨w427.heap.size, 0, none⟩))) (w427.alloc (.cells #[.int .i64 tb.k, .string (str tb.nm), .int .i64 tb.i, .slice pb tb.args.length cb] 24)) := by have r2 := F.of h2; unfold oA7_0_1; go_simp
  have B429 := Blk.new w427 24 #[.int .i64 tb.k, .string (str tb.nm), .int .i64 tb.i, .slice pb tb.args.length cb]
  obtain ⟨w430, hw⟩ : ∃ x, x = w427.alloc (.cells #[.int .i64 tb.k, .string (str tb.nm), .int .i64 tb.i, .slice pb tb.args.length cb] 24) := ⟨_, rfl⟩; rw [← hw] at Y B429
  obtain ⟨b429, hb⟩ : ∃ x, x = w427.heap.size := ⟨_, rfl⟩; rw [← hb] at Y B429
  have Nb426_b429 := nb_ hb B426; replace B426 := ba_ hw B426; have LK1_b429 := lk_ hb K1; replace K1 := ka_ hw K1; clear hw hb
  refine sv_ gA7_0_1 Y fun a431 e => ?_; clear Y
  have h5 := pt_ F e; replace F := pu_ F e; replace h4 := so_ e h4; clear e
  have Y : (execOp a431.eval oA7_0_2).run Try.prog w430 = .ok (.value (.bool false)) w430 := by unfold oA7_0_2; go_simp
  refine sv_ gA7_0_2 Y fun a432 e => ?_; clear Y
  have h6 := pt_ F e; replace F := pu_ F e; replace h4 := so_ e h4; replace h5 := so_ e h5; clear e
  refine st_end ?_
  replace h0 := F.of h0; clear h1; clear h2; have R := F.r; clear F
  change (cA7_2).wp _ _ _ _
  refine wp_seq (x := cA7_3) (y := cA7_10) ?_
  refine wp_seq (x := cA7_4) (y := cA7_5) ?_
  change (Code.region 1 OA7_1 false).wp _ _ _ _
  refine reg_in (l := [0, 1]) rfl ?_
  have F : FE_ _ [] a432 a432 := ⟨R, Ag_.refl _⟩; clear R
  have Y : (execOp a432.eval oA7_1_0).run Try.prog w430 = .ok (.enter 9 #[]) w430 := by unfold oA7_1_0; go_simp
  refine st_call gA7_1_0 rfl (wanted_free rfl) Y ((alive_any _).mono ?_); clear Y
  rintro e9 w433 ⟨rfl, kk⟩
  replace K1 := keep_onto K1 kk
  replace B426 := blk_on B426 kk
  replace B429 := blk_on B429 kk
  clear kk
  refine ⟨_, rfl, fun a434 e => ?_⟩
  have h23 := pt_ F e; replace F := pu_ F e; clear e
  have Y : (execOp a434.eval oA7_1_1).run Try.prog w433 = .ok (.value (.bool false)) w433 := by unfold oA7_1_1; go_simp
  refine sv_ gA7_1_1 Y fun a435 e => ?_; clear Y
  clear h23; have h24 := pt_ F e; replace F := pu_ F e; clear e
  refine st_end ?_
  replace h0 := F.of h0; replace h4 := F.of h4; replace h5 := F.of h5; replace h6 := F.of h6; have R := F.r; clear F
  change (cA7_5).wp _ _ _ _
  refine wp_cond_false (x := cA7_6) (y := Code.skip) (eval_slot h24) ?_
  refine wp_skip ?_
  change (cA7_10).wp _ _ _ _
  refine wp_seq (x := cA7_11) (y := cA7_12) ?_
  change (Code.region 3 OA7_3 false).wp _ _ _ _
  refine reg_in (l := [0, 1, 2, 3, 4, 5, 6]) rfl ?_
  have F : FE_ _ [] a435 a435 := ⟨R, Ag_.refl _⟩; clear R
  refine sv_ gA7_3_0 (ym_ rfl (F.of h0)) fun a436 e => ?_
  have h25 := pt_ F e; replace F := pu_ F e; clear e
  refine sv_ gA7_3_1 (yl4_ rfl (F.of h4) B426) fun a437 e => ?_
  have h26 := pt_ F e; replace F := pu_ F e; replace h25 := so_ e h25; clear e
  refine sv_ gA7_3_2 (yl4_ rfl (F.of h5) B429) fun a438 e => ?_
  have h27 := pt_ F e; replace F := pu_ F e; replace h25 := so_ e h25; replace h26 := so_ e h26; clear e
  have Y : (execOp a438.eval oA7_3_3).run Try.prog w433 = .ok (.value (.slice (some ⟨w433.heap.size, 0, none⟩) 2 2)) (w433.alloc (.cells #[.int .i64 ta.k, .string (str ta.nm), .int .i64 ta.i, .slice pa ta.args.length ca, .int .i64 tb.k, .string (str tb.nm), .int .i64 tb.i, .slice pb tb.args.length cb] 24)) := by unfold oA7_3_3; go_simp
  have B439 := Blk.new w433 24 #[.int .i64 ta.k, .string (str ta.nm), .int .i64 ta.i, .slice pa ta.args.length ca, .int .i64 tb.k, .string (str tb.nm), .int .i64 tb.i, .slice pb tb.args.length cb]
  obtain ⟨w440, hw⟩ : ∃ x, x = w433.alloc (.cells #[.int .i64 ta.k, .string (str ta.nm), .int .i64 ta.i, .slice pa ta.args.length ca, .int .i64 tb.k, .string (str tb.nm), .int .i64 tb.i, .slice pb tb.args.length cb] 24) := ⟨_, rfl⟩; rw [← hw] at Y B439
  obtain ⟨b439, hb⟩ : ∃ x, x = w433.heap.size := ⟨_, rfl⟩; rw [← hb] at Y B439
  have Nb426_b439 := nb_ hb B426; replace B426 := ba_ hw B426; have Nb429_b439 := nb_ hb B429; replace B429 := ba_ hw B429; have LK1_b439 := lk_ hb K1; replace K1 := ka_ hw K1; clear hw hb
  refine sv_ gA7_3_3 Y fun a441 e => ?_; clear Y
  clear h26 h27; have h28 := pt_ F e; replace F := pu_ F e; replace h25 := so_ e h25; clear e
  have hT : TmAt w440.heap.size w440 (twoT nm ta tb) (some ⟨b439, 0, none⟩) 2 := comp_at (ps := [(ta, pa, ca), (tb, pb, cb)]) B439 (fun p hp => by rcases List.mem_cons.1 hp with rfl | hp; exact HTa.out.on K1; rw [List.mem_singleton.1 hp]; exact HTb.out.on K1) HNM.out (Nat.le_of_ble_eq_true rfl)
  refine st_call gA7_3_4 rfl (wanted_free rfl) (yc2_ enA7_15 rfl h25 h28) ((refC_any _ nm [ta, tb] (some ⟨b439, 0, none⟩) 2).mono ?_)
  rintro e9 w442 ⟨rfl, kk⟩
  replace K1 := keep_onto K1 kk
  replace B426 := blk_on B426 kk
  replace B429 := blk_on B429 kk
  replace B439 := blk_on B439 kk
  have kk9 := kk
  clear kk
  have kk0 := kk9
  have HXT := Lib.hid (hT.on kk0)
  have KXT := Keep.refl (fun g => g < w442.heap.size) w442
  clear hT kk0 kk9
  refine ⟨_, rfl, fun a443 e => ?_⟩
  clear h25 h28; have h29 := pt_ F e; replace F := pu_ F e; clear e
  have Y : (execOp a443.eval oA7_3_5).run Try.prog w442 = .ok (.value (.pointer (some ⟨w442.heap.size, 0, none⟩))) (w442.alloc (.cells #[.int .i64 0, .string (⟨#[]⟩), .int .i64 0, .slice none 0 0] 24)) := by unfold oA7_3_5; go_simp
  have B444 := Blk.new w442 24 #[.int .i64 0, .string (⟨#[]⟩), .int .i64 0, .slice none 0 0]
  obtain ⟨w445, hw⟩ : ∃ x, x = w442.alloc (.cells #[.int .i64 0, .string (⟨#[]⟩), .int .i64 0, .slice none 0 0] 24) := ⟨_, rfl⟩; rw [← hw] at Y B444
  obtain ⟨b444, hb⟩ : ∃ x, x = w442.heap.size := ⟨_, rfl⟩; rw [← hb] at Y B444
  have Nb426_b444 := nb_ hb B426; replace B426 := ba_ hw B426; have Nb429_b444 := nb_ hb B429; replace B429 := ba_ hw B429; have Nb439_b444 := nb_ hb B439; replace B439 := ba_ hw B439; have LK1_b444 := lk_ hb K1; replace K1 := ka_ hw K1; have LKXT_b444 := lk_ hb KXT; replace KXT := ka_ hw KXT; clear hw hb
  refine sv_ gA7_3_5 Y fun a446 e => ?_; clear Y
  have h7 := pt_ F e; replace F := pu_ F e; replace h29 := so_ e h29; clear e
  obtain ⟨w447, Y, hk, hB⟩ := ys4_ (o := oA7_3_6) rfl h7 h29 B444
  replace K1 := kx_ hk K1 (Nat.not_lt.2 LK1_b444); replace KXT := kx_ hk KXT (Nat.not_lt.2 LKXT_b444); replace B426 := bx_ hk B426 Nb426_b444; replace B429 := bx_ hk B429 Nb429_b444; replace B439 := bx_ hk B439 Nb439_b444; clear B444; have B444 := hB; clear hB hk
  refine st_skip gA7_3_6 rfl (wanted_free rfl) Y ?_; clear Y
  refine st_end ?_
  replace h0 := F.of h0; replace h4 := F.of h4; replace h5 := F.of h5; replace h6 := F.of h6; clear h24; clear h29; have R := F.r; clear F
  change (cA7_12).wp _ _ _ _
  refine wp_seq (x := cA7_13) (y := cA7_14) ?_
  change (Code.region 4 OA7_4 false).wp _ _ _ _
  refine reg_in (l := [0, 1, 2, 3, 4, 5, 6, 7, 8, 9]) rfl ?_
  have F : FE_ _ [] a446 a446 := ⟨R, Ag_.refl _⟩; clear R
  refine sv_ gA7_4_0 (yl4_ rfl (F.of h7) B444) fun a448 e => ?_
  have h31 := pt_ F e; replace F := pu_ F e; clear e
  have hca := eval_gen (HXT.out.on KXT)
  rw [HE0.out] at hca; rw [HKZ.out] at hca
  refine st_call gA7_4_1 rfl (wanted_free rfl) (yc1_ enA7_10 rfl h31) ((hca).mono ?_)
  rintro e9 w449 ⟨ae0, ce0, rfl, hx, kk⟩
  replace K1 := keep_onto K1 kk
  replace KXT := keep_onto KXT kk
  replace B426 := blk_on B426 kk
  replace B429 := blk_on B429 kk
  replace B439 := blk_on B439 kk
  replace B444 := blk_on B444 kk
  clear kk
  have HXe0 := Lib.hid hx.at_; clear hx hca
  have KXe0 := Keep.refl (fun g => g < w449.heap.size) w449
  refine ⟨_, rfl, fun a450 e => ?_⟩
  clear h31; have h32 := pt_ F e; replace F := pu_ F e; clear e
  refine sv_ gA7_4_2 (ym_ rfl h32) fun a451 e => ?_
  clear h32; have h30 := pt_ F e; replace F := pu_ F e; clear e
  refine sv_ gA7_4_3 (ye30_ rfl h30) fun a452 e => ?_
  have h33 := pt_ F e; replace F := pu_ F e; replace h30 := so_ e h30; clear e
  refine sv_ gA7_4_4 (ye31_ rfl h30) fun a453 e => ?_
  have h34 := pt_ F e; replace F := pu_ F e; replace h30 := so_ e h30; replace h33 := so_ e h33; clear e
  refine sv_ gA7_4_5 (ye32_ rfl h30) fun a454 e => ?_
  clear h30; have h35 := pt_ F e; replace F := pu_ F e; replace h33 := so_ e h33; replace h34 := so_ e h34; clear e
  have Y : (execOp a454.eval oA7_4_6).run Try.prog w449 = .ok (.value (.pointer (some ⟨w449.heap.size, 0, none⟩))) (w449.alloc (.cells #[.int .i64 0, .string (⟨#[]⟩), .int .i64 0, .slice none 0 0] 24)) := by unfold oA7_4_6; go_simp
  have B455 := Blk.new w449 24 #[.int .i64 0, .string (⟨#[]⟩), .int .i64 0, .slice none 0 0]
  obtain ⟨w456, hw⟩ : ∃ x, x = w449.alloc (.cells #[.int .i64 0, .string (⟨#[]⟩), .int .i64 0, .slice none 0 0] 24) := ⟨_, rfl⟩; rw [← hw] at Y B455
  obtain ⟨b455, hb⟩ : ∃ x, x = w449.heap.size := ⟨_, rfl⟩; rw [← hb] at Y B455
  have Nb426_b455 := nb_ hb B426; replace B426 := ba_ hw B426; have Nb429_b455 := nb_ hb B429; replace B429 := ba_ hw B429; have Nb439_b455 := nb_ hb B439; replace B439 := ba_ hw B439; have Nb444_b455 := nb_ hb B444; replace B444 := ba_ hw B444; have LK1_b455 := lk_ hb K1; replace K1 := ka_ hw K1; have LKXT_b455 := lk_ hb KXT; replace KXT := ka_ hw KXT; have LKXe0_b455 := lk_ hb KXe0; replace KXe0 := ka_ hw KXe0; clear hw hb
  refine sv_ gA7_4_6 Y fun a457 e => ?_; clear Y
  have h9 := pt_ F e; replace F := pu_ F e; replace h33 := so_ e h33; replace h34 := so_ e h34; replace h35 := so_ e h35; clear e
  refine sv_ gA7_4_7 (ya_ rfl h33) fun a458 e => ?_
  clear h33; have h8 := pt_ F e; replace F := pu_ F e; replace h9 := so_ e h9; replace h34 := so_ e h34; replace h35 := so_ e h35; clear e
  obtain ⟨w459, Y, hk, hB⟩ := ys4_ (o := oA7_4_8) rfl h9 h34 B455
  replace K1 := kx_ hk K1 (Nat.not_lt.2 LK1_b455); replace KXT := kx_ hk KXT (Nat.not_lt.2 LKXT_b455); replace KXe0 := kx_ hk KXe0 (Nat.not_lt.2 LKXe0_b455); replace B426 := bx_ hk B426 Nb426_b455; replace B429 := bx_ hk B429 Nb429_b455; replace B439 := bx_ hk B439 Nb439_b455; replace B444 := bx_ hk B444 Nb444_b455; clear B455; have B455 := hB; clear hB hk
  refine st_skip gA7_4_8 rfl (wanted_free rfl) Y ?_; clear Y
  refine sv_ gA7_4_9 (ya_ rfl h35) fun a460 e => ?_
  clear h34 h35; have h10 := pt_ F e; replace F := pu_ F e; replace h8 := so_ e h8; replace h9 := so_ e h9; clear e
  refine st_end ?_
  replace h0 := F.of h0; replace h4 := F.of h4; replace h5 := F.of h5; replace h6 := F.of h6; replace h7 := F.of h7; have R := F.r; clear F
  change (cA7_14).wp _ _ _ _
  refine wp_seq (x := cA7_15) (y := cA7_16) ?_
  change (Code.region 5 OA7_5 false).wp _ _ _ _
  refine reg_in (l := [0, 1, 2, 3, 4, 5, 6, 7, 8, 9]) rfl ?_
  have F : FE_ _ [] a460 a460 := ⟨R, Ag_.refl _⟩; clear R
  refine sv_ gA7_5_0 (yl4_ rfl (F.of h4) B426) fun a461 e => ?_
  have h37 := pt_ F e; replace F := pu_ F e; clear e
  have hca := eval_numI (HTa.out.on K1) HEa.out
  refine st_call gA7_5_1 rfl (wanted_free rfl) (yc1_ enA7_10 rfl h37) ((hca).mono ?_)
  rintro e9 w462 ⟨aea, cea, rfl, hin, hx, kk⟩
  replace K1 := keep_onto K1 kk
  replace KXT := keep_onto KXT kk
  replace KXe0 := keep_onto KXe0 kk
  replace B426 := blk_on B426 kk
  replace B429 := blk_on B429 kk
  replace B439 := blk_on B439 kk
  replace B444 := blk_on B444 kk
  replace B455 := blk_on B455 kk
  clear kk
  have HXea := Lib.hid hx.at_; clear hx hca; have HIea := Lib.hid hin; clear hin
  have KXea := Keep.refl (fun g => g < w462.heap.size) w462
  refine ⟨_, rfl, fun a463 e => ?_⟩
  clear h37; have h38 := pt_ F e; replace F := pu_ F e; clear e
  refine sv_ gA7_5_2 (ym_ rfl h38) fun a464 e => ?_
  clear h38; have h36 := pt_ F e; replace F := pu_ F e; clear e
  refine sv_ gA7_5_3 (ye30_ rfl h36) fun a465 e => ?_
  have h39 := pt_ F e; replace F := pu_ F e; replace h36 := so_ e h36; clear e
  refine sv_ gA7_5_4 (ye31_ rfl h36) fun a466 e => ?_
  have h40 := pt_ F e; replace F := pu_ F e; replace h36 := so_ e h36; replace h39 := so_ e h39; clear e
  refine sv_ gA7_5_5 (ye32_ rfl h36) fun a467 e => ?_
  clear h36; have h41 := pt_ F e; replace F := pu_ F e; replace h39 := so_ e h39; replace h40 := so_ e h40; clear e
  have Y : (execOp a467.eval oA7_5_6).run Try.prog w462 = .ok (.value (.pointer (some ⟨w462.heap.size, 0, none⟩))) (w462.alloc (.cells #[.int .i64 0, .string (⟨#[]⟩), .int .i64 0, .slice none 0 0] 24)) := by unfold oA7_5_6; go_simp
  have B468 := Blk.new w462 24 #[.int .i64 0, .string (⟨#[]⟩), .int .i64 0, .slice none 0 0]
  obtain ⟨w469, hw⟩ : ∃ x, x = w462.alloc (.cells #[.int .i64 0, .string (⟨#[]⟩), .int .i64 0, .slice none 0 0] 24) := ⟨_, rfl⟩; rw [← hw] at Y B468
  obtain ⟨b468, hb⟩ : ∃ x, x = w462.heap.size := ⟨_, rfl⟩; rw [← hb] at Y B468
  have Nb426_b468 := nb_ hb B426; replace B426 := ba_ hw B426; have Nb429_b468 := nb_ hb B429; replace B429 := ba_ hw B429; have Nb439_b468 := nb_ hb B439; replace B439 := ba_ hw B439; have Nb444_b468 := nb_ hb B444; replace B444 := ba_ hw B444; have Nb455_b468 := nb_ hb B455; replace B455 := ba_ hw B455; have LK1_b468 := lk_ hb K1; replace K1 := ka_ hw K1; have LKXT_b468 := lk_ hb KXT; replace KXT := ka_ hw KXT; have LKXe0_b468 := lk_ hb KXe0; replace KXe0 := ka_ hw KXe0; have LKXea_b468 := lk_ hb KXea; replace KXea := ka_ hw KXea; clear hw hb
  refine sv_ gA7_5_6 Y fun a470 e => ?_; clear Y
  have h12 := pt_ F e; replace F := pu_ F e; replace h39 := so_ e h39; replace h40 := so_ e h40; replace h41 := so_ e h41; clear e
  refine sv_ gA7_5_7 (ya_ rfl h39) fun a471 e => ?_
  clear h39; have h11 := pt_ F e; replace F := pu_ F e; replace h12 := so_ e h12; replace h40 := so_ e h40; replace h41 := so_ e h41; clear e
  obtain ⟨w472, Y, hk, hB⟩ := ys4_ (o := oA7_5_8) rfl h12 h40 B468
  replace K1 := kx_ hk K1 (Nat.not_lt.2 LK1_b468); replace KXT := kx_ hk KXT (Nat.not_lt.2 LKXT_b468); replace KXe0 := kx_ hk KXe0 (Nat.not_lt.2 LKXe0_b468); replace KXea := kx_ hk KXea (Nat.not_lt.2 LKXea_b468); replace B426 := bx_ hk B426 Nb426_b468; replace B429 := bx_ hk B429 Nb429_b468; replace B439 := bx_ hk B439 Nb439_b468; replace B444 := bx_ hk B444 Nb444_b468; replace B455 := bx_ hk B455 Nb455_b468; clear B468; have B468 := hB; clear hB hk
  refine st_skip gA7_5_8 rfl (wanted_free rfl) Y ?_; clear Y
  refine sv_ gA7_5_9 (ya_ rfl h41) fun a473 e => ?_
  clear h40 h41; have h13 := pt_ F e; replace F := pu_ F e; replace h11 := so_ e h11; replace h12 := so_ e h12; clear e
  refine st_end ?_
  replace h0 := F.of h0; clear h4; replace h5 := F.of h5; replace h6 := F.of h6; replace h7 := F.of h7; replace h8 := F.of h8; replace h9 := F.of h9; replace h10 := F.of h10; have R := F.r; clear F
  change (cA7_16).wp _ _ _ _
  refine wp_seq (x := cA7_17) (y := cA7_18) ?_
  change (Code.region 6 OA7_6 false).wp _ _ _ _
  refine reg_in (l := [0, 1, 2, 3, 4, 5, 6, 7, 8, 9]) rfl ?_
  have F : FE_ _ [] a473 a473 := ⟨R, Ag_.refl _⟩; clear R
  refine sv_ gA7_6_0 (yl4_ rfl (F.of h5) B429) fun a474 e => ?_
  have h43 := pt_ F e; replace F := pu_ F e; clear e
  have hca := eval_numI (HTb.out.on K1) HEb.out
  refine st_call gA7_6_1 rfl (wanted_free rfl) (yc1_ enA7_10 rfl h43) ((hca).mono ?_)
  rintro e9 w475 ⟨aeb, ceb, rfl, hin, hx, kk⟩
  replace K1 := keep_onto K1 kk
  replace KXT := keep_onto KXT kk
  replace KXe0 := keep_onto KXe0 kk
  replace KXea := keep_onto KXea kk
  replace B426 := blk_on B426 kk
  replace B429 := blk_on B429 kk
  replace B439 := blk_on B439 kk
  replace B444 := blk_on B444 kk
  replace B455 := blk_on B455 kk
  replace B468 := blk_on B468 kk
  clear kk
  have HXeb := Lib.hid hx.at_; clear hx hca; have HIeb := Lib.hid hin; clear hin
  have KXeb := Keep.refl (fun g => g < w475.heap.size) w475
  refine ⟨_, rfl, fun a476 e => ?_⟩
  clear h43; have h44 := pt_ F e; replace F := pu_ F e; clear e
  refine sv_ gA7_6_2 (ym_ rfl h44) fun a477 e => ?_
  clear h44; have h42 := pt_ F e; replace F := pu_ F e; clear e
  refine sv_ gA7_6_3 (ye30_ rfl h42) fun a478 e => ?_
  have h45 := pt_ F e; replace F := pu_ F e; replace h42 := so_ e h42; clear e
  refine sv_ gA7_6_4 (ye31_ rfl h42) fun a479 e => ?_
  have h46 := pt_ F e; replace F := pu_ F e; replace h42 := so_ e h42; replace h45 := so_ e h45; clear e
  refine sv_ gA7_6_5 (ye32_ rfl h42) fun a480 e => ?_
  clear h42; have h47 := pt_ F e; replace F := pu_ F e; replace h45 := so_ e h45; replace h46 := so_ e h46; clear e
  have Y : (execOp a480.eval oA7_6_6).run Try.prog w475 = .ok (.value (.pointer (some ⟨w475.heap.size, 0, none⟩))) (w475.alloc (.cells #[.int .i64 0, .string (⟨#[]⟩), .int .i64 0, .slice none 0 0] 24)) := by unfold oA7_6_6; go_simp
  have B481 := Blk.new w475 24 #[.int .i64 0, .string (⟨#[]⟩), .int .i64 0, .slice none 0 0]
  obtain ⟨w482, hw⟩ : ∃ x, x = w475.alloc (.cells #[.int .i64 0, .string (⟨#[]⟩), .int .i64 0, .slice none 0 0] 24) := ⟨_, rfl⟩; rw [← hw] at Y B481
  obtain ⟨b481, hb⟩ : ∃ x, x = w475.heap.size := ⟨_, rfl⟩; rw [← hb] at Y B481
  have Nb426_b481 := nb_ hb B426; replace B426 := ba_ hw B426; have Nb429_b481 := nb_ hb B429; replace B429 := ba_ hw B429; have Nb439_b481 := nb_ hb B439; replace B439 := ba_ hw B439; have Nb444_b481 := nb_ hb B444; replace B444 := ba_ hw B444; have Nb455_b481 := nb_ hb B455; replace B455 := ba_ hw B455; have Nb468_b481 := nb_ hb B468; replace B468 := ba_ hw B468; have LK1_b481 := lk_ hb K1; replace K1 := ka_ hw K1; have LKXT_b481 := lk_ hb KXT; replace KXT := ka_ hw KXT; have LKXe0_b481 := lk_ hb KXe0; replace KXe0 := ka_ hw KXe0; have LKXea_b481 := lk_ hb KXea; replace KXea := ka_ hw KXea; have LKXeb_b481 := lk_ hb KXeb; replace KXeb := ka_ hw KXeb; clear hw hb
  refine sv_ gA7_6_6 Y fun a483 e => ?_; clear Y
  have h15 := pt_ F e; replace F := pu_ F e; replace h45 := so_ e h45; replace h46 := so_ e h46; replace h47 := so_ e h47; clear e
  refine sv_ gA7_6_7 (ya_ rfl h45) fun a484 e => ?_
  clear h45; have h14 := pt_ F e; replace F := pu_ F e; replace h15 := so_ e h15; replace h46 := so_ e h46; replace h47 := so_ e h47; clear e
  obtain ⟨w485, Y, hk, hB⟩ := ys4_ (o := oA7_6_8) rfl h15 h46 B481
  replace K1 := kx_ hk K1 (Nat.not_lt.2 LK1_b481); replace KXT := kx_ hk KXT (Nat.not_lt.2 LKXT_b481); replace KXe0 := kx_ hk KXe0 (Nat.not_lt.2 LKXe0_b481); replace KXea := kx_ hk KXea (Nat.not_lt.2 LKXea_b481); replace KXeb := kx_ hk KXeb (Nat.not_lt.2 LKXeb_b481); replace B426 := bx_ hk B426 Nb426_b481; replace B429 := bx_ hk B429 Nb429_b481; replace B439 := bx_ hk B439 Nb439_b481; replace B444 := bx_ hk B444 Nb444_b481; replace B455 := bx_ hk B455 Nb455_b481; replace B468 := bx_ hk B468 Nb468_b481; clear B481; have B481 := hB; clear hB hk
  refine st_skip gA7_6_8 rfl (wanted_free rfl) Y ?_; clear Y
  refine sv_ gA7_6_9 (ya_ rfl h47) fun a486 e => ?_
  clear h46 h47; have h16 := pt_ F e; replace F := pu_ F e; replace h14 := so_ e h14; replace h15 := so_ e h15; clear e
  refine st_end ?_
  replace h0 := F.of h0; clear h5; replace h6 := F.of h6; replace h7 := F.of h7; replace h8 := F.of h8; replace h9 := F.of h9; replace h10 := F.of h10; replace h11 := F.of h11; replace h12 := F.of h12; replace h13 := F.of h13; have R := F.r; clear F
  change (cA7_18).wp _ _ _ _
  refine wp_seq (x := cA7_19) (y := cA7_26) ?_
  refine wp_seq (x := cA7_20) (y := cA7_21) ?_
  change (Code.region 7 OA7_7 false).wp _ _ _ _
  refine reg_in (l := [0, 1, 2]) rfl ?_
  have F : FE_ _ [] a486 a486 := ⟨R, Ag_.refl _⟩; clear R
  refine sv_ gA7_7_0 (yl4_ rfl (F.of h7) B444) fun a487 e => ?_
  have h48 := pt_ F e; replace F := pu_ F e; clear e
  refine st_call gA7_7_1 rfl (wanted_free rfl) (yc1_ enA7_11 rfl h48) ((right_is (HXT.out.on KXT) HR.out).mono ?_)
  rintro e9 w488 ⟨rfl, kk⟩
  replace K1 := keep_onto K1 kk
  replace KXT := keep_onto KXT kk
  replace KXe0 := keep_onto KXe0 kk
  replace KXea := keep_onto KXea kk
  replace KXeb := keep_onto KXeb kk
  replace B426 := blk_on B426 kk
  replace B429 := blk_on B429 kk
  replace B439 := blk_on B439 kk
  replace B444 := blk_on B444 kk
  replace B455 := blk_on B455 kk
  replace B468 := blk_on B468 kk
  replace B481 := blk_on B481 kk
  clear kk
  refine ⟨_, rfl, fun a489 e => ?_⟩
  clear h48; have h49 := pt_ F e; replace F := pu_ F e; clear e
  have Y : (execOp a489.eval oA7_7_2).run Try.prog w488 = .ok (.value (.bool false)) w488 := by unfold oA7_7_2; go_simp
  refine sv_ gA7_7_2 Y fun a490 e => ?_; clear Y
  clear h49; have h50 := pt_ F e; replace F := pu_ F e; clear e
  refine st_end ?_
  replace h0 := F.of h0; replace h6 := F.of h6; clear h7; replace h8 := F.of h8; replace h9 := F.of h9; replace h10 := F.of h10; replace h11 := F.of h11; replace h12 := F.of h12; replace h13 := F.of h13; replace h14 := F.of h14; replace h15 := F.of h15; replace h16 := F.of h16; have R := F.r; clear F
  change (cA7_21).wp _ _ _ _
  refine wp_cond_false (x := cA7_22) (y := Code.skip) (eval_slot h50) ?_
  refine wp_skip ?_
  change (cA7_26).wp _ _ _ _
  refine wp_seq (x := cA7_27) (y := cA7_28) ?_
  change (Code.region 9 OA7_9 false).wp _ _ _ _
  refine reg_in (l := [0, 1, 2, 3, 4, 5, 6, 7, 8, 9, 10]) rfl ?_
  have F : FE_ _ [] a490 a490 := ⟨R, Ag_.refl _⟩; clear R
  refine sv_ gA7_9_0 (ym_ rfl (F.of h0)) fun a491 e => ?_
  have h59 := pt_ F e; replace F := pu_ F e; clear e
  have Y : (execOp a491.eval oA7_9_1).run Try.prog w488 = .ok (.enter 14 #[.string (str nm), .int .i64 1, .int .i64 1]) w488 := by unfold oA7_9_1; go_simp
  refine st_call gA7_9_1 rfl (wanted_free rfl) Y ((opT_any (W := w488) (nm := nm) (i := 1) (k := 1) HNM.out (by decide) (by decide)).mono ?_); clear Y
  rintro e9 w492 ⟨ao, co, rfl, hx, kk⟩
  replace K1 := keep_onto K1 kk
  replace KXT := keep_onto KXT kk
  replace KXe0 := keep_onto KXe0 kk
  replace KXea := keep_onto KXea kk
  replace KXeb := keep_onto KXeb kk
  replace B426 := blk_on B426 kk
  replace B429 := blk_on B429 kk
  replace B439 := blk_on B439 kk
  replace B444 := blk_on B444 kk
  replace B455 := blk_on B455 kk
  replace B468 := blk_on B468 kk
  replace B481 := blk_on B481 kk
  clear kk
  have HXo := Lib.hid hx.at_; clear hx
  have KXo := Keep.refl (fun g => g < w492.heap.size) w492
  refine ⟨_, rfl, fun a493 e => ?_⟩
  clear h59; have h60 := pt_ F e; replace F := pu_ F e; clear e
  have hca := eval_numI (HXo.out.on KXo) HE1.out
  refine st_call gA7_9_2 rfl (wanted_free rfl) (yc1_ enA7_10 rfl h60) ((hca).mono ?_)
  rintro e9 w494 ⟨aow, cow, rfl, hin, hx, kk⟩
  replace K1 := keep_onto K1 kk
  replace KXT := keep_onto KXT kk
  replace KXe0 := keep_onto KXe0 kk
  replace KXea := keep_onto KXea kk
  replace KXeb := keep_onto KXeb kk
  replace KXo := keep_onto KXo kk
  replace B426 := blk_on B426 kk
  replace B429 := blk_on B429 kk
  replace B439 := blk_on B439 kk
  replace B444 := blk_on B444 kk
  replace B455 := blk_on B455 kk
  replace B468 := blk_on B468 kk
  replace B481 := blk_on B481 kk
  clear kk
  have HXow := Lib.hid hx.at_; clear hx hca; have HIow := Lib.hid hin; clear hin
  have KXow := Keep.refl (fun g => g < w494.heap.size) w494
  refine ⟨_, rfl, fun a495 e => ?_⟩
  clear h60; have h61 := pt_ F e; replace F := pu_ F e; clear e
  refine sv_ gA7_9_3 (ym_ rfl h61) fun a496 e => ?_
  clear h61; have h58 := pt_ F e; replace F := pu_ F e; clear e
  refine sv_ gA7_9_4 (ye30_ rfl h58) fun a497 e => ?_
  have h62 := pt_ F e; replace F := pu_ F e; replace h58 := so_ e h58; clear e
  refine sv_ gA7_9_5 (ye31_ rfl h58) fun a498 e => ?_
  have h63 := pt_ F e; replace F := pu_ F e; replace h58 := so_ e h58; replace h62 := so_ e h62; clear e
  refine sv_ gA7_9_6 (ye32_ rfl h58) fun a499 e => ?_
  clear h58; have h64 := pt_ F e; replace F := pu_ F e; replace h62 := so_ e h62; replace h63 := so_ e h63; clear e
  have Y : (execOp a499.eval oA7_9_7).run Try.prog w494 = .ok (.value (.pointer (some ⟨w494.heap.size, 0, none⟩))) (w494.alloc (.cells #[.int .i64 0, .string (⟨#[]⟩), .int .i64 0, .slice none 0 0] 24)) := by unfold oA7_9_7; go_simp
  have B500 := Blk.new w494 24 #[.int .i64 0, .string (⟨#[]⟩), .int .i64 0, .slice none 0 0]
  obtain ⟨w501, hw⟩ : ∃ x, x = w494.alloc (.cells #[.int .i64 0, .string (⟨#[]⟩), .int .i64 0, .slice none 0 0] 24) := ⟨_, rfl⟩; rw [← hw] at Y B500
  obtain ⟨b500, hb⟩ : ∃ x, x = w494.heap.size := ⟨_, rfl⟩; rw [← hb] at Y B500
  have Nb426_b500 := nb_ hb B426; replace B426 := ba_ hw B426; have Nb429_b500 := nb_ hb B429; replace B429 := ba_ hw B429; have Nb439_b500 := nb_ hb B439; replace B439 := ba_ hw B439; have Nb444_b500 := nb_ hb B444; replace B444 := ba_ hw B444; have Nb455_b500 := nb_ hb B455; replace B455 := ba_ hw B455; have Nb468_b500 := nb_ hb B468; replace B468 := ba_ hw B468; have Nb481_b500 := nb_ hb B481; replace B481 := ba_ hw B481; have LK1_b500 := lk_ hb K1; replace K1 := ka_ hw K1; have LKXT_b500 := lk_ hb KXT; replace KXT := ka_ hw KXT; have LKXe0_b500 := lk_ hb KXe0; replace KXe0 := ka_ hw KXe0; have LKXea_b500 := lk_ hb KXea; replace KXea := ka_ hw KXea; have LKXeb_b500 := lk_ hb KXeb; replace KXeb := ka_ hw KXeb; have LKXo_b500 := lk_ hb KXo; replace KXo := ka_ hw KXo; have LKXow_b500 := lk_ hb KXow; replace KXow := ka_ hw KXow; clear hw hb
  refine sv_ gA7_9_7 Y fun a502 e => ?_; clear Y
  have h18 := pt_ F e; replace F := pu_ F e; replace h62 := so_ e h62; replace h63 := so_ e h63; replace h64 := so_ e h64; clear e
  refine sv_ gA7_9_8 (ya_ rfl h62) fun a503 e => ?_
  clear h62; have h17 := pt_ F e; replace F := pu_ F e; replace h18 := so_ e h18; replace h63 := so_ e h63; replace h64 := so_ e h64; clear e
  obtain ⟨w504, Y, hk, hB⟩ := ys4_ (o := oA7_9_9) rfl h18 h63 B500
  replace K1 := kx_ hk K1 (Nat.not_lt.2 LK1_b500); replace KXT := kx_ hk KXT (Nat.not_lt.2 LKXT_b500); replace KXe0 := kx_ hk KXe0 (Nat.not_lt.2 LKXe0_b500); replace KXea := kx_ hk KXea (Nat.not_lt.2 LKXea_b500); replace KXeb := kx_ hk KXeb (Nat.not_lt.2 LKXeb_b500); replace KXo := kx_ hk KXo (Nat.not_lt.2 LKXo_b500); replace KXow := kx_ hk KXow (Nat.not_lt.2 LKXow_b500); replace B426 := bx_ hk B426 Nb426_b500; replace B429 := bx_ hk B429 Nb429_b500; replace B439 := bx_ hk B439 Nb439_b500; replace B444 := bx_ hk B444 Nb444_b500; replace B455 := bx_ hk B455 Nb455_b500; replace B468 := bx_ hk B468 Nb468_b500; replace B481 := bx_ hk B481 Nb481_b500; clear B500; have B500 := hB; clear hB hk
  refine st_skip gA7_9_9 rfl (wanted_free rfl) Y ?_; clear Y
  refine sv_ gA7_9_10 (ya_ rfl h64) fun a505 e => ?_
  clear h63 h64; have h19 := pt_ F e; replace F := pu_ F e; replace h17 := so_ e h17; replace h18 := so_ e h18; clear e
  refine st_end ?_
  replace h0 := F.of h0; replace h6 := F.of h6; replace h8 := F.of h8; replace h9 := F.of h9; replace h10 := F.of h10; replace h11 := F.of h11; replace h12 := F.of h12; replace h13 := F.of h13; replace h14 := F.of h14; replace h15 := F.of h15; replace h16 := F.of h16; clear h50; have R := F.r; clear F
  change (cA7_28).wp _ _ _ _
  refine wp_seq (x := cA7_29) (y := cA7_36) ?_
  refine wp_seq (x := cA7_30) (y := cA7_31) ?_
  change (Code.region 10 OA7_10 false).wp _ _ _ _
  refine reg_in (l := [0, 1, 2, 3, 4, 5, 6, 7, 8, 9, 10, 11, 12, 13, 14, 15, 16, 17, 18, 19, 20]) rfl ?_
  have F : FE_ _ [] a505 a505 := ⟨R, Ag_.refl _⟩; clear R
  refine sv_ gA7_10_0 (ym_ rfl (F.of h19)) fun a506 e => ?_
  have h65 := pt_ F e; replace F := pu_ F e; clear e
  have Y : (execOp a506.eval oA7_10_1).run Try.prog w504 = .ok (.value (.bool false)) w504 := by unfold oA7_10_1; go_simp
  refine sv_ gA7_10_1 Y fun a507 e => ?_; clear Y
  clear h65; have h66 := pt_ F e; replace F := pu_ F e; clear e
  refine sv_ gA7_10_2 (ym_ rfl h66) fun a508 e => ?_
  clear h66; have h67 := pt_ F e; replace F := pu_ F e; clear e
  refine st_not gA7_10_3 rfl (wanted_is (j := 2) (d := 67) rfl rfl h67 rfl) fun a509 e => ?_
  have h68 := pt_ F e; replace F := pu_ F e; replace h67 := so_ e h67; clear e
  refine st_not gA7_10_4 rfl (wanted_is (j := 2) (d := 67) rfl rfl h67 rfl) fun a510 e => ?_
  clear h68; have h69 := pt_ F e; replace F := pu_ F e; replace h67 := so_ e h67; clear e
  refine st_not gA7_10_5 rfl (wanted_is (j := 2) (d := 67) rfl rfl h67 rfl) fun a511 e => ?_
  clear h69; have h70 := pt_ F e; replace F := pu_ F e; replace h67 := so_ e h67; clear e
  have Y : (execOp a511.eval oA7_10_6).run Try.prog w504 = .ok (.value (.bool false)) w504 := by unfold oA7_10_6; go_simp
  refine sv_ gA7_10_6 Y fun a512 e => ?_; clear Y
  clear h67 h70; have h71 := pt_ F e; replace F := pu_ F e; clear e
  refine sv_ gA7_10_7 (ym_ rfl h71) fun a513 e => ?_
  clear h71; have h72 := pt_ F e; replace F := pu_ F e; clear e
  refine st_not gA7_10_8 rfl (wanted_is (j := 7) (d := 72) rfl rfl h72 rfl) fun a514 e => ?_
  have h73 := pt_ F e; replace F := pu_ F e; replace h72 := so_ e h72; clear e
  refine st_not gA7_10_9 rfl (wanted_is (j := 7) (d := 72) rfl rfl h72 rfl) fun a515 e => ?_
  clear h73; have h74 := pt_ F e; replace F := pu_ F e; replace h72 := so_ e h72; clear e
  refine st_not gA7_10_10 rfl (wanted_is (j := 7) (d := 72) rfl rfl h72 rfl) fun a516 e => ?_
  clear h74; have h75 := pt_ F e; replace F := pu_ F e; replace h72 := so_ e h72; clear e
  refine st_not gA7_10_11 rfl (wanted_is (j := 7) (d := 72) rfl rfl h72 rfl) fun a517 e => ?_
  clear h75; have h76 := pt_ F e; replace F := pu_ F e; replace h72 := so_ e h72; clear e
  have Y : (execOp a517.eval oA7_10_12).run Try.prog w504 = .ok (.value (.bool false)) w504 := by unfold oA7_10_12; go_simp
  refine sv_ gA7_10_12 Y fun a518 e => ?_; clear Y
  clear h72 h76; have h77 := pt_ F e; replace F := pu_ F e; clear e
  refine sv_ gA7_10_13 (ym_ rfl h77) fun a519 e => ?_
  clear h77; have h78 := pt_ F e; replace F := pu_ F e; clear e
  refine st_not gA7_10_14 rfl (wanted_is (j := 13) (d := 78) rfl rfl h78 rfl) fun a520 e => ?_
  have h79 := pt_ F e; replace F := pu_ F e; replace h78 := so_ e h78; clear e
  refine st_not gA7_10_15 rfl (wanted_is (j := 13) (d := 78) rfl rfl h78 rfl) fun a521 e => ?_
  clear h79; have h80 := pt_ F e; replace F := pu_ F e; replace h78 := so_ e h78; clear e
  refine st_not gA7_10_16 rfl (wanted_is (j := 13) (d := 78) rfl rfl h78 rfl) fun a522 e => ?_
  clear h80; have h81 := pt_ F e; replace F := pu_ F e; replace h78 := so_ e h78; clear e
  refine st_not gA7_10_17 rfl (wanted_is (j := 13) (d := 78) rfl rfl h78 rfl) fun a523 e => ?_
  clear h81; have h82 := pt_ F e; replace F := pu_ F e; replace h78 := so_ e h78; clear e
  refine st_not gA7_10_18 rfl (wanted_is (j := 13) (d := 78) rfl rfl h78 rfl) fun a524 e => ?_
  clear h82; have h83 := pt_ F e; replace F := pu_ F e; replace h78 := so_ e h78; clear e
  refine st_not gA7_10_19 rfl (wanted_is (j := 13) (d := 78) rfl rfl h78 rfl) fun a525 e => ?_
  clear h83; have h84 := pt_ F e; replace F := pu_ F e; replace h78 := so_ e h78; clear e
  have Y : (execOp a525.eval oA7_10_20).run Try.prog w504 = .ok (.value (.bool false)) w504 := by unfold oA7_10_20; go_simp
  refine sv_ gA7_10_20 Y fun a526 e => ?_; clear Y
  clear h78 h84; have h85 := pt_ F e; replace F := pu_ F e; clear e
  refine st_end ?_
  replace h0 := F.of h0; replace h6 := F.of h6; replace h8 := F.of h8; replace h9 := F.of h9; replace h10 := F.of h10; replace h11 := F.of h11; replace h12 := F.of h12; replace h13 := F.of h13; replace h14 := F.of h14; replace h15 := F.of h15; replace h16 := F.of h16; replace h17 := F.of h17; replace h18 := F.of h18; clear h19; have R := F.r; clear F
  change (cA7_31).wp _ _ _ _
  refine wp_cond_false (x := cA7_32) (y := Code.skip) (eval_slot h85) ?_
  refine wp_skip ?_
  change (cA7_36).wp _ _ _ _
  refine wp_seq (x := cA7_37) (y := cA7_44) ?_
  refine wp_seq (x := cA7_38) (y := cA7_39) ?_
  change (Code.region 12 OA7_12 false).wp _ _ _ _
  refine reg_in (l := [0, 1]) rfl ?_
  have F : FE_ _ [] a526 a526 := ⟨R, Ag_.refl _⟩; clear R
  refine sv_ gA7_12_0 (ym_ rfl (F.of h13)) fun a527 e => ?_
  have h101 := pt_ F e; replace F := pu_ F e; clear e
  have Y : (execOp a527.eval oA7_12_1).run Try.prog w504 = .ok (.value (.bool false)) w504 := by unfold oA7_12_1; go_simp
  refine sv_ gA7_12_1 Y fun a528 e => ?_; clear Y
  clear h101; have h102 := pt_ F e; replace F := pu_ F e; clear e
  refine st_end ?_
  replace h0 := F.of h0; replace h6 := F.of h6; replace h8 := F.of h8; replace h9 := F.of h9; replace h10 := F.of h10; replace h11 := F.of h11; replace h12 := F.of h12; clear h13; replace h14 := F.of h14; replace h15 := F.of h15; replace h16 := F.of h16; clear h17; clear h18; clear h85; have R := F.r; clear F
  change (cA7_39).wp _ _ _ _
  refine wp_cond_false (x := cA7_40) (y := Code.skip) (eval_slot h102) ?_
  refine wp_skip ?_
  change (cA7_44).wp _ _ _ _
  refine wp_seq (x := cA7_45) (y := cA7_52) ?_
  refine wp_seq (x := cA7_46) (y := cA7_47) ?_
  change (Code.region 14 OA7_14 false).wp _ _ _ _
  refine reg_in (l := [0, 1]) rfl ?_
  have F : FE_ _ [] a528 a528 := ⟨R, Ag_.refl _⟩; clear R
  refine sv_ gA7_14_0 (ym_ rfl (F.of h16)) fun a529 e => ?_
  have h114 := pt_ F e; replace F := pu_ F e; clear e
  have Y : (execOp a529.eval oA7_14_1).run Try.prog w504 = .ok (.value (.bool false)) w504 := by unfold oA7_14_1; go_simp
  refine sv_ gA7_14_1 Y fun a530 e => ?_; clear Y
  clear h114; have h115 := pt_ F e; replace F := pu_ F e; clear e
  refine st_end ?_
  replace h0 := F.of h0; replace h6 := F.of h6; replace h8 := F.of h8; replace h9 := F.of h9; replace h10 := F.of h10; replace h11 := F.of h11; clear h12; replace h14 := F.of h14; replace h15 := F.of h15; clear h16; clear h102; have R := F.r; clear F
  change (cA7_47).wp _ _ _ _
  refine wp_cond_false (x := cA7_48) (y := Code.skip) (eval_slot h115) ?_
  refine wp_skip ?_
  change (cA7_52).wp _ _ _ _
  refine wp_seq (x := cA7_53) (y := cA7_54) ?_
  change (Code.region 16 OA7_16 false).wp _ _ _ _
  refine reg_in (l := [0, 1, 2, 3, 4, 5, 6, 7, 8, 9, 10, 11, 12]) rfl ?_
  have F : FE_ _ [] a530 a530 := ⟨R, Ag_.refl _⟩; clear R
  refine sv_ gA7_16_0 (ym_ rfl (F.of h0)) fun a531 e => ?_
  have h128 := pt_ F e; replace F := pu_ F e; clear e
  refine sv_ gA7_16_1 (ym_ rfl (F.of h11)) fun a532 e => ?_
  have h129 := pt_ F e; replace F := pu_ F e; replace h128 := so_ e h128; clear e
  refine sv_ gA7_16_2 (ym_ rfl (F.of h14)) fun a533 e => ?_
  have h130 := pt_ F e; replace F := pu_ F e; replace h128 := so_ e h128; replace h129 := so_ e h129; clear e
  have Y : (execOp a533.eval oA7_16_3).run Try.prog w504 = .ok (.enter 14 #[.string (str nm), .int .i64 xa, .int .i64 xb]) w504 := by unfold oA7_16_3; go_simp
  refine st_call gA7_16_3 rfl (wanted_free rfl) Y ((opT_any (W := w504) (nm := nm) (i := xa) (k := xb) HNM.out (ik_wf HIea.out.1 HIea.out.2) (ik_wf HIeb.out.1 HIeb.out.2)).mono ?_); clear Y
  rintro e9 w534 ⟨ap, cp, rfl, hx, kk⟩
  replace K1 := keep_onto K1 kk
  replace KXT := keep_onto KXT kk
  replace KXe0 := keep_onto KXe0 kk
  replace KXea := keep_onto KXea kk
  replace KXeb := keep_onto KXeb kk
  replace KXo := keep_onto KXo kk
  replace KXow := keep_onto KXow kk
  replace B426 := blk_on B426 kk
  replace B429 := blk_on B429 kk
  replace B439 := blk_on B439 kk
  replace B444 := blk_on B444 kk
  replace B455 := blk_on B455 kk
  replace B468 := blk_on B468 kk
  replace B481 := blk_on B481 kk
  replace B500 := blk_on B500 kk
  clear kk
  have HXp := Lib.hid hx.at_; clear hx
  have KXp := Keep.refl (fun g => g < w534.heap.size) w534
  refine ⟨_, rfl, fun a535 e => ?_⟩
  clear h128 h129 h130; have h131 := pt_ F e; replace F := pu_ F e; clear e
  have hca := eval_gen (HXp.out.on KXp)
  rw [HEp.out] at hca; rw [HKZ.out] at hca
  refine st_call gA7_16_4 rfl (wanted_free rfl) (yc1_ enA7_10 rfl h131) ((hca).mono ?_)
  rintro e9 w536 ⟨aep, cep, rfl, hx, kk⟩
  replace K1 := keep_onto K1 kk
  replace KXT := keep_onto KXT kk
  replace KXe0 := keep_onto KXe0 kk
  replace KXea := keep_onto KXea kk
  replace KXeb := keep_onto KXeb kk
  replace KXo := keep_onto KXo kk
  replace KXow := keep_onto KXow kk
  replace KXp := keep_onto KXp kk
  replace B426 := blk_on B426 kk
  replace B429 := blk_on B429 kk
  replace B439 := blk_on B439 kk
  replace B444 := blk_on B444 kk
  replace B455 := blk_on B455 kk
  replace B468 := blk_on B468 kk
  replace B481 := blk_on B481 kk
  replace B500 := blk_on B500 kk
  clear kk
  have HXep := Lib.hid hx.at_; clear hx hca
  have KXep := Keep.refl (fun g => g < w536.heap.size) w536
  refine ⟨_, rfl, fun a537 e => ?_⟩
  clear h131; have h132 := pt_ F e; replace F := pu_ F e; clear e
  refine sv_ gA7_16_5 (ym_ rfl h132) fun a538 e => ?_
  clear h132; have h127 := pt_ F e; replace F := pu_ F e; clear e
  refine sv_ gA7_16_6 (ye30_ rfl h127) fun a539 e => ?_
  have h133 := pt_ F e; replace F := pu_ F e; replace h127 := so_ e h127; clear e
  refine sv_ gA7_16_7 (ye31_ rfl h127) fun a540 e => ?_
  have h134 := pt_ F e; replace F := pu_ F e; replace h127 := so_ e h127; replace h133 := so_ e h133; clear e
  refine sv_ gA7_16_8 (ye32_ rfl h127) fun a541 e => ?_
  clear h127; have h135 := pt_ F e; replace F := pu_ F e; replace h133 := so_ e h133; replace h134 := so_ e h134; clear e
  have Y : (execOp a541.eval oA7_16_9).run Try.prog w536 = .ok (.value (.pointer (some ⟨w536.heap.size, 0, none⟩))) (w536.alloc (.cells #[.int .i64 0, .string (⟨#[]⟩), .int .i64 0, .slice none 0 0] 24)) := by unfold oA7_16_9; go_simp
  have B542 := Blk.new w536 24 #[.int .i64 0, .string (⟨#[]⟩), .int .i64 0, .slice none 0 0]
  obtain ⟨w543, hw⟩ : ∃ x, x = w536.alloc (.cells #[.int .i64 0, .string (⟨#[]⟩), .int .i64 0, .slice none 0 0] 24) := ⟨_, rfl⟩; rw [← hw] at Y B542
  obtain ⟨b542, hb⟩ : ∃ x, x = w536.heap.size := ⟨_, rfl⟩; rw [← hb] at Y B542
  have Nb426_b542 := nb_ hb B426; replace B426 := ba_ hw B426; have Nb429_b542 := nb_ hb B429; replace B429 := ba_ hw B429; have Nb439_b542 := nb_ hb B439; replace B439 := ba_ hw B439; have Nb444_b542 := nb_ hb B444; replace B444 := ba_ hw B444; have Nb455_b542 := nb_ hb B455; replace B455 := ba_ hw B455; have Nb468_b542 := nb_ hb B468; replace B468 := ba_ hw B468; have Nb481_b542 := nb_ hb B481; replace B481 := ba_ hw B481; have Nb500_b542 := nb_ hb B500; replace B500 := ba_ hw B500; have LK1_b542 := lk_ hb K1; replace K1 := ka_ hw K1; have LKXT_b542 := lk_ hb KXT; replace KXT := ka_ hw KXT; have LKXe0_b542 := lk_ hb KXe0; replace KXe0 := ka_ hw KXe0; have LKXea_b542 := lk_ hb KXea; replace KXea := ka_ hw KXea; have LKXeb_b542 := lk_ hb KXeb; replace KXeb := ka_ hw KXeb; have LKXo_b542 := lk_ hb KXo; replace KXo := ka_ hw KXo; have LKXow_b542 := lk_ hb KXow; replace KXow := ka_ hw KXow; have LKXp_b542 := lk_ hb KXp; replace KXp := ka_ hw KXp; have LKXep_b542 := lk_ hb KXep; replace KXep := ka_ hw KXep; clear hw hb
  refine sv_ gA7_16_9 Y fun a544 e => ?_; clear Y
  have h21 := pt_ F e; replace F := pu_ F e; replace h133 := so_ e h133; replace h134 := so_ e h134; replace h135 := so_ e h135; clear e
  refine sv_ gA7_16_10 (ya_ rfl h133) fun a545 e => ?_
  clear h133; have h20 := pt_ F e; replace F := pu_ F e; replace h21 := so_ e h21; replace h134 := so_ e h134; replace h135 := so_ e h135; clear e
  obtain ⟨w546, Y, hk, hB⟩ := ys4_ (o := oA7_16_11) rfl h21 h134 B542
  replace K1 := kx_ hk K1 (Nat.not_lt.2 LK1_b542); replace KXT := kx_ hk KXT (Nat.not_lt.2 LKXT_b542); replace KXe0 := kx_ hk KXe0 (Nat.not_lt.2 LKXe0_b542); replace KXea := kx_ hk KXea (Nat.not_lt.2 LKXea_b542); replace KXeb := kx_ hk KXeb (Nat.not_lt.2 LKXeb_b542); replace KXo := kx_ hk KXo (Nat.not_lt.2 LKXo_b542); replace KXow := kx_ hk KXow (Nat.not_lt.2 LKXow_b542); replace KXp := kx_ hk KXp (Nat.not_lt.2 LKXp_b542); replace KXep := kx_ hk KXep (Nat.not_lt.2 LKXep_b542); replace B426 := bx_ hk B426 Nb426_b542; replace B429 := bx_ hk B429 Nb429_b542; replace B439 := bx_ hk B439 Nb439_b542; replace B444 := bx_ hk B444 Nb444_b542; replace B455 := bx_ hk B455 Nb455_b542; replace B468 := bx_ hk B468 Nb468_b542; replace B481 := bx_ hk B481 Nb481_b542; replace B500 := bx_ hk B500 Nb500_b542; clear B542; have B542 := hB; clear hB hk
  refine st_skip gA7_16_11 rfl (wanted_free rfl) Y ?_; clear Y
  refine sv_ gA7_16_12 (ya_ rfl h135) fun a547 e => ?_
  clear h134 h135; have h22 := pt_ F e; replace F := pu_ F e; replace h20 := so_ e h20; replace h21 := so_ e h21; clear e
  refine st_end ?_
  clear h0; replace h6 := F.of h6; replace h8 := F.of h8; replace h9 := F.of h9; replace h10 := F.of h10; clear h11; clear h14; clear h15; clear h115; have R := F.r; clear F
  change (cA7_54).wp _ _ _ _
  refine wp_seq (x := cA7_55) (y := Code.ret) ?_
  change (Code.region 17 OA7_17 false).wp _ _ _ _
  refine reg_in (l := [0, 1, 2, 3, 4, 5, 6, 7, 8, 9, 10, 11, 12, 13]) rfl ?_
  have F : FE_ _ [] a547 a547 := ⟨R, Ag_.refl _⟩; clear R
  refine sv_ gA7_17_0 (ym_ rfl (F.of h8)) fun a548 e => ?_
  have h136 := pt_ F e; replace F := pu_ F e; clear e
  refine sv_ gA7_17_1 (ym_ rfl (F.of h20)) fun a549 e => ?_
  have h137 := pt_ F e; replace F := pu_ F e; replace h136 := so_ e h136; clear e
  have Y : (execOp a549.eval oA7_17_2).run Try.prog w546 = .ok (.value (.bool true)) w546 := by unfold oA7_17_2; go_simp
  refine sv_ gA7_17_2 Y fun a550 e => ?_; clear Y
  clear h136 h137; have h138 := pt_ F e; replace F := pu_ F e; clear e
  refine sv_ gA7_17_3 (ym_ rfl h138) fun a551 e => ?_
  clear h138; have h139 := pt_ F e; replace F := pu_ F e; clear e
  refine st_val gA7_17_4 rfl (wanted_is (j := 3) (d := 139) rfl rfl h139 rfl) (ym_ rfl (F.of h10)) fun a552 e => ?_
  have h140 := pt_ F e; replace F := pu_ F e; replace h139 := so_ e h139; clear e
  refine st_val gA7_17_5 rfl (wanted_is (j := 3) (d := 139) rfl rfl h139 rfl) (ym_ rfl (F.of h22)) fun a553 e => ?_
  have h141 := pt_ F e; replace F := pu_ F e; replace h139 := so_ e h139; replace h140 := so_ e h140; clear e
  cases kz with
  | false =>
    have Y : (execOp a553.eval oA7_17_6).run Try.prog w546 = .ok (.value (.bool true)) w546 := by unfold oA7_17_6; go_simp
    refine st_val gA7_17_6 rfl (wanted_is (j := 3) (d := 139) rfl rfl h139 rfl) Y fun a554 e => ?_; clear Y
    clear h140 h141; have h142 := pt_ F e; replace F := pu_ F e; replace h139 := so_ e h139; clear e
    have Y : (execOp a554.eval oA7_17_7).run Try.prog w546 = .ok (.value (.bool true)) w546 := by unfold oA7_17_7; go_simp
    refine sv_ gA7_17_7 Y fun a555 e => ?_; clear Y
    clear h139 h142; have h143 := pt_ F e; replace F := pu_ F e; clear e
    refine sv_ gA7_17_8 (ym_ rfl h143) fun a556 e => ?_
    clear h143; have h144 := pt_ F e; replace F := pu_ F e; clear e
    refine st_val gA7_17_9 rfl (wanted_is (j := 8) (d := 144) rfl rfl h144 rfl) (yl4_ rfl (F.of h9) B455) fun a557 e => ?_
    have h145 := pt_ F e; replace F := pu_ F e; replace h144 := so_ e h144; clear e
    refine st_val gA7_17_10 rfl (wanted_is (j := 8) (d := 144) rfl rfl h144 rfl) (yl4_ rfl (F.of h21) B542) fun a558 e => ?_
    have h146 := pt_ F e; replace F := pu_ F e; replace h144 := so_ e h144; replace h145 := so_ e h145; clear e
    refine st_call gA7_17_11 rfl (wanted_is (j := 8) (d := 144) rfl rfl h144 rfl) (yc2_ enA7_13 rfl h145 h146) ((like_ok (HXe0.out.on KXe0) (HXep.out.on KXep) (balP_refl HP.out)).mono ?_)
    rintro e9 w559 ⟨rfl, kk⟩
    replace K1 := keep_onto K1 kk
    replace KXT := keep_onto KXT kk
    replace KXe0 := keep_onto KXe0 kk
    replace KXea := keep_onto KXea kk
    replace KXeb := keep_onto KXeb kk
    replace KXo := keep_onto KXo kk
    replace KXow := keep_onto KXow kk
    replace KXp := keep_onto KXp kk
    replace KXep := keep_onto KXep kk
    replace B426 := blk_on B426 kk
    replace B429 := blk_on B429 kk
    replace B439 := blk_on B439 kk
    replace B444 := blk_on B444 kk
    replace B455 := blk_on B455 kk
    replace B468 := blk_on B468 kk
    replace B481 := blk_on B481 kk
    replace B500 := blk_on B500 kk
    replace B542 := blk_on B542 kk
    clear kk
    refine ⟨_, rfl, fun a560 e => ?_⟩
    clear h145 h146; have h147 := pt_ F e; replace F := pu_ F e; replace h144 := so_ e h144; clear e
    have Y : (execOp a560.eval oA7_17_12).run Try.prog w559 = .ok (.value (.bool true)) w559 := by unfold oA7_17_12; go_simp
    refine sv_ gA7_17_12 Y fun a561 e => ?_; clear Y
    clear h144 h147; have h148 := pt_ F e; replace F := pu_ F e; clear e
    refine sv_ gA7_17_13 (ya_ rfl h148) fun a562 e => ?_
    clear h148 h6; have h6 := pt_ F e; replace F := pu_ F e; clear e
    refine st_end ?_
    clear h8; clear h9; clear h10; clear h20; clear h21; clear h22; have R := F.r; clear F
    change (Code.ret).wp _ _ _ _
    refine wp_ret ?_
    change bodyPost Try.prog Try.f7 (fun e w' => e = .returned (.bool true) ∧ Keep (fun g => g < W.heap.size) W w') .ret a562 w559
    refine ret_one rfl R h6 ?_
    exact ⟨rfl, K1⟩
  | true =>
    have Y : (execOp a553.eval oA7_17_6).run Try.prog w546 = .ok (.value (.bool true)) w546 := by unfold oA7_17_6; go_simp
    refine st_val gA7_17_6 rfl (wanted_is (j := 3) (d := 139) rfl rfl h139 rfl) Y fun a563 e => ?_; clear Y
    clear h140 h141; have h142 := pt_ F e; replace F := pu_ F e; replace h139 := so_ e h139; clear e
    have Y : (execOp a563.eval oA7_17_7).run Try.prog w546 = .ok (.value (.bool true)) w546 := by unfold oA7_17_7; go_simp
    refine sv_ gA7_17_7 Y fun a564 e => ?_; clear Y
    clear h139 h142; have h143 := pt_ F e; replace F := pu_ F e; clear e
    refine sv_ gA7_17_8 (ym_ rfl h143) fun a565 e => ?_
    clear h143; have h144 := pt_ F e; replace F := pu_ F e; clear e
    refine st_val gA7_17_9 rfl (wanted_is (j := 8) (d := 144) rfl rfl h144 rfl) (yl4_ rfl (F.of h9) B455) fun a566 e => ?_
    have h145 := pt_ F e; replace F := pu_ F e; replace h144 := so_ e h144; clear e
    refine st_val gA7_17_10 rfl (wanted_is (j := 8) (d := 144) rfl rfl h144 rfl) (yl4_ rfl (F.of h21) B542) fun a567 e => ?_
    have h146 := pt_ F e; replace F := pu_ F e; replace h144 := so_ e h144; replace h145 := so_ e h145; clear e
    refine st_call gA7_17_11 rfl (wanted_is (j := 8) (d := 144) rfl rfl h144 rfl) (yc2_ enA7_13 rfl h145 h146) ((like_ok (HXe0.out.on KXe0) (HXep.out.on KXep) (balP_refl HP.out)).mono ?_)
    rintro e9 w568 ⟨rfl, kk⟩
    replace K1 := keep_onto K1 kk
    replace KXT := keep_onto KXT kk
    replace KXe0 := keep_onto KXe0 kk
    replace KXea := keep_onto KXea kk
    replace KXeb := keep_onto KXeb kk
    replace KXo := keep_onto KXo kk
    replace KXow := keep_onto KXow kk
    replace KXp := keep_onto KXp kk
    replace KXep := keep_onto KXep kk
    replace B426 := blk_on B426 kk
    replace B429 := blk_on B429 kk
    replace B439 := blk_on B439 kk
    replace B444 := blk_on B444 kk
    replace B455 := blk_on B455 kk
    replace B468 := blk_on B468 kk
    replace B481 := blk_on B481 kk
    replace B500 := blk_on B500 kk
    replace B542 := blk_on B542 kk
    clear kk
    refine ⟨_, rfl, fun a569 e => ?_⟩
    clear h145 h146; have h147 := pt_ F e; replace F := pu_ F e; replace h144 := so_ e h144; clear e
    have Y : (execOp a569.eval oA7_17_12).run Try.prog w568 = .ok (.value (.bool true)) w568 := by unfold oA7_17_12; go_simp
    refine sv_ gA7_17_12 Y fun a570 e => ?_; clear Y
    clear h144 h147; have h148 := pt_ F e; replace F := pu_ F e; clear e
    refine sv_ gA7_17_13 (ya_ rfl h148) fun a571 e => ?_
    clear h148 h6; have h6 := pt_ F e; replace F := pu_ F e; clear e
    refine st_end ?_
    clear h8; clear h9; clear h10; clear h20; clear h21; clear h22; have R := F.r; clear F
    change (Code.ret).wp _ _ _ _
    refine wp_ret ?_
    change bodyPost Try.prog Try.f7 (fun e w' => e = .returned (.bool true) ∧ Keep (fun g => g < W.heap.size) W w') .ret a571 w568
    refine ret_one rfl R h6 ?_
    exact ⟨rfl, K1⟩
theorem deep_walk {W : World} {nm : List UInt8} {ta tb : Tm} {pa pb : Option Addr} {ca cb : Nat} (hA : TmAt W.heap.size W ta pa ca) (hB : TmAt W.heap.size W tb pb cb) (hn : nm.length ≤ maxLen) : Calls Try.prog 7 #[.string (str nm), tv ta pa ca, tv tb pb cb] W fun e w' => e = .returned (.bool true) ∧ Keep (fun g => g < W.heap.size) W w' := by
  refine enter_sx Try.func7 bodyA7 rfl (by show (3 : Nat) ≤ 149; decide) fun f0 R hs => ?_
  cases hr : (twoT nm ta tb).right with
  | false => exact deep_w R (hs 0 _ rfl) (hs 1 _ rfl) (hs 2 _ rfl) (Keep.refl _ W) (Lib.hid hA) (Lib.hid hB) (Lib.hid hn) (Lib.hid hr) (Lib.hid (if_neg (by rw [hr]; decide)))
  | true =>
    have hl := (twoT_right hr).1
    cases hf : isFn nm 2 with
    | false => exact deep_n R (hs 0 _ rfl) (hs 1 _ rfl) (hs 2 _ rfl) (Keep.refl _ W) (Lib.hid hA) (Lib.hid hB) (Lib.hid hn) (Lib.hid hr) (Lib.hid (ev_twoN hr hf)) (Lib.hid (ev_opN hl hf)) (Lib.hid (right_two hr))
    | true =>
      obtain ⟨v1, h1⟩ := ev_op11 hf
      have hPa := evW_P ta
      have hPb := evW_P tb
      cases ha : evW ta with
      | bal b => rw [ha] at hPa; exact deep_l R (hs 0 _ rfl) (hs 1 _ rfl) (hs 2 _ rfl) (Keep.refl _ W) (Lib.hid hA) (Lib.hid hB) (Lib.hid hn) (Lib.hid hr) (Lib.hid (ev_two1 hr hf ha)) (Lib.hid h1) (Lib.hid ha) (Lib.hid hPa)
      | num xa =>
        cases hb : evW tb with
        | bal b => rw [hb] at hPb; exact deep_r R (hs 0 _ rfl) (hs 1 _ rfl) (hs 2 _ rfl) (Keep.refl _ W) (Lib.hid hA) (Lib.hid hB) (Lib.hid hn) (Lib.hid hr) (Lib.hid (ev_two2 hr hf ha hb)) (Lib.hid h1) (Lib.hid ha) (Lib.hid hb) (Lib.hid hPb)
        | num xb => exact deep_f R (hs 0 _ rfl) (hs 1 _ rfl) (hs 2 _ rfl) (Keep.refl _ W) (Lib.hid hA) (Lib.hid hB) (Lib.hid hn) (Lib.hid hr) (Lib.hid (ev_two3 hr hf ha hb)) (Lib.hid h1) (Lib.hid ha) (Lib.hid hb) (Lib.hid rfl) (Lib.hid rfl) (Lib.hid (evW_P _))
end Go.Proofs.Ytmgephleogiaoaa
