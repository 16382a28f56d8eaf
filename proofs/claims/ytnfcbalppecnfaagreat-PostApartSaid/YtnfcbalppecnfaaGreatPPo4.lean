/-
  Package post: one message is taken out of a row: walked with letter frames. No condition but where the row lies.
-/
import Derived.Test.YtnfcbalppecnfaaGreatPPo3
namespace Go.Proofs.YtnfcbalppecnfaaGreat
open Go.RowKit Go.Maps
set_option linter.unusedVariables false
set_option linter.unusedSimpArgs false
theorem st_drop {P : Program} {ops : Array Oper} {Q : Exit → Act → World → Prop} {i : Nat} {oi : Oper} {v : Value} {rest : List Nat} {a : Act} {w w' : World} (hi : ops[i]? = some oi) (hd : oi.dst = none) (hw : Region.wanted oi (yielded ops a.tmps) = true)
    (hy : (execOp a.eval oi).run P w = .ok (.value v) w') (h : wpOps P ops Q rest a w') : wpOps P ops Q (i :: rest) a w := by
  rw [wpOps_cons]
  unfold wpOp
  rw [hi]
  show if Region.wanted oi (yielded ops a.tmps) = true then _ else _
  rw [if_pos hw]
  refine Or.inl ?_
  show oi.upon P a _ Q ((execOp a.eval oi).run P w)
  rw [hy, Oper.upon_value, hd]
  exact h
section
variable {a : Act} {w : World} {o : Oper} {g n cap i t1 t2 t3 t4 : Nat}
theorem ysl3_ (ho : o.op = .slice 26 (.tmp t1) (some (.tmp t2)) (some (.tmp t3)) (some (.tmp t4))) (h8 : a.tmps[t1]? = some (.slice (some ⟨g, 0, none⟩) n cap)) (h9 : a.tmps[t2]? = some (.int .i64 (i : Int))) (h10 : a.tmps[t3]? = some (.int .i64 ((i : Int) + 1))) (h12 : a.tmps[t4]? = some (.int .i64 (n : Int))) (h1 : i < n) (h2 : n ≤ cap) : (execOp a.eval o).run Tryz.prog w = .ok (.value (.slice (some ⟨g, i * 4, none⟩) 1 (n - i))) w := by
  unfold execOp; simp only [ho]; go_simp
  rw [if_pos (by omega), if_neg (by omega)]
theorem yslt_ (ho : o.op = .slice 26 (.tmp t1) none (some (.tmp t2)) none) (h20 : a.tmps[t1]? = some (.slice (some ⟨g, 0, none⟩) n cap)) (h21 : a.tmps[t2]? = some (.int .i64 (i : Int))) (h1 : i < n) (h2 : n ≤ cap) : (execOp a.eval o).run Tryz.prog w = .ok (.value (.slice (some ⟨g, 0, none⟩) i cap)) w := by
  unfold execOp; simp only [ho]; go_simp
  intro h; omega
theorem yslf_ (ho : o.op = .slice 26 (.tmp t1) (some (.tmp t2)) none none) (h23 : a.tmps[t1]? = some (.slice (some ⟨g, 0, none⟩) n cap)) (h24 : a.tmps[t2]? = some (.int .i64 ((i : Int) + 1))) (h1 : i < n) (h2 : n ≤ cap) : (execOp a.eval o).run Tryz.prog w = .ok (.value (.slice (some ⟨g, if cap = i + 1 then 0 else (i + 1) * 4, none⟩) (n - (i + 1)) (cap - (i + 1)))) w := by
  unfold execOp; simp only [ho]; go_simp
  rw [if_pos (by omega)]
  have e : ((i : Int) + 1).toNat = i + 1 := by omega
  by_cases hc : cap = i + 1
  · simp [hc, e]
  · simp [hc, e]
theorem yslm_ (ho : o.op = .slice 26 (.tmp t1) (some (.tmp t2)) (some (.tmp t3)) none) (h23 : a.tmps[t1]? = some (.slice (some ⟨g, 0, none⟩) (n - 1) cap)) (h24 : a.tmps[t2]? = some (.int .i64 ((n - 1 : Nat) : Int))) (h30 : a.tmps[t3]? = some (.int .i64 (n : Int))) (h1 : i < n) (h2 : n ≤ cap) : (execOp a.eval o).run Tryz.prog w = .ok (.value (.slice (some ⟨g, (n - 1) * 4, none⟩) 1 (cap - (n - 1)))) w := by
  unfold execOp; simp only [ho]
  have h3 : n - 1 ≤ n := by omega
  have h4 : ((n - 1 : Nat) : Int) ≤ (n : Int) := by omega
  have h5 : (n : Int) ≤ (cap : Int) := by omega
  have h6 : ¬ cap = n - 1 := by omega
  have h7 : n - (n - 1) = 1 := by omega
  go_simp
theorem flat_drop (ps : List TP) : ∀ k : Nat, (ps.drop k).flatMap TP.cells = (ps.flatMap TP.cells).drop (k * 4) := by
  induction ps with
  | nil => intro k; simp
  | cons p ps ih =>
    intro k
    cases k with
    | zero => simp
    | succ k =>
      have e : p.cells.drop ((k + 1) * 4) = [] := List.drop_of_length_le (by rw [TP.cells_len]; omega)
      rw [List.drop_succ_cons, ih k, List.flatMap_cons, List.drop_append, e, List.nil_append, TP.cells_len]; congr 1; omega
theorem flat_take (ps : List TP) : ∀ k : Nat, (ps.take k).flatMap TP.cells = (ps.flatMap TP.cells).take (k * 4) := by
  induction ps with
  | nil => intro k; simp
  | cons p ps ih =>
    intro k
    cases k with
    | zero => simp
    | succ k =>
      have e : p.cells.take ((k + 1) * 4) = p.cells := List.take_of_length_le (by rw [TP.cells_len]; omega)
      rw [List.take_succ_cons, List.flatMap_cons, List.flatMap_cons, ih k, List.take_append, e, TP.cells_len]; congr 2; omega
theorem app_room {ps : List TP} {cur : Array Value} (hb : Blk w g 28 cur) (hs : cur.size = cap * 4) (ht : cur.toList.take (ps.length * 4) = ps.flatMap TP.cells) (hn : ps.length ≤ cap) (hi : i < ps.length) (ty : TypeId) {o9 c9 : Nat} (ho : o9 = (i + 1) * 4 ∨ ps.length = i + 1) :
    ∃ w' cur', (Builtin.append_ #[26, 26] ty #[.slice (some ⟨g, 0, none⟩) i cap, .slice (some ⟨g, o9, none⟩) (ps.length - (i + 1)) c9]).run Tryz.prog w = .ok (.slice (some ⟨g, 0, none⟩) (ps.length - 1) cap) w' ∧ Blk w' g 28 cur' ∧ cur'.size = cap * 4 ∧ cur'.toList.take ((ps.length - 1) * 4) = (ps.eraseIdx i).flatMap TP.cells ∧ Keep (fun k => k ≠ g) w w' := by
  obtain ⟨i0, z, h1, h2, h3, h4, h5⟩ := infoT'
  obtain ⟨news, hnews⟩ : ∃ q, q = (ps.drop (i + 1)).flatMap TP.cells := ⟨_, rfl⟩
  have hl : news.length = (ps.length - (i + 1)) * 4 := by rw [hnews, flat_len, List.length_drop]
  have hone : ∀ u ∈ news, u.oneCell' = true := by
    intro u hu
    rw [hnews] at hu
    obtain ⟨p, _, hp⟩ := List.mem_flatMap.1 hu
    simp [TP.cells, Tm.cells] at hp
    rcases hp with rfl | rfl | rfl | rfl <;> rfl
  have hat : ∀ j u, news[j]? = some u → w.cell? ((⟨g, o9, none⟩ : Addr).add j) = some u := by
    intro j u hj
    have hlt := get_lt' hj
    rcases ho with ho | ho
    · subst ho
      rw [Addr.add_lit, hb.cell]
      rw [hnews, flat_drop, List.getElem?_drop, ← ht, List.getElem?_take_of_lt (by omega)] at hj
      rw [← hj, Array.getElem?_toList]
    · omega
  have hr := run_append_room (P := Tryz.prog) w 26 ty 28 i0 Tryz.underlying26 h1 g i cap cur hb ⟨g, o9, none⟩ (ps.length - (i + 1)) c9 news (by rw [h3]; exact hl) hat hone (by omega) (by rw [h3, hl, hs]; omega)
  rw [h3, show i + (ps.length - (i + 1)) = ps.length - 1 by omega] at hr
  have hcl : cur.toList.length = cap * 4 := by rw [Array.length_toList, hs]
  obtain ⟨cs2, hcs2⟩ : ∃ q, q = (cur.toList.take (i * 4) ++ news ++ cur.toList.drop (i * 4 + news.length)).toArray := ⟨_, rfl⟩
  rw [← hcs2] at hr
  have hsz : (w.setRow g cs2).heap.size = w.heap.size := by simp
  have hn0 : Blk (w.setRow g cs2) g 28 cs2 := setRow_heap w g cur cs2 28 (0, 0) hb
  have hk0 : Keep (fun k => k ≠ g) w (w.setRow g cs2) := ⟨rfl, rfl, rfl, Nat.le_of_eq hsz.symm, fun k hk hne => setRow_other w g k _ hne⟩
  refine ⟨w.setRow g cs2, cs2, hr, hn0, ?_, ?_, hk0⟩ <;> rw [hcs2]
  · simp only [List.size_toArray, List.length_append, List.length_take, List.length_drop, hcl, hl]; omega
  · have e1 : cur.toList.take (i * 4) = (ps.take i).flatMap TP.cells := by
      rw [flat_take, ← ht, List.take_take, Nat.min_eq_left (show i * 4 ≤ ps.length * 4 by omega)]
    show List.take _ (List.take (i * 4) cur.toList ++ news ++ _) = _
    rw [List.take_append_of_le_length (by simp only [List.length_append, List.length_take, hcl, hl]; omega), List.take_of_length_le (by simp only [List.length_append, List.length_take, hcl, hl]; omega), e1, hnews, ← List.flatMap_append, List.eraseIdx_eq_take_drop_succ]
theorem clear_one {cur : Array Value} (hb : Blk w g 28 cur) (hs : cur.size = cap * 4) (hn : 0 < n) (hc : n ≤ cap) (ty : TypeId) :
    ∃ w' cur', (Builtin.clear_ #[26] ty #[.slice (some ⟨g, (n - 1) * 4, none⟩) 1 (cap - (n - 1))]).run Tryz.prog w = .ok (.tuple #[]) w' ∧ Blk w' g 28 cur' ∧ cur'.size = cap * 4 ∧ cur'.toList.take ((n - 1) * 4) = cur.toList.take ((n - 1) * 4) ∧ Keep (fun k => k ≠ g) w w' := by
  have hv : (zeroValue 28).run Tryz.prog w = .ok (.agg #[.int .i64 0, .string ⟨#[]⟩, .int .i64 0, .slice none 0 0]) w := by kernel_rfl
  have hst := run_storeCells_cells (P := Tryz.prog) g ((n - 1) * 4) [.int .i64 0, .string ⟨#[]⟩, .int .i64 0, .slice none 0 0] 0 w
    (fun j hj => by
      have hj4 : j < 4 := hj
      rw [Nat.add_zero, hb.cell, Array.getElem?_eq_getElem (by omega)]; rfl)
    (fun j hj => hb.frozen _) (by intro v hv; simp at hv; rcases hv with rfl | rfl | rfl | rfl <;> rfl)
  simp only [Nat.add_zero] at hst
  refine ⟨w.setCells g ((n - 1) * 4) [.int .i64 0, .string ⟨#[]⟩, .int .i64 0, .slice none 0 0], _, ?_, (((hb.set_ ((n - 1) * 4) _).set_ ((n - 1) * 4 + 1) _).set_ ((n - 1) * 4 + 2) _).set_ ((n - 1) * 4 + 3) _, ?_, ?_, ((((Keep.refl _ _).setCell (fun h => h rfl) _).setCell (fun h => h rfl) _).setCell (fun h => h rfl) _).setCell (fun h => h rfl) _⟩
  · simp [Builtin.clear_, run_underlying Tryz.underlying26, hv, Builtin.zeroCells, Value.cells]
    change ((storeCells ⟨g, (n - 1) * 4, none⟩ [.int .i64 0, .string ⟨#[]⟩, .int .i64 0, .slice none 0 0]).run Tryz.prog w).andThen _ = _
    rw [hst]; rfl
  · simp only [Array.size_setIfInBounds]; exact hs
  · apply List.ext_getElem?
    intro j
    by_cases hj : j < (n - 1) * 4
    · rw [List.getElem?_take_of_lt hj, List.getElem?_take_of_lt hj, Array.getElem?_toList, Array.getElem?_toList, Array.getElem?_setIfInBounds_ne (by omega), Array.getElem?_setIfInBounds_ne (by omega), Array.getElem?_setIfInBounds_ne (by omega), Array.getElem?_setIfInBounds_ne (by omega)]
    · rw [List.getElem?_eq_none (by rw [List.length_take]; omega), List.getElem?_eq_none (by rw [List.length_take]; omega)]
end
def oq61_0_0 : Oper := ⟨some 6, Op.assign (Operand.const (Value.slice none 0 0)), 26, "slices.go:224", #[], none⟩
def Oq61_0 : Array Oper := List.toArray (oq61_0_0 :: [])
theorem gq61_0_0 : Oq61_0[0]? = some oq61_0_0 := rfl
def cq61_1 : Code := Code.region 0 Oq61_0 false
def oq61_1_0 : Oper := ⟨some 8, Op.move (Operand.tmp 0), 26, "slices.go:225", #[], none⟩
def oq61_1_1 : Oper := ⟨some 9, Op.move (Operand.tmp 1), 3, "slices.go:225", #[], none⟩
def oq61_1_2 : Oper := ⟨some 10, Op.move (Operand.tmp 2), 3, "slices.go:225", #[], none⟩
def oq61_1_3 : Oper := ⟨some 11, Op.move (Operand.tmp 0), 26, "slices.go:225", #[], none⟩
def oq61_1_4 : Oper := ⟨some 12, Op.call { callee := Callee.builtin Go.Builtin.len, args := #[Operand.tmp 11], argTypes := #[26] }, 3, "slices.go:225", #[ed_ 3], none⟩
def oq61_1_5 : Oper := ⟨some 13, Op.slice 26 (Operand.tmp 8) (some (Operand.tmp 9)) (some (Operand.tmp 10)) (some (Operand.tmp 12)), 26, "slices.go:225", #[ed_ 0, ed_ 1, ed_ 2, ed_ 4], none⟩
def Oq61_1 : Array Oper := List.toArray (oq61_1_0 :: oq61_1_1 :: oq61_1_2 :: oq61_1_3 :: oq61_1_4 :: oq61_1_5 :: [])
theorem gq61_1_0 : Oq61_1[0]? = some oq61_1_0 := rfl
theorem gq61_1_1 : Oq61_1[1]? = some oq61_1_1 := rfl
theorem gq61_1_2 : Oq61_1[2]? = some oq61_1_2 := rfl
theorem gq61_1_3 : Oq61_1[3]? = some oq61_1_3 := rfl
theorem gq61_1_4 : Oq61_1[4]? = some oq61_1_4 := rfl
theorem gq61_1_5 : Oq61_1[5]? = some oq61_1_5 := rfl
def cq61_3 : Code := Code.region 1 Oq61_1 false
def oq61_2_0 : Oper := ⟨some 14, Op.move (Operand.tmp 1), 3, "slices.go:227", #[], none⟩
def oq61_2_1 : Oper := ⟨some 15, Op.move (Operand.tmp 2), 3, "slices.go:227", #[], none⟩
def oq61_2_2 : Oper := ⟨some 16, Op.binOp Go.BinOp.eql 3 (Operand.tmp 14) (Operand.tmp 15) 3, 4, "slices.go:227", #[ed_ 0, ed_ 1], none⟩
def Oq61_2 : Array Oper := List.toArray (oq61_2_0 :: oq61_2_1 :: oq61_2_2 :: [])
theorem gq61_2_0 : Oq61_2[0]? = some oq61_2_0 := rfl
theorem gq61_2_1 : Oq61_2[1]? = some oq61_2_1 := rfl
theorem gq61_2_2 : Oq61_2[2]? = some oq61_2_2 := rfl
def cq61_6 : Code := Code.region 2 Oq61_2 false
def oq61_3_0 : Oper := ⟨some 17, Op.move (Operand.tmp 0), 26, "slices.go:228", #[], none⟩
def oq61_3_1 : Oper := ⟨some 6, Op.assign (Operand.tmp 17), 26, "slices.go:228", #[ed_ 0, ep_ 0], none⟩
def Oq61_3 : Array Oper := List.toArray (oq61_3_0 :: oq61_3_1 :: [])
def cq61_9 : Code := Code.region 3 Oq61_3 false
def cq61_8 : Code := Code.seq cq61_9 Code.ret
def cq61_7 : Code := Code.cond (Operand.tmp 16) cq61_8 Code.skip
def cq61_5 : Code := Code.seq cq61_6 cq61_7
def oq61_4_0 : Oper := ⟨some 18, Op.move (Operand.tmp 0), 26, "slices.go:231", #[], none⟩
def oq61_4_1 : Oper := ⟨some 19, Op.call { callee := Callee.builtin Go.Builtin.len, args := #[Operand.tmp 18], argTypes := #[26] }, 3, "slices.go:231", #[ed_ 0], none⟩
def oq61_4_2 : Oper := ⟨some 7, Op.assign (Operand.tmp 19), 3, "slices.go:231", #[ed_ 1, ep_ 0, ep_ 1], none⟩
def Oq61_4 : Array Oper := List.toArray (oq61_4_0 :: oq61_4_1 :: oq61_4_2 :: [])
theorem gq61_4_0 : Oq61_4[0]? = some oq61_4_0 := rfl
theorem gq61_4_1 : Oq61_4[1]? = some oq61_4_1 := rfl
theorem gq61_4_2 : Oq61_4[2]? = some oq61_4_2 := rfl
def cq61_13 : Code := Code.region 4 Oq61_4 false
def oq61_5_0 : Oper := ⟨some 20, Op.move (Operand.tmp 0), 26, "slices.go:232", #[], none⟩
def oq61_5_1 : Oper := ⟨some 21, Op.move (Operand.tmp 1), 3, "slices.go:232", #[], none⟩
def oq61_5_2 : Oper := ⟨some 22, Op.slice 26 (Operand.tmp 20) none (some (Operand.tmp 21)) none, 26, "slices.go:232", #[ed_ 0, ed_ 1], none⟩
def oq61_5_3 : Oper := ⟨some 23, Op.move (Operand.tmp 0), 26, "slices.go:232", #[], none⟩
def oq61_5_4 : Oper := ⟨some 24, Op.move (Operand.tmp 2), 3, "slices.go:232", #[], none⟩
def oq61_5_5 : Oper := ⟨some 25, Op.slice 26 (Operand.tmp 23) (some (Operand.tmp 24)) none none, 26, "slices.go:232", #[ed_ 3, ed_ 4], none⟩
def oq61_5_6 : Oper := ⟨some 26, Op.call { callee := Callee.builtin Go.Builtin.append, args := #[Operand.tmp 22, Operand.tmp 25], argTypes := #[26, 26] }, 26, "slices.go:232", #[ed_ 2, ed_ 5], none⟩
def oq61_5_7 : Oper := ⟨some 0, Op.assign (Operand.tmp 26), 26, "slices.go:232", #[ed_ 6, ec_ 6, ep_ 0, ep_ 1, ep_ 2, ep_ 3, ep_ 4, ep_ 5, ep_ 6], none⟩
def Oq61_5 : Array Oper := List.toArray (oq61_5_0 :: oq61_5_1 :: oq61_5_2 :: oq61_5_3 :: oq61_5_4 :: oq61_5_5 :: oq61_5_6 :: oq61_5_7 :: [])
theorem gq61_5_0 : Oq61_5[0]? = some oq61_5_0 := rfl
theorem gq61_5_1 : Oq61_5[1]? = some oq61_5_1 := rfl
theorem gq61_5_2 : Oq61_5[2]? = some oq61_5_2 := rfl
theorem gq61_5_3 : Oq61_5[3]? = some oq61_5_3 := rfl
theorem gq61_5_4 : Oq61_5[4]? = some oq61_5_4 := rfl
theorem gq61_5_5 : Oq61_5[5]? = some oq61_5_5 := rfl
theorem gq61_5_6 : Oq61_5[6]? = some oq61_5_6 := rfl
theorem gq61_5_7 : Oq61_5[7]? = some oq61_5_7 := rfl
theorem nsq61_5 : Region.noSelect Oq61_5 = true := by kernel_rfl
def cq61_15 : Code := Code.region 5 Oq61_5 true
def oq61_6_0 : Oper := ⟨some 27, Op.move (Operand.tmp 0), 26, "slices.go:233", #[], none⟩
def oq61_6_1 : Oper := ⟨some 28, Op.move (Operand.tmp 0), 26, "slices.go:233", #[], none⟩
def oq61_6_2 : Oper := ⟨some 29, Op.call { callee := Callee.builtin Go.Builtin.len, args := #[Operand.tmp 28], argTypes := #[26] }, 3, "slices.go:233", #[ed_ 1], none⟩
def oq61_6_3 : Oper := ⟨some 30, Op.move (Operand.tmp 7), 3, "slices.go:233", #[], none⟩
def oq61_6_4 : Oper := ⟨some 31, Op.slice 26 (Operand.tmp 27) (some (Operand.tmp 29)) (some (Operand.tmp 30)) none, 26, "slices.go:233", #[ed_ 0, ed_ 2, ed_ 3], none⟩
def oq61_6_5 : Oper := ⟨none, Op.call { callee := Callee.builtin Go.Builtin.clear, args := #[Operand.tmp 31], argTypes := #[26] }, 0, "slices.go:233", #[ed_ 4], none⟩
def Oq61_6 : Array Oper := List.toArray (oq61_6_0 :: oq61_6_1 :: oq61_6_2 :: oq61_6_3 :: oq61_6_4 :: oq61_6_5 :: [])
theorem gq61_6_0 : Oq61_6[0]? = some oq61_6_0 := rfl
theorem gq61_6_1 : Oq61_6[1]? = some oq61_6_1 := rfl
theorem gq61_6_2 : Oq61_6[2]? = some oq61_6_2 := rfl
theorem gq61_6_3 : Oq61_6[3]? = some oq61_6_3 := rfl
theorem gq61_6_4 : Oq61_6[4]? = some oq61_6_4 := rfl
theorem gq61_6_5 : Oq61_6[5]? = some oq61_6_5 := rfl
def cq61_17 : Code := Code.region 6 Oq61_6 false
def oq61_7_0 : Oper := ⟨some 32, Op.move (Operand.tmp 0), 26, "slices.go:234", #[], none⟩
def oq61_7_1 : Oper := ⟨some 6, Op.assign (Operand.tmp 32), 26, "slices.go:234", #[ed_ 0, ep_ 0], none⟩
def Oq61_7 : Array Oper := List.toArray (oq61_7_0 :: oq61_7_1 :: [])
theorem gq61_7_0 : Oq61_7[0]? = some oq61_7_0 := rfl
theorem gq61_7_1 : Oq61_7[1]? = some oq61_7_1 := rfl
def cq61_19 : Code := Code.region 7 Oq61_7 false
def cq61_18 : Code := Code.seq cq61_19 Code.ret
def cq61_16 : Code := Code.seq cq61_17 cq61_18
def cq61_14 : Code := Code.seq cq61_15 cq61_16
def cq61_12 : Code := Code.seq cq61_13 cq61_14
def cq61_4 : Code := Code.seq cq61_5 cq61_12
def cq61_2 : Code := Code.seq cq61_3 cq61_4
def cq61_0 : Code := Code.seq cq61_1 cq61_2
theorem bodyq61 : Tryz.f32.body = some cq61_0 := by kernel_rfl
set_option maxRecDepth 100000 in
set_option maxHeartbeats 4000000 in
theorem delete_w {W : World} {b0 cap i : Nat} {ps : List TP} {cur : Array Value} {f0 : Act} {w0 : World} (R : FrS 33 f0) (h0 : f0.tmps[0]? = some (.slice (some ⟨b0, 0, none⟩) ps.length cap)) (h1 : f0.tmps[1]? = some (.int .i64 (i : Int))) (h2 : f0.tmps[2]? = some (.int .i64 ((i : Int) + 1))) (K1 : Keep (fun g => g < W.heap.size ∧ g ≠ b0) W w0)  (B0 : Blk w0 b0 28 cur) (HS : Hid (cur.size = cap * 4)) (HTK : Hid (cur.toList.take (ps.length * 4) = ps.flatMap TP.cells)) (HI : Hid (i < ps.length)) (HC : Hid (ps.length ≤ cap)) : cq61_0.wp Tryz.prog (bodyPost Tryz.prog Tryz.f32 (fun e w' => e = .returned (.slice (some ⟨b0, 0, none⟩) (ps.length - 1 : Nat) cap) ∧ ∃ cur', Blk w' b0 28 cur' ∧ cur'.size = cap * 4 ∧ cur'.toList.take ((ps.length - 1) * 4) = (ps.eraseIdx i).flatMap TP.cells ∧ Keep (fun g => g < W.heap.size ∧ g ≠ b0) W w')) f0 w0 := by
  refine wp_seq (x := cq61_1) (y := cq61_2) ?_
  change (Code.region 0 Oq61_0 false).wp _ _ _ _
  refine reg_in (l := [0]) rfl ?_
  have F : FE_ _ [] f0 f0 := ⟨R, Ag_.refl _⟩; clear R
  have Y : (execOp f0.eval oq61_0_0).run Tryz.prog w0 = .ok (.value (Value.slice none 0 0)) w0 := by unfold oq61_0_0; go_simp
  refine sv_ gq61_0_0 Y fun a101 e => ?_; clear Y
  have h6 := pt_ F e; replace F := pu_ F e; clear e
  refine st_end ?_
  replace h0 := F.of h0; replace h1 := F.of h1; replace h2 := F.of h2; have R := F.r; clear F
  change (cq61_2).wp _ _ _ _
  refine wp_seq (x := cq61_3) (y := cq61_4) ?_
  change (Code.region 1 Oq61_1 false).wp _ _ _ _
  refine reg_in (l := [0, 1, 2, 3, 4, 5]) rfl ?_
  have F : FE_ _ [] a101 a101 := ⟨R, Ag_.refl _⟩; clear R
  refine sv_ gq61_1_0 (ym_ rfl (F.of h0)) fun a102 e => ?_
  have h8 := pt_ F e; replace F := pu_ F e; clear e
  refine sv_ gq61_1_1 (ym_ rfl (F.of h1)) fun a103 e => ?_
  have h9 := pt_ F e; replace F := pu_ F e; replace h8 := so_ e h8; clear e
  refine sv_ gq61_1_2 (ym_ rfl (F.of h2)) fun a104 e => ?_
  have h10 := pt_ F e; replace F := pu_ F e; replace h8 := so_ e h8; replace h9 := so_ e h9; clear e
  refine sv_ gq61_1_3 (ym_ rfl (F.of h0)) fun a105 e => ?_
  have h11 := pt_ F e; replace F := pu_ F e; replace h8 := so_ e h8; replace h9 := so_ e h9; replace h10 := so_ e h10; clear e
  have Y : (execOp a105.eval oq61_1_4).run Tryz.prog w0 = .ok (.value (.int .i64 ps.length)) w0 := by unfold oq61_1_4; go_simp
  refine sv_ gq61_1_4 Y fun a106 e => ?_; clear Y
  clear h11; have h12 := pt_ F e; replace F := pu_ F e; replace h8 := so_ e h8; replace h9 := so_ e h9; replace h10 := so_ e h10; clear e
  have Y : (execOp a106.eval oq61_1_5).run Tryz.prog w0 = .ok (.value (.slice (some ⟨b0, i * 4, none⟩) 1 (ps.length - i))) w0 := ysl3_ (o := oq61_1_5) rfl h8 h9 h10 h12 HI.out HC.out
  refine sv_ gq61_1_5 Y fun a107 e => ?_; clear Y
  clear h8 h9 h10 h12; replace F := pu_ F e; clear e
  refine st_end ?_
  replace h0 := F.of h0; replace h1 := F.of h1; replace h2 := F.of h2; replace h6 := F.of h6; have R := F.r; clear F
  change (cq61_4).wp _ _ _ _
  refine wp_seq (x := cq61_5) (y := cq61_12) ?_
  refine wp_seq (x := cq61_6) (y := cq61_7) ?_
  change (Code.region 2 Oq61_2 false).wp _ _ _ _
  refine reg_in (l := [0, 1, 2]) rfl ?_
  have F : FE_ _ [] a107 a107 := ⟨R, Ag_.refl _⟩; clear R
  refine sv_ gq61_2_0 (ym_ rfl (F.of h1)) fun a108 e => ?_
  have h14 := pt_ F e; replace F := pu_ F e; clear e
  refine sv_ gq61_2_1 (ym_ rfl (F.of h2)) fun a109 e => ?_
  have h15 := pt_ F e; replace F := pu_ F e; replace h14 := so_ e h14; clear e
  have Y : (execOp a109.eval oq61_2_2).run Tryz.prog w0 = .ok (.value (.bool false)) w0 := by have hne : ¬ ((i : Int) = (i : Int) + 1) := (by omega); unfold oq61_2_2; go_simp
  refine sv_ gq61_2_2 Y fun a110 e => ?_; clear Y
  clear h14 h15; have h16 := pt_ F e; replace F := pu_ F e; clear e
  refine st_end ?_
  replace h0 := F.of h0; replace h1 := F.of h1; replace h2 := F.of h2; replace h6 := F.of h6; have R := F.r; clear F
  change (cq61_7).wp _ _ _ _
  refine wp_cond_false (x := cq61_8) (y := Code.skip) (eval_slot h16) ?_
  refine wp_skip ?_
  change (cq61_12).wp _ _ _ _
  refine wp_seq (x := cq61_13) (y := cq61_14) ?_
  change (Code.region 4 Oq61_4 false).wp _ _ _ _
  refine reg_in (l := [0, 1, 2]) rfl ?_
  have F : FE_ _ [] a110 a110 := ⟨R, Ag_.refl _⟩; clear R
  refine sv_ gq61_4_0 (ym_ rfl (F.of h0)) fun a111 e => ?_
  have h18 := pt_ F e; replace F := pu_ F e; clear e
  have Y : (execOp a111.eval oq61_4_1).run Tryz.prog w0 = .ok (.value (.int .i64 ps.length)) w0 := by unfold oq61_4_1; go_simp
  refine sv_ gq61_4_1 Y fun a112 e => ?_; clear Y
  clear h18; have h19 := pt_ F e; replace F := pu_ F e; clear e
  refine sv_ gq61_4_2 (ya_ rfl h19) fun a113 e => ?_
  clear h19; have h7 := pt_ F e; replace F := pu_ F e; clear e
  refine st_end ?_
  replace h0 := F.of h0; replace h1 := F.of h1; replace h2 := F.of h2; replace h6 := F.of h6; clear h16; have R := F.r; clear F
  change (cq61_14).wp _ _ _ _
  refine wp_seq (x := cq61_15) (y := cq61_16) ?_
  change (Code.region 5 Oq61_5 true).wp _ _ _ _
  have D116 := B0
  have K114 := (Keep.refl (fun g => g ≠ b0) w0).drew
  have EK1 := K1
  refine dr_in (S := (fun W => Keep (fun g => g ≠ b0) w0 W)) (n := 8) (l := lb_ 8 0) (by kernel_rfl) K114 rfl (by kernel_rfl) ?_
  replace K1 := K1.drew
  replace B0 := B0.drew
  generalize w0.drew = w115 at K114 K1 B0 ⊢
  have F : FE_ _ [] a113 a113 := ⟨R, Ag_.refl _⟩; clear R
  refine dt_ (i := 0) (l' := (lb_ 8 1)) gq61_5_0 rfl nsq61_5 (wanted_free rfl) K114 (fun _ _ => (ym_ rfl (F.of h0))) fun a117 e => ?_
  have h20 := pt_ F e; replace F := pu_ F e; clear e
  refine dt_ (i := 1) (l' := (lb_ 8 3)) gq61_5_1 rfl nsq61_5 (wanted_free rfl) K114 (fun _ _ => (ym_ rfl (F.of h1))) fun a118 e => ?_
  have h21 := pt_ F e; replace F := pu_ F e; replace h20 := so_ e h20; clear e
  refine dt_ (i := 2) (l' := (lb_ 8 7)) gq61_5_2 rfl nsq61_5 (wanted_free rfl) K114 (fun _ _ => (yslt_ rfl h20 h21 HI.out HC.out)) fun a119 e => ?_
  clear h20 h21; have h22 := pt_ F e; replace F := pu_ F e; clear e
  refine dt_ (i := 3) (l' := (lb_ 8 15)) gq61_5_3 rfl nsq61_5 (wanted_free rfl) K114 (fun _ _ => (ym_ rfl (F.of h0))) fun a120 e => ?_
  have h23 := pt_ F e; replace F := pu_ F e; replace h22 := so_ e h22; clear e
  refine dt_ (i := 4) (l' := (lb_ 8 31)) gq61_5_4 rfl nsq61_5 (wanted_free rfl) K114 (fun _ _ => (ym_ rfl (F.of h2))) fun a121 e => ?_
  have h24 := pt_ F e; replace F := pu_ F e; replace h22 := so_ e h22; replace h23 := so_ e h23; clear e
  refine dt_ (i := 5) (l' := (lb_ 8 63)) gq61_5_5 rfl nsq61_5 (wanted_free rfl) K114 (fun _ _ => (yslf_ rfl h23 h24 HI.out HC.out)) fun a122 e => ?_
  clear h23 h24; have h25 := pt_ F e; replace F := pu_ F e; replace h22 := so_ e h22; clear e
  refine dr_only (i := 6) (fuel := 1) (by kernel_rfl) ?_
  obtain ⟨w8, cur8, hap, hb8, hs8, ht8, kap⟩ := app_room (ty := oq61_5_6.type) (i := i) (o9 := if cap = i + 1 then 0 else (i + 1) * 4) (c9 := cap - (i + 1)) B0 HS.out HTK.out HC.out HI.out (by have h1 := HI.out; have h2 := HC.out; by_cases h : cap = i + 1; right; omega; left; rw [if_neg h])
  have Y : (execOp a122.eval oq61_5_6).run Tryz.prog w115 = .ok (.value (.slice (some ⟨b0, 0, none⟩) (ps.length - 1 : Nat) cap)) w8 := by
    unfold oq61_5_6 at hap ⊢; unfold execOp; simp only [resolve, invoke, builtin, Sem.run_bind, Sem.run_pure, Result.andThen_ok, List.map_toArray, List.map_cons, List.map_nil, eval_slot h22, eval_slot h25]; rw [hap]; rfl
  clear hap B0; have B0 := hb8; clear hb8; have HS8 := Lib.hid hs8; clear hs8; have HT8 := Lib.hid ht8; clear ht8
  replace K1 := K1.trans (kap.less fun g hg => hg.2); replace K114 := K114.trans kap; clear kap
  refine dr_val (l' := (lb_ 8 127)) gq61_5_6 rfl (by kernel_rfl) (wanted_free rfl) Y K114 fun a123 e => ?_; clear Y
  clear h22 h25; have h26 := pt_ F e; replace F := pu_ F e; clear e
  refine dt_ (i := 7) (l' := (lb_ 8 255)) gq61_5_7 rfl nsq61_5 (wanted_free rfl) K114 (fun _ _ => (ya_ rfl h26)) fun a124 e => ?_
  clear h26 h0; have h0 := pt_ F e; replace F := pu_ F e; clear e
  refine dr_end (by kernel_rfl) ?_
  clear h1; clear h2; replace h6 := F.of h6; replace h7 := F.of h7; have R := F.r; clear F
  clear K114 EK1 D116
  change (cq61_16).wp _ _ _ _
  refine wp_seq (x := cq61_17) (y := cq61_18) ?_
  change (Code.region 6 Oq61_6 false).wp _ _ _ _
  refine reg_in (l := [0, 1, 2, 3, 4, 5]) rfl ?_
  have F : FE_ _ [] a124 a124 := ⟨R, Ag_.refl _⟩; clear R
  refine sv_ gq61_6_0 (ym_ rfl (F.of h0)) fun a125 e => ?_
  have h27 := pt_ F e; replace F := pu_ F e; clear e
  refine sv_ gq61_6_1 (ym_ rfl (F.of h0)) fun a126 e => ?_
  have h28 := pt_ F e; replace F := pu_ F e; replace h27 := so_ e h27; clear e
  have Y : (execOp a126.eval oq61_6_2).run Tryz.prog w8 = .ok (.value (.int .i64 (ps.length - 1 : Nat))) w8 := by unfold oq61_6_2; go_simp
  refine sv_ gq61_6_2 Y fun a127 e => ?_; clear Y
  clear h28; have h29 := pt_ F e; replace F := pu_ F e; replace h27 := so_ e h27; clear e
  refine sv_ gq61_6_3 (ym_ rfl (F.of h7)) fun a128 e => ?_
  have h30 := pt_ F e; replace F := pu_ F e; replace h27 := so_ e h27; replace h29 := so_ e h29; clear e
  have Y : (execOp a128.eval oq61_6_4).run Tryz.prog w8 = .ok (.value (.slice (some ⟨b0, (ps.length - 1) * 4, none⟩) 1 (cap - (ps.length - 1)))) w8 := yslm_ (o := oq61_6_4) rfl h27 h29 h30 HI.out HC.out
  refine sv_ gq61_6_4 Y fun a129 e => ?_; clear Y
  clear h27 h29 h30; have h31 := pt_ F e; replace F := pu_ F e; clear e
  obtain ⟨w9, cur9, hcl, hb9, hs9, ht9, kcl⟩ := clear_one (ty := oq61_6_5.type) (n := ps.length) B0 HS8.out (by have := HI.out; omega) HC.out
  have Y : (execOp a129.eval oq61_6_5).run Tryz.prog w8 = .ok (.value (.tuple #[])) w9 := by
    unfold oq61_6_5 at hcl ⊢; unfold execOp; simp only [resolve, invoke, builtin, Sem.run_bind, Sem.run_pure, Result.andThen_ok, List.map_toArray, List.map_cons, List.map_nil, eval_slot h31]; rw [hcl]; rfl
  clear hcl B0; have B0 := hb9; clear hb9; have HS9 := Lib.hid hs9; clear hs9; have HT9 := Lib.hid (ht9.trans HT8.out); clear ht9
  replace K1 := K1.trans (kcl.less fun g hg => hg.2); clear kcl
  refine st_drop gq61_6_5 rfl (wanted_free rfl) Y ?_; clear Y
  refine st_end ?_
  replace h0 := F.of h0; replace h6 := F.of h6; clear h7; clear h31; have R := F.r; clear F
  change (cq61_18).wp _ _ _ _
  refine wp_seq (x := cq61_19) (y := Code.ret) ?_
  change (Code.region 7 Oq61_7 false).wp _ _ _ _
  refine reg_in (l := [0, 1]) rfl ?_
  have F : FE_ _ [] a129 a129 := ⟨R, Ag_.refl _⟩; clear R
  refine sv_ gq61_7_0 (ym_ rfl (F.of h0)) fun a130 e => ?_
  have h32 := pt_ F e; replace F := pu_ F e; clear e
  refine sv_ gq61_7_1 (ya_ rfl h32) fun a131 e => ?_
  clear h32 h6; have h6 := pt_ F e; replace F := pu_ F e; clear e
  refine st_end ?_
  clear h0; have R := F.r; clear F
  change (Code.ret).wp _ _ _ _
  refine wp_ret ?_
  change bodyPost Tryz.prog Tryz.f32 (fun e w' => e = .returned (.slice (some ⟨b0, 0, none⟩) (ps.length - 1 : Nat) cap) ∧ ∃ cur', Blk w' b0 28 cur' ∧ cur'.size = cap * 4 ∧ cur'.toList.take ((ps.length - 1) * 4) = (ps.eraseIdx i).flatMap TP.cells ∧ Keep (fun g => g < W.heap.size ∧ g ≠ b0) W w') .ret a131 w9
  refine ret_one rfl R h6 ?_
  exact ⟨rfl, _, B0, HS9.out, HT9.out, K1⟩
theorem delete_any {W : World} {b0 cap i : Nat} {ps : List TP} {cur : Array Value} (hB : Blk W b0 28 cur) (hs : cur.size = cap * 4) (ht : cur.toList.take (ps.length * 4) = ps.flatMap TP.cells) (hi : i < ps.length) (hc : ps.length ≤ cap) : Calls Tryz.prog 32 #[.slice (some ⟨b0, 0, none⟩) ps.length cap, .int .i64 (i : Int), .int .i64 ((i : Int) + 1)] W fun e w' => e = .returned (.slice (some ⟨b0, 0, none⟩) (ps.length - 1 : Nat) cap) ∧ ∃ cur', Blk w' b0 28 cur' ∧ cur'.size = cap * 4 ∧ cur'.toList.take ((ps.length - 1) * 4) = (ps.eraseIdx i).flatMap TP.cells ∧ Keep (fun g => g < W.heap.size ∧ g ≠ b0) W w' := by
  refine enter_sx Tryz.func32 bodyq61 rfl (by show (3 : Nat) ≤ 33; decide) fun f0 R hs0 => ?_
  exact delete_w R (hs0 0 _ rfl) (hs0 1 _ rfl) (hs0 2 _ rfl) (Keep.refl _ W) hB (Lib.hid hs) (Lib.hid ht) (Lib.hid hi) (Lib.hid hc)
end Go.Proofs.YtnfcbalppecnfaaGreat
