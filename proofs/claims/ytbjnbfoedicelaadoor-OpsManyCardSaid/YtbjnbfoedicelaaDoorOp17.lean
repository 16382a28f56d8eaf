/-
  Package ops: New. No condition but what the two package-level variables hold.
-/
import Derived.Test.YtbjnbfoedicelaaDoorOp16
import Derived.Carry
import Derived.Deep.MidRow
import Derived.OwnWalkIn
namespace Go.Proofs.YtbjnbfoedicelaaDoor
open Go.RowKit Go.Shelf Go.Maps
set_option linter.unusedVariables false
set_option linter.unusedSimpArgs false
attribute [local go_sem] Oper.semAt_some

theorem wpListIn_load_run {F : Fence} {n : Nat} {P : Program} (w : World) {ops : Array Oper} {rest : List Oper} {o : Oper} {a : Act} {Q : Exit → Act → World → Prop}
    (hg : o.guard = none) (t : TypeId) (x : Operand) (hop : o.op = Op.load t x) (p v : Value) (hx : a.eval x = p) (hrun : (Instr.loadAt t p).run P w = .ok v w)
    (hK : wpListIn F n P ops Q rest (a.put o.dst v) w) : wpListIn F n P ops Q (o :: rest) a w := by
  refine wpListIn_plain hg fun K hK' => ?_
  unfold Oper.wpIn
  refine ⟨?_, ?_⟩
  · simp [Oper.about, hop]
  · rw [Oper.semAt_plain F _ _ (by rw [hop]; intro c hc'; cases hc')]
    simp only [execOp, hop, hx]
    rw [Sem.run_bind, hrun]
    simp [Result.andThen]
    exact hK' _ _ hK
theorem wpListIn_index_run {F : Fence} {n : Nat} {P : Program} (w : World) {ops : Array Oper} {rest : List Oper} {o : Oper} {a : Act} {Q : Exit → Act → World → Prop}
    (hg : o.guard = none) (t : TypeId) (x y : Operand) (hop : o.op = Op.index t x y) (p q v : Value) (hx : a.eval x = p) (hy : a.eval y = q) (hrun : (Instr.index t p q).run P w = .ok v w)
    (hK : wpListIn F n P ops Q rest (a.put o.dst v) w) : wpListIn F n P ops Q (o :: rest) a w := by
  refine wpListIn_plain hg fun K hK' => ?_
  unfold Oper.wpIn
  refine ⟨?_, ?_⟩
  · simp [Oper.about, hop]
  · rw [Oper.semAt_plain F _ _ (by rw [hop]; intro c hc'; cases hc')]
    simp only [execOp, hop, hx, hy]
    rw [Sem.run_bind, hrun]
    simp [Result.andThen]
    exact hK' _ _ hK
def alwaysCells : List Value := rowsV.flatMap fun r => [.int .i64 r.1, .int .i64 r.2.1, .string (str r.2.2)]
/-- What the two package-level variables hold. -/
structure VarsOk (w : World) : Prop where
  lt : 1 < w.heap.size ∧ 0 < w.heap.size
  always : ∀ i v, alwaysCells[i]? = some v → w.cell? ⟨0, i, none⟩ = some v
  space : ∀ c : UInt8, c < 128 → w.cell? ⟨1, c.toNat, none⟩ = some (.int .u8 (if isSp c then 1 else 0))
theorem VarsOk.keep {w w' : World} {X : Nat → Prop} (h : VarsOk w) (hk : Keep X w w') (h1 : X 1) (h2 : X 0) : VarsOk w' :=
  ⟨⟨Nat.lt_of_lt_of_le h.lt.1 hk.size, Nat.lt_of_lt_of_le h.lt.2 hk.size⟩, fun i v hv => (World.cell?_of_block (a := ⟨0, i, none⟩) (hk.block _ h.lt.2 h2)).trans (h.always i v hv),
   fun c hc => (World.cell?_of_block (a := ⟨1, c.toNat, none⟩) (hk.block _ h.lt.1 h1)).trans (h.space c hc)⟩
/-- Under way: the table so far, the marks of the loops that are over. -/
structure NewAt (w0 W : World) (b1 pb mb : Nat) (T : Tab) (Ds : List Nat) : Prop where
  box : Boxed W b1 23 (.pointer (some ⟨pb, 0, none⟩))
  tab : TabAt W pb mb T
  below : Below w0.heap.size w0 W
  lo : w0.heap.size ≤ mb ∧ w0.heap.size ≤ pb ∧ w0.heap.size ≤ b1
  nd : Ds.Nodup
  marks : ∀ D ∈ Ds, w0.heap.size ≤ D ∧ W.heap[D]? = some (.deferred (some []))
theorem NewAt.keep {w0 W W' : World} {b1 pb mb : Nat} {T : Tab} {Ds : List Nat} {X : Nat → Prop} (h : NewAt w0 W b1 pb mb T Ds) (hk : Keep X W W') (hX : ∀ k, k < W.heap.size → (k < w0.heap.size ∨ k = b1 ∨ k = pb ∨ k = mb ∨ k ∈ Ds) → X k) : NewAt w0 W' b1 pb mb T Ds :=
  ⟨(hk.block b1 h.box.lt (hX b1 h.box.lt (by simp))).trans h.box, h.tab.keep hk (hX pb h.tab.head.lt (by simp)) (hX mb h.tab.map.lt (by simp)),
   h.below.trans (hk.toBelowOf (fun k hk1 hk2 => hX k hk1 (.inl hk2)) h.below.size), h.lo, h.nd,
   fun D hD => ⟨(h.marks D hD).1, by
    have hl : D < W.heap.size := (Array.getElem?_eq_some_iff.1 (h.marks D hD).2).1
    exact (hk.block D hl (hX D hl (by simp [hD]))).trans (h.marks D hD).2⟩⟩
theorem infoAlways : (Tryd.prog.info? 46).map (·.size) = some alwaysCells.length := by kernel_rfl
theorem load_always {W : World} (h : ∀ i v, alwaysCells[i]? = some v → W.cell? ⟨0, i, none⟩ = some v) :
    (Instr.loadAt 46 (.pointer (some ⟨0, 0, none⟩))).run Tryd.prog W = .ok (.agg alwaysCells.toArray) W :=
  run_loadAt_mid W _ 0 _ alwaysCells _ (fun j v hv => by rw [Nat.zero_add]; exact h j v hv) Tryd.underlying46 rfl infoAlways
theorem index_always0 (W : World) : (Instr.index 46 (.agg alwaysCells.toArray) (.int .i64 0)).run Tryd.prog W = .ok (.agg #[.int .i64 (rowsV[0]!).1, .int .i64 (rowsV[0]!).2.1, .string (str (rowsV[0]!).2.2)]) W := by kernel_rfl
theorem index_always1 (W : World) : (Instr.index 46 (.agg alwaysCells.toArray) (.int .i64 1)).run Tryd.prog W = .ok (.agg #[.int .i64 (rowsV[1]!).1, .int .i64 (rowsV[1]!).2.1, .string (str (rowsV[1]!).2.2)]) W := by kernel_rfl
theorem index_always2 (W : World) : (Instr.index 46 (.agg alwaysCells.toArray) (.int .i64 2)).run Tryd.prog W = .ok (.agg #[.int .i64 (rowsV[2]!).1, .int .i64 (rowsV[2]!).2.1, .string (str (rowsV[2]!).2.2)]) W := by kernel_rfl
theorem index_always3 (W : World) : (Instr.index 46 (.agg alwaysCells.toArray) (.int .i64 3)).run Tryd.prog W = .ok (.agg #[.int .i64 (rowsV[3]!).1, .int .i64 (rowsV[3]!).2.1, .string (str (rowsV[3]!).2.2)]) W := by kernel_rfl
theorem index_always4 (W : World) : (Instr.index 46 (.agg alwaysCells.toArray) (.int .i64 4)).run Tryd.prog W = .ok (.agg #[.int .i64 (rowsV[4]!).1, .int .i64 (rowsV[4]!).2.1, .string (str (rowsV[4]!).2.2)]) W := by kernel_rfl
theorem index_always5 (W : World) : (Instr.index 46 (.agg alwaysCells.toArray) (.int .i64 5)).run Tryd.prog W = .ok (.agg #[.int .i64 (rowsV[5]!).1, .int .i64 (rowsV[5]!).2.1, .string (str (rowsV[5]!).2.2)]) W := by kernel_rfl
theorem index_always6 (W : World) : (Instr.index 46 (.agg alwaysCells.toArray) (.int .i64 6)).run Tryd.prog W = .ok (.agg #[.int .i64 (rowsV[6]!).1, .int .i64 (rowsV[6]!).2.1, .string (str (rowsV[6]!).2.2)]) W := by kernel_rfl
theorem index_always7 (W : World) : (Instr.index 46 (.agg alwaysCells.toArray) (.int .i64 7)).run Tryd.prog W = .ok (.agg #[.int .i64 (rowsV[7]!).1, .int .i64 (rowsV[7]!).2.1, .string (str (rowsV[7]!).2.2)]) W := by kernel_rfl
theorem index_always8 (W : World) : (Instr.index 46 (.agg alwaysCells.toArray) (.int .i64 8)).run Tryd.prog W = .ok (.agg #[.int .i64 (rowsV[8]!).1, .int .i64 (rowsV[8]!).2.1, .string (str (rowsV[8]!).2.2)]) W := by kernel_rfl
theorem index_always9 (W : World) : (Instr.index 46 (.agg alwaysCells.toArray) (.int .i64 9)).run Tryd.prog W = .ok (.agg #[.int .i64 (rowsV[9]!).1, .int .i64 (rowsV[9]!).2.1, .string (str (rowsV[9]!).2.2)]) W := by kernel_rfl
theorem index_always10 (W : World) : (Instr.index 46 (.agg alwaysCells.toArray) (.int .i64 10)).run Tryd.prog W = .ok (.agg #[.int .i64 (rowsV[10]!).1, .int .i64 (rowsV[10]!).2.1, .string (str (rowsV[10]!).2.2)]) W := by kernel_rfl
theorem index_always11 (W : World) : (Instr.index 46 (.agg alwaysCells.toArray) (.int .i64 11)).run Tryd.prog W = .ok (.agg #[.int .i64 (rowsV[11]!).1, .int .i64 (rowsV[11]!).2.1, .string (str (rowsV[11]!).2.2)]) W := by kernel_rfl
theorem index_always (j : Nat) (hj : j < 12) (W : World) : (Instr.index 46 (.agg alwaysCells.toArray) (.int .i64 j)).run Tryd.prog W = .ok (.agg #[.int .i64 (rowsV[j]!).1, .int .i64 (rowsV[j]!).2.1, .string (str (rowsV[j]!).2.2)]) W := by
  match j, hj with
  | 0, _ => exact index_always0 W
  | 1, _ => exact index_always1 W
  | 2, _ => exact index_always2 W
  | 3, _ => exact index_always3 W
  | 4, _ => exact index_always4 W
  | 5, _ => exact index_always5 W
  | 6, _ => exact index_always6 W
  | 7, _ => exact index_always7 W
  | 8, _ => exact index_always8 W
  | 9, _ => exact index_always9 W
  | 10, _ => exact index_always10 W
  | 11, _ => exact index_always11 W
set_option maxRecDepth 100000 in
set_option maxHeartbeats 8000000 in
theorem new_in (w : World) (hv : VarsOk w) : CallsIn Fence.wide 8 Tryd.prog 7 #[] w fun e w' =>
    ∃ pb mb, e = .returned (.pointer (some ⟨pb, 0, none⟩)) ∧ TabAt w' pb mb tab0 ∧ w.heap.size ≤ pb ∧ w.heap.size ≤ mb ∧ Below w.heap.size w w' := by
  have HV := Lib.hid hv
  have hf1 : Fence.wide.fn 19 := trivial
  have hf2 : Fence.wide.fn 20 := trivial
  have hl1 := hv.lt.1
  have hl2 := hv.lt.2
  have hmm := @run_makeMap Tryd.prog
  have hW0 : Keep (fun _ => True) w (((w.alloc (.map #[] 0)).alloc (.cells #[.map (some w.heap.size)] 44)).alloc (.cells #[.pointer (some ⟨w.heap.size + 1, 0, none⟩)] 23)) := (((Keep.refl _ w).alloc _).alloc _).alloc _
  have hld := load_always (hv.keep hW0 trivial trivial).always
  have HLD := Lib.hid hld; clear hld
  have hix := fun j hj W => index_always j hj W
  obtain ⟨A, hA⟩ : ∃ A, alwaysCells.toArray = A := ⟨_, rfl⟩
  have hld := HLD.out
  rw [hA] at hld hix
  have HLD := Lib.hid hld; clear hld
  have HIX := Lib.hid hix; clear hix hA
  clear hv
  refine callsIn_of_wp_marks Tryd.func7 rfl trivial ?_ rfl
  simp only [Tryd.ntmps7, List.size_toArray, List.length_cons, List.length_nil, Nat.reduceAdd, Nat.reduceSub, Array.replicate_succ, Array.replicate_zero, List.push_toArray, List.append_toArray, List.nil_append, List.cons_append]
  gi_wp2_with (first
    | (refine wpListIn_load_run _ rfl 46 _ rfl _ _ rfl HLD.out ?_)
    | gi_in)
  refine wpIn_loop_ghost_k (fun m a W => ∃ (j : Nat) (Ds : List Nat) (u2 u3 u4 u10 u11 u12 u13 u14 u15 u16 u17 u18 u19 u20 u21 u22 u23 u24 u25 : Value), m + j = 12 ∧ a = { tmps := #[.pointer none, .pointer (some ⟨w.heap.size + 1 + 1, 0, none⟩), u2, u3, u4, .map (some w.heap.size), .agg #[.map (some w.heap.size)], .pointer (some ⟨w.heap.size + 1, 0, none⟩), .agg A, .int .i64 j, u10, u11, u12, u13, u14, u15, u16, u17, u18, u19, u20, u21, u22, u23, u24, u25], defers := Ds.map markOf } ∧ NewAt w W (w.heap.size + 1 + 1) (w.heap.size + 1) w.heap.size (tabAt j) Ds) 12 ?start ?round
  case start =>
    refine ⟨0, [], undef, undef, undef, undef, undef, undef, undef, undef, undef, undef, undef, undef, undef, undef, undef, undef, undef, undef, undef, rfl, rfl, ?_⟩
    have b1 := Blk.new (w.alloc (.map #[] 0)) 44 #[.map (some w.heap.size)]
    have b2 := Boxed.new ((w.alloc (.map #[] 0)).alloc (.cells #[.map (some w.heap.size)] 44)) 23 (.pointer (some ⟨w.heap.size + 1, 0, none⟩))
    simp only [World.size_alloc] at b1 b2
    exact ⟨b2, ⟨b1.alloc _, ((MapOf.made w).keep ((Keep.refl (fun _ => True) _).alloc _) trivial).keep ((Keep.refl (fun _ => True) _).alloc _) trivial⟩,
      (((Below.refl _ w).alloc (Nat.le_refl _) _).alloc (by simp) _).alloc (by simp; omega) _, ⟨Nat.le_refl _, by omega, by omega⟩, List.nodup_nil, fun D hD => by cases hD⟩
  case round =>
    rintro m a W ⟨j, Ds, u2, u3, u4, u10, u11, u12, u13, u14, u15, u16, u17, u18, u19, u20, u21, u22, u23, u24, u25, hmj, rfl, hN⟩ J K hJ hK
    have cb := hN.box.cell
    have HN := Lib.hid hN; clear hN
    by_cases hlt : j < 12
    · have hix := HIX.out j hlt W
      obtain ⟨r, hr⟩ : ∃ r, rowsV[j]! = r := ⟨_, rfl⟩
      rw [hr] at hix
      have HR := Lib.hid hr; clear hr
      have HIXJ := Lib.hid hix; clear hix
      gi_wp2_with (first
        | (refine wpListIn_index_run _ rfl 46 _ _ rfl _ _ _ rfl rfl HIXJ.out ?_)
        | (gi_at_call 19; refine (callsIn_wide.2 (fieldsSeq_any _ _)).mono ?_; rintro e w' ⟨rfl, rfl⟩)
        | gi_in)
      have hN := HN.out
      have hrj : rowsV[j]? = some r := by
        have h12 : rowsV.length = 12 := rfl
        rw [← HR.out, getElem!_pos rowsV j (by omega), List.getElem?_eq_getElem (by omega)]
      obtain ⟨hrs, hrl, hrn, hrx, hk1, hk2, hp1, hp2⟩ := rows_good r (List.mem_of_getElem? hrj)
      have hTl : (tabAt j).length ≤ 60 := tabAt_length ⟨j, by omega⟩
      have HSUC := Lib.hid (tabAt_succ hrj)
      obtain ⟨Wc, hWc⟩ : ∃ Wc, (W.alloc (.cells #[.int .i64 r.1, .int .i64 r.2.1, .string (str r.2.2)] 45)).alloc (.cells #[.string (str r.2.2)] 9) = Wc := ⟨_, rfl⟩
      have hkc : Keep (fun _ => True) W Wc := by rw [← hWc]; exact ((Keep.refl _ W).alloc _).alloc _
      have hcs : Wc.heap.size = W.heap.size + 2 := by rw [← hWc]; simp
      have hbr : Blk Wc W.heap.size 45 #[.int .i64 r.1, .int .i64 r.2.1, .string (str r.2.2)] := by rw [← hWc]; exact (Blk.new W _ _).alloc _
      have hbs : Blk Wc (W.heap.size + 1) 9 #[.string (str r.2.2)] := by
        rw [← hWc]; have := Blk.new (W.alloc (.cells #[.int .i64 r.1, .int .i64 r.2.1, .string (str r.2.2)] 45)) 9 #[.string (str r.2.2)]; rwa [World.size_alloc] at this
      rw [hWc]
      clear hWc
      have hNc : NewAt w Wc (w.heap.size + 1 + 1) (w.heap.size + 1) w.heap.size (tabAt j) Ds := hN.keep hkc (fun _ _ _ => trivial)
      have hVc : VarsOk Wc := HV.out.keep (Keep.ofBelow (X := (· < w.heap.size)) hNc.below (fun _ h => h)) hl1 hl2
      have hmlt := hNc.tab.map.lt
      have hblt := hNc.box.lt
      have hplt := hNc.tab.head.lt
      have hbm : w.heap.size + 1 + 1 ≠ w.heap.size := by omega
      have hseq := fields_stops Fence.wide 7 trivial rfl (by omega) (W.heap.size + 1) r.2.2 hrs hrl hrx Wc (by omega) hVc.lt.1 (by simpa using hbs.cell 0) hVc.space
      have hmW : w.heap.size < W.heap.size := hN.tab.map.lt
      refine wpIn_rangeFunc_ownH (F := Fence.wide) (n := 8) rfl (by omega) (gf := 28) (lb := #[.pointer (some ⟨W.heap.size + 1, 0, none⟩)]) rfl trivial (enters_of Tryd.func28 (by kernel_rfl) rfl)
        hseq (fun h k => ⟨k.1.trans h.1, k.2.trans h.2⟩) (fun W2 l o o' hl _ _ _ => ⟨World.putObj_heap_other (by omega), World.putObj_heap_other (by have := hVc.lt.1; omega)⟩) (Below.refl _ _) (fun _ => rfl)
        (fun pre W2 => Keep (· ≠ w.heap.size) Wc W2 ∧ MapOf W2 w.heap.size (addRow (tabAt j) r.1 r.2.1 (pre.map (·.1))))
        (fun _ _ _ => False)
        (fun pre X Y row hs hg hr => by
          have hk : Keep (· < Wc.heap.size) X Y := ⟨hg.os, hg.tape, hg.output, hg.size, fun k hk1 hk2 => hg.block k hk1 (fun e => by have := (hr k e.symm).1; omega)⟩
          exact ⟨⟨hk.os.trans hs.1.os, hk.tape.trans hs.1.tape, hk.output.trans hs.1.output, Nat.le_trans hs.1.size hk.size, fun k h1 h2 => (hk.block k (Nat.lt_of_lt_of_le h1 hs.1.size) h1).trans (hs.1.block k h1 h2)⟩, hs.2.keep hk hmlt⟩)
        (fun _ _ _ _ _ hs _ _ => hs)
        ⟨Keep.refl _ _, hNc.tab.map⟩
        (fun (x : Nam) a' W2 => a' = { tmps := #[.pointer none, .pointer (some ⟨w.heap.size + 1 + 1, 0, none⟩), u2, .pointer (some ⟨W.heap.size, 0, none⟩), .string (str x.1), .map (some w.heap.size), .agg #[.map (some w.heap.size)], .pointer (some ⟨w.heap.size + 1, 0, none⟩), .agg A, .int .i64 j, .bool true, .agg #[.int .i64 r.1, .int .i64 r.2.1, .string (str r.2.2)], .pointer (some ⟨W.heap.size, 2, none⟩), .string (str r.2.2), .func (.func 28) #[] #[.pointer (some ⟨W.heap.size + 1, 0, none⟩)], .string (str x.1), u16, u17, u18, u19, u20, u21, u22, u23, u24, u25], defers := [] })
        (fun _ _ _ _ _ _ hs _ _ => hs) ?assign ?body ?done ?stop
      case assign =>
        intro l pre x W2 K2 hI2 hK2
        gi_wp2
        exact hK2 _ _ ((KeepsOthers.refl W2).from _) ⟨rfl, rfl⟩ hI2 rfl
      case body =>
        rintro l pre ⟨x, hx1, hx2⟩ a' W2 hl hr2 ⟨hk2', hm2⟩ rfl hlen
        have hb2 : Boxed W2 (w.heap.size + 1 + 1) 23 (.pointer (some ⟨w.heap.size + 1, 0, none⟩)) := (hk2'.block _ hblt hbm).trans hNc.box
        have cb2 := hb2.cell
        have hbr2 := hbr.keep hk2' (by omega)
        have cr0 := hbr2.cell 0
        have cr1 := hbr2.cell 1
        simp at cr0 cr1
        have hpre : pre.length < 20 := by omega
        have hlen2 := addRow_length (tabAt j) r.1 r.2.1 (pre.map (·.1))
        rw [List.length_map] at hlen2
        have hput := put_any (w := W2) (pb := w.heap.size + 1) (mb := w.heap.size) (T := addRow (tabAt j) r.1 r.2.1 (pre.map (·.1))) (o := ⟨x, r.2.1, r.1⟩)
          ⟨hNc.tab.head.keep hk2' (by omega), hm2⟩ (by omega) ⟨by unfold maxLen; simp only; omega, wf_small (by simp only; omega) (by simp only; omega), wf_small (by simp only; omega) (by simp only; omega)⟩ hx2
        have HPUT := Lib.hid hput; clear hput
        have HB2 := Lib.hid hb2; clear hb2
        have HK2 := Lib.hid hk2'; clear hk2' hbr2
        clear hlen hlen2 hseq
        have hsn : ∀ e w', e = Ending.returned (.tuple #[]) ∧ TabAt w' (w.heap.size + 1) w.heap.size (put (addRow (tabAt j) r.1 r.2.1 (pre.map (·.1))) ⟨x, r.2.1, r.1⟩) ∧ Keep (· ≠ w.heap.size) W2 w' → e = Ending.returned (.tuple #[]) ∧ Hid (TabAt w' (w.heap.size + 1) w.heap.size (put (addRow (tabAt j) r.1 r.2.1 (pre.map (·.1))) ⟨x, r.2.1, r.1⟩)) ∧ Hid (Keep (· ≠ w.heap.size) W2 w') := fun e w' hh => ⟨hh.1, Lib.hid hh.2.1, Lib.hid hh.2.2⟩
        have HSN := Lib.hid hsn; clear hsn
        gi_wp2_with (first
          | (gi_at_call 20; refine (CallsIn.inRound l (callsIn_wide.2 HPUT.out)).mono ?_; intro e w' hh; obtain ⟨rfl, ht3, hk3⟩ := HSN.out e w' hh; clear hh)
          | gi_in)
        have hsz2 := HK2.out.size
        have hsz3 := hk3.out.size
        have hvl := hVc.lt.1
        refine ⟨⟨hsz3, fun k o hB ho hc => ?_⟩, ⟨hk3.out.block _ (by omega) (by omega), hk3.out.block _ (by omega) (by omega)⟩, HK2.out.trans hk3.out, ?_⟩
        · have hlo : k < W2.heap.size := (Array.getElem?_eq_some_iff.1 ho).1
          exact (hk3.out.block k hlo (by omega)).trans ho
        · rw [List.map_append, List.map_cons, List.map_nil, addRow_snoc]; exact ht3.out.map
      case done =>
        rintro D xs W3 hD hS ⟨hk3, hm3⟩ hDD
        have hS' : xs.map (·.1) = flds r.2.2 := hS
        rw [hS', ← HSUC.out] at hm3
        have hN3 : NewAt w W3 (w.heap.size + 1 + 1) (w.heap.size + 1) w.heap.size (tabAt (j + 1)) (D :: Ds) := by
          have hdm : ∀ D' ∈ Ds, D' ≠ w.heap.size := by
            rintro D' hD' rfl
            have hd := (hNc.marks _ hD').2
            obtain ⟨D'', ⟨es, c, hb, _⟩, _⟩ := hNc.tab.map.own
            rw [hd] at hb; cases hb
          have hdl : ∀ D' ∈ Ds, D' < Wc.heap.size := fun D' hD' => (Array.getElem?_eq_some_iff.1 (hNc.marks D' hD').2).1
          exact ⟨(hk3.block _ hblt hbm).trans hNc.box, ⟨hNc.tab.head.keep hk3 (by omega), hm3⟩, hNc.below.trans (hk3.toBelow (fun k hk => by omega) hNc.below.size), hNc.lo,
            List.nodup_cons.2 ⟨fun hh => by have := hdl D hh; omega, hNc.nd⟩, fun D' hD' => by
              rcases List.mem_cons.1 hD' with rfl | hD'
              · exact ⟨by have := hNc.below.size; omega, hDD⟩
              · exact ⟨(hNc.marks D' hD').1, (hk3.block D' (hdl D' hD') (hdm D' hD')).trans (hNc.marks D' hD').2⟩⟩
        have HN3 := Lib.hid hN3; clear hN3 hk3 hm3 hDD hS hS' hNc hVc hseq hbr hbs hN hkc
        gi_wp2
        exact Handed.intro (m - 1) (by omega) (hJ _ _ _ ⟨j + 1, D :: Ds, _, _, _, _, _, _, _, _, _, _, _, _, _, _, _, _, _, _, _, by omega, rfl, HN3.out⟩)
      case stop =>
        rintro D c pre W3 _ _ h _
        exact h.elim
    · have hj : j = 12 := by omega
      subst hj
      gi_wp2
      have hN := HN.out
      have hne : ∀ k, (∃ t cs, Blk W k t cs) ∨ k = w.heap.size → k ∉ Ds := by
        rintro k hk hD
        have hd := (hN.marks k hD).2
        rcases hk with ⟨t, cs, hb⟩ | rfl
        · unfold Blk at hb; rw [hd] at hb; cases hb
        · obtain ⟨D', ⟨es, c, hb, _⟩, _⟩ := hN.tab.map.own
          rw [hd] at hb; cases hb
      refine leaves_marks rfl Ds W hN.nd (fun D hD => (hN.marks D hD).2) (fun W' hk => ?_)
      refine ⟨_, results_tmp rfl _ _ _, w.heap.size + 1, w.heap.size, rfl, ?_, by omega, Nat.le_refl _, ?_⟩
      · exact hN.tab.keep hk (hne _ (.inl ⟨_, _, hN.tab.head⟩)) (hne _ (.inr rfl))
      · exact hN.below.trans (hk.toBelowOf (fun k _ hk2 hD => by have := (hN.marks k hD).1; omega) hN.below.size)
theorem new_any (w : World) (hv : VarsOk w) : Calls Tryd.prog 7 #[] w fun e w' =>
    ∃ pb mb, e = .returned (.pointer (some ⟨pb, 0, none⟩)) ∧ TabAt w' pb mb tab0 ∧ w.heap.size ≤ pb ∧ w.heap.size ≤ mb ∧ Below w.heap.size w w' := (callsIn_wide (n := 8)).1 (new_in w hv)
end Go.Proofs.YtbjnbfoedicelaaDoor
