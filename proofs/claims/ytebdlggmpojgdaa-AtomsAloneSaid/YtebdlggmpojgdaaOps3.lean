/-
  The contract of Alloc where there is room. Conditions: as in YtebdlggmpojgdaaOps.
-/
import Derived.Test.YtebdlggmpojgdaaOps2
import Derived.Deep.OwnRows
import Derived.BigRegion
import Derived.Laws.NewBlocks
namespace Go.Proofs.Ytebdlggmpojgdaa
open Go.RowKit Go.Maps

theorem info2 : (Try.prog.info? 2).map (fun i => (i.zero, i.size, i.bytes)) = some (some (.int .i64 0), 1, 8) := by kernel_rfl
theorem madeCells_zero (n : Nat) : madeCells #[Value.int .i64 0] n = cellsOf (List.replicate n 0) := by
  unfold madeCells cellsOf
  apply Array.ext_getElem?
  intro i
  by_cases hi : i < n <;> simp [hi, Nat.mod_one]

theorem alloc_room {w : World} {X : Nat → Prop} {pa : Nat} {S : AS} (h : Arena w X pa S) {n : Nat} (h1 : 1 ≤ n) (h2 : n ≤ 256) (h3 : S.used + n ≤ S.most) (h4 : S.made < 4611686018427387904) (hX : ∀ k, w.heap.size ≤ k → ¬ X k) :
    Calls Try.prog 34 #[.pointer (some ⟨pa, 0, none⟩), .int .i64 n] w fun e w' => e = .returned (.tuple #[.int .i64 (S.made + 1), .int .i64 0]) ∧ Arena w' X pa (S.alloc n) ∧ Keep X w w' := by
  obtain ⟨bm, D, row, h⟩ := h
  have c0 := h.head.cell 0
  have c1 := h.head.cell 1
  have c2 := h.head.cell 2
  have c4 := h.head.cell 4
  have f1 := h.head.frozen 1
  have f2 := h.head.frozen 2
  have hu0 := h.ok.used0
  have hu1 := h.ok.used1
  have hm1 := h.ok.most1
  have hd0 := h.ok.made0
  simp at c0 c1 c2 c4
  have hmk := run_make_row' (P := Try.prog) 44 2 (.int .i64 0) 8 Try.underlying44 info2 rfl .i64 .i64 n (by omega) (by omega)
  have HA := Lib.hid h; clear h
  have HX := Lib.hid hX; clear hX
  go_enter Try.func34, Try.ntmps34
  go_wp2
  go_region
  go_wp2
  have h := HA.out
  have s0 : (w.setCell ⟨pa, 2, none⟩ (Value.int IntKind.i64 (S.made + 1))).heap.size = w.heap.size := by simp [World.setCell]
  have hs : ((w.setCell ⟨pa, 2, none⟩ (Value.int IntKind.i64 (S.made + 1))).setCell ⟨pa, 1, none⟩ (Value.int IntKind.i64 (S.used + n))).drew.heap.size = w.heap.size := by simp [World.setCell, World.drew]
  have hB := ((h.head.set_ 2 (.int .i64 (S.made + 1))).set_ 1 (.int .i64 (S.used + n))).drew
  have hM := ((h.own.setCell h.bm_pa (a := ⟨pa, 2, none⟩) (.int .i64 (S.made + 1))).setCell h.bm_pa (a := ⟨pa, 1, none⟩) (.int .i64 (S.used + n))).drew
  have hP := h.head.lt
  have hfew := h.ok.few
  have hl := h.len
  have hX := HX.out
  clear c0 c1 c2 c4 f1 f2
  generalize hW : ((w.setCell ⟨pa, 2, none⟩ (Value.int IntKind.i64 (S.made + 1))).setCell ⟨pa, 1, none⟩ (Value.int IntKind.i64 (S.used + n))).drew = W at hs hB hM ⊢
  have e2 := ((hB.alloc (.cells (madeCells #[Value.int .i64 0] n) 2)).drew).cell 2
  have e4 := ((hB.alloc (.cells (madeCells #[Value.int .i64 0] n) 2)).drew).cell 4
  have d2 := hB.cell 2
  have d4 := hB.cell 4
  simp at e2 e4 d2 d4
  obtain ⟨w2, hrun, hown2, hturn2⟩ := ((hM.alloc (.cells (madeCells #[Value.int .i64 0] n) 2)).drew).store (val := rowOf W.heap.size n) law3 Try.underlying78 (by rw [hl]; unfold maxLen; omega) (keyOf_int_mk Try.underlying3 (k := 3) (a := S.made + 1) (WalkArith.wf_i64 (by omega))) rfl
  unfold rowOf at hrun
  have g2 := (((hB.alloc (.cells (madeCells #[Value.int .i64 0] n) 2)).drew).turned hturn2 h.bm_pa.symm).cell 2
  simp at g2
  have HOWN := Lib.hid hown2; clear hown2
  have HTURN := Lib.hid hturn2; clear hturn2
  have HWE := Lib.hid hW; clear hW
  have HB := Lib.hid hB; clear hB
  have HM := Lib.hid hM; clear hM
  have HX' := Lib.hid hX; clear hX
  have HS := Lib.hid hs; clear hs
  clear h s0 hl
  go_region
  go_wp2
  go_ret2
  have h := HA.out
  refine ⟨rfl, ⟨bm, _, _, h.made_ (w0 := (W.alloc (.cells (madeCells #[Value.int .i64 0] n) 2)).drew) (n := Maps.size D + 1) h1 h2 h3 HX.out ?_ ?_ HTURN.out law3⟩, ?_⟩
  · rw [← HWE.out, madeCells_zero]; rfl
  · have := HOWN.out; rw [HS.out] at this; exact this
  · rw [← HWE.out] at HTURN
    exact (((((Keep.refl X w).setCell (p := ⟨pa, 2, none⟩) h.paX _).setCell (p := ⟨pa, 1, none⟩) h.paX _).drew.alloc _).drew).turned HTURN.out h.bmX

theorem alloc_any {w : World} {X : Nat → Prop} {pa : Nat} {S : AS} (h : Arena w X pa S) (n : Int) (h4 : S.made < 4611686018427387904) (hX : ∀ k, w.heap.size ≤ k → ¬ X k) :
    Calls Try.prog 34 #[.pointer (some ⟨pa, 0, none⟩), .int .i64 n] w fun e w' => e = .returned (.tuple #[.int .i64 (S.allocNo n), .int .i64 (S.allocErr n)]) ∧ Arena w' X pa (S.allocAt n) ∧ Keep X w w' := by
  unfold AS.allocNo AS.allocAt
  by_cases h1 : n < 1 ∨ 256 < n
  · have he : S.allocErr n = 1 := by unfold AS.allocErr; rw [if_pos h1]
    rw [he]
    refine (alloc_bad n h1).mono ?_
    rintro e w' ⟨rfl, rfl⟩
    exact ⟨rfl, h, Keep.refl _ _⟩
  · by_cases h2 : S.most < S.used + n
    · have he : S.allocErr n = 21 := by unfold AS.allocErr; rw [if_neg h1, if_pos h2]
      rw [he]
      refine (alloc_full h (n := n) (by omega) (by omega) h2).mono ?_
      rintro e w' ⟨rfl, k, rfl⟩
      exact ⟨rfl, h.below ⟨rfl, rfl, rfl, Nat.le_refl _, fun _ _ => rfl⟩, ⟨rfl, rfl, rfl, Nat.le_refl _, fun _ _ _ => rfl⟩⟩
    · have he : S.allocErr n = 0 := by unfold AS.allocErr; rw [if_neg h1, if_neg h2]
      rw [he]
      obtain ⟨m, rfl⟩ := Int.eq_ofNat_of_zero_le (a := n) (by omega)
      refine (alloc_room h (n := m) (by omega) (by omega) (by omega) h4 hX).mono ?_
      rintro e w' ⟨rfl, ha, hk⟩
      exact ⟨rfl, by simpa using ha, hk⟩

/-! ### New -/
def AS.new (m : Int) : AS := ⟨min (max m 0) 65536, 0, 0, 0, []⟩
theorem AS.new_ok (m : Int) : (AS.new m).Ok :=
  ⟨by simp only [AS.new]; omega, by simp only [AS.new]; omega, by simp only [AS.new]; omega, rfl, by simp [AS.new], List.Pairwise.nil, by simp [AS.new], by simp [AS.new]⟩
theorem arena_new (m v : Int) (w : World) (X : Nat → Prop) (hX : ∀ k, w.heap.size ≤ k → ¬ X k) (hv : v = min (max m 0) 65536) :
    Arena ((w.alloc (.map #[] 0)).alloc (.cells #[.int .i64 v, .int .i64 0, .int .i64 0, .int .i64 0, .map (some w.heap.size)] 80)) X (w.heap.size + 1) (AS.new m) := by
  subst hv
  have hb := Blk.new (w.alloc (.map #[] 0)) 80 #[.int .i64 (min (max m 0) 65536), .int .i64 0, .int .i64 0, .int .i64 0, .map (some w.heap.size)]
  simp only [World.size_alloc] at hb
  refine ⟨w.heap.size, .map [], fun _ => 0, hb, hX _ (by omega), hX _ (Nat.le_refl _), (World.ownsMap_made w Try.prog 3 slotElem).alloc _, rfl, fun k _ => rfl, ?_, ?_, AS.new_ok m⟩
  · intro k cs hl; simp [AS.new, look_nil] at hl
  · intro k k' cs cs' hl; simp [AS.new, look_nil] at hl
theorem new_any (m : Int) (w : World) (X : Nat → Prop) (hX : ∀ k, w.heap.size ≤ k → ¬ X k) :
    Calls Try.prog 9 #[.int .i64 m] w fun e w' => e = .returned (.pointer (some ⟨w.heap.size + 1, 0, none⟩)) ∧ Arena w' X (w.heap.size + 1) (AS.new m) ∧ Below w.heap.size w w' := by
  have hmm := @run_makeMap Try.prog
  have HX := Lib.hid hX; clear hX
  go_enter Try.func9, Try.ntmps9
  go_wp2
  all_goals
    go_ret
    exact ⟨rfl, arena_new m _ w X HX.out (by omega), ((Below.refl _ _).alloc (Nat.le_refl _) _).alloc (by simp) _⟩

end Go.Proofs.Ytebdlggmpojgdaa
