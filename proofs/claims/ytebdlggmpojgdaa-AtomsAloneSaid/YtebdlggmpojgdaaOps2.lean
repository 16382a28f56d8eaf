/-
  The contracts of package cells, more: Live, Free, Alloc, New over the plain state of an arena. Conditions: as in YtebdlggmpojgdaaOps.
-/
import Derived.Test.YtebdlggmpojgdaaOps
import Derived.Outline
import Derived.Deep.RegionLaw
namespace Go.Proofs.Ytebdlggmpojgdaa
open Go.RowKit Go.Maps

theorem free_hit {w : World} {X : Nat → Prop} {pa : Nat} {S : AS} (h : Arena w X pa S) {b : Int} (hwb : (ik b).wf = true) {cs : List Int} (hl : look S.bl b = some cs) :
    Calls Try.prog 47 #[.pointer (some ⟨pa, 0, none⟩), .int .i64 b] w fun e w' => e = .returned (.int .i64 0) ∧ Arena w' X pa (S.free b cs.length) ∧ Keep X w w' := by
  obtain ⟨bm, D, row, h⟩ := h
  have hc := block_hit h hwb hl
  unfold rowOf at hc
  have hu0 := h.ok.used0
  have hu1 := h.ok.used1
  have hm1 := h.ok.most1
  have hsz := h.ok.size hl
  have c1 := h.head.cell 1
  have f1 := h.head.frozen 1
  have c4 := h.head.cell 4
  simp at c1 c4
  have hown := h.own.setCell h.bm_pa (a := ⟨pa, 1, none⟩) (.int .i64 (S.used - cs.length))
  have hcell4 : (w.setCell ⟨pa, 1, none⟩ (.int .i64 (S.used - cs.length))).cell? ⟨pa, 4, none⟩ = some (.map (some bm)) := by
    rw [World.cell?_setCell_other _ _ _ _ (by simp)]; exact c4
  generalize row b = g at hc
  have HC := Lib.hid hc; clear hc
  have HW := Lib.hid hwb; clear hwb
  have HL := Lib.hid hl; clear hl
  have HA := Lib.hid h; clear h
  go_enter Try.func47, Try.ntmps47
  go_wp2_with (first
    | (go_at_call 81; refine HC.out.mono ?_; rintro e w' ⟨rfl, rfl⟩)
    | (at_delete; refine wpList_delete_own _ rfl _ _ 78 3 rfl 44 law3 Try.underlying78 _ bm _ D rfl hown (.int .i64 b) (ik b) rfl (keyOf_int_mk Try.underlying3 HW.out) ?_; intro w1 hown1 hturn1))
  go_ret
  exact ⟨rfl, ⟨bm, _, row, HA.out.freed HL.out hown1 hturn1 law3⟩, (HA.out.setK 1 _).turned hturn1 HA.out.bmX⟩
theorem free_any {w : World} {X : Nat → Prop} {pa : Nat} {S : AS} (h : Arena w X pa S) {b : Int} (hwb : (ik b).wf = true) :
    Calls Try.prog 47 #[.pointer (some ⟨pa, 0, none⟩), .int .i64 b] w fun e w' => e = .returned (.int .i64 (S.err0 b)) ∧ Arena w' X pa (S.freeAt b) ∧ Keep X w w' := by
  unfold AS.err0 AS.freeAt
  cases hl : look S.bl b with
  | none =>
    obtain ⟨bm, D, row, h⟩ := h
    have hc := block_miss h hwb hl
    have hf : Arena _ X pa S.fault := ⟨bm, D, row, h.fault⟩
    have hk := h.setK 3 (.int .i64 (wrap64 (S.faults + 1)))
    have HC := Lib.hid hc; clear hc
    have HF := Lib.hid hf; clear hf
    have HK := Lib.hid hk; clear hk
    clear h hl hwb
    go_enter Try.func47, Try.ntmps47
    go_wp2_with (go_at_call 81; refine HC.out.mono ?_; rintro e w' ⟨rfl, rfl⟩)
    go_ret
    exact ⟨rfl, HF.out, HK.out⟩
  | some cs => exact free_hit h hwb hl

/-! ### Alloc -/
theorem alloc_bad {w : World} {pa : Nat} (n : Int) (hn : n < 1 ∨ 256 < n) :
    Calls Try.prog 34 #[.pointer (some ⟨pa, 0, none⟩), .int .i64 n] w fun e w' => e = .returned (.tuple #[.int .i64 0, .int .i64 1]) ∧ w = w' := by
  by_cases h1 : n < 1
  all_goals
    go_enter Try.func34, Try.ntmps34
    go_wp2
    go_ret2
    exact ⟨rfl, rfl⟩
theorem alloc_full {w : World} {X : Nat → Prop} {pa : Nat} {S : AS} (h : Arena w X pa S) {n : Int} (h1 : 1 ≤ n) (h2 : n ≤ 256) (h3 : S.most < S.used + n) :
    Calls Try.prog 34 #[.pointer (some ⟨pa, 0, none⟩), .int .i64 n] w fun e w' => e = .returned (.tuple #[.int .i64 0, .int .i64 21]) ∧ ∃ k, w' = w.drewN k := by
  obtain ⟨bm, D, row, h⟩ := h
  have c0 := h.head.cell 0
  have c1 := h.head.cell 1
  have hu0 := h.ok.used0
  have hu1 := h.ok.used1
  have hm1 := h.ok.most1
  simp at c0 c1
  clear h
  go_enter Try.func34, Try.ntmps34
  go_wp2
  go_quiet (fail)
  go_wp2
  go_ret2
  exact ⟨rfl, _, rfl⟩

end Go.Proofs.Ytebdlggmpojgdaa
