/-
  CellsNumbers: blocks' numbers rise by one and are never used again; a block has just the cells that were asked for. No condition: every two slices.
-/
import Derived.Test.YtbgbknbfleiakaaArgs
namespace Go.Proofs.Ytbgbknbfleiakaa
open Go.RowKit Go.Maps

theorem size_hit {w : World} {X : Nat → Prop} {pa : Nat} {S : AS} (h : Arena w X pa S) {b : Int} (hwb : (ik b).wf = true) {cs : List Int} (hl : look S.bl b = some cs) :
    Calls Try.prog 16 #[.pointer (some ⟨pa, 0, none⟩), .int .i64 b] w fun e w' => e = .returned (.tuple #[.int .i64 cs.length, .int .i64 0]) ∧ w = w' := by
  obtain ⟨bm, D, row, h⟩ := h
  have hc := block_hit h hwb hl
  unfold rowOf at hc
  generalize row b = g at hc
  have HC := Lib.hid hc; clear hc
  clear h hl hwb
  go_enter Try.func16, Try.ntmps16
  go_wp2_with (go_at_call 27; refine HC.out.mono ?_; rintro e w' ⟨rfl, rfl⟩)
  go_ret2
  exact ⟨rfl, rfl⟩

/-- What holds at the head of a round. -/
structure NuRel (w wr : World) (pa k : Nat) (last : Int) (S : AS) : Prop where
  below : Below w.heap.size w wr
  arena : Arena wr (fun i => i < w.heap.size) pa S
  most : S.most = 65536
  made : S.made = last
  few : last ≤ k
  used : S.used ≤ 256 * k

section
variable {w wr w1 : World} {pa k : Nat} {last : Int} {S : AS}
theorem NuRel.next (h : NuRel w wr pa k last S) : NuRel w wr pa (k + 1) last S := ⟨h.below, h.arena, h.most, h.made, by have := h.few; omega, by have := h.used; omega⟩
theorem NuRel.alloc (h : NuRel w wr pa k last S) {m : Nat} (hm : m ≤ 256) (ha : Arena w1 (fun i => i < w.heap.size) pa (S.alloc m)) (hk : Keep (fun i => i < w.heap.size) wr w1) : NuRel w w1 pa (k + 1) (last + 1) (S.alloc m) :=
  ⟨h.below.trans (hk.toBelow (fun _ hk => hk) h.below.size), ha, h.most, by simp only [AS.alloc]; have := h.made; omega, by have := h.few; omega, by simp only [AS.alloc]; have := h.used; omega⟩
theorem NuRel.free (h : NuRel w wr pa k last S) {b : Int} (ha : Arena w1 (fun i => i < w.heap.size) pa (S.freeAt b)) (hk : Keep (fun i => i < w.heap.size) wr w1) : NuRel w w1 pa k last (S.freeAt b) := by
  refine ⟨h.below.trans (hk.toBelow (fun _ hk => hk) h.below.size), ha, ?_, ?_, h.few, ?_⟩
  · have := h.most; unfold AS.freeAt; split <;> simp [AS.fault, AS.free, this]
  · have := h.made; unfold AS.freeAt; split <;> simp [AS.fault, AS.free, this]
  · have := h.used
    unfold AS.freeAt; split
    · simp only [AS.fault]; omega
    · simp only [AS.free]; omega
end
theorem look_alloc (S : AS) (m : Nat) : look (S.alloc m).bl (S.made + 1) = some (List.replicate m 0) := by
  simp [AS.alloc, look_cons]

theorem nu0 {w : World} {X : Nat → Prop} (hX : ∀ k, w.heap.size ≤ k → ¬ X k) : Calls Try.prog 8 #[.int .i64 65536] w fun e w' => e = .returned (.pointer (some ⟨w.heap.size + 1, 0, none⟩)) ∧ Arena w' X (w.heap.size + 1) ⟨65536, 0, 0, 0, []⟩ ∧ Below w.heap.size w w' := new_any 65536 w X hX

/-- Of a block that was just made: its size, its last cell, what lies beyond, what lies before. -/
theorem nu_new {w : World} {X : Nat → Prop} {pa : Nat} {S : AS} {m : Nat} (h : Arena w X pa (S.alloc m)) (hm : 1 ≤ m) (hw : (ik (S.made + 1)).wf = true) :
    (Calls Try.prog 16 #[.pointer (some ⟨pa, 0, none⟩), .int .i64 (S.made + 1)] w fun e w' => e = .returned (.tuple #[.int .i64 m, .int .i64 0]) ∧ w = w') ∧
    (Calls Try.prog 17 #[.pointer (some ⟨pa, 0, none⟩), .int .i64 (S.made + 1), .int .i64 ((m : Int) - 1)] w fun e w' => e = .returned (.tuple #[.int .i64 0, .int .i64 0]) ∧ w = w') ∧
    (Calls Try.prog 17 #[.pointer (some ⟨pa, 0, none⟩), .int .i64 (S.made + 1), .int .i64 m] w fun e w' => e = .returned (.tuple #[.int .i64 0, .int .i64 1]) ∧ w = w') ∧
    (Calls Try.prog 17 #[.pointer (some ⟨pa, 0, none⟩), .int .i64 (S.made + 1), .int .i64 (-1)] w fun e w' => e = .returned (.tuple #[.int .i64 0, .int .i64 1]) ∧ w = w') := by
  have hl := look_alloc S m
  refine ⟨?_, ?_, ?_, ?_⟩
  · have := size_hit h hw hl; simpa using this
  · have := load_hit h hw hl (i := m - 1) (by simp; omega)
    rw [show ((m - 1 : Nat) : Int) = (m : Int) - 1 by omega] at this
    have e : (List.replicate m (0 : Int)).getD (m - 1) 0 = 0 := by simp [List.getD, show m - 1 < m by omega]
    rw [e] at this
    exact this
  · exact load_arg h hw hl (.inr (by simp))
  · exact load_arg h hw hl (.inl (by omega))

set_option maxHeartbeats 4000000 in
set_option maxRecDepth 100000 in
theorem numbers_walk (a0 : Option Addr) (len0 cap0 : Nat) (z0 : List Int) (a1 : Option Addr) (len1 cap1 : Nat) (z1 : List Int) (w : World) (w0 : IsRow .i64 w a0 len0 cap0 z0) (w1 : IsRow .i64 w a1 len1 cap1 z1) :
    Calls Try.prog 7 #[.slice a0 len0 cap0, .slice a1 len1 cap1] w fun e w' => e = .returned (.bool true) ∧ Below w.heap.size w w' := by
  have hX : ∀ W : World, w.heap.size ≤ W.heap.size → ∀ k, W.heap.size ≤ k → ¬ k < w.heap.size := fun W h k hk => by omega
  have HX := Lib.hid hX; clear hX
  have hlen := w0.len
  have hlen1 := w1.len
  have HR0 := Lib.hid w0; clear w0
  have HR1 := Lib.hid w1; clear w1
  go_enter Try.func7, Try.ntmps7
  go_wp2_with fail
  refine (nu0 (X := fun k => k < w.heap.size) (HX.out _ (Nat.le_refl _))).mono ?_
  rintro e w1 ⟨rfl, a1', b1⟩
  have z1' := b1.size
  go_wp2_with fail
  refine (alive_any _).mono ?_
  rintro e w2 ⟨rfl, b2⟩
  have hrel0 : NuRel w w2 (w.heap.size + 1) 0 0 ⟨65536, 0, 0, 0, []⟩ := ⟨b1.trans (b2.mono z1'), a1'.below b2, rfl, rfl, by omega, by simp⟩
  have HREL := Lib.hid hrel0; clear hrel0
  clear a1' b1 b2
  go_wp2_with fail
  generalize w.heap.size + 1 = pa at *
  go_loopw [6, 28] (fun l i wr => ∃ (k : Nat) (ln : Int) (S : AS), k ≤ len0 ∧ i = .int .i64 k ∧ l = .int .i64 ln ∧ NuRel w wr pa k ln S) (fun _ i _ => len0 - (intOf i).toNat)
  case atStart => exact ⟨0, 0, _, by omega, rfl, rfl, HREL.out⟩
  case round =>
    clear HREL
    obtain ⟨k, ln, S, hk, rfl, rfl, hr⟩ := hrel
    by_cases hkl : k < len0
    · obtain ⟨b, off, rfl, hb, hcell, hwn⟩ := HR0.out.at_ hkl
      rw [← hr.below.cell (p := ⟨b, off + k, none⟩) hb] at hcell
      generalize z0.getD k 0 = n at hcell hwn
      have HWN := Lib.hid hwn; clear hwn
      have HREL := Lib.hid hr
      have HBEL := Lib.hid hr.below
      by_cases hk2 : 200 < k
      · clear hr
        go_wp2_with fail
        go_ret
        exact ⟨rfl, HBEL.out⟩
      · have hfew := hr.few
        have hmade := hr.made
        have hm0 := hr.arena.ok.made0
        have hln0 : 0 ≤ ln := by omega
        have HMADE := Lib.hid hmade; clear hmade
        clear hm0
        by_cases hn : n < 1 ∨ 256 < n
        · clear hr
          have HN := Lib.hid hn
          by_cases hn1 : n < 1
          all_goals
            go_wp2_with fail
            refine (alloc_bad n HN.out).mono ?_
            rintro e w' ⟨rfl, rfl⟩
            go_wp2_with fail
            go_roundw
            case rel => exact ⟨k + 1, ln, S, by omega, by go_num, rfl, HREL.out.next⟩
            case measure => simp [intOf]; omega
        · obtain ⟨m, rfl⟩ := Int.eq_ofNat_of_zero_le (a := n) (by omega)
          have hm1 : 1 ≤ m := by omega
          have hm2 : m ≤ 256 := by omega
          have hroom := alloc_room hr.arena hm1 hm2 (by have := hr.used; have := hr.most; omega) (by have := HMADE.out; omega) (HX.out _ hr.below.size)
          rw [HMADE.out] at hroom
          have HROOM := Lib.hid hroom; clear hroom
          clear hr hn
          have hm1' : (1 : Int) ≤ m := by omega
          have hm2' : (m : Int) ≤ 256 := by omega
          go_wp2_with fail
          refine HROOM.out.mono ?_
          rintro e w5 ⟨rfl, ha5, hk5⟩
          have hwl : (ik (S.made + 1)).wf = true := by rw [HMADE.out]; exact WalkArith.wf_i64 (by omega)
          obtain ⟨q1, q2, q3, q4⟩ := nu_new ha5 hm1 hwl
          have q5 := made_any ha5
          rw [HMADE.out] at q1 q2 q3 q4
          have e5 : (S.alloc m).made = ln + 1 := by simp only [AS.alloc]; rw [HMADE.out]
          rw [e5] at q5
          have Q1 := Lib.hid q1; have Q2 := Lib.hid q2; have Q3 := Lib.hid q3; have Q4 := Lib.hid q4; have Q5 := Lib.hid q5
          clear q1 q2 q3 q4 q5 e5 hwl
          have HREL5 := Lib.hid (HREL.out.alloc hm2 ha5 hk5)
          have HA5 := Lib.hid ha5
          clear ha5 hk5
          go_wp2_with fail
          refine Q1.out.mono ?_
          rintro e w' ⟨rfl, rfl⟩
          go_wp2_with fail
          refine Q2.out.mono ?_
          rintro e w' ⟨rfl, rfl⟩
          go_wp2_with fail
          refine Q3.out.mono ?_
          rintro e w' ⟨rfl, rfl⟩
          go_wp2_with fail
          refine Q4.out.mono ?_
          rintro e w' ⟨rfl, rfl⟩
          go_wp2_with fail
          refine Q5.out.mono ?_
          rintro e w' ⟨rfl, rfl⟩
          by_cases hf : k < len1
          · obtain ⟨b', off', rfl, hb', hcell', hwf'⟩ := HR1.out.at_ hf
            rw [← HREL5.out.below.cell (p := ⟨b', off' + k, none⟩) hb'] at hcell'
            generalize z1.getD k 0 = f at hcell' hwf'
            have HWF := Lib.hid hwf'; clear hwf'
            clear hcell
            go_wp2_with fail
            refine (free_any HA5.out HWF.out).mono ?_
            rintro e w6 ⟨rfl, ha6, hk6⟩
            have HREL6 := Lib.hid (HREL5.out.free ha6 hk6)
            clear ha6 hk6
            go_wp2_with fail
            go_roundw
            case rel => exact ⟨k + 1, ln + 1, _, by omega, by go_num, rfl, HREL6.out⟩
            case measure => simp [intOf]; omega
          · go_wp2_with fail
            go_roundw
            case rel => exact ⟨k + 1, ln + 1, _, by omega, by go_num, rfl, HREL5.out⟩
            case measure => simp [intOf]; omega
    · have HBEL := Lib.hid hr.below
      clear hr
      go_wp2_with fail
      go_ret
      exact ⟨rfl, HBEL.out⟩

end Go.Proofs.Ytbgbknbfleiakaa
