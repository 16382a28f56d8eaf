/-
  EpochHolds, the walk. Condition: the scripts are shorter than 2^60 (the reach of the reading pays it).
-/
import Derived.Test.YtiiaajdkkofbjaaHolds
namespace Go.Proofs.Ytiiaajdkkofbjaa
open Go.RowKit Go.Maps
set_option linter.unusedVariables false

theorem has_cells {w : World} {g n c : Nat} {xs : List Int} (h : ∀ j, j < n → w.cell? ⟨g, j, none⟩ = some (.int .i64 (xs.getD j 0))) (hn : n ≤ xs.length) (hs : n ≤ 1000000) (x : Int) :
    Calls Try.prog 17 #[.slice (some ⟨g, 0, none⟩) n c, .int .i64 x] w fun e w' => e = .returned (.bool (among (xs.take n) x)) ∧ w = w' := by
  have H := Lib.hid h; clear h
  go_enter Try.func17, Try.ntmps17
  go_wp2
  go_loop [5] (fun i => ∃ k : Nat, k ≤ n ∧ i = .int .i64 k ∧ Hid (among (xs.take k) x = false)) (fun i => n - (intOf i).toNat)
  case atStart => exact ⟨0, by omega, rfl, Lib.hid rfl⟩
  case round =>
    obtain ⟨k, hk, rfl, HA⟩ := hrel
    by_cases hlt : k < n
    · have hc := H.out k hlt
      have hs : among (xs.take (k + 1)) x = (among (xs.take k) x || (xs.getD k 0 == x)) := by
        have e : xs.getD k 0 = xs[k] := by simp [List.getD, show k < xs.length by omega]
        unfold among
        rw [List.take_succ_eq_append_getElem (by omega), List.any_append, e]
        simp
      rw [HA.out, Bool.false_or] at hs
      generalize xs.getD k 0 = y at hc hs
      cases hy : (y == x) with
      | true =>
        rw [hy] at hs
        have hfin : among (xs.take n) x = true := by
          unfold among at hs ⊢
          rw [List.any_eq_true] at hs ⊢
          obtain ⟨z, hz, he⟩ := hs
          exact ⟨z, List.take_subset_take_left _ (by omega) hz, he⟩
        have HF := Lib.hid hfin; clear hfin hs
        go_wp2
        go_ret
        exact ⟨by rw [HF.out]; rfl, rfl⟩
      | false =>
        rw [hy] at hs
        have HN := Lib.hid hs; clear hs
        go_wp2
        go_round
        case rel => exact ⟨k + 1, by omega, by go_num, HN⟩
        case measure => simp [intOf]; omega
    · obtain rfl : k = n := by omega
      go_wp2
      go_ret
      exact ⟨by rw [HA.out]; rfl, rfl⟩
theorem has_nil {w : World} (x : Int) : Calls Try.prog 17 #[.slice none 0 0, .int .i64 x] w fun e w' => e = .returned (.bool false) ∧ w = w' := by
  go_enter Try.func17, Try.ntmps17
  go_wp2
  refine wp_loop_rounds 1 ?_
  rw [rounds_succ]
  go_wp2
  go_ret
  exact ⟨rfl, rfl⟩
theorem has_own {w : World} {base : Nat} {u : Value} {xs : List Int} (h : w.ownsRow base 3 1 u xs.length (xs.map (Value.int .i64))) (hs : xs.length ≤ 1000000) (x : Int) :
    Calls Try.prog 17 #[u, .int .i64 x] w fun e w' => e = .returned (.bool (among xs x)) ∧ w = w' := by
  rcases h.2 with ⟨rfl, h0⟩ | ⟨g, cap, cur, rfl, _⟩
  · have : xs = [] := List.length_eq_zero_iff.1 h0
    subst this
    exact has_nil x
  · have := has_cells (w := w) (g := g) (n := xs.length) (c := cap) (xs := xs) (fun j hj => by rw [h.cellAt j (by omega)]; simp [List.getD, hj]) (Nat.le_refl _) hs x
    rwa [List.take_length] at this

theorem enter_in' {Y : YS} (hok : Y.Ok) {t : Nat} (h1 : 1 ≤ t) (h2 : (t : Int) ≤ Y.threads) : (Y.enterAt t).ent.getD t 0 ≠ 0 := by
  have h9 := hok.len
  have h8 := hok.th8
  have h0 := hok.now0
  unfold YS.enterAt
  split
  · show (Y.ent.set (t : Int).toNat (Y.now + 1)).getD t 0 ≠ 0
    rw [Int.toNat_natCast, getD_set_self (by omega)]
    omega
  · rename_i he
    unfold YS.enterErr at he
    rw [if_pos ⟨by omega, h2⟩] at he
    intro hz
    apply he
    rw [if_pos (by unfold YS.at_; rw [Int.toNat_natCast]; exact hz)]

structure HR1 (w wr : World) (pa py : Nat) (k : Nat) : Prop where
  kp : Keep (fun k => k < w.heap.size) w wr
  st : ∃ Y S, Yd wr (fun k => k < w.heap.size) pa py Y S ∧ Right Y S ∧ OutOk Y ∧ EntOk Y ∧ Y.threads = 8 ∧ Y.bound = 64 ∧ Y.now ≤ k ∧ S.made ≤ k + 1 ∧ Free1 Y S
structure HR2 (w wr : World) (pa py : Nat) (tt : Nat) (T : Int) (k : Nat) : Prop where
  kp : Keep (fun k => k < w.heap.size) w wr
  st : ∃ Y S, Yd wr (fun k => k < w.heap.size) pa py Y S ∧ Right Y S ∧ OutOk Y ∧ Y.now ≤ k ∧ S.made ≤ k ∧ Held1 Y S tt T

section
variable {w : World} {X : Nat → Prop} {pa py : Nat}
theorem ho_new (hX : ∀ k, w.heap.size ≤ k → ¬ X k) : Calls Try.prog 10 #[.int .i64 3000] w fun e w' => e = .returned (.pointer (some ⟨w.heap.size + 1, 0, none⟩)) ∧ Arena w' X (w.heap.size + 1) ⟨3000, 0, 0, 0, []⟩ ∧ Below w.heap.size w w' := new_any 3000 w X hX
theorem ho_ynew {S : AS} (h : Arena w X pa S) (hX : ∀ k, w.heap.size ≤ k → ¬ X k) : Calls Try.prog 23 #[.pointer (some ⟨pa, 0, none⟩), .int .i64 8, .int .i64 64] w fun e w' => e = .returned (.pointer (some ⟨w.heap.size, 0, none⟩)) ∧ Yd w' X pa w.heap.size ⟨8, 64, 0, [0, 0, 0, 0, 0, 0, 0, 0, 0], []⟩ S ∧ Below w.heap.size w w' := ynew_any h hX 8 64
theorem ho_alloc {Y : YS} (h : Yd w X pa py Y ⟨3000, 0, 0, 0, []⟩) (hX : ∀ k, w.heap.size ≤ k → ¬ X k) : Calls Try.prog 24 #[.pointer (some ⟨pa, 0, none⟩), .int .i64 3] w fun e w' => e = .returned (.tuple #[.int .i64 1, .int .i64 0]) ∧ Yd w' X pa py Y ⟨3000, 3, 1, 0, [(1, [0, 0, 0])]⟩ ∧ Keep X w w' := by
  obtain ⟨Z, ha, hf, hXZ, hb⟩ := h.arena
  refine (alloc_any ha 3 (by decide) (fun k hk => hf k hk (hX k hk))).mono ?_
  rintro e w' ⟨h1, h2, h3⟩
  exact ⟨h1, hb w' _ h2 h3, h3.less hXZ⟩
theorem ho_gone {Y : YS} {S : AS} (h : Yd w X pa py Y S) (hl : look S.bl 1 = none) : Calls Try.prog 30 #[.pointer (some ⟨pa, 0, none⟩), .int .i64 1] w fun e w' => e = .returned (.tuple #[.int .i64 0, .int .i64 20]) ∧ Yd w' X pa py Y S.fault ∧ Keep X w w' := by
  obtain ⟨Z, ha, hf, hXZ, hb⟩ := h.arena
  have hs := size_any ha (b := 1) (by decide)
  have e1 : S.sizeAt 1 = 0 := by unfold AS.sizeAt; rw [hl]
  have e2 : S.err0 1 = 20 := by unfold AS.err0; rw [hl]
  have e3 : S.touch 1 = S.fault := by unfold AS.touch; rw [hl]
  rw [e1, e2, e3] at hs
  refine hs.mono ?_
  rintro e w' ⟨h1, h2, h3⟩
  exact ⟨h1, hb w' _ h2 h3, h3.less hXZ⟩
theorem inside_form {Y : YS} {S : AS} (h : Yd w X pa py Y S) : Calls Try.prog 27 #[.pointer (some ⟨py, 0, none⟩)] w fun e w' => ∃ a c, e = .returned (.slice a Y.inside.length c) ∧ Below w.heap.size w w' ∧ w'.ownsRow w.heap.size 3 1 (.slice a Y.inside.length c) Y.inside.length (Y.inside.map (Value.int .i64)) := by
  refine (inside_any h).mono ?_
  rintro e w' ⟨u, rfl, hb, ho⟩
  have hf : ∃ a c, u = .slice a Y.inside.length c := by
    rcases ho.2 with ⟨hv, h0⟩ | ⟨g, cap, cur, hv, _⟩
    · exact ⟨none, 0, by rw [hv, h0]⟩
    · exact ⟨_, _, hv⟩
  obtain ⟨a, c, rfl⟩ := hf
  exact ⟨a, c, rfl, hb, ho⟩
end
theorem hr1_same {w wr : World} {pa py : Nat} {k : Nat} (h : HR1 w wr pa py k) (o : Obj) : HR1 w (wr.alloc o) pa py (k + 1) := by
  obtain ⟨hk, Y, S, a1, a2, a3, a4, a5, a6, a7, a8, a9⟩ := h
  exact ⟨hk.alloc o, Y, S, a1.alloc o, a2, a3, a4, a5, a6, by omega, by omega, a9⟩
theorem hr2_same {w wr : World} {pa py tt : Nat} {T : Int} {k : Nat} (h : HR2 w wr pa py tt T k) (o : Obj) : HR2 w (wr.alloc o) pa py tt T (k + 1) := by
  obtain ⟨hk, Y, S, a1, a2, a3, a4, a5, a6⟩ := h
  exact ⟨hk.alloc o, Y, S, a1.alloc o, a2, a3, by omega, by omega, a6⟩
/-- One call of the first script. -/
theorem hr1_step {w wr : World} {pa py : Nat} {k : Nat} (h : HR1 w wr pa py k) (hk : k ≤ 1152921504606846976) (kd t b : Int) (hwb : (ik b).wf = true) (h6 : kd ≠ 6) (hb : b ≠ 1) (o : Obj) :
    Calls Try.prog 25 #[.pointer (some ⟨py, 0, none⟩), .pointer (some ⟨pa, 0, none⟩), ZY, ZA, .agg #[.int .i64 kd, .int .i64 t, .int .i64 b]] (wr.alloc o) fun e w' => (∃ r, e = .returned r) ∧ HR1 w w' pa py (k + 1) := by
  obtain ⟨hkp, Y, S, a1, a2, a3, a4, a5, a6, a7, a8, a9⟩ := h
  have hz := hkp.size
  refine (does_any (a1.alloc o) (fun j hj => by simp at hj; omega) (by omega) (by omega) kd t b hwb h6).mono ?_
  rintro e w' ⟨hr, y', k'⟩
  have hnow := step_now Y S kd t b
  have hmade := step_made a2 kd t b
  exact ⟨hr, (hkp.alloc o).trans k', _, _, y', a2.step a1.sok kd t b, a3.step kd t b, a4.step a1.ok.now0 kd t b, (step_fixed Y S kd t b).1.trans a5, (step_fixed Y S kd t b).2.trans a6, by omega, by omega, a9.step a2 a1.sok kd t b hb⟩
theorem hr2_step {w wr : World} {pa py tt : Nat} {T : Int} {k : Nat} (h : HR2 w wr pa py tt T k) (hk : k ≤ 2305843009213693999) (htt : tt < 9) (kd t b : Int) (hwb : (ik b).wf = true) (h6 : kd ≠ 6) (h2 : kd = 2 → t ≠ tt) (o : Obj) :
    Calls Try.prog 25 #[.pointer (some ⟨py, 0, none⟩), .pointer (some ⟨pa, 0, none⟩), ZY, ZA, .agg #[.int .i64 kd, .int .i64 t, .int .i64 b]] (wr.alloc o) fun e w' => (∃ r, e = .returned r) ∧ HR2 w w' pa py tt T (k + 1) := by
  obtain ⟨hkp, Y, S, a1, a2, a3, a7, a8, a9⟩ := h
  have hz := hkp.size
  refine (does_any (a1.alloc o) (fun j hj => by simp at hj; omega) (by omega) (by omega) kd t b hwb h6).mono ?_
  rintro e w' ⟨hr, y', k'⟩
  have hnow := step_now Y S kd t b
  have hmade := step_made a2 kd t b
  exact ⟨hr, (hkp.alloc o).trans k', _, _, y', a2.step a1.sok kd t b, a3.step kd t b, by omega, by omega, a9.step a2 a1.sok htt kd t b h2⟩
end Go.Proofs.Ytiiaajdkkofbjaa
