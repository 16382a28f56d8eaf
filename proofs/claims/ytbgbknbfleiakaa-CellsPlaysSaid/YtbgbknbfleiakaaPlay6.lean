/-
  One call of a script against the document, whatever it is: true, and both sides a step further. Condition: fewer than 2^42 blocks were made.
-/
import Derived.Test.YtbgbknbfleiakaaPlay5
namespace Go.Proofs.Ytbgbknbfleiakaa
open Go.RowKit Go.Maps

set_option maxHeartbeats 1000000 in
set_option maxRecDepth 100000 in
theorem asksM_other {w : World} {X Y : Nat → Prop} {pa : Nat} {S : AS} (h : Arena w X pa S) {A : Option Addr} {vals : List Value} {bl : List (List Int)} (hr : RowsAt w Y A vals bl) (hm : Match S bl) (c : Nat)
    {kd : Int} (h1 : (kd == 1) = false) (h2 : (kd == 2) = false) (h3 : (kd == 3) = false) (h4 : (kd == 4) = false) (h5 : (kd == 5) = false) (h6 : (kd == 6) = false) (h7 : (kd == 7) = false) (b i v x : Int) :
    Calls Try.prog 11 #[.pointer (some ⟨pa, 0, none⟩), .agg #[.slice A bl.length c, .int .i64 S.most, .int .i64 S.faults], .agg #[.int .i64 kd, .int .i64 b, .int .i64 i, .int .i64 v, .int .i64 x]] w (Plays w X Y pa S) := by
  have HA := Lib.hid h; clear h
  have HR := Lib.hid hr; clear hr
  have HM := Lib.hid hm; clear hm
  go_enter Try.func11, Try.ntmps11
  go_wp2_with fail
  refine bodyPost_ret (by simp [results, Try.results11, go_sem]; rfl) rfl ?_
  have hk : Keep X w (((w.alloc (.cells #[.slice A bl.length c, .int .i64 S.most, .int .i64 S.faults] 28)).alloc (.cells #[.int .i64 kd, .int .i64 b, .int .i64 i, .int .i64 v, .int .i64 x] 31)).alloc (.cells #[.slice A bl.length c, .int .i64 S.most, .int .i64 S.faults] 28)) := (((Keep.refl _ _).alloc _).alloc _).alloc _
  refine ⟨A, c, vals, bl, fun _ => False, rfl, ?_, ?_, HM.out, fun q hq => hq.elim, hk⟩
  · exact (((HA.out.alloc _).alloc _).alloc _).less (fun q _ hq => by rcases hq with hq | hq; exact hq; exact hq.elim)
  · exact (HR.out.below (below3 _ _ _)).wide (fun q hq => .inl hq)

theorem asksM_any {w : World} {X Y : Nat → Prop} {pa : Nat} {S : AS} (h : Arena w X pa S) (hX : ∀ q, X q → q < w.heap.size) (hY : ∀ q, Y q → X q) {A : Option Addr} {vals : List Value} {bl : List (List Int)} (hr : RowsAt w Y A vals bl) (hm : Match S bl) (c : Nat) (hlen : bl.length ≤ 4398046511102)
    (kd : Int) {b i : Int} (hwb : (ik b).wf = true) (v x : Int) :
    Calls Try.prog 11 #[.pointer (some ⟨pa, 0, none⟩), .agg #[.slice A bl.length c, .int .i64 S.most, .int .i64 S.faults], .agg #[.int .i64 kd, .int .i64 b, .int .i64 i, .int .i64 v, .int .i64 x]] w (Plays w X Y pa (S.step kd b i v x)) := by
  unfold AS.step
  by_cases h1 : kd = 1
  · subst h1
    rw [if_pos rfl]
    unfold AS.allocAt
    by_cases hb : i < 1 ∨ 256 < i
    · have he : S.allocErr i = 1 := by unfold AS.allocErr; rw [if_pos hb]
      rw [he]
      exact asksM_alloc_bad h hX hY hr hm c hlen b i v x hb
    · by_cases hf : S.most < S.used + i
      · have he : S.allocErr i = 21 := by unfold AS.allocErr; rw [if_neg hb, if_pos hf]
        rw [he]
        exact asksM_alloc_full h hX hY hr hm c hlen b i v x (by omega) (by omega) hf
      · have he : S.allocErr i = 0 := by unfold AS.allocErr; rw [if_neg hb, if_neg hf]
        rw [he, if_pos rfl]
        obtain ⟨m, rfl⟩ := Int.eq_ofNat_of_zero_le (a := i) (by omega)
        exact asksM_alloc_room h hX hY hr hm c hlen b (m := m) v x (by omega) (by omega) (by omega)
  rw [if_neg h1]
  by_cases h2 : kd = 2
  · subst h2
    rw [if_pos rfl]
    unfold AS.freeAt
    cases hl : look S.bl b with
    | none => exact asksM_free_none h hX hY hr hm c hlen i v x hwb hl
    | some cs =>
      obtain ⟨j, hj, rfl, hcs⟩ := hm.some_ h.ok hl
      exact asksM_free_some h hX hY hr hm c hlen i v x hwb hj hl hcs
  rw [if_neg h2]
  by_cases h3 : kd = 3
  · subst h3
    rw [if_pos rfl]
    refine asksM_load h hX hY hr hm c hlen b i v x (fun W X' ha hX' hY' hr' => ?_)
    unfold AS.touch
    cases hl : look S.bl b with
    | none => exact cellM_load_none ha hX' hY' hr' hm c (by omega) hwb i v x hl
    | some cs =>
      by_cases hi : 0 ≤ i ∧ i < cs.length
      · obtain ⟨k, rfl⟩ := Int.eq_ofNat_of_zero_le hi.1
        obtain ⟨j, hj, rfl, hcs⟩ := hm.some_ h.ok hl
        exact cellM_load_ok ha hX' hY' hr' hm c (by omega) hj hl hcs (by omega) hwb v x
      · exact cellM_load_arg ha hX' hY' hr' hm c (by omega) hwb i v x hl (by omega)
  rw [if_neg h3]
  by_cases h4 : kd = 4
  · subst h4
    rw [if_pos rfl]
    refine asksM_store h hX hY hr hm c hlen b i v x (fun W X' ha hX' hY' hr' => ?_)
    unfold AS.storeAt
    cases hl : look S.bl b with
    | none => exact cellM_store_none ha hX' hY' hr' hm c (by omega) hwb i v x hl
    | some cs =>
      by_cases hi : 0 ≤ i ∧ i < cs.length
      · simp only [if_pos hi]
        obtain ⟨k, rfl⟩ := Int.eq_ofNat_of_zero_le hi.1
        obtain ⟨j, hj, rfl, hcs⟩ := hm.some_ h.ok hl
        exact cellM_store_ok ha hX' hY' hr' hm c (by omega) hj hl hcs (by omega) hwb v x
      · simp only [if_neg hi]
        exact cellM_store_arg ha hX' hY' hr' hm c (by omega) hwb i v x hl (by omega)
  rw [if_neg h4]
  by_cases h5 : kd = 5
  · subst h5
    rw [if_pos rfl]
    refine asksM_swap h hX hY hr hm c hlen b i v x (fun W X' ha hX' hY' hr' => ?_)
    unfold AS.swapAt
    cases hl : look S.bl b with
    | none => exact cellM_swap_none ha hX' hY' hr' hm c (by omega) hwb i v x hl
    | some cs =>
      by_cases hi : 0 ≤ i ∧ i < cs.length
      · obtain ⟨k, rfl⟩ := Int.eq_ofNat_of_zero_le hi.1
        obtain ⟨j, hj, rfl, hcs⟩ := hm.some_ h.ok hl
        by_cases ho : cs.getD k 0 = v
        · simp only [if_pos (show 0 ≤ (k : Int) ∧ (k : Int) < (cs.length : Int) ∧ cs.getD (k : Int).toNat 0 = v from ⟨hi.1, hi.2, ho⟩)]
          exact cellM_swap_eq ha hX' hY' hr' hm c (by omega) hj hl hcs (by omega) hwb v x ho
        · simp only [if_neg (show ¬ (0 ≤ (k : Int) ∧ (k : Int) < (cs.length : Int) ∧ cs.getD (k : Int).toNat 0 = v) from fun hh => ho hh.2.2)]
          exact cellM_swap_ne ha hX' hY' hr' hm c (by omega) hj hl hcs (by omega) hwb v x ho
      · simp only [if_neg (show ¬ (0 ≤ i ∧ i < (cs.length : Int) ∧ cs.getD i.toNat 0 = v) from fun hh => hi ⟨hh.1, hh.2.1⟩)]
        exact cellM_swap_arg ha hX' hY' hr' hm c (by omega) hwb i v x hl (by omega)
  rw [if_neg h5]
  by_cases h6 : kd = 6
  · subst h6
    rw [if_pos rfl]
    refine asksM_add h hX hY hr hm c hlen b i v x (fun W X' ha hX' hY' hr' => ?_)
    unfold AS.addAt
    cases hl : look S.bl b with
    | none => exact cellM_add_none ha hX' hY' hr' hm c (by omega) hwb i v x hl
    | some cs =>
      by_cases hi : 0 ≤ i ∧ i < cs.length
      · simp only [if_pos hi]
        obtain ⟨k, rfl⟩ := Int.eq_ofNat_of_zero_le hi.1
        obtain ⟨j, hj, rfl, hcs⟩ := hm.some_ h.ok hl
        exact cellM_add_ok ha hX' hY' hr' hm c (by omega) hj hl hcs (by omega) hwb v x
      · simp only [if_neg hi]
        exact cellM_add_arg ha hX' hY' hr' hm c (by omega) hwb i v x hl (by omega)
  rw [if_neg h6]
  by_cases h7 : kd = 7
  · subst h7
    rw [if_pos rfl]
    unfold AS.touch
    cases hl : look S.bl b with
    | none => exact asksM_size_none h hX hY hr hm c hlen i v x hwb hl
    | some cs =>
      obtain ⟨j, hj, rfl, hcs⟩ := hm.some_ h.ok hl
      exact asksM_size_some h hX hY hr hm c hlen i v x hwb hj hl hcs
  rw [if_neg h7]
  exact asksM_other h hr hm c (by simpa using h1) (by simpa using h2) (by simpa using h3) (by simpa using h4) (by simpa using h5) (by simpa using h6) (by simpa using h7) b i v x

end Go.Proofs.Ytbgbknbfleiakaa
