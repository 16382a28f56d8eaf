/-
  The document's own arena (a list of all blocks) in memory: what it means that a value stands for such a list, and the contracts of its smaller functions. Conditions: lengths below 2^42, as the reach has it.
-/
import Derived.Test.YtbgbknbfleiakaaAsk0
namespace Go.Proofs.Ytbgbknbfleiakaa
open Go.RowKit Go.Maps

/-- v is a slice that reads as the numbers xs, its row among the blocks of Y. -/
def Ints (w : World) (Y : Nat → Prop) (v : Value) (xs : List Int) : Prop :=
  ∃ A c, v = .slice A xs.length c ∧ (0 < xs.length → ∃ g, A = some ⟨g, 0, none⟩ ∧ Y g ∧ g < w.heap.size ∧ ∀ j, j < xs.length → w.cell? ⟨g, j, none⟩ = some (.int .i64 (xs.getD j 0)))
/-- The row at A holds the slices vals, which read as the lists bl. -/
structure RowsAt (w : World) (Y : Nat → Prop) (A : Option Addr) (vals : List Value) (bl : List (List Int)) : Prop where
  len : vals.length = bl.length
  row : 0 < bl.length → ∃ g, A = some ⟨g, 0, none⟩ ∧ Y g ∧ g < w.heap.size ∧ ∀ i, i < bl.length → w.cell? ⟨g, i, none⟩ = some (vals.getD i undef)
  ints : ∀ i, i < bl.length → Ints w Y (vals.getD i undef) (bl.getD i [])

/-- The blocks of Y, and those that came since. -/
def plus (Y : Nat → Prop) (w w' : World) : Nat → Prop := fun k => Y k ∨ (w.heap.size ≤ k ∧ k < w'.heap.size)

section
variable {w w' : World} {Y Z : Nat → Prop} {v : Value} {xs : List Int} {A : Option Addr} {vals : List Value} {bl : List (List Int)}
theorem Ints.keep (h : Ints w Y v xs) (hk : Keep Z w w') (hZ : ∀ k, Y k → Z k) : Ints w' Z v xs := by
  obtain ⟨A, c, hv, h⟩ := h
  refine ⟨A, c, hv, fun hp => ?_⟩
  obtain ⟨g, hA, hY, hlt, hc⟩ := h hp
  exact ⟨g, hA, hZ g hY, Nat.lt_of_lt_of_le hlt hk.size, fun j hj => (World.cell?_of_block (a := ⟨g, j, none⟩) (hk.block g hlt (hZ g hY))).trans (hc j hj)⟩
theorem RowsAt.keep (h : RowsAt w Y A vals bl) (hk : Keep Z w w') (hZ : ∀ k, Y k → Z k) : RowsAt w' Z A vals bl := by
  refine ⟨h.len, fun hp => ?_, fun i hi => (h.ints i hi).keep hk hZ⟩
  obtain ⟨g, hA, hY, hlt, hc⟩ := h.row hp
  exact ⟨g, hA, hZ g hY, Nat.lt_of_lt_of_le hlt hk.size, fun j hj => (World.cell?_of_block (a := ⟨g, j, none⟩) (hk.block g hlt (hZ g hY))).trans (hc j hj)⟩
theorem keepOf (hb : Below w.heap.size w w') (Z : Nat → Prop) : Keep Z w w' := ⟨hb.os, hb.tape, hb.output, hb.size, fun k hk _ => hb.block k hk⟩
theorem Ints.below (h : Ints w Y v xs) (hb : Below w.heap.size w w') : Ints w' Y v xs := h.keep (keepOf hb Y) (fun _ h => h)
theorem RowsAt.below (h : RowsAt w Y A vals bl) (hb : Below w.heap.size w w') : RowsAt w' Y A vals bl := h.keep (keepOf hb Y) (fun _ h => h)
theorem Ints.wide (h : Ints w Y v xs) (hZ : ∀ k, Y k → Z k) : Ints w Z v xs := h.keep (Keep.refl Z w) hZ
theorem RowsAt.wide (h : RowsAt w Y A vals bl) (hZ : ∀ k, Y k → Z k) : RowsAt w Z A vals bl := h.keep (Keep.refl Z w) hZ
theorem RowsAt.none_ : RowsAt w Y none [] [] := ⟨rfl, fun h => absurd h (by simp), fun i h => absurd h (by simp)⟩
theorem Ints.nil_ : Ints w Y (.slice none 0 0) [] := ⟨none, 0, rfl, fun h => absurd h (by simp)⟩

/-- What a call's own row is, as a reader sees it. -/
theorem own_row {base n : Nat} {e : TypeId} {us : List Value} (h : w.ownsRow base e 1 v n us) :
    ∃ A c, v = .slice A n c ∧ us.length = n ∧ (0 < n → ∃ g, A = some ⟨g, 0, none⟩ ∧ base ≤ g ∧ g < w.heap.size ∧ ∀ i, i < n → w.cell? ⟨g, i, none⟩ = us[i]?) := by
  have hl : us.length = n := by have := h.1; omega
  rcases h.2 with ⟨rfl, rfl⟩ | ⟨g, cap, cur, rfl, hb, hh, _⟩
  · exact ⟨none, 0, rfl, hl, fun h => absurd h (by omega)⟩
  · exact ⟨_, cap, rfl, hl, fun _ => ⟨g, rfl, hb, (h.lt g rfl).2, fun i hi => h.cellAt i (by omega)⟩⟩
theorem own_ints {base : Nat} (h : w.ownsRow base 2 1 v xs.length (xs.map (Value.int .i64))) (hY : ∀ g, base ≤ g → g < w.heap.size → Y g) : Ints w Y v xs := by
  obtain ⟨A, c, hv, _, hr⟩ := own_row h
  refine ⟨A, c, hv, fun hp => ?_⟩
  obtain ⟨g, hA, hb, hlt, hc⟩ := hr hp
  exact ⟨g, hA, hY g hb hlt, hlt, fun j hj => by rw [hc j hj]; simp [List.getD, hj]⟩
theorem own_vals {base : Nat} (h : w.ownsRow base 42 1 v bl.length vals) (hY : ∀ g, base ≤ g → g < w.heap.size → Y g) (hi : ∀ i, i < bl.length → Ints w Y (vals.getD i undef) (bl.getD i [])) :
    ∃ A c, v = .slice A bl.length c ∧ RowsAt w Y A vals bl := by
  obtain ⟨A, c, hv, hl, hr⟩ := own_row h
  refine ⟨A, c, hv, hl, fun hp => ?_, hi⟩
  obtain ⟨g, hA, hb, hlt, hc⟩ := hr hp
  exact ⟨g, hA, hY g hb hlt, hlt, fun j hj => by rw [hc j hj]; simp [List.getD, hl, hj]⟩
end
theorem info42 : (Try.prog.info? 42).map (fun i => (i.zero, i.size, i.bytes)) = some (some (.slice none 0 0), 1, 24) := by kernel_rfl

/-! ### CopyLongs -/
set_option maxHeartbeats 1000000 in
theorem copy_any {w : World} {Y : Nat → Prop} {A : Option Addr} {c : Nat} {xs : List Int} (h : Ints w Y (.slice A xs.length c) xs) (hlen : xs.length ≤ 65536) :
    Calls Try.prog 32 #[.slice A xs.length c] w fun e w' => ∃ A' c', e = .returned (.slice A' xs.length c') ∧ w'.ownsRow w.heap.size 2 1 (.slice A' xs.length c') xs.length (xs.map (Value.int .i64)) ∧ Below w.heap.size w w' := by
  obtain ⟨i0, hi0, hz0, hz1, hz2⟩ := info_parts info2
  have hown0 : (w.alloc (Obj.cells #[] 2)).ownsRow w.heap.size 2 1 (.slice (some ⟨w.heap.size, 0, none⟩) 0 0) 0 [] := World.ownsRow_made w #[] 0 (Nat.le_refl _) (by unfold maxLen; omega) rfl
  have hb0 : Below w.heap.size w (w.alloc (Obj.cells #[] 2)) := (Below.refl _ _).alloc (Nat.le_refl _) _
  have HO := Lib.hid hown0; clear hown0
  have HB := Lib.hid hb0; clear hb0
  have H := Lib.hid h; clear h
  go_enter Try.func32, Try.ntmps32
  go_wp2_with fail
  go_loopw [3, 4] (fun v i wr => ∃ j : Nat, j ≤ xs.length ∧ i = .int .i64 j ∧ wr.ownsRow w.heap.size 2 1 v j ((xs.map (Value.int .i64)).take j) ∧ Below w.heap.size w wr) (fun _ i _ => xs.length - (intOf i).toNat)
  case atStart => exact ⟨0, by omega, rfl, HO.out, HB.out⟩
  case round =>
    clear HO HB
    obtain ⟨j, hj, rfl, hown, hb⟩ := hrel
    by_cases hjl : j < xs.length
    · obtain ⟨A', c', he, hr⟩ := H.out
      obtain ⟨rfl, _, rfl⟩ : A = A' ∧ True ∧ c = c' := by injection he with h1 h2 h3; exact ⟨h1, trivial, h3⟩
      clear he
      obtain ⟨g, rfl, _, hlt, hc⟩ := hr (by omega)
      have hcell := hc j hjl
      rw [← hb.cell (p := ⟨g, j, none⟩) hlt] at hcell
      have htk : (xs.map (Value.int .i64)).take (j + 1) = (xs.map (Value.int .i64)).take j ++ [.int .i64 (xs.getD j 0)] := by
        rw [List.take_succ_eq_append_getElem (by simpa using hjl)]; simp [List.getD, hjl]
      generalize xs.getD j 0 = xj at hcell htk
      have HTK := Lib.hid htk; clear htk
      have HBQ := Lib.hid hb
      have hbs := hb.size
      clear hb hr hc
      go_wp2_with (at_builtin; refine wpList_append_own _ rfl _ _ 42 rfl w.heap.size 2 i0 (.int .i64 0) 1 8 Try.underlying42 hi0 hz0 hz1 hz2 rfl (by decide) _ _ _ rfl (hown.alloc _) ⟨wr.heap.size, 0, none⟩ 1 1 [.int .i64 xj] rfl rfl ?c1 ?c2 ?c3 ?c4 ?c5 ?_)
      case c1 => exact cell_one_new _ _ _
      case c2 => exact ints_oneCell .i64 [xj]
      case c3 => unfold maxLen; omega
      case c4 => omega
      case c5 => simp; omega
      intro v' w' hown' hgrow _
      have HOWN : Hid (w'.ownsRow w.heap.size 2 1 v' (j + 1) ((xs.map (Value.int .i64)).take (j + 1))) := by rw [HTK.out]; exact hown'
      have HBN := Lib.hid ((HBQ.out.alloc hbs _).grown hgrow (by simp; omega) (fun g hg => (hown.lt g hg).1))
      clear hown hown' hgrow
      go_wp2_with fail
      go_roundw
      case rel => exact ⟨j + 1, by omega, by go_num, HOWN.out, HBN.out⟩
      case measure => simp [intOf]; omega
    · obtain rfl : j = xs.length := by omega
      have hown' : wr.ownsRow w.heap.size 2 1 u3 xs.length (xs.map (Value.int .i64)) := by rw [List.take_of_length_le (by simp)] at hown; exact hown
      obtain ⟨A', c', rfl, _, _⟩ := own_row hown'
      have HOWN := Lib.hid hown'; clear hown' hown
      have HB := Lib.hid hb; clear hb
      go_wp2_with fail
      go_ret
      exact ⟨A', c', rfl, HOWN.out, HB.out⟩

/-! ### New -/
theorem refNew_any (m : Int) (w : World) : Calls Try.prog 10 #[.int .i64 m] w fun e w' => e = .returned (.agg #[.slice none 0 0, .int .i64 (min (max m 0) 65536), .int .i64 0]) ∧ Below w.heap.size w w' := by
  have hcase : (m < 0 ∧ min (max m 0) 65536 = 0) ∨ (0 ≤ m ∧ 65536 < m ∧ min (max m 0) 65536 = 65536) ∨ (0 ≤ m ∧ m ≤ 65536 ∧ min (max m 0) 65536 = m) := by omega
  rcases hcase with ⟨h1, h2⟩ | ⟨h1, h3, h2⟩ | ⟨h1, h3, h2⟩
  all_goals
    rw [h2]
    clear h2
    go_enter Try.func10, Try.ntmps10
    go_wp2_with fail
    refine bodyPost_ret (by simp [results, Try.results10, go_sem]; rfl) rfl ?_
    exact ⟨rfl, (Below.refl _ _).alloc (Nat.le_refl _) _⟩

end Go.Proofs.Ytbgbknbfleiakaa
