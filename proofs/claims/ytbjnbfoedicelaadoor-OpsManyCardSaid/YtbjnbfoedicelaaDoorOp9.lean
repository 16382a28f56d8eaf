/-
  Package ops: how operators stand in order. No condition.
-/
import Derived.Test.YtbjnbfoedicelaaDoorOp3
import Derived.Shelf.SlSortCmp.WholeK
import Derived.Laws.Cover1
namespace Go.Proofs.YtbjnbfoedicelaaDoor
open Go.RowKit Go.Maps
set_option linter.unusedVariables false
set_option linter.unusedSimpArgs false

section
variable {w : World}
theorem isNaNs_any (s : ByteArray) (w : World) : Calls Tryd.prog 49 #[.string s] w fun e w' => e = .returned (.bool false) ∧ w = w' := by
  go_enter Tryd.func49, Tryd.ntmps49
  go_wp2
  go_ret
  exact ⟨by simp, rfl⟩
theorem isNaNi_any (s : Int) (w : World) : Calls Tryd.prog 50 #[.int .i64 s] w fun e w' => e = .returned (.bool false) ∧ w = w' := by
  go_enter Tryd.func50, Tryd.ntmps50
  go_wp2
  go_ret
  exact ⟨by simp, rfl⟩
def cmpI (x y : Int) : Int := if x < y then -1 else if y < x then 1 else 0
def cmpS (x y : List UInt8) : Int := if x < y then -1 else if x = y then 0 else 1
theorem cmpI_any (x y : Int) (w : World) : Calls Tryd.prog 36 #[.int .i64 x, .int .i64 y] w fun e w' => e = .returned (.int .i64 (cmpI x y)) ∧ w = w' := by
  unfold cmpI
  by_cases h : x < y
  · rw [if_pos h]
    go_enter Tryd.func36, Tryd.ntmps36
    go_wp2_with (go_at_call 50; refine (isNaNi_any _ _).mono ?_; rintro e w1 ⟨rfl, rfl⟩)
    go_ret
    exact ⟨rfl, rfl⟩
  · rw [if_neg h]
    have d1 : decide (x < y) = false := by simpa using h
    by_cases h2 : y < x
    · rw [if_pos h2]
      go_enter Tryd.func36, Tryd.ntmps36
      go_wp2_with (go_at_call 50; refine (isNaNi_any _ _).mono ?_; rintro e w1 ⟨rfl, rfl⟩)
      go_ret
      exact ⟨rfl, rfl⟩
    · rw [if_neg h2]
      have d2 : decide (y < x) = false := by simpa using h2
      go_enter Tryd.func36, Tryd.ntmps36
      go_wp2_with (go_at_call 50; refine (isNaNi_any _ _).mono ?_; rintro e w1 ⟨rfl, rfl⟩)
      go_ret
      exact ⟨rfl, rfl⟩
theorem cmpS_any (x y : List UInt8) (w : World) : Calls Tryd.prog 35 #[.string (str x), .string (str y)] w fun e w' => e = .returned (.int .i64 (cmpS x y)) ∧ w = w' := by
  have e1 : Op.bytesLess (str x).toList (str y).toList = decide (x < y) := by rw [Go.Proofs.bytesLess_eq, ByteArray.toList_eq, ByteArray.toList_eq, str_data, str_data]
  have e2 : ((str x).toList == (str y).toList) = decide (x = y) := by rw [ByteArray.toList_eq, ByteArray.toList_eq, str_data, str_data]; by_cases h : x = y <;> simp [h]
  unfold cmpS
  generalize str x = sx at *
  generalize str y = sy at *
  by_cases h : x < y
  · rw [if_pos h]
    rw [decide_eq_true h] at e1
    go_enter Tryd.func35, Tryd.ntmps35
    go_wp2_with (go_at_call 49; refine (isNaNs_any _ _).mono ?_; rintro e w1 ⟨rfl, rfl⟩)
    go_ret
    exact ⟨rfl, rfl⟩
  · rw [if_neg h]
    rw [decide_eq_false h] at e1
    by_cases h2 : x = y
    · rw [if_pos h2]
      rw [decide_eq_true h2] at e2
      clear h h2
      go_enter Tryd.func35, Tryd.ntmps35
      go_wp2_with (go_at_call 49; refine (isNaNs_any _ _).mono ?_; rintro e w1 ⟨rfl, rfl⟩)
      go_ret
      exact ⟨rfl, rfl⟩
    · rw [if_neg h2]
      rw [decide_eq_false h2] at e2
      clear h h2
      go_enter Tryd.func35, Tryd.ntmps35
      go_wp2_with (go_at_call 49; refine (isNaNs_any _ _).mono ?_; rintro e w1 ⟨rfl, rfl⟩)
      go_ret
      exact ⟨rfl, rfl⟩
def orV (a b : Int) : Int := if a = 0 then b else a
theorem orV_ne {a b : Int} (h : ¬ a = 0) : orV a b = a := if_neg h
theorem orV_z (b : Int) : orV 0 b = b := rfl
set_option maxHeartbeats 2000000 in
theorem or_any (a b : Int) (g c : Nat) (w : World) (h0 : w.cell? ⟨g, 0, none⟩ = some (.int .i64 a)) (h1 : w.cell? ⟨g, 1, none⟩ = some (.int .i64 b)) :
    Calls Tryd.prog 34 #[.slice (some ⟨g, 0, none⟩) 2 c] w fun e w' => e = .returned (.int .i64 (orV a b)) ∧ w' = w := by
  go_enter Tryd.func34, Tryd.ntmps34
  go_wp2
  go_loop [8] (fun i => ∃ k : Nat, k ≤ 2 ∧ i = .int .i64 k ∧ (0 < k → a = 0) ∧ (1 < k → b = 0)) (fun i => 2 - (intOf i).toNat)
  case atStart => exact ⟨0, by omega, rfl, fun h => by omega, fun h => by omega⟩
  case round =>
    obtain ⟨k, hk, rfl, ha, hb⟩ := hrel
    have hk3 : k = 0 ∨ k = 1 ∨ k = 2 := by omega
    rcases hk3 with rfl | rfl | rfl
    · by_cases hz : a = 0
      · subst hz
        go_wp2
        go_round
        case rel => exact ⟨1, by omega, rfl, by simp, by simp⟩
        case measure => simp [intOf]
      · have hz' : ((a : Int) == 0) = false := by simpa using hz
        go_wp2
        go_ret
        exact ⟨by rw [orV_ne hz]; rfl, rfl⟩
    · have ha0 := ha (by omega)
      subst ha0
      by_cases hz : b = 0
      · subst hz
        go_wp2
        go_round
        case rel => exact ⟨2, by omega, rfl, by simp, by simp⟩
        case measure => simp [intOf]
      · have hz' : ((b : Int) == 0) = false := by simpa using hz
        go_wp2
        go_ret
        exact ⟨by rw [orV_z]; rfl, rfl⟩
    · have ha0 := ha (by omega)
      have hb0 := hb (by omega)
      subst ha0; subst hb0
      go_wp2
      go_ret
      exact ⟨by rw [orV_z]; rfl, rfl⟩
end
end Go.Proofs.YtbjnbfoedicelaaDoor
