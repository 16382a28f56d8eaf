/-
  Package atoms: in which list a name stands. Condition: 1 to 64 lists.
-/
import Derived.Test.YtebdlggmpojgdaaAtoms5
import Derived.WalkKit
import Derived.Lib.Hide
namespace Go.Proofs.Ytebdlggmpojgdaa
open Go.RowKit Go.Maps
set_option linter.unusedVariables false

theorem hashN_succ (s : ByteArray) (k : Nat) (hk : k < s.size) : hashN (s.data.toList.take (k + 1)) 0 = (hashN (s.data.toList.take k) 0 * 31 + s[k].toNat) % 4294967296 := by
  have hk' : k < s.data.toList.length := by simpa using hk
  unfold hashN
  rw [List.take_succ_eq_append_getElem hk', List.foldl_append]
  rfl
theorem hashN_lt (l : List UInt8) : hashN l 0 < 4294967296 := by
  unfold hashN
  have : ∀ (l : List UInt8) (s : Nat), s < 4294967296 → l.foldl (fun s b => (s * 31 + b.toNat) % 4294967296) s < 4294967296 := by
    intro l
    induction l with
    | nil => intro s h; exact h
    | cons a l ih => intro s h; exact ih _ (Nat.mod_lt _ (by omega))
  exact this l 0 (by omega)
theorem list_any {w : World} {pt : Nat} (T : TS) (s : ByteArray) (hl : 1 ≤ T.lists ∧ T.lists ≤ 64) (hc : w.cell? ⟨pt, 2, none⟩ = some (.int .i64 T.lists)) (hs : s.size ≤ 1000000) :
    Calls Try.prog 36 #[.pointer (some ⟨pt, 0, none⟩), .string s] w fun e w' => e = .returned (.int .i64 (T.list s.data.toList)) ∧ w = w' := by
  go_enter Try.func36, Try.ntmps36
  go_wp2_with fail
  go_loopw [5, 6, 9] (fun v _ i wr => ∃ k : Nat, k ≤ s.size ∧ i = .int .i64 k ∧ v = .int .u32 (hashN (s.data.toList.take k) 0) ∧ wr = w) (fun _ _ i _ => s.size - (intOf i).toNat)
  case atStart => exact ⟨0, by omega, rfl, by simp [hashN], rfl⟩
  case round =>
    obtain ⟨k, hk, rfl, rfl, rfl⟩ := hrel
    by_cases hlt : k < s.size
    · have hsu := hashN_succ s k hlt
      have hlt4 := hashN_lt (s.data.toList.take k)
      have hu8 : s[k].toNat < 256 := s[k].toNat_lt
      have HSU := Lib.hid hsu; clear hsu
      go_wp2_with fail
      go_roundw
      case rel => exact ⟨k + 1, by omega, by go_num, by rw [HSU.out]; congr 1; omega, trivial⟩
      case measure => simp [intOf]; omega
    · obtain rfl : k = s.size := by omega
      have hlt4 := hashN_lt (s.data.toList.take s.size)
      have e1 : s.data.toList.take s.size = s.data.toList := List.take_of_length_le (by rw [Array.length_toList]; exact Nat.le_refl _)
      rw [e1] at hlt4 ⊢
      obtain ⟨n, hn⟩ : ∃ n : Nat, T.lists = n := ⟨T.lists.toNat, by omega⟩
      have ht : T.list s.data.toList = (hashN s.data.toList 0 : Int) % T.lists := by
        unfold TS.list; rw [hn]; simp
      have hw : 0 ≤ (hashN s.data.toList 0 : Int) % T.lists ∧ (hashN s.data.toList 0 : Int) % T.lists < 64 := by
        have h1 := Int.emod_nonneg (hashN s.data.toList 0 : Int) (show T.lists ≠ 0 by omega)
        have h2 := Int.emod_lt_of_pos (hashN s.data.toList 0 : Int) (show 0 < T.lists by omega)
        omega
      have hwr : wrap64 ((hashN s.data.toList 0 : Int) % T.lists) = (hashN s.data.toList 0 : Int) % T.lists := by
        unfold wrap64; omega
      rw [hn] at ht hw hwr
      go_wp2_with fail
      go_ret
      exact ⟨by rw [ht]; rfl, rfl⟩
end Go.Proofs.Ytebdlggmpojgdaa
