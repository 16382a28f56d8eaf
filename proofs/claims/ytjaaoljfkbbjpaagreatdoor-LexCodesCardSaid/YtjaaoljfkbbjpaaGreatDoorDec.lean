/-
  The reference's decimal digits. No condition.
-/
import Derived.Test.YtjaaoljfkbbjpaaGreatDoorMem
import Derived.Test.YtjaaoljfkbbjpaaGreatDoorStr
import Derived.Laws.Concat
import Derived.Lib.Hide
import Derived.WalkKit
import Derived.RowKitTokens
import Derived.Deep.LoopGhost
import Derived.IntWalk
namespace Go.Proofs.YtjaaoljfkbbjpaaGreatDoor
open Go.RowKit Go.Maps
set_option linter.unusedVariables false
set_option linter.unusedSimpArgs false

def dig (n : Nat) : UInt8 := UInt8.ofNat (48 + n % 10)
def decF : Nat → Nat → List UInt8 → List UInt8
  | 0, _, acc => acc
  | f + 1, m, acc => if m = 0 then acc else decF f (m / 10) (dig m :: acc)
theorem decF_nought (f : Nat) (acc : List UInt8) : decF f 0 acc = acc := by cases f <;> rfl
theorem enc_ten : ∀ d : Fin 10, Utf8.encode (48 + (d.val : Int)) = str [UInt8.ofNat (48 + d.val)] := by
  intro d
  match d with
  | 0 => show _ = _; kernel_rfl
  | 1 => show _ = _; kernel_rfl
  | 2 => show _ = _; kernel_rfl
  | 3 => show _ = _; kernel_rfl
  | 4 => show _ = _; kernel_rfl
  | 5 => show _ = _; kernel_rfl
  | 6 => show _ = _; kernel_rfl
  | 7 => show _ = _; kernel_rfl
  | 8 => show _ = _; kernel_rfl
  | 9 => show _ = _; kernel_rfl
theorem enc_dig (m : Nat) : Utf8.encode (48 + (m : Int) % 10) = str [dig m] := enc_ten ⟨m % 10, Nat.mod_lt _ (by decide)⟩
theorem app_str (a b : List UInt8) : str a ++ str b = str (a ++ b) := by
  apply ByteArray.ext
  simp [str]
def digs (n : Nat) : List UInt8 := if n = 0 then [48] else decF 20 n []
theorem decF_length (f m : Nat) (acc : List UInt8) : (decF f m acc).length ≤ f + acc.length := by
  induction f generalizing m acc with
  | zero => simp [decF]
  | succ f ih =>
    unfold decF
    split
    · omega
    · have := ih (m / 10) (dig m :: acc); simp at this; omega
theorem digs_length (n : Nat) : (digs n).length ≤ 20 := by
  unfold digs
  split
  · simp
  · have := decF_length 20 n []; simpa using this
set_option maxRecDepth 1000000 in
set_option maxHeartbeats 8000000 in
theorem decimal_any (n : Nat) (hn : n < 9223372036854775808) (w : World) : Calls Tryz.prog 19 #[.int .i64 n] w fun e w' => e = .returned (.string (str (digs n))) ∧ Keep (fun _ => True) w w' := by
  have HK := Lib.hid (Keep.refl (fun _ => True) w)
  by_cases h0 : n = 0
  · subst h0
    have hs : str (digs 0) = ⟨#[48]⟩ := rfl
    rw [hs]
    clear hs
    go_enter Tryz.func19, Tryz.ntmps19
    go_wp2_with fail
    go_ret
    exact ⟨rfl, HK.out⟩
  · have hR : decF 20 n [] = digs n := by unfold digs; rw [if_neg h0]
    generalize digs n = R at *
    have hd0 : decide ((n : Int) < 0) = false := by simp
    have hd1 : ((n : Int) == 0) = false := by simp; omega
    have HR := Lib.hid hR
    clear hR
    go_enter Tryz.func19, Tryz.ntmps19
    go_wp2_with fail
    go_loopw [0, 3] (fun i s wr => ∃ (f m : Nat) (acc : List UInt8), i = .int .i64 m ∧ s = .string (str acc) ∧ decF f m acc = R ∧ m < 10 ^ f ∧ m < 9223372036854775808 ∧ f ≤ 20 ∧ acc.length + f = 20 ∧ Keep (fun _ => True) w wr) (fun i _ _ => (intOf i).toNat)
    case atStart => exact ⟨20, n, [], rfl, rfl, HR.out, by omega, by omega, by omega, rfl, HK.out⟩
    case round =>
      clear HR HK
      obtain ⟨f, m, acc, rfl, rfl, hdec, hm, hmx, hf4, hal, hk⟩ := hrel
      have HKW := Lib.hid hk
      clear hk
      by_cases hz : m = 0
      · subst hz
        rw [decF_nought] at hdec
        subst hdec
        go_wp2_with fail
        go_ret
        exact ⟨rfl, HKW.out⟩
      · have hz1 : ((m : Int) == 0) = false := by simp; omega
        have hz3 : ((m : Int) != 0) = true := by simp; omega
        obtain ⟨f', rfl⟩ : ∃ f', f = f' + 1 := ⟨f - 1, by rcases f with _ | f; · simp at hm; omega
                                                          · rfl⟩
        rw [decF, if_neg hz] at hdec
        have HDEC := Lib.hid hdec
        have hq : m / 10 < 10 ^ f' := by rw [Nat.pow_succ] at hm; omega
        clear hdec
        have HB : Hid (m / 10 < 10 ^ f' ∧ m / 10 < 9223372036854775808 ∧ f' ≤ 20 ∧ (dig m :: acc).length + f' = 20) := Lib.hid ⟨hq, by omega, by omega, by simp; omega⟩
        have HM : Hid (m ≠ 0) := Lib.hid hz
        have hcat : Utf8.encode (48 + (m : Int) % 10) ++ str acc = str (dig m :: acc) := by rw [enc_dig, app_str]; rfl
        have hadd : ∀ W, (Op.stringOp .add (Utf8.encode (48 + (m : Int) % 10)) (str acc)).run Tryz.prog W = .ok (.string (str (dig m :: acc))) W := fun W => by
          rw [run_string_add_sum W _ _ (by rw [enc_dig, str_size, str_size]; simp only [List.length_cons, List.length_nil]; omega), hcat]
        have hw : IntKind.i64.wrap ((m : Int) / 10) = (m : Int) / 10 := IntWalk.i64_in _ (by omega)
        obtain ⟨sb, hsb⟩ : ∃ sb, str (dig m :: acc) = sb := ⟨_, rfl⟩
        rw [hsb] at hadd
        have HSB := Lib.hid hsb
        clear hm hmx hf4 hal hz1 hd0 hd1 hcat hq hsb hz
        generalize str acc = sa at *
        go_wp2_with fail
        go_roundw
        case rel => exact ⟨f', m / 10, dig m :: acc, by simp, by rw [HSB.out], HDEC.out, HB.out.1, HB.out.2.1, HB.out.2.2.1, HB.out.2.2.2, HKW.out⟩
        case measure => have := HM.out; clear hw; simp [intOf]; omega
end Go.Proofs.YtjaaoljfkbbjpaaGreatDoor
