/-
  Package atoms in memory: the contracts of what only reads: a mark's parts, mark, head, behind, Len; a mark with one name more. Conditions: the table's block is live.
-/
import Derived.Test.YtebdlggmpojgdaaAtoms6
import Derived.Test.YtebdlggmpojgdaaOps3
import Derived.Deep.RegionWith
import Derived.Laws.Bits64b
import Derived.Laws.BitsLemmas
namespace Go.Proofs.Ytebdlggmpojgdaa
open Go.RowKit Go.Maps
set_option linter.unusedVariables false

theorem i64_and_nat (a b : Nat) (ha : a < 9223372036854775808) (hb : b < 9223372036854775808) : bits .and .i64 (a : Int) (b : Int) = ((a &&& b : Nat) : Int) := by
  have hx : a &&& b < 2 ^ 63 := Nat.and_lt_two_pow _ (by omega)
  have h1 : (BitVec.ofInt 64 (a : Int)).toNat = a := by
    rw [BitVec.ofInt_natCast, BitVec.toNat_ofNat]; exact Nat.mod_eq_of_lt (by omega)
  have h2 : (BitVec.ofInt 64 (b : Int)).toNat = b := by
    rw [BitVec.ofInt_natCast, BitVec.toNat_ofNat]; exact Nat.mod_eq_of_lt (by omega)
  show IntKind.i64.wrap ((BitVec.ofInt 64 (a : Int) &&& BitVec.ofInt 64 (b : Int)).toNat : Int) = _
  rw [BitVec.toNat_and, h1, h2]
  rw [IntKind.wrap_i64]
  omega
theorem i64_or_nat (a b : Nat) (ha : a < 9223372036854775808) (hb : b < 9223372036854775808) : bits .or .i64 (a : Int) (b : Int) = ((a ||| b : Nat) : Int) := by
  have hx : a ||| b < 2 ^ 63 := Nat.or_lt_two_pow (by omega) (by omega)
  have h1 : (BitVec.ofInt 64 (a : Int)).toNat = a := by
    rw [BitVec.ofInt_natCast, BitVec.toNat_ofNat]; exact Nat.mod_eq_of_lt (by omega)
  have h2 : (BitVec.ofInt 64 (b : Int)).toNat = b := by
    rw [BitVec.ofInt_natCast, BitVec.toNat_ofNat]; exact Nat.mod_eq_of_lt (by omega)
  show IntKind.i64.wrap ((BitVec.ofInt 64 (a : Int) ||| BitVec.ofInt 64 (b : Int)).toNat : Int) = _
  rw [BitVec.toNat_or, h1, h2]
  rw [IntKind.wrap_i64]
  omega
theorem newest_bits (m : Int) (h0 : 0 ≤ m) (h1 : m < 9223372036854775808) : bits .and .i64 m 281474976710655 = mNew m := by
  obtain ⟨n, rfl⟩ := Int.eq_ofNat_of_zero_le h0
  have h := i64_and_nat n 281474976710655 (by omega) (by omega)
  have e : n &&& 281474976710655 = n % 281474976710656 := Nat.and_two_pow_sub_one_eq_mod n 48
  rw [e] at h
  rw [show (281474976710655 : Int) = ((281474976710655 : Nat) : Int) from rfl, h]
  unfold mNew
  omega
theorem with_bits (c b : Int) (c0 : 0 ≤ c) (c1 : c < 32767) (b0 : 0 ≤ b) (b1 : b < 281474976710656) : bits .or .i64 ((c + 1) * 281474976710656) b = (c + 1) * 281474976710656 + b := by
  obtain ⟨c, rfl⟩ := Int.eq_ofNat_of_zero_le c0
  obtain ⟨b, rfl⟩ := Int.eq_ofNat_of_zero_le b0
  have h := i64_or_nat ((c + 1) * 281474976710656) b (by omega) (by omega)
  have e : (c + 1) * 281474976710656 ||| b = (c + 1) * 281474976710656 + b := by
    have := Nat.two_pow_add_eq_or_of_lt (i := 48) (b := b) (by omega) (c + 1)
    rw [Nat.mul_comm]
    exact this.symm
  rw [e] at h
  rw [show ((c : Int) + 1) * 281474976710656 = (((c + 1) * 281474976710656 : Nat) : Int) by omega, h]
  omega

theorem newest_any (m : Int) (h0 : 0 ≤ m) (h1 : m < 9223372036854775808) (w : World) : Calls Try.prog 40 #[.int .i64 m] w fun e w' => e = .returned (.int .i64 (mNew m)) ∧ w = w' := by
  have hb := newest_bits m h0 h1
  go_enter Try.func40, Try.ntmps40
  go_wp2
  go_ret
  exact ⟨rfl, rfl⟩
theorem count_any (m : Int) (w : World) : Calls Try.prog 49 #[.int .i64 m] w fun e w' => e = .returned (.int .i64 (mCnt m)) ∧ w = w' := by
  go_enter Try.func49, Try.ntmps49
  go_wp2
  go_ret
  exact ⟨rfl, rfl⟩

/-- A table's head in memory. -/
def THead (w : World) (pt pa bm : Nat) (T : TS) : Prop :=
  Blk w pt 84 #[.pointer (some ⟨pa, 0, none⟩), .int .i64 T.first, .int .i64 T.lists, .int .i64 T.most, .map (some bm)]

theorem mark_any {w : World} {X : Nat → Prop} {pa pt bm : Nat} {S : AS} {T : TS} (h : Arena w X pa S) (ht : THead w pt pa bm T) (hwb : (ik T.first).wf = true) {cs : List Int} (hl : look S.bl T.first = some cs) (hi : 0 < cs.length) :
    Calls Try.prog 48 #[.pointer (some ⟨pt, 0, none⟩)] w fun e w' => e = .returned (.int .i64 (cs.getD 0 0)) ∧ w' = w.drew := by
  have hc := load_hit (w := w.drew) (X := X) (pa := pa) (S := S) (by obtain ⟨bm', D, row, a⟩ := h; exact ⟨bm', D, row, a.keep ((Keep.refl (fun _ => True) w).drew) (fun _ _ => trivial)⟩) hwb hl hi
  have f0 := ht.drew.cell 0
  have f1 := ht.drew.cell 1
  simp only [List.getElem?_toArray, List.getElem?_cons_zero, List.getElem?_cons_succ] at f0 f1
  have HC := Lib.hid hc; clear hc
  clear h hl hwb hi ht
  generalize cs.getD 0 0 = x at HC ⊢
  go_enter Try.func48, Try.ntmps48
  go_wp2_with fail
  go_region_with (go_at_call 76; refine HC.out.mono ?_; rintro e w' ⟨rfl, rfl⟩)
  all_goals
    go_wp2
    go_ret
    exact ⟨rfl, rfl⟩
theorem head_any {w : World} {X : Nat → Prop} {pa pt bm : Nat} {S : AS} {T : TS} (h : Arena w X pa S) (ht : THead w pt pa bm T) (hwb : (ik T.first).wf = true) {cs : List Int} (hl : look S.bl T.first = some cs) {l : Int} (l0 : 0 ≤ l) (l1 : l < 1000) (hi : 1 + l < (cs.length : Int)) :
    Calls Try.prog 42 #[.pointer (some ⟨pt, 0, none⟩), .int .i64 l] w fun e w' => e = .returned (.int .i64 (cs.getD (1 + l).toNat 0)) ∧ w' = w.drew := by
  obtain ⟨n, rfl⟩ := Int.eq_ofNat_of_zero_le l0
  have hc := load_hit (w := w.drew) (X := X) (pa := pa) (S := S) (by obtain ⟨bm', D, row, a⟩ := h; exact ⟨bm', D, row, a.keep ((Keep.refl (fun _ => True) w).drew) (fun _ _ => trivial)⟩) hwb hl (i := 1 + n) (by omega)
  have f0 := ht.drew.cell 0
  have f1 := ht.drew.cell 1
  simp only [List.getElem?_toArray, List.getElem?_cons_zero, List.getElem?_cons_succ] at f0 f1
  rw [show ((1 + n : Nat) : Int) = 1 + (n : Int) by omega] at hc
  rw [show (1 + (n : Int)).toNat = 1 + n by omega]
  have hw : IntKind.i64.wrap (1 + (n : Int)) = 1 + n := by rw [IntKind.wrap_i64]; omega
  have HC := Lib.hid hc; clear hc
  clear h hl hwb hi ht
  generalize cs.getD (1 + n) 0 = x at HC ⊢
  go_enter Try.func42, Try.ntmps42
  go_wp2_with fail
  go_region_with (go_at_call 76; (try rw [hw]); refine HC.out.mono ?_; rintro e w' ⟨rfl, rfl⟩)
  all_goals
    go_wp2
    go_ret
    exact ⟨rfl, rfl⟩
theorem behind_any {w : World} {X : Nat → Prop} {pa pt bm : Nat} {S : AS} {T : TS} (h : Arena w X pa S) (ht : THead w pt pa bm T) {b : Int} (hwb : (ik b).wf = true) {cs : List Int} (hl : look S.bl b = some cs) (hi : 0 < cs.length) :
    Calls Try.prog 39 #[.pointer (some ⟨pt, 0, none⟩), .int .i64 b] w fun e w' => e = .returned (.int .i64 (cs.getD 0 0)) ∧ w = w' := by
  have hc := load_hit h hwb hl hi
  have f0 := ht.cell 0
  simp only [List.getElem?_toArray, List.getElem?_cons_zero] at f0
  have HC := Lib.hid hc; clear hc
  clear h hl hwb hi ht
  generalize cs.getD 0 0 = x at HC ⊢
  go_enter Try.func39, Try.ntmps39
  go_wp2_with (go_at_call 76; refine HC.out.mono ?_; rintro e w' ⟨rfl, rfl⟩)
  go_ret
  exact ⟨rfl, rfl⟩
end Go.Proofs.Ytebdlggmpojgdaa
