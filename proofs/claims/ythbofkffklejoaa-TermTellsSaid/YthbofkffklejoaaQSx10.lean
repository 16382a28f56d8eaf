/-
  The law's own tame; the document's Size up to a greater bound. No condition but where the terms lie.
-/
import Derived.Test.YthbofkffklejoaaQSx7
import Derived.Test.YthbofkffklejoaaQSx2
namespace Go.Proofs.Ythbofkffklejoaa
open Go.RowKit Go.Maps
set_option linter.unusedVariables false
set_option linter.unusedSimpArgs false
set_option maxRecDepth 100000 in
set_option maxHeartbeats 4000000 in
theorem refSize3_any : ∀ (t : Tm) (m : Nat), m ≤ 100000 → ∀ (w : World) (a : Option Addr) (c : Nat), TmAt w.heap.size w t a c →
    Calls Try.prog 22 #[tv t a c, .int .i64 m] w fun e w' => e = .returned (.int .i64 ((min t.ns (m + 1) : Nat) : Int)) ∧ Keep (fun g => g < w.heap.size) w w' := by
  intro t
  induction t using Tm.ind with
  | h kd nm i args ih =>
    intro m hm w a c hT
    have hargs : args.length ≤ maxLen := by cases hT; assumption
    unfold maxLen at hargs
    have k0 : Keep (fun g => g < w.heap.size) w (w.alloc (tb (.node kd nm i args) a c)) := (Keep.refl _ w).alloc _
    have hb := Blk.new w 24 #[.int .i64 (Tm.node kd nm i args).k, .string (str (Tm.node kd nm i args).nm), .int .i64 (Tm.node kd nm i args).i, .slice a (Tm.node kd nm i args).args.length c]
    have HT := Lib.hid hT; clear hT
    unfold tb at k0
    have HK := Lib.hid (And.intro k0 hb); clear k0 hb
    have HIH := Lib.hid ih; clear ih
    obtain ⟨dv, hdv⟩ : ∃ dv, dv = min (Tm.node kd nm i args).ns (m + 1) := ⟨_, rfl⟩
    rw [← hdv]
    have HD := Lib.hid hdv; clear hdv
    unfold tv
    simp only [Tm.k, Tm.nm, Tm.i, Tm.args] at HK ⊢
    by_cases h4 : kd = 4
    · subst h4
      have hd : dv = min (1 + nsL args) (m + 1) := by rw [HD.out, Tm.ns_eq, if_pos (show (Tm.node 4 nm i args).k = 4 from rfl)]; rfl
      have HD2 := Lib.hid hd; clear hd
      obtain ⟨len, hln⟩ : ∃ len, len = args.length := ⟨_, rfl⟩
      rw [← hln] at HK hargs ⊢
      have HLN := Lib.hid hln; clear hln
      go_enter Try.func22, Try.ntmps22
      go_wp2_with fail
      go_loopw [5, 6] (fun n i' wr => ∃ j : Nat, j ≤ len ∧ i' = .int .i64 j ∧ n = .int .i64 ((min (1 + nsL (args.take j)) (m + 1) : Nat) : Int) ∧ Keep (fun g => g < w.heap.size + 1) (w.alloc (.cells #[.int .i64 4, .string (str nm), .int .i64 i, .slice a len c] 24)) wr) (fun _ i' _ => len - (intOf i').toNat)
      case atStart => exact ⟨0, Nat.zero_le _, rfl, by rw [List.take_zero, nsL_nil, Nat.min_eq_left (by omega)]; rfl, Keep.refl _ _⟩
      case round =>
        obtain ⟨j, hj, rfl, rfl, hkr⟩ := hrel
        obtain ⟨k0, hb⟩ := HK.out
        have hbr := hb.keep hkr (by omega)
        have c3 := hbr.cell 3
        simp at c3
        have lb := hbr.lt
        obtain ⟨n, hn⟩ : ∃ n, n = min (1 + nsL (args.take j)) (m + 1) := ⟨_, rfl⟩
        rw [← hn]
        have hnm : n ≤ m + 1 := by omega
        have HN := Lib.hid hn; clear hn
        have kw : Keep (fun g => g < w.heap.size) w wr := k0.trans (hkr.less (fun g hg => by omega))
        by_cases hlj : j < len
        · by_cases hnn : n ≤ m
          · have hjl : j < args.length := by rw [← HLN.out]; exact hlj
            obtain ⟨x, hx⟩ : ∃ x, args[j]? = some x := ⟨_, List.getElem?_eq_getElem hjl⟩
            have hTr : TmAt w.heap.size wr (.node 4 nm i args) a c := HT.out.keepX kw (fun _ h => h)
            obtain ⟨b, off, ax, cx, rfl, hbB, hTx, u0, u1, u2, u3⟩ := hTr.arg hx
            simp only [← Nat.add_assoc] at u0 u1 u2 u3
            have hcall := HIH.out x (List.mem_of_getElem? hx) (m - n) (by omega) wr ax cx (hTx.up (by omega))
            have hsn : min (1 + nsL (args.take (j + 1))) (m + 1) = n + min x.ns (m - n + 1) := by
              rw [List.take_succ_eq_append_getElem hjl, nsL_append, nsL_cons, nsL_nil]
              rw [List.getElem?_eq_getElem hjl] at hx
              rw [Option.some.inj hx]
              have := HN.out
              omega
            have hwj : IntKind.i64.wrap ((j : Int) + 1) = (j : Int) + 1 := by rw [IntKind.wrap_i64]; omega
            have hwm : IntKind.i64.wrap ((m : Int) - (n : Int)) = ((m - n : Nat) : Int) := by rw [IntKind.wrap_i64]; omega
            have HKR := Lib.hid hkr
            have HSN := Lib.hid hsn; clear hsn
            have HLJ := Lib.hid hlj
            have hbw : b < wr.heap.size := by omega
            unfold tv at hcall
            have HC := Lib.hid hcall; clear hcall
            clear hkr hbr hTr hTx kw k0 hb hx
            have hmn : (m : Int) - (n : Int) = ((m - n : Nat) : Int) := by omega
            obtain ⟨y, hy⟩ : ∃ y, y = min x.ns (m - n + 1) := ⟨_, rfl⟩
            rw [← hy] at HC HSN
            have hyl : y ≤ m - n + 1 := by omega
            clear hy
            have hwy : IntKind.i64.wrap ((n : Int) + (y : Int)) = ((n + y : Nat) : Int) := by rw [IntKind.wrap_i64]; omega
            go_wp2_with fail
            refine HC.out.mono ?_
            rintro e w5 ⟨rfl, k5⟩
            have HK5 := Lib.hid (HKR.out.trans (k5.less (fun g hg => by have := HKR.out.size; simp at this; omega)))
            clear HC k5 HKR u0 u1 u2 u3 c3 lb hbw
            go_wp2_with fail
            go_roundw
            case rel => exact ⟨j + 1, (by have := HLJ.out; omega), by go_num, (by rw [HSN.out]; first | rfl | (push_cast; rfl) | simp), HK5.out⟩
            case measure => have := HLJ.out; simp [intOf]; omega
          · have hnm1 : n = m + 1 := by omega
            have hdv : dv = n := by
              rw [HD2.out]
              have h1 := nsL_take_le args j
              have h2 := HN.out
              omega
            have HE := Lib.hid kw
            clear hbr hkr k0 hb kw HD HD2 HIH hnm
            subst hdv
            have hltz : ¬ (dv : Int) ≤ (m : Int) := by omega
            go_wp2_with fail
            go_ret
            exact ⟨rfl, HE.out⟩
        · have hjl : j = len := by omega
          have hdv : dv = n := by
            rw [HD2.out, HN.out, hjl, HLN.out, List.take_length]
          have HE := Lib.hid kw
          clear hbr hkr k0 hb kw HD HD2 HIH hnm
          subst hdv
          go_wp2_with fail
          go_ret
          exact ⟨rfl, HE.out⟩
    · have hd : dv = 1 := by rw [HD.out, Tm.ns_eq, if_neg (show ¬ (Tm.node kd nm i args).k = 4 from h4)]; omega
      subst hd
      obtain ⟨k0, hb⟩ := HK.out
      have HE := Lib.hid k0
      clear k0 hb HK HD HIH
      have hbne : (kd == 4) = false := by simpa using h4
      go_enter Try.func22, Try.ntmps22
      go_wp2_with fail
      go_ret
      exact ⟨by simp, HE.out⟩
theorem refsize_sx {w : World} {t : Tm} {a : Option Addr} {c m : Nat} {z mi : Int} (hT : TmAt w.heap.size w t a c) (hm : m ≤ 100000) (hmi : (m : Int) = mi) (hz : ((min t.ns (m + 1) : Nat) : Int) = z) :
    Calls Try.prog 22 #[tv t a c, .int .i64 mi] w fun e w' => e = .returned (.int .i64 z) ∧ Keep (fun g => g < w.heap.size) w w' := by
  subst hmi; subst hz; exact refSize3_any t m hm w a c hT
def o33_0_0 : Oper := { dst := some 2, op := Op.assign (Operand.const (Value.bool false)), type := 4, pos := "law.go:30", after := #[], guard := none }
def O33_0 : Array Oper := List.toArray (o33_0_0 :: [])
def c33_1 : Code := Code.region 0 O33_0 false
def o33_1_0 : Oper := { dst := some 5, op := Op.move (Operand.tmp 0), type := 22, pos := "law.go:31", after := #[], guard := none }
def o33_1_1 : Oper := { dst := some 6, op := Op.call { callee := Callee.builtin Go.Builtin.len, args := #[Operand.tmp 5], argTypes := #[22] }, type := 3, pos := "law.go:31", after := #[ed_ 0], guard := none }
def o33_1_2 : Oper := { dst := some 7, op := Op.move (Operand.const (Value.int IntKind.i64 0)), type := 3, pos := "law.go:31", after := #[], guard := none }
def O33_1 : Array Oper := List.toArray (o33_1_0 :: o33_1_1 :: o33_1_2 :: [])
def c33_4 : Code := Code.region 1 O33_1 false
def o33_2_0 : Oper := { dst := some 8, op := Op.binOp Go.BinOp.lss 3 (Operand.tmp 7) (Operand.tmp 6) 3, type := 0, pos := "law.go:31", after := #[], guard := none }
def O33_2 : Array Oper := List.toArray (o33_2_0 :: [])
def c33_8 : Code := Code.region 2 O33_2 false
def c33_12 : Code := Code.exit 0
def c33_10 : Code := Code.cond (Operand.tmp 8) Code.skip c33_12
def o33_3_0 : Oper := { dst := some 9, op := Op.indexAddr 22 (Operand.tmp 5) (Operand.tmp 7), type := 0, pos := "law.go:31", after := #[], guard := none }
def o33_3_1 : Oper := { dst := some 10, op := Op.load 24 (Operand.tmp 9), type := 24, pos := "law.go:31", after := #[ed_ 0], guard := none }
def o33_3_2 : Oper := { dst := some 4, op := Op.alloc 24, type := 0, pos := "law.go:31", after := #[], guard := none }
def o33_3_3 : Oper := { dst := none, op := Op.store 24 (Operand.tmp 4) (Operand.tmp 10), type := 0, pos := "law.go:31", after := #[ed_ 2, ed_ 1, ep_ 0, ep_ 1, ep_ 2], guard := none }
def O33_3 : Array Oper := List.toArray (o33_3_0 :: o33_3_1 :: o33_3_2 :: o33_3_3 :: [])
def c33_16 : Code := Code.region 3 O33_3 false
def o33_4_0 : Oper := { dst := some 11, op := Op.load 24 (Operand.tmp 4), type := 24, pos := "law.go:32", after := #[], guard := none }
def o33_4_1 : Oper := { dst := some 12, op := Op.call { callee := Callee.value (Operand.func 22), args := #[Operand.tmp 11, Operand.const (Value.int IntKind.i64 100)], argTypes := #[24, 3] }, type := 3, pos := "law.go:32", after := #[ed_ 0], guard := none }
def o33_4_2 : Oper := { dst := some 13, op := Op.binOp Go.BinOp.gtr 3 (Operand.tmp 12) (Operand.const (Value.int IntKind.i64 100)) 3, type := 4, pos := "law.go:32", after := #[ed_ 1], guard := none }
def O33_4 : Array Oper := List.toArray (o33_4_0 :: o33_4_1 :: o33_4_2 :: [])
def c33_18 : Code := Code.region 4 O33_4 false
def o33_5_0 : Oper := { dst := some 2, op := Op.assign (Operand.const (Value.bool false)), type := 4, pos := "law.go:33", after := #[], guard := none }
def O33_5 : Array Oper := List.toArray (o33_5_0 :: [])
def c33_21 : Code := Code.region 5 O33_5 false
def c33_20 : Code := Code.seq c33_21 Code.ret
def c33_19 : Code := Code.cond (Operand.tmp 13) c33_20 Code.skip
def c33_17 : Code := Code.seq c33_18 c33_19
def c33_15 : Code := Code.seq c33_16 c33_17
def c33_14 : Code := Code.block 1 c33_15
def o33_6_0 : Oper := { dst := some 14, op := Op.binOp Go.BinOp.add 3 (Operand.tmp 7) (Operand.const (Value.int IntKind.i64 1)) 3, type := 3, pos := "law.go:31", after := #[], guard := none }
def o33_6_1 : Oper := { dst := some 7, op := Op.move (Operand.tmp 14), type := 3, pos := "law.go:31", after := #[ed_ 0], guard := none }
def O33_6 : Array Oper := List.toArray (o33_6_0 :: o33_6_1 :: [])
def c33_24 : Code := Code.region 6 O33_6 false
def c33_13 : Code := Code.seq c33_14 c33_24
def c33_9 : Code := Code.seq c33_10 c33_13
def c33_7 : Code := Code.seq c33_8 c33_9
def c33_6 : Code := Code.loop c33_7
def c33_5 : Code := Code.block 0 c33_6
def c33_3 : Code := Code.seq c33_4 c33_5
def o33_7_0 : Oper := { dst := some 2, op := Op.assign (Operand.const (Value.bool true)), type := 4, pos := "law.go:36", after := #[], guard := none }
def O33_7 : Array Oper := List.toArray (o33_7_0 :: [])
def c33_26 : Code := Code.region 7 O33_7 false
def c33_25 : Code := Code.seq c33_26 Code.ret
def c33_2 : Code := Code.seq c33_3 c33_25
def c33_0 : Code := Code.seq c33_1 c33_2
end Go.Proofs.Ythbofkffklejoaa
