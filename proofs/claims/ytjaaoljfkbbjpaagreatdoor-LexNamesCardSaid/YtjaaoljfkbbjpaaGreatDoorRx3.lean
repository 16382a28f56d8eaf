/-
  The document's tokens (pythiaref08): an escape; a name in quotes. No condition.
-/
import Derived.Test.YtjaaoljfkbbjpaaGreatDoorRx2
import Derived.Test.YtjaaoljfkbbjpaaGreatDoorLx40
namespace Go.Proofs.YtjaaoljfkbbjpaaGreatDoor
open Go.RowKit Go.Shelf Go.Maps
set_option linter.unusedVariables false
set_option linter.unusedSimpArgs false

/-- What the document's escape answers. -/
def EsR (k o : Nat) : QR → Value
  | .byte c _ => .tuple #[byteV c, .agg #[.int .i64 0, .int .i64 0]]
  | .over => .tuple #[.int .u8 0, .agg #[.int .i64 81, .int .i64 o]]
  | .bad e => .tuple #[.int .u8 0, .agg #[.int .i64 e, .int .i64 k]]
  | .close => .tuple #[.int .u8 0, .agg #[.int .i64 0, .int .i64 0]]
theorem ofNat_eq {c : UInt8} {n : Nat} (h : (c.toNat : Int) = n) (hn : n < 256) : c = UInt8.ofNat n := UInt8.toNat_inj.1 (by simp; omega)
set_option maxRecDepth 1000000 in
set_option maxHeartbeats 8000000 in
theorem rEscape_any (L : List UInt8) (k o : Nat) (hl : L.length ≤ 16384) (hk : k < L.length) (w : World) : Calls Tryz.prog 71 #[.string (str L), .int .i64 k, .int .i64 o] w fun e w' => e = .returned (EsR k o (escL (L.drop (k + 1)))) ∧ Keep (· < w.heap.size) w w' := by
  have hs := str_size L
  have HGA := Lib.hid (fun k c r (h : L.drop k = c :: r) => str_getAt3 h)
  obtain ⟨s, hsl⟩ : ∃ s, str L = s := ⟨_, rfl⟩
  rw [hsl] at hs HGA ⊢
  clear hsl
  have hb := Blk.new w 45 #[.int .i64 0, .int .i64 0]
  have f0 := hb.cell 0
  have f1 := hb.cell 1
  have z0 := hb.frozen 0
  have z1 := hb.frozen 1
  simp at f0 f1
  have HK0 := Lib.hid ((Keep.refl (· < w.heap.size) w).alloc (.cells #[.int .i64 0, .int .i64 0] 45))
  clear hb
  rcases hd : L.drop (k + 1) with _ | ⟨c, r⟩
  · have h3 : L.length ≤ k + 1 := by simpa using hd
    have h4 : (L.length : Int) ≤ (k : Int) + 1 := by omega
    clear hd
    go_enter Tryz.func71, Tryz.ntmps71
    go_wp2_with fail
    refine bodyPost_ret (v := .tuple #[.int .u8 0, .agg #[.int .i64 81, .int .i64 o]]) (by simp [results, Tryz.results71, go_sem, f0, f1]) rfl ?_
    exact ⟨rfl, (Keep.refl _ w).alloc _⟩
  · obtain ⟨h1, h2, hks, hsk⟩ := HGA.out (k + 1) c r hd
    have h4 : ¬ (L.length : Int) ≤ (k : Int) + 1 := by omega
    have he : escL (c :: r) = if ((c.toNat : Int) == 110) then .byte 10 2 else if ((c.toNat : Int) == 116) then .byte 9 2 else if ((c.toNat : Int) == 92) || (((c.toNat : Int) == 39) || ((c.toNat : Int) == 34)) then .byte c 2 else .bad 82 := by
      rw [escL, eqInt c 110, eqInt c 116, eqInt c 92, eqInt c 39, eqInt c 34]; rfl
    rw [he]
    have hbv : byteV c = .int .u8 (c.toNat : Int) := rfl
    clear hd h2 he
    rcases e1 : ((c.toNat : Int) == 110) with _ | _
    · rcases e2 : ((c.toNat : Int) == 116) with _ | _
      · rcases e3 : ((c.toNat : Int) == 92) with _ | _
        · rcases e4 : ((c.toNat : Int) == 39) with _ | _
          · rcases e5 : ((c.toNat : Int) == 34) with _ | _
            · go_enter Tryz.func71, Tryz.ntmps71
              go_wp2_with fail
              refine bodyPost_ret (v := .tuple #[.int .u8 0, .agg #[.int .i64 82, .int .i64 k]]) (by simp [results, Tryz.results71, go_sem, f0, f1]) rfl ?_
              exact ⟨rfl, (Keep.refl _ w).alloc _⟩
            · go_enter Tryz.func71, Tryz.ntmps71
              go_wp2_with fail
              refine bodyPost_ret (v := .tuple #[.int .u8 (c.toNat : Int), .agg #[.int .i64 0, .int .i64 0]]) (by simp [results, Tryz.results71, go_sem, f0, f1]) rfl ?_
              exact ⟨rfl, (Keep.refl _ w).alloc _⟩
          · go_enter Tryz.func71, Tryz.ntmps71
            go_wp2_with fail
            refine bodyPost_ret (v := .tuple #[.int .u8 (c.toNat : Int), .agg #[.int .i64 0, .int .i64 0]]) (by simp [results, Tryz.results71, go_sem, f0, f1]) rfl ?_
            exact ⟨rfl, (Keep.refl _ w).alloc _⟩
        · go_enter Tryz.func71, Tryz.ntmps71
          go_wp2_with fail
          refine bodyPost_ret (v := .tuple #[.int .u8 (c.toNat : Int), .agg #[.int .i64 0, .int .i64 0]]) (by simp [results, Tryz.results71, go_sem, f0, f1]) rfl ?_
          exact ⟨rfl, (Keep.refl _ w).alloc _⟩
      · go_enter Tryz.func71, Tryz.ntmps71
        go_wp2_with fail
        refine bodyPost_ret (v := .tuple #[.int .u8 9, .agg #[.int .i64 0, .int .i64 0]]) (by simp [results, Tryz.results71, go_sem, f0, f1]) rfl ?_
        exact ⟨rfl, (Keep.refl _ w).alloc _⟩
    · go_enter Tryz.func71, Tryz.ntmps71
      go_wp2_with fail
      refine bodyPost_ret (v := .tuple #[.int .u8 10, .agg #[.int .i64 0, .int .i64 0]]) (by simp [results, Tryz.results71, go_sem, f0, f1]) rfl ?_
      exact ⟨rfl, (Keep.refl _ w).alloc _⟩
/-- A name in quotes, behind some of it. -/
def qAft (acc : List UInt8) : R (List UInt8) → R (List UInt8)
  | .good s n r => .good (acc ++ s) n r
  | .bad c p => .bad c p
theorem qAft_byte {acc l : List UInt8} {o k n : Nat} {c : UInt8} (h : inQ l = .byte c n) : qAft acc (quotL o k l) = qAft (acc ++ [c]) (quotL o (k + n) (l.drop n)) := by
  rw [quot_byte h]
  cases quotL o (k + n) (l.drop n) <;> simp [qAft]
theorem escL_two {l : List UInt8} {c : UInt8} {n : Nat} (h : escL l = .byte c n) : n = 2 := by
  cases l with
  | nil => cases h
  | cons d r =>
    rw [escL] at h
    repeat' split at h
    all_goals first | (injection h with _ h2; exact h2.symm) | cases h
theorem escL_close {l : List UInt8} : escL l ≠ .close := by
  cases l with
  | nil => intro h; cases h
  | cons d r => rw [escL]; intro h; repeat' split at h
                all_goals cases h
theorem escL_bad {l : List UInt8} {e : Nat} (h : escL l = .bad e) : e = 82 := by
  cases l with
  | nil => cases h
  | cons d r =>
    rw [escL] at h
    repeat' split at h
    all_goals first | (injection h with h2; exact h2.symm) | cases h
/-- What the document's quoted answers. -/
def QtR : R (List UInt8) → Value
  | .good s n _ => .tuple #[.string (str s), .int .i64 n, .agg #[.int .i64 0, .int .i64 0]]
  | .bad c q => .tuple #[.string ⟨#[]⟩, .int .i64 0, .agg #[.int .i64 c, .int .i64 q]]
def QoRel (L : List UInt8) (o : Nat) (X : R (List UInt8)) (W1 : World) (g : Nat) (v i : Value) (wr : World) : Prop := ∃ (k : Nat) (acc : List UInt8), o + 1 ≤ k ∧ k ≤ L.length ∧ g = L.length - k ∧ i = .int .i64 k ∧ qAft acc (quotL o k (L.drop k)) = X ∧ acc.length ≤ k ∧
  wr.ownsRow W1.heap.size 5 1 v acc.length (acc.map byteV) ∧ Keep (· < W1.heap.size) W1 wr
theorem keep_fault {W0 W1 wr : World} {p : Nat} (hp : p < W1.heap.size) (hW : Keep (· < p) W0 W1) (hk : Keep (· < W1.heap.size) W1 wr) (a b : Value) : Keep (· < p) W0 ((wr.setCell ⟨p, 0, none⟩ a).setCell ⟨p, 1, none⟩ b) :=
  ((hW.trans (hk.less fun i (hi : i < p) => Nat.lt_trans hi hp)).setCell (by simp) _).setCell (by simp) _
set_option maxRecDepth 1000000 in
set_option maxHeartbeats 8000000 in
theorem rQuoted_any (L : List UInt8) (o : Nat) (hl : L.length ≤ 16384) (ho : o < L.length) (w : World) : Calls Tryz.prog 53 #[.string (str L), .int .i64 o] w fun e w' => e = .returned (QtR (quotL o (o + 1) (L.drop (o + 1)))) ∧ Keep (· < w.heap.size) w w' := by
  obtain ⟨i0, hi0, hz0, hz1, hz2⟩ := info_parts infoU8
  have hs := str_size L
  have HGA := Lib.hid (fun k c r (h : L.drop k = c :: r) => str_getAt3 h)
  have HES := Lib.hid (fun k (hk : k < L.length) W => rEscape_any L k o hl hk W)
  obtain ⟨s, hsl⟩ : ∃ s, str L = s := ⟨_, rfl⟩
  rw [hsl] at hs HGA HES ⊢
  clear hsl
  obtain ⟨X, hX⟩ : ∃ X, quotL o (o + 1) (L.drop (o + 1)) = X := ⟨_, rfl⟩
  rw [hX]
  obtain ⟨W1, hW1⟩ : ∃ W1, W1 = w.alloc (.cells #[.int .i64 0, .int .i64 0] 45) := ⟨_, rfl⟩
  have hb := Blk.new w 45 #[.int .i64 0, .int .i64 0]
  have hk0 := (Keep.refl (· < w.heap.size) w).alloc (.cells #[.int .i64 0, .int .i64 0] 45)
  have hz0' : (w.alloc (.cells #[.int .i64 0, .int .i64 0] 45)).heap.size = w.heap.size + 1 := by simp
  rw [← hW1] at hb hk0 hz0'
  have hpz : w.heap.size < W1.heap.size := by omega
  have hbe := Blk.new W1 5 #[]
  have HB := Lib.hid hb
  have HK0 := Lib.hid hk0
  have HR : Hid (QoRel L o X W1 (L.length - (o + 1)) (.slice (some ⟨w.heap.size + 1, 0, none⟩) 0 0) (.int .i64 ((o : Int) + 1)) (W1.alloc (.cells #[] 5))) := Lib.hid (by
    rw [← hz0']
    exact ⟨o + 1, [], Nat.le_refl _, by omega, rfl, by go_num, by rw [hX]; cases X <;> rfl, by simp, ⟨rfl, .inr ⟨_, 0, _, rfl, Nat.le_refl _, hbe, Nat.le_refl _, by unfold maxLen; omega, rfl, rfl⟩⟩, (Keep.refl _ W1).alloc _⟩)
  have HW := Lib.hid hW1
  have HZ1 := Lib.hid hz0'
  clear hX hb hk0 hbe
  go_enter Tryz.func53, Tryz.ntmps53
  go_wp2_with fail
  rw [← HW.out]
  clear hW1
  go_loopg [7, 8] (L.length - (o + 1)) (fun g v i wr => QoRel L o X W1 g v i wr)
  case atStart => exact HR.out
  case round =>
    clear HR
    obtain ⟨k, acc, hok, hkl, hg, rfl, hx, hal, hrow, hkp⟩ := hrel
    have HG := Lib.hid hg
    have HX := Lib.hid hx
    have HOK := Lib.hid hok
    have HROW := Lib.hid hrow
    have HK := Lib.hid hkp
    have hblk := HB.out.keep hkp hpz
    have f0 := hblk.cell 0
    have f1 := hblk.cell 1
    have z0 := hblk.frozen 0
    have z1 := hblk.frozen 1
    have hpr := hblk.lt
    simp at f0 f1
    clear hg hx hok hrow hkp hblk
    -- a byte more
    have more : ∀ (c : UInt8) (n : Nat) (v : Value) (w4 : World), inQ (L.drop k) = .byte c n → 1 ≤ n → k + n ≤ L.length → w4.ownsRow W1.heap.size 5 1 v (acc ++ [c]).length ((acc ++ [c]).map byteV) → Keep (· < W1.heap.size) W1 w4 → QoRel L o X W1 (L.length - (k + n)) v (.int .i64 ((k : Int) + n)) w4 := fun c n v w4 hq h1 hn hr hk => by
      refine ⟨k + n, acc ++ [c], by have := HOK.out; omega, hn, rfl, by go_num, ?_, by simp; omega, hr, hk⟩
      rw [← HX.out, qAft_byte hq, List.drop_drop]
    have MO := Lib.hid more
    clear more
    rcases hd : L.drop k with _ | ⟨c, r⟩
    · have h3 : L.length ≤ k := by simpa using hd
      have h4 : ¬ ((k : Int) < (L.length : Int)) := by omega
      have HZ : Hid (X = .bad 81 o) := Lib.hid (by rw [← HX.out, hd, quot_over rfl]; rfl)
      clear hd
      go_wp2_with fail
      refine bodyPost_ret (v := .tuple #[.string ⟨#[]⟩, .int .i64 0, .agg #[.int .i64 81, .int .i64 o]]) (by simp [results, Tryz.results53, go_sem, f0, f1]) rfl ?_
      exact ⟨by rw [HZ.out]; rfl, keep_fault hpz HK0.out HK.out _ _⟩
    · obtain ⟨h1, h2, hks, hsk⟩ := HGA.out k c r hd
      have h4 : ((k : Int) < (L.length : Int)) := by omega
      have HD := Lib.hid hd
      have H2 := Lib.hid h2
      by_cases e39 : (c.toNat : Int) = 39
      · have e39' : ((c.toNat : Int) == 39) = true := by simpa using e39
        obtain rfl : c = 39 := UInt8.toNat_inj.1 (by have : (39 : UInt8).toNat = 39 := rfl; omega)
        simp only [show (((39 : UInt8).toNat : Nat) : Int) = 39 from rfl] at *
        rcases r with _ | ⟨d, q⟩
        · have h3 : L.length ≤ k + 1 := by simpa using h2
          have h5 : ¬ ((k : Int) + 1 < (L.length : Int)) := by omega
          have HZ : Hid (X = .good acc (k + 1) []) := Lib.hid (by rw [← HX.out, hd, quot_close rfl]; simp [qAft])
          have hcv := bytes_string HROW.out
          clear hd h2 e39
          go_wp2_with fail
          refine bodyPost_ret (v := .tuple #[.string (str acc), .int .i64 ((k : Int) + 1), .agg #[.int .i64 0, .int .i64 0]]) (by simp [results, Tryz.results53, go_sem, f0, f1]) rfl ?_
          exact ⟨by rw [HZ.out]; simp [QtR], keep_fault hpz HK0.out HK.out _ _⟩
        · obtain ⟨h3, h6, hks2, hsk2⟩ := HGA.out (k + 1) d q h2
          have h5 : ((k : Int) + 1 < (L.length : Int)) := by omega
          by_cases d39 : (d.toNat : Int) = 39
          · have d39' : ((d.toNat : Int) == 39) = true := by simpa using d39
            obtain rfl : d = 39 := UInt8.toNat_inj.1 (by have : (39 : UInt8).toNat = 39 := rfl; omega)
            have HQ : Hid (inQ (L.drop k) = .byte 39 2) := Lib.hid (by rw [hd]; rfl)
            clear hd h2 e39 d39 h6
            go_wp2_with (at_builtin; (refine wpList_append_own _ rfl _ _ 38 rfl W1.heap.size 5 i0 (.int .u8 0) 1 1 Tryz.underlying38 hi0 hz0 hz1 hz2 rfl (by decide) _ _ _ rfl (World.ownsRow.alloc HROW.out _) ⟨wr.heap.size, 0, none⟩ 1 1 [.int .u8 39] rfl rfl (cell_one wr 39 _ rfl) (by simp [Value.oneCell']) (by unfold maxLen; simp; omega) (by simp; omega) (by have := HK.out.size; simp; omega) ?_; intro v4 w4 hown4 hgrow4 _; obtain ⟨hr4, hk4⟩ := QuR.grow (N := []) (c := 39) HROW.out HK.out hown4 hgrow4; have HR4 := Lib.hid hr4; have HK4 := Lib.hid hk4; clear hown4 hgrow4 hr4 hk4))
            go_roundg (L.length - (k + 2))
            case measure => have := HG.out; omega
            case rel => exact MO.out 39 2 _ _ HQ.out (by omega) (by omega) HR4.out HK4.out
          · have d39' : ((d.toNat : Int) == 39) = false := by simpa using d39
            have HZ : Hid (X = .good acc (k + 1) (d :: q)) := Lib.hid (by
              have hne : ((d :: q).head? == some 39) = false := by
                have : ¬ d = 39 := fun h => d39 (by rw [h]; rfl)
                simpa using this
              rw [← HX.out, hd, quot_close (by rw [inQ, hne]; rfl)]; simp [qAft])
            have hcv := bytes_string HROW.out
            clear hd h2 e39 d39 h6
            go_wp2_with fail
            refine bodyPost_ret (v := .tuple #[.string (str acc), .int .i64 ((k : Int) + 1), .agg #[.int .i64 0, .int .i64 0]]) (by simp [results, Tryz.results53, go_sem, f0, f1]) rfl ?_
            exact ⟨by rw [HZ.out]; simp [QtR], keep_fault hpz HK0.out HK.out _ _⟩
      have e39' : ((c.toNat : Int) == 39) = false := by simpa using e39
      by_cases e92 : (c.toNat : Int) = 92
      · have e92' : ((c.toNat : Int) == 92) = true := by simpa using e92
        obtain rfl : c = 92 := UInt8.toNat_inj.1 (by have : (92 : UInt8).toNat = 92 := rfl; omega)
        simp only [show (((92 : UInt8).toNat : Nat) : Int) = 92 from rfl] at *
        have hes := fun W => HES.out k h1 W
        rw [h2] at hes
        have hiq : inQ (92 :: r) = escL r := rfl
        rcases hq : escL r with ⟨x, n⟩ | _ | _ | e
        · obtain rfl := escL_two hq
          rw [hq] at hes hiq
          have HES2 := Lib.hid hes
          have hpos := inQ_pos hiq
          have HQ : Hid (inQ (L.drop k) = .byte x 2) := Lib.hid (by rw [hd]; exact hiq)
          have hk2 : k + 2 ≤ L.length := by have := congrArg List.length hd; simp at this; have := hpos.2.2; simp at this; omega
          clear hes hd h2 e39 e92 hiq hq hpos
          go_wp2_with fail
          refine (HES2.out _).mono ?_
          rintro e w2 ⟨rfl, hk2'⟩
          have HK2 := Lib.hid (HK.out.trans (hk2'.less fun i hi => Nat.lt_of_lt_of_le hi HK.out.size))
          have HROW2 := Lib.hid (own_keepS HROW.out hk2' (fun g _ hg => hg))
          have HROWF := Lib.hid (World.ownsRow.alloc HROW2.out (.cells #[.int .i64 0, .int .i64 0] 45))
          have HKF := Lib.hid (HK2.out.alloc (.cells #[.int .i64 0, .int .i64 0] 45))
          clear hk2'
          unfold EsR byteV
          go_wp2_with (at_builtin; (refine wpList_append_own _ rfl _ _ 38 rfl W1.heap.size 5 i0 (.int .u8 0) 1 1 Tryz.underlying38 hi0 hz0 hz1 hz2 rfl (by decide) _ _ _ rfl (World.ownsRow.alloc HROWF.out _) ⟨w2.heap.size + 1, 0, none⟩ 1 1 [.int .u8 (x.toNat : Int)] rfl rfl (cell_one (w2.alloc (.cells #[.int .i64 0, .int .i64 0] 45)) (x.toNat : Int) _ (by simp)) (by simp [Value.oneCell']) (by unfold maxLen; simp; omega) (by simp; omega) (by have := HKF.out.size; simp at this ⊢; omega) ?_; intro v4 w4 hown4 hgrow4 _; obtain ⟨hr4, hk4⟩ := QuR.grow (N := []) (c := x) HROWF.out HKF.out hown4 hgrow4; have HR4 := Lib.hid hr4; have HK4 := Lib.hid hk4; clear hown4 hgrow4 hr4 hk4))
          go_roundg (L.length - (k + 2))
          case measure => have := HG.out; omega
          case rel => exact MO.out x 2 _ _ HQ.out (by omega) hk2 HR4.out HK4.out
        · exact absurd hq escL_close
        · rw [hq] at hes hiq
          have HES2 := Lib.hid hes
          have HZ : Hid (X = .bad 81 o) := Lib.hid (by rw [← HX.out, hd, quot_over hiq]; rfl)
          clear hes hd h2 e39 e92 hiq hq
          go_wp2_with fail
          refine (HES2.out _).mono ?_
          rintro e w2 ⟨rfl, hk2'⟩
          have HK2 := Lib.hid (HK.out.trans (hk2'.less fun i hi => Nat.lt_of_lt_of_le hi HK.out.size))
          have hblk2 := HB.out.keep HK2.out hpz
          have HBL2 := Lib.hid hblk2
          have g0 := hblk2.cell 0
          have g1 := hblk2.cell 1
          have y0 := hblk2.frozen 0
          have y1 := hblk2.frozen 1
          have hpr2 := hblk2.lt
          simp at g0 g1
          clear hk2' hblk2 f0 f1 z0 z1
          unfold EsR
          go_wp2_with fail
          go_region
          go_wp2_with fail
          have qq := (Blk.alloc (Blk.set_ (Blk.set_ HBL2.out 0 (.int .i64 81)) 1 (.int .i64 o)) (.cells #[.int .i64 81, .int .i64 o] 45))
          have q0 := qq.cell 0
          have q1 := qq.cell 1
          simp at q0 q1
          refine bodyPost_ret (v := .tuple #[.string ⟨#[]⟩, .int .i64 0, .agg #[.int .i64 81, .int .i64 o]]) (by simp [results, Tryz.results53, go_sem, q0, q1]) rfl ?_
          exact ⟨by rw [HZ.out]; rfl, ((keep_fault hpz HK0.out HK2.out _ _).alloc _).drew⟩
        · obtain rfl := escL_bad hq
          rw [hq] at hes hiq
          have HES2 := Lib.hid hes
          have HZ : Hid (X = .bad 82 k) := Lib.hid (by rw [← HX.out, hd, quot_bad hiq]; rfl)
          clear hes hd h2 e39 e92 hiq hq
          go_wp2_with fail
          refine (HES2.out _).mono ?_
          rintro e w2 ⟨rfl, hk2'⟩
          have HK2 := Lib.hid (HK.out.trans (hk2'.less fun i hi => Nat.lt_of_lt_of_le hi HK.out.size))
          have hblk2 := HB.out.keep HK2.out hpz
          have HBL2 := Lib.hid hblk2
          have g0 := hblk2.cell 0
          have g1 := hblk2.cell 1
          have y0 := hblk2.frozen 0
          have y1 := hblk2.frozen 1
          have hpr2 := hblk2.lt
          simp at g0 g1
          clear hk2' hblk2 f0 f1 z0 z1
          unfold EsR
          go_wp2_with fail
          go_region
          go_wp2_with fail
          have qq := (Blk.alloc (Blk.set_ (Blk.set_ HBL2.out 0 (.int .i64 82)) 1 (.int .i64 k)) (.cells #[.int .i64 82, .int .i64 k] 45))
          have q0 := qq.cell 0
          have q1 := qq.cell 1
          simp at q0 q1
          refine bodyPost_ret (v := .tuple #[.string ⟨#[]⟩, .int .i64 0, .agg #[.int .i64 82, .int .i64 k]]) (by simp [results, Tryz.results53, go_sem, q0, q1]) rfl ?_
          exact ⟨by rw [HZ.out]; rfl, ((keep_fault hpz HK0.out HK2.out _ _).alloc _).drew⟩
      have e92' : ((c.toNat : Int) == 92) = false := by simpa using e92
      have hin : inQ (c :: r) = if decide ((32 : Int) ≤ c.toNat) && decide ((c.toNat : Int) ≤ 126) then .byte c 1 else .bad 80 := by
        rw [inQ, eqInt c 92, eqInt c 39, show (((c.toNat : Nat) : Int) == (((92 : UInt8).toNat : Nat) : Int)) = false from e92', show (((c.toNat : Nat) : Int) == (((39 : UInt8).toNat : Nat) : Int)) = false from e39']
        rw [show (decide (32 ≤ c) && decide (c ≤ 126)) = (decide ((32 : Int) ≤ c.toNat) && decide ((c.toNat : Int) ≤ 126)) from of_all256 (f := fun c => decide (32 ≤ c) && decide (c ≤ 126)) (g := fun c => decide ((32 : Int) ≤ c.toNat) && decide ((c.toNat : Int) ≤ 126)) (by decide +kernel) c]
        rfl
      by_cases hm : (32 : Int) ≤ c.toNat ∧ (c.toNat : Int) ≤ 126
      · obtain ⟨hm1, hm2⟩ := hm
        have HQ : Hid (inQ (L.drop k) = .byte c 1) := Lib.hid (by rw [hd, hin]; simp [hm1, hm2])
        have e3 : ¬ (c.toNat : Int) < 32 := by omega
        have e4 : ¬ (126 : Int) < (c.toNat : Int) := by omega
        clear hd h2 hin e39 e92
        go_wp2_with (at_builtin; (refine wpList_append_own _ rfl _ _ 38 rfl W1.heap.size 5 i0 (.int .u8 0) 1 1 Tryz.underlying38 hi0 hz0 hz1 hz2 rfl (by decide) _ _ _ rfl (World.ownsRow.alloc HROW.out _) ⟨wr.heap.size, 0, none⟩ 1 1 [.int .u8 (c.toNat : Int)] rfl rfl (cell_one wr (c.toNat : Int) _ rfl) (by simp [Value.oneCell']) (by unfold maxLen; simp; omega) (by simp; omega) (by have := HK.out.size; simp; omega) ?_; intro v4 w4 hown4 hgrow4 _; obtain ⟨hr4, hk4⟩ := QuR.grow (N := []) (c := c) HROW.out HK.out hown4 hgrow4; have HR4 := Lib.hid hr4; have HK4 := Lib.hid hk4; clear hown4 hgrow4 hr4 hk4))
        go_roundg (L.length - (k + 1))
        case measure => have := HG.out; omega
        case rel => exact MO.out c 1 _ _ HQ.out (by omega) (by omega) HR4.out HK4.out
      · have HZ : Hid (X = .bad 80 k) := Lib.hid (by
          rw [← HX.out, hd, quot_bad (e := 80) (by rw [hin, if_neg (by simp; omega)])]; rfl)
        have hm' : (c.toNat : Int) < 32 ∨ (32 ≤ (c.toNat : Int) ∧ 126 < (c.toNat : Int)) := by omega
        clear hd h2 hin e39 e92 hm
        rcases hm' with hm' | ⟨hm', hm2⟩
        all_goals
          go_wp2_with fail
          refine bodyPost_ret (v := .tuple #[.string ⟨#[]⟩, .int .i64 0, .agg #[.int .i64 80, .int .i64 k]]) (by simp [results, Tryz.results53, go_sem, f0, f1]) rfl ?_
          exact ⟨by rw [HZ.out]; rfl, keep_fault hpz HK0.out HK.out _ _⟩
end Go.Proofs.YtjaaoljfkbbjpaaGreatDoor
