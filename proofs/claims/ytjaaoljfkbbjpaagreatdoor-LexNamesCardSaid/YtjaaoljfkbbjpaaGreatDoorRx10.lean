/-
  The document's tokens (pythiaref08): a text's tokens, in memory. No condition.
-/
import Derived.Test.YtjaaoljfkbbjpaaGreatDoorRx9
namespace Go.Proofs.YtjaaoljfkbbjpaaGreatDoor
open Go.RowKit Go.Shelf Go.Maps
set_option linter.unusedVariables false
set_option linter.unusedSimpArgs false

/-- What the document's Tokens answers. -/
def RtP (w : World) (x : R (List Tok)) (e : Ending) (w' : World) : Prop :=
  match x with
  | .good ts _ _ => ∃ v, e = .returned (.tuple #[v, .agg #[.int .i64 0, .int .i64 0]]) ∧ ToksAt w' w.heap.size v ts ∧ Keep (· < w.heap.size) w w'
  | .bad _ _ => ∃ c q : Int, c ≠ 0 ∧ e = .returned (.tuple #[.slice none 0 0, .agg #[.int .i64 c, .int .i64 q]]) ∧ Keep (· < w.heap.size) w w'
def RtRel (L : List UInt8) (X : R (List Tok)) (W1 : World) (g : Nat) (v i : Value) (wr : World) : Prop :=
  ∃ (k : Nat) (ts : List Tok), k ≤ L.length ∧ g = L.length + 1 - k ∧ i = .int .i64 k ∧ ToksAt wr W1.heap.size v ts ∧ ts.length ≤ k ∧ after ts (toks k (decide (ts.length = 0)) (L.drop k)) = X ∧ Keep (· < W1.heap.size) W1 wr
theorem rtk_round {W1 w4 w5 : World} {L : List UInt8} {X : R (List Tok)} {k n m : Nat} {ts : List Tok} {t : Tk} {ap : Bool} {v v' : Value} {o1 : Obj} (hap : ap = (decide (ts.length = 0) || decide (k < n))) (hml : m ≤ L.length) (hrow : ToksAt w4 W1.heap.size v ts) (hk : Keep (· < W1.heap.size) W1 w4)
    (hg : (w4.alloc o1).grownBy w5 v.ownBlock) (hown : w5.ownsRow W1.heap.size 33 6 v' (ts.length + 1) (cellsOfToks ts ++ [.int .i64 t.kind, .string (str t.text), .int .i64 t.int, .int .i64 n, .bool t.quoted, .bool ap]))
    (hX : after ts (toks k (decide (ts.length = 0)) (L.drop k)) = X) (hN : after ts (toks k (decide (ts.length = 0)) (L.drop k)) = after (ts ++ [⟨t, n, decide (ts.length = 0) || decide (k < n)⟩]) (toks m false (L.drop m))) (hlen : ts.length ≤ k) (hkm : k < m) : RtRel L X W1 (L.length + 1 - m) v' (.int .i64 m) w5 := by
  have hgr := grown_keepS (World.ownsRow.alloc hrow o1) hg
  have ha : Keep (· < W1.heap.size) w4 (w4.alloc o1) := (Keep.refl _ w4).alloc _
  refine ⟨m, ts ++ [⟨t, n, ap⟩], hml, rfl, rfl, ?_, by simp; omega, ?_, (hk.trans ha).trans hgr⟩
  · unfold ToksAt
    rw [cellsOfToks_snoc, List.length_append]
    exact hown
  · rw [← hX, hN, hap]
    simp
theorem drop_app {α : Type} (p r : List α) : r = (p ++ r).drop p.length := by simp
theorem tok_next {n m : Nat} {l r' : List UInt8} {t : Tk} (hr : remB l = false) (h : tokL n l = .good t m r') : n < m ∧ m ≤ n + l.length ∧ r' = l.drop (m - n) := by
  obtain ⟨p, e1, e2, e3⟩ := tok_split hr h
  have : 0 < p.length := by cases p; exact absurd rfl e3; simp
  subst e2
  refine ⟨by omega, by rw [e1, List.length_append]; omega, ?_⟩
  rw [e1, show n + p.length - n = p.length by omega]
  exact drop_app _ _
theorem skip_le' {k n : Nat} {l r : List UInt8} {u : Unit} (h : skipL k l = .good u n r) : k ≤ n ∧ n ≤ k + l.length ∧ r = l.drop (n - k) := by
  obtain ⟨s, e1, e2⟩ := skip_split k l h
  subst e2
  exact ⟨by omega, by rw [e1, List.length_append]; omega, by rw [e1, show k + s.length - k = s.length by omega]; exact drop_app _ _⟩
theorem lim_bad {n : Nat} {x : R Tk} {c q : Nat} (h : x = .bad c q) : limL n x = .bad c q := by subst h; rfl
set_option maxRecDepth 1000000 in
set_option maxHeartbeats 16000000 in
theorem rTokens_any (L : List UInt8) (w : World) : Calls Tryz.prog 20 #[.string (str L)] w (RtP w (tokens L)) := by
  by_cases hl : L.length ≤ 16384
  rotate_left
  · rw [show tokens L = .bad 2 0 by unfold tokens; rw [if_pos (by omega)]]
    have hs := str_size L
    have h16 : (16384 : Int) < (L.length : Int) := by omega
    have hb := Blk.new w 45 #[.int .i64 0, .int .i64 0]
    have f0 := hb.cell 0
    have f1 := hb.cell 1
    have z0 := hb.frozen 0
    have z1 := hb.frozen 1
    simp at f0 f1
    clear hb
    generalize str L = s at *
    go_enter Tryz.func20, Tryz.ntmps20
    go_wp2_with fail
    refine bodyPost_ret (v := .tuple #[.slice none 0 0, .agg #[.int .i64 2, .int .i64 0]]) (by simp [results, Tryz.results20, go_sem, f0, f1]) rfl ?_
    exact ⟨2, 0, by decide, rfl, (Keep.refl _ w).alloc _⟩
  rw [show tokens L = toks 0 true L by unfold tokens; rw [if_neg (by omega)]]
  obtain ⟨i0, hi0, hz0, hz1, hz2⟩ := info_parts infoTok
  have hs := str_size L
  have h16 : ¬ (16384 : Int) < (L.length : Int) := by omega
  have HSK := Lib.hid (fun k (hk : k ≤ L.length) W => rSkip_any L k hl hk W)
  have HTO := Lib.hid (fun n c r (h : L.drop n = c :: r) W => rToken_any L n hl h W)
  obtain ⟨s, hsl⟩ : ∃ s, str L = s := ⟨_, rfl⟩
  rw [hsl] at hs HSK HTO ⊢
  clear hsl
  obtain ⟨X, hX⟩ : ∃ X, toks 0 true L = X := ⟨_, rfl⟩
  rw [hX]
  obtain ⟨W1, hW1⟩ : ∃ W1, W1 = w.alloc (.cells #[.int .i64 0, .int .i64 0] 45) := ⟨_, rfl⟩
  have hb := Blk.new w 45 #[.int .i64 0, .int .i64 0]
  have hk0 := (Keep.refl (· < w.heap.size) w).alloc (.cells #[.int .i64 0, .int .i64 0] 45)
  have hz0' : (w.alloc (.cells #[.int .i64 0, .int .i64 0] 45)).heap.size = w.heap.size + 1 := by simp
  rw [← hW1] at hb hk0 hz0'
  have hpz : w.heap.size < W1.heap.size := by omega
  have hbe := Blk.new W1 33 #[]
  have HB := Lib.hid hb
  have HK0 := Lib.hid hk0
  have HR : Hid (RtRel L X W1 (L.length + 1) (.slice (some ⟨w.heap.size + 1, 0, none⟩) 0 0) (.int .i64 0) (W1.alloc (.cells #[] 33))) := Lib.hid (by
    rw [← hz0']
    exact ⟨0, [], by omega, rfl, rfl, ⟨rfl, .inr ⟨_, 0, _, rfl, Nat.le_refl _, hbe, Nat.le_refl _, by unfold maxLen; omega, rfl, rfl⟩⟩, by simp, by rw [after_nil, ← hX]; rfl, (Keep.refl _ W1).alloc _⟩)
  have HW := Lib.hid hW1
  clear hX hb hk0 hbe
  go_enter Tryz.func20, Tryz.ntmps20
  go_wp2_with fail
  rw [← HW.out]
  clear hW1
  go_loopg [4, 5] (L.length + 1) (fun g v i wr => RtRel L X W1 g v i wr)
  case atStart => exact HR.out
  case round =>
    clear HR
    obtain ⟨k, ts, hkl, hg, rfl, hrow, htk, hx, hkp⟩ := hrel
    obtain ⟨ad, cp, rfl⟩ := hrow.is
    have HG := Lib.hid hg
    have HX := Lib.hid hx
    have HROW := Lib.hid hrow
    have HK := Lib.hid hkp
    clear hg hx hrow hkp
    have hsk := HSK.out k hkl
    rcases hxs : skipL k (L.drop k) with ⟨c, q⟩ | ⟨u, n, r⟩
    · rw [hxs] at hsk
      have hcz : ¬ (c = 0) := by have := (skip_bad k (L.drop k) hxs).1; omega
      have hcz' : ((c : Int) == 0) = false := beq_eq_false_iff_ne.2 (by omega)
      have HXX := Lib.hid (show R.bad c q = X by rw [← HX.out, toks_eq, hxs]; rfl)
      have HS2 := Lib.hid hsk
      clear hsk hxs
      go_wp2_with fail
      refine (HS2.out _).mono ?_
      rintro e w2 ⟨rfl, hk2⟩
      have HK2 := Lib.hid (HK.out.trans (hk2.less fun i (hi : i < W1.heap.size) => Nat.lt_of_lt_of_le hi HK.out.size))
      have hblk2 := HB.out.keep HK2.out hpz
      have HBL2 := Lib.hid hblk2
      have g0 := hblk2.cell 0
      have g1 := hblk2.cell 1
      have y0 := hblk2.frozen 0
      have y1 := hblk2.frozen 1
      have hpr2 := hblk2.lt
      simp at g0 g1
      clear hk2 hblk2
      unfold SkR
      go_wp2_with fail
      go_region
      go_wp2_with fail
      have qq := (Blk.alloc (Blk.set_ (Blk.set_ HBL2.out 0 (.int .i64 (c : Int))) 1 (.int .i64 (q : Int))) (.cells #[.int .i64 (c : Int), .int .i64 (q : Int)] 45))
      have q0 := qq.cell 0
      have q1 := qq.cell 1
      simp at q0 q1
      refine bodyPost_ret (v := .tuple #[.slice none 0 0, .agg #[.int .i64 (c : Int), .int .i64 (q : Int)]]) (by simp [results, Tryz.results20, go_sem, q0, q1]) rfl ?_
      rw [← HXX.out]
      exact ⟨c, q, by omega, rfl, ((keep_fault hpz HK0.out HK2.out _ _).alloc _).drew⟩
    · rw [hxs] at hsk
      obtain ⟨hkn, hnl, hr⟩ := skip_le' hxs
      rw [List.drop_drop, show k + (n - k) = n by omega] at hr
      rw [List.length_drop] at hnl
      have hnl : n ≤ L.length := by omega
      have HS2 := Lib.hid hsk
      have HSX := Lib.hid hxs
      clear hsk hxs
      go_wp2_with fail
      refine (HS2.out _).mono ?_
      rintro e w2 ⟨rfl, hk2⟩
      have HK2 := Lib.hid (HK.out.trans (hk2.less fun i (hi : i < W1.heap.size) => Nat.lt_of_lt_of_le hi HK.out.size))
      have HROW2 := Lib.hid (HROW.out.keep hk2 (fun g _ hg => hg))
      have hblk2 := HB.out.keep HK2.out hpz
      have HBL2 := Lib.hid hblk2
      have g0 := hblk2.cell 0
      have g1 := hblk2.cell 1
      have y0 := hblk2.frozen 0
      have y1 := hblk2.frozen 1
      have hpr2 := hblk2.lt
      simp at g0 g1
      clear hk2 hblk2
      unfold SkR
      rcases hd : L.drop n with _ | ⟨c, r2⟩
      · have h3 : L.length ≤ n := by simpa using hd
        have h4 : (L.length : Int) ≤ (n : Int) := by omega
        have HXX := Lib.hid (show R.good ts n [] = X by rw [← HX.out, toks_over (by rw [HSX.out, hr, hd])]; simp [after])
        clear hd hr
        go_wp2_with fail
        have qq := (Blk.alloc (Blk.set_ (Blk.set_ HBL2.out 0 (.int .i64 0)) 1 (.int .i64 0)) (.cells #[.int .i64 0, .int .i64 0] 45))
        have q0 := qq.cell 0
        have q1 := qq.cell 1
        simp at q0 q1
        refine bodyPost_ret (v := .tuple #[.slice ad ts.length cp, .agg #[.int .i64 0, .int .i64 0]]) (by simp [results, Tryz.results20, go_sem, q0, q1]) rfl ?_
        rw [← HXX.out]
        have hkf : Keep (· ≠ w.heap.size) w2 (((w2.setCell ⟨w.heap.size, 0, none⟩ (.int .i64 0)).setCell ⟨w.heap.size, 1, none⟩ (.int .i64 0)).alloc (.cells #[.int .i64 0, .int .i64 0] 45)) := (((Keep.refl _ w2).setCell (by simp) _).setCell (by simp) _).alloc _
        exact ⟨_, rfl, (HROW2.out.keep hkf (fun g hg _ => by omega)).base (Nat.le_of_lt hpz), (keep_fault hpz HK0.out HK2.out _ _).alloc _⟩
      · have h4 : ¬ (L.length : Int) ≤ (n : Int) := by have := congrArg List.length hd; simp at this; omega
        have hstop := skip_stop k (L.drop k) (by rw [HSX.out, hr, hd])
        have hrm := hstop.2.2
        have hto := fun W => HTO.out n c r2 hd W
        have htl := tok_lim n (c :: r2)
        have HD := Lib.hid hd
        have HRR := Lib.hid hr
        clear hd hr hstop
        obtain ⟨Y, hY⟩ : ∃ Y, rtokL n (c :: r2) = Y := ⟨_, rfl⟩
        rw [hY] at hto htl
        have HT2 := Lib.hid hto
        have HTL := Lib.hid htl
        have HRM := Lib.hid hrm
        clear hY hto htl hrm
        go_wp2_with fail
        refine (HT2.out _).mono ?_
        rintro e w3 ⟨kk, tx, ii, qd, to, cc, qq, rfl, hk3, hm⟩
        have HKF := Lib.hid (HK2.out.alloc (.cells #[.int .i64 0, .int .i64 0] 45))
        have HK3 := Lib.hid (HKF.out.trans (hk3.less fun i (hi : i < W1.heap.size) => Nat.lt_of_lt_of_le hi HKF.out.size))
        have HROW3 := Lib.hid ((HROW2.out.keep ((Keep.refl (fun _ => True) w2).alloc (.cells #[.int .i64 0, .int .i64 0] 45)) (fun _ _ _ => trivial)).keep hk3 (fun g _ hg => hg))
        have hblk3 := HB.out.keep HK3.out hpz
        have HBL3 := Lib.hid hblk3
        clear hk3 g0 g1 y0 y1 hpr2
        have g0 := hblk3.cell 0
        have g1 := hblk3.cell 1
        have y0 := hblk3.frozen 0
        have y1 := hblk3.frozen 1
        have hpr2 := hblk3.lt
        simp at g0 g1
        clear hblk3
        -- a fault of the token's own
        have wrong : ∀ (c' : Nat) (q' : Nat), limL n Y = .bad c' q' → ∃ c q, X = .bad c q := fun c' q' h => ⟨_, _, by rw [← HX.out, toks_wrong (by rw [HSX.out, HRR.out, HD.out]) (HTL.out.trans h)]; rfl⟩
        have WR := Lib.hid wrong
        clear wrong
        have hsty := str_size tx
        rcases Y with ⟨c', q'⟩ | ⟨t, m, r'⟩
        · obtain ⟨rfl, rfl, hne⟩ := hm
          have hcz' : ((c' : Int) == 0) = false := beq_eq_false_iff_ne.2 (by omega)
          have HWR := Lib.hid (WR.out c' q' rfl)
          generalize str tx = stx at *
          go_wp2_with fail
          go_region
          go_wp2_with fail
          have qq := (Blk.alloc (Blk.alloc (Blk.set_ (Blk.set_ HBL3.out 0 (.int .i64 (c' : Int))) 1 (.int .i64 (q' : Int))) (.cells #[.int .i64 kk, .string stx, .int .i64 ii, .int .i64 n, .bool qd, .bool false] 33)) (.cells #[.int .i64 (c' : Int), .int .i64 (q' : Int)] 45))
          have q0 := qq.cell 0
          have q1 := qq.cell 1
          simp at q0 q1
          refine bodyPost_ret (v := .tuple #[.slice none 0 0, .agg #[.int .i64 (c' : Int), .int .i64 (q' : Int)]]) (by simp [results, Tryz.results20, go_sem, q0, q1]) rfl ?_
          obtain ⟨x1, x2, hXX⟩ := HWR.out
          rw [hXX]
          exact ⟨c', q', by omega, rfl, (((keep_fault hpz HK0.out HK3.out _ _).alloc _).alloc _).drew⟩
        · obtain ⟨rfl, rfl, rfl, rfl, rfl, rfl, rfl⟩ := hm
          by_cases hlong : t.kind ≤ 2 ∧ 64 < t.text.length
          · have hk2 : (t.kind : Int) ≤ 2 := by omega
            have h64 : (64 : Int) < (t.text.length : Int) := by omega
            have HWR := Lib.hid (WR.out 2 n (if_pos hlong))
            generalize str t.text = stx at *
            clear hlong
            go_wp2_with fail
            have qq := (Blk.alloc (Blk.alloc (Blk.set_ (Blk.set_ HBL3.out 0 (.int .i64 2)) 1 (.int .i64 (n : Int))) (.cells #[.int .i64 t.kind, .string stx, .int .i64 t.int, .int .i64 n, .bool t.quoted, .bool false] 33)) (.cells #[.int .i64 0, .int .i64 0] 45))
            have q0 := qq.cell 0
            have q1 := qq.cell 1
            simp at q0 q1
            refine bodyPost_ret (v := .tuple #[.slice none 0 0, .agg #[.int .i64 2, .int .i64 (n : Int)]]) (by simp [results, Tryz.results20, go_sem, q0, q1]) rfl ?_
            obtain ⟨x1, x2, hXX⟩ := HWR.out
            rw [hXX]
            exact ⟨2, n, by decide, rfl, ((keep_fault hpz HK0.out HK3.out _ _).alloc _).alloc _⟩
          · have htk2 : tokL n (c :: r2) = .good t m r' := HTL.out.trans (if_neg hlong)
            have hnx := tok_next HRM.out htk2
            have hdl := congrArg List.length HD.out
            rw [List.length_drop] at hdl
            obtain ⟨hnm, hml, hrr⟩ := hnx
            have hmL : m ≤ L.length := by omega
            have hrr' : r' = L.drop m := by rw [hrr, ← HD.out, List.drop_drop, show n + (m - n) = m by omega]
            have HNX := Lib.hid (show after ts (toks k (decide (ts.length = 0)) (L.drop k)) = after (ts ++ [⟨t, n, decide (ts.length = 0) || decide (k < n)⟩]) (toks m false (L.drop m)) by
              rw [← hrr']; exact toks_next ts (by rw [HSX.out, HRR.out, HD.out]) htk2)
            have hkd : ((t.kind : Int) ≤ 2 ∧ ¬ (64 : Int) < (t.text.length : Int)) ∨ ¬ (t.kind : Int) ≤ 2 := by omega
            obtain ⟨stx, hstx⟩ : ∃ stx, str t.text = stx := ⟨_, rfl⟩
            rw [hstx] at hsty
            rw [hstx]
            have HSTX := Lib.hid hstx
            clear hlong htk2 hrr hrr' hdl hstx WR
            by_cases hlt : k < n
            · have hlt' : ((k : Int) < n) := by omega
              rcases hkd with ⟨hkd1, hkd2⟩ | hkd1
              all_goals
                go_wp2_with (at_builtin; refine wpList_append_own _ rfl _ _ 26 rfl W1.heap.size 33 i0 noTk 6 48 Tryz.underlying26 hi0 hz0 hz1 hz2 rfl (by decide) _ _ _ rfl (World.ownsRow.alloc (World.ownsRow.alloc (World.ownsRow.alloc HROW3.out _) _) _) ⟨w3.heap.size + 1 + 1, 0, none⟩ 1 1 [.int .i64 t.kind, .string stx, .int .i64 t.int, .int .i64 n, .bool t.quoted, .bool true] rfl rfl (cells_new _ _ _ _ (by simp)) (by simp [Value.oneCell']) (by unfold maxLen; omega) (by omega) (by have := HK3.out.size; simp; omega) ?_)
                intro v' w5 hown' hgrow _
                have HREL := Lib.hid (rtk_round (X := X) (k := k) (ap := true) (by simp [hlt]) hmL (World.ownsRow.alloc (World.ownsRow.alloc HROW3.out _) _) ((HK3.out.alloc _).alloc _) hgrow (by rw [HSTX.out, hz0']; exact hown') HX.out HNX.out htk (by omega))
                clear hown' hgrow
                go_wp2_with fail
                go_roundg (L.length + 1 - m)
                case measure => have := HG.out; omega
                case rel => exact HREL.out
            · have hlt' : ¬ ((k : Int) < n) := by omega
              rcases hkd with ⟨hkd1, hkd2⟩ | hkd1
              all_goals
                go_wp2_with (at_builtin; refine wpList_append_own _ rfl _ _ 26 rfl W1.heap.size 33 i0 noTk 6 48 Tryz.underlying26 hi0 hz0 hz1 hz2 rfl (by decide) _ _ _ rfl (World.ownsRow.alloc (World.ownsRow.alloc (World.ownsRow.alloc HROW3.out _) _) _) ⟨w3.heap.size + 1 + 1, 0, none⟩ 1 1 [.int .i64 t.kind, .string stx, .int .i64 t.int, .int .i64 n, .bool t.quoted, .bool ((ts.length : Int) == 0)] rfl rfl (cells_new _ _ _ _ (by simp)) (by simp [Value.oneCell']) (by unfold maxLen; omega) (by omega) (by have := HK3.out.size; simp; omega) ?_)
                intro v' w5 hown' hgrow _
                have HREL := Lib.hid (rtk_round (X := X) (k := k) (ap := ((ts.length : Int) == 0)) (flag_eq hlt) hmL (World.ownsRow.alloc (World.ownsRow.alloc HROW3.out _) _) ((HK3.out.alloc _).alloc _) hgrow (by rw [HSTX.out, hz0']; exact hown') HX.out HNX.out htk (by omega))
                clear hown' hgrow
                go_wp2_with fail
                go_roundg (L.length + 1 - m)
                case measure => have := HG.out; omega
                case rel => exact HREL.out
end Go.Proofs.YtjaaoljfkbbjpaaGreatDoor
