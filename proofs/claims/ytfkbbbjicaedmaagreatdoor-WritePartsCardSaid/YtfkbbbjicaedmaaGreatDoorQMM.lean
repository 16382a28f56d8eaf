/-
  Joined texts (Tv23, Tv25, Tv26). No condition.
-/
import Derived.Test.YtfkbbbjicaedmaaGreatDoorQMG
import Derived.Deep.RegionHeld3
import Derived.Deep.DeepCutAuto
namespace Go.Proofs.YtfkbbbjicaedmaaGreatDoor
open Go.RowKit Go.Maps
set_option linter.unusedVariables false
set_option linter.unusedSimpArgs false
theorem less_is : ∀ x y : List UInt8, Op.bytesLess x y = decide (cmpB x y < 0) := by
  intro x
  induction x with
  | nil => intro y; cases y <;> simp [Op.bytesLess, cmpB]
  | cons a x ih =>
    intro y
    cases y with
    | nil => simp [Op.bytesLess, cmpB]
    | cons b y =>
      rw [Op.bytesLess, cmpB, ih y]
      have e1 : (a < b) = (a.toNat < b.toNat) := by rw [UInt8.lt_iff_toNat_lt]
      by_cases h1 : a.toNat < b.toNat
      · rw [if_pos h1]; simp [e1, h1]
      · rw [if_neg h1]
        by_cases h2 : b.toNat < a.toNat
        · rw [if_pos h2]
          have : (a == b) = false := by simp; rintro rfl; omega
          simp [e1, h1, this]
        · rw [if_neg h2]
          have : a = b := UInt8.toNat_inj.1 (by omega)
          simp [e1, h1, this]
theorem cmpB_vals (x y : List UInt8) : cmpB x y = -1 ∨ cmpB x y = 0 ∨ cmpB x y = 1 := by
  induction x generalizing y with
  | nil => cases y <;> simp [cmpB]
  | cons a x ih =>
    cases y with
    | nil => simp [cmpB]
    | cons b y =>
      rw [cmpB]
      split
      · simp
      · split
        · simp
        · exact ih y
def RefO (B : Nat) (x y : Tm) : Prop := ∀ (w : World) (a b : Option Addr) (c d : Nat), B ≤ w.heap.size → TmAt B w x a c → TmAt B w y b d →
  Calls Tryz.prog 34 #[tv x a c, tv y b d] w fun e w' => e = .returned (.int .i64 (x.tree.cmp y.tree)) ∧ Keep (fun g => g < w.heap.size) w w'
theorem cmp_kinds {t u : T} (h : t.kind ≠ u.kind) : t.cmp u = if t.kind < u.kind then -1 else 1 := by
  cases t <;> cases u <;> simp [T.kind] at h ⊢ <;> simp [T.cmp]
theorem Tm.kind_k {t : Tm} (h : t.ok = true) : t.tree.kind = t.k := (Tm.tree_ns h).2.2.2
theorem cmpL_go {x y : T} {xs ys : List T} : cmpL (x :: xs) (y :: ys) = or2 (x.cmp y) (cmpL xs ys) := by rw [cmpL]
set_option maxRecDepth 100000 in
set_option maxHeartbeats 4000000 in
theorem refOrder_step {B : Nat} {t u : Tm} (ht : t.ok = true) (hu : u.ok = true) (ih : t.k = 4 → u.k = 4 → ∀ x ∈ t.args, ∀ y ∈ u.args, RefO B x y) : RefO B t u := by
  intro w a b c d hB hT hU
  have hk0 : Keep (fun g => g < w.heap.size) w ((w.alloc (tb t a c)).alloc (tb u b d)) := ((Keep.refl _ w).alloc _).alloc _
  have b1 := (Blk.new w 24 #[.int .i64 t.k, .string (str t.nm), .int .i64 t.i, .slice a t.args.length c]).alloc (tb u b d)
  have b2 := Blk.new (w.alloc (tb t a c)) 24 #[.int .i64 u.k, .string (str u.nm), .int .i64 u.i, .slice b u.args.length d]
  rw [World.size_alloc] at b2
  obtain ⟨z, hz⟩ : ∃ z, z = t.tree.cmp u.tree := ⟨_, rfl⟩
  rw [← hz]
  have hsign := sign_any
  obtain ⟨n, hn⟩ : ∃ n, t.args.length = n := ⟨_, rfl⟩
  obtain ⟨m, hm⟩ : ∃ m, u.args.length = m := ⟨_, rfl⟩
  have HK := Lib.hid hk0
  have HS := Lib.hid hsign
  have HIN := Lib.hid (And.intro hT (And.intro hU hB))
  have HZ := Lib.hid hz
  have HOK := Lib.hid (And.intro ht hu)
  have HIH := Lib.hid ih
  have HNM := Lib.hid (And.intro hn hm)
  have kt := Tm.ok_kind ht
  have ku := Tm.ok_kind hu
  unfold tb at HK b1 b2
  unfold tv
  rw [hn] at HK b1 b2 ⊢
  rw [hm] at HK b1 b2 ⊢
  obtain ⟨sn, hsn⟩ : ∃ sn, str t.nm = sn := ⟨_, rfl⟩
  obtain ⟨sm, hsm⟩ : ∃ sm, str u.nm = sm := ⟨_, rfl⟩
  rw [hsn] at HK b1 b2 ⊢
  rw [hsm] at HK b1 b2 ⊢
  have HSN := Lib.hid (And.intro hsn hsm)
  have HBX := Lib.hid (And.intro b1 b2)
  clear hsn hsm b1 b2 hk0 hsign hT hU hz ht hu ih hn hm hB
  by_cases e1 : t.k = u.k
  · by_cases e2 : t.k ≤ 2
    · have hfin : z = if t.i < u.i then -1 else if u.i < t.i then 1 else 0 := by
        rw [HZ.out]
        have hk : t.k = 1 ∨ t.k = 2 := by omega
        rcases hk with h | h
        · rw [tree_1 h, tree_1 (by omega : u.k = 1), T.cmp]; rfl
        · rw [tree_2 h, tree_2 (by omega : u.k = 2), T.cmp]; rfl
      have HF := Lib.hid hfin
      have q1 : ((t.k : Int) != u.k) = false := by simp [e1]
      have q2 : ((t.k : Int) ≤ 2) := e2
      clear e1 kt ku hfin
      go_enter Tryz.func34, Tryz.ntmps34
      go_wp2_with (go_at_call 43; refine (HS.out _ _ _).mono ?_; rintro e w1 ⟨rfl, rfl⟩)
      all_goals go_ret
      all_goals exact ⟨by (rw [HF.out]; first | (simp; done) | (simp; omega) | (simp [*]; done) | (simp [*]; omega) | (simp; repeat' split; all_goals first | rfl | omega) | (simp; intros; (repeat' split); all_goals first | rfl | omega)), HK.out⟩
    · have q1 : ((t.k : Int) != u.k) = false := by simp [e1]
      have q2 : ¬ ((t.k : Int) ≤ 2) := e2
      have hk : t.k = 3 ∨ t.k = 4 := by omega
      rcases hk with hk | hk
      · have hku : u.k = 3 := by omega
        have hfin : z = cmpB t.nm u.nm := by
          rw [HZ.out, tree_3 hk, tree_3 hku, T.cmp]
        have HF := Lib.hid hfin
        have q3 : ((t.k : Int) == 4) = false := by rw [hk]; decide
        by_cases e3 : t.nm = u.nm
        · obtain rfl : sn = sm := by rw [← HSN.out.1, ← HSN.out.2, e3]
          have HE3 := Lib.hid e3
          clear e1 kt ku hfin hk hku e3
          go_enter Tryz.func34, Tryz.ntmps34
          go_wp2_with fail
          all_goals go_ret
          all_goals exact ⟨by (rw [HF.out, HE3.out, cmpB_self]; first | rfl | simp), HK.out⟩
        · have q4 : (sn.toList == sm.toList) = false := by
            rw [← HSN.out.1, ← HSN.out.2, ByteArray.toList_eq, ByteArray.toList_eq, str_data, str_data]; simpa using e3
          have q5 : ¬ sn.toList = sm.toList := by
            rw [← HSN.out.1, ← HSN.out.2, ByteArray.toList_eq, ByteArray.toList_eq, str_data, str_data]; exact e3
          have q6 : Op.bytesLess sn.toList sm.toList = decide (cmpB t.nm u.nm < 0) := by
            rw [← HSN.out.1, ← HSN.out.2, ByteArray.toList_eq, ByteArray.toList_eq, str_data, str_data]; exact less_is _ _
          have hne : cmpB t.nm u.nm ≠ 0 := fun e => e3 (cmpB_zero.1 e)
          rcases cmpB_vals t.nm u.nm with hv | hv | hv
          · rw [hv] at q6
            have q7 : Op.bytesLess sn.toList sm.toList = true := by rw [q6]; rfl
            have HV := Lib.hid hv
            clear e1 kt ku hfin hk hku hv hne q6 e3
            go_enter Tryz.func34, Tryz.ntmps34
            go_wp2_with (go_at_call 43; refine (HS.out _ _ _).mono ?_; rintro e w1 ⟨rfl, rfl⟩)
            all_goals go_ret
            all_goals exact ⟨by (rw [HF.out, HV.out]; first | rfl | simp), HK.out⟩
          · exact absurd hv hne
          · rw [hv] at q6
            have q7 : Op.bytesLess sn.toList sm.toList = false := by rw [q6]; rfl
            have HV := Lib.hid hv
            clear e1 kt ku hfin hk hku hv hne q6 e3
            go_enter Tryz.func34, Tryz.ntmps34
            go_wp2_with (go_at_call 43; refine (HS.out _ _ _).mono ?_; rintro e w1 ⟨rfl, rfl⟩)
            all_goals go_ret
            all_goals exact ⟨by (rw [HF.out, HV.out]; first | rfl | simp), HK.out⟩
      · have hku : u.k = 4 := by omega
        obtain ⟨_, hn8, hokt, _⟩ := Tm.ok_args HOK.out.1 hk
        obtain ⟨_, hm8, hoku, _⟩ := Tm.ok_args HOK.out.2 hku
        rw [HNM.out.1] at hn8
        rw [HNM.out.2] at hm8
        have hfin : z = or2 (cmpI (n : Int) (m : Int)) (or2 (cmpB t.nm u.nm) (cmpL (t.args.map Tm.tree) (u.args.map Tm.tree))) := by
          rw [HZ.out, tree_4 hk, tree_4 hku, T.cmp, List.length_map, List.length_map, HNM.out.1, HNM.out.2]
        have q3 : ((t.k : Int) == 4) = true := by rw [hk]; decide
        by_cases e4 : n = m
        · subst e4
          by_cases e3 : t.nm = u.nm
          · obtain rfl : sn = sm := by rw [← HSN.out.1, ← HSN.out.2, e3]
            have hfin2 : z = cmpL ((t.args.map Tm.tree).drop 0) ((u.args.map Tm.tree).drop 0) := by
              rw [hfin, e3, cmpB_self, cmpI_self]; simp [or2]
            have HF := Lib.hid (And.intro hfin2 HK.out)
            have H48 := Lib.hid (And.intro hk hku)
            clear e1 kt ku hfin hfin2 hk hku e3 hokt hoku
            go_enter Tryz.func34, Tryz.ntmps34
            obtain ⟨W0, hW0⟩ : ∃ W0, W0 = ((w.alloc (.cells #[.int .i64 t.k, .string sn, .int .i64 t.i, .slice a n c] 24)).alloc (.cells #[.int .i64 u.k, .string sn, .int .i64 u.i, .slice b n d] 24)) := ⟨_, rfl⟩
            have HW0 := Lib.hid hW0
            rw [← hW0] at HF HBX
            clear hW0
            go_wp2_with fail
            rw [← HW0.out]
            go_loopw [5, 6] (fun i' _ wr => ∃ k : Nat, k ≤ n ∧ i' = .int .i64 k ∧ z = cmpL ((t.args.map Tm.tree).drop k) ((u.args.map Tm.tree).drop k) ∧ Keep (fun g => g < W0.heap.size) W0 wr) (fun i' _ _ => n - (intOf i').toNat)
            case atStart => exact ⟨0, Nat.zero_le _, rfl, HF.out.1, Keep.refl _ _⟩
            case round =>
              obtain ⟨k, hkn, rfl, hzk, hkp⟩ := hrel
              have b1 := HBX.out.1.keep hkp HBX.out.1.lt
              have b2 := HBX.out.2.keep hkp HBX.out.2.lt
              have p3 := b1.cell 3
              have r3 := b2.cell 3
              simp at p3 r3
              have l1 := b1.lt
              have l2 := b2.lt
              clear b1 b2
              have hzr := hkp.size
              have hkw : Keep (fun g => g < w.heap.size) w wr := by
                have h1 := HF.out.2
                exact h1.trans (hkp.less (fun g hg => by have := h1.size; omega))
              have HKP := Lib.hid (And.intro hkp hkw)
              by_cases hlk : k < n
              · obtain ⟨x, hx⟩ : ∃ x, t.args[k]? = some x := ⟨_, List.getElem?_eq_getElem (by rw [HNM.out.1]; exact hlk)⟩
                obtain ⟨y, hy⟩ : ∃ y, u.args[k]? = some y := ⟨_, List.getElem?_eq_getElem (by rw [HNM.out.2]; exact hlk)⟩
                obtain ⟨bx, ox, ax, cx, rfl, hbx, hTx, e0, e1, e2', e3⟩ := (HIN.out.1.keepX hkw (fun g hg => by have := HIN.out.2.2; omega)).arg hx
                obtain ⟨by_, oy, ay, cy, rfl, hby, hTy, g0, g1, g2, g3⟩ := (HIN.out.2.1.keepX hkw (fun g hg => by have := HIN.out.2.2; omega)).arg hy
                rw [← Nat.add_assoc] at e1 e2' e3 g1 g2 g3
                have hzw := hkw.size
                have hbw : bx < wr.heap.size := by have := HIN.out.2.2; omega
                have hbw2 : by_ < wr.heap.size := by have := HIN.out.2.2; omega
                rw [getElem?_tree _ _ hx, getElem?_tree _ _ hy, cmpL_go] at hzk
                have hcall := HIH.out H48.out.1 H48.out.2 x (List.mem_of_getElem? hx) y (List.mem_of_getElem? hy) wr.drew ax ay cx cy (by have := HIN.out.2.2; show B ≤ wr.heap.size; omega) (hTx.keepX (X := fun _ => True) ((Keep.refl _ wr).drew) (fun _ _ => trivial)) (hTy.keepX (X := fun _ => True) ((Keep.refl _ wr).drew) (fun _ _ => trivial))
                unfold tv at hcall
                have hall : ∀ W, Keep (fun g => g < wr.drew.heap.size) wr.drew W → ∀ b o v, b < wr.heap.size → wr.cell? ⟨b, o, none⟩ = some v → W.cell? ⟨b, o, none⟩ = some v := fun W hW b o v hb hv => (World.cell?_of_block (a := ⟨b, o, none⟩) (hW.block b hb hb)).trans hv
                generalize x.tree.cmp y.tree = r at hcall hzk
                have HALL := Lib.hid hall
                have HCALL := Lib.hid hcall
                have HZK := Lib.hid hzk
                have hwk : IntKind.i64.wrap ((k : Int) + 1) = (k : Int) + 1 := by rw [IntKind.wrap_i64]; omega
                have HCE := Lib.hid (And.intro p3 (And.intro r3 (And.intro e0 (And.intro e1 (And.intro e2' (And.intro e3 (And.intro g0 (And.intro g1 (And.intro g2 g3)))))))))
                clear hall hcall hzk hkp hkw hx hy hTx hTy hbx hby
                go_wp2_with fail
                go_region_held3 (fun w' => w'.cell? ⟨w.heap.size, 3, none⟩ = some (.slice (some ⟨bx, ox, none⟩) n c) ∧ w'.cell? ⟨w.heap.size + 1, 3, none⟩ = some (.slice (some ⟨by_, oy, none⟩) n d) ∧ w'.cell? ⟨bx, ox + k * 4, none⟩ = some (.int .i64 x.k) ∧ w'.cell? ⟨bx, ox + k * 4 + 1, none⟩ = some (.string (str x.nm)) ∧ w'.cell? ⟨bx, ox + k * 4 + 2, none⟩ = some (.int .i64 x.i) ∧ w'.cell? ⟨bx, ox + k * 4 + 3, none⟩ = some (.slice ax x.args.length cx) ∧ w'.cell? ⟨by_, oy + k * 4, none⟩ = some (.int .i64 y.k) ∧ w'.cell? ⟨by_, oy + k * 4 + 1, none⟩ = some (.string (str y.nm)) ∧ w'.cell? ⟨by_, oy + k * 4 + 2, none⟩ = some (.int .i64 y.i) ∧ w'.cell? ⟨by_, oy + k * 4 + 3, none⟩ = some (.slice ay y.args.length cy)) (first | with_reducible exact ⟨p3, r3, e0, e1, e2', e3, g0, g1, g2, g3⟩ | exact ⟨p3, r3, e0, e1, e2', e3, g0, g1, g2, g3⟩)
                  (first
                    | (go_at_call 34; refine HCALL.out.mono ?_; rintro e w3 ⟨rfl, k3⟩; clear p3 r3 e0 e1 e2' e3 g0 g1 g2 g3; have p3 := HALL.out _ k3 _ _ _ l1 HCE.out.1; have r3 := HALL.out _ k3 _ _ _ l2 HCE.out.2.1; have e0 := HALL.out _ k3 _ _ _ hbw HCE.out.2.2.1; have e1 := HALL.out _ k3 _ _ _ hbw HCE.out.2.2.2.1; have e2' := HALL.out _ k3 _ _ _ hbw HCE.out.2.2.2.2.1; have e3 := HALL.out _ k3 _ _ _ hbw HCE.out.2.2.2.2.2.1; have g0 := HALL.out _ k3 _ _ _ hbw2 HCE.out.2.2.2.2.2.2.1; have g1 := HALL.out _ k3 _ _ _ hbw2 HCE.out.2.2.2.2.2.2.2.1; have g2 := HALL.out _ k3 _ _ _ hbw2 HCE.out.2.2.2.2.2.2.2.2.1; have g3 := HALL.out _ k3 _ _ _ hbw2 HCE.out.2.2.2.2.2.2.2.2.2; have K3 := Lib.hid k3; clear k3))
                clear p3 r3 e0 e1 e2' e3 g0 g1 g2 g3
                have hk3 : Keep (fun g => g < W0.heap.size) W0 w3 := HKP.out.1.trans ((⟨K3.out.os, K3.out.tape, K3.out.output, K3.out.size, K3.out.block⟩ : Keep (fun g => g < wr.heap.size) wr w3).less (fun g hg => Nat.lt_of_lt_of_le hg hzr))
                have HK3 := Lib.hid (And.intro hk3 (HF.out.2.trans (hk3.less (fun g hg => Nat.lt_of_lt_of_le hg HF.out.2.size))))
                clear hk3
                by_cases hr : r = 0
                · subst hr
                  have hz2 := HZK.out
                  rw [or2, if_pos rfl] at hz2
                  have HZ2 := Lib.hid hz2; clear hz2
                  go_wp2_with fail
                  go_roundw
                  case rel => exact ⟨k + 1, hlk, by go_num, HZ2.out, HK3.out.1⟩
                  case measure => simp [intOf]; omega
                · have hz2 := HZK.out
                  rw [or2, if_neg hr] at hz2
                  have HZ2 := Lib.hid hz2; clear hz2
                  have hrb : ((r : Int) != 0) = true := by simpa using hr
                  have HR0 := Lib.hid hr
                  clear hr
                  go_wp2_with fail
                  all_goals go_ret
                  all_goals exact ⟨by (rw [HZ2.out]; first | rfl | simp), HK3.out.2⟩
              · obtain rfl : k = n := by omega
                have hz0 : z = 0 := by
                  rw [hzk, List.drop_of_length_le (by rw [List.length_map, HNM.out.1]; exact Nat.le_refl _), List.drop_of_length_le (by rw [List.length_map, HNM.out.2]; exact Nat.le_refl _), cmpL]
                have HZ0 := Lib.hid hz0
                clear hzk hz0 hkp hkw
                go_wp2_with fail
                all_goals go_ret
                all_goals exact ⟨by (rw [HZ0.out]; first | rfl | simp), HKP.out.2⟩
          · have q4 : (sn.toList == sm.toList) = false := by
              rw [← HSN.out.1, ← HSN.out.2, ByteArray.toList_eq, ByteArray.toList_eq, str_data, str_data]; simpa using e3
            have q5 : ¬ sn.toList = sm.toList := by
              rw [← HSN.out.1, ← HSN.out.2, ByteArray.toList_eq, ByteArray.toList_eq, str_data, str_data]; exact e3
            have q6 : Op.bytesLess sn.toList sm.toList = decide (cmpB t.nm u.nm < 0) := by
              rw [← HSN.out.1, ← HSN.out.2, ByteArray.toList_eq, ByteArray.toList_eq, str_data, str_data]; exact less_is _ _
            have hne : cmpB t.nm u.nm ≠ 0 := fun e => e3 (cmpB_zero.1 e)
            have hfin2 : z = cmpB t.nm u.nm := by
              rw [hfin, cmpI_self, or2, if_pos rfl, or2, if_neg hne]
            have HF := Lib.hid hfin2
            rcases cmpB_vals t.nm u.nm with hv | hv | hv
            · rw [hv] at q6
              have q7 : Op.bytesLess sn.toList sm.toList = true := by rw [q6]; rfl
              have HV := Lib.hid hv
              clear e1 kt ku hfin hfin2 hk hku hv hne q6 e3
              go_enter Tryz.func34, Tryz.ntmps34
              go_wp2_with (go_at_call 43; refine (HS.out _ _ _).mono ?_; rintro e w1 ⟨rfl, rfl⟩)
              all_goals go_ret
              all_goals exact ⟨by (rw [HF.out, HV.out]; first | rfl | simp), HK.out⟩
            · exact absurd hv hne
            · rw [hv] at q6
              have q7 : Op.bytesLess sn.toList sm.toList = false := by rw [q6]; rfl
              have HV := Lib.hid hv
              clear e1 kt ku hfin hfin2 hk hku hv hne q6 e3
              go_enter Tryz.func34, Tryz.ntmps34
              go_wp2_with (go_at_call 43; refine (HS.out _ _ _).mono ?_; rintro e w1 ⟨rfl, rfl⟩)
              all_goals go_ret
              all_goals exact ⟨by (rw [HF.out, HV.out]; first | rfl | simp), HK.out⟩
        · have hfin2 : z = if (n : Int) < m then -1 else 1 := by
            rw [hfin]
            have h1 : cmpI (n : Int) (m : Int) = if (n : Int) < m then -1 else 1 := by
              unfold cmpI; split
              · rfl
              · rw [if_pos (by omega)]
            rw [h1, or2, if_neg (by split <;> decide)]
          have HF := Lib.hid hfin2
          have q5 : ((n : Int) != m) = true := by simp; omega
          have HE4 := Lib.hid e4
          clear e1 kt ku hfin hfin2 hk hku e4
          by_cases hlt : (n : Int) < m
          · go_enter Tryz.func34, Tryz.ntmps34
            go_wp2_with (go_at_call 43; refine (HS.out _ _ _).mono ?_; rintro e w1 ⟨rfl, rfl⟩)
            all_goals go_ret
            all_goals exact ⟨by (rw [HF.out]; first | (simp; omega) | (simp [hlt]; done) | (simp; done)), HK.out⟩
          · go_enter Tryz.func34, Tryz.ntmps34
            go_wp2_with (go_at_call 43; refine (HS.out _ _ _).mono ?_; rintro e w1 ⟨rfl, rfl⟩)
            all_goals go_ret
            all_goals exact ⟨by (rw [HF.out]; first | (simp; omega) | (simp [hlt]; done) | (simp; done)), HK.out⟩
  · have hfin : z = if t.k < u.k then -1 else 1 := by
      rw [HZ.out]
      rw [cmp_kinds (by rw [Tm.kind_k HOK.out.1, Tm.kind_k HOK.out.2]; exact e1), Tm.kind_k HOK.out.1, Tm.kind_k HOK.out.2]
    have HF := Lib.hid hfin
    have q1 : ((t.k : Int) != u.k) = true := by simpa using e1
    clear e1 kt ku hfin
    go_enter Tryz.func34, Tryz.ntmps34
    go_wp2_with (go_at_call 43; refine (HS.out _ _ _).mono ?_; rintro e w1 ⟨rfl, rfl⟩)
    all_goals go_ret
    all_goals exact ⟨by (rw [HF.out]; first | (simp; done) | (simp; omega) | (simp [*]; done) | (simp [*]; omega) | (simp; repeat' split; all_goals first | rfl | omega) | (simp; intros; (repeat' split); all_goals first | rfl | omega)), HK.out⟩
theorem refOrder_any (B : Nat) : ∀ t : Tm, t.ok = true → ∀ u : Tm, u.ok = true → RefO B t u := by
  intro t
  induction t using Tm.ind with
  | h kd nm i args ih =>
    intro ht u hu
    exact refOrder_step ht hu (fun h4 u4 x hx y hy => ih x hx ((Tm.ok_args ht h4).2.2.1 x hx) y ((Tm.ok_args hu u4).2.2.1 y hy))
set_option maxRecDepth 100000 in
set_option maxHeartbeats 4000000 in
theorem refSame_any {w : World} {t u : Tm} {a b : Option Addr} {c d : Nat} (hT : TmAt w.heap.size w t a c) (hU : TmAt w.heap.size w u b d) (ht : t.ok = true) (hu : u.ok = true) :
    Calls Tryz.prog 15 #[tv t a c, tv u b d] w fun e w' => e = .returned (.bool (t.tree.cmp u.tree == 0)) ∧ Keep (fun g => g < w.heap.size) w w' := by
  have k0 : Keep (fun g => g < w.heap.size) w ((w.alloc (tb t a c)).alloc (tb u b d)) := ((Keep.refl _ w).alloc _).alloc _
  have hc := refOrder_any w.heap.size t ht u hu ((w.alloc (tb t a c)).alloc (tb u b d)) a b c d (by simp; omega) (hT.keepX k0 (fun _ h => h)) (hU.keepX k0 (fun _ h => h))
  have HC := Lib.hid hc
  have HK := Lib.hid k0
  clear hc k0 hT hU
  unfold tv tb at HC
  unfold tb at HK
  unfold tv
  generalize t.tree.cmp u.tree = r at HC ⊢
  go_enter Tryz.func15, Tryz.ntmps15
  go_wp2_with fail
  refine HC.out.mono ?_
  rintro e w1 ⟨rfl, k1⟩
  have HE := Lib.hid (HK.out.onto k1)
  clear k1
  go_wp2_with fail
  go_ret
  exact ⟨rfl, HE.out⟩
end Go.Proofs.YtfkbbbjicaedmaaGreatDoor
namespace Go.Proofs.YtfkbbbjicaedmaaGreatDoor
open Go.RowKit Go.Maps
set_option linter.unusedVariables false
set_option linter.unusedSimpArgs false
abbrev RR : Tm := xC [102] [xV 1, xV 2, xV 1]
end Go.Proofs.YtfkbbbjicaedmaaGreatDoor
namespace Go.Proofs.YtfkbbbjicaedmaaGreatDoor
open Go.RowKit Go.Maps
set_option linter.unusedVariables false
set_option linter.unusedSimpArgs false
end Go.Proofs.YtfkbbbjicaedmaaGreatDoor
