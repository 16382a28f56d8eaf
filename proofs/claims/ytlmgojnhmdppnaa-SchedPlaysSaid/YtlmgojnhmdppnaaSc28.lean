/-
  SchedPlays, the walk. Conditions: the script's length.
-/
import Derived.Test.YtlmgojnhmdppnaaSc27
import Derived.Deep.RegionHeld3
namespace Go.Proofs.Ytlmgojnhmdppnaa
open Go.RowKit Go.Maps
set_option linter.unusedVariables false

structure PRel (w : World) (bm : Nat) (sa : Option Addr) (sc : Nat) (ka : Option Addr) (kc : Nat) (Z : ZS) (r : RS) (k : Nat) (wr : World) : Prop where
  zd : Zd wr (fun k => k < w.heap.size) w.heap.size Z
  mt : Mt Z r
  ra : RAt wr sa sc ka kc r
  box : Blk wr bm 82 (rc sa sc ka kc r)
  sp : Z.spawned ≤ k
  kp : Keep (fun k => k < w.heap.size) w wr
/-- All that was there, two blocks, and the memory of numbers. -/
def pnums (B b c : Nat) (w : World) : Nat → Prop := fun k => (k < B ∨ k = b ∨ k = c) ∨ ∃ cs, Blk w k 3 cs
theorem PRel.below {w wr wr' : World} {bm : Nat} {sa ka : Option Addr} {sc kc : Nat} {Z : ZS} {r : RS} {k : Nat} (h : PRel w bm sa sc ka kc Z r k wr) (hb : Below wr.heap.size wr wr') : PRel w bm sa sc ka kc Z r k wr' :=
  ⟨h.zd.below hb, h.mt, h.ra.keep (NumKeep.below hb), h.box.below hb h.box.lt, h.sp, h.kp.trans (Keep.ofBelow0 hb)⟩
theorem Zd.far {w : World} {B ps : Nat} {Z : ZS} {b : Nat} {t : TypeId} {cs : Array Value} (h : Zd w (fun k => k < B) ps Z) (hb : Blk w b t cs) (h1 : t ≠ 138) (h2 : t ≠ 145) : Zd w (fun k => k < B ∨ k = b) ps Z := by
  obtain ⟨v, h⟩ := h
  refine ⟨v, h.head, h.row, fun hy => ?_, fun g hg hy => ?_, h.ok⟩
  · rcases hy with hx | hx
    · exact h.nX hx
    · subst hx; exact hb.ne_ h.head h1 rfl
  · rcases hy with hx | hx
    · exact h.rX g hg hx
    · obtain ⟨cap, cur, _, hbk, _⟩ := zrow_ty h.row hg
      subst hx; exact hb.ne_ hbk h2 rfl
theorem step_sp1 (Z : ZS) (k t key : Int) : (Z.step k t key).spawned ≤ Z.spawned + 1 := by
  by_cases h1 : k = 1
  · subst h1
    show Z.spawn.spawned ≤ _
    unfold ZS.spawn; split
    · dsimp only; omega
    · omega
  · rw [step_sp Z k t key h1]; omega

theorem own_set {w : World} {base g n c : Nat} {L : List Int} (h : w.ownsRow base 3 1 (.slice (some ⟨g, 0, none⟩) n c) n (L.map (Value.int .i64))) {i : Nat} (x : Int) : (w.setCell ⟨g, i, none⟩ (.int .i64 x)).ownsRow base 3 1 (.slice (some ⟨g, 0, none⟩) n c) n ((L.set i x).map (Value.int .i64)) := by
  obtain ⟨h1, h2⟩ := h
  refine ⟨by simpa using h1, .inr ?_⟩
  rcases h2 with ⟨e, _⟩ | ⟨g', cap, cur, e, a1, a2, a3, a4, a5, a6⟩
  · injection e with e; cases e
  · injection e with e1 _ e2
    injection e1 with e1
    injection e1 with e1
    subst e1 e2
    refine ⟨g, c, _, rfl, a1, (show Blk w g 3 cur from a2).set_ i (.int .i64 x), a3, a4, by simpa using a5, ?_⟩
    rw [List.map_set, ← a6]
    simp only [Array.toList_setIfInBounds, List.take_set]
theorem own_cell {w : World} {base n c : Nat} {ar : Option Addr} {L : List Int} (h : w.ownsRow base 3 1 (.slice ar n c) n (L.map (Value.int .i64))) {i : Nat} (hi : i < n) : ∃ g x, ar = some ⟨g, 0, none⟩ ∧ base ≤ g ∧ g < w.heap.size ∧ w.cell? ⟨g, i, none⟩ = some (.int .i64 x) ∧ w.frozen? ⟨g, i, none⟩ = false := by
  rcases h.2 with ⟨e, h0⟩ | ⟨g, cap, cur, e, a1, a2, a3, a4, a5, a6⟩
  · omega
  · injection e with e1 _ e2
    subst e1 e2
    have hb : Blk w g 3 cur := a2
    have hl : L.length = n := by have := h.1; simpa using this
    refine ⟨g, L.getD i 0, rfl, a1, hb.lt, ?_, hb.frozen i⟩
    rw [h.cellAt i (by omega)]
    simp [List.getD, show i < L.length by omega]

set_option maxRecDepth 1000000 in
set_option maxHeartbeats 4000000 in
theorem plays_walk (most : Int) (a1 : Option Addr) (c1 len : Nat) (w : World) (hops : IsOps w a1 len) (hlen : len ≤ 5864062014805) :
    Calls Try.prog 8 #[.int .i64 most, .slice a1 len c1] w fun e w' => e = .returned (.bool true) ∧ Below w.heap.size w w' := by
  have HOPS := Lib.hid hops; clear hops
  go_enter Try.func8, Try.ntmps8
  go_wp2_with fail
  refine (new_sched most w (X := fun k => k < w.heap.size) (by omega)).mono ?_
  rintro e w1 ⟨rfl, a1', b1⟩
  have z1 := b1.size
  have K1 : Hid (Keep (fun k => k < w.heap.size) w w1) := Lib.hid (Keep.ofBelow0 b1)
  clear b1
  go_wp2_with fail
  refine (alive_any w1).mono ?_
  rintro e w2 ⟨rfl, b2⟩
  have z2 := b2.size
  have A2 := Lib.hid (a1'.below b2)
  have K2 : Hid (Keep (fun k => k < w.heap.size) w w2) := Lib.hid (K1.out.trans (Keep.ofBelow0 b2))
  clear b2 a1' K1
  go_wp2_with fail
  refine (rnew_any most w2).mono ?_
  rintro e w3 ⟨rfl, b3⟩
  have z3 := b3.size
  unfold rv
  have hrel0 : PRel w w3.heap.size none 0 none 0 ⟨min (max most 1) 8, 0, [], 0, 0⟩ ⟨[], [], min (max most 1) 8, 0, 0⟩ 0 (w3.alloc (.cells (rc none 0 none 0 ⟨[], [], min (max most 1) 8, 0, 0⟩) 82)) :=
    ⟨(A2.out.below b3).alloc _, Mt.new _, ⟨World.ownsRow_nil _ _ _ _, World.ownsRow_nil _ _ _ _⟩, Blk.new _ _ _, Int.le_refl _, (K2.out.trans (Keep.ofBelow0 b3)).alloc _⟩
  have HREL0 := Lib.hid hrel0; clear hrel0 b3 A2 K2
  unfold rc at HREL0
  generalize min (max most 1) 8 = M at HREL0 ⊢
  have hbm : w.heap.size ≤ w3.heap.size := by omega
  go_wp2_with fail
  generalize w3.heap.size = bm at HREL0 hbm ⊢
  go_loopw [27] (fun i wr => ∃ (k : Nat) (sa ka : Option Addr) (sc kc : Nat) (Z : ZS) (r : RS), k ≤ len ∧ i = .int .i64 k ∧ PRel w bm sa sc ka kc Z r k wr) (fun i _ => len - (intOf i).toNat)
  case atStart => exact ⟨0, none, none, 0, 0, _, _, by omega, rfl, HREL0.out⟩
  case round =>
    clear HREL0
    obtain ⟨k, sa, ka, sc, kc, Z, r, hk, rfl, hrel⟩ := hrel
    have zr := hrel.kp.size
    by_cases hlt : k < len
    · obtain ⟨b, off, kd, t, ky, rfl, hb, d0, d1, d2⟩ := (HOPS.out.keep (hrel.kp.toBelow (fun _ hk => hk) (Nat.le_refl _))) k hlt
      have hbr := hrel.box.lt
      obtain ⟨e1, e2⟩ := hrel.mt.step hrel.zd.ok kd t ky
      have hrl : r.st.length ≤ 5864062014805 := by have := hrel.mt.len; have := hrel.sp; omega
      have hR1 := hrel.below ((Below.refl _ _).alloc (Nat.le_refl _) (Obj.cells #[.int .i64 kd, .int .i64 t, .int .i64 ky] 85))
      have hbo := Blk.new wr 85 #[.int .i64 kd, .int .i64 t, .int .i64 ky]
      have hxz : Zd (wr.alloc (Obj.cells #[.int .i64 kd, .int .i64 t, .int .i64 ky] 85)) (pnums w.heap.size bm wr.heap.size (wr.alloc (Obj.cells #[.int .i64 kd, .int .i64 t, .int .i64 ky] 85))) w.heap.size Z := by
        have z1 := hrel.zd.far hrel.box (by decide) (by decide)
        exact ((z1.less (Y := fun k => k < w.heap.size ∨ k = bm ∨ k = wr.heap.size) (fun k hk h => by rcases h with h | h | h; exact .inl h; exact .inr h; omega)).alloc _).more (fun k h => h)
      have hc := does_any hxz (fun k hk h => by
        simp only [World.size_alloc] at hk
        rcases h with (h | h | h) | ⟨cs, h⟩
        · omega
        · omega
        · omega
        · have := h.lt; simp at this; omega) (fun g cs hb => .inr ⟨cs, hb⟩) hR1.ra (by omega) kd t ky (by have := hrel.sp; omega)
      rw [e2] at hc
      have hspn : (Z.step kd t ky).spawned ≤ ((k + 1 : Nat) : Int) := by have := step_sp1 Z kd t ky; have := hrel.sp; omega
      obtain ⟨c0, c1', c2, c3, c4, _⟩ := hR1.box.five
      have hB1 := hR1.box
      have hK1 := hR1.kp
      have HK1 := Lib.hid hK1; clear hK1
      have HB1 := Lib.hid hB1; clear hB1
      have HBO := Lib.hid hbo; clear hbo
      have HSPN := Lib.hid hspn; clear hspn
      have hm1 := e1
      clear e1 e2 hR1 hxz hrel
      generalize Z.step kd t ky = Z1 at hc hm1 HSPN
      have hrl1 : (r.step kd t ky).st.length ≤ 5864062014805 := by have := hm1.len; have := HSPN.out; omega
      unfold rv at hc
      generalize r.step kd t ky = r1 at hc hm1 hrl1
      have HC := Lib.hid hc; clear hc
      have HM1 := Lib.hid hm1; clear hm1
      unfold rc at HB1
      go_wp2_with fail
      refine HC.out.mono ?_
      rintro e w4 ⟨sa1, sc1, ka1, kc1, rfl, hE⟩
      have hb4 := HB1.out.keep hE.kp (.inl (.inr (.inl rfl)))
      have ho4 := HBO.out.keep hE.kp (.inl (.inr (.inr rfl)))
      have hz4 := hE.kp.size
      simp only [World.size_alloc] at hz4
      have hk4 : Keep (fun k => k < w.heap.size) w w4 := HK1.out.trans (hE.kp.less (fun k h => .inl (.inl h)))
      have hd4 : Zd w4 (fun k => k < w.heap.size) w.heap.size Z1 := hE.zd.less (fun k _ h => .inl (.inl h))
      have hr4 := hE.ra
      obtain ⟨g0, g1, g2, g3, g4, f0, f1, f2, f3, f4⟩ := hb4.five
      have hbl4 : bm < w4.heap.size := by omega
      have hol4 : wr.heap.size < w4.heap.size := by omega
      have hne : bm ≠ wr.heap.size := by omega
      clear hE HC HB1 HBO HK1 c0 c1' c2 c3 c4 d0 d1 d2
      have hP5 : PRel w bm sa1 sc1 ka1 kc1 Z1 r1 (k + 1) ((set5 w4 bm (.slice sa1 r1.st.length sc1) (.slice ka1 r1.st.length kc1) (.int .i64 r1.most) (.int .i64 r1.good) (.int .i64 r1.bad)).alloc (.cells (rc sa1 sc1 ka1 kc1 r1) 82)) := by
        have hkx : Keep (fun k => k < w.heap.size) w (set5 w4 bm (.slice sa1 r1.st.length sc1) (.slice ka1 r1.st.length kc1) (.int .i64 r1.most) (.int .i64 r1.good) (.int .i64 r1.bad)) := by
          unfold set5
          exact ((((hk4.setCell (p := ⟨bm, 0, none⟩) (by show ¬ bm < w.heap.size; omega) _).setCell (p := ⟨bm, 1, none⟩) (by show ¬ bm < w.heap.size; omega) _).setCell (p := ⟨bm, 2, none⟩) (by show ¬ bm < w.heap.size; omega) _).setCell (p := ⟨bm, 3, none⟩) (by show ¬ bm < w.heap.size; omega) _).setCell (p := ⟨bm, 4, none⟩) (by show ¬ bm < w.heap.size; omega) _
        have hzx : Zd (set5 w4 bm (.slice sa1 r1.st.length sc1) (.slice ka1 r1.st.length kc1) (.int .i64 r1.most) (.int .i64 r1.good) (.int .i64 r1.bad)) (fun k => k < w.heap.size ∨ k = bm) w.heap.size Z1 := by
          have hz := hd4.far hb4 (by decide) (by decide)
          unfold set5
          exact ((((hz.setCell (p := ⟨bm, 0, none⟩) (.inr rfl) _).setCell (p := ⟨bm, 1, none⟩) (.inr rfl) _).setCell (p := ⟨bm, 2, none⟩) (.inr rfl) _).setCell (p := ⟨bm, 3, none⟩) (.inr rfl) _).setCell (p := ⟨bm, 4, none⟩) (.inr rfl) _
        exact ⟨(hzx.less (fun k _ h => .inl h)).alloc _, HM1.out, (hr4.keep (set5_num hb4 (by decide) _ _ _ _ _)).keep (NumKeep.below ((Below.refl _ _).alloc (Nat.le_refl _) _)), (set5_blk hb4 _ _ _ _ _).alloc _, HSPN.out, hkx.alloc _⟩
      have hO5 : Blk ((set5 w4 bm (.slice sa1 r1.st.length sc1) (.slice ka1 r1.st.length kc1) (.int .i64 r1.most) (.int .i64 r1.good) (.int .i64 r1.bad)).alloc (.cells (rc sa1 sc1 ka1 kc1 r1) 82)) wr.heap.size 85 #[.int .i64 kd, .int .i64 t, .int .i64 ky] := (set5_far ho4 (by omega) _ _ _ _ _).alloc _
      have HP5 := Lib.hid hP5; clear hP5
      have HO5 := Lib.hid hO5; clear hO5
      clear hb4 ho4 hk4 hd4 hr4
      generalize wr.heap.size = bo at HO5 hol4 hne ⊢
      unfold set5 rc at HP5 HO5
      go_wp2_with fail
      generalize (((((w4.setCell ⟨bm, 0, none⟩ (.slice sa1 r1.st.length sc1)).setCell ⟨bm, 1, none⟩ (.slice ka1 r1.st.length kc1)).setCell ⟨bm, 2, none⟩ (.int .i64 r1.most)).setCell ⟨bm, 3, none⟩ (.int .i64 r1.good)).setCell ⟨bm, 4, none⟩ (.int .i64 r1.bad)).alloc _ = w5 at HP5 HO5 ⊢
      have hcn := counts_any HP5.out.zd
      rw [← HM1.out.good, ← HM1.out.bad] at hcn
      have HCN := Lib.hid hcn; clear hcn
      clear g0 g1 g2 g3 g4 f0 f1 f2 f3 f4 hbl4 hol4
      refine HCN.out.mono ?_
      rintro e w5' ⟨rfl, q, rfl⟩
      have hP6 : PRel w bm sa1 sc1 ka1 kc1 Z1 r1 (k + 1) (w5.drewN q) :=
        ⟨HP5.out.zd.keep (Y := fun _ => True) (Keep.drewN _ w5 q) (fun _ _ => trivial), HP5.out.mt, HP5.out.ra.keep ⟨Nat.le_refl _, fun _ _ h => h⟩, HP5.out.box, HP5.out.sp, HP5.out.kp.trans (Keep.drewN _ w5 q)⟩
      have hO6 : Blk (w5.drewN q) bo 85 #[.int .i64 kd, .int .i64 t, .int .i64 ky] := HO5.out
      generalize w5.drewN q = w5q at hP6 hO6 ⊢
      have hrd := ready_any hP6.zd
      have HRD := Lib.hid hrd; clear hrd
      have HP6 := Lib.hid hP6; clear hP6
      have HO6 := Lib.hid hO6; clear hO6
      clear HP5 HO5 HCN
      go_wp2_with fail
      refine HRD.out.mono ?_
      rintro e w6 ⟨u6, rfl, b6, o6⟩
      have hP7 := HP6.out.below b6
      have hO7 := HO6.out.below b6 HO6.out.lt
      have hR8 : (readyT Z1.ths).length ≤ 8 := by
        have := hP7.zd.ok.eight
        unfold readyT; rw [List.length_map]; exact Nat.le_trans (List.length_filter_le _ _) this
      obtain ⟨ar, cr, rfl, hio⟩ := own_ints o6
      have HB6 := Lib.hid b6; clear b6
      have hbm6 : bm < w6.heap.size := hP7.box.lt
      have hbo6 : bo < w6.heap.size := hO7.lt
      obtain ⟨g0, g1, g2, g3, g4, _⟩ := hP7.box.five
      obtain ⟨y0, y1, y2⟩ := hO7.three
      have HCELL : Hid (∀ W, Below w6.heap.size w6 W → Hid (Below w6.heap.size w6 W) ∧ W.cell? ⟨bm, 0, none⟩ = some (.slice sa1 r1.st.length sc1) ∧ W.cell? ⟨bm, 1, none⟩ = some (.slice ka1 r1.st.length kc1) ∧ W.cell? ⟨bm, 2, none⟩ = some (.int .i64 r1.most) ∧ W.cell? ⟨bm, 3, none⟩ = some (.int .i64 r1.good) ∧ W.cell? ⟨bm, 4, none⟩ = some (.int .i64 r1.bad) ∧ W.cell? ⟨bo, 1, none⟩ = some (.int .i64 t)) := Lib.hid (fun W hb => by
        have hbx := hP7.box.below hb hP7.box.lt
        have hox := hO7.below hb hO7.lt
        obtain ⟨a0, a1, a2, a3, a4, _⟩ := hbx.five
        obtain ⟨_, b1, _⟩ := hox.three
        exact ⟨Lib.hid hb, a0, a1, a2, a3, a4, b1⟩)
      have hat := hP7.mt.at_ hP7.zd.ok.ris t
      have CST : Hid (∀ W, Hid (Below w6.heap.size w6 W) → Calls Try.prog 45 #[.pointer (some ⟨w.heap.size, 0, none⟩), .int .i64 t] W fun e w' => e = .returned (.int .i64 (r1.at_ t)) ∧ Hid (Below w6.heap.size w6 w') ∧ w'.cell? ⟨bm, 0, none⟩ = some (.slice sa1 r1.st.length sc1) ∧ w'.cell? ⟨bm, 1, none⟩ = some (.slice ka1 r1.st.length kc1) ∧ w'.cell? ⟨bm, 2, none⟩ = some (.int .i64 r1.most) ∧ w'.cell? ⟨bm, 3, none⟩ = some (.int .i64 r1.good) ∧ w'.cell? ⟨bm, 4, none⟩ = some (.int .i64 r1.bad) ∧ w'.cell? ⟨bo, 1, none⟩ = some (.int .i64 t)) := Lib.hid (fun W hb => (state_any (hP7.zd.below hb.out) t).mono (by
        rintro e w' ⟨rfl, hb'⟩
        exact ⟨by rw [hat], HCELL.out _ (hb.out.trans (hb'.mono hb.out.size))⟩))
      have CRS : Hid (∀ W, Hid (Below w6.heap.size w6 W) → Calls Try.prog 46 #[rv sa1 sc1 ka1 kc1 r1, .int .i64 t] W fun e w' => e = .returned (.int .i64 (r1.at_ t)) ∧ Hid (Below w6.heap.size w6 w') ∧ w'.cell? ⟨bm, 0, none⟩ = some (.slice sa1 r1.st.length sc1) ∧ w'.cell? ⟨bm, 1, none⟩ = some (.slice ka1 r1.st.length kc1) ∧ w'.cell? ⟨bm, 2, none⟩ = some (.int .i64 r1.most) ∧ w'.cell? ⟨bm, 3, none⟩ = some (.int .i64 r1.good) ∧ w'.cell? ⟨bm, 4, none⟩ = some (.int .i64 r1.bad) ∧ w'.cell? ⟨bo, 1, none⟩ = some (.int .i64 t)) := Lib.hid (fun W hb => (rstate_any (hP7.ra.keep (NumKeep.below hb.out)) (by omega) t).mono (by
        rintro e w' ⟨rfl, hb'⟩
        exact ⟨rfl, HCELL.out _ (hb.out.trans (hb'.mono hb.out.size))⟩))
      have CRR : Hid (∀ W, Hid (Below w6.heap.size w6 W) → Calls Try.prog 48 #[rv sa1 sc1 ka1 kc1 r1] W fun e w' => (∃ a7 c7, e = .returned (.slice a7 (readyT Z1.ths).length c7) ∧ Hid (IntsAt w' a7 (readyT Z1.ths))) ∧ Hid (Below w6.heap.size w6 w') ∧ w'.cell? ⟨bm, 0, none⟩ = some (.slice sa1 r1.st.length sc1) ∧ w'.cell? ⟨bm, 1, none⟩ = some (.slice ka1 r1.st.length kc1) ∧ w'.cell? ⟨bm, 2, none⟩ = some (.int .i64 r1.most) ∧ w'.cell? ⟨bm, 3, none⟩ = some (.int .i64 r1.good) ∧ w'.cell? ⟨bm, 4, none⟩ = some (.int .i64 r1.bad) ∧ w'.cell? ⟨bo, 1, none⟩ = some (.int .i64 t)) := Lib.hid (fun W hb => (rready_any (hP7.ra.keep (NumKeep.below hb.out)) (by omega)).mono (by
        rintro e w' ⟨u, rfl, hb', ho⟩
        rw [hP7.mt.ready hP7.zd.ok.ris] at ho
        obtain ⟨a7, c7, rfl, hi7⟩ := own_ints ho
        exact ⟨⟨a7, c7, rfl, Lib.hid hi7⟩, HCELL.out _ (hb.out.trans (hb'.mono hb.out.size))⟩))
      have CSM : Hid (∀ W a7 c7, Hid (Below w6.heap.size w6 W) → Hid (IntsAt W a7 (readyT Z1.ths)) → Calls Try.prog 47 #[.slice ar (readyT Z1.ths).length cr, .slice a7 (readyT Z1.ths).length c7] W fun e w' => e = .returned (.bool true) ∧ Hid (Below w6.heap.size w6 w') ∧ w'.cell? ⟨bm, 0, none⟩ = some (.slice sa1 r1.st.length sc1) ∧ w'.cell? ⟨bm, 1, none⟩ = some (.slice ka1 r1.st.length kc1) ∧ w'.cell? ⟨bm, 2, none⟩ = some (.int .i64 r1.most) ∧ w'.cell? ⟨bm, 3, none⟩ = some (.int .i64 r1.good) ∧ w'.cell? ⟨bm, 4, none⟩ = some (.int .i64 r1.bad) ∧ w'.cell? ⟨bo, 1, none⟩ = some (.int .i64 t)) := Lib.hid (fun W a7 c7 hb hi => (same_any (hio.below hb.out) hi.out (by omega)).mono (by
        rintro e w' ⟨rfl, q, rfl⟩
        exact ⟨rfl, HCELL.out _ ⟨hb.out.os, hb.out.tape, hb.out.output, hb.out.size, hb.out.block⟩⟩))
      have HP7 := Lib.hid hP7; clear hP7
      have O6 := Lib.hid o6; clear o6 hio hO7 hat
      have hG : (r1.good != r1.good) = false := by simp
      have hD : (r1.bad != r1.bad) = false := by simp
      have hA : (r1.at_ t != r1.at_ t) = false := by simp
      have HBB : Hid (Below w6.heap.size w6 w6) := Lib.hid (Below.refl _ _)
      have HBD : Hid (Below w6.heap.size w6 w6.drew) := Lib.hid (Below.refl _ _).drew
      unfold rv at CRS CRR
      generalize r1.at_ t = x at CST CRS hA
      generalize readyT Z1.ths = R at *
      clear HRD HO6 HCELL y0 y2
      go_wp2_with fail
      go_region_held3 (fun w' => Hid (Below w6.heap.size w6 w') ∧ w'.cell? ⟨bm, 0, none⟩ = some (.slice sa1 r1.st.length sc1) ∧ w'.cell? ⟨bm, 1, none⟩ = some (.slice ka1 r1.st.length kc1) ∧ w'.cell? ⟨bm, 2, none⟩ = some (.int .i64 r1.most) ∧ w'.cell? ⟨bm, 3, none⟩ = some (.int .i64 r1.good) ∧ w'.cell? ⟨bm, 4, none⟩ = some (.int .i64 r1.bad) ∧ w'.cell? ⟨bo, 1, none⟩ = some (.int .i64 t)) (go_keep)
        (first
          | (go_at_call 45; refine (CST.out _ ?_).mono ?_; (simp [*]); rintro e w7 ⟨rfl, k0, k1, k2, k3, k4, k5, k6⟩)
          | (go_at_call 46; refine (CRS.out _ ?_).mono ?_; (simp [*]); rintro e w7 ⟨rfl, k0, k1, k2, k3, k4, k5, k6⟩)
          | (go_at_call 48; refine (CRR.out _ ?_).mono ?_; (simp [*]); rintro e w7 ⟨⟨a7, c7, rfl, i7⟩, k0, k1, k2, k3, k4, k5, k6⟩)
          | (go_at_call 47; refine (CSM.out _ _ _ ?_ ?_).mono ?_; (simp [*]); (simp [*]); rintro e w7 ⟨rfl, k0, k1, k2, k3, k4, k5, k6⟩))
      have hb7 : Below w5q.heap.size w5q w7 := HB6.out.trans (k0.out.mono HB6.out.size)
      have ho7 := own_below O6.out k0.out
      have HB7 := Lib.hid hb7; clear hb7
      have HO7 := Lib.hid ho7; clear ho7
      have hz7 := HB7.out.size
      clear CST CRS CRR CSM
      go_wp2_with fail
      go_loopw [80] (fun i wq => ∃ (j : Nat) (L : List Int), j ≤ R.length ∧ i = .int .i64 j ∧ Below w5q.heap.size w5q wq ∧ wq.ownsRow w5q.heap.size 3 1 (.slice ar R.length cr) R.length (L.map (Value.int .i64))) (fun i _ => R.length - (intOf i).toNat)
      case atStart => exact ⟨0, R, by omega, rfl, HB7.out, HO7.out⟩
      case round =>
        obtain ⟨j, L, hj, rfl, hbq, hoq⟩ := hrel
        by_cases hjl : j < R.length
        · obtain ⟨gq, xq, rfl, hgB, hgl, hcq, hfq⟩ := own_cell hoq hjl
          have hon := own_set hoq (i := j) (-1)
          have hbn : Below w5q.heap.size w5q (wr.setCell ⟨gq, j, none⟩ (.int .i64 (-1))) := below_set hbq hgB
          have HON := Lib.hid hon; clear hon
          have HBN := Lib.hid hbn; clear hbn
          clear hbq hoq
          go_wp2_with fail
          go_roundw
          case rel => exact ⟨j + 1, _, by omega, by go_num, HBN.out, HON.out⟩
          case measure => simp [intOf]; omega
        · have hpn := HP6.out.below hbq
          have HPN := Lib.hid hpn; clear hpn
          go_wp2_with fail
          go_roundw
          case rel => exact ⟨k + 1, sa1, ka1, sc1, kc1, Z1, r1, by omega, by go_num, HPN.out⟩
          case measure => simp [intOf]; omega
    · go_wp2_with fail
      go_ret
      exact ⟨rfl, hrel.kp.toBelow (fun _ hk => hk) (Nat.le_refl _)⟩
end Go.Proofs.Ytlmgojnhmdppnaa
