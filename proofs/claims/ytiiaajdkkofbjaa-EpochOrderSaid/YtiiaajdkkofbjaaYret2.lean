/-
  The contract of package epoch's Retire where the block is live: refused for want of room, or it waits. Conditions: the yard stands for a plain state; fewer than 2^62 moments have gone.
-/
import Derived.Test.YtiiaajdkkofbjaaYret
import Derived.Deep.RegionHeld3
import Derived.Deep.AppendLies
namespace Go.Proofs.Ytiiaajdkkofbjaa
open Go.RowKit Go.Maps
set_option linter.unusedVariables false

theorem Yd.drewN {w : World} {X : Nat → Prop} {pa py : Nat} {Y : YS} {S : AS} (h : Yd w X pa py Y S) (n : Nat) : Yd (w.drewN n) X pa py Y S := h.below ⟨rfl, rfl, rfl, Nat.le_refl _, fun _ _ => rfl⟩

set_option maxHeartbeats 4000000 in
theorem ret_limbo {w : World} {X : Nat → Prop} {pa py : Nat} {v : Value} {Y : YS} {S : AS} (h : YAt w X pa py v Y S) (hX : ∀ k, w.heap.size ≤ k → ¬ X k) (t b : Int) (hwb : (ik b).wf = true) (ht : Y.isT t = true) (hw : waits Y.wt b = false) {cs : List Int} (hl : look S.bl b = some cs) (hlim : Y.bound ≤ lim Y.sweepAt.wt t) :
    Calls Try.prog 28 #[.pointer (some ⟨py, 0, none⟩), .int .i64 t, .int .i64 b] w fun e w' => e = .returned (.int .i64 43) ∧ Yd w' X pa py Y.sweepAt (S.sweepAt Y) ∧ Keep X w w' := by
  have hmf : ∀ (fn : Fn) (first cap : Array Value) (w : World), (Instr.makeFunc fn first cap).run Try.prog w = .ok (.func fn first cap) w := fun _ _ _ _ => rfl
  have h1 := (h.less (Z := fun k => X k ∨ k = w.heap.size) (fun k hk hz => by rcases hz with hz | hz; exact hz; omega)).alloc (Obj.cells #[.int .i64 b] 3)
  have hi := isT_any h1 t
  rw [ht] at hi
  obtain ⟨a, cap, hv, _, _, hr⟩ := row_wts h1.row
  have hp := h.head.lt
  have c13 := h.cells.2.2.2.2.1
  rw [hv] at c13
  have hc := hasEq_any (cap := cap) b (Blk.new w 3 #[.int .i64 b]) hr h.ok.few
  rw [hw] at hc
  have HI := Lib.hid hi; clear hi
  have HC := Lib.hid hc; clear hc
  have HV := Lib.hid hv; clear hv
  have HH := Lib.hid h1; clear h1
  have HL := Lib.hid hl; clear hl
  have HWB := Lib.hid hwb; clear hwb
  have HX := Lib.hid hX; clear hX
  clear h ht hr hw
  go_enter Try.func28, Try.ntmps28
  go_wp2_with fail
  refine HI.out.mono ?_
  rintro e w1 ⟨rfl, rfl⟩
  go_wp2_with fail
  refine HC.out.mono ?_
  rintro e w1 ⟨rfl, hb⟩
  have h2 := HH.out.below hb
  have hB := (Blk.new w 3 #[.int .i64 b]).below hb (by simp)
  have cb := hB.cell 0
  have c0 := h2.cells.1
  have hz := hb.size
  simp at cb hz
  have HB := Lib.hid hB; clear hB
  have HK := Lib.hid ((Keep.ofBelow' (X := X) ((Below.refl w.heap.size w).alloc (Nat.le_refl _) (Obj.cells #[.int .i64 b] 3))).trans (Keep.ofBelow' hb))
  have HS := Lib.hid (fun q => size_hit (h2.below (w' := w1.drewN q) ⟨rfl, rfl, rfl, Nat.le_refl _, fun _ _ => rfl⟩).ar HWB.out HL.out)
  have HSW := Lib.hid (fun q => sweep_any (Yd.drewN ⟨v, h2⟩ q) (fun k hk hx => by
    have hk' : w1.heap.size ≤ k := hk
    rcases hx with hx | hx
    · exact HX.out k (by omega) hx
    · omega))
  clear c13 hb h2
  go_wp2
  go_quiet ((go_at_call 30; exact Calls.quiet_of_same ((HS.out _).mono fun _ _ hh => ⟨hh.1, hh.2.symm⟩)))
  go_wp2_with fail
  refine (HSW.out _).mono ?_
  rintro e w3 ⟨rfl, h3, hk3⟩
  have HB3 := Lib.hid (HB.out.keep (X := fun k => X k ∨ k = w.heap.size) ((Keep.refl _ w1).trans (w'' := w3) ⟨hk3.os, hk3.tape, hk3.output, hk3.size, hk3.block⟩) (.inr rfl))
  have HK3 := Lib.hid (HK.out.trans (Keep.less (Y := X) (w := w1) (w' := w3) ⟨hk3.os, hk3.tape, hk3.output, hk3.size, hk3.block⟩ (fun _ hk => .inl hk)))
  have hz3 : w1.heap.size ≤ w3.heap.size := hk3.size
  clear hk3 HS HSW HH HC HI HB HK cb c0
  have hl3 := limbo_any h3.drew t
  have H3 := Lib.hid h3; clear h3
  have HL3 := Lib.hid hl3; clear hl3
  obtain ⟨v3, hv3⟩ := H3.out
  have k2 := hv3.cells.2.2.1
  have hy3 := hv3.head.lt
  have hbd : Y.sweepAt.bound = Y.bound := rfl
  rw [hbd] at k2
  clear hbd
  have HV3 := Lib.hid hv3.head.drew; clear hv3
  generalize hlm : lim Y.sweepAt.wt t = lm at *
  clear hlm
  go_wp2
  go_region_with (go_at_call 29; refine HL3.out.mono ?_; rintro e w4 ⟨rfl, hb4⟩; have HB4 := Lib.hid hb4; have k4 := (HV3.out.below hb4 hy3).cell 2; clear hb4; simp [yc, YS.sweepAt] at k4)
  all_goals
    go_wp2
    go_ret
    exact ⟨rfl, (H3.out.drew.below HB4.out).less (fun k _ hk => .inl hk), HK3.out.trans ((Keep.refl _ w3).drew.trans (Keep.ofBelow' HB4.out))⟩

theorem info103 : (Try.prog.info? 103).map (fun i => (i.zero, i.size, i.bytes)) = some (some (.agg #[.int .i64 0, .int .i64 0, .int .i64 0]), 3, 24) := by kernel_rfl

/-- The world at the append. -/
def atApp (w : World) (py : Nat) (b t n : Int) : World := (w.drew.setCell ⟨py, 3, none⟩ (.int .i64 n)).alloc (.cells #[.int .i64 b, .int .i64 t, .int .i64 n] 103)
theorem ret_end {w : World} {X : Nat → Prop} {pa py : Nat} {v : Value} {Y : YS} {S : AS} (h : YAt w X pa py v Y S) (hX : ∀ k, w.heap.size ≤ k → ¬ X k) (t b : Int) (hwb : (ik b).wf = true) (ht : 1 ≤ t ∧ t ≤ 8) (hlim : lim Y.wt t < Y.bound) :
    (atApp w py b t (Y.now + 1)).ownsRow 0 103 3 v Y.wt.length (flat Y.wt) ∧
    ∀ g cap w6, w6.ownsRow 0 103 3 (.slice (some ⟨g, 0, none⟩) (Y.wt.length + 1) cap) (Y.wt.length + 1) (flat Y.wt ++ [.int .i64 b, .int .i64 t, .int .i64 (Y.now + 1)]) → (atApp w py b t (Y.now + 1)).grownBy w6 v.ownBlock → (v.ownBlock = some g ∨ g = (atApp w py b t (Y.now + 1)).heap.size) →
      w6.cell? ⟨py, 13, none⟩ = some v ∧ w6.frozen? ⟨py, 13, none⟩ = false ∧
      Yd (w6.setCell ⟨py, 13, none⟩ (.slice (some ⟨g, 0, none⟩) (Y.wt.length + 1) cap)) X pa py { Y with now := Y.now + 1, wt := Y.wt ++ [⟨b, t, Y.now + 1⟩] } S ∧ Keep X w (w6.setCell ⟨py, 13, none⟩ (.slice (some ⟨g, 0, none⟩) (Y.wt.length + 1) cap)) := by
  have hn0 := h.ok.now0
  have hW : YAt (atApp w py b t (Y.now + 1)) X pa py v { Y with now := Y.now + 1 } S := (h.drew.tickSet (Y.now + 1) (by omega)).alloc _
  have hKW : Keep X w (atApp w py b t (Y.now + 1)) := (((Keep.refl X w).drew).setCell h.nX _).alloc _
  have hsz : w.heap.size + 1 = (atApp w py b t (Y.now + 1)).heap.size := by unfold atApp; simp [World.setCell]
  refine ⟨hW.row, fun g cap w6 hown hgr hat => ?_⟩
  have hk : Keep (fun k => some k ≠ v.ownBlock) (atApp w py b t (Y.now + 1)) w6 := ⟨hgr.os, hgr.tape, hgr.output, hgr.size, fun k hk hn => hgr.block k hk hn⟩
  have hpyv : some py ≠ v.ownBlock := fun e => (hW.row_py e.symm) rfl
  have hhead := hW.head.keep hk hpyv
  have har : Arena w6 (fun k => (X k ∨ k = py ∨ v.ownBlock = some k) ∨ k = (atApp w py b t (Y.now + 1)).heap.size) pa S :=
    (hW.ar.less (fun k hk hz => by rcases hz with hz | hz; exact hz; omega)).keep hk (fun k hn e => hn (.inl (.inr (.inr e.symm))))
  have hgpy : g ≠ py := by
    rintro rfl
    rcases hat with e | e
    · exact hpyv e.symm
    · have := hW.head.lt; omega
  refine ⟨?_, hhead.frozen 13, ⟨.slice (some ⟨g, 0, none⟩) (Y.wt.length + 1) cap, (har.setCell (p := ⟨py, 13, none⟩) (.inl (.inr (.inl rfl))) _).less ?_, ?_, ownsRow_keep (w := w6) ?_ ?_, h.nX, ?_, ?_⟩, ?_⟩
  · rw [hhead.cell]; rfl
  · intro k _ hz
    rcases hz with hz | hz | hz
    · exact .inl (.inl hz)
    · exact .inl (.inr (.inl hz))
    · simp only [Value.ownBlock, Option.some.injEq] at hz
      subst hz
      rcases hat with e | e
      · exact .inl (.inr (.inr e))
      · exact .inr e
  · have := hhead.set_ 13 (.slice (some ⟨g, 0, none⟩) (Y.wt.length + 1) cap)
    simpa [yc] using this
  · have e : (Y.wt ++ [(⟨b, t, Y.now + 1⟩ : Wt)]).length = Y.wt.length + 1 := by simp
    show w6.ownsRow 0 _ 3 _ (Y.wt ++ [(⟨b, t, Y.now + 1⟩ : Wt)]).length (flat (Y.wt ++ [(⟨b, t, Y.now + 1⟩ : Wt)]))
    rw [e, flat_append]
    exact hown
  · intro k hk
    simp only [Value.ownBlock, Option.some.injEq] at hk
    subst hk
    exact Below.heap_setCell _ _ _ _ hgpy
  · intro k hk
    simp only [Value.ownBlock, Option.some.injEq] at hk
    subst hk
    rcases hat with e | e
    · exact h.rX _ e
    · exact hX _ (by omega)
  · refine ⟨h.ok.th1, h.ok.th8, h.ok.bd0, h.ok.bd64, by show 0 ≤ Y.now + 1; omega, h.ok.len, ?_, ?_, ?_⟩
    · intro r hr
      rcases List.mem_append.1 hr with hr | hr
      · exact h.ok.wf r hr
      · rw [List.mem_singleton] at hr; subst hr; exact hwb
    · intro r hr
      rcases List.mem_append.1 hr with hr | hr
      · exact h.ok.thr r hr
      · rw [List.mem_singleton] at hr; subst hr; exact ht
    · intro s
      show (lim (Y.wt ++ [(⟨b, t, Y.now + 1⟩ : Wt)]) s : Int) ≤ Y.bound
      have e : lim (Y.wt ++ [(⟨b, t, Y.now + 1⟩ : Wt)]) s = lim Y.wt s + if t = s then 1 else 0 := by
        unfold lim
        by_cases hts : t = s <;> simp [hts]
      have := h.ok.lims s
      rw [e]
      by_cases hts : t = s
      · subst hts; simp; omega
      · simp [hts]; omega
  · exact (hKW.trans (hk.less (fun k hk e => h.rX k e.symm hk))).setCell h.nX _

set_option maxRecDepth 100000 in
set_option maxHeartbeats 4000000 in
theorem ret_ok {w : World} {X : Nat → Prop} {pa py : Nat} {v : Value} {Y : YS} {S : AS} (h : YAt w X pa py v Y S) (hn : Y.now < 4611686018427387904) (hX : ∀ k, w.heap.size ≤ k → ¬ X k) (t b : Int) (hwb : (ik b).wf = true) (ht : Y.isT t = true) (hw : waits Y.wt b = false) {cs : List Int} (hl : look S.bl b = some cs) (hlim : lim Y.sweepAt.wt t < Y.bound) :
    Calls Try.prog 28 #[.pointer (some ⟨py, 0, none⟩), .int .i64 t, .int .i64 b] w fun e w' => e = .returned (.int .i64 0) ∧ Yd w' X pa py { Y.sweepAt with now := Y.now + 1, wt := Y.sweepAt.wt ++ [⟨b, t, Y.now + 1⟩] } (S.sweepAt Y) ∧ Keep X w w' := by
  have HT8 : Hid (1 ≤ t ∧ t ≤ 8) := Lib.hid (by
    have h8 := h.ok.th8
    unfold YS.isT at ht
    have := of_decide_eq_true ht
    omega)
  have HNOW := Lib.hid hn; clear hn
  have hmf : ∀ (fn : Fn) (first cap : Array Value) (w : World), (Instr.makeFunc fn first cap).run Try.prog w = .ok (.func fn first cap) w := fun _ _ _ _ => rfl
  have h1 := (h.less (Z := fun k => X k ∨ k = w.heap.size) (fun k hk hz => by rcases hz with hz | hz; exact hz; omega)).alloc (Obj.cells #[.int .i64 b] 3)
  have hi := isT_any h1 t
  rw [ht] at hi
  obtain ⟨a, cap, hv, _, _, hr⟩ := row_wts h1.row
  have hp := h.head.lt
  have c13 := h.cells.2.2.2.2.1
  rw [hv] at c13
  have hc := hasEq_any (cap := cap) b (Blk.new w 3 #[.int .i64 b]) hr h.ok.few
  rw [hw] at hc
  have HI := Lib.hid hi; clear hi
  have HC := Lib.hid hc; clear hc
  have HV := Lib.hid hv; clear hv
  have HH := Lib.hid h1; clear h1
  have HL := Lib.hid hl; clear hl
  have HWB := Lib.hid hwb; clear hwb
  have HX := Lib.hid hX; clear hX
  clear h ht hr hw
  go_enter Try.func28, Try.ntmps28
  go_wp2_with fail
  refine HI.out.mono ?_
  rintro e w1 ⟨rfl, rfl⟩
  go_wp2_with fail
  refine HC.out.mono ?_
  rintro e w1 ⟨rfl, hb⟩
  have h2 := HH.out.below hb
  have hB := (Blk.new w 3 #[.int .i64 b]).below hb (by simp)
  have cb := hB.cell 0
  have c0 := h2.cells.1
  have hz := hb.size
  simp at cb hz
  have HB := Lib.hid hB; clear hB
  have HK := Lib.hid ((Keep.ofBelow' (X := X) ((Below.refl w.heap.size w).alloc (Nat.le_refl _) (Obj.cells #[.int .i64 b] 3))).trans (Keep.ofBelow' hb))
  have HS := Lib.hid (fun q => size_hit (h2.below (w' := w1.drewN q) ⟨rfl, rfl, rfl, Nat.le_refl _, fun _ _ => rfl⟩).ar HWB.out HL.out)
  have HSW := Lib.hid (fun q => sweep_any (Yd.drewN ⟨v, h2⟩ q) (fun k hk hx => by
    have hk' : w1.heap.size ≤ k := hk
    rcases hx with hx | hx
    · exact HX.out k (by omega) hx
    · omega))
  clear c13 hb h2
  go_wp2
  go_quiet ((go_at_call 30; exact Calls.quiet_of_same ((HS.out _).mono fun _ _ hh => ⟨hh.1, hh.2.symm⟩)))
  go_wp2_with fail
  refine (HSW.out _).mono ?_
  rintro e w3 ⟨rfl, h3, hk3⟩
  have HB3 := Lib.hid (HB.out.keep (X := fun k => X k ∨ k = w.heap.size) ((Keep.refl _ w1).trans (w'' := w3) ⟨hk3.os, hk3.tape, hk3.output, hk3.size, hk3.block⟩) (.inr rfl))
  have HK3 := Lib.hid (HK.out.trans (Keep.less (Y := X) (w := w1) (w' := w3) ⟨hk3.os, hk3.tape, hk3.output, hk3.size, hk3.block⟩ (fun _ hk => .inl hk)))
  have hz3 : w1.heap.size ≤ w3.heap.size := hk3.size
  clear hk3 HS HSW HH HC HI HB HK cb c0
  have HX4 : Hid (∀ k, w3.heap.size ≤ k → ¬ (X k ∨ k = w.heap.size)) := Lib.hid (fun k hk hx => by
    rcases hx with hx | hx
    · exact HX.out k (by omega) hx
    · omega)
  have hl3 := limbo_any h3.drew t
  have H3 := Lib.hid h3; clear h3
  have HL3 := Lib.hid hl3; clear hl3
  obtain ⟨v3, hv3⟩ := H3.out
  have k2 := hv3.cells.2.2.1
  have hy3 := hv3.head.lt
  have hbd : Y.sweepAt.bound = Y.bound := rfl
  rw [hbd] at k2
  clear hbd
  have HV3 := Lib.hid hv3.head.drew; clear hv3
  generalize hlm : lim Y.sweepAt.wt t = lm at *
  have HLM := Lib.hid hlm; clear hlm
  go_wp2
  go_region_with (go_at_call 29; refine HL3.out.mono ?_; rintro e w4 ⟨rfl, hb4⟩; have HB4 := Lib.hid hb4; have k4 := (HV3.out.below hb4 hy3).cell 2; clear hb4; simp [yc, YS.sweepAt] at k4)
  all_goals
    have h4 := (H3.out.drew.below HB4.out)
    obtain ⟨v4, hv4⟩ := h4
    have hz4 := HB4.out.size
    have ht8 : 1 ≤ t ∧ t ≤ 8 := HT8.out
    obtain ⟨hown4, hend4⟩ := ret_end hv4 (fun k hk hx => HX4.out k (by have : w3.heap.size ≤ w4.heap.size := hz4; omega) hx) t b HWB.out ht8 (by have := HLM.out; show lim Y.sweepAt.wt t < Y.bound; rw [this]; exact hlim)
    have hn4 : Y.sweepAt.now = Y.now := rfl
    have htk := tick_any hv4.drew (by rw [hn4]; exact HNOW.out)
    rw [hn4] at hown4 hend4 htk
    have k0 := hv4.cells.2.2.2.2.1
    have kb := (HB3.out.drew.below HB4.out (by show w.heap.size < w3.heap.size; omega)).cell 0
    simp at kb
    have hfew4 := hv4.ok.few
    unfold atApp at hown4 hend4
    have HOWN4 := Lib.hid hown4; clear hown4
    have HEND4 := Lib.hid hend4; clear hend4
    have HTK := Lib.hid htk; clear htk
    obtain ⟨i0, hi0, hz0, hz1, hz2⟩ := info_parts info103
    have HNEWS : Hid (∀ j u, [Value.int .i64 b, .int .i64 t, .int .i64 (Y.now + 1)][j]? = some u → ((w4.drew.setCell ⟨py, 3, none⟩ (.int .i64 (Y.now + 1))).alloc (.cells #[.int .i64 b, .int .i64 t, .int .i64 (Y.now + 1)] 103)).cell? ((⟨w4.heap.size, 0, none⟩ : Addr).add j) = some u) := Lib.hid (by
      have hB := Blk.new (w4.drew.setCell ⟨py, 3, none⟩ (.int .i64 (Y.now + 1))) 103 #[.int .i64 b, .int .i64 t, .int .i64 (Y.now + 1)]
      have e : (w4.drew.setCell ⟨py, 3, none⟩ (.int .i64 (Y.now + 1))).heap.size = w4.heap.size := by simp [World.setCell]
      rw [e] at hB
      exact World.news_of_block hB)
    have HONE : Hid (∀ u ∈ [Value.int .i64 b, .int .i64 t, .int .i64 (Y.now + 1)], u.oneCell' = true) := Lib.hid (by
      intro u hu
      simp at hu
      rcases hu with rfl | rfl | rfl <;> rfl)
    have hy4 := hv4.head.lt
    have hw4 : w.heap.size < w4.heap.size := by have : w3.heap.size ≤ w4.heap.size := hz4; omega
    clear hv4 hz4 hn4 ht8
    go_wp2
    go_region_law (first
      | (refine step_append_lies _ rfl (.tmp 45) (.tmp 51) 87 rfl 0 103 i0 (.agg #[.int .i64 0, .int .i64 0, .int .i64 0]) 3 24 Try.underlying87 hi0 hz0 hz1 hz2 rfl (by decide) v4 Y.sweepAt.wt.length (flat Y.sweepAt.wt) (by simp [Act.eval]) HOWN4.out ⟨w4.heap.size, 0, none⟩ 1 1 [.int .i64 b, .int .i64 t, .int .i64 (Y.now + 1)] (by simp [Act.eval]) rfl HNEWS.out HONE.out (by decide) (by unfold maxLen; omega) (by omega) (Nat.zero_le _) _ rfl ?_; intro g6 cap6 w6 hown6 hgr6 hat6 hlt6; obtain ⟨k6, f6, y6, kk6⟩ := HEND4.out g6 cap6 w6 hown6 hgr6 hat6; have HY6 := Lib.hid y6; have HKK6 := Lib.hid kk6; clear hown6 hgr6 hat6 hlt6 y6 kk6)
      | (go_simp; go_at_call 61; refine HTK.out.mono ?_; rintro e w5 ⟨rfl, rfl⟩))
    all_goals
      go_wp2
      go_ret
      exact ⟨rfl, HY6.out.less (fun k _ hk => .inl hk), HK3.out.trans ((Keep.refl _ w3).drew.trans ((Keep.ofBelow' HB4.out).trans (HKK6.out.less (fun _ hk => .inl hk))))⟩

theorem retire_any {w : World} {X : Nat → Prop} {pa py : Nat} {Y : YS} {S : AS} (h : Yd w X pa py Y S) (hn : Y.now < 4611686018427387904) (hX : ∀ k, w.heap.size ≤ k → ¬ X k) (t b : Int) (hwb : (ik b).wf = true) :
    Calls Try.prog 28 #[.pointer (some ⟨py, 0, none⟩), .int .i64 t, .int .i64 b] w fun e w' => e = .returned (.int .i64 (Y.retErr S t b)) ∧ Yd w' X pa py (Y.retAt S t b) (S.retAt Y t b) ∧ Keep X w w' := by
  obtain ⟨v, h⟩ := h
  cases ht : Y.isT t with
  | false =>
    have he : Y.retErr S t b = 1 := by unfold YS.retErr; rw [ht]; rfl
    have h1 : Y.retAt S t b = Y := by unfold YS.retAt; rw [he]; rfl
    have h2 : S.retAt Y t b = S := by unfold AS.retAt; rw [he]; rfl
    rw [he, h1, h2]
    refine (ret_bad h t b ht).mono ?_
    rintro e w' ⟨rfl, hb⟩
    exact ⟨rfl, ⟨v, h.below hb⟩, Keep.ofBelow' hb⟩
  | true =>
    cases hw : waits Y.wt b with
    | true =>
      have he : Y.retErr S t b = 42 := by unfold YS.retErr; rw [ht, hw]; rfl
      have h1 : Y.retAt S t b = Y := by unfold YS.retAt; rw [he]; rfl
      have h2 : S.retAt Y t b = S := by unfold AS.retAt; rw [he]; rfl
      rw [he, h1, h2]
      refine (ret_twice h t b ht hw).mono ?_
      rintro e w' ⟨rfl, hb⟩
      exact ⟨rfl, ⟨v, h.below hb⟩, Keep.ofBelow' hb⟩
    | false =>
      cases hl : look S.bl b with
      | none =>
        have he : Y.retErr S t b = 20 := by unfold YS.retErr; rw [ht, hw, hl]; rfl
        have h1 : Y.retAt S t b = Y := by unfold YS.retAt; rw [he]; rfl
        have h2 : S.retAt Y t b = S.fault := by unfold AS.retAt; rw [he]; rfl
        rw [he, h1, h2]
        exact ret_freed h t b hwb ht hw hl
      | some cs =>
        by_cases hlim : Y.bound ≤ lim Y.sweepAt.wt t
        · have he : Y.retErr S t b = 43 := by unfold YS.retErr; rw [ht, hw, hl, if_pos hlim]; rfl
          have h1 : Y.retAt S t b = Y.sweepAt := by unfold YS.retAt; rw [he]; rfl
          have h2 : S.retAt Y t b = S.sweepAt Y := by unfold AS.retAt; rw [he]; rfl
          rw [he, h1, h2]
          exact ret_limbo h hX t b hwb ht hw hl hlim
        · have he : Y.retErr S t b = 0 := by unfold YS.retErr; rw [ht, hw, hl, if_neg hlim]; rfl
          have h1 : Y.retAt S t b = { Y.sweepAt with now := Y.now + 1, wt := Y.sweepAt.wt ++ [⟨b, t, Y.now + 1⟩] } := by unfold YS.retAt; rw [he]; rfl
          have h2 : S.retAt Y t b = S.sweepAt Y := by unfold AS.retAt; rw [he]; rfl
          rw [he, h1, h2]
          exact ret_ok h hn hX t b hwb ht hw hl (by omega)
end Go.Proofs.Ytiiaajdkkofbjaa
