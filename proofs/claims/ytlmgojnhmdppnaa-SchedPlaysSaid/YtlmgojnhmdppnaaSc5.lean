/-
  The contract of package sched's Spawn. Conditions: the scheduler stands for a plain state; fewer than 2^62 - 1 threads were made.
-/
import Derived.Test.YtlmgojnhmdppnaaSc2
import Derived.Deep.AppendLies
namespace Go.Proofs.Ytlmgojnhmdppnaa
open Go.RowKit Go.Maps
set_option linter.unusedVariables false

theorem infoTh : (Try.prog.info? 145).map (fun i => (i.zero, i.size, i.bytes)) = some (some (.agg #[.int .i64 0, .int .i64 0, .int .i64 0]), 3, 24) := by kernel_rfl

theorem Keep.drewN (X : Nat → Prop) (w : World) (q : Nat) : Keep X w (w.drewN q) := ⟨rfl, rfl, rfl, Nat.le_refl _, fun _ _ _ => rfl⟩
theorem ZAt.drewN {w : World} {X : Nat → Prop} {ps : Nat} {v : Value} {Z : ZS} (h : ZAt w X ps v Z) (q : Nat) : ZAt (w.drewN q) X ps v Z := h.keep (Y := fun _ => True) (Keep.drewN _ w q) (fun _ _ => trivial)
theorem ok_tick {Z : ZS} (h : Z.Ok) (hs : Z.spawned < 4611686018427387903) : ZS.Ok { Z with spawned := Z.spawned + 1 } := by
  refine ⟨h.most1, h.most8, h.few, ?_, ?_, h.ris.1, fun r hr => ?_⟩
  · have := h.sp0; dsimp only; omega
  · dsimp only; omega
  · have := h.ris.2 r hr; dsimp only; omega

/-- What the append and the store behind it leave. -/
theorem spawn_end {W : World} {X : Nat → Prop} {ps : Nat} {v : Value} {Z : ZS} (h : ZAt W X ps v { Z with spawned := Z.spawned + 1 }) (hX : ∀ k, W.heap.size ≤ k → ¬ X k)
    (hok : ZS.Ok { Z with spawned := Z.spawned + 1, ths := Z.ths ++ [⟨Z.spawned + 1, 1, 0⟩] }) :
    ∀ g cap w6, w6.ownsRow 0 145 3 (.slice (some ⟨g, 0, none⟩) (Z.ths.length + 1) cap) (Z.ths.length + 1) (flat Z.ths ++ [.int .i64 (Z.spawned + 1), .int .i64 1, .int .i64 0]) → W.grownBy w6 v.ownBlock → (v.ownBlock = some g ∨ g = W.heap.size) →
      w6.cell? ⟨ps, 2, none⟩ = some v ∧ w6.frozen? ⟨ps, 2, none⟩ = false ∧ w6.cell? ⟨ps, 1, none⟩ = some (.int .i64 (Z.spawned + 1)) ∧ ps < w6.heap.size ∧
      Zd (w6.setCell ⟨ps, 2, none⟩ (.slice (some ⟨g, 0, none⟩) (Z.ths.length + 1) cap)) X ps { Z with spawned := Z.spawned + 1, ths := Z.ths ++ [⟨Z.spawned + 1, 1, 0⟩] } ∧ Keep X W (w6.setCell ⟨ps, 2, none⟩ (.slice (some ⟨g, 0, none⟩) (Z.ths.length + 1) cap)) := by
  intro g cap w6 hown hgr hat
  have hk : Keep (fun k => some k ≠ v.ownBlock) W w6 := ⟨hgr.os, hgr.tape, hgr.output, hgr.size, fun k hk hn => hgr.block k hk hn⟩
  have hpv : some ps ≠ v.ownBlock := fun e => (h.row_ps e.symm) rfl
  have hhead := h.head.keep hk hpv
  have hgX : ¬ X g := by
    rcases hat with e | e
    · exact h.rX g e
    · exact hX g (by omega)
  have hgp : g ≠ ps := by
    rintro rfl
    rcases hat with e | e
    · exact hpv e.symm
    · have := h.head.lt; omega
  have hcells := h.head.cell 1
  refine ⟨by rw [hhead.cell]; rfl, hhead.frozen 2, by rw [hhead.cell]; rfl, hhead.lt, ⟨.slice (some ⟨g, 0, none⟩) (Z.ths.length + 1) cap, ⟨?_, ?_, h.nX, ?_, hok⟩⟩, ?_⟩
  · have := hhead.set_ 2 (.slice (some ⟨g, 0, none⟩) (Z.ths.length + 1) cap)
    exact this
  · have e : flat (Z.ths ++ [(⟨Z.spawned + 1, 1, 0⟩ : Th)]) = flat Z.ths ++ [.int .i64 (Z.spawned + 1), .int .i64 1, .int .i64 0] := by rw [flat_append]; rfl
    show (w6.setCell _ _).ownsRow 0 _ 3 _ (Z.ths ++ [(⟨Z.spawned + 1, 1, 0⟩ : Th)]).length (flat (Z.ths ++ [(⟨Z.spawned + 1, 1, 0⟩ : Th)]))
    rw [e, List.length_append]
    refine zrow_keep hown (fun g' hg' => ?_)
    simp only [Value.ownBlock, Option.some.injEq] at hg'
    subst hg'
    exact Below.heap_setCell _ _ _ _ hgp
  · intro g' hg'
    simp only [Value.ownBlock, Option.some.injEq] at hg'
    subst hg'
    exact hgX
  · have hkX : Keep X W w6 := ⟨hgr.os, hgr.tape, hgr.output, hgr.size, fun k hk' hx => hgr.block k hk' (fun e => h.rX k e.symm hx)⟩
    exact hkX.setCell (p := (⟨ps, 2, none⟩ : Addr)) h.nX _

set_option maxRecDepth 100000 in
set_option maxHeartbeats 2000000 in
theorem spawn_any {w : World} {X : Nat → Prop} {ps : Nat} {Z : ZS} (h : Zd w X ps Z) (hX : ∀ k, w.heap.size ≤ k → ¬ X k) (hs : Z.spawned < 4611686018427387903) :
    Calls Try.prog 52 #[.pointer (some ⟨ps, 0, none⟩)] w fun e w' => e = .returned (.tuple #[.int .i64 Z.spawnNo, .int .i64 Z.spawnErr]) ∧ Zd w' X ps Z.spawn ∧ Keep X w w' := by
  obtain ⟨v, h⟩ := h
  obtain ⟨c0, c1, c2, _, _, hf⟩ := h.cells
  have hlt := h.head.lt
  have h8 := h.ok.eight
  have h0 := h.ok.sp0
  by_cases hl : (Z.ths.length : Int) < Z.most
  · have e1 : Z.spawnNo = Z.spawned + 1 := by unfold ZS.spawnNo; rw [if_pos hl]
    have e2 : Z.spawnErr = 0 := by unfold ZS.spawnErr; rw [if_pos hl]
    have e3 : Z.spawn = { Z with spawned := Z.spawned + 1, ths := Z.ths ++ [⟨Z.spawned + 1, 1, 0⟩] } := by unfold ZS.spawn; rw [if_pos hl]
    rw [e1, e2, e3]
    have hok := h.ok.spawn hs
    rw [e3] at hok
    obtain ⟨i0, hi0, hz0, hz1, hz2⟩ := info_parts infoTh
    obtain ⟨a, cap, hv, hcap, hmax, _⟩ := row_ths h.row
    subst hv
    have hz0' : ∀ W, ZAt W X ps (.slice a Z.ths.length cap) Z → ZAt (W.setCell ⟨ps, 1, none⟩ (.int .i64 (Z.spawned + 1))) X ps (.slice a Z.ths.length cap) { Z with spawned := Z.spawned + 1 } := fun W hW => hW.headSet rfl (ok_tick h.ok hs) (by simp [zc])
    have hge : ¬ Z.most ≤ (Z.ths.length : Int) := by omega
    have f1 := hf 1
    have f2 := hf 2
    have HONE : Hid (∀ u ∈ [Value.int .i64 (Z.spawned + 1), .int .i64 1, .int .i64 0], u.oneCell' = true) := Lib.hid (by
      intro u hu
      simp at hu
      rcases hu with rfl | rfl | rfl <;> rfl)
    have HZ := Lib.hid hz0'; clear hz0'
    have HH := Lib.hid h; clear h
    have HO := Lib.hid hok; clear hok
    clear e1 e2 e3 hf
    go_enter Try.func52, Try.ntmps52
    go_wp2
    go_quiet (fail)
    go_wp2
    have a2 := HZ.out _ (HH.out.drewN nq)
    have k2 : Keep X w ((w.drewN nq).setCell ⟨ps, 1, none⟩ (.int .i64 (Z.spawned + 1))) := (Keep.drewN _ w nq).setCell (p := (⟨ps, 1, none⟩ : Addr)) HH.out.nX _
    have hz2w : w.heap.size ≤ ((w.drewN nq).setCell ⟨ps, 1, none⟩ (.int .i64 (Z.spawned + 1))).heap.size := k2.size
    generalize (w.drewN nq).setCell ⟨ps, 1, none⟩ (.int .i64 (Z.spawned + 1)) = w2 at a2 k2 hz2w ⊢
    obtain ⟨_, q1, q2, _, _, qf⟩ := a2.cells
    have qlt := a2.head.lt
    have g2 := qf 2
    clear qf
    have HA3 := a2.drew.alloc (.cells #[.int .i64 (Z.spawned + 1), .int .i64 1, .int .i64 0] 145)
    have HOWN := Lib.hid HA3.row
    have hend := spawn_end HA3 (fun k hk => hX k (by simp at hk; omega)) HO.out
    have HEND := Lib.hid hend; clear hend HA3
    have HNEWS : Hid (∀ j u, [Value.int .i64 (Z.spawned + 1), .int .i64 1, .int .i64 0][j]? = some u → (w2.drew.alloc (.cells #[.int .i64 (Z.spawned + 1), .int .i64 1, .int .i64 0] 145)).cell? ((⟨w2.heap.size, 0, none⟩ : Addr).add j) = some u) := Lib.hid (by
      have hB := Blk.new w2.drew 145 #[.int .i64 (Z.spawned + 1), .int .i64 1, .int .i64 0]
      exact World.news_of_block hB)
    have HK2 := Lib.hid k2; clear k2
    clear a2 HZ HH
    go_region_law (refine step_append_lies _ rfl (.tmp 25) (.tmp 31) 135 rfl 0 145 i0 (.agg #[.int .i64 0, .int .i64 0, .int .i64 0]) 3 24 Try.underlying135 hi0 hz0 hz1 hz2 rfl (by decide) (.slice a Z.ths.length cap) Z.ths.length (flat Z.ths) (by simp [Act.eval]) HOWN.out ⟨w2.heap.size, 0, none⟩ 1 1 [.int .i64 (Z.spawned + 1), .int .i64 1, .int .i64 0] (by simp [Act.eval]) rfl HNEWS.out HONE.out (by decide) (by unfold maxLen; omega) (by omega) (Nat.zero_le _) _ rfl ?_; intro g6 cap6 w6 hown6 hgr6 hat6 hlt6; obtain ⟨k6, f6, n6, l6, y6, kk6⟩ := HEND.out g6 cap6 w6 hown6 hgr6 hat6; have HY6 := Lib.hid y6; have HKK6 := Lib.hid kk6; clear hown6 hgr6 hat6 hlt6 y6 kk6)
    all_goals
      go_wp2
      go_ret2
      exact ⟨rfl, HY6.out, HK2.out.trans (((Keep.refl _ w2).drew.alloc _).trans HKK6.out)⟩
  · have e1 : Z.spawnNo = 0 := by unfold ZS.spawnNo; rw [if_neg hl]
    have e2 : Z.spawnErr = 3 := by unfold ZS.spawnErr; rw [if_neg hl]
    have e3 : Z.spawn = Z := by unfold ZS.spawn; rw [if_neg hl]
    rw [e1, e2, e3]
    have hge : Z.most ≤ (Z.ths.length : Int) := by omega
    obtain ⟨a, cap, hv, hcap, hmax, _⟩ := row_ths h.row
    rw [hv] at c2
    have HH := Lib.hid h; clear h
    clear e1 e2 e3 hv hf
    go_enter Try.func52, Try.ntmps52
    go_wp2
    go_quiet (fail)
    go_wp2
    go_ret2
    exact ⟨rfl, ⟨v, HH.out.drewN _⟩, Keep.drewN _ _ _⟩
end Go.Proofs.Ytlmgojnhmdppnaa
