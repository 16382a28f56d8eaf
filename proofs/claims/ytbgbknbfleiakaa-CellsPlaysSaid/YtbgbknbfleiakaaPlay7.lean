/-
  CellsPlays: whatever is made, freed, read, written, swapped and added to, an arena answers as the document says. No condition but the reach: a script takes at most 2^47 bytes.
-/
import Derived.Test.YtbgbknbfleiakaaPlay6
import Derived.Test.YtbgbknbfleiakaaRoom
import Derived.Deep.QuietTactic
import Derived.BigQuiet
namespace Go.Proofs.Ytbgbknbfleiakaa
open Go.RowKit Go.Maps

/-- What holds at the head of a round. -/
structure PlRel (w wr : World) (pa ms k : Nat) (S : AS) (bl : List (List Int)) (A : Option Addr) (c : Nat) (vals : List Value) (X Y : Nat → Prop) : Prop where
  below : Below w.heap.size w wr
  arena : Arena wr X pa S
  rows : RowsAt wr Y A vals bl
  box : Blk wr ms 28 #[.slice A bl.length c, .int .i64 S.most, .int .i64 S.faults]
  mat : Match S bl
  cover : ∀ i, i < w.heap.size → X i
  bound : ∀ i, X i → i < wr.heap.size
  yx : ∀ i, Y i → X i
  ms0 : w.heap.size ≤ ms
  msX : X ms
  msY : ¬ Y ms
  few : S.made ≤ k

theorem drewN_below (w : World) (n : Nat) : Below w.heap.size w (w.drewN n) := ⟨rfl, rfl, rfl, Nat.le_refl _, fun _ _ => rfl⟩

set_option maxHeartbeats 4000000 in
set_option maxRecDepth 100000 in
theorem plays_walk (most : Int) (a0 : Option Addr) (len0 cap0 : Nat) (w : World) (ho : IsOps w a0 len0) (hlen : len0 ≤ 3518437208884) :
    Calls Try.prog 3 #[.int .i64 most, .slice a0 len0 cap0] w fun e w' => e = .returned (.bool true) ∧ Below w.heap.size w w' := by
  have hX : ∀ W : World, w.heap.size ≤ W.heap.size → ∀ k, W.heap.size ≤ k → ¬ k < w.heap.size := fun W h k hk => by omega
  have HX := Lib.hid hX; clear hX
  have HO := Lib.hid ho; clear ho
  go_enter Try.func3, Try.ntmps3
  go_wp2_with fail
  refine (new_any most w (fun k => k < w.heap.size) (HX.out _ (Nat.le_refl _))).mono ?_
  rintro e w1 ⟨rfl, a1', b1⟩
  have z1' := b1.size
  go_wp2_with fail
  refine (alive_any _).mono ?_
  rintro e w2 ⟨rfl, b2⟩
  have z2' := b2.size
  go_wp2_with fail
  refine (refNew_any most _).mono ?_
  rintro e w3 ⟨rfl, b3⟩
  have z3' := b3.size
  have hrel : PlRel w (w3.alloc (.cells #[.slice none 0 0, .int .i64 (min (max most 0) 65536), .int .i64 0] 28)) (w.heap.size + 1) w3.heap.size 0 (AS.new most) [] none 0 [] (fun i => i < w.heap.size ∨ i = w3.heap.size) (fun _ => False) :=
    ⟨((b1.trans (b2.mono z1')).trans (b3.mono (by omega))).alloc (by omega) _, (((a1'.below b2).below b3).less (fun k hk hy => by rcases hy with hy | hy; exact hy; omega)).alloc _, ⟨rfl, fun h => absurd h (by simp), fun i h => absurd h (by simp)⟩,
      Blk.new w3 28 _, ⟨rfl, fun i h => absurd h (by simp), rfl, rfl⟩, fun i hi => .inl hi, fun i hi => by simp; omega, fun i hi => hi.elim, by omega, .inr rfl, fun h => h, by simp [AS.new]⟩
  have HREL := Lib.hid hrel; clear hrel
  clear a1' b1 b2 b3
  go_wp2_with fail
  generalize w3.alloc (.cells #[.slice none 0 0, .int .i64 (min (max most 0) 65536), .int .i64 0] 28) = W0 at HREL ⊢
  generalize w.heap.size + 1 = pa at *
  generalize w3.heap.size = ms at *
  clear z1' z2' z3'
  go_loopw [27] (fun i wr => ∃ (k : Nat) (S : AS) (bl : List (List Int)) (A : Option Addr) (c : Nat) (vals : List Value) (X Y : Nat → Prop), k ≤ len0 ∧ i = .int .i64 k ∧ PlRel w wr pa ms k S bl A c vals X Y) (fun i _ => len0 - (intOf i).toNat)
  case atStart => exact ⟨0, _, _, _, _, _, _, _, by omega, rfl, HREL.out⟩
  case round =>
    clear HREL
    obtain ⟨k, S, bl, A, c, vals, X, Y, hk, rfl, hr⟩ := hrel
    by_cases hkl : k < len0
    · obtain ⟨b, off, kd, bb, i, v, x, rfl, hb, ⟨c0, c1, c2, c3, c4⟩, hwb, _⟩ := HO.out k hkl
      have e : ∀ o, w.cell? ⟨b, o, none⟩ = wr.cell? ⟨b, o, none⟩ := fun o => (hr.below.cell (p := ⟨b, o, none⟩) hb).symm
      rw [e] at c0 c1 c2 c3 c4
      clear e
      obtain ⟨m0, m1, m2, f0, f1, f2⟩ := hr.box.three
      have hbx := hr.box.alloc (.cells #[.int .i64 kd, .int .i64 bb, .int .i64 i, .int .i64 v, .int .i64 x] 31)
      obtain ⟨n0, n1, n2, _⟩ := hbx.three
      have hcall := asksM_any (hr.arena.alloc (.cells #[.int .i64 kd, .int .i64 bb, .int .i64 i, .int .i64 v, .int .i64 x] 31)) (fun q hq => by have := hr.bound q hq; simp; omega) hr.yx (hr.rows.below ((Below.refl _ _).alloc (Nat.le_refl _) _)) hr.mat c (by have := hr.few; have := hr.mat.made; omega) kd (i := i) hwb v x
      have hmade := (S.step_made kd bb i v x).2
      have hmost := S.step_most kd bb i v x
      generalize S.step kd bb i v x = S' at hcall hmade hmost
      have HC := Lib.hid hcall; clear hcall
      have HMD := Lib.hid hmade; clear hmade
      have HMO := Lib.hid hmost; clear hmost
      have HREL := Lib.hid hr; clear hr
      have HBX := Lib.hid hbx; clear hbx
      go_wp2_with fail
      refine HC.out.mono ?_
      rintro e w5 ⟨A5, c5, vals5, bl5, N, rfl, a5, r5, hm5, hN, k5⟩
      have hms := HREL.out.msX
      have hmlt : ms < (wr.alloc (.cells #[.int .i64 kd, .int .i64 bb, .int .i64 i, .int .i64 v, .int .i64 x] 31)).heap.size := HBX.out.lt
      have hb5 := (HBX.out.keep k5 hms).alloc (.cells #[.slice A5 bl5.length c5, .int .i64 S'.most, .int .i64 S'.faults] 28)
      obtain ⟨_, _, _, g0, g1, g2⟩ := hb5.three
      obtain ⟨e0, e1, e2, _⟩ := hb5.three
      have hbF := ((hb5.set_ 0 (.slice A5 bl5.length c5)).set_ 1 (.int .i64 S'.most)).set_ 2 (.int .i64 S'.faults)
      have hmsN : ¬ N ms := fun hh => by have := (hN ms hh).1; omega
      have hmsY : ¬ (Y ms ∨ N ms) := fun hh => by rcases hh with hh | hh; exact HREL.out.msY hh; exact hmsN hh
      have hn5 := Blk.new w5 28 #[.slice A5 bl5.length c5, .int .i64 S'.most, .int .i64 S'.faults]
      obtain ⟨t0, t1, t2, _⟩ := hn5.three
      have haF : Arena ((((w5.alloc (.cells #[.slice A5 bl5.length c5, .int .i64 S'.most, .int .i64 S'.faults] 28)).setCell ⟨ms, 0, none⟩ (.slice A5 bl5.length c5)).setCell ⟨ms, 1, none⟩ (.int .i64 S'.most)).setCell ⟨ms, 2, none⟩ (.int .i64 S'.faults)) (fun q => X q ∨ N q) pa S' :=
        arena_set (arena_set (arena_set (a5.alloc _) (.inl hms)) (.inl hms)) (.inl hms)
      have hkF := keep_set (keep_set (keep_set ((Keep.refl (fun q => Y q ∨ N q) w5).alloc (.cells #[.slice A5 bl5.length c5, .int .i64 S'.most, .int .i64 S'.faults] 28)) hmsY (o := 0) (u := .slice A5 bl5.length c5)) hmsY (o := 1) (u := .int .i64 S'.most)) hmsY (o := 2) (u := .int .i64 S'.faults)
      have hrF := r5.keep hkF (fun q hq => hq)
      have hbeF : Below w.heap.size w ((((w5.alloc (.cells #[.slice A5 bl5.length c5, .int .i64 S'.most, .int .i64 S'.faults] 28)).setCell ⟨ms, 0, none⟩ (.slice A5 bl5.length c5)).setCell ⟨ms, 1, none⟩ (.int .i64 S'.most)).setCell ⟨ms, 2, none⟩ (.int .i64 S'.faults)) := by
        have h1 := (HREL.out.below.alloc HREL.out.below.size (.cells #[.int .i64 kd, .int .i64 bb, .int .i64 i, .int .i64 v, .int .i64 x] 31)).trans (k5.toBelow HREL.out.cover (by have := HREL.out.below.size; simp; omega))
        exact below_set (below_set (below_set (h1.alloc h1.size _) HREL.out.ms0) HREL.out.ms0) HREL.out.ms0
      have hwlt := k5.size
      have hszF := hkF.size
      have HN := Lib.hid hN; clear hN
      have HBF := Lib.hid hbF; clear hbF
      have HAF := Lib.hid haF; clear haF
      have HRF := Lib.hid hrF; clear hrF
      have HBE := Lib.hid hbeF; clear hbeF
      have HM5 := Lib.hid hm5; clear hm5
      have HSZ := Lib.hid hszF; clear hszF
      have HWL := Lib.hid hwlt; clear hwlt
      clear a5 r5 k5 hb5 hn5 hkF hms hmlt
      go_wp2_with fail
      generalize ((((w5.alloc (.cells #[.slice A5 bl5.length c5, .int .i64 S'.most, .int .i64 S'.faults] 28)).setCell ⟨ms, 0, none⟩ (.slice A5 bl5.length c5)).setCell ⟨ms, 1, none⟩ (.int .i64 S'.most)).setCell ⟨ms, 2, none⟩ (.int .i64 S'.faults)) = wF at HBF HAF HRF HBE HSZ ⊢
      clear t0 t1 t2 g0 g1 g2 e0 e1 e2 m0 m1 m2 f0 f1 f2 n0 n1 n2 c0 c1 c2 c3 c4
      have hlive := live_any HAF.out
      have HLIVE := Lib.hid hlive; clear hlive
      refine HLIVE.out.mono ?_
      rintro e w6 ⟨rfl, rfl⟩
      obtain ⟨u0, u1, u2, _⟩ : wF.cell? ⟨ms, 0, none⟩ = some (.slice A5 bl5.length c5) ∧ wF.cell? ⟨ms, 1, none⟩ = some (.int .i64 S'.most) ∧ wF.cell? ⟨ms, 2, none⟩ = some (.int .i64 S'.faults) ∧ True := by
        have h3 := HBF.out.three
        exact ⟨h3.1, h3.2.1, h3.2.2.1, trivial⟩
      have hl5 : bl5.length ≤ 4398046511104 := by have := HM5.out.made; have := HMD.out; have := HREL.out.few; omega
      have ht5 : tot bl5 ≤ 65536 := by have := HM5.out.tot; have := HAF.out.ok.sum; have := HAF.out.ok.used1; have := HAF.out.ok.most1; omega
      have hrl := refLive_any (HRF.out.below (Below.refl _ wF).drew) c5 S'.most S'.faults hl5 ht5
      have et : ((tot bl5 : Nat) : Int) = S'.used := by have := HM5.out.tot; have := HAF.out.ok.sum; omega
      rw [HM5.out.cnt, et] at hrl
      have HRL := Lib.hid hrl; clear hrl
      clear et ht5
      go_wp2_with fail
      refine HRL.out.mono ?_
      rintro e w7 ⟨rfl, b7⟩
      have hA7 : Arena w7 (fun q => X q ∨ N q) pa S' := HAF.out.drew.below b7
      have hB7 : Blk w7 ms 28 _ := HBF.out.drew.below b7 HBF.out.lt
      have hR7 : RowsAt w7 (fun q => Y q ∨ N q) A5 vals5 bl5 := (HRF.out.below (Below.refl _ wF).drew).below b7
      obtain ⟨y0, y1, y2, _⟩ := hB7.three
      have hmd : ∀ n, Calls Try.prog 14 #[.pointer (some ⟨pa, 0, none⟩)] (w7.drewN n) fun e w' => e = .returned (.int .i64 bl5.length) ∧ w' = w7.drewN n := fun n => by
        have := made_any (hA7.below (drewN_below w7 n))
        rw [← HM5.out.made] at this
        exact this.mono fun e w' hh => ⟨hh.1, hh.2.symm⟩
      have hfl : ∀ n, Calls Try.prog 15 #[.pointer (some ⟨pa, 0, none⟩)] (w7.drewN n) fun e w' => e = .returned (.int .i64 S'.faults) ∧ w' = w7.drewN n := fun n => by
        have := faults_any (hA7.below (drewN_below w7 n))
        exact this.mono fun e w' hh => ⟨hh.1, hh.2.symm⟩
      have HMDE := Lib.hid hmd; clear hmd
      have HFL := Lib.hid hfl; clear hfl
      have HA7 := Lib.hid hA7; clear hA7
      have HB7 := Lib.hid hB7; clear hB7
      have HR7 := Lib.hid hR7; clear hR7
      have HBE7 := Lib.hid (HBE.out.drew.trans (b7.mono HBE.out.size))
      have HS7 : Hid (wF.heap.size ≤ w7.heap.size) := b7.size
      clear b7
      go_wp2_with fail
      go_quiet ((first | (go_at_call 14; exact Calls.quiet_of_same (HMDE.out _)) | (go_at_call 15; exact Calls.quiet_of_same (HFL.out _))))
      go_wp2_with fail
      go_roundw
      case rel =>
        refine ⟨k + 1, S', bl5, A5, c5, vals5, _, _, by omega, by go_num, HBE7.out.trans ((drewN_below w7 _).mono HBE7.out.size), HA7.out.below (drewN_below w7 _), HR7.out.below (drewN_below w7 _), ?_, HM5.out, fun q hq => .inl (HREL.out.cover q hq), ?_, ?_, HREL.out.ms0, .inl HREL.out.msX, ?_, by have := HMD.out; have := HREL.out.few; omega⟩
        · exact HB7.out.below (drewN_below w7 _) HB7.out.lt
        · intro q hq
          show q < w7.heap.size
          have h1 := HS7.out
          have h2 := HSZ.out
          have h3 := HWL.out
          rcases hq with hq | hq
          · have := HREL.out.bound q hq; simp at h3; omega
          · have := (HN.out q hq).2; omega
        · intro q hq
          rcases hq with hq | hq
          · exact .inl (HREL.out.yx q hq)
          · exact .inr hq
        · intro hh
          rcases hh with hh | hh
          · exact HREL.out.msY hh
          · have h1 := (HN.out _ hh).1
            have h2 := HREL.out.bound _ HREL.out.msX
            simp at h1
            omega
      case measure => simp [intOf]; omega
    · have HB := Lib.hid hr.below
      clear hr
      go_wp2_with fail
      go_ret
      exact ⟨rfl, HB.out⟩

end Go.Proofs.Ytbgbknbfleiakaa
