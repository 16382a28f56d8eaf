/-
  The document's own mutexes: Leave. Conditions: as in Lk6.
-/
import Derived.Test.YtbfnadpkgiglmaaLk8
namespace Go.Proofs.Ytbfnadpkgiglmaa
open Go.RowKit Go.Maps
set_option linter.unusedVariables false
set_option linter.unusedSimpArgs false

section
variable {w : World} {a : Option Addr} {ca : Nat} {L : LS} {c : Int}

set_option maxRecDepth 1000000 in
set_option maxHeartbeats 4000000 in
theorem rleave_any (h : RAt w (.slice a L.length ca) L) (hn : L.length ≤ 5864062014804) (hfew : (LS.all L).length ≤ 8) (t : Int) :
    Calls Try.prog 25 #[.slice a L.length ca, .int .i64 t] w fun e w' => ∃ v u, e = .returned (.tuple #[v, u]) ∧ RAt w' v (LS.leave L t) ∧ w'.ownsRow w.heap.size 3 1 u (LS.own L t).length ((LS.own L t).map (Value.int .i64)) ∧ Below w.heap.size w w' := by
  obtain ⟨i0, hi0, hz0, hz1, hz2⟩ := info_parts info3
  obtain ⟨a', c', hv, hrows⟩ := h.open_
  injection hv with hv1 _ hv3
  subst hv1 hv3
  obtain ⟨f, hf⟩ : ∃ f : Nat → Bool, f = (fun i => LS.isAt L i && LS.hasAt L t i) := ⟨_, rfl⟩
  have HS := Lib.hid (fun k => upto_succ f k)
  have HL := Lib.hid (fun k => upto_len f k)
  have HAT : Hid (∀ k, f k = ((L.getD k zLk).is && (decide (0 < (L.getD k zLk).ct) && decide ((L.getD k zLk).ow = t)))) := Lib.hid (fun k => by rw [hf]; rfl)
  have HOWN : Hid (LS.own L t = upto f L.length) := Lib.hid (by rw [hf]; exact own_upto L t)
  have HSUB := Lib.hid (own_sub L t)
  have HRA := Lib.hid h; clear h
  have HI := Lib.hid hrows; clear hrows
  unfold LS.leave
  generalize LS.own L t = O at *
  clear hf
  have hst := World.ownsRow_made (base := w.heap.size) (e := 3) (size := 1) w #[] 0 (Nat.le_refl _) (by unfold maxLen; omega) rfl
  have REL0 : Hid ((w.alloc (Obj.cells #[] 3)).ownsRow w.heap.size 3 1 (.slice (some ⟨w.heap.size, 0, none⟩) 0 0) (upto f 0).length ((upto f 0).map (Value.int .i64)) ∧ Below w.heap.size w (w.alloc (Obj.cells #[] 3))) := Lib.hid ⟨hst, (Below.refl _ w).alloc (Nat.le_refl _) _⟩
  clear hst
  go_enter Try.func25, Try.ntmps25
  go_wp2_with fail
  go_loopw [6, 7] (fun v i wr => ∃ k : Nat, k ≤ L.length ∧ i = .int .i64 k ∧ wr.ownsRow w.heap.size 3 1 v (upto f k).length ((upto f k).map (Value.int .i64)) ∧ Below w.heap.size w wr) (fun _ i _ => L.length - (intOf i).toNat)
  case atStart => exact ⟨0, by omega, rfl, REL0.out.1, REL0.out.2⟩
  case round =>
    clear REL0
    obtain ⟨k, hk, rfl, hrow, hbel⟩ := hrel
    have hzr := hbel.size
    by_cases hlk : k < L.length
    · obtain ⟨g, rfl, hg, c0, c1, c2⟩ := (HI.out.below hbel) k hlk
      have hs := HS.out k
      have hl := HL.out k
      have hat := HAT.out k
      generalize L.getD k zLk = x at *
      have HR := Lib.hid hrow; clear hrow
      have HB := Lib.hid hbel; clear hbel
      by_cases hff : f k = true
      · rw [if_pos hff] at hs
        rw [hff] at hat
        have hat2 := hat.symm
        rw [Bool.and_eq_true, Bool.and_eq_true, decide_eq_true_eq, decide_eq_true_eq] at hat2
        obtain ⟨q0, q1, q2⟩ := hat2
        generalize upto f k = S at *
        have HS2 := Lib.hid hs; clear hs
        clear hat hff
        have hb2 : (x.ow == t) = true := by simpa using q2
        rw [q0] at c0
        generalize x.ct = xc at *
        generalize x.ow = xo at *
        clear q0 q2
        have hwr : IntKind.i64.wrap ((k : Int) + 1) = (k : Int) + 1 := by rw [IntKind.wrap_i64]; omega
        go_wp2_with (at_builtin; refine wpList_append_lies _ rfl _ _ 38 rfl w.heap.size 3 i0 (.int .i64 0) 1 8 Try.underlying38 hi0 hz0 hz1 hz2 rfl (by decide) _ S.length _ rfl (HR.out.alloc _) ⟨wr.heap.size, 0, none⟩ 1 1 [.int .i64 ((k : Int) + 1)] rfl rfl (cell_one_new wr (.int .i64 ((k : Int) + 1)) 3) (ints_oneCell .i64 [(k : Int) + 1]) (by decide) (by unfold maxLen; omega) (by omega) (by simp; omega) (wr.heap.size + 1) (by simp) ?_)
        intro g1 capg1 w3 hown hgr hat hltg1
        have hfin : w3.ownsRow w.heap.size 3 1 (.slice (some ⟨g1, 0, none⟩) (S.length + 1) capg1) (upto f (k + 1)).length ((upto f (k + 1)).map (Value.int .i64)) ∧ Below w.heap.size w w3 := by
          refine ⟨by rw [HS2.out]; simpa using hown, (HB.out.alloc hzr _).trans ((Keep.ofGrown (X := fun k => k < w.heap.size) hgr (fun g e hx => ?_)).toBelow (fun k hk => hk) (by simp; omega))⟩
          have := (own_type HR.out e).1
          omega
        have HF := Lib.hid hfin; clear hfin hown hgr hat
        go_wp2_with fail
        go_roundw
        case rel => exact ⟨k + 1, by omega, by go_num, HF.out.1, HF.out.2⟩
        case measure => simp [intOf]; omega
      · rw [if_neg hff, List.append_nil] at hs
        rw [← hs] at HR
        have hff2 : f k = false := by simpa using hff
        rw [hff2] at hat
        clear hs hff hff2
        generalize hxi : x.is = xi at *
        generalize x.ct = xc at *
        generalize x.ow = xo at *
        cases xi with
        | false =>
          clear hat
          go_wp2_with fail
          go_roundw
          case rel => exact ⟨k + 1, by omega, by go_num, HR.out, HB.out⟩
          case measure => simp [intOf]; omega
        | true =>
          by_cases q1 : 0 < xc
          · have hb2 : (xo == t) = false := by simpa [q1] using hat
            clear hat
            go_wp2_with fail
            go_roundw
            case rel => exact ⟨k + 1, by omega, by go_num, HR.out, HB.out⟩
            case measure => simp [intOf]; omega
          · clear hat
            go_wp2_with fail
            go_roundw
            case rel => exact ⟨k + 1, by omega, by go_num, HR.out, HB.out⟩
            case measure => simp [intOf]; omega
    · obtain rfl : k = L.length := by omega
      rw [← HOWN.out] at hrow
      obtain ⟨ao, co, rfl, hio⟩ := own_ints hrow
      have hOL : O.length ≤ 5864062014805 := by have := HL.out L.length; rw [← HOWN.out] at this; omega
      have REL1 : Hid (RAt wr (.slice a L.length ca) (LS.clr L (O.take 0)) ∧ Below wr.heap.size wr wr) := Lib.hid ⟨HRA.out.below hbel, Below.refl _ _⟩
      have HIO := Lib.hid hio; clear hio
      have HROW := Lib.hid hrow; clear hrow
      have HBEL := Lib.hid hbel; clear hbel
      clear HS HL HAT HOWN HRA HI
      obtain ⟨w1, hw1⟩ : ∃ x, x = wr := ⟨_, rfl⟩
      subst hw1
      have HT : Hid (∀ j, j < O.length → List.take (j + 1) O = List.take j O ++ [O.getD j 0]) := Lib.hid (fun j hj => by rw [List.take_succ_eq_append_getElem hj]; simp [List.getD, hj])
      have HM : Hid (∀ j, j < O.length → O.getD j 0 ∈ O) := Lib.hid (fun j hj => by simp [List.getD, hj])
      go_wp2_with fail
      go_loopw [0, 8] (fun v i wr => ∃ j : Nat, j ≤ O.length ∧ i = .int .i64 j ∧ RAt wr v (LS.clr L (List.take j O)) ∧ Below w1.heap.size w1 wr) (fun _ i _ => O.length - (intOf i).toNat)
      case atStart => exact ⟨0, by omega, rfl, REL1.out.1, REL1.out.2⟩
      case round =>
        clear REL1
        obtain ⟨j, hj, rfl, hra, hbl⟩ := hrel
        have hzr2 := hbl.size
        by_cases hlj : j < O.length
        · have ht := HT.out j hlj
          have hm := HSUB.out _ (HM.out j hlj)
          have hsub : ∀ m ∈ List.take j O, m ∈ LS.all L := fun m hm => HSUB.out m (List.take_subset _ _ hm)
          obtain ⟨b, off, rfl, hbk, hcell⟩ := (HIO.out.below hbl) j hlj
          obtain ⟨av, cv, rfl, hrw⟩ := hra.open_
          obtain ⟨x, hx⟩ : ∃ x, LS.get (LS.clr L (List.take j O)) (O.getD j 0) = some x := Option.isSome_iff_exists.1 (mem_all.1 (by rw [all_clr hsub]; exact hm))
          have hp := rput_m (ca := cv) hrw (by rw [length_clr]; omega) hx ⟨true, 0, 0⟩
          rw [← clr_snoc, ← ht] at hp
          generalize O.getD j 0 = m at *
          have HP := Lib.hid hp; clear hp
          clear ht hx hrw hsub hm hra
          generalize LS.clr L (List.take j O) = L1 at *
          obtain ⟨L2, hL2⟩ : ∃ L2, LS.clr L (List.take (j + 1) O) = L2 := ⟨_, rfl⟩
          rw [hL2] at HP
          have HL2 := Lib.hid hL2; clear hL2
          have HB := Lib.hid hbl; clear hbl
          go_wp2_with fail
          refine HP.out.mono ?_
          rintro e w2 ⟨v2, rfl, hra2, hb2⟩
          have hR2 := Lib.hid hra2; clear hra2
          have hB2 : Hid (Below w1.heap.size w1 w2) := Lib.hid (HB.out.trans (hb2.mono hzr2)); clear hb2
          go_wp2_with fail
          go_roundw
          case rel => exact ⟨j + 1, by omega, by go_num, by rw [HL2.out]; exact hR2.out, hB2.out⟩
          case measure => simp [intOf]; omega
        · obtain rfl : j = O.length := by omega
          rw [List.take_length] at hra
          obtain ⟨av, cv, rfl, -⟩ := hra.open_
          have HR := Lib.hid hra; clear hra
          have HB := Lib.hid hbl; clear hbl
          have hzw := HBEL.out.size
          go_wp2
          go_ret2
          exact ⟨_, _, rfl, HR.out, own_below HROW.out HB.out, HBEL.out.trans (HB.out.mono hzw)⟩

theorem rmake2 (h : RAt w (.slice a L.length ca) L) (hn : L.length ≤ 5864062014804) :
    Calls Try.prog 21 #[.slice a L.length ca] w fun e w' => ∃ v, e = .returned (.tuple #[v, .int .i64 (LS.makeNo L), .int .i64 (LS.makeErr L)]) ∧ RAt w' v (LS.make L) ∧ Below w.heap.size w w' := by
  obtain ⟨a', c', hv, hrows⟩ := h.open_
  injection hv with hv1 _ hv3
  subst hv1 hv3
  exact rmake_any hrows h hn
end
end Go.Proofs.Ytbfnadpkgiglmaa
