/-
  The document's own mutexes: Drop, Take, Give, Leave. Conditions: as in Lk6; no count is above 2^62.
-/
import Derived.Test.YtbfnadpkgiglmaaLk7
namespace Go.Proofs.Ytbfnadpkgiglmaa
open Go.RowKit Go.Maps
set_option linter.unusedVariables false
set_option linter.unusedSimpArgs false

theorem getV_none {L : LS} {m : Int} (h : LS.get L m = none) : getV L m = .tuple #[.agg #[.bool false, .int .i64 0, .int .i64 0], .bool false] := by unfold getV; rw [h]
theorem getV_some {L : LS} {m : Int} {x : Lk} (h : LS.get L m = some x) : getV L m = .tuple #[.agg #[.bool x.is, .int .i64 x.ow, .int .i64 x.ct], .bool true] := by unfold getV; rw [h]
theorem rput_m {w : World} {a : Option Addr} {ca : Nat} {L : LS} (h : RowsAt w a L) (hn : L.length ≤ 5864062014805) {m : Int} {y : Lk} (hy : LS.get L m = some y) (x : Lk) :
    Calls Try.prog 29 #[.slice a L.length ca, .int .i64 m, .agg #[.bool x.is, .int .i64 x.ow, .int .i64 x.ct]] w fun e w' => ∃ v, e = .returned v ∧ RAt w' v (LS.put L m x) ∧ Below w.heap.size w w' := by
  obtain ⟨i, rfl, h1, h2, h3⟩ := get_some hy
  have e : ((i : Int) + 1 - 1).toNat = i := by omega
  unfold LS.put
  rw [e]
  exact rput_any h hn h1 x
theorem RAt.below {w w' : World} {v : Value} {L : LS} (h : RAt w v L) (hb : Below w.heap.size w w') : RAt w' v L := own_below h hb

section
variable {w : World} {a : Option Addr} {ca : Nat} {L : LS} {c : Int}
set_option maxRecDepth 1000000 in
set_option maxHeartbeats 4000000 in
theorem rdrop_any (h : RAt w (.slice a L.length ca) L) (hok : LS.Ok L c) (hcb : c < 4611686018427387904) (hn : L.length ≤ 5864062014805) {m : Int} (hm : (ik m).wf = true) :
    Calls Try.prog 22 #[.slice a L.length ca, .int .i64 m] w fun e w' => ∃ v, e = .returned (.tuple #[v, .int .i64 (LS.dropErr L m)]) ∧ RAt w' v (LS.drop L m) ∧ Below w.heap.size w w' := by
  obtain ⟨a', c', hv, hrows⟩ := h.open_
  injection hv with hv1 _ hv3
  subst hv1 hv3
  have hg := rget_any (ca := ca) hrows hn hm
  have hget := fun x (hx : LS.get L m = some x) => hok.get hx
  unfold LS.drop LS.dropErr
  have HRA := Lib.hid h; clear h
  have HI := Lib.hid hrows; clear hrows
  cases hx : LS.get L m with
  | none =>
    rw [getV_none hx] at hg
    dsimp only
    have HG := Lib.hid hg; clear hg hx hget hok
    go_enter Try.func22, Try.ntmps22
    go_wp2_with fail
    refine HG.out.mono ?_
    rintro e w1 ⟨rfl, hb⟩
    have hz1' := hb.size
    have HB := Lib.hid hb; clear hb
    go_wp2
    go_ret2
    have hbb := HB.out.alloc hz1' (.cells #[.bool false, .int .i64 0, .int .i64 0] 35)
    exact ⟨_, rfl, HRA.out.below hbb, hbb⟩
  | some x =>
    rw [getV_some hx] at hg
    have hget := hget x hx
    have hput := fun y W (hW : Below w.heap.size w W) => rput_m (ca := ca) (HI.out.below hW) hn hx y
    have HP := Lib.hid hput; clear hput
    have HG := Lib.hid hg; clear hg hx hok
    dsimp only
    by_cases h0 : 0 < x.ct
    · rw [if_pos h0, if_pos h0]
      clear HP hget
      generalize hxi : x.is = xi at *
      generalize hxo : x.ow = xo at *
      generalize hxc : x.ct = xc at *
      clear hxi hxo hxc
      go_enter Try.func22, Try.ntmps22
      go_wp2_with fail
      refine HG.out.mono ?_
      rintro e w1 ⟨rfl, hb⟩
      have hz1' := hb.size
      have HB := Lib.hid hb; clear hb
      go_wp2
      go_ret2
      have hbb := HB.out.alloc hz1' (.cells #[.bool xi, .int .i64 xo, .int .i64 xc] 35)
      exact ⟨_, rfl, HRA.out.below hbb, hbb⟩
    · rw [if_neg h0, if_neg h0]
      clear hget
      generalize hxi : x.is = xi at *
      generalize hxo : x.ow = xo at *
      generalize hxc : x.ct = xc at *
      clear hxi hxo hxc
      go_enter Try.func22, Try.ntmps22
      go_wp2_with fail
      refine HG.out.mono ?_
      rintro e w1 ⟨rfl, hb⟩
      have hz1' := hb.size
      have HB := Lib.hid hb; clear hb
      have hbb := HB.out.alloc hz1' (.cells #[.bool xi, .int .i64 xo, .int .i64 xc] 35)
      have hp := HP.out ⟨false, 0, 0⟩ _ hbb
      dsimp only at hp
      have HPP := Lib.hid hp; clear hp
      have HBB := Lib.hid hbb; clear hbb
      go_wp2_with fail
      refine HPP.out.mono ?_
      rintro e w2 ⟨v, rfl, hra, hb2⟩
      have HR2 := Lib.hid hra; clear hra
      have HB2 := Lib.hid hb2; clear hb2
      go_wp2_with fail
      go_ret2
      exact ⟨_, rfl, HR2.out, HBB.out.trans (HB2.out.mono (by simp; omega))⟩
set_option maxRecDepth 1000000 in
set_option maxHeartbeats 4000000 in
theorem rtake_any (h : RAt w (.slice a L.length ca) L) (hok : LS.Ok L c) (hcb : c < 4611686018427387904) (hn : L.length ≤ 5864062014805) {m : Int} (hm : (ik m).wf = true) (t : Int) :
    Calls Try.prog 23 #[.slice a L.length ca, .int .i64 m, .int .i64 t] w fun e w' => ∃ v, e = .returned (.tuple #[v, .int .i64 (LS.takeErr L m t)]) ∧ RAt w' v (LS.take L m t) ∧ Below w.heap.size w w' := by
  obtain ⟨a', c', hv, hrows⟩ := h.open_
  injection hv with hv1 _ hv3
  subst hv1 hv3
  have hg := rget_any (ca := ca) hrows hn hm
  have hget := fun x (hx : LS.get L m = some x) => hok.get hx
  unfold LS.take LS.takeErr
  have HRA := Lib.hid h; clear h
  have HI := Lib.hid hrows; clear hrows
  cases hx : LS.get L m with
  | none =>
    rw [getV_none hx] at hg
    dsimp only
    have HG := Lib.hid hg; clear hg hx hget hok
    go_enter Try.func23, Try.ntmps23
    go_wp2_with fail
    refine HG.out.mono ?_
    rintro e w1 ⟨rfl, hb⟩
    have hz1' := hb.size
    have HB := Lib.hid hb; clear hb
    go_wp2
    go_ret2
    have hbb := HB.out.alloc hz1' (.cells #[.bool false, .int .i64 0, .int .i64 0] 35)
    exact ⟨_, rfl, HRA.out.below hbb, hbb⟩
  | some x =>
    rw [getV_some hx] at hg
    have hget := hget x hx
    have hput := fun y W (hW : Below w.heap.size w W) => rput_m (ca := ca) (HI.out.below hW) hn hx y
    have HP := Lib.hid hput; clear hput
    have HG := Lib.hid hg; clear hg hx hok
    dsimp only
    by_cases ht : t < 1
    · rw [if_pos ht, if_pos ht]
      clear HP hget
      generalize hxi : x.is = xi at *
      generalize hxo : x.ow = xo at *
      generalize hxc : x.ct = xc at *
      clear hxi hxo hxc
      go_enter Try.func23, Try.ntmps23
      go_wp2_with fail
      refine HG.out.mono ?_
      rintro e w1 ⟨rfl, hb⟩
      have hz1' := hb.size
      have HB := Lib.hid hb; clear hb
      go_wp2
      go_ret2
      have hbb := HB.out.alloc hz1' (.cells #[.bool xi, .int .i64 xo, .int .i64 xc] 35)
      exact ⟨_, rfl, HRA.out.below hbb, hbb⟩
    · rw [if_neg ht, if_neg ht]
      by_cases h0 : 0 < x.ct ∧ x.ow ≠ t
      · rw [if_pos h0, if_pos h0]
        clear HP hget
        generalize hxi : x.is = xi at *
        generalize hxo : x.ow = xo at *
        generalize hxc : x.ct = xc at *
        clear hxi hxo hxc
        obtain ⟨h0, h1⟩ := h0
        have hb1 : (xo != t) = true := by simpa using h1
        go_enter Try.func23, Try.ntmps23
        go_wp2_with fail
        refine HG.out.mono ?_
        rintro e w1 ⟨rfl, hb⟩
        have hz1' := hb.size
        have HB := Lib.hid hb; clear hb
        go_wp2
        go_ret2
        have hbb := HB.out.alloc hz1' (.cells #[.bool xi, .int .i64 xo, .int .i64 xc] 35)
        exact ⟨_, rfl, HRA.out.below hbb, hbb⟩
      · rw [if_neg h0, if_neg h0]
        have hwr : IntKind.i64.wrap (x.ct + 1) = x.ct + 1 := by rw [IntKind.wrap_i64]; omega
        clear hget
        generalize hxi : x.is = xi at *
        generalize hxo : x.ow = xo at *
        generalize hxc : x.ct = xc at *
        clear hxi hxo hxc
        by_cases h1 : 0 < xc
        · have h2 : (xo != t) = false := by simpa using (fun e => h0 ⟨h1, e⟩)
          clear h0
          go_enter Try.func23, Try.ntmps23
          go_wp2_with fail
          refine HG.out.mono ?_
          rintro e w1 ⟨rfl, hb⟩
          have hz1' := hb.size
          have HB := Lib.hid hb; clear hb
          have hbb := HB.out.alloc hz1' (.cells #[.bool xi, .int .i64 xo, .int .i64 xc] 35)
          have hp := HP.out ⟨true, t, xc + 1⟩ _ hbb
          dsimp only at hp
          have HPP := Lib.hid hp; clear hp
          have HBB := Lib.hid hbb; clear hbb
          go_wp2_with fail
          refine HPP.out.mono ?_
          rintro e w2 ⟨v, rfl, hra, hb2⟩
          have HR2 := Lib.hid hra; clear hra
          have HB2 := Lib.hid hb2; clear hb2
          go_wp2_with fail
          go_ret2
          exact ⟨_, rfl, HR2.out, HBB.out.trans (HB2.out.mono (by simp; omega))⟩
        · clear h0
          go_enter Try.func23, Try.ntmps23
          go_wp2_with fail
          refine HG.out.mono ?_
          rintro e w1 ⟨rfl, hb⟩
          have hz1' := hb.size
          have HB := Lib.hid hb; clear hb
          have hbb := HB.out.alloc hz1' (.cells #[.bool xi, .int .i64 xo, .int .i64 xc] 35)
          have hp := HP.out ⟨true, t, xc + 1⟩ _ hbb
          dsimp only at hp
          have HPP := Lib.hid hp; clear hp
          have HBB := Lib.hid hbb; clear hbb
          go_wp2_with fail
          refine HPP.out.mono ?_
          rintro e w2 ⟨v, rfl, hra, hb2⟩
          have HR2 := Lib.hid hra; clear hra
          have HB2 := Lib.hid hb2; clear hb2
          go_wp2_with fail
          go_ret2
          exact ⟨_, rfl, HR2.out, HBB.out.trans (HB2.out.mono (by simp; omega))⟩
set_option maxRecDepth 1000000 in
set_option maxHeartbeats 4000000 in
theorem rgive_any (h : RAt w (.slice a L.length ca) L) (hok : LS.Ok L c) (hcb : c < 4611686018427387904) (hn : L.length ≤ 5864062014805) {m : Int} (hm : (ik m).wf = true) (t : Int) :
    Calls Try.prog 24 #[.slice a L.length ca, .int .i64 m, .int .i64 t] w fun e w' => ∃ v, e = .returned (.tuple #[v, .int .i64 (LS.giveErr L m t)]) ∧ RAt w' v (LS.give L m t) ∧ Below w.heap.size w w' := by
  obtain ⟨a', c', hv, hrows⟩ := h.open_
  injection hv with hv1 _ hv3
  subst hv1 hv3
  have hg := rget_any (ca := ca) hrows hn hm
  have hget := fun x (hx : LS.get L m = some x) => hok.get hx
  unfold LS.give LS.giveErr
  have HRA := Lib.hid h; clear h
  have HI := Lib.hid hrows; clear hrows
  cases hx : LS.get L m with
  | none =>
    rw [getV_none hx] at hg
    dsimp only
    have HG := Lib.hid hg; clear hg hx hget hok
    go_enter Try.func24, Try.ntmps24
    go_wp2_with fail
    refine HG.out.mono ?_
    rintro e w1 ⟨rfl, hb⟩
    have hz1' := hb.size
    have HB := Lib.hid hb; clear hb
    go_wp2
    go_ret2
    have hbb := HB.out.alloc hz1' (.cells #[.bool false, .int .i64 0, .int .i64 0] 35)
    exact ⟨_, rfl, HRA.out.below hbb, hbb⟩
  | some x =>
    rw [getV_some hx] at hg
    have hget := hget x hx
    have hput := fun y W (hW : Below w.heap.size w W) => rput_m (ca := ca) (HI.out.below hW) hn hx y
    have HP := Lib.hid hput; clear hput
    have HG := Lib.hid hg; clear hg hx hok
    dsimp only
    by_cases ht : t < 1
    · rw [if_pos ht, if_pos ht]
      clear HP hget
      generalize hxi : x.is = xi at *
      generalize hxo : x.ow = xo at *
      generalize hxc : x.ct = xc at *
      clear hxi hxo hxc
      go_enter Try.func24, Try.ntmps24
      go_wp2_with fail
      refine HG.out.mono ?_
      rintro e w1 ⟨rfl, hb⟩
      have hz1' := hb.size
      have HB := Lib.hid hb; clear hb
      go_wp2
      go_ret2
      have hbb := HB.out.alloc hz1' (.cells #[.bool xi, .int .i64 xo, .int .i64 xc] 35)
      exact ⟨_, rfl, HRA.out.below hbb, hbb⟩
    · rw [if_neg ht, if_neg ht]
      by_cases h0 : x.ct = 0 ∨ x.ow ≠ t
      · rw [if_pos h0, if_pos h0]
        clear HP hget
        generalize hxi : x.is = xi at *
        generalize hxo : x.ow = xo at *
        generalize hxc : x.ct = xc at *
        clear hxi hxo hxc
        by_cases h1 : xc = 0
        · subst h1
          clear h0
          go_enter Try.func24, Try.ntmps24
          go_wp2_with fail
          refine HG.out.mono ?_
          rintro e w1 ⟨rfl, hb⟩
          have hz1' := hb.size
          have HB := Lib.hid hb; clear hb
          go_wp2
          go_ret2
          have hbb := HB.out.alloc hz1' (.cells #[.bool xi, .int .i64 xo, .int .i64 0] 35)
          exact ⟨_, rfl, HRA.out.below hbb, hbb⟩
        · have hb1 : (xc == 0) = false := by simpa using h1
          have hb2 : (xo != t) = true := by simpa using (h0.resolve_left h1)
          clear h0
          go_enter Try.func24, Try.ntmps24
          go_wp2_with fail
          refine HG.out.mono ?_
          rintro e w1 ⟨rfl, hb⟩
          have hz1' := hb.size
          have HB := Lib.hid hb; clear hb
          go_wp2
          go_ret2
          have hbb := HB.out.alloc hz1' (.cells #[.bool xi, .int .i64 xo, .int .i64 xc] 35)
          exact ⟨_, rfl, HRA.out.below hbb, hbb⟩
      · rw [if_neg h0, if_neg h0]
        have hwr : IntKind.i64.wrap (x.ct - 1) = x.ct - 1 := by rw [IntKind.wrap_i64]; omega
        have hb1 : (x.ct == 0) = false := by simp; omega
        have hb2 : (x.ow != t) = false := by simp; omega
        by_cases h1 : x.ct = 1
        · rw [if_pos h1]
          have hb3 : (x.ct == 1) = true := by simpa using h1
          clear hget h0 h1
          generalize hxi : x.is = xi at *
          generalize hxo : x.ow = xo at *
          generalize hxc : x.ct = xc at *
          clear hxi hxo hxc
          go_enter Try.func24, Try.ntmps24
          go_wp2_with fail
          refine HG.out.mono ?_
          rintro e w1 ⟨rfl, hb⟩
          have hz1' := hb.size
          have HB := Lib.hid hb; clear hb
          have hbb := HB.out.alloc hz1' (.cells #[.bool xi, .int .i64 xo, .int .i64 xc] 35)
          have hp := HP.out ⟨true, 0, 0⟩ _ hbb
          dsimp only at hp
          have HPP := Lib.hid hp; clear hp
          have HBB := Lib.hid hbb; clear hbb
          go_wp2_with fail
          refine HPP.out.mono ?_
          rintro e w2 ⟨v, rfl, hra, hb2⟩
          have HR2 := Lib.hid hra; clear hra
          have HB2 := Lib.hid hb2; clear hb2
          go_wp2_with fail
          go_ret2
          exact ⟨_, rfl, HR2.out, HBB.out.trans (HB2.out.mono (by simp; omega))⟩
        · rw [if_neg h1]
          have hb3 : (x.ct == 1) = false := by simpa using h1
          clear hget h0 h1
          generalize hxi : x.is = xi at *
          generalize hxo : x.ow = xo at *
          generalize hxc : x.ct = xc at *
          clear hxi hxo hxc
          go_enter Try.func24, Try.ntmps24
          go_wp2_with fail
          refine HG.out.mono ?_
          rintro e w1 ⟨rfl, hb⟩
          have hz1' := hb.size
          have HB := Lib.hid hb; clear hb
          have hbb := HB.out.alloc hz1' (.cells #[.bool xi, .int .i64 xo, .int .i64 xc] 35)
          have hp := HP.out ⟨true, t, xc - 1⟩ _ hbb
          dsimp only at hp
          have HPP := Lib.hid hp; clear hp
          have HBB := Lib.hid hbb; clear hbb
          go_wp2_with fail
          refine HPP.out.mono ?_
          rintro e w2 ⟨v, rfl, hra, hb2⟩
          have HR2 := Lib.hid hra; clear hra
          have HB2 := Lib.hid hb2; clear hb2
          go_wp2_with fail
          go_ret2
          exact ⟨_, rfl, HR2.out, HBB.out.trans (HB2.out.mono (by simp; omega))⟩
end
end Go.Proofs.Ytbfnadpkgiglmaa
