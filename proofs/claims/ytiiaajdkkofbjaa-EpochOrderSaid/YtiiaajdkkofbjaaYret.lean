/-
  The contract of package epoch's Retire over the plain state of a yard. Conditions: the yard stands for a plain state; fewer than 2^62 moments have gone.
-/
import Derived.Test.YtiiaajdkkofbjaaYend
namespace Go.Proofs.Ytiiaajdkkofbjaa
open Go.RowKit Go.Maps
set_option linter.unusedVariables false

def waits (L : List Wt) (b : Int) : Bool := L.any (fun r => r.block == b)
theorem eqLit_any {w : World} {Bb : Nat} (b x0 x1 x2 : Int) (hb : Blk w Bb 3 #[.int .i64 b]) :
    Calls Try.prog 63 #[.agg #[.int .i64 x0, .int .i64 x1, .int .i64 x2], .pointer (some ⟨Bb, 0, none⟩)] w fun e w' => e = .returned (.bool (x0 == b)) ∧ Below w.heap.size w w' := by
  have hlt := hb.lt
  have cb := hb.cell 0
  simp at cb
  clear hb
  cases hx : (x0 == b)
  all_goals
    go_enter Try.func63, Try.ntmps63
    go_wp2
    go_ret
    exact ⟨rfl, (Below.refl _ _).alloc (Nat.le_refl _) _⟩

set_option maxHeartbeats 1000000 in
theorem idxEq_any {w : World} {Bb cap : Nat} {a : Option Addr} {L : List Wt} (b : Int) (hb : Blk w Bb 3 #[.int .i64 b]) (hw : IsWts w a L) (hlen : L.length ≤ 512) :
    Calls Try.prog 80 #[.slice a L.length cap, .func (.func 63) #[] #[.pointer (some ⟨Bb, 0, none⟩)]] w fun e w' => (∃ n : Int, e = .returned (.int .i64 n) ∧ -1 ≤ n ∧ n ≤ 512 ∧ decide (0 ≤ n) = waits L b) ∧ Below w.heap.size w w' := by
  have eg := enters_of Try.func63 (by kernel_rfl) rfl
  have HB := Lib.hid hb; clear hb
  have HW := Lib.hid hw; clear hw
  go_enter Try.func80, Try.ntmps80
  go_wp2
  go_loopw [5, 8] (fun _ i wr => ∃ k : Nat, k ≤ L.length ∧ i = .int .i64 k ∧ Below w.heap.size w wr ∧ Hid (∀ r ∈ L.take k, (r.block == b) = false)) (fun _ i _ => L.length - (intOf i).toNat)
  case atStart => exact ⟨0, by omega, rfl, Below.refl _ _, Lib.hid (by simp)⟩
  case round =>
    obtain ⟨k, hk, rfl, hbl, HA⟩ := hrel
    by_cases hlt : k < L.length
    · obtain ⟨g, rfl, hg, c0, c1, c2⟩ := (HW.out.below hbl) k hlt
      have hc := eqLit_any b L[k].block L[k].thread L[k].whn (HB.out.below hbl HB.out.lt)
      have hnew : (L[k].block == b) = false → ∀ r ∈ L.take (k + 1), (r.block == b) = false := by
        intro hh r hr
        rw [List.take_succ_eq_append_getElem hlt, List.mem_append] at hr
        rcases hr with hr | hr
        · exact HA.out r hr
        · rw [List.mem_singleton] at hr; rw [hr]; exact hh
      have hyes : (L[k].block == b) = true → waits L b = true := fun hh => by
        unfold waits; rw [List.any_eq_true]; exact ⟨L[k], List.getElem_mem _, hh⟩
      have HN := Lib.hid hnew; clear hnew
      have HY := Lib.hid hyes; clear hyes
      generalize L[k].block = x0 at c0 hc HN HY
      generalize L[k].thread = x1 at c1 hc
      generalize L[k].whn = x2 at c2 hc
      cases hx : (x0 == b) with
      | true =>
        rw [hx] at hc
        have HYY := Lib.hid (HY.out hx)
        have HC := Lib.hid hc; clear hc
        have HBL := Lib.hid hbl; clear hbl
        clear hx HN HY
        go_wp2_with fail
        refine HC.out.mono ?_
        rintro e w1 ⟨rfl, hb1⟩
        have HBN := Lib.hid (HBL.out.trans (hb1.mono HBL.out.size))
        clear hb1
        go_wp2
        go_ret
        exact ⟨⟨k, rfl, by omega, by omega, by rw [HYY.out]; simp⟩, HBN.out⟩
      | false =>
        rw [hx] at hc
        have HNN := Lib.hid (HN.out hx)
        have HC := Lib.hid hc; clear hc
        have HBL := Lib.hid hbl; clear hbl
        clear hx HN HY
        go_wp2_with fail
        refine HC.out.mono ?_
        rintro e w1 ⟨rfl, hb1⟩
        have HBN := Lib.hid (HBL.out.trans (hb1.mono HBL.out.size))
        clear hb1
        go_wp2
        go_roundw
        case rel => exact ⟨k + 1, by omega, by go_num, HBN.out, HNN⟩
        case measure => simp [intOf]; omega
    · obtain rfl : k = L.length := by omega
      have hno : waits L b = false := by
        have := HA.out
        rw [List.take_length] at this
        unfold waits
        rw [List.any_eq_false]
        intro r hr
        rw [this r hr]; simp
      have HNO := Lib.hid hno; clear hno
      have HBL := Lib.hid hbl; clear hbl
      go_wp2
      go_ret
      exact ⟨⟨-1, rfl, by omega, by omega, by rw [HNO.out]; simp⟩, HBL.out⟩

theorem hasEq_any {w : World} {Bb cap : Nat} {a : Option Addr} {L : List Wt} (b : Int) (hb : Blk w Bb 3 #[.int .i64 b]) (hw : IsWts w a L) (hlen : L.length ≤ 512) :
    Calls Try.prog 62 #[.slice a L.length cap, .func (.func 63) #[] #[.pointer (some ⟨Bb, 0, none⟩)]] w fun e w' => e = .returned (.bool (waits L b)) ∧ Below w.heap.size w w' := by
  have hc := idxEq_any (cap := cap) b hb hw hlen
  clear hb hw
  have HC := Lib.hid hc; clear hc
  go_enter Try.func62, Try.ntmps62
  go_wp2_with fail
  refine HC.out.mono ?_
  rintro e w' ⟨⟨r, rfl, h1, h2, hr⟩, hb⟩
  have HR := Lib.hid hr; clear hr
  have HB := Lib.hid hb; clear hb
  go_wp2
  go_ret
  exact ⟨by rw [← HR.out]; rfl, HB.out⟩

theorem size_hit {w : World} {X : Nat → Prop} {pa : Nat} {S : AS} (h : Arena w X pa S) {b : Int} (hwb : (ik b).wf = true) {cs : List Int} (hl : look S.bl b = some cs) :
    Calls Try.prog 30 #[.pointer (some ⟨pa, 0, none⟩), .int .i64 b] w fun e w' => e = .returned (.tuple #[.int .i64 cs.length, .int .i64 0]) ∧ w = w' := by
  obtain ⟨bm, D, row, h⟩ := h
  have hc := block_hit h hwb hl
  unfold rowOf at hc
  generalize row b = g at hc
  have HC := Lib.hid hc; clear hc
  clear h hl hwb
  go_enter Try.func30, Try.ntmps30
  go_wp2_with (go_at_call 64; refine HC.out.mono ?_; rintro e w' ⟨rfl, rfl⟩)
  go_ret2
  exact ⟨rfl, rfl⟩

def YS.retErr (Y : YS) (S : AS) (t b : Int) : Int :=
  if Y.isT t = false then 1 else if waits Y.wt b = true then 42 else if (look S.bl b).isNone = true then 20 else if Y.bound ≤ lim Y.sweepAt.wt t then 43 else 0
def YS.retAt (Y : YS) (S : AS) (t b : Int) : YS :=
  if Y.retErr S t b = 43 then Y.sweepAt else if Y.retErr S t b = 0 then { Y.sweepAt with now := Y.now + 1, wt := Y.sweepAt.wt ++ [⟨b, t, Y.now + 1⟩] } else Y
def AS.retAt (S : AS) (Y : YS) (t b : Int) : AS :=
  if Y.retErr S t b = 43 ∨ Y.retErr S t b = 0 then S.sweepAt Y else if Y.retErr S t b = 20 then S.fault else S

theorem ret_bad {w : World} {X : Nat → Prop} {pa py : Nat} {v : Value} {Y : YS} {S : AS} (h : YAt w X pa py v Y S) (t b : Int) (ht : Y.isT t = false) :
    Calls Try.prog 28 #[.pointer (some ⟨py, 0, none⟩), .int .i64 t, .int .i64 b] w fun e w' => e = .returned (.int .i64 1) ∧ Below w.heap.size w w' := by
  have hi := isT_any (h.alloc (Obj.cells #[.int .i64 b] 3)) t
  rw [ht] at hi
  have HI := Lib.hid hi; clear hi
  clear h ht
  go_enter Try.func28, Try.ntmps28
  go_wp2_with fail
  refine HI.out.mono ?_
  rintro e w1 ⟨rfl, rfl⟩
  go_wp2
  go_ret
  exact ⟨rfl, (Below.refl _ _).alloc (Nat.le_refl _) _⟩

theorem ret_twice {w : World} {X : Nat → Prop} {pa py : Nat} {v : Value} {Y : YS} {S : AS} (h : YAt w X pa py v Y S) (t b : Int) (ht : Y.isT t = true) (hw : waits Y.wt b = true) :
    Calls Try.prog 28 #[.pointer (some ⟨py, 0, none⟩), .int .i64 t, .int .i64 b] w fun e w' => e = .returned (.int .i64 42) ∧ Below w.heap.size w w' := by
  have hmf : ∀ (fn : Fn) (first cap : Array Value) (w : World), (Instr.makeFunc fn first cap).run Try.prog w = .ok (.func fn first cap) w := fun _ _ _ _ => rfl
  have h1 := h.alloc (Obj.cells #[.int .i64 b] 3)
  have hi := isT_any h1 t
  rw [ht] at hi
  obtain ⟨a, cap, hv, _, _, hr⟩ := row_wts h1.row
  have hp := h.head.lt
  have c13 := h.cells.2.2.2.2.1
  rw [hv] at c13
  have hc := hasEq_any (cap := cap) b (Blk.new w 3 #[.int .i64 b]) hr h.ok.few
  rw [hw] at hc
  have HI := Lib.hid hi; clear hi
  have HC := Lib.hid hc; clear hc
  clear h ht h1 hr hv hw
  go_enter Try.func28, Try.ntmps28
  go_wp2_with fail
  refine HI.out.mono ?_
  rintro e w1 ⟨rfl, rfl⟩
  go_wp2_with fail
  refine HC.out.mono ?_
  rintro e w1 ⟨rfl, hb⟩
  have HB := Lib.hid hb; clear hb
  go_wp2
  go_ret
  exact ⟨rfl, ((Below.refl _ _).alloc (Nat.le_refl _) _).trans (HB.out.mono (by simp))⟩

set_option maxHeartbeats 2000000 in
theorem ret_freed {w : World} {X : Nat → Prop} {pa py : Nat} {v : Value} {Y : YS} {S : AS} (h : YAt w X pa py v Y S) (t b : Int) (hwb : (ik b).wf = true) (ht : Y.isT t = true) (hw : waits Y.wt b = false) (hl : look S.bl b = none) :
    Calls Try.prog 28 #[.pointer (some ⟨py, 0, none⟩), .int .i64 t, .int .i64 b] w fun e w' => e = .returned (.int .i64 20) ∧ Yd w' X pa py Y S.fault ∧ Keep X w w' := by
  have hmf : ∀ (fn : Fn) (first cap : Array Value) (w : World), (Instr.makeFunc fn first cap).run Try.prog w = .ok (.func fn first cap) w := fun _ _ _ _ => rfl
  have h1 := h.alloc (Obj.cells #[.int .i64 b] 3)
  have hi := isT_any h1 t
  rw [ht] at hi
  obtain ⟨a, cap, hv, _, _, hr⟩ := row_wts h1.row
  have hp := h.head.lt
  have c13 := h.cells.2.2.2.2.1
  rw [hv] at c13
  have hc := hasEq_any (cap := cap) b (Blk.new w 3 #[.int .i64 b]) hr h.ok.few
  rw [hw] at hc
  have HI := Lib.hid hi; clear hi
  have HC := Lib.hid hc; clear hc
  have HV := Lib.hid hv; clear hv
  have HH := Lib.hid h1; clear h1
  have HL := Lib.hid hl; clear hl
  have HWB := Lib.hid hwb; clear hwb
  clear h ht hr hw
  go_enter Try.func28, Try.ntmps28
  go_wp2_with fail
  refine HI.out.mono ?_
  rintro e w1 ⟨rfl, rfl⟩
  go_wp2_with fail
  refine HC.out.mono ?_
  rintro e w1 ⟨rfl, hb⟩
  have h2 := HH.out.below hb
  obtain ⟨Z, har, _, hXZ, hback⟩ := Yd.arena ⟨v, h2⟩
  have hsz := size_any har.drew HWB.out
  have e0 : S.err0 b = 20 := by unfold AS.err0; rw [HL.out]
  have e1 : S.sizeAt b = 0 := by unfold AS.sizeAt; rw [HL.out]
  have e2 : S.touch b = S.fault := by unfold AS.touch; rw [HL.out]
  rw [e0, e1, e2] at hsz
  have cb := ((Blk.new w 3 #[.int .i64 b]).below hb (by simp)).cell 0
  have c0 := h2.cells.1
  simp at cb
  have hfin : ∀ w', Arena w' Z pa S.fault → Keep Z w1.drew w' → Yd w' X pa py Y S.fault ∧ Keep X w w' := fun w' ha hk => by
    have hk1 : Keep Z w1 w' := (Keep.refl _ _).drew.trans hk
    exact ⟨hback w' _ ha hk1, ((Keep.ofBelow' ((Below.refl w.heap.size w).alloc (Nat.le_refl _) _)).trans (Keep.ofBelow' hb)).trans (hk1.less hXZ)⟩
  have HFIN := Lib.hid hfin; clear hfin
  have HS := Lib.hid hsz; clear hsz
  clear e0 e1 e2 har hXZ hback h2 hb c13
  go_wp2
  go_region_with (go_at_call 30; refine HS.out.mono ?_; rintro e w2 ⟨rfl, ha, hk⟩; have HE := Lib.hid (HFIN.out w2 ha hk); clear ha hk)
  all_goals
    go_wp2
    go_ret
    exact ⟨rfl, HE.out⟩
end Go.Proofs.Ytiiaajdkkofbjaa
