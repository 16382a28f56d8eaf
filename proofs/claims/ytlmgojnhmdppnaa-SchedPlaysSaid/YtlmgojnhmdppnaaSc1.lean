/-
  The contracts of package sched's find, in, State, Counts, Pick, New. Conditions: the scheduler stands for a plain state.
-/
import Derived.Test.YtlmgojnhmdppnaaSc0
import Derived.Shelf.Abstract
namespace Go.Proofs.Ytlmgojnhmdppnaa
open Go.RowKit Go.Maps
set_option linter.unusedVariables false

theorem new_sched (most : Int) (w : World) {X : Nat → Prop} (hX : ¬ X w.heap.size) :
    Calls Try.prog 39 #[.int .i64 most] w fun e w' => e = .returned (.pointer (some ⟨w.heap.size, 0, none⟩)) ∧ Zd w' X w.heap.size ⟨min (max most 1) 8, 0, [], 0, 0⟩ ∧ Below w.heap.size w w' := by
  have hfin : Zd (w.alloc (Obj.cells #[.int .i64 (min (max most 1) 8), .int .i64 0, .slice none 0 0, .int .i64 0, .int .i64 0] 138)) X w.heap.size ⟨min (max most 1) 8, 0, [], 0, 0⟩ :=
    ⟨.slice none 0 0, ⟨Blk.new _ _ _, World.ownsRow_nil _ _ _ _, hX, fun g hg => by simp [Value.ownBlock] at hg, ⟨by show 1 ≤ min (max most 1) 8; omega, by show min (max most 1) 8 ≤ 8; omega, by show (([] : List Th).length : Int) ≤ min (max most 1) 8; simp only [List.length_nil]; omega, by simp, by simp, ⟨by simp, by simp⟩⟩⟩⟩
  have HF := Lib.hid hfin; clear hfin
  go_enter Try.func39, Try.ntmps39
  by_cases h1 : most < 1
  · have e1 : min (max most 1) 8 = 1 := by omega
    have HF1 := HF
    rw [e1] at HF1 ⊢
    clear HF e1
    go_wp2
    go_ret
    exact ⟨rfl, HF1.out, (Below.refl _ _).alloc (Nat.le_refl _) _⟩
  · by_cases h8 : 8 < most
    · have e1 : min (max most 1) 8 = 8 := by omega
      have HF1 := HF
      rw [e1] at HF1 ⊢
      clear HF e1
      go_wp2
      go_ret
      exact ⟨rfl, HF1.out, (Below.refl _ _).alloc (Nat.le_refl _) _⟩
    · have e1 : min (max most 1) 8 = most := by omega
      have HF1 := HF
      rw [e1] at HF1 ⊢
      clear HF e1
      go_wp2
      go_ret
      exact ⟨rfl, HF1.out, (Below.refl _ _).alloc (Nat.le_refl _) _⟩

theorem thLit_any {w : World} {Bb : Nat} (t x0 x1 x2 : Int) (hb : Blk w Bb 3 #[.int .i64 t]) :
    Calls Try.prog 123 #[.agg #[.int .i64 x0, .int .i64 x1, .int .i64 x2], .pointer (some ⟨Bb, 0, none⟩)] w fun e w' => e = .returned (.bool (x0 == t)) ∧ Below w.heap.size w w' := by
  have hlt := hb.lt
  have cb := hb.cell 0
  simp at cb
  clear hb
  cases hx : (x0 == t)
  all_goals
    go_enter Try.func123, Try.ntmps123
    go_wp2
    go_ret
    exact ⟨rfl, (Below.refl _ _).alloc (Nat.le_refl _) _⟩

def place (l : List Th) (t : Int) : Int := match idx l t with | none => -1 | some i => i

set_option maxHeartbeats 1000000 in
theorem idxTh_any {w : World} {Bb cap : Nat} {a : Option Addr} {L : List Th} (t : Int) (hb : Blk w Bb 3 #[.int .i64 t]) (hw : IsThs w a L) (hlen : L.length ≤ 8) :
    Calls Try.prog 122 #[.slice a L.length cap, .func (.func 123) #[] #[.pointer (some ⟨Bb, 0, none⟩)]] w fun e w' => e = .returned (.int .i64 (place L t)) ∧ Below w.heap.size w w' := by
  have eg := enters_of Try.func123 (by kernel_rfl) rfl
  have HB := Lib.hid hb; clear hb
  have HW := Lib.hid hw; clear hw
  go_enter Try.func122, Try.ntmps122
  go_wp2
  go_loopw [5, 8] (fun _ i wr => ∃ k : Nat, k ≤ L.length ∧ i = .int .i64 k ∧ Below w.heap.size w wr ∧ Hid (∀ r ∈ L.take k, (r.no == t) = false)) (fun _ i _ => L.length - (intOf i).toNat)
  case atStart => exact ⟨0, by omega, rfl, Below.refl _ _, Lib.hid (by simp)⟩
  case round =>
    obtain ⟨k, hk, rfl, hbl, HA⟩ := hrel
    by_cases hlt : k < L.length
    · obtain ⟨g, rfl, hg, c0, c1, c2⟩ := (HW.out.below hbl) k hlt
      have hc := thLit_any t L[k].no L[k].st L[k].key (HB.out.below hbl HB.out.lt)
      have hnew : (L[k].no == t) = false → ∀ r ∈ L.take (k + 1), (r.no == t) = false := by
        intro hh r hr
        rw [List.take_succ_eq_append_getElem hlt, List.mem_append] at hr
        rcases hr with hr | hr
        · exact HA.out r hr
        · rw [List.mem_singleton] at hr; rw [hr]; exact hh
      have hyes : (L[k].no == t) = true → place L t = k := fun hh => by
        unfold place
        have : idx L t = some k := by
          unfold idx
          rw [List.findIdx?_eq_some_iff_getElem]
          refine ⟨hlt, hh, fun j hj => ?_⟩
          have := HA.out L[j] (List.mem_take_iff_getElem.2 ⟨j, by omega, rfl⟩)
          simp [this]
        rw [this]
      have HN := Lib.hid hnew; clear hnew
      have HY := Lib.hid hyes; clear hyes
      generalize L[k].no = x0 at c0 hc HN HY
      generalize L[k].st = x1 at c1 hc
      generalize L[k].key = x2 at c2 hc
      cases hx : (x0 == t) with
      | true =>
        rw [hx] at hc
        have HYY := Lib.hid (HY.out hx)
        have HC := Lib.hid hc; clear hc
        have HBL := Lib.hid hbl; clear hbl
        clear hx HN HY
        go_wp2_with fail
        refine HC.out.mono ?_
        rintro e w1 ⟨rfl, hb1⟩
        have HBN := Lib.hid (HBL.out.trans (hb1.mono HBL.out.size))
        clear hb1
        go_wp2
        go_ret
        exact ⟨by rw [HYY.out]; rfl, HBN.out⟩
      | false =>
        rw [hx] at hc
        have HNN := Lib.hid (HN.out hx)
        have HC := Lib.hid hc; clear hc
        have HBL := Lib.hid hbl; clear hbl
        clear hx HN HY
        go_wp2_with fail
        refine HC.out.mono ?_
        rintro e w1 ⟨rfl, hb1⟩
        have HBN := Lib.hid (HBL.out.trans (hb1.mono HBL.out.size))
        clear hb1
        go_wp2
        go_roundw
        case rel => exact ⟨k + 1, by omega, by go_num, HBN.out, HNN⟩
        case measure => simp [intOf]; omega
    · obtain rfl : k = L.length := by omega
      have hno : place L t = -1 := by
        have := HA.out
        rw [List.take_length] at this
        unfold place idx
        rw [List.findIdx?_eq_none_iff.2 this]
      have HNO := Lib.hid hno; clear hno
      have HBL := Lib.hid hbl; clear hbl
      go_wp2
      go_ret
      exact ⟨by rw [HNO.out]; rfl, HBL.out⟩

theorem find_any {w : World} {X : Nat → Prop} {ps : Nat} {v : Value} {Z : ZS} (h : ZAt w X ps v Z) (t : Int) :
    Calls Try.prog 99 #[.pointer (some ⟨ps, 0, none⟩), .int .i64 t] w fun e w' => e = .returned (.int .i64 (place Z.ths t)) ∧ Below w.heap.size w w' := by
  have hmf : ∀ (fn : Fn) (first cap : Array Value) (w : World), (Instr.makeFunc fn first cap).run Try.prog w = .ok (.func fn first cap) w := fun _ _ _ _ => rfl
  have h1 := h.alloc (Obj.cells #[.int .i64 t] 3)
  obtain ⟨a, cap, hv, _, _, hr⟩ := row_ths h1.row
  have hp := h.head.lt
  have c2 := h1.cells.2.2.1
  rw [hv] at c2
  have hc := idxTh_any (cap := cap) t (Blk.new w 3 #[.int .i64 t]) hr h.ok.eight
  have HC := Lib.hid hc; clear hc
  clear h h1 hr hv
  go_enter Try.func99, Try.ntmps99
  go_wp2_with fail
  refine HC.out.mono ?_
  rintro e w1 ⟨rfl, hb⟩
  have HB := Lib.hid hb; clear hb
  go_wp2
  go_ret
  exact ⟨rfl, ((Below.refl _ _).alloc (Nat.le_refl _) _).trans (HB.out.mono (by simp))⟩

theorem place_cases (l : List Th) (t : Int) (P : Prop) (h1 : idx l t = none → place l t = -1 → stOf l t = 0 → P) (h2 : ∀ i (hi : i < l.length), idx l t = some i → place l t = i → stOf l t = l[i].st → P) : P := by
  cases h : idx l t with
  | none => exact h1 h (by unfold place; rw [h]) (stOf_none h)
  | some i =>
    obtain ⟨hi, hs⟩ := stOf_some h
    exact h2 i hi h (by unfold place; rw [h]) hs

/-- The place, where the call goes well. -/
def ZS.inAt (Z : ZS) (st t : Int) : Int := if Z.inErr st t = 0 then place Z.ths t else 0

theorem in_any {w : World} {X : Nat → Prop} {ps : Nat} {v : Value} {Z : ZS} (h : ZAt w X ps v Z) (st t : Int) :
    Calls Try.prog 100 #[.pointer (some ⟨ps, 0, none⟩), .int .i64 st, .int .i64 t] w fun e w' => e = .returned (.tuple #[.int .i64 (Z.inAt st t), .int .i64 (Z.inErr st t)]) ∧ Below w.heap.size w w' := by
  have hc := find_any h t
  refine place_cases Z.ths t _ ?_ ?_
  · intro h0 h1 h2
    have e1 : Z.inErr st t = 61 := by unfold ZS.inErr; rw [if_pos h2]
    have e0 : Z.inAt st t = 0 := by unfold ZS.inAt; rw [e1]; rfl
    rw [h1] at hc
    rw [e1, e0]
    have HC := Lib.hid hc; clear hc
    clear h h0 h1 h2 e0 e1
    go_enter Try.func100, Try.ntmps100
    go_wp2_with fail
    refine HC.out.mono ?_
    rintro e w1 ⟨rfl, hb⟩
    have HB := Lib.hid hb; clear hb
    go_wp2
    go_ret2
    exact ⟨rfl, HB.out⟩
  · intro i hi h0 h1 h2
    have hr0 := h.ok.ris.2 Z.ths[i] (List.getElem_mem _)
    have h8 := h.ok.eight
    obtain ⟨a, cap, hv, hcap, hmax, hr⟩ := row_ths h.row
    have HH := Lib.hid h
    have HR := Lib.hid hr; clear hr
    have c2 := h.cells.2.2.1
    rw [hv] at c2
    rw [h1] at hc
    have hlt := h.head.lt
    by_cases hs : Z.ths[i].st = st
    · have e1 : Z.inErr st t = 0 := by unfold ZS.inErr; rw [h2, if_neg (by omega), if_pos hs]
      have e0 : Z.inAt st t = i := by unfold ZS.inAt; rw [e1, if_pos rfl, h1]
      rw [e1, e0]
      have hsb : (st != st) = false := by simp
      have HC := Lib.hid hc; clear hc
      have HV := Lib.hid hv; clear hv
      clear h h0 h1 h2 e0 e1 hr0
      go_enter Try.func100, Try.ntmps100
      go_wp2_with fail
      refine HC.out.mono ?_
      rintro e w1 ⟨rfl, hb⟩
      obtain ⟨g, rfl, hg, d0, d1, d2⟩ := (HR.out.below hb) i hi
      rw [hs] at d1
      have c2' := (HH.out.below hb).cells.2.2.1
      rw [HV.out] at c2'
      have HB := Lib.hid hb; clear hb
      clear hs d0 d2 c2 HC HR HH
      go_wp2
      go_ret2
      exact ⟨rfl, HB.out⟩
    · have e1 : Z.inErr st t = 60 := by unfold ZS.inErr; rw [h2, if_neg (by omega), if_neg hs]
      have e0 : Z.inAt st t = 0 := by unfold ZS.inAt; rw [e1]; rfl
      rw [e1, e0]
      have hsb : (Z.ths[i].st != st) = true := by simpa using hs
      have HC := Lib.hid hc; clear hc
      have HV := Lib.hid hv; clear hv
      clear h h0 h1 h2 e0 e1 hr0
      go_enter Try.func100, Try.ntmps100
      go_wp2_with fail
      refine HC.out.mono ?_
      rintro e w1 ⟨rfl, hb⟩
      obtain ⟨g, rfl, hg, d0, d1, d2⟩ := (HR.out.below hb) i hi
      generalize Z.ths[i].st = x1 at d1 hsb
      have c2' := (HH.out.below hb).cells.2.2.1
      rw [HV.out] at c2'
      have HB := Lib.hid hb; clear hb
      clear hs d0 d2 c2 HC HR HH
      go_wp2
      go_ret2
      exact ⟨rfl, HB.out⟩

theorem state_at {w : World} {X : Nat → Prop} {ps : Nat} {v : Value} {Z : ZS} (h : ZAt w X ps v Z) (t : Int) :
    Calls Try.prog 45 #[.pointer (some ⟨ps, 0, none⟩), .int .i64 t] w fun e w' => e = .returned (.int .i64 (stOf Z.ths t)) ∧ Below w.heap.size w w' := by
  have hc := find_any h t
  refine place_cases Z.ths t _ ?_ ?_
  · intro h0 h1 h2
    rw [h1] at hc
    rw [h2]
    have HC := Lib.hid hc; clear hc
    clear h h0 h1 h2
    go_enter Try.func45, Try.ntmps45
    go_wp2_with fail
    refine HC.out.mono ?_
    rintro e w1 ⟨rfl, hb⟩
    have HB := Lib.hid hb; clear hb
    go_wp2
    go_ret
    exact ⟨rfl, HB.out⟩
  · intro i hi h0 h1 h2
    have h8 := h.ok.eight
    obtain ⟨a, cap, hv, hcap, hmax, hr⟩ := row_ths h.row
    have HH := Lib.hid h
    have HR := Lib.hid hr; clear hr
    rw [h1] at hc
    obtain ⟨x1, hx1⟩ : ∃ x, Z.ths[i].st = x := ⟨_, rfl⟩
    rw [h2, hx1]
    have HX := Lib.hid hx1; clear hx1
    have hlt := h.head.lt
    have HC := Lib.hid hc; clear hc
    have HV := Lib.hid hv; clear hv
    clear h h0 h1 h2
    go_enter Try.func45, Try.ntmps45
    go_wp2_with fail
    refine HC.out.mono ?_
    rintro e w1 ⟨rfl, hb⟩
    obtain ⟨g, rfl, hg, d0, d1, d2⟩ := (HR.out.below hb) i hi
    rw [HX.out] at d1
    have c2' := (HH.out.below hb).cells.2.2.1
    rw [HV.out] at c2'
    have HB := Lib.hid hb; clear hb
    clear d0 d2 HC HR HH
    go_wp2
    go_ret
    exact ⟨rfl, HB.out⟩
theorem state_any {w : World} {X : Nat → Prop} {ps : Nat} {Z : ZS} (h : Zd w X ps Z) (t : Int) :
    Calls Try.prog 45 #[.pointer (some ⟨ps, 0, none⟩), .int .i64 t] w fun e w' => e = .returned (.int .i64 (stOf Z.ths t)) ∧ Below w.heap.size w w' := by
  obtain ⟨v, h⟩ := h; exact state_at h t

theorem counts_any {w : World} {X : Nat → Prop} {ps : Nat} {Z : ZS} (h : Zd w X ps Z) :
    Calls Try.prog 43 #[.pointer (some ⟨ps, 0, none⟩)] w fun e w' => e = .returned (.tuple #[.int .i64 Z.good, .int .i64 Z.bad]) ∧ ∃ q, w' = w.drewN q := by
  obtain ⟨v, h⟩ := h
  obtain ⟨c0, c1, c2, c3, c4, _⟩ := h.cells
  clear h c0 c1 c2
  generalize Z.good = x at c4 ⊢
  generalize Z.bad = y at c3 ⊢
  go_enter Try.func43, Try.ntmps43
  go_wp2
  go_quiet (fail)
  go_wp2
  go_ret2
  exact ⟨rfl, nq, rfl⟩

theorem pick_any {w : World} {X : Nat → Prop} {ps : Nat} {Z : ZS} (h : Zd w X ps Z) (t : Int) :
    Calls Try.prog 50 #[.pointer (some ⟨ps, 0, none⟩), .int .i64 t] w fun e w' => e = .returned (.bool (stOf Z.ths t == 1)) ∧ Zd w' X ps (Z.pick t) ∧ Keep X w w' := by
  obtain ⟨v, h⟩ := h
  have hc := state_at h t
  have hok := h.ok.pick t
  have hlt := h.head.lt
  by_cases hs : stOf Z.ths t = 1
  · have e1 : Z.pick t = { Z with good := wrap64 (Z.good + 1) } := by unfold ZS.pick; rw [if_pos hs]
    rw [e1] at hok ⊢
    rw [hs] at hc ⊢
    have HC := Lib.hid hc; clear hc
    have HH := Lib.hid h; clear h
    have HO := Lib.hid hok; clear hok
    clear hs e1
    go_enter Try.func50, Try.ntmps50
    go_wp2_with fail
    refine HC.out.mono ?_
    rintro e w1 ⟨rfl, hb⟩
    have h1 := HH.out.below hb
    obtain ⟨_, _, _, c3, c4, hf⟩ := h1.cells
    have f4 := hf 4
    have hfin : Zd (w1.setCell ⟨ps, 4, none⟩ (.int .i64 (wrap64 (Z.good + 1)))) X ps { Z with good := wrap64 (Z.good + 1) } ∧ Keep X w (w1.setCell ⟨ps, 4, none⟩ (.int .i64 (wrap64 (Z.good + 1)))) :=
      ⟨⟨v, h1.headSet rfl HO.out (by simp [zc])⟩, (Keep.ofBelow0 hb).trans (h1.setK _ _)⟩
    have HF := Lib.hid hfin; clear hfin
    clear h1 hf hb HH
    go_wp2
    go_region
    all_goals
      go_wp2
      go_ret
      exact ⟨rfl, HF.out.1.drew, HF.out.2.drew⟩
  · have e1 : Z.pick t = { Z with bad := wrap64 (Z.bad + 1) } := by unfold ZS.pick; rw [if_neg hs]
    rw [e1] at hok ⊢
    have hs0 : (stOf Z.ths t == 1) = false := by simpa using hs
    have hs1 : (stOf Z.ths t != 1) = true := by simpa using hs
    rw [hs0]
    have HC := Lib.hid hc; clear hc
    have HH := Lib.hid h; clear h
    have HO := Lib.hid hok; clear hok
    clear hs e1
    go_enter Try.func50, Try.ntmps50
    go_wp2_with fail
    refine HC.out.mono ?_
    rintro e w1 ⟨rfl, hb⟩
    generalize stOf Z.ths t = x at hs0 hs1
    have h1 := HH.out.below hb
    obtain ⟨_, _, _, c3, c4, hf⟩ := h1.cells
    have f3 := hf 3
    have hfin : Zd (w1.setCell ⟨ps, 3, none⟩ (.int .i64 (wrap64 (Z.bad + 1)))) X ps { Z with bad := wrap64 (Z.bad + 1) } ∧ Keep X w (w1.setCell ⟨ps, 3, none⟩ (.int .i64 (wrap64 (Z.bad + 1)))) :=
      ⟨⟨v, h1.headSet rfl HO.out (by simp [zc])⟩, (Keep.ofBelow0 hb).trans (h1.setK _ _)⟩
    have HF := Lib.hid hfin; clear hfin
    clear h1 hf hb HH
    go_wp2
    go_region
    all_goals
      go_wp2
      go_ret
      exact ⟨rfl, HF.out.1.drew, HF.out.2.drew⟩
end Go.Proofs.Ytlmgojnhmdppnaa
