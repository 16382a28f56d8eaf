/-
  The contracts of the library's Delete over the threads, and of package sched's Free. Conditions: the scheduler stands for a plain state.
-/
import Derived.Test.YtlmgojnhmdppnaaSc2
namespace Go.Proofs.Ytlmgojnhmdppnaa
open Go.RowKit Go.Maps
set_option linter.unusedVariables false

section
variable {w w' : World} {g cap : Nat} {L : List Th} {X : Nat → Prop}
theorem flat_set3 (L : List Th) (i : Nat) (r : Th) : (((flat L).set (i * 3) (.int .i64 r.no)).set (i * 3 + 1) (.int .i64 r.st)).set (i * 3 + 2) (.int .i64 r.key) = flat (L.set i r) := by
  induction L generalizing i with
  | nil => simp [flat]
  | cons x L ih =>
    cases i with
    | zero => simp [flat_cons, Th.cells]
    | succ i =>
      have e : (i + 1) * 3 = i * 3 + 3 := by omega
      rw [e]
      have := ih i
      simp only [flat_cons, Th.cells, List.set_cons_succ, List.cons_append, List.nil_append] at *
      rw [← this]
theorem ZRow.set_ (h : ZRow w g cap L) (i : Nat) (r : Th) :
    ZRow (((w.setCell ⟨g, i * 3, none⟩ (.int .i64 r.no)).setCell ⟨g, i * 3 + 1, none⟩ (.int .i64 r.st)).setCell ⟨g, i * 3 + 2, none⟩ (.int .i64 r.key)) g cap (L.set i r) := by
  obtain ⟨cur, hB, hs, hl, ht⟩ := h
  refine ⟨_, ((hB.set_ (i * 3) _).set_ (i * 3 + 1) _).set_ (i * 3 + 2) _, by simpa using hs, by simpa using hl, ?_⟩
  rw [List.length_set, ← flat_set3, ← ht]
  simp only [Array.toList_setIfInBounds, List.take_set]
theorem ZRow.many : ∀ (M : List Th) (i : Nat) {w : World} {L : List Th}, ZRow w g cap L → i + M.length ≤ L.length → ∃ L', ZRow (w.setCells g (i * 3) (flat M)) g cap L' ∧ L'.length = L.length ∧ L'.take (i + M.length) = L.take i ++ M
  | [], i, w, L, h, hl => ⟨L, h, rfl, by simp⟩
  | r :: M, i, w, L, h, hl => by
    obtain ⟨L', h1, h2, h3⟩ := ZRow.many M (i + 1) (h.set_ i r) (by simp at hl ⊢; omega)
    refine ⟨L', ?_, by simpa using h2, ?_⟩
    · have e : (i + 1) * 3 = i * 3 + 1 + 1 + 1 := by omega
      rw [e] at h1
      exact h1
    · rw [show i + (r :: M).length = i + 1 + M.length by simp; omega, h3]
      have hi : i < L.length := by simp at hl; omega
      rw [List.take_succ_eq_append_getElem (by simpa using hi), List.getElem_set_self, List.take_set_of_le (by omega), List.append_assoc]
      rfl
theorem Blk.setCells {t : TypeId} : ∀ (vs : List Value) (o : Nat) {w : World} {cur : Array Value}, Blk w g t cur → ∃ cur', Blk (w.setCells g o vs) g t cur' ∧ cur'.size = cur.size ∧ ∀ n, n ≤ o → cur'.toList.take n = cur.toList.take n
  | [], _, w, cur, h => ⟨cur, h, rfl, fun _ _ => rfl⟩
  | v :: r, o, w, cur, h => by
    obtain ⟨cur', h1, h2, h3⟩ := Blk.setCells r (o + 1) (h.set_ o v)
    refine ⟨cur', h1, by simpa using h2, fun n hn => ?_⟩
    rw [h3 n (by omega)]
    simp only [Array.toList_setIfInBounds, List.take_set]
    rw [List.set_eq_of_length_le (by simp; omega)]
theorem Keep.setCells {g : Nat} (hg : ¬ X g) : ∀ (vs : List Value) (o : Nat) (w : World), Keep X w (w.setCells g o vs)
  | [], _, _ => Keep.refl _ _
  | v :: r, o, w => ((Keep.refl X w).setCell hg v).trans (Keep.setCells hg r (o + 1) _)
theorem ZRow.clear (h : ZRow w g cap L) (i : Nat) (hi : i ≤ L.length) (vs : List Value) : ZRow (w.setCells g (i * 3) vs) g cap (L.take i) := by
  obtain ⟨cur, hB, hs, hl, ht⟩ := h
  obtain ⟨cur', h1, h2, h3⟩ := Blk.setCells vs (i * 3) hB
  refine ⟨cur', h1, h2.trans hs, by simp; omega, ?_⟩
  have hl' : (L.take i).length = i := by simp; omega
  rw [hl', h3 _ (Nat.le_refl _), ← flat_take, ← ht, List.take_take]
  congr 1
  omega
end

theorem zeroTh (w : World) : (zeroValue 145).run Try.prog w = .ok (.agg #[.int .i64 0, .int .i64 0, .int .i64 0]) w := by kernel_rfl
/-- 'clear(s[i:])' on the threads. -/
theorem run_clearTh (w : World) (g cap : Nat) (L : List Th) (h : ZRow w g cap L) (i : Nat) (hi : i < L.length) :
    ∃ vs, ∀ ty c, (Builtin.clear_ #[135] ty #[.slice (some ⟨g, i * 3, none⟩) (L.length - i) c]).run Try.prog w = .ok (.tuple #[]) (w.setCells g (i * 3) vs) := by
  obtain ⟨cur, hB, hs, hl, ht⟩ := h
  refine ⟨(Builtin.zeroCells #[.int .i64 0, .int .i64 0, .int .i64 0] (L.length - i)).toList, fun ty c => ?_⟩
  have hz : ∀ u ∈ (Builtin.zeroCells #[.int .i64 0, .int .i64 0, .int .i64 0] (L.length - i)).toList, u = Value.int .i64 0 := by
    intro u hu
    simp only [Builtin.zeroCells, Array.toList_map, List.mem_map] at hu
    obtain ⟨j, _, rfl⟩ := hu
    have : j % 3 = 0 ∨ j % 3 = 1 ∨ j % 3 = 2 := by omega
    rcases this with e | e | e <;> simp [e]
  have hlen : (Builtin.zeroCells #[Value.int .i64 0, .int .i64 0, .int .i64 0] (L.length - i)).toList.length = (L.length - i) * 3 := by simp [Builtin.zeroCells]
  have hst := run_storeCells_cells (P := Try.prog) g (i * 3) (Builtin.zeroCells #[.int .i64 0, .int .i64 0, .int .i64 0] (L.length - i)).toList 0 w
    (fun j hj => by
      rw [hlen] at hj
      rw [hB.cell, Option.isSome_iff_exists]
      exact ⟨_, Array.getElem?_eq_getElem (by rw [hs]; omega)⟩) (fun j _ => hB.frozen _) (fun u hu => by rw [hz u hu]; rfl)
  simp only [Nat.add_zero] at hst
  generalize hvs : (Builtin.zeroCells #[Value.int .i64 0, .int .i64 0, .int .i64 0] (L.length - i)).toList = vs at hst ⊢
  obtain ⟨m, hm⟩ : ∃ m, L.length - i = m + 1 := ⟨L.length - i - 1, by omega⟩
  rw [hm] at hvs ⊢
  simp [Builtin.clear_, run_underlying Try.underlying135, Value.cells, hvs, hst]

theorem infoTh' : (Try.prog.info? 145).map (fun i => (i.zero, i.size, i.bytes)) = some (some (.agg #[.int .i64 0, .int .i64 0, .int .i64 0]), 3, 24) := by kernel_rfl

theorem flat_one (L : List Th) : ∀ u ∈ flat L, u.oneCell' = true := by
  intro u hu
  obtain ⟨r, _, hr⟩ := List.mem_flatMap.1 hu
  simp only [Th.cells, List.mem_cons, List.not_mem_nil, or_false] at hr
  rcases hr with rfl | rfl | rfl <;> rfl

set_option maxRecDepth 1000000 in
set_option maxHeartbeats 2000000 in
theorem delete_any {w : World} {g cap : Nat} {L : List Th} (h : ZRow w g cap L) (hm : cap ≤ maxLen) {i : Nat} (hi : i < L.length) :
    Calls Try.prog 101 #[.slice (some ⟨g, 0, none⟩) L.length cap, .int .i64 i, .int .i64 (i + 1)] w fun e w' => e = .returned (.slice (some ⟨g, 0, none⟩) (L.length - 1) cap) ∧ ZRow w' g cap (L.eraseIdx i) ∧ Keep (fun k => k ≠ g) w w' := by
  obtain ⟨i0, hi0, hz0, hz1, hz2⟩ := info_parts infoTh'
  have hlc : L.length ≤ cap := by obtain ⟨cur, _, _, hl, _⟩ := h; exact hl
  have hcap : cap ≤ 9223372036854775807 := by unfold maxLen at hm; omega
  obtain ⟨A, hA, hnews⟩ : ∃ A : Addr, (if cap = i + 1 then some (⟨g, 0, none⟩ : Addr) else some ⟨g, (i + 1) * 3, none⟩) = some A ∧ Hid (∀ j u, (flat (L.drop (i + 1)))[j]? = some u → w.drew.cell? (A.add j) = some u) := by
    by_cases hc : cap = i + 1
    · refine ⟨⟨g, 0, none⟩, by simp [hc], fun j u hu => ?_⟩
      have h0 : L.drop (i + 1) = [] := List.drop_eq_nil_of_le (by omega)
      rw [h0] at hu
      simp [flat] at hu
    · refine ⟨⟨g, (i + 1) * 3, none⟩, by simp [hc], fun j u hu => ?_⟩
      obtain ⟨cur, hB, hs, hl, ht⟩ := h
      rw [← flat_drop, List.getElem?_drop, ← ht, List.getElem?_take] at hu
      split at hu
      · rw [show (⟨g, (i + 1) * 3, none⟩ : Addr).add j = ⟨g, (i + 1) * 3 + j, none⟩ from by unfold Addr.add; split <;> simp_all]
        show w.cell? _ = _
        rw [hB.cell, ← Array.getElem?_toList]
        exact hu
      · cases hu
  have s1 : Hid ((flat (L.drop (i + 1))).length = (L.length - (i + 1)) * 3) := Lib.hid (by rw [flat_length, List.length_drop])
  have s2 : Hid (∀ u ∈ flat (L.drop (i + 1)), u.oneCell' = true) := Lib.hid (flat_one _)
  have s3 : Hid (∀ j, j < (flat (L.drop (i + 1))).length → (w.drew.cell? ⟨g, 0 + i * 3 + j, none⟩).isSome = true ∧ w.drew.frozen? ⟨g, 0 + i * 3 + j, none⟩ = false) := Lib.hid (by
    intro j hj
    rw [flat_length, List.length_drop] at hj
    obtain ⟨cur, hB, hs, hl, ht⟩ := h
    refine ⟨?_, hB.frozen _⟩
    show (w.cell? _).isSome = true
    rw [hB.cell, Option.isSome_iff_exists]
    exact ⟨_, Array.getElem?_eq_getElem (by rw [hs]; omega)⟩)
  obtain ⟨L', r1, r2, r3⟩ := ZRow.many (L.drop (i + 1)) i h.drew (by rw [List.length_drop]; omega)
  have hlm : i + (L.length - (i + 1)) = L.length - 1 := by omega
  rw [List.length_drop, hlm, ← List.eraseIdx_eq_take_drop_succ] at r3
  obtain ⟨vs, hcl⟩ := run_clearTh _ g cap L' r1 (L.length - 1) (by omega)
  rw [r2] at hcl
  have hfin : ZRow ((w.drew.setCells g (i * 3) (flat (L.drop (i + 1)))).setCells g ((L.length - 1) * 3) vs) g cap (L.eraseIdx i) ∧ Keep (fun k => k ≠ g) w ((w.drew.setCells g (i * 3) (flat (L.drop (i + 1)))).setCells g ((L.length - 1) * 3) vs) := by
    refine ⟨by rw [← r3]; exact r1.clear (L.length - 1) (by omega) vs, ?_⟩
    exact ((Keep.refl _ w).drew.trans (Keep.setCells (fun hn => hn rfl) _ _ _)).trans (Keep.setCells (fun hn => hn rfl) _ _ _)
  have HF := Lib.hid hfin; clear hfin
  have hcl : ∀ ty, (Builtin.clear_ #[135] ty #[.slice (some ⟨g, (L.length - 1) * 3, none⟩) (L.length - (L.length - 1)) (cap - (L.length - 1))]).run Try.prog (w.drew.setCells g (i * 3) (flat (L.drop (i + 1)))) = .ok (.tuple #[]) ((w.drew.setCells g (i * 3) (flat (L.drop (i + 1)))).setCells g ((L.length - 1) * 3) vs) := fun ty => hcl ty _
  have hic : i ≤ cap := by omega
  have hwr : IntKind.i64.wrap ((i : Int) + 1) = (i : Int) + 1 := by rw [IntKind.wrap_i64]; omega
  have hp0 : (0 : Int) ≤ (i : Int) + 1 := by omega
  have hp1 : (i : Int) + 1 ≤ (L.length : Int) := by omega
  have hp2 : ((i : Int) + 1).toNat = i + 1 := by omega
  have hne : ((i : Int) == (i : Int) + 1) = false := by simp; omega
  have hl1 : ¬ cap = L.length - 1 := by omega
  clear r1 r2 r3 h
  go_enter Try.func101, Try.ntmps101
  go_wp2_with fail
  go_region_law (refine step_append_room rfl (.tmp 22) (.tmp 25) 135 rfl 145 i0 3 Try.underlying135 hi0 hz1 g 0 i cap (by simp [Act.eval, Act.put]) A (L.length - (i + 1)) (cap - (i + 1)) (flat (L.drop (i + 1))) (by simp [Act.eval, Act.put]) s1.out hnews.out s2.out (by omega) s3.out ?_)
  all_goals
    go_wp2
    go_ret
    exact ⟨rfl, HF.out⟩

theorem cutT_eq {n : Int} {l : List Th} {t : Int} {i : Nat} (hr : Rising n l) (h : idx l t = some i) : cutT l t = l.eraseIdx i := by
  obtain ⟨hi, hno⟩ := idx_some h
  have key : ∀ j (hj : j < l.length), j ≠ i → l[j].no ≠ t := by
    intro j hj hne
    rw [← hno]
    rcases Nat.lt_or_ge i j with hlt | hge
    · have := List.pairwise_iff_getElem.1 hr.1 i j hi hj hlt; omega
    · have := List.pairwise_iff_getElem.1 hr.1 j i hj hi (by omega); omega
  rw [List.eraseIdx_eq_take_drop_succ]
  have e : l = l.take i ++ l[i] :: l.drop (i + 1) := by rw [← List.drop_eq_getElem_cons hi, List.take_append_drop]
  have h1 : (l.take i).filter (fun r => !(r.no == t)) = l.take i := by
    rw [List.filter_eq_self]
    intro r hr
    obtain ⟨j, hj, rfl⟩ := List.mem_take_iff_getElem.1 hr
    have := key j (by omega) (by omega)
    simpa using this
  have h2 : (l.drop (i + 1)).filter (fun r => !(r.no == t)) = l.drop (i + 1) := by
    rw [List.filter_eq_self]
    intro r hr
    obtain ⟨j, hj, rfl⟩ := List.mem_drop_iff_getElem.1 hr
    have := key (i + 1 + j) (by omega) (by omega)
    simpa using this
  unfold cutT
  conv => lhs; rw [e]
  rw [List.filter_append, List.filter_cons, h1, h2]
  simp [hno]

set_option maxHeartbeats 1000000 in
theorem free_any {w : World} {X : Nat → Prop} {ps : Nat} {Z : ZS} (h : Zd w X ps Z) (t : Int) :
    Calls Try.prog 54 #[.pointer (some ⟨ps, 0, none⟩), .int .i64 t] w fun e w' => e = .returned (.int .i64 (Z.inErr 3 t)) ∧ Zd w' X ps (Z.free t) ∧ Keep X w w' := by
  obtain ⟨v, h⟩ := h
  have hc := in_any h 3 t
  have hlt := h.head.lt
  refine inErr_cases Z 3 t (by omega) _ h.ok ?_ ?_
  · intro he h0 _
    have e1 : Z.free t = Z := by unfold ZS.free; rw [if_neg he]
    rw [h0] at hc
    rw [e1]
    obtain ⟨x, hx⟩ : ∃ x, Z.inErr 3 t = x := ⟨_, rfl⟩
    rw [hx] at hc he ⊢
    have hb0 : (x == 0) = false := by simpa using he
    have HC := Lib.hid hc; clear hc
    have HH := Lib.hid h; clear h
    clear hx e1 h0 he
    go_enter Try.func54, Try.ntmps54
    go_wp2_with fail
    refine HC.out.mono ?_
    rintro e w1 ⟨rfl, hb⟩
    have HB := Lib.hid hb; clear hb
    go_wp2
    go_ret
    exact ⟨rfl, ⟨v, HH.out.below HB.out⟩, Keep.ofBelow0 HB.out⟩
  · intro i hi h0 he hat hno hs
    obtain ⟨g, cap, rfl, hr, hcap, hXg, hne⟩ := h.open_ (by omega)
    have e1 : Z.free t = { Z with ths := Z.ths.eraseIdx i } := by unfold ZS.free; rw [if_pos he, cutT_eq h.ok.ris h0]
    have hok := h.ok.free t
    rw [e1] at hok
    rw [he, hat] at hc
    rw [e1, he]
    have h8 := h.ok.eight
    have HOK := Lib.hid hok; clear hok
    have HC := Lib.hid hc; clear hc
    have HH := Lib.hid h; clear h
    clear e1 he hat hs h0 hr
    go_enter Try.func54, Try.ntmps54
    go_wp2_with fail
    refine HC.out.mono ?_
    rintro e w1 ⟨rfl, hb⟩
    have h1 := HH.out.below hb
    obtain ⟨g', cap', hv', hr', _⟩ := h1.open_ (by omega)
    injection hv' with hv1 hln hv2
    injection hv1 with hv1
    injection hv1 with hv1
    subst hv1 hv2
    clear hln
    have hd := delete_any hr' hcap hi
    have c2 := h1.cells.2.2.1
    have f2 := h1.cells.2.2.2.2.2 2
    have hps := h1.head.lt
    have hfin : ∀ w2, ZRow w2 g cap (Z.ths.eraseIdx i) → Keep (fun k => k ≠ g) w1 w2 → w2.cell? ⟨ps, 2, none⟩ = some (.slice (some ⟨g, 0, none⟩) Z.ths.length cap) ∧ w2.frozen? ⟨ps, 2, none⟩ = false ∧ Zd (w2.setCell ⟨ps, 2, none⟩ (.slice (some ⟨g, 0, none⟩) (Z.ths.length - 1) cap)) X ps { Z with ths := Z.ths.eraseIdx i } ∧ Keep X w (w2.setCell ⟨ps, 2, none⟩ (.slice (some ⟨g, 0, none⟩) (Z.ths.length - 1) cap)) := by
      intro w2 hr2 hk2
      have hh := h1.head.keep hk2 (Ne.symm hne)
      have hl : (Z.ths.eraseIdx i).length = Z.ths.length - 1 := by rw [List.length_eraseIdx, if_pos hi]
      refine ⟨by rw [hh.cell]; rfl, hh.frozen 2, ⟨.slice (some ⟨g, 0, none⟩) (Z.ths.length - 1) cap, ?_⟩, ?_⟩
      · have hs := hh.set_ 2 (.slice (some ⟨g, 0, none⟩) (Z.ths.eraseIdx i).length cap)
        have := ZAt.shut (Z := { Z with ths := Z.ths.eraseIdx i }) hs (hr2.far (p := (⟨ps, 2, none⟩ : Addr)) hne _) hcap h1.nX hXg HOK.out
        rw [hl] at this
        exact this
      · exact ((Keep.ofBelow0 hb).trans (hk2.less (fun k hx e => hXg (e ▸ hx)))).setCell (p := (⟨ps, 2, none⟩ : Addr)) h1.nX _
    have HFIN := Lib.hid hfin; clear hfin
    have HD := Lib.hid hd; clear hd
    have hw1 : IntKind.i64.wrap ((i : Int) + 1) = (i : Int) + 1 := by rw [IntKind.wrap_i64]; omega
    clear h1 hr' hb HH HC HOK
    go_wp2_with fail
    refine HD.out.mono ?_
    rintro e w2 ⟨rfl, hr2, hk2⟩
    obtain ⟨k2, g2, hz⟩ := HFIN.out w2 hr2 hk2
    have HZ := Lib.hid hz; clear hz hr2 hk2 HFIN
    go_wp2
    go_ret
    exact ⟨rfl, HZ.out⟩
end Go.Proofs.Ytlmgojnhmdppnaa
