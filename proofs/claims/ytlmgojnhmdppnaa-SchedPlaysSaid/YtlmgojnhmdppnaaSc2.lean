/-
  The contracts of package sched's Block, End, Wake, Ready. Conditions: the scheduler stands for a plain state.
-/
import Derived.Test.YtlmgojnhmdppnaaSc1
import Derived.Laws.IdiomCopy
import Derived.OwnWalk
namespace Go.Proofs.Ytlmgojnhmdppnaa
open Go.RowKit Go.Maps
set_option linter.unusedVariables false

theorem below_set {B g o : Nat} {a w : World} {u : Value} (h : Below B a w) (hg : B ≤ g) : Below B a (w.setCell ⟨g, o, none⟩ u) := h.setCell hg u
theorem info3 : (Try.prog.info? 3).map (fun i => (i.zero, i.size, i.bytes)) = some (some (.int .i64 0), 1, 8) := by kernel_rfl

/-- The threads' own row. -/
def ZRow (w : World) (g cap : Nat) (L : List Th) : Prop :=
  ∃ cur, Blk w g 145 cur ∧ cur.size = cap * 3 ∧ L.length ≤ cap ∧ cur.toList.take (L.length * 3) = flat L
section
variable {w w' : World} {g cap : Nat} {L : List Th} {X : Nat → Prop}
theorem ZRow.lt (h : ZRow w g cap L) : g < w.heap.size := by obtain ⟨cur, hb, _⟩ := h; exact hb.lt
theorem ZRow.frozen (h : ZRow w g cap L) (i : Nat) : w.frozen? ⟨g, i, none⟩ = false := by obtain ⟨cur, hb, _⟩ := h; exact hb.frozen i
theorem ZRow.below (h : ZRow w g cap L) (hb : Below w.heap.size w w') : ZRow w' g cap L := by obtain ⟨cur, h1, h2⟩ := h; exact ⟨cur, h1.below hb h1.lt, h2⟩
theorem ZRow.keep (h : ZRow w g cap L) (hk : Keep X w w') (hX : X g) : ZRow w' g cap L := by obtain ⟨cur, h1, h2⟩ := h; exact ⟨cur, h1.keep hk hX, h2⟩
theorem ZRow.far (h : ZRow w g cap L) {p : Addr} (hp : g ≠ p.block) (u : Value) : ZRow (w.setCell p u) g cap L := by obtain ⟨cur, h1, h2⟩ := h; exact ⟨cur, h1.far hp u, h2⟩
theorem ZRow.alloc (h : ZRow w g cap L) (o : Obj) : ZRow (w.alloc o) g cap L := by obtain ⟨cur, h1, h2⟩ := h; exact ⟨cur, h1.alloc o, h2⟩
theorem ZRow.drew (h : ZRow w g cap L) : ZRow w.drew g cap L := h
theorem ZRow.at_ (h : ZRow w g cap L) (k : Nat) (hk : k < L.length) :
    w.cell? ⟨g, k * 3, none⟩ = some (.int .i64 L[k].no) ∧ w.cell? ⟨g, k * 3 + 1, none⟩ = some (.int .i64 L[k].st) ∧ w.cell? ⟨g, k * 3 + 2, none⟩ = some (.int .i64 L[k].key) := by
  obtain ⟨cur, hB, _, _, ht⟩ := h
  obtain ⟨f0, f1, f2⟩ := flat_get L k hk
  have key : ∀ i, i < L.length * 3 → cur[i]? = (flat L)[i]? := by
    intro i hi
    rw [← ht, List.getElem?_take, if_pos hi, Array.getElem?_toList]
  refine ⟨?_, ?_, ?_⟩
  · rw [hB.cell, key _ (by omega)]; exact f0
  · rw [hB.cell, key _ (by omega)]; exact f1
  · rw [hB.cell, key _ (by omega)]; exact f2
theorem flat_set1 (L : List Th) (i : Nat) (hi : i < L.length) (x : Int) : (flat L).set (i * 3 + 1) (.int .i64 x) = flat (L.set i ⟨L[i].no, x, L[i].key⟩) := by
  induction L generalizing i with
  | nil => simp at hi
  | cons y L ih =>
    cases i with
    | zero => simp [flat_cons, Th.cells]
    | succ i =>
      have e : (i + 1) * 3 + 1 = i * 3 + 1 + 3 := by omega
      rw [e]
      have := ih i (by simpa using hi)
      simp only [flat_cons, Th.cells, List.set_cons_succ, List.cons_append, List.nil_append, List.getElem_cons_succ] at *
      rw [← this]
theorem flat_set2 (L : List Th) (i : Nat) (hi : i < L.length) (x : Int) : (flat L).set (i * 3 + 2) (.int .i64 x) = flat (L.set i ⟨L[i].no, L[i].st, x⟩) := by
  induction L generalizing i with
  | nil => simp at hi
  | cons y L ih =>
    cases i with
    | zero => simp [flat_cons, Th.cells]
    | succ i =>
      have e : (i + 1) * 3 + 2 = i * 3 + 2 + 3 := by omega
      rw [e]
      have := ih i (by simpa using hi)
      simp only [flat_cons, Th.cells, List.set_cons_succ, List.cons_append, List.nil_append, List.getElem_cons_succ] at *
      rw [← this]
theorem ZRow.set1 (h : ZRow w g cap L) {i : Nat} (hi : i < L.length) (x : Int) : ZRow (w.setCell ⟨g, i * 3 + 1, none⟩ (.int .i64 x)) g cap (L.set i ⟨L[i].no, x, L[i].key⟩) := by
  obtain ⟨cur, hB, hs, hl, ht⟩ := h
  refine ⟨_, hB.set_ (i * 3 + 1) _, by simpa using hs, by simpa using hl, ?_⟩
  rw [List.length_set, ← flat_set1 L i hi, ← ht]
  simp only [Array.toList_setIfInBounds, List.take_set]
theorem ZRow.set2 (h : ZRow w g cap L) {i : Nat} (hi : i < L.length) (x : Int) : ZRow (w.setCell ⟨g, i * 3 + 2, none⟩ (.int .i64 x)) g cap (L.set i ⟨L[i].no, L[i].st, x⟩) := by
  obtain ⟨cur, hB, hs, hl, ht⟩ := h
  refine ⟨_, hB.set_ (i * 3 + 2) _, by simpa using hs, by simpa using hl, ?_⟩
  rw [List.length_set, ← flat_set2 L i hi, ← ht]
  simp only [Array.toList_setIfInBounds, List.take_set]
theorem ZAt.open_ {ps : Nat} {v : Value} {Z : ZS} (h : ZAt w X ps v Z) (hne : 0 < Z.ths.length) :
    ∃ g cap, v = .slice (some ⟨g, 0, none⟩) Z.ths.length cap ∧ ZRow w g cap Z.ths ∧ cap ≤ maxLen ∧ ¬ X g ∧ g ≠ ps := by
  rcases h.row.2 with ⟨_, h0⟩ | ⟨g, cap, cur, hv, _, hb, hn, hc, hs, ht⟩
  · omega
  · exact ⟨g, cap, hv, ⟨cur, hb, hs, hn, ht⟩, hc, h.rX g (by rw [hv]; rfl), h.row_ps (by rw [hv]; rfl)⟩
theorem ZAt.shut {ps : Nat} {Z : ZS} (hh : Blk w ps 138 (zc Z (.slice (some ⟨g, 0, none⟩) Z.ths.length cap))) (hr : ZRow w g cap Z.ths) (hc : cap ≤ maxLen) (h1 : ¬ X ps) (h2 : ¬ X g) (hok : Z.Ok) :
    ZAt w X ps (.slice (some ⟨g, 0, none⟩) Z.ths.length cap) Z := by
  obtain ⟨cur, hb, hs, hl, ht⟩ := hr
  exact ⟨hh, ⟨flat_length _, .inr ⟨g, cap, cur, rfl, Nat.zero_le _, hb, hl, hc, hs, ht⟩⟩, h1, fun g' hg' => by simp only [Value.ownBlock, Option.some.injEq] at hg'; subst hg'; exact h2, hok⟩
/-- A thread's state is written where it lies. -/
theorem ZAt.put1 {ps : Nat} {Z Z' : ZS} (h : ZAt w X ps (.slice (some ⟨g, 0, none⟩) Z.ths.length cap) Z) {i : Nat} (hi : i < Z.ths.length) (x : Int) (hz : Z' = { Z with ths := Z.ths.set i ⟨Z.ths[i].no, x, Z.ths[i].key⟩ }) (hok : Z'.Ok) :
    ZAt (w.setCell ⟨g, i * 3 + 1, none⟩ (.int .i64 x)) X ps (.slice (some ⟨g, 0, none⟩) Z.ths.length cap) Z' := by
  obtain ⟨g', cap', hv, hr, hc, hX, hne⟩ := h.open_ (by omega)
  injection hv with hv1 _ hv2
  injection hv1 with hv1
  injection hv1 with hv1
  subst hv1 hv2
  have hl : Z'.ths.length = Z.ths.length := by rw [hz]; simp
  have hh : Blk (w.setCell ⟨g, i * 3 + 1, none⟩ (.int .i64 x)) ps 138 (zc Z' (.slice (some ⟨g, 0, none⟩) Z'.ths.length cap)) := by
    have := h.head.far (p := ⟨g, i * 3 + 1, none⟩) (Ne.symm hne) (.int .i64 x)
    rw [hl]
    rw [hz]
    exact this
  have := ZAt.shut hh (by rw [hz]; exact hr.set1 hi x) hc h.nX hX hok
  rw [hl] at this
  exact this
theorem ZAt.put2 {ps : Nat} {Z Z' : ZS} (h : ZAt w X ps (.slice (some ⟨g, 0, none⟩) Z.ths.length cap) Z) {i : Nat} (hi : i < Z.ths.length) (x : Int) (hz : Z' = { Z with ths := Z.ths.set i ⟨Z.ths[i].no, Z.ths[i].st, x⟩ }) (hok : Z'.Ok) :
    ZAt (w.setCell ⟨g, i * 3 + 2, none⟩ (.int .i64 x)) X ps (.slice (some ⟨g, 0, none⟩) Z.ths.length cap) Z' := by
  obtain ⟨g', cap', hv, hr, hc, hX, hne⟩ := h.open_ (by omega)
  injection hv with hv1 _ hv2
  injection hv1 with hv1
  injection hv1 with hv1
  subst hv1 hv2
  have hl : Z'.ths.length = Z.ths.length := by rw [hz]; simp
  have hh : Blk (w.setCell ⟨g, i * 3 + 2, none⟩ (.int .i64 x)) ps 138 (zc Z' (.slice (some ⟨g, 0, none⟩) Z'.ths.length cap)) := by
    have := h.head.far (p := ⟨g, i * 3 + 2, none⟩) (Ne.symm hne) (.int .i64 x)
    rw [hl]
    rw [hz]
    exact this
  have := ZAt.shut hh (by rw [hz]; exact hr.set2 hi x) hc h.nX hX hok
  rw [hl] at this
  exact this
end

theorem setT_eq {n : Int} {l : List Th} {t : Int} {i : Nat} (hr : Rising n l) (h : idx l t = some i) (st key : Int) : setT l t st key = l.set i ⟨t, st, key⟩ := by
  obtain ⟨hi, hno⟩ := idx_some h
  apply List.ext_getElem (by simp [setT])
  intro j h1 h2
  simp only [setT, List.getElem_map, List.getElem_set]
  by_cases hj : i = j
  · subst hj; simp [hno]
  · rw [if_neg hj]
    have hjl : j < l.length := by simpa [setT] using h1
    have hne : l[j].no ≠ t := by
      rw [← hno]
      rcases Nat.lt_or_ge i j with hlt | hge
      · have := List.pairwise_iff_getElem.1 hr.1 i j hi hjl hlt; omega
      · have := List.pairwise_iff_getElem.1 hr.1 j i hjl hi (by omega); omega
    simp [hne]

theorem ok_mid {Z : ZS} (h : Z.Ok) {t : Int} {i : Nat} (hi : idx Z.ths t = some i) (hlt : i < Z.ths.length) (st key : Int) (h1 : 1 ≤ st) (h3 : st ≤ 3) : ZS.Ok { Z with ths := Z.ths.set i ⟨t, st, key⟩ } := by
  rw [← setT_eq h.ris hi]
  exact ⟨h.most1, h.most8, by simpa [length_setT] using h.few, h.sp0, h.sp1, rising_setT h.ris _ _ _ h1 h3⟩

theorem inErr_cases (Z : ZS) (st t : Int) (hst : 1 ≤ st) (P : Prop) (hok : Z.Ok) (h1 : Z.inErr st t ≠ 0 → Z.inAt st t = 0 → (Z.inErr st t = 60 ∨ Z.inErr st t = 61) → P)
    (h2 : ∀ i (hi : i < Z.ths.length), idx Z.ths t = some i → Z.inErr st t = 0 → Z.inAt st t = i → Z.ths[i].no = t → Z.ths[i].st = st → P) : P := by
  by_cases he : Z.inErr st t = 0
  · refine place_cases Z.ths t P (fun h0 _ hs => ?_) (fun i hi h0 hp hs => ?_)
    · unfold ZS.inErr at he; rw [if_pos hs] at he; omega
    · obtain ⟨hi', hno⟩ := idx_some h0
      refine h2 i hi h0 he (by unfold ZS.inAt; rw [he, if_pos rfl, hp]) hno ?_
      unfold ZS.inErr at he
      rw [hs] at he
      split at he
      · omega
      · split at he
        · assumption
        · omega
  · refine h1 he (by unfold ZS.inAt; rw [if_neg he]) ?_
    unfold ZS.inErr at he ⊢
    split
    · exact .inr rfl
    · split
      · rename_i a b; rw [if_neg a, if_pos b] at he; omega
      · exact .inl rfl

set_option maxHeartbeats 1000000 in
theorem block_any {w : World} {X : Nat → Prop} {ps : Nat} {Z : ZS} (h : Zd w X ps Z) (t key : Int) :
    Calls Try.prog 49 #[.pointer (some ⟨ps, 0, none⟩), .int .i64 t, .int .i64 key] w fun e w' => e = .returned (.int .i64 (Z.inErr 1 t)) ∧ Zd w' X ps (Z.block t key) ∧ Keep X w w' := by
  obtain ⟨v, h⟩ := h
  have hc := in_any h 1 t
  have hlt := h.head.lt
  refine inErr_cases Z 1 t (by omega) _ h.ok ?_ ?_
  · intro he h0 _
    have e1 : Z.block t key = Z := by unfold ZS.block; rw [if_neg he]
    rw [h0] at hc
    rw [e1]
    obtain ⟨x, hx⟩ : ∃ x, Z.inErr 1 t = x := ⟨_, rfl⟩
    rw [hx] at hc he ⊢
    have hb0 : (x == 0) = false := by simpa using he
    have HC := Lib.hid hc; clear hc
    have HH := Lib.hid h; clear h
    clear hx e1 h0 he
    go_enter Try.func49, Try.ntmps49
    go_wp2_with fail
    refine HC.out.mono ?_
    rintro e w1 ⟨rfl, hb⟩
    have HB := Lib.hid hb; clear hb
    go_wp2
    go_ret
    exact ⟨rfl, ⟨v, HH.out.below HB.out⟩, Keep.ofBelow0 HB.out⟩
  · intro i hi h0 he hat hno hs
    obtain ⟨g, cap, rfl, hr, hcap, hXg, hne⟩ := h.open_ (by omega)
    have e1 : Z.block t key = { Z with ths := Z.ths.set i ⟨t, 2, key⟩ } := by unfold ZS.block; rw [if_pos he, setT_eq h.ok.ris h0]
    rw [he, hat] at hc
    rw [e1, he]
    have h8 := h.ok.eight
    have ok1 := ok_mid h.ok h0 hi 2 Z.ths[i].key (by omega) (by omega)
    have ok2 := ok_mid h.ok h0 hi 2 key (by omega) (by omega)
    have HO1 := Lib.hid ok1; clear ok1
    have HO2 := Lib.hid ok2; clear ok2
    have HC := Lib.hid hc; clear hc
    have HH := Lib.hid h; clear h
    have HNO := Lib.hid hno; clear hno
    clear e1 he hat hs h0 hr
    go_enter Try.func49, Try.ntmps49
    go_wp2_with fail
    refine HC.out.mono ?_
    rintro e w1 ⟨rfl, hb⟩
    have h1 := HH.out.below hb
    obtain ⟨g', cap', hv', hr', _⟩ := h1.open_ (by omega)
    injection hv' with hv1 _ hv2
    injection hv1 with hv1
    injection hv1 with hv1
    subst hv1 hv2
    obtain ⟨_, d1, d2⟩ := hr'.at_ i hi
    have f1 := hr'.frozen (i * 3 + 1)
    have f2 := hr'.frozen (i * 3 + 2)
    have c2 := h1.cells.2.2.1
    have hg := hr'.lt
    have hfin : Zd ((w1.setCell ⟨g, i * 3 + 1, none⟩ (.int .i64 2)).setCell ⟨g, i * 3 + 2, none⟩ (.int .i64 key)) X ps { Z with ths := Z.ths.set i ⟨t, 2, key⟩ } ∧ Keep X w ((w1.setCell ⟨g, i * 3 + 1, none⟩ (.int .i64 2)).setCell ⟨g, i * 3 + 2, none⟩ (.int .i64 key)) := by
      have a1 := h1.put1 hi 2 (by rw [HNO.out]) HO1.out
      have hl : ({ Z with ths := Z.ths.set i ⟨t, 2, Z.ths[i].key⟩ } : ZS).ths.length = Z.ths.length := by simp
      have a1' : ZAt (w1.setCell ⟨g, i * 3 + 1, none⟩ (.int .i64 2)) X ps (.slice (some ⟨g, 0, none⟩) ({ Z with ths := Z.ths.set i ⟨t, 2, Z.ths[i].key⟩ } : ZS).ths.length cap) { Z with ths := Z.ths.set i ⟨t, 2, Z.ths[i].key⟩ } := by rw [hl]; exact a1
      have a2 := a1'.put2 (i := i) (by simpa using hi) key (Z' := { Z with ths := Z.ths.set i ⟨t, 2, key⟩ }) (by simp) HO2.out
      exact ⟨⟨_, a2⟩, ((Keep.ofBelow0 hb).setCell (p := ⟨g, i * 3 + 1, none⟩) hXg _).setCell (p := ⟨g, i * 3 + 2, none⟩) hXg _⟩
    have HF := Lib.hid hfin; clear hfin
    generalize Z.ths[i].st = y1 at d1
    generalize Z.ths[i].key = y2 at d2
    clear h1 hr' hb HH HC HO1 HO2
    go_wp2
    go_ret
    exact ⟨rfl, HF.out⟩

set_option maxHeartbeats 1000000 in
theorem stop_any {w : World} {X : Nat → Prop} {ps : Nat} {Z : ZS} (h : Zd w X ps Z) (t : Int) :
    Calls Try.prog 53 #[.pointer (some ⟨ps, 0, none⟩), .int .i64 t] w fun e w' => e = .returned (.int .i64 (Z.inErr 1 t)) ∧ Zd w' X ps (Z.stop t) ∧ Keep X w w' := by
  obtain ⟨v, h⟩ := h
  have hc := in_any h 1 t
  have hlt := h.head.lt
  refine inErr_cases Z 1 t (by omega) _ h.ok ?_ ?_
  · intro he h0 _
    have e1 : Z.stop t = Z := by unfold ZS.stop; rw [if_neg he]
    rw [h0] at hc
    rw [e1]
    obtain ⟨x, hx⟩ : ∃ x, Z.inErr 1 t = x := ⟨_, rfl⟩
    rw [hx] at hc he ⊢
    have hb0 : (x == 0) = false := by simpa using he
    have HC := Lib.hid hc; clear hc
    have HH := Lib.hid h; clear h
    clear hx e1 h0 he
    go_enter Try.func53, Try.ntmps53
    go_wp2_with fail
    refine HC.out.mono ?_
    rintro e w1 ⟨rfl, hb⟩
    have HB := Lib.hid hb; clear hb
    go_wp2
    go_ret
    exact ⟨rfl, ⟨v, HH.out.below HB.out⟩, Keep.ofBelow0 HB.out⟩
  · intro i hi h0 he hat hno hs
    obtain ⟨g, cap, rfl, hr, hcap, hXg, hne⟩ := h.open_ (by omega)
    obtain ⟨_, hkey⟩ := keyOf_some h0
    have e1 : Z.stop t = { Z with ths := Z.ths.set i ⟨t, 3, Z.ths[i].key⟩ } := by unfold ZS.stop; rw [if_pos he, setT_eq h.ok.ris h0, hkey]
    rw [he, hat] at hc
    rw [e1, he]
    have h8 := h.ok.eight
    have ok1 := ok_mid h.ok h0 hi 3 Z.ths[i].key (by omega) (by omega)
    have HO1 := Lib.hid ok1; clear ok1
    have HC := Lib.hid hc; clear hc
    have HH := Lib.hid h; clear h
    have HNO := Lib.hid hno; clear hno
    clear e1 he hat hs h0 hr hkey
    go_enter Try.func53, Try.ntmps53
    go_wp2_with fail
    refine HC.out.mono ?_
    rintro e w1 ⟨rfl, hb⟩
    have h1 := HH.out.below hb
    obtain ⟨g', cap', hv', hr', _⟩ := h1.open_ (by omega)
    injection hv' with hv1 _ hv2
    injection hv1 with hv1
    injection hv1 with hv1
    subst hv1 hv2
    obtain ⟨_, d1, _⟩ := hr'.at_ i hi
    have f1 := hr'.frozen (i * 3 + 1)
    have c2 := h1.cells.2.2.1
    have hg := hr'.lt
    have hfin : Zd (w1.setCell ⟨g, i * 3 + 1, none⟩ (.int .i64 3)) X ps { Z with ths := Z.ths.set i ⟨t, 3, Z.ths[i].key⟩ } ∧ Keep X w (w1.setCell ⟨g, i * 3 + 1, none⟩ (.int .i64 3)) :=
      ⟨⟨_, h1.put1 hi 3 (by rw [HNO.out]) HO1.out⟩, (Keep.ofBelow0 hb).setCell (p := ⟨g, i * 3 + 1, none⟩) hXg _⟩
    have HF := Lib.hid hfin; clear hfin
    generalize Z.ths[i].st = y1 at d1
    clear h1 hr' hb HH HC HO1
    go_wp2
    go_ret
    exact ⟨rfl, HF.out⟩

end Go.Proofs.Ytlmgojnhmdppnaa
