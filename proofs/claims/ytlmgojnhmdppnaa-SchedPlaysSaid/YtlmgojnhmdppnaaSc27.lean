/-
  SchedPlays, plainly: the scheduler and the document's own answer the same, whatever is called. No condition.
-/
import Derived.Test.YtlmgojnhmdppnaaSc25
namespace Go.Proofs.Ytlmgojnhmdppnaa
open Go.RowKit Go.Maps
set_option linter.unusedVariables false
set_option linter.unusedSimpArgs false

/-! ### Threads by their numbers -/
theorem filt_succ {n : Int} {l : List Th} (hr : Rising n l) (f : Th → Bool) (m : Nat) : l.filter (fun r => f r && decide (r.no ≤ ((m + 1 : Nat) : Int))) = l.filter (fun r => f r && decide (r.no ≤ (m : Int))) ++ l.filter (fun r => f r && decide (r.no = (m : Int) + 1)) := by
  obtain ⟨hp, -⟩ := hr
  induction l with
  | nil => rfl
  | cons r l ih =>
    obtain ⟨h1, h2⟩ := List.pairwise_cons.1 hp
    have ih := ih h2
    cases hf : f r with
    | false =>
      rw [List.filter_cons_of_neg (by simp [hf]), List.filter_cons_of_neg (by simp [hf]), List.filter_cons_of_neg (by simp [hf])]
      exact ih
    | true =>
      by_cases a : r.no ≤ (m : Int)
      · rw [List.filter_cons_of_pos (by simp [hf]; omega), List.filter_cons_of_pos (by simp [hf]; omega), List.filter_cons_of_neg (by simp [hf]; omega), ih]
        try rfl
      · have e0 : l.filter (fun r => f r && decide (r.no ≤ (m : Int))) = [] := by
          rw [List.filter_eq_nil_iff]; intro x hx; have := h1 x hx; simp; intro _; omega
        have e1 : l.filter (fun r => f r && decide (r.no = (m : Int) + 1)) = [] := by
          rw [List.filter_eq_nil_iff]; intro x hx; have := h1 x hx; simp; intro _; omega
        rw [e0, e1] at ih
        by_cases b : r.no = (m : Int) + 1
        · rw [List.filter_cons_of_pos (by simp [hf]; omega), List.filter_cons_of_neg (by simp [hf]; omega), List.filter_cons_of_pos (by simp [hf]; omega), ih, e0, e1]
          try rfl
        · rw [List.filter_cons_of_neg (by simp [hf]; omega), List.filter_cons_of_neg (by simp [hf]; omega), List.filter_cons_of_neg (by simp [hf]; omega), ih, e0, e1]
          try rfl
theorem filt_one {n : Int} {l : List Th} (hr : Rising n l) (f : Th → Bool) (u : Int) : l.filter (fun r => f r && decide (r.no = u)) = match idx l u with | none => [] | some i => if f (l.getD i ⟨0, 0, 0⟩) = true then [l.getD i ⟨0, 0, 0⟩] else [] := by
  cases hx : idx l u with
  | none =>
    rw [List.filter_eq_nil_iff]
    intro r hm
    have := idx_none hx r hm
    simp [this]
  | some i =>
    obtain ⟨hi, hno⟩ := idx_some hx
    have e : l.getD i ⟨0, 0, 0⟩ = l[i] := by simp [List.getD, hi]
    simp only [e]
    have hsplit : l = l.take i ++ l[i] :: l.drop (i + 1) := by rw [← List.drop_eq_getElem_cons hi, List.take_append_drop]
    have h1 : (l.take i).filter (fun r => f r && decide (r.no = u)) = [] := by
      rw [List.filter_eq_nil_iff]
      intro r hm
      obtain ⟨j, hj, rfl⟩ := List.mem_take_iff_getElem.1 hm
      have := List.pairwise_iff_getElem.1 hr.1 j i (by omega) hi (by omega)
      simp; intro _; omega
    have h2 : (l.drop (i + 1)).filter (fun r => f r && decide (r.no = u)) = [] := by
      rw [List.filter_eq_nil_iff]
      intro r hm
      obtain ⟨j, hj, rfl⟩ := List.mem_drop_iff_getElem.1 hm
      have := List.pairwise_iff_getElem.1 hr.1 i (i + 1 + j) hi (by omega) (by omega)
      simp; intro _; omega
    conv => lhs; rw [hsplit]
    rw [List.filter_append, List.filter_cons, h1, h2, List.nil_append]
    cases hf : f l[i] <;> simp [hf, hno]
theorem filt_all {n : Int} {l : List Th} (hr : Rising n l) (f : Th → Bool) (m : Nat) (hm : n ≤ m) : l.filter (fun r => f r && decide (r.no ≤ (m : Int))) = l.filter f := by
  apply List.filter_congr
  intro r hx
  have := hr.2 r hx
  have : r.no ≤ (m : Int) := by omega
  simp [this]
theorem filt_zero {n : Int} {l : List Th} (hr : Rising n l) (f : Th → Bool) : l.filter (fun r => f r && decide (r.no ≤ ((0 : Nat) : Int))) = [] := by
  rw [List.filter_eq_nil_iff]
  intro r hx
  have := hr.2 r hx
  simp; intro _; omega

/-- The document's scheduler stands for the same. -/
structure Mt (Z : ZS) (r : RS) : Prop where
  len : (r.st.length : Int) = Z.spawned
  klen : r.keys.length = r.st.length
  most : r.most = Z.most
  good : r.good = Z.good
  bad : r.bad = Z.bad
  st : ∀ i : Nat, i < r.st.length → r.st.getD i 0 = stOf Z.ths ((i : Int) + 1)
  key : ∀ i : Nat, i < r.st.length → r.st.getD i 0 = 2 → r.keys.getD i 0 = keyOf Z.ths ((i : Int) + 1)
theorem Mt.new (n : Int) : Mt ⟨n, 0, [], 0, 0⟩ ⟨[], [], n, 0, 0⟩ := ⟨rfl, rfl, rfl, rfl, rfl, fun i hi => by simp at hi, fun i hi => by simp at hi⟩
section
variable {Z : ZS} {r : RS}
theorem Mt.at_ (h : Mt Z r) (hr : Rising Z.spawned Z.ths) (t : Int) : r.at_ t = stOf Z.ths t := by
  unfold RS.at_
  split
  · rename_i ht
    obtain ⟨i, rfl⟩ : ∃ i : Nat, t = (i : Int) + 1 := ⟨(t - 1).toNat, by omega⟩
    rw [show ((i : Int) + 1 - 1).toNat = i by omega]
    exact h.st i (by omega)
  · rename_i ht
    have hl := h.len
    exact (stOf_far hr (by omega)).symm
theorem Mt.err (h : Mt Z r) (hr : Rising Z.spawned Z.ths) (t fr : Int) : r.moveErr t fr = Z.inErr fr t := by
  unfold RS.moveErr ZS.inErr; rw [h.at_ hr]
theorem cnt_filt (h : Mt Z r) (hr : Rising Z.spawned Z.ths) (m : Nat) (hm : m ≤ r.st.length) : cntR r.st m = (Z.ths.filter (fun x => true && decide (x.no ≤ (m : Int)))).length := by
  induction m with
  | zero => rw [filt_zero hr]; rfl
  | succ m ih =>
    rw [filt_succ hr, List.length_append, ← ih (by omega), filt_one hr]
    show cntR r.st m + _ = _
    rw [h.st m (by omega)]
    congr 1
    cases hx : idx Z.ths ((m : Int) + 1) with
    | none => rw [stOf_none hx]; rfl
    | some i =>
      obtain ⟨hi, hs⟩ := stOf_some hx
      have := hr.2 Z.ths[i] (List.getElem_mem _)
      rw [hs, if_neg (by omega)]; rfl
theorem Mt.cnt (h : Mt Z r) (hr : Rising Z.spawned Z.ths) : cntR r.st r.st.length = Z.ths.length := by
  rw [cnt_filt h hr _ (Nat.le_refl _), filt_all hr _ _ (by have := h.len; omega)]
  simp
theorem Mt.spawns (h : Mt Z r) (hok : Z.Ok) : r.spawnNo = Z.spawnNo ∧ r.spawnErr = Z.spawnErr ∧ Mt Z.spawn r.spawn := by
  have hc := h.cnt hok.ris
  have hm : r.more = decide ((Z.ths.length : Int) < Z.most) := by unfold RS.more; rw [hc, h.most]
  unfold RS.spawnNo RS.spawnErr RS.spawn ZS.spawnNo ZS.spawnErr ZS.spawn
  rw [hm]
  by_cases hl : (Z.ths.length : Int) < Z.most
  · simp only [hl, decide_true, if_true]
    have hlen := h.len
    refine ⟨by omega, trivial, ?_⟩
    refine ⟨by simp; omega, by simp [h.klen], h.most, h.good, h.bad, fun i hi => ?_, fun i hi => ?_⟩
    · dsimp only at hi ⊢
      rw [stOf_new hok.ris]
      simp only [List.length_append, List.length_cons, List.length_nil] at hi
      by_cases hil : i < r.st.length
      · rw [if_neg (by omega), ← h.st i hil]
        simp [List.getD, hil, List.getElem?_append_left hil]
      · have : i = r.st.length := by omega
        subst this
        rw [if_pos (by omega)]
        simp [List.getD]
    · dsimp only at hi ⊢
      simp only [List.length_append, List.length_cons, List.length_nil] at hi
      by_cases hil : i < r.st.length
      · intro h2
        have h2' : r.st.getD i 0 = 2 := by simpa [List.getD, hil, List.getElem?_append_left hil] using h2
        have hk := h.key i hil h2'
        have hs := h.st i hil
        have hik : i < r.keys.length := by have := h.klen; omega
        have e1 : (r.keys ++ [0]).getD i 0 = r.keys.getD i 0 := by simp [List.getD, List.getElem?_append_left hik]
        rw [e1, hk]
        have : keyOf (Z.ths ++ [⟨Z.spawned + 1, 1, 0⟩]) ((i : Int) + 1) = keyOf Z.ths ((i : Int) + 1) := by
          have hin : ∃ x ∈ Z.ths, x.no = (i : Int) + 1 := by
            refine Classical.byContradiction fun hc => ?_
            have := stOf_out (l := Z.ths) (u := (i : Int) + 1) (fun x hx e => hc ⟨x, hx, e⟩)
            omega
          generalize Z.ths = l at hin
          induction l with
          | nil => simp at hin
          | cons x l ih =>
            rw [List.cons_append, keyOf_cons, keyOf_cons]
            by_cases hx : x.no = (i : Int) + 1
            · simp [hx]
            · rw [if_neg hx, if_neg hx]
              refine ih ?_
              obtain ⟨y, hy, e⟩ := hin
              rcases List.mem_cons.1 hy with rfl | hy
              · exact absurd e hx
              · exact ⟨y, hy, e⟩
        exact this.symm
      · intro h2
        have : i = r.st.length := by omega
        subst this
        simp [List.getD] at h2
  · simp only [hl, decide_false]
    exact ⟨rfl, rfl, h⟩
theorem Mt.put (h : Mt Z r) {to key : Int} {ths : List Th} {i : Nat} (hi : i < r.st.length) (hst : ∀ j : Nat, j < r.st.length → stOf ths ((j : Int) + 1) = if j = i then to else stOf Z.ths ((j : Int) + 1))
    (hk : ∀ j : Nat, j < r.st.length → j ≠ i → keyOf ths ((j : Int) + 1) = keyOf Z.ths ((j : Int) + 1)) (hki : to = 2 → keyOf ths ((i : Int) + 1) = key) : Mt { Z with ths := ths } (r.put i to key) := by
  have hkl := h.klen
  refine ⟨by simp [RS.put]; exact h.len, by simp [RS.put, hkl], h.most, h.good, h.bad, fun j hj => ?_, fun j hj => ?_⟩
  · simp only [RS.put, List.length_set] at hj ⊢
    rw [hst j hj]
    by_cases e : j = i
    · subst e; simp [List.getD, hj]
    · rw [if_neg e, ← h.st j hj]
      simp [List.getD, List.getElem?_set_ne (Ne.symm e)]
  · simp only [RS.put, List.length_set] at hj ⊢
    by_cases e : j = i
    · subst e
      intro h2
      have : to = 2 := by simpa [List.getD, hj] using h2
      rw [hki this]
      simp [List.getD, show j < r.keys.length by omega]
    · intro h2
      have h2' : r.st.getD j 0 = 2 := by simpa [List.getD, List.getElem?_set_ne (Ne.symm e)] using h2
      rw [hk j hj e, ← h.key j hj h2']
      simp [List.getD, List.getElem?_set_ne (Ne.symm e)]
theorem Mt.same (h : Mt Z r) : Mt { Z with ths := Z.ths } r := h
theorem Mt.moved (h : Mt Z r) (hok : Z.Ok) (t fr to key k2 : Int) (hto : to ≠ 0) (hk : to = 2 → key = k2) : Mt (if Z.inErr fr t = 0 then { Z with ths := setT Z.ths t to k2 } else Z) (r.move t fr to key) := by
  unfold RS.move
  rw [h.err hok.ris]
  split
  · rename_i he
    obtain ⟨e1, e2⟩ := inErr_st he
    have hti : 1 ≤ t ∧ t ≤ Z.spawned := by
      refine Classical.byContradiction fun hc => e2 (stOf_far hok.ris (by omega))
    have hl := h.len
    obtain ⟨i, rfl⟩ : ∃ i : Nat, t = (i : Int) + 1 := ⟨(t - 1).toNat, by omega⟩
    rw [show ((i : Int) + 1 - 1).toNat = i by omega]
    refine h.put (by omega) (fun j hj => ?_) (fun j hj hne => ?_) (fun h2 => ?_)
    · rw [stOf_set _ _ _ e2]
      by_cases e : j = i
      · subst e; simp
      · rw [if_neg (by omega), if_neg e]
    · exact keyOf_setT _ _ _ _ _ (by omega)
    · rw [keyOf_setT_same _ _ _ _ e2, hk h2]
  · exact h
theorem Mt.freed (h : Mt Z r) (hok : Z.Ok) (t : Int) : Mt (Z.free t) (r.move t 3 0 0) := by
  unfold RS.move ZS.free
  rw [h.err hok.ris]
  split
  · rename_i he
    obtain ⟨e1, e2⟩ := inErr_st he
    have hti : 1 ≤ t ∧ t ≤ Z.spawned := by
      refine Classical.byContradiction fun hc => e2 (stOf_far hok.ris (by omega))
    have hl := h.len
    obtain ⟨i, rfl⟩ : ∃ i : Nat, t = (i : Int) + 1 := ⟨(t - 1).toNat, by omega⟩
    rw [show ((i : Int) + 1 - 1).toNat = i by omega]
    refine h.put (by omega) (fun j hj => ?_) (fun j hj hne => ?_) (fun h2 => by omega)
    · rw [stOf_cut]
      by_cases e : j = i
      · subst e; simp
      · rw [if_neg (by omega), if_neg e]
    · exact keyOf_cut _ _ _ (by omega)
  · exact h
theorem Mt.picked (h : Mt Z r) (hok : Z.Ok) (t : Int) : Mt (Z.pick t) (r.pick t) ∧ pickB Z r t = true := by
  unfold ZS.pick RS.pick pickB
  rw [h.at_ hok.ris]
  by_cases hs : stOf Z.ths t = 1
  · simp only [hs, if_true]
    exact ⟨⟨h.len, h.klen, h.most, by dsimp only; rw [h.good], h.bad, h.st, h.key⟩, rfl⟩
  · simp only [hs, if_false]
    exact ⟨⟨h.len, h.klen, h.most, h.good, by dsimp only; rw [h.bad], h.st, h.key⟩, by simp [hs]⟩
end

/-- Where Wake has gone so far. -/
structure WkAt (Z : ZS) (r p : RS) (key : Int) (m : Nat) : Prop where
  len : p.st.length = r.st.length
  klen : p.keys.length = r.st.length
  rest : p.most = r.most ∧ p.good = r.good ∧ p.bad = r.bad
  lo : ∀ i : Nat, i < m → i < r.st.length → p.st.getD i 0 = stOf (wakeT Z.ths key) ((i : Int) + 1) ∧ (p.st.getD i 0 = 2 → p.keys.getD i 0 = keyOf Z.ths ((i : Int) + 1))
  hi : ∀ i : Nat, m ≤ i → p.st.getD i 0 = r.st.getD i 0 ∧ p.keys.getD i 0 = r.keys.getD i 0
theorem wk_at {Z : ZS} {r : RS} (h : Mt Z r) (hok : Z.Ok) (key : Int) (m : Nat) (hm : m ≤ r.st.length) :
    WkAt Z r (wkR key r m) key m ∧ wkC key r m = (Z.ths.filter (fun x => (x.st == 2 && x.key == key) && decide (x.no ≤ (m : Int)))).length := by
  induction m with
  | zero => exact ⟨⟨rfl, h.klen, ⟨rfl, rfl, rfl⟩, fun i hi => by omega, fun i _ => ⟨rfl, rfl⟩⟩, by rw [filt_zero hok.ris]; rfl⟩
  | succ m ih =>
    obtain ⟨w, hc⟩ := ih (by omega)
    have hst := h.st m (by omega)
    obtain ⟨hh1, hh2⟩ := w.hi m (Nat.le_refl _)
    have hwb := wake_both Z.ths key ((m : Int) + 1)
    rw [filt_succ hok.ris, List.length_append, ← hc, filt_one hok.ris]
    show WkAt Z r (wkS key (wkR key r m) m) key (m + 1) ∧ wkC key r m + wkN key (wkR key r m) m = _
    generalize wkR key r m = p at w hh1 hh2
    have hcond : (p.st.getD m 0 = 2 ∧ p.keys.getD m 0 = key) ↔ (stOf Z.ths ((m : Int) + 1) = 2 ∧ keyOf Z.ths ((m : Int) + 1) = key) := by
      rw [hh1, hh2, hst]
      constructor
      · rintro ⟨a, b⟩
        exact ⟨a, by rw [← h.key m (by omega) (by rw [hst]; exact a)]; exact b⟩
      · rintro ⟨a, b⟩
        exact ⟨a, by rw [h.key m (by omega) (by rw [hst]; exact a)]; exact b⟩
    have hm1 : (match idx Z.ths ((m : Int) + 1) with | none => [] | some i => if ((Z.ths.getD i ⟨0, 0, 0⟩).st == 2 && (Z.ths.getD i ⟨0, 0, 0⟩).key == key) = true then [Z.ths.getD i ⟨0, 0, 0⟩] else []).length = if stOf Z.ths ((m : Int) + 1) = 2 ∧ keyOf Z.ths ((m : Int) + 1) = key then 1 else 0 := by
      cases hx : idx Z.ths ((m : Int) + 1) with
      | none => rw [stOf_none hx]; simp
      | some i =>
        obtain ⟨hi, hs⟩ := stOf_some hx
        obtain ⟨_, hk⟩ := keyOf_some hx
        have e : Z.ths.getD i ⟨0, 0, 0⟩ = Z.ths[i] := by simp [List.getD, hi]
        simp only [e, hs, hk]
        by_cases c : Z.ths[i].st = 2 ∧ Z.ths[i].key = key
        · simp [c]
        · rw [if_neg c, if_neg (by simpa using c)]; rfl
    rw [hm1]
    by_cases c : p.st.getD m 0 = 2 ∧ p.keys.getD m 0 = key
    · have c' := hcond.1 c
      have e3 : wkS key p m = p.put m 1 0 := by unfold wkS; rw [if_pos c]
      have e4 : wkN key p m = 1 := by unfold wkN; rw [if_pos c]
      rw [e3, e4, if_pos c']
      refine ⟨⟨by simp [RS.put, w.len], by simp [RS.put, w.klen], w.rest, fun i hi hil => ?_, fun i hi => ?_⟩, rfl⟩
      · simp only [RS.put]
        by_cases e : i = m
        · subst e
          rw [hwb.2, if_pos c']
          simp [List.getD, w.len, hil]
        · have := w.lo i (by omega) hil
          simpa [List.getD, List.getElem?_set_ne (Ne.symm e)] using this
      · have := w.hi i (by omega)
        simpa [RS.put, List.getD, List.getElem?_set_ne (show m ≠ i by omega)] using this
    · have c' : ¬ (stOf Z.ths ((m : Int) + 1) = 2 ∧ keyOf Z.ths ((m : Int) + 1) = key) := fun x => c (hcond.2 x)
      have e3 : wkS key p m = p := by unfold wkS; rw [if_neg c]
      have e4 : wkN key p m = 0 := by unfold wkN; rw [if_neg c]
      rw [e3, e4, if_neg c']
      refine ⟨⟨w.len, w.klen, w.rest, fun i hi hil => ?_, fun i hi => w.hi i (by omega)⟩, rfl⟩
      by_cases e : i = m
      · subst e
        rw [hwb.2, if_neg c', hh1, hst]
        exact ⟨rfl, fun h2 => by rw [hh2, h.key i hil (by rw [hst]; exact h2)]⟩
      · exact w.lo i (by omega) hil
theorem Mt.woken {Z : ZS} {r : RS} (h : Mt Z r) (hok : Z.Ok) (key : Int) : Mt (Z.wake key) (wkR key r r.st.length) ∧ wkC key r r.st.length = waits Z.ths key := by
  obtain ⟨w, hc⟩ := wk_at h hok key r.st.length (Nat.le_refl _)
  refine ⟨⟨by rw [w.len]; exact h.len, by rw [w.klen, w.len], by rw [w.rest.1]; exact h.most, by rw [w.rest.2.1]; exact h.good, by rw [w.rest.2.2]; exact h.bad, fun i hi => ?_, fun i hi h2 => ?_⟩, ?_⟩
  · rw [w.len] at hi
    exact (w.lo i hi hi).1
  · rw [w.len] at hi
    rw [(w.lo i hi hi).2 h2]
    exact ((wake_both Z.ths key ((i : Int) + 1)).1).symm
  · rw [hc, filt_all hok.ris _ _ (by have := h.len; omega)]; rfl
theorem readyR_filt {Z : ZS} {r : RS} (h : Mt Z r) (hr : Rising Z.spawned Z.ths) (m : Nat) (hm : m ≤ r.st.length) : readyR r.st m = (Z.ths.filter (fun x => (x.st == 1) && decide (x.no ≤ (m : Int)))).map (·.no) := by
  induction m with
  | zero => rw [filt_zero hr]; rfl
  | succ m ih =>
    rw [filt_succ hr, List.map_append, ← ih (by omega), filt_one hr]
    show readyR r.st m ++ _ = _
    rw [h.st m (by omega)]
    congr 1
    cases hx : idx Z.ths ((m : Int) + 1) with
    | none => rw [stOf_none hx]; rfl
    | some i =>
      obtain ⟨hi, hs⟩ := stOf_some hx
      obtain ⟨_, hno⟩ := idx_some hx
      have e : Z.ths.getD i ⟨0, 0, 0⟩ = Z.ths[i] := by simp [List.getD, hi]
      simp only [e, hs]
      by_cases c : Z.ths[i].st = 1
      · simp [c, hno]
      · rw [if_neg c, if_neg (by simpa using c)]; rfl
theorem Mt.ready {Z : ZS} {r : RS} (h : Mt Z r) (hr : Rising Z.spawned Z.ths) : readyR r.st r.st.length = readyT Z.ths := by
  rw [readyR_filt h hr _ (Nat.le_refl _), filt_all hr _ _ (by have := h.len; omega)]; rfl
/-- One call: the same answer, and the same behind it. -/
theorem Mt.step {Z : ZS} {r : RS} (h : Mt Z r) (hok : Z.Ok) (k t key : Int) : Mt (Z.step k t key) (r.step k t key) ∧ okB Z r k t key = true := by
  unfold ZS.step RS.step okB
  by_cases h1 : k = 1
  · obtain ⟨a, b, c⟩ := h.spawns hok
    subst h1
    exact ⟨c, (by simp [a, b] : (Z.spawnNo == r.spawnNo && Z.spawnErr == r.spawnErr) = true)⟩
  · by_cases h2 : k = 2
    · subst h2
      exact ⟨h.moved hok t 1 2 key key (by decide) (fun _ => rfl), (by rw [h.err hok.ris]; simp : (Z.inErr 1 t == r.moveErr t 1) = true)⟩
    · by_cases h3 : k = 3
      · subst h3
        exact ⟨h.moved hok t 1 3 0 (keyOf Z.ths t) (by decide) (fun x => by omega), (by rw [h.err hok.ris]; simp : (Z.inErr 1 t == r.moveErr t 1) = true)⟩
      · by_cases h4 : k = 4
        · subst h4
          exact ⟨h.freed hok t, (by rw [h.err hok.ris]; simp : (Z.inErr 3 t == r.moveErr t 3) = true)⟩
        · by_cases h5 : k = 5
          · obtain ⟨a, b⟩ := h.woken hok key
            subst h5
            exact ⟨a, (by rw [b]; simp : (((waits Z.ths key : Nat) : Int) == ((wkC key r r.st.length : Nat) : Int)) = true)⟩
          · by_cases h6 : k = 6
            · subst h6
              exact h.picked hok t
            · simp only [h1, h2, h3, h4, h5, h6, if_false]
              exact ⟨h, trivial⟩
end Go.Proofs.Ytlmgojnhmdppnaa
