/-
  Terms in new memory that are spoiled: what may be written over, and how. No condition.
-/
import Derived.Test.YthbofkffklejoaaSx7
namespace Go.Proofs.Ythbofkffklejoaa
open Go.RowKit Go.Maps
set_option linter.unusedVariables false
set_option linter.unusedSimpArgs false

/-- A slice of terms in blocks of R, down to a depth: each list of arguments from a block's beginning. -/
def Sl4 (R : Nat → Prop) (w : World) : Nat → Option Addr → Nat → Prop
  | 0, _, n => n = 0
  | d + 1, a, n => n = 0 ∨ ∃ g cs, a = some ⟨g, 0, none⟩ ∧ R g ∧ Blk w g 24 cs ∧ n * 4 ≤ cs.size ∧ n ≤ maxLen ∧ ∀ j, j < n → ∃ (k i : Int) (nm : ByteArray) (a' : Option Addr) (n' c' : Nat), cs[j * 4]? = some (.int .i64 k) ∧ cs[j * 4 + 1]? = some (.string nm) ∧ cs[j * 4 + 2]? = some (.int .i64 i) ∧ cs[j * 4 + 3]? = some (.slice a' n' c') ∧ Sl4 R w d a' n'
/-- Blocks of R may have been written over, term by term; nothing else. -/
structure Spo (R : Nat → Prop) (w w' : World) : Prop where
  kp : Keep (fun g => ¬ R g) w w'
  sp : ∀ g cs, R g → Blk w g 24 cs → ∃ cs', Blk w' g 24 cs' ∧ cs'.size = cs.size ∧ ∀ j, j * 4 + 3 < cs.size → ((cs'[j * 4]? = cs[j * 4]? ∧ cs'[j * 4 + 1]? = cs[j * 4 + 1]? ∧ cs'[j * 4 + 2]? = cs[j * 4 + 2]? ∧ cs'[j * 4 + 3]? = cs[j * 4 + 3]?) ∨ (cs'[j * 4]? = some (.int .i64 2) ∧ cs'[j * 4 + 1]? = some (.string ⟨#[]⟩) ∧ cs'[j * 4 + 2]? = some (.int .i64 77) ∧ cs'[j * 4 + 3]? = some (.slice none 0 0)))
section
variable {R R' : Nat → Prop} {w w' w'' : World}
theorem Spo.ofKeep (h : Keep (fun g => g < w.heap.size) w w') : Spo R w w' := ⟨h.all, fun g cs hR hb => ⟨cs, hb.keep h hb.lt, rfl, fun j hj => .inl ⟨rfl, rfl, rfl, rfl⟩⟩⟩
theorem Spo.refl (R : Nat → Prop) (w : World) : Spo R w w := Spo.ofKeep (Keep.refl _ _)
theorem Spo.trans (h : Spo R w w') (k : Spo R w' w'') : Spo R w w'' := ⟨h.kp.trans k.kp, fun g cs hR hb => by
  obtain ⟨c1, hb1, hs1, h1⟩ := h.sp g cs hR hb
  obtain ⟨c2, hb2, hs2, h2⟩ := k.sp g c1 hR hb1
  refine ⟨c2, hb2, hs2.trans hs1, fun j hj => ?_⟩
  rcases h2 j (by omega) with ⟨q0, q1, q2, q3⟩ | q
  · rw [q0, q1, q2, q3]; exact h1 j hj
  · exact .inr q⟩
theorem Sl4.mono : ∀ (d e : Nat) {a : Option Addr} {n : Nat}, Sl4 R w d a n → d ≤ e → Sl4 R w e a n
  | 0, 0, a, n, h, _ => h
  | 0, e + 1, a, n, h, _ => .inl h
  | d + 1, 0, a, n, h, he => by omega
  | d + 1, e + 1, a, n, h, he => by
    rcases h with h | ⟨g, cs, h1, h2, h3, h4, h5, h6⟩
    · exact .inl h
    · refine .inr ⟨g, cs, h1, h2, h3, h4, h5, fun j hj => ?_⟩
      obtain ⟨k, i, nm, a', n', c', q0, q1, q2, q3, q4⟩ := h6 j hj
      exact ⟨k, i, nm, a', n', c', q0, q1, q2, q3, Sl4.mono d e q4 (by omega)⟩
theorem Sl4.on : ∀ (d : Nat) {a : Option Addr} {n : Nat}, Sl4 R w d a n → Spo R w w' → Sl4 R w' d a n
  | 0, a, n, h, _ => h
  | d + 1, a, n, h, k => by
    rcases h with h | ⟨g, cs, h1, h2, h3, h4, h5, h6⟩
    · exact .inl h
    · obtain ⟨c1, hb1, hs1, hq⟩ := k.sp g cs h2 h3
      refine .inr ⟨g, c1, h1, h2, hb1, by omega, h5, fun j hj => ?_⟩
      obtain ⟨y, i, nm, a', n', c', q0, q1, q2, q3, q4⟩ := h6 j hj
      rcases hq j (by omega) with ⟨r0, r1, r2, r3⟩ | ⟨r0, r1, r2, r3⟩
      · exact ⟨y, i, nm, a', n', c', r0.trans q0, r1.trans q1, r2.trans q2, r3.trans q3, Sl4.on d q4 k⟩
      · exact ⟨2, 77, ⟨#[]⟩, none, 0, 0, r0, r1, r2, r3, Sl4.mono 0 d rfl (Nat.zero_le _)⟩
/-- One term is written over. -/
theorem Spo.slot {g j : Nat} {cs : Array Value} (hb : Blk w g 24 cs) (hR : R g) (hj : j * 4 + 3 < cs.size) :
    Spo R w ((((w.setCell ⟨g, j * 4, none⟩ (.int .i64 2)).setCell ⟨g, j * 4 + 1, none⟩ (.string ⟨#[]⟩)).setCell ⟨g, j * 4 + 2, none⟩ (.int .i64 77)).setCell ⟨g, j * 4 + 3, none⟩ (.slice none 0 0)) := by
  have hX : ∀ o, ¬ (fun g => ¬ R g) (⟨g, o, none⟩ : Addr).block := fun o h => h hR
  have hbl := (((hb.set_ (j * 4) (.int .i64 2)).set_ (j * 4 + 1) (.string ⟨#[]⟩)).set_ (j * 4 + 2) (.int .i64 77)).set_ (j * 4 + 3) (.slice none 0 0)
  refine ⟨((((Keep.refl _ w).setCell (hX _) _).setCell (hX _) _).setCell (hX _) _).setCell (hX _) _, fun g' cs' hR' hb' => ?_⟩
  by_cases he : g' = g
  · subst he
    have e : cs' = cs := by
      unfold Blk at hb hb'
      rw [hb] at hb'
      injection hb' with h1
      injection h1 with h1 _ _
      exact h1.symm
    subst e
    refine ⟨_, hbl, by simp, fun i hi => ?_⟩
    by_cases hij : i = j
    · subst hij
      right
      simp [Array.getElem?_setIfInBounds]
      omega
    · left
      simp [Array.getElem?_setIfInBounds]
      refine ⟨?_, ?_, ?_, ?_⟩ <;> (repeat (rw [if_neg (by omega)]))
  · exact ⟨cs', (((hb'.far he _).far he _).far he _).far he _, rfl, fun i hi => .inl ⟨rfl, rfl, rfl, rfl⟩⟩
theorem Sl4.ofAll : ∀ (ps : List TP), (∀ p ∈ ps, ∃ d, Sl4 R w d p.2.1 p.1.args.length) → ∃ d, ∀ p ∈ ps, Sl4 R w d p.2.1 p.1.args.length
  | [], _ => ⟨0, fun p hp => by simp at hp⟩
  | q :: ps, h => by
    obtain ⟨d1, h1⟩ := h q List.mem_cons_self
    obtain ⟨d2, h2⟩ := Sl4.ofAll ps fun p hp => h p (List.mem_cons_of_mem _ hp)
    refine ⟨max d1 d2, fun p hp => ?_⟩
    rcases List.mem_cons.1 hp with rfl | hp
    · exact Sl4.mono d1 _ h1 (Nat.le_max_left _ _)
    · exact Sl4.mono d2 _ (h2 p hp) (Nat.le_max_right _ _)
theorem Fr.sl4 {lo hi c : Nat} {Q : Nat → Prop} {t : Tm} {a : Option Addr} (h : Fr 0 Q w lo hi t a c) (hR : ∀ g cs, lo ≤ g → g < hi → ¬ Q g → Blk w g 24 cs → R g) : ∃ d, Sl4 R w d a t.args.length := by
  induction h with
  | @old t a c h hl =>
    refine ⟨0, ?_⟩
    match hx : t.args with
    | [] => rfl
    | x :: xs =>
      obtain ⟨b, off, a', c', _, hb, _⟩ := h.arg (j := 0) (x := x) (by rw [hx]; rfl)
      omega
  | @node k i nm ps rest b cp hk1 hw hn h8 hlb hub hq blk hcp hs ih =>
    obtain ⟨d, hd⟩ := Sl4.ofAll (R := R) (w := w) ps fun p hp => by
      obtain ⟨j, hj, he⟩ := List.getElem_of_mem hp
      exact ih j p (by rw [List.getElem?_eq_getElem hj, he])
    refine ⟨d + 1, .inr ⟨b, _, rfl, hR b _ hlb hub hq blk, blk, ?_, ?_, fun j hj => ?_⟩⟩
    · show (ps.map _).length * 4 ≤ _
      rw [List.length_map, List.size_toArray, hcp.2.2]; omega
    · show (ps.map _).length ≤ _
      rw [List.length_map]; exact h8
    · have hj' : j < ps.length := by have h : j < (ps.map (·.1)).length := hj; rwa [List.length_map] at h
      have hg : ∀ f, f < 4 → (ps.flatMap TP.cells ++ rest).toArray[j * 4 + f]? = ps[j].cells[f]? := fun f hf => by
        rw [List.getElem?_toArray, List.getElem?_append_left (by rw [flat_len]; omega), flat_get ps j f hf, List.getElem?_eq_getElem hj']; rfl
      have h0 := hg 0 (by omega); have h1 := hg 1 (by omega); have h2 := hg 2 (by omega); have h3 := hg 3 (by omega)
      exact ⟨_, _, _, _, _, _, h0, h1, h2, h3, hd _ (List.getElem_mem hj')⟩
end
end Go.Proofs.Ythbofkffklejoaa
