/-
  What a list's items are, in memory and as trees. No condition.
-/
import Derived.Test.YtfkbbbjicaedmaaGreatDoorUWrI
import Derived.Test.YtfkbbbjicaedmaaGreatDoorUTp2
namespace Go.Proofs.YtfkbbbjicaedmaaGreatDoor
open Go.RowKit Go.Maps
set_option linter.unusedVariables false
set_option linter.unusedSimpArgs false
theorem TmS.of_fr {Q : Nat → Prop} {w : World} {lo hi c : Nat} {t : Tm} {a : Option Addr} (h : Fr 0 Q w lo hi t a c) : TmS (fun g => lo ≤ g ∧ g < hi) w t a c := by
  induction h with
  | old h hl => exact (TmS.of h (Nat.zero_le _)).mono fun k hk => absurd hk (Nat.not_lt_zero _)
  | node hk hw hn h8 hlb hub hq blk hcp hs ih =>
    rename_i k i nm ps rest b cp
    refine .mk _ _ _ (fun j => ((ps[j]?).getD default).2.1) (fun j => ((ps[j]?).getD default).2.2) hk hw hn (by simpa [Tm.args] using h8) (fun j x hj => ?_) (fun j x hj => ?_)
    · have hj' : (ps.map (·.1))[j]? = some x := hj
      rw [List.getElem?_map] at hj'
      obtain ⟨p, hp, rfl⟩ := Option.map_eq_some_iff.1 hj'
      refine ⟨b, 0, rfl, ⟨⟨hlb, hub⟩, blk.lt⟩, fun f v hv => ?_⟩
      rw [hp] at hv
      have hf : f < 4 := by
        rcases Nat.lt_or_ge f 4 with h1 | h1
        · exact h1
        · rw [List.getElem?_eq_none (by simpa [Tm.cells] using h1)] at hv; cases hv
      rw [Nat.zero_add, blk.cell, List.getElem?_toArray, List.getElem?_append_left (by have := (List.getElem?_eq_some_iff.1 hp).1; rw [flat_len]; omega), flat_get ps j f hf, hp]
      exact hv
    · have hj' : (ps.map (·.1))[j]? = some x := hj
      rw [List.getElem?_map] at hj'
      obtain ⟨p, hp, rfl⟩ := Option.map_eq_some_iff.1 hj'
      rw [hp]
      exact ih j p hp
theorem sls_row {w : World} {lo : Nat} {u : Value} {ps : List TP} {Q : Nat → Prop} (h : w.ownsRow lo 24 4 u ps.length (ps.flatMap TP.cells)) (hf : ∀ p ∈ ps, Fr 0 Q w lo w.heap.size p.1 p.2.1 p.2.2) : ∃ ua uc, u = .slice ua ps.length uc ∧ SlS (fun g => lo ≤ g ∧ g < w.heap.size) w ua ps := by
  by_cases h0 : 0 < ps.length
  · obtain ⟨g, cap, cs, h1, hB, hC, hD, hc⟩ := row_some (xs := ps.flatMap TP.cells) (sz := 4) (n := ps.length) h h0
    refine ⟨_, _, h1, fun j p hj => ⟨⟨g, 0, rfl, ⟨⟨hB, hC.lt⟩, hC.lt⟩, fun f v hv => ?_⟩, TmS.of_fr (hf p (List.mem_of_getElem? hj))⟩⟩
    have hf4 : f < 4 := by
      rcases Nat.lt_or_ge f 4 with h1 | h1
      · exact h1
      · rw [List.getElem?_eq_none (by simpa [Tm.cells] using h1)] at hv; cases hv
    rw [Nat.zero_add]
    exact hc _ _ (by rw [flat_get ps j f hf4, hj]; exact hv)
  · have hnil : ps = [] := List.eq_nil_of_length_eq_zero (by omega)
    subst hnil
    rcases h.2 with ⟨hv, _⟩ | ⟨g, cap, cur, hv, _⟩
    · exact ⟨none, 0, hv, fun j p hj => by simp at hj⟩
    · exact ⟨_, _, hv, fun j p hj => by simp at hj⟩
theorem tm_right {t : T} (h : t.Right) : t.tm.right = true :=
  right_of.2 ((T.tm_right t).2 h)
theorem items_c {W : World} {t : Tm} {a : Option Addr} {c : Nat} (hT : TmAt W.heap.size W t a c) (hr : t.right = true) :
    Calls Tryz.prog 58 #[tv t a c] W fun e w' => ∃ (ua : Option Addr) (uc : Nat) (ps : List TP) (ea : Option Addr) (ec : Nat), e = .returned (.tuple #[.slice ua ps.length uc, tv t.tree.items.2.tm ea ec]) ∧ SlS (fun g => W.heap.size ≤ g ∧ g < w'.heap.size) w' ua ps ∧ TmS (fun g => W.heap.size ≤ g ∧ g < w'.heap.size) w' t.tree.items.2.tm ea ec ∧ ps.map (·.1) = t.tree.items.1.map T.tm ∧ Keep (fun g => g < W.heap.size) W w' := by
  refine Calls.mono (Items_any hT) ?_
  rintro e w' ⟨u, ps, a', c', rfl, ho, hp, hf, hfe, kk⟩
  have hi : itV t = (t.tree.items.1.map T.tm, t.tree.items.2.tm) := by unfold itV; rw [if_pos hr]
  rw [hi] at hp hfe ⊢
  obtain ⟨ua, uc, rfl, hS⟩ := sls_row ho hf
  exact ⟨ua, uc, ps, a', c', rfl, hS, TmS.of_fr hfe, hp, kk⟩
end Go.Proofs.YtfkbbbjicaedmaaGreatDoor
