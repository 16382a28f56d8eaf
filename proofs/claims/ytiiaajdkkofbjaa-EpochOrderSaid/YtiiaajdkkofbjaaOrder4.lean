/-
  EpochOrder, between the loops. Conditions: as in the texts that it imports.
-/
import Derived.Test.YtiiaajdkkofbjaaOrder3
import Derived.Test.YtiiaajdkkofbjaaArgs
namespace Go.Proofs.Ytiiaajdkkofbjaa
open Go.RowKit Go.Maps
set_option linter.unusedVariables false

/-- J: who is inside; E: since when; T0: now. -/
structure JE (E : List Int) (T0 : Int) (J : List Int) : Prop where
  mem : ∀ t : Nat, t < 9 → ((t : Int) ∈ J ↔ E.getD t 0 ≠ 0)
  rng : ∀ x ∈ J, ∃ t : Nat, x = t ∧ 1 ≤ t ∧ t ≤ 8
  nod : J.Nodup
  few : J.length ≤ 9
  ent : ∀ i, 0 ≤ E.getD i 0 ∧ E.getD i 0 ≤ T0
theorem JE.of {Y : YS} (ho : OutOk Y) (he : EntOk Y) : JE Y.ent Y.now Y.inside := by
  have hm : ∀ x : Int, x ∈ Y.inside ↔ ∃ t : Nat, t < 9 ∧ x = t ∧ Y.ent.getD t 0 ≠ 0 := fun x => insideTo_iff Y.ent 9 x
  refine ⟨fun t ht => ⟨fun h => ?_, fun h => (hm _).2 ⟨t, ht, rfl, h⟩⟩, fun x hx => ?_, insideTo_nodup Y.ent 9, insideTo_le Y.ent 9, he⟩
  · obtain ⟨s, _, e, h0⟩ := (hm _).1 h
    have : t = s := by omega
    rw [this]; exact h0
  · obtain ⟨s, h9, e, h0⟩ := (hm _).1 hx
    refine ⟨s, e, ?_, by omega⟩
    rcases Nat.eq_zero_or_pos s with h | h
    · exact absurd (ho s (.inl h)) h0
    · exact h
theorem JE.none {E J : List Int} {T0 : Int} (h : JE E T0 J) (hJ : J = []) : ∀ t, t < 9 → E.getD t 0 = 0 := fun t ht => by
  subst hJ
  by_cases e : E.getD t 0 = 0
  · exact e
  · exact absurd ((h.mem t ht).2 e) (by simp)
theorem JE.some {E J : List Int} {T0 : Int} (h : JE E T0 J) (hJ : J ≠ []) : ∃ t, t < 9 ∧ E.getD t 0 ≠ 0 ∧ E.getD t 0 ≤ T0 := by
  cases J with
  | nil => exact absurd rfl hJ
  | cons x l =>
    obtain ⟨t, rfl, h1, h8⟩ := h.rng x (by simp)
    exact ⟨t, by omega, (h.mem t (by omega)).1 (by simp), (h.ent t).2⟩
section
variable {w wr w' : World} {pa py : Nat}
theorem OR1.inside {k : Nat} (h : OR1 w wr pa py k) :
    Calls Try.prog 27 #[.pointer (some ⟨py, 0, none⟩)] wr fun e w' => ∃ (a : Option Addr) (c : Nat) (J E : List Int) (T0 : Int), e = .returned (.slice a J.length c) ∧ (a = none → c = 0) ∧ JE E T0 J ∧ T0 ≤ k ∧ wr.heap.size ≤ w'.heap.size ∧ OR2 w (w'.alloc (.cells #[] 3)) pa py E T0 J a (.slice (some ⟨w'.heap.size, 0, none⟩) 0 0) 0 := by
  obtain ⟨hkp, Y, y, ho, he, h8, h64, hw, hn⟩ := h
  refine (inside_form y).mono ?_
  rintro e w' ⟨a, c, rfl, hb, hown⟩
  obtain ⟨a', c', e1, hi, hnil, hg⟩ := own_ints' hown
  obtain ⟨rfl, rfl⟩ : a = a' ∧ c = c' := by simpa using e1
  have hz := hkp.size
  have hz' := hb.size
  have hb2 : Below wr.heap.size wr (w'.alloc (.cells #[] 3)) := hb.trans ((Below.refl _ _).alloc hz' _)
  have hown0 : (w'.alloc (Obj.cells #[] 3)).ownsRow w.heap.size 3 1 (.slice (some ⟨w'.heap.size, 0, none⟩) 0 0) 0 [] := World.ownsRow_made w' #[] 0 (by omega) (by unfold maxLen; omega) rfl
  refine ⟨a, c, Y.inside, Y.ent, Y.now, rfl, hnil, JE.of ho he, hn, hz', ⟨hkp.trans (Keep.ofBelow' hb2 |>.less (fun k hk => by have : k < w.heap.size := hk; show k < wr.heap.size; omega)), hi.below ((Below.refl _ _).alloc (Nat.le_refl _) _), fun k => k < w.heap.size ∨ (wr.heap.size ≤ k ∧ k < (w'.alloc (.cells #[] 3)).heap.size), Y, _, fun k hk => .inl hk, fun k hk hx => ?_, fun g e => ⟨.inr ?_, ?_⟩, fun g e => .inr ?_, y.grow hb2, ⟨rfl, by simp, h8, h64, rfl, by simp, rfl, by rw [hw]; simp, by rw [hw]; simp⟩, by rw [hw]; exact hown0⟩⟩
  · simp at hk hx; omega
  · have := hg g e; simp; omega
  · have := hg g e
    simp only [Value.ownBlock, ne_eq, Option.some.injEq]; omega
  · simp only [Value.ownBlock, Option.some.injEq] at e
    subst e; simp; omega
/-- Behind the second loop: Waiting is the list. -/
theorem OR2.wait {E J : List Int} {T0 : Int} {a9 : Option Addr} {u10 : Value} (h : OR2 w wr pa py E T0 J a9 u10 5) :
    ∃ a n c, u10 = .slice a n c ∧ Calls Try.prog 31 #[.pointer (some ⟨py, 0, none⟩)] wr fun e w' => e = .returned (.slice (some ⟨wr.heap.size, 0, none⟩) n n) ∧ Below wr.heap.size wr w' ∧
      Calls Try.prog 34 #[.slice (some ⟨wr.heap.size, 0, none⟩) n n, .slice a n c] w' fun e w2 => e = .returned (.bool true) ∧ ∃ q, w2 = w'.drewN q := by
  obtain ⟨hkp, hja, P, Y, S, p1, p2, p3, p4, y, hm, ho⟩ := h
  obtain ⟨a, c, rfl, hi⟩ := own_ints ho
  have hl : (blocksOf Y.wt).length = Y.wt.length := by simp [blocksOf]
  refine ⟨a, _, c, rfl, (waiting_any y).mono ?_⟩
  rintro e w' ⟨rfl, hb, hbl⟩
  rw [hl]
  refine ⟨rfl, hb, ?_⟩
  have hs := same_any (c := Y.wt.length) (c' := c) (blk_ints hbl) (hi.below hb) (by rw [hl]; exact y.ok.few)
  rw [hl] at hs
  exact hs
theorem OR2.og {E J : List Int} {T0 : Int} {a9 : Option Addr} {c9 : Nat} {u10 : Value} (h : OR2 w wr pa py E T0 J a9 u10 5) (hj : JE E T0 J) (hnil : a9 = none → c9 = 0) (hb : Below wr.heap.size wr w') {gL n cap : Nat} {Ls : List Int}
    (hn : n = Ls.length) (hL : w'.ownsRow wr.heap.size 3 1 (.slice (some ⟨gL, 0, none⟩) n cap) n (Ls.map (Value.int .i64))) (hlt : gL < w'.heap.size) (hge : wr.heap.size ≤ gL) : OR3 w w' pa py Ls gL a9 c9 J T0 (T0 + 5) (T0 + 5) 0 := by
  obtain ⟨hkp, hja, P, Y, S, p1, p2, p3, p4, y, hm, ho⟩ := h
  subst hn
  have hz := hkp.size
  have hT : Y.now = T0 + 5 := hm.now
  refine ⟨⟨hkp.trans (Keep.ofBelow' hb |>.less (fun k hk => by have : k < w.heap.size := hk; show k < wr.heap.size; omega)), fun j hj' => ?_, hja.below hb, hnil, fun k => P k ∨ (wr.heap.size ≤ k ∧ k < w'.heap.size), Y, S, fun k hk => .inl (p1 k hk), fun k hk hx => ?_, .inr ⟨hge, hlt⟩, fun g e => .inl (p3 g e).1, y.grow hb, ⟨⟨?_, ?_, hj.rng, fun r hr => (hm.wts r hr).2, by omega, hj.nod, hm.th⟩, by omega⟩, .inl rfl⟩, fun x hx => by simp, by have := hj.few; omega⟩
  · have := hL.cellAt j (by rw [Nat.mul_one]; exact hj')
    rw [this]
    simp [List.getD, hj']
  · rcases hx with hx | hx
    · exact p2 k (by have := hb.size; omega) hx
    · omega
  · intro t ht hx
    rw [hm.ent]
    have := (hj.mem t ht).1 hx
    have := hj.ent t
    omega
  · intro t ht hx
    rw [hm.ent]
    left
    by_cases e : E.getD t 0 = 0
    · exact e
    · exact absurd ((hj.mem t ht).2 e) hx
theorem row_news {a1 : Option Addr} {len1 cap1 : Nat} {z1 : List Int} (h : IsRow .i64 w a1 len1 cap1 z1) (hk : Keep (fun k => k < w.heap.size) w w') :
    ((z1.take len1).map (Value.int .i64)).length = len1 * 1 ∧ (a1 = none → len1 = 0 ∧ cap1 = 0) ∧ ∀ ad, a1 = some ad → ∀ j u, ((z1.take len1).map (Value.int .i64))[j]? = some u → w'.cell? (ad.add j) = some u := by
  rcases h with ⟨rfl, rfl, rfl, rfl⟩ | ⟨x, rfl, h1, h2, h3, h4, h5⟩
  · exact ⟨rfl, fun _ => ⟨rfl, rfl⟩, fun ad e => by cases e⟩
  · refine ⟨by simp; omega, (fun e => by cases e), fun ad e j u hu => ?_⟩
    obtain rfl := Option.some.inj e
    have hj : j < len1 := by
      rcases Nat.lt_or_ge j len1 with h | h
      · exact h
      · rw [List.getElem?_eq_none (by simp; omega)] at hu; cases hu
    have hc := h4 j (by omega)
    have hu' : u = .int .i64 (z1.getD j 0) := by
      rw [List.getElem?_map, List.getElem?_take, if_pos hj] at hu
      have : z1[j]? = some z1[j] := List.getElem?_eq_getElem (by omega)
      rw [this] at hu
      simp only [Option.map_some, Option.some.injEq] at hu
      rw [← hu]; simp [List.getD, show j < z1.length by omega]
    rw [hu']
    have hlt : x.block < w.heap.size := by
      obtain ⟨b, off, rfl, hcc⟩ := ints_at h4 (by omega)
      exact cell_block (hcc j (by omega))
    rw [← hc]
    have e : (x.add j).block = x.block := by
      obtain ⟨b, off, rfl, hcc⟩ := ints_at h4 (by omega)
      simp only [Addr.add]; split <;> rfl
    exact World.cell?_of_block (a := x.add j) (by rw [e]; exact hk.block x.block hlt hlt)
theorem OG.waits' {Ls J : List Int} {gL c9 : Nat} {a9 : Option Addr} {T0 T1 N : Int} (h : OG w wr pa py Ls gL a9 c9 J (OQs J T0 T1 N)) (hJ : J = []) :
    Calls Try.prog 31 #[.pointer (some ⟨py, 0, none⟩)] wr fun e w' => (∃ a c, e = .returned (.slice a 0 c)) ∧ OG w w' pa py Ls gL a9 c9 J (OQs J T0 T1 N) := by
  subst hJ
  exact h.waits
theorem OR3.og' {Ls J : List Int} {gL c9 k : Nat} {a9 : Option Addr} {T0 T1 N0 : Int} (h : OR3 w wr pa py Ls gL a9 c9 J T0 T1 N0 k) : OG w wr pa py Ls gL a9 c9 J (OQ J T0 T1 (N0 + k)) := h.og.weak (fun Y S _ q => q.1)
theorem OR3.fin {Ls J : List Int} {gL c9 k : Nat} {a9 : Option Addr} {T0 T1 N0 : Int} (h : OR3 w wr pa py Ls gL a9 c9 J T0 T1 N0 k) (hk : k = Ls.length) (h0 : 0 < k) (hall : ∀ t : Nat, 1 ≤ t → t ≤ 8 → (t : Int) ∈ Ls) :
    J = [] ∧ OG w wr pa py Ls gL a9 c9 J (OQs J T0 T1 (N0 + k)) := by
  have hJ : J = [] := by
    cases hJ : J with
    | nil => rfl
    | cons x l =>
      exfalso
      obtain ⟨P, Y, S, _, _, _, _, _, q⟩ := h.og.st
      obtain ⟨t, e, h1, h8⟩ := q.1.1.rng x (by rw [hJ]; simp)
      have := h.done x (by rw [hJ]; simp)
      rw [hk, List.take_length] at this
      exact this (e ▸ hall t h1 h8)
  refine ⟨hJ, h.og.weak (fun Y S _ q => ⟨q.1.1, q.1.2, fun _ => ?_⟩)⟩
  rcases q.2 with e | e | e
  · omega
  · exact absurd hJ e
  · exact e
theorem below_drewN {B : Nat} {a : World} (h : Below B a w) (q : Nat) : Below B a (w.drewN q) := ⟨h.os, h.tape, h.output, h.size, h.block⟩
end
theorem or_out0 : OutOk ⟨8, 64, 0, [0, 0, 0, 0, 0, 0, 0, 0, 0], []⟩ := fun i _ => by
  have : i = 0 ∨ i = 1 ∨ i = 2 ∨ i = 3 ∨ i = 4 ∨ i = 5 ∨ i = 6 ∨ i = 7 ∨ i = 8 ∨ 9 ≤ i := by omega
  rcases this with rfl | rfl | rfl | rfl | rfl | rfl | rfl | rfl | rfl | h9
  all_goals first | rfl | (simp only [List.getD_eq_getElem?_getD]; rw [List.getElem?_eq_none (by simpa using h9)]; rfl)
theorem or_ent0 : EntOk ⟨8, 64, 0, [0, 0, 0, 0, 0, 0, 0, 0, 0], []⟩ := fun i => by
  have : i = 0 ∨ i = 1 ∨ i = 2 ∨ i = 3 ∨ i = 4 ∨ i = 5 ∨ i = 6 ∨ i = 7 ∨ i = 8 ∨ 9 ≤ i := by omega
  rcases this with rfl | rfl | rfl | rfl | rfl | rfl | rfl | rfl | rfl | h9
  all_goals first | (simp; done) | (simp only [List.getD_eq_getElem?_getD]; rw [List.getElem?_eq_none (by simpa using h9)]; simp)
end Go.Proofs.Ytiiaajdkkofbjaa
