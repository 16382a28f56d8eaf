/-
  Package term's answers as new memory, for walks with letter frames; a copied term. No condition.
-/
import Derived.Test.YthbofkffklejoaaSx8
import Derived.Test.YthbofkffklejoaaSx9
import Derived.Test.YthbofkffklejoaaSx10
import Derived.Test.YthbofkffklejoaaSx5
namespace Go.Proofs.Ythbofkffklejoaa
open Go.RowKit Go.Maps
set_option linter.unusedVariables false
set_option linter.unusedSimpArgs false

/-- Copy answers the term as its kinds name it. -/
theorem cp_tree : ∀ (t : Tm), t.ok = true → mapT cpL t = t.tree.tm := by
  intro t
  induction t using Tm.ind with
  | h k nm i args ih =>
    intro hok
    obtain ⟨t, ht⟩ : ∃ t, t = Tm.node k nm i args := ⟨_, rfl⟩
    have hta : t.args = args := by rw [ht]; rfl
    rw [← ht] at hok ⊢
    rw [← hta] at ih
    clear ht hta
    rcases Tm.ok_kind hok with hk | hk | hk | hk
    · have hi : 1 ≤ t.i := by have h := t.ok_eq; rw [hok, if_pos hk] at h; exact of_decide_eq_true h.symm
      rw [cp_b (by omega) (by omega), tree_1 hk]
      unfold bareV; rw [if_pos (by omega), hk]; rw [T.tm]
    · rw [cp_b (by omega) (by omega), tree_2 hk]
      unfold bareV; rw [if_pos (by omega), hk]; rw [T.tm]
    · rw [cp_b (by omega) (by omega), tree_3 hk]
      unfold bareV; rw [if_neg (by omega), hk]; rw [T.tm]
    · rw [mapT_4 hk, tree_4 hk, T.tm_c, List.map_map]
      congr 1
      refine List.map_congr_left fun x hx => ?_
      exact ih x hx ((Tm.ok_args hok hk).2.2.1 x hx)
theorem cp_right {t : Tm} (h : t.right = true) : (mapT cpL t).right = true ∧ (mapT cpL t).tree = t.tree := by
  have hR := right_of.1 h
  rw [cp_tree t hR.1]
  exact ⟨right_of.2 (t.tree.tm_right.2 (Tm.tree_right hR)), t.tree.tm_tree⟩
theorem solr_len {t u : Tm} {bs : List BP} {ok : Bool} {er : Int} (h : SolR t u bs ok er) : bs.length ≤ 4000 := by
  rcases sol_sols h with ⟨_, _, f, hf⟩ | ⟨_, rfl⟩
  · exact hf.len
  · simp
theorem itV_len (t : Tm) : (itV t).1.length ≤ 100 := by
  unfold itV
  split
  · rename_i h
    have hr := right_of.1 h
    have h1 := itF_len t.tree.nd t.tree
    rw [(Tm.tree_ns hr.1).2.1] at h1
    have h2 := hr.2.2
    show (t.tree.items.1.map T.tm).length ≤ 100
    rw [List.length_map]
    unfold T.items
    rw [(Tm.tree_ns hr.1).2.1]
    omega
  · simp
section
variable {w : World} {t u x : Tm} {a b : Option Addr} {c d : Nat}
theorem rename_fr {m n e : Int} (hT : TmAt w.heap.size w t a c) (hm : (ik m).wf = true) (h : rnV t m = (x, n, e)) : Calls Try.prog 32 #[tv t a c, .int .i64 m] w fun e' w' => ∃ a' c', e' = .returned (.tuple #[tv x a' c', .int .i64 n, .int .i64 e]) ∧ Fr 0 (fun _ => False) w' w.heap.size w'.heap.size x a' c' ∧ Keep (fun g => g < w.heap.size) w w' := by
  have hr := Rename_any hT hm
  rw [h] at hr
  exact hr
theorem list_fr {ps : List TP} {cap : Nat} {e : Int} (hS : TmSl w.heap.size w a ps) (hT : TmAt w.heap.size w t b d) (hlen : ps.length ≤ 2305843009213693951) (ha : ∀ g off, a = some ⟨g, off, none⟩ → g < w.heap.size) (h : lsV (ps.map (·.1)) t = (x, e)) :
    Calls Try.prog 39 #[.slice a ps.length cap, tv t b d] w fun e' w' => ∃ a' c', e' = .returned (.tuple #[tv x a' c', .int .i64 e]) ∧ Fr 0 (fun _ => False) w' w.heap.size w'.heap.size x a' c' ∧ Keep (fun g => g < w.heap.size) w w' := by
  have hr := List_any (cap := cap) hS hT hlen ha
  rw [h] at hr
  exact hr
/-- One block of a row of terms, its cells; none of the terms' lists of arguments lie in it. -/
def RowC (w : World) (g : Nat) (a : Option Addr) (ps : List TP) : Prop := ∀ (j : Nat) (p : TP), ps[j]? = some p → a = some ⟨g, 0, none⟩ ∧ ∀ (f : Nat) (v : Value), p.cells[f]? = some v → w.cell? ⟨g, j * 4 + f, none⟩ = some v
theorem items_fr (hT : TmAt w.heap.size w t a c) : Calls Try.prog 41 #[tv t a c] w fun e w' => ∃ (g : Nat) (ua : Option Addr) (uc : Nat) (ps : List TP) (a' : Option Addr) (c' : Nat), e = .returned (.tuple #[.slice ua ps.length uc, tv (itV t).2 a' c']) ∧
    (RowC w' g ua ps ∧ (0 < ps.length → w.heap.size ≤ g ∧ g < w'.heap.size) ∧ ps.map (·.1) = (itV t).1 ∧ (∀ p ∈ ps, Fr 0 (fun k => 0 < ps.length ∧ k = g) w' w.heap.size w'.heap.size p.1 p.2.1 p.2.2) ∧ Fr 0 (fun k => 0 < ps.length ∧ k = g) w' w.heap.size w'.heap.size (itV t).2 a' c') ∧ Keep (fun g => g < w.heap.size) w w' := by
  refine Calls.mono (Items_any hT) ?_
  rintro e w' ⟨u, ps, a', c', rfl, hr, hm, hp, he, hk⟩
  by_cases h0 : 0 < ps.length
  · obtain ⟨g, cap, cs, h1, hB, hC, hD, hc⟩ := row_some (xs := ps.flatMap TP.cells) (sz := 4) (n := ps.length) (v := u) hr h0
    subst h1
    have hQ : ∀ k, (0 < ps.length ∧ k = g) → (Value.slice (some ⟨g, 0, none⟩) ps.length cap).ownBlock = some k := fun k hk => by rw [hk.2]; rfl
    exact ⟨g, _, cap, ps, a', c', rfl, ⟨fun j p hj => ⟨rfl, fun f v hv => hc _ _ (by rw [flat_get ps j f (get_lt' hv), hj]; exact hv)⟩, fun _ => ⟨hB, hC.lt⟩, hm, fun p h => (hp p h).growR (Nat.le_refl _) fun k _ hq => .inl (hQ k hq), he.growR (Nat.le_refl _) fun k _ hq => .inl (hQ k hq)⟩, hk⟩
  · have hz : ps.length = 0 := by omega
    have hnil : ps = [] := List.eq_nil_of_length_eq_zero hz
    subst hnil
    rcases hr.2 with ⟨rfl, _⟩ | ⟨g, cap, cur, rfl, hb, hg, _⟩
    · exact ⟨0, none, 0, [], a', c', rfl, ⟨fun j p hj => by simp at hj, fun h => absurd h (by simp), hm, fun p hp => by simp at hp, he.growR (Nat.le_refl _) fun k _ hq => absurd hq.1 (by simp)⟩, hk⟩
    · exact ⟨0, _, cap, [], a', c', rfl, ⟨fun j p hj => by simp at hj, fun h => absurd h (by simp), hm, fun p hp => by simp at hp, he.growR (Nat.le_refl _) fun k _ hq => absurd hq.1 (by simp)⟩, hk⟩
theorem keep_up {V w : World} {lo : Nat} (k : Keep (fun g => lo ≤ g ∧ g < V.heap.size) V w) : Keep (fun g => lo ≤ g) V w := ⟨k.os, k.tape, k.output, k.size, fun j hj hX => k.block j hj ⟨hX, hj⟩⟩
theorem fr_up {V w : World} {lo c : Nat} {Q : Nat → Prop} {t : Tm} {a : Option Addr} (h : Fr 0 Q V lo V.heap.size t a c) (k : Keep (fun g => lo ≤ g ∧ g < V.heap.size) V w) : Fr 0 Q w lo V.heap.size t a c :=
  h.keepR (keep_up k) (fun j hj => by rcases hj with hj | hj; omega; exact hj.1)
theorem fr_at {V w : World} {lo c : Nat} {Q : Nat → Prop} {t : Tm} {a : Option Addr} (h : Fr 0 Q V lo V.heap.size t a c) (k : Keep (fun g => lo ≤ g ∧ g < V.heap.size) V w) : TmAt w.heap.size w t a c := ((fr_up h k).at_ (Nat.zero_le _)).up k.size
theorem tmsl_two {g : Nat} (hT : TmAt w.heap.size w t a c) (hb : Blk w g 24 #[.int .i64 t.k, .string (str t.nm), .int .i64 t.i, .slice a t.args.length c, .int .i64 t.k, .string (str t.nm), .int .i64 t.i, .slice a t.args.length c]) : TmSl w.heap.size w (some ⟨g, 0, none⟩) [(t, a, c), (t, a, c)] := fun j p hj => by
  match j, hj with
  | 0, hj =>
    cases hj
    refine ⟨⟨g, 0, rfl, hb.lt, fun f v hv => ?_⟩, hT⟩
    match f, hv with
    | 0, hv => cases hv; exact hb.cell 0
    | 1, hv => cases hv; exact hb.cell 1
    | 2, hv => cases hv; exact hb.cell 2
    | 3, hv => cases hv; exact hb.cell 3
    | f + 4, hv => exact absurd (get_lt' hv) (by show ¬ f + 4 < 4; omega)
  | 1, hj =>
    cases hj
    refine ⟨⟨g, 0, rfl, hb.lt, fun f v hv => ?_⟩, hT⟩
    match f, hv with
    | 0, hv => cases hv; exact hb.cell 4
    | 1, hv => cases hv; exact hb.cell 5
    | 2, hv => cases hv; exact hb.cell 6
    | 3, hv => cases hv; exact hb.cell 7
    | f + 4, hv => exact absurd (get_lt' hv) (by show ¬ f + 4 < 4; omega)
  | j + 2, hj => simp at hj
/-- A row's cells stay where nothing but R is written. -/
theorem RowC.on {w' : World} {g : Nat} {X : Nat → Prop} {ps : List TP} (h : RowC w g a ps) (k : Keep X w w') (hX : 0 < ps.length → X g) : RowC w' g a ps := fun j p hj => by
  obtain ⟨h1, h2⟩ := h j p hj
  refine ⟨h1, fun f v hv => cell_keep (h2 f v hv) k (hX (by have := get_lt' hj; omega))⟩
/-- One block of bindings, its cells. -/
def RowB (w : World) (g : Nat) (a : Option Addr) (bs : List BP) : Prop := ∀ (j : Nat) (p : BP), bs[j]? = some p → a = some ⟨g, 0, none⟩ ∧ ∀ (f : Nat) (v : Value), (bcells p)[f]? = some v → w.cell? ⟨g, j * 5 + f, none⟩ = some v
theorem RowB.on {w' : World} {g : Nat} {X : Nat → Prop} {ps : List BP} (h : RowB w g a ps) (k : Keep X w w') (hX : 0 < ps.length → X g) : RowB w' g a ps := fun j p hj => by
  obtain ⟨h1, h2⟩ := h j p hj
  refine ⟨h1, fun f v hv => cell_keep (h2 f v hv) k (hX (by have := get_lt' hj; omega))⟩
theorem bo_row {lo : Nat} {bs : List BP} (h : BO lo w (.slice a bs.length c) bs) : ∃ g, RowB w g a bs ∧ (0 < bs.length → lo ≤ g ∧ ∃ cs, Blk w g 41 cs) := by
  obtain ⟨a', c', he, h1, h2⟩ := h
  injection he with e1 _ _
  subst e1
  by_cases h0 : 0 < bs.length
  · obtain ⟨g, hg, hc⟩ := h2 0 _ (List.getElem?_eq_getElem h0)
    obtain ⟨q1, _, cs, q2⟩ := h1 g 0 hg
    refine ⟨g, fun j p hj => ?_, fun _ => ⟨q1, cs, q2⟩⟩
    obtain ⟨g', hg', hc'⟩ := h2 j p hj
    rw [hg] at hg'; cases hg'
    exact ⟨hg, hc'⟩
  · exact ⟨0, fun j p hj => absurd (get_lt' hj) (by omega), fun h => absurd h h0⟩
theorem solve_fr (hT : TmAt w.heap.size w t a c) (hU : TmAt w.heap.size w u b d) : Calls Try.prog 28 #[tv t a c, tv u b d] w fun e w' => ∃ (va : Option Addr) (vc : Nat) (bs : List BP) (ok : Bool) (er : Int), e = .returned (.tuple #[.slice va bs.length vc, .bool ok, .int .i64 er]) ∧ (SolR t u bs ok er ∧ BO w.heap.size w' (.slice va bs.length vc) bs ∧ ∀ p ∈ bs, Fr 0 (fun _ => False) w' w.heap.size w'.heap.size p.2.1 p.2.2.1 p.2.2.2) ∧ Keep (fun g => g < w.heap.size) w w' := by
  refine Calls.mono (Solve_any hT hU) ?_
  rintro e w' ⟨v, bs, ok, er, rfl, hbo, hfr, hk, hs⟩
  obtain ⟨va, vc, rfl, h1⟩ := hbo
  exact ⟨va, vc, bs, ok, er, rfl, ⟨hs, ⟨va, vc, rfl, h1⟩, hfr⟩, hk⟩
end
end Go.Proofs.Ythbofkffklejoaa
