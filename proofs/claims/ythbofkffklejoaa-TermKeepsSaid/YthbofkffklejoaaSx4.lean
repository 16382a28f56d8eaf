/-
  Rows of numbers that grow; a term made out of a slice of terms; one binding as a slice. No condition.
-/
import Derived.Test.YthbofkffklejoaaSx3
import Derived.Test.YthbofkffklejoaaTp2
namespace Go.Proofs.Ythbofkffklejoaa
open Go.RowKit Go.Maps
set_option linter.unusedVariables false
set_option linter.unusedSimpArgs false

section
variable {w : World} {t u x : Tm} {a b : Option Addr} {c d : Nat}
theorem append_long {base : Nat} {v : Value} {l : List Int} {z : Int} {ty : TypeId} {b2 c2 : Nat} (hrow : w.ownsRow base 2 1 v l.length (l.map (Value.int .i64))) (hb : Blk w b2 2 #[.int .i64 z]) (hn : (l.length + 1) * 8 ≤ 140737488355328) (hbase : base ≤ w.heap.size) :
    ∃ v' w', (Builtin.append_ #[30, 30] ty #[v, .slice (some ⟨b2, 0, none⟩) 1 c2]).run Try.prog w = .ok v' w' ∧ w'.ownsRow base 2 1 v' (l ++ [z]).length ((l ++ [z]).map (Value.int .i64)) ∧ Keep (fun g => g < base) w w' ∧ Keep (fun g => v.ownBlock ≠ some g) w w' ∧ (v'.ownBlock = v.ownBlock ∨ v'.ownBlock = some w.heap.size) := by
  obtain ⟨i, y, h1, h2, h3, h4, h5⟩ := info_long
  have hnw : ∀ j u, ([.int .i64 z] : List Value)[j]? = some u → w.cell? ((⟨b2, 0, none⟩ : Addr).add j) = some u := fun j u hu => by
    have e : (⟨b2, 0, none⟩ : Addr).add j = ⟨b2, j, none⟩ := by unfold Addr.add; split <;> simp_all
    rw [e, hb.cell, List.getElem?_toArray]; exact hu
  have hone : ∀ u ∈ ([.int .i64 z] : List Value), u.oneCell' = true := by intro v hv; simp at hv; subst hv; rfl
  obtain ⟨v', w', ha, hr, hg, _⟩ := run_append_own (P := Try.prog) w base 30 ty 2 i y 1 8 Try.underlying30 h1 h2 h3 h4 h5 (by decide) v l.length (l.map (Value.int .i64)) hrow ⟨b2, 0, none⟩ 1 c2 [.int .i64 z] rfl hnw hone (by unfold maxLen; omega) hn hbase
  refine ⟨v', w', ha, ?_, Keep.ofGrown hg fun g hg2 => Nat.not_lt.2 (hrow.lt g hg2).1, Keep.ofGrown hg fun g e hx => hx e, ?_⟩
  · rw [List.length_append, List.map_append]
    simpa using hr
  · rcases hrow.2 with ⟨rfl, h0⟩ | ⟨g, cap, cur, rfl, hbg, hgg, hnc, hcm, hcs, htk⟩
    · have := run_append_nil (P := Try.prog) (w := w) 30 ty 2 i y Try.underlying30 h1 h2 ⟨b2, 0, none⟩ 1 c2 [.int .i64 z] (by rw [h3]; rfl) hnw (by decide) (by decide) (by rw [h4]; decide)
      rw [ha] at this
      injection this with e1 _
      subst e1
      exact .inr rfl
    · by_cases hroom : l.length + 1 ≤ cap
      · have := run_append_room (P := Try.prog) w 30 ty 2 i Try.underlying30 h1 g l.length cap cur hgg ⟨b2, 0, none⟩ 1 c2 [.int .i64 z] (by rw [h3]; rfl) hnw hone hroom (by rw [h3, hcs]; simp; omega)
        rw [ha] at this
        injection this with e1 _
        subst e1
        exact .inl rfl
      · have holds := hrow.cells (g := g) rfl
        have := run_append_grow (P := Try.prog) (w := w) 30 ty 2 i y Try.underlying30 h1 h2 ⟨g, 0, none⟩ l.length cap (l.map (Value.int .i64)) (by rw [h3]; simp) holds ⟨b2, 0, none⟩ 1 c2 [.int .i64 z] (by rw [h3]; rfl) hnw (by omega) (by omega) (by rw [h4]; exact growslice_fits (by omega) hn)
        rw [ha] at this
        injection this with e1 _
        subst e1
        exact .inr rfl
theorem cell_keep {w' : World} {b k : Nat} {v : Value} {X : Nat → Prop} (h : w.cell? ⟨b, k, none⟩ = some v) (hk : Keep X w w') (hX : X b) : w'.cell? ⟨b, k, none⟩ = some v := by
  have hb : b < w.heap.size := World.block_lt_of_cell? w ⟨b, k, none⟩ h
  have := hk.block b hb hX
  unfold World.cell? at h ⊢
  simp only at h ⊢
  rw [this]; exact h
theorem row_made0L {base b2 : Nat} (hb : Blk w b2 2 #[]) (h : base ≤ b2) : w.ownsRow base 2 1 (.slice (some ⟨b2, 0, none⟩) 0 0) ([] : List Int).length (([] : List Int).map (Value.int .i64)) :=
  ⟨by simp, .inr ⟨b2, 0, #[], rfl, h, hb, by simp, by unfold maxLen; omega, rfl, by simp⟩⟩
theorem haslong_row {base : Nat} {v : Value} {l : List Int} {z : Int} (hrow : w.ownsRow base 2 1 v l.length (l.map (Value.int .i64))) (hl : l.length ≤ 2305843009213693952) :
    Calls Try.prog 31 #[v, .int .i64 z] w fun e w' => e = .returned (.bool (among l z)) ∧ Keep (fun g => g < w.heap.size) w w' := by
  obtain ⟨a, c, rfl, hL⟩ := row_longs hrow
  refine Calls.mono (has_longs hL hl z) ?_
  rintro e w' ⟨rfl, rfl⟩
  exact ⟨rfl, Keep.refl _ _⟩
/-- Two slices of the same numbers. -/
theorem samelongs_sx {ua ub : Option Addr} {uc vc gb : Nat} {l : List Int} (h1 : 0 < l.length → ua = some ⟨gb, 0, none⟩ ∧ gb < w.heap.size) (h2 : ∀ (k : Nat) (x : Int), l[k]? = some x → w.cell? ⟨gb, k, none⟩ = some (.int .i64 x)) (h3 : LongsAt w ub l) (hl : l.length ≤ 2305843009213693952) :
    Calls Try.prog 24 #[.slice ua l.length uc, .slice ub l.length vc] w fun e w' => e = .returned (.bool true) ∧ Keep (fun g => g < w.heap.size) w w' := by
  have hL : LongsAt w ua l := fun j hj => by
    obtain ⟨h3, h4⟩ := h1 (by omega)
    refine ⟨gb, 0, h3, h4, ?_⟩
    rw [Nat.zero_add]
    exact h2 j _ (by rw [List.getD_eq_getElem?_getD, List.getElem?_eq_getElem hj]; rfl)
  refine Calls.mono (same_longs hL h3 hl) ?_
  rintro e w' ⟨rfl, q, rfl⟩
  exact ⟨rfl, (Keep.refl _ _).drewN q⟩
theorem tm_row {B : Nat} {ps : List TP} {nm : List UInt8} {cap : Nat} (h : TmSl B w a ps) (hn : nm.length ≤ maxLen) (hl : ps.length ≤ maxLen) : TmAt B w (.node 4 nm 0 (ps.map (·.1))) a cap := by
  have hat : ∀ (j : Nat) (x : Tm), (Tm.node 4 nm 0 (ps.map (·.1))).args[j]? = some x → ∃ p, ps[j]? = some p ∧ p.1 = x := fun j x hj => by
    have hj' : (ps.map (·.1))[j]? = some x := hj
    rw [List.getElem?_map] at hj'
    obtain ⟨p, hp, he⟩ := Option.map_eq_some_iff.1 hj'
    exact ⟨p, hp, he⟩
  refine .mk _ _ _ (fun j => (ps[j]?.getD default).2.1) (fun j => (ps[j]?.getD default).2.2) (show (ik 4).wf = true from by decide) (show (ik 0).wf = true from by decide) hn (by show (ps.map (·.1)).length ≤ maxLen; rw [List.length_map]; exact hl) (fun j x hj => ?_) (fun j x hj => ?_)
  · obtain ⟨p, hp, rfl⟩ := hat j x hj
    obtain ⟨⟨b, off, ha, hb, hc⟩, _⟩ := h j p hp
    refine ⟨b, off, ha, hb, fun f v hv => hc f v ?_⟩
    simp only [hp, Option.getD_some] at hv
    exact hv
  · obtain ⟨p, hp, rfl⟩ := hat j x hj
    obtain ⟨_, ht⟩ := h j p hp
    simp only [hp, Option.getD_some]
    exact ht
theorem bsl_one {B g : Nat} {q : BP} (hb : Blk w g 41 #[.int .i64 q.1, .int .i64 q.2.1.k, .string (str q.2.1.nm), .int .i64 q.2.1.i, .slice q.2.2.1 q.2.1.args.length q.2.2.2]) (hg : g < B) (hw : (ik q.1).wf = true) (ht : TmAt B w q.2.1 q.2.2.1 q.2.2.2) : BSl B w (some ⟨g, 0, none⟩) [q] := fun j p hj => by
  match j, hj with
  | 0, hj =>
    cases hj
    exact ⟨⟨g, 0, rfl, hg, hb.cell 0, hb.cell 1, hb.cell 2, hb.cell 3, hb.cell 4⟩, hw, ht⟩
  | j + 1, hj => simp at hj
theorem hat {B : Nat} {ps : List TP} (h : TmSl B w a ps) {t : Tm} (ht : t ∈ ps.map (·.1)) : ∃ p c, TmAt B w t p c := by
  obtain ⟨p, hp, rfl⟩ := List.mem_map.1 ht
  obtain ⟨j, hj, rfl⟩ := List.getElem_of_mem hp
  exact ⟨_, _, (h j _ (List.getElem?_eq_getElem hj)).2⟩
/-- A variable of a term that lies in memory is a number that there is. -/
theorem var_wf {B : Nat} : ∀ {t : Tm}, (∃ p c, TmAt B w t p c) → t.right = true → ∀ {y : Int}, y ∈ t.tree.vars → (ik y).wf = true := by
  intro t
  induction t using Tm.ind with
  | h k nm i args ih =>
    rintro ⟨p, c, hT⟩ hr y hy
    have hR := right_of.1 hr
    have hx := (T.mem_vars _ y).1 hy
    rcases Tm.ok_kind hR.1 with hk | hk | hk | hk
    · rw [tree_1 hk] at hx
      have := has_v.1 hx
      subst this
      exact hT.wk.2.1
    · rw [tree_2 hk] at hx; exact absurd hx has_n
    · rw [tree_3 hk] at hx; exact absurd hx has_a
    · rw [tree_4 hk] at hx
      obtain ⟨z, hz, hzy⟩ := has_c.1 hx
      obtain ⟨u, hu, rfl⟩ := List.mem_map.1 hz
      have hu' : u ∈ args := hu
      have hru := right_of.2 (Tm.part_right hR hk u hu)
      obtain ⟨j, hj, he⟩ := List.getElem_of_mem hu
      obtain ⟨_, _, _, _, _, _, hat2, _⟩ := hT.arg (j := j) (x := u) (by rw [List.getElem?_eq_getElem hj, he])
      exact ih u hu' ⟨_, _, hat2⟩ hru ((T.mem_vars _ y).2 hzy)
theorem fr_in {B0 lo hi : Nat} {Q : Nat → Prop} {w' : World} (h : Fr B0 Q w lo hi t a c) (hB : B0 = 0) (k : Keep (fun g => lo ≤ g ∧ g < hi) w w') : Fr B0 Q w' lo hi t a c := by
  induction h with
  | old h hl => exact .old (h.keepX k (fun g hg => by omega)) hl
  | node hk1 hw hn h8 hlb hub hq blk hcp hs ih => exact .node hk1 hw hn h8 hlb hub hq (blk.keep k ⟨hlb, hub⟩) hcp ih
theorem fr_tm {lo : Nat} {V : World} {Q : Nat → Prop} {w' : World} (h : Fr 0 Q V lo V.heap.size t a c) (k : Keep (fun g => lo ≤ g ∧ g < V.heap.size) V w') : TmAt w'.heap.size w' t a c := ((fr_in h rfl k).at_ (Nat.zero_le _)).up k.size
theorem apply_fr {bs : List BP} {cap : Nat} {e : Int} (hS : BSl w.heap.size w a bs) (hT : TmAt w.heap.size w t b d) (hlen : bs.length ≤ 2305843009213693951) (ha : ∀ g off, a = some ⟨g, off, none⟩ → g < w.heap.size) (h : apV t bs = (x, e)) :
    Calls Try.prog 30 #[tv t b d, .slice a bs.length cap] w fun e' w' => ∃ a' c', e' = .returned (.tuple #[tv x a' c', .int .i64 e]) ∧ Fr 0 (fun _ => False) w' w.heap.size w'.heap.size x a' c' ∧ Keep (fun g => g < w.heap.size) w w' := by
  have hr := Apply_any (cap := cap) hS hT hlen ha
  rw [h] at hr
  exact hr
theorem check_sx {z : Int} (hT : TmAt w.heap.size w t a c) (h : (if t.right = true then (0 : Int) else 70) = z) : Calls Try.prog 15 #[tv t a c] w fun e w' => e = .returned (.int .i64 z) ∧ Keep (fun g => g < w.heap.size) w w' := by
  subst h; exact check_any hT
end
end Go.Proofs.Ythbofkffklejoaa
