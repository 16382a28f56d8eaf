/-
  Operators in memory: maps.Values of a table's map tells each operator once, in whatever order. No condition.
-/
import Derived.Test.YtbjnbfoedicelaaDoorOp2
import Derived.RangeFuncNested
import Derived.RangeFuncLeaves
import Derived.RangeFuncBox
import Derived.Sort.MapsRangeIn
import Derived.OwnWalkIn
import Derived.TacticsInMore
import Derived.RegionIn
import Derived.LoopNIn
import Derived.LoopIn
import Derived.Shelf.Abstract
import Derived.Lib.Hide
namespace Go.Proofs.YtbjnbfoedicelaaDoor
open Go.RowKit Go.Maps Go.Shelf
set_option linter.unusedVariables false
set_option linter.unusedSimpArgs false

/-- What has come: no operator twice; an operator has come just where the table has it and its key is no longer to come. -/
def Coll (T : Tab) (left : Lit → Bool) (ps : Tab) : Prop := ps.Nodup ∧ ∀ o, o ∈ ps ↔ (o ∈ T ∧ left (kl o.nm (isPre o.ty)) = false)
theorem Apart.nodup {T : Tab} (h : Apart T) : T.Nodup := h.imp (fun {a b} hab => by rintro rfl; rw [isKey_self] at hab; cases hab)
theorem Coll.perm {T : Tab} {left : Lit → Bool} {ps : Tab} (ha : Apart T) (h : Coll T left ps) (hl : ∀ l, left l = false) : ps.Perm T :=
  (List.perm_ext_iff_of_nodup h.1 ha.nodup).2 fun o => by rw [h.2 o, hl]; simp
theorem Coll.step {T : Tab} {left : Lit → Bool} {ps : Tab} (ha : Apart T) (hf : ∀ o ∈ T, o.nm.length ≤ maxLen) (h : Coll T left ps) {o : Opv} (ho : o ∈ T) (hlk : left (kl o.nm (isPre o.ty)) = true) :
    Coll T (fun z => left z && !z.sameKey (kl o.nm (isPre o.ty))) (ps ++ [o]) := by
  have hnew : o ∉ ps := fun hx => by have := ((h.2 o).1 hx).2; rw [hlk] at this; cases this
  refine ⟨List.nodup_append.2 ⟨h.1, by simp, fun a hA b hb => by simp at hb; subst hb; exact fun e => hnew (e ▸ hA)⟩, fun x => ?_⟩
  by_cases hx : x = o
  · subst hx
    have := WideAt.sameKey_self (kl_key (hf x ho) (isPre x.ty))
    simp [ho, this]
  · rw [List.mem_append, h.2 x]
    simp only [List.mem_singleton, hx, or_false]
    constructor
    · rintro ⟨h1, h2⟩; exact ⟨h1, by rw [h2]; rfl⟩
    · rintro ⟨h1, h2⟩
      refine ⟨h1, ?_⟩
      rcases hb : left (kl x.nm (isPre x.ty)) with _ | _
      · rfl
      · rw [hb] at h2
        simp only [Bool.true_and, Bool.not_eq_false'] at h2
        have he := kl_inj (hf x h1) (hf o ho) (WideAt.sameKey_eq h2)
        have e1 := find_of_mem ha h1
        have e2 := find_of_mem ha ho
        rw [he.1, he.2, e2] at e1
        exact absurd (Option.some.inj e1).symm hx
set_option maxRecDepth 100000 in
set_option maxHeartbeats 4000000 in
theorem values1_in (F : Fence) (n : Nat) (h33 : F.fn 33) (hro : F.round = none) (hn : 1 ≤ n) (l Bm mb : Nat) (T : Tab) (J Jx : Tab → World → Prop)
    (hY : ∀ pre x W, J pre W → pre.length < T.length → YieldAt F (n - 1) Tryd.prog l #[opVal x] W fun e W' =>
      (e = .returned (.bool true) ∧ J (pre ++ [x]) W' ∧ KeepsWalks W W') ∨ (e = .returned (.bool false) ∧ Jx (pre ++ [x]) W'))
    (W : World) (hJ : AbidesFrom W.heap.size J) (hm : W.cell? ⟨Bm, 0, none⟩ = some (.map (some mb))) (hown : MapOf W mb T) (h0 : J [] W) :
    CallsIn F n Tryd.prog 33 #[.func (.yield l) #[] #[], .pointer (some ⟨Bm, 0, none⟩)] W fun e W' => (∃ v, e = .returned v) ∧
      ((∃ xs, List.Perm xs T ∧ J xs W') ∨ (∃ pre, True ∧ Jx pre W')) := by
  obtain ⟨D, own, hs, hat, hky⟩ := hown.own
  have hap := hown.apart
  have hfit : ∀ o ∈ T, o.nm.length ≤ maxLen := fun o ho => (hown.fits o ho).1.nm
  clear hown
  have HSZ := Lib.hid hs; clear hs
  refine callsIn_of_wp Tryd.func33 rfl h33 ?_ hro
  simp only [Tryd.ntmps33, List.size_toArray, List.length_cons, List.length_nil, Nat.reduceAdd, Nat.reduceSub, Array.replicate_succ, Array.replicate_zero, List.push_toArray, List.append_toArray, List.nil_append, List.cons_append]
  gi_wp2_with (first
    | (gi_at_range; refine wpListIn_range_own _ rfl _ 42 rfl 56 27 keyLaw Tryd.underlying42 _ mb (Maps.size D) _ rfl own ?_; intro w0 hrg0 hg0 hs0)
    | gi_in)
  go_frame
  gi_loopw [4] (fun _ wr => ∃ (left : Lit → Bool) (cnt : Nat) (ps : Tab), wr.ranges Tryd.prog 56 opElem mb W.heap.size (Maps.size D) D left cnt ∧ ps.length + cnt ≤ T.length ∧ Coll T left ps ∧ J ps wr)
    (fun _ wr => wr.rangeLeft mb W.heap.size)
  case atStart =>
    exact ⟨_, _, [], hrg0, by simp [HSZ.out], ⟨List.nodup_nil, fun o => by
      constructor
      · intro h; cases h
      · rintro ⟨h1, h2⟩
        have h3 := (hat o.nm (isPre o.ty) (hfit o h1)).2
        rw [find_of_mem hap h1, h2] at h3
        cases h3⟩, hJ [] W w0 none h0 hg0 (fun r e => by cases e)⟩
  case round =>
    obtain ⟨left, cnt, ps, hrg, hcs, hC, hJs⟩ := hrel
    gi_wp2_with (first
      | (gi_at_next; refine wpListIn_next_ranges _ rfl _ rfl 56 keyLaw opElem id opVal (fun key _ _ => ⟨key, rfl⟩) (fun v y hv => by obtain ⟨c, rfl, _⟩ := opElem_inv hv; exact ⟨c, rfl⟩) mb W.heap.size (Maps.size D) _ _ _ rfl hrg ?_ ?_)
      | gi_in)
    · intro hc0 hl0
      gi_wp2
      go_end0
      exact ⟨⟨_, rfl⟩, .inl ⟨ps, hC.perm hap hl0, hJs⟩⟩
    · intro x c kk yd yp w2 cnt2 hkey hlk hv hatk hrg2 hlt hg2 hs2 hen
      obtain ⟨c', ec, ez⟩ := opElem_inv hv
      obtain rfl : c = c' := opVal_inj ec
      obtain rfl : yd = .held (opVal c) := (Prod.mk.inj ez).1
      obtain ⟨nm, p, hnl, rfl⟩ := hky kk (has_true_of_atKey hatk)
      have hh := hat nm p hnl
      rw [hatk zHeld, has_true_of_atKey hatk] at hh
      obtain ⟨o, ho⟩ := Option.isSome_iff_exists.1 hh.2.symm
      have hoc : c = o := by
        have := hh.1
        rw [ho] at this
        exact opVal_inj (by simpa using this)
      subst hoc
      obtain ⟨hcT, rfl, rfl⟩ := mem_of_find ho
      have hJ2 : J ps w2 := hJ _ wr w2 (some W.heap.size) hJs hg2 (fun r e => by cases e; exact ⟨Nat.le_refl _, hrg.iter_walk⟩)
      have hJ3 : J ps (w2.alloc (.cells #[.string (str c.nm), .int .i64 c.ty, .int .i64 c.pr] 27)) := hJ _ w2 _ none hJ2 (World.grownBy_alloc w2 _ none) (fun r e => by cases e)
      obtain ⟨fn, tmps, assign, body, hy, hR⟩ := hY ps c _ hJ3 (by omega)
      clear hs2
      have hC2 := hC.step hap hfit hcT hlk
      unfold opVal at hy hen
      generalize hsn : str c.nm = sn at hy hR hen hJ3 ⊢
      have hrg3 := hrg2.alloc (.cells #[.string sn, .int .i64 c.ty, .int .i64 c.pr] 27)
      clear hatk hh ho hJ2 hJ3 hsn hv ez ec
      gi_wp2
      refine hR.mono ?_
      rintro e W3 (⟨rfl, hJ4, hk3⟩ | ⟨rfl, hJx3⟩)
      · gi_wp2
        have hrg4 := hrg3.of_walks hk3
        go_roundw
        case rel => exact ⟨_, cnt2, ps ++ [c], hrg4, by simp; omega, hC2, hJ4⟩
        case measure => rw [hrg4.left_eq, hrg.left_eq]; exact hlt
      · gi_wp2
        refine bodyPost_ret (results_none rfl _ _ _) rfl ?_
        exact ⟨⟨_, rfl⟩, .inr ⟨ps ++ [c], trivial, hJx3⟩⟩
/-- **maps.Values(m)'s iterator.** -/
theorem values_stops (F : Fence) (n : Nat) (h33 : F.fn 33) (hro : F.round = none) (hn : 1 ≤ n) (Bm mb : Nat) (T : Tab) (w : World) (hBm : Bm < w.heap.size)
    (hm : w.cell? ⟨Bm, 0, none⟩ = some (.map (some mb))) (hown : MapOf w mb T) :
    SeqStopsA F n Tryd.prog 33 #[.pointer (some ⟨Bm, 0, none⟩)] (fun o => #[opVal o]) (fun xs => List.Perm xs T) (fun _ => True) T.length w := fun l J Jx W hW hJ hJx hY h0 => by
  have hown' : MapOf W mb T := hown.keep (X := (· < w.heap.size)) (Keep.ofBelow hW (fun _ h => h)) hown.lt
  exact values1_in F n h33 hro hn l Bm mb T J Jx hY W hJ ((hW.cell (p := ⟨Bm, 0, none⟩) hBm).trans hm) hown' h0
end Go.Proofs.YtbjnbfoedicelaaDoor
