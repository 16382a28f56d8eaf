/-
  Several tables at once. A script played twice over is the script played. No condition.
-/
import Derived.Test.YtbjnbfoedicelaaDoorOp26
namespace Go.Proofs.YtbjnbfoedicelaaDoor
open Go.RowKit Go.Shelf Go.Maps
set_option linter.unusedVariables false
set_option linter.unusedSimpArgs false

theorem other_again {T : Tab} {o : Opv} (h : checkV T o = 0) : other (addT T o) o = false := by
  unfold other
  by_cases hp : isPre o.ty = true
  · rw [hp]; split <;> rfl
  · have hp' : isPre o.ty = false := by simpa using hp
    have hs := find_add_same h
    rw [hp'] at hs
    rw [hs]
    split
    · rename_i was heq
      split at heq
      · cases heq
      · cases heq; simp
    · rfl
theorem check_again (T : Tab) (o : Opv) : checkV (addT T o) o = checkV T o := by
  by_cases h : checkV T o = 0
  · rw [h]
    obtain ⟨h1, h2, h3, h4, h5, h6⟩ := good_of_check h
    have hr : reserved o.nm = false := by
      have h' := h
      unfold checkV at h'
      repeat' split at h'
      all_goals first | (exact absurd h' (by decide)) | skip
      all_goals rename_i hh _; simp at hh; exact hh.1
    have ho := other_again h
    have hs := find_add_same h
    unfold checkV
    rw [if_neg (by omega), if_neg (by omega), ho, hr, if_neg (by simp), hs]
    by_cases hz : o.pr = 0
    · rw [if_neg (by omega)]
    · rw [if_neg hz, if_neg (by simp)]
  · rw [addT_refused h]
theorem drop_drop (T : Tab) (nm : List UInt8) (p : Bool) : drop (drop T nm p) nm p = drop T nm p := by
  unfold drop
  rw [List.filter_filter]
  simp
theorem add_again (T : Tab) (o : Opv) : addT (addT T o) o = addT T o := by
  by_cases h : checkV T o = 0
  · have h2 := check_again T o
    rw [h] at h2
    have e : addT (addT T o) o = if o.pr = 0 then drop (addT T o) o.nm (isPre o.ty) else put (addT T o) o := by
      conv => lhs; unfold addT
      rw [show checkV (if checkV T o = 0 then if o.pr = 0 then drop T o.nm (isPre o.ty) else put T o else T) o = 0 from h2, if_pos rfl]
      rfl
    rw [e]
    unfold addT
    rw [if_pos h]
    by_cases hz : o.pr = 0
    · simp only [hz, if_true]; rw [drop_drop]
    · simp only [hz, if_false]
      unfold put
      have e2 : drop (o :: drop T o.nm (isPre o.ty)) o.nm (isPre o.ty) = drop (drop T o.nm (isPre o.ty)) o.nm (isPre o.ty) := by
        unfold drop
        rw [List.filter_cons, if_neg (by rw [isKey_self]; simp)]
      rw [e2, drop_drop]
  · rw [addT_refused h, addT_refused h]
/-- A table as several stand in memory: its head, its map, its operators. -/
structure Tb where
  pb : Nat
  mb : Nat
  T : Tab
structure ManyAt (w W : World) (ts : List Tb) (bs : List (Nat × Opv)) : Prop where
  tabs : ∀ x ∈ ts, TabAt W x.pb x.mb x.T ∧ x.T.length ≤ 200 ∧ w.heap.size ≤ x.mb
  below : Below w.heap.size w W
  nd : ts.Pairwise (fun x y => x.mb ≠ y.mb)
  box : ∀ x ∈ bs, Blk W x.1 27 #[.string (str x.2.nm), .int .i64 x.2.ty, .int .i64 x.2.pr]
section
variable {w W W' : World} {ts pre post : List Tb} {pb mb : Nat} {T : Tab} {bs : List (Nat × Opv)}
theorem ManyAt.keep (h : ManyAt w W ts bs) (hk : Keep (fun _ => True) W W') : ManyAt w W' ts bs :=
  ⟨fun x hx => ⟨(h.tabs x hx).1.keep hk trivial trivial, (h.tabs x hx).2⟩, h.below.trans (hk.toBelow (fun _ _ => trivial) h.below.size), h.nd, fun x hx => (h.box x hx).keep hk trivial⟩
theorem ManyAt.drew (h : ManyAt w W ts bs) : ManyAt w W.drew ts bs := h.keep (Keep.refl _ W).drew
theorem ManyAt.less (h : ManyAt w W ts bs) : ManyAt w W ts [] := ⟨h.tabs, h.below, h.nd, fun _ hx => by cases hx⟩
theorem ManyAt.boxed (h : ManyAt w W ts bs) (o : Opv) : ManyAt w (W.alloc (.cells #[.string (str o.nm), .int .i64 o.ty, .int .i64 o.pr] 27)) ts [(W.heap.size, o)] := by
  have h' := h.keep ((Keep.refl (fun _ => True) W).alloc (.cells #[.string (str o.nm), .int .i64 o.ty, .int .i64 o.pr] 27))
  exact ⟨h'.tabs, h'.below, h'.nd, fun x hx => by obtain rfl := List.mem_singleton.1 hx; exact Blk.new W _ _⟩
theorem ManyAt.cells (h : ManyAt w W ts bs) {b : Nat} {o : Opv} (hx : (b, o) ∈ bs) :
    W.cell? ⟨b, 0, none⟩ = some (.string (str o.nm)) ∧ W.cell? ⟨b, 1, none⟩ = some (.int .i64 o.ty) ∧ W.cell? ⟨b, 2, none⟩ = some (.int .i64 o.pr) ∧ b < W.heap.size := by
  have hb := h.box _ hx
  exact ⟨hb.cell 0, hb.cell 1, hb.cell 2, hb.lt⟩
theorem ManyAt.more (h : ManyAt w W ts bs) (hk : Keep (fun _ => True) W W') (ht : TabAt W' pb mb T) (hT : T.length ≤ 200) (hm : W.heap.size ≤ mb) : ManyAt w W' (⟨pb, mb, T⟩ :: ts) bs := by
  have h' := h.keep hk
  refine ⟨fun x hx => ?_, h'.below, List.pairwise_cons.2 ⟨fun y hy => ?_, h'.nd⟩, h'.box⟩
  · rcases List.mem_cons.1 hx with rfl | hx
    · exact ⟨ht, hT, Nat.le_trans h.below.size hm⟩
    · exact h'.tabs x hx
  · have this : y.mb < W.heap.size := (h.tabs y hy).1.map.lt
    show mb ≠ y.mb
    omega
theorem ManyAt.all (h : ManyAt w W ts bs) {x : Tb} (hx : x ∈ ts) : Calls Tryd.prog 9 #[.pointer (some ⟨x.pb, 0, none⟩)] W fun e w' => ∃ a c, e = .returned (.slice a x.T.length c) ∧ OpsSl w' W.heap.size (.slice a x.T.length c) (allT x.T) ∧ ManyAt w w' ts bs ∧ Keep (fun _ => True) W w' :=
  (all_any (h.tabs x hx).1 (h.tabs x hx).2.1).mono fun e w' ⟨v, he, hs, hk⟩ => by
    obtain ⟨a, c, hv, hc⟩ := hs
    rw [allT_length] at hv
    subst hv
    exact ⟨a, c, he, ⟨a, c, by rw [allT_length], hc⟩, h.keep hk, hk⟩
theorem ManyAt.clone (h : ManyAt w W ts bs) {x : Tb} (hx : x ∈ ts) : Calls Tryd.prog 11 #[.pointer (some ⟨x.pb, 0, none⟩)] W fun e w' => ∃ pc mc, e = .returned (.pointer (some ⟨pc, 0, none⟩)) ∧ ManyAt w w' (⟨pc, mc, x.T⟩ :: ts) bs :=
  (clone_any' (h.tabs x hx).1).mono fun e w' ⟨pc, mc, he, ht, _, hm, hk⟩ => ⟨pc, mc, he, h.more hk ht (h.tabs x hx).2.1 hm⟩
theorem ManyAt.add (h : ManyAt w W (pre ++ ⟨pb, mb, T⟩ :: post) bs) {o : Opv} (ho : Fits o) : Calls Tryd.prog 10 #[.pointer (some ⟨pb, 0, none⟩), opVal o] W fun e w' => e = .returned (.int .i64 (checkV T o)) ∧ ManyAt w w' (pre ++ ⟨pb, mb, addT T o⟩ :: post) bs := by
  obtain ⟨ht, hl, hm⟩ := h.tabs ⟨pb, mb, T⟩ (by simp)
  refine (add_any ht hl ho).mono ?_
  rintro e w' ⟨he, ht', hk⟩
  have hnd := h.nd
  rw [List.pairwise_append, List.pairwise_cons] at hnd
  obtain ⟨n1, ⟨n2, n3⟩, n4⟩ := hnd
  have hm' : w.heap.size ≤ mb := hm
  refine ⟨he, fun x hx => ?_, h.below.trans (hk.toBelow (fun k hk' => by omega) h.below.size), ?_, fun x hx => (h.box x hx).keep hk (ht.map.ne_blk (h.box x hx)).symm⟩
  · have far : x ∈ pre ++ post → TabAt w' x.pb x.mb x.T ∧ x.T.length ≤ 200 ∧ w.heap.size ≤ x.mb := fun hx' => by
      have hx2 : x ∈ pre ++ ⟨pb, mb, T⟩ :: post := by
        rcases List.mem_append.1 hx' with h1 | h1
        · exact List.mem_append_left _ h1
        · exact List.mem_append_right _ (List.mem_cons_of_mem _ h1)
      have hxx := h.tabs x hx2
      have hne : x.mb ≠ mb := by
        rcases List.mem_append.1 hx' with h1 | h1
        · exact n4 x h1 _ List.mem_cons_self
        · exact (n2 x h1).symm
      exact ⟨hxx.1.keep hk (ht.map.ne_blk hxx.1.head).symm hne, hxx.2⟩
    rcases List.mem_append.1 hx with h1 | h1
    · exact far (List.mem_append_left _ h1)
    · rcases List.mem_cons.1 h1 with rfl | h1
      · exact ⟨ht', length_add ht.map.apart hl o, hm⟩
      · exact far (List.mem_append_right _ h1)
  · rw [List.pairwise_append, List.pairwise_cons]
    refine ⟨n1, ⟨n2, n3⟩, fun a ha b hb => ?_⟩
    rcases List.mem_cons.1 hb with rfl | hb
    · exact n4 a ha ⟨pb, mb, T⟩ List.mem_cons_self
    · exact n4 a ha b (List.mem_cons_of_mem _ hb)
end
end Go.Proofs.YtbjnbfoedicelaaDoor
