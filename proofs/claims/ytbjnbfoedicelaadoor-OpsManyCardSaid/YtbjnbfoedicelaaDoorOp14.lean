/-
  slices.SortFunc and slices.SortedFunc at operators; All. No condition.
-/
import Derived.Test.YtbjnbfoedicelaaDoorOp12
import Derived.Test.YtbjnbfoedicelaaDoorOp13
import Derived.Test.YtbjnbfoedicelaaDoorLayd
import Derived.Sort.EveryDepth
namespace Go.Proofs.YtbjnbfoedicelaaDoor
open Go.RowKit Go.Maps Go.Sort Go.Shelf
set_option linter.unusedVariables false
set_option linter.unusedSimpArgs false

/-- A slice of operators: v; its memory in blocks from base on. -/
def OpsSl (w : World) (base : Nat) (v : Value) (xs : Tab) : Prop :=
  ∃ a c, v = .slice a xs.length c ∧ ∀ (i : Nat) (o : Opv), xs[i]? = some o → ∃ g, a = some ⟨g, 0, none⟩ ∧ base ≤ g ∧ g < w.heap.size ∧
    w.cell? ⟨g, i * 3, none⟩ = some (.string (str o.nm)) ∧ w.cell? ⟨g, i * 3 + 1, none⟩ = some (.int .i64 o.ty) ∧ w.cell? ⟨g, i * 3 + 2, none⟩ = some (.int .i64 o.pr)
theorem OpsSl.keep {w w' : World} {base : Nat} {v : Value} {xs : Tab} {X : Nat → Prop} (h : OpsSl w base v xs) (hk : Keep X w w') (hX : ∀ g, base ≤ g → g < w.heap.size → X g) : OpsSl w' base v xs := by
  obtain ⟨a, c, hv, hc⟩ := h
  refine ⟨a, c, hv, fun i o hi => ?_⟩
  obtain ⟨g, ha, hb, hl, h0, h1, h2⟩ := hc i o hi
  have e : ∀ j, w'.cell? ⟨g, j, none⟩ = w.cell? ⟨g, j, none⟩ := fun j => World.cell?_of_block (hk.block g hl (hX g hb hl))
  exact ⟨g, ha, hb, Nat.lt_of_lt_of_le hl hk.size, by rw [e]; exact h0, by rw [e]; exact h1, by rw [e]; exact h2⟩
theorem isAggOp (w : World) : (isAgg 27).run Tryd.prog w = .ok true w := by kernel_rfl
theorem sizeOp (w : World) : (Go.sizeOf 27).run Tryd.prog w = .ok 3 w := by kernel_rfl
theorem opCells_one (o : Opv) : ∀ v ∈ opCells o, v.oneCell' = true := by
  intro v hv
  simp [opCells] at hv
  rcases hv with rfl | rfl | rfl <;> rfl
theorem order_lays (blk off size : Nat) (w : World) : CmpLays Tryd.prog 23 #[] opCells 3 ordV blk off size w := fun m os dk hs x y =>
  (order_any x y _).mono fun e w' ⟨he, hd, hk⟩ => ⟨he, by obtain ⟨q, os', h⟩ := grow_of hk hd; exact ⟨q, os', h⟩⟩
theorem cells_get (xs : Tab) : ∀ t, t < xs.length * 3 → (cellsOfOps xs)[t]? = some ((opCells (xs.toArray[t / 3]!))[t % 3]!) := by
  induction xs with
  | nil => intro t h; simp at h
  | cons o xs ih =>
    intro t h
    show (opCells o ++ cellsOfOps xs)[t]? = _
    have hl : (opCells o).length = 3 := rfl
    by_cases ht : t < 3
    · rw [List.getElem?_append_left (by omega)]
      have h0 : t / 3 = 0 := by omega
      have h1 : t % 3 = t := by omega
      rw [h0, h1]
      simp only [List.getElem!_toArray]
      show (opCells o)[t]? = some ((opCells o)[t]!)
      rw [getElem!_pos (opCells o) t (by omega), List.getElem?_eq_getElem (by omega)]
    · rw [List.getElem?_append_right (by omega), hl, ih (t - 3) (by simp at h; omega)]
      have h0 : t / 3 = (t - 3) / 3 + 1 := by omega
      have h1 : t % 3 = (t - 3) % 3 := by omega
      rw [h0, h1]
      simp [List.getElem!_toArray]
theorem holds_of_row {W : World} {g cap : Nat} {xs : Tab} {cur : Array Value} (hg : W.heap[g]? = some (.cells cur 27 (0, 0))) (hs : cur.size = cap * 3) (hn : xs.length ≤ cap) (ht : cur.toList.take (xs.length * 3) = cellsOfOps xs) :
    HoldsK opCells 3 W g 0 xs.toArray := by
  intro j hj
  rw [size_flatK] at hj
  simp only [List.size_toArray] at hj
  have hb : Blk W g 27 cur := hg
  refine ⟨?_, by simpa using hb.frozen (0 + j)⟩
  rw [show (0 + j) = j by omega, hb.cell j, get_flatK _ _ _ _ (by simpa using hj)]
  have h1 := cells_get xs j hj
  rw [← ht, List.getElem?_take_of_lt hj] at h1
  simpa using h1
theorem putRowK_size (W : World) (g nn : Nat) (d : Array Opv) : (putRowK opCells 3 (Sort.ahead W nn) g 0 d).heap.size = W.heap.size := by
  simp [putRowK, putRow, mapBlock, Sort.ahead]
theorem sortWorldK_size (W : World) (g nn : Nat) (d : Array Opv) (os : Array Obj) : (sortWorldK opCells 3 W g 0 nn d os).heap.size = W.heap.size + os.size := by
  unfold sortWorldK
  rw [size_grow, putRowK_size]
theorem sortWorldK_keep (W : World) (g nn : Nat) (d : Array Opv) (os : Array Obj) : Keep (· ≠ g) W (sortWorldK opCells 3 W g 0 nn d os) := by
  refine ⟨rfl, rfl, rfl, by rw [sortWorldK_size]; omega, fun k hk hne => ?_⟩
  unfold sortWorldK
  rw [heap_grow_old _ _ (by rw [putRowK_size]; exact hk)]
  simp [putRowK, putRow, mapBlock, Sort.ahead, Array.getElem?_modify]
  intro e; exact absurd e.symm hne
set_option maxHeartbeats 2000000 in
theorem sort_any {W : World} {v : Value} {base : Nat} {T xs : Tab} (hap : Apart T) (hp : List.Perm xs T) (hT : T.length ≤ 200) (hr : W.ownsRow base 27 3 v xs.length (cellsOfOps xs)) :
    Calls Tryd.prog 32 #[v, .func (.func 23) #[] #[]] W fun e w' =>
      e = .returned (.tuple #[]) ∧ OpsSl w' base v (allT T) ∧ Keep (· < base) W w' := by
  have hlen := hp.length_eq
  rcases hr.2 with ⟨rfl, h0⟩ | ⟨g, cap, cur, rfl, hb, hg, hn, hcap, hcs, ht⟩
  · have hT0 : T = [] := by
      apply List.eq_nil_of_length_eq_zero; omega
    subst hT0
    refine (AnyF.slices_SortFunc_none Tryd.sortOp none 0 _ W).mono ?_
    rintro e w' ⟨he, rfl⟩
    refine ⟨he, ⟨none, 0, by simp [allT], fun i o hi => by simp [allT] at hi⟩, Keep.refl _ _⟩
  · have hH := holds_of_row hg hcs hn ht
    have hlt : g < W.heap.size := (Array.getElem?_eq_some_iff.1 hg).1
    have eg : ∀ args w, (callFunc 23 args).run Tryd.prog w = .ok (.enter 23 args) w := enters_of Tryd.func23 (by kernel_rfl) rfl
    have hcon := AnyQ.slices_SortFunc Tryd.sortOp 3 isAggOp sizeOp opCells (fun _ => rfl) opCells_one ordV ordSWO 23 #[] g 0 cap xs.toArray W eg (order_lays g 0 _ W) hH hlt (by simp; omega)
    rw [List.size_toArray] at hcon
    refine hcon.mono ?_
    rintro e w' ⟨he, d', nn, os, hpm, hso, rfl⟩
    have hd := sorted_of (T := T) hap hp (by simpa using hpm) (by simpa using hso)
    subst hd
    refine ⟨he, ?_, ?_⟩
    · refine ⟨some ⟨g, 0, none⟩, cap, by rw [allT_length, hlen], fun i o hi => ?_⟩
      have hi' : i < (allT T).length := (List.getElem?_eq_some_iff.1 hi).1
      have hH2 : HoldsK opCells 3 (sortWorldK opCells 3 W g 0 nn (allT T).toArray os) g 0 (allT T).toArray := by
        unfold sortWorldK
        refine holdsK_grow opCells 3 _ _ _ _ _ ?_ (holdsK_putRowK opCells 3 _ _ _ xs.toArray _ (holdsK_ahead opCells 3 _ _ _ _ _ hH) (by simp [allT_length, hlen]))
        rw [putRowK_size]; exact hlt
      have ho : (allT T).toArray[i]! = o := by
        rw [getElem!_pos _ i (by simpa using hi')]
        simpa using (List.getElem?_eq_some_iff.1 hi).2
      have c0 := (hH2.cell (i := i) (c := 0) (by simpa using hi') (by omega)).1
      have c1 := (hH2.cell (i := i) (c := 1) (by simpa using hi') (by omega)).1
      have c2 := (hH2.cell (i := i) (c := 2) (by simpa using hi') (by omega)).1
      rw [ho] at c0 c1 c2
      refine ⟨g, rfl, hb, ?_, by simpa [opCells] using c0, by simpa [opCells] using c1, by simpa [opCells] using c2⟩
      rw [sortWorldK_size]; omega
    · exact (sortWorldK_keep W g nn _ os).less (fun k hk => by omega)
set_option maxHeartbeats 2000000 in
theorem collect_any {w : World} {Bm mb : Nat} {T : Tab} (hBm : Bm < w.heap.size) (hm : w.cell? ⟨Bm, 0, none⟩ = some (.map (some mb))) (hown : MapOf w mb T) (hT : T.length ≤ 200) :
    Calls Tryd.prog 31 #[.func (.func 33) #[] #[.pointer (some ⟨Bm, 0, none⟩)]] w fun e w' =>
      ∃ v xs, e = .returned v ∧ List.Perm xs T ∧ w'.ownsRow w.heap.size 27 3 v xs.length (cellsOfOps xs) ∧ Below w.heap.size w w' := by
  have ha := (callsIn_wide (n := 6)).1 (appendSeq_in Fence.wide 6 trivial trivial rfl (by omega) Bm mb T w hBm hm hown hT)
  have HA := Lib.hid ha; clear ha hm hown
  go_enter Tryd.func31, Tryd.ntmps31
  go_wp2_with (go_at_call 46; refine HA.out.mono ?_; rintro e w' ⟨v, xs, rfl, hp, hr, hb⟩; have HR := Lib.hid hr; clear hr; have HB := Lib.hid hb; clear hb)
  go_ret
  exact ⟨v, xs, rfl, hp, HR.out, HB.out⟩
set_option maxHeartbeats 2000000 in
theorem sorted_any {w : World} {Bm mb : Nat} {T : Tab} (hBm : Bm < w.heap.size) (hm : w.cell? ⟨Bm, 0, none⟩ = some (.map (some mb))) (hown : MapOf w mb T) (hT : T.length ≤ 200) :
    Calls Tryd.prog 21 #[.func (.func 33) #[] #[.pointer (some ⟨Bm, 0, none⟩)], .func (.func 23) #[] #[]] w fun e w' =>
      ∃ v, e = .returned v ∧ OpsSl w' w.heap.size v (allT T) ∧ Keep (fun _ => True) w w' := by
  have hap := hown.apart
  have hc := collect_any hBm hm hown hT
  have hs := fun (W : World) (v : Value) (xs : Tab) hp hr => sort_any (W := W) (v := v) (base := w.heap.size) (T := T) (xs := xs) hap hp hT hr
  have HC := Lib.hid hc; clear hc hm hown
  have HS := Lib.hid hs; clear hs
  go_enter Tryd.func21, Tryd.ntmps21
  go_wp2_with (go_at_call 31; refine HC.out.mono ?_; rintro e w1 ⟨v, xs, rfl, hp, hr, hb⟩; have HR := Lib.hid hr; clear hr; have HB := Lib.hid hb; clear hb; have HP := Lib.hid hp; clear hp)
  refine (HS.out _ v xs HP.out HR.out).mono ?_
  rintro e w2 ⟨rfl, hso, hk⟩
  have HSO := Lib.hid hso; clear hso
  have HK := Lib.hid hk; clear hk
  go_wp2_with fail
  go_ret
  exact ⟨v, rfl, HSO.out, ((Keep.ofBelow (X := (· < w.heap.size)) HB.out (fun _ h => h)).trans HK.out).all⟩
set_option maxHeartbeats 2000000 in
theorem values_any (mb : Nat) (w : World) : Calls Tryd.prog 22 #[.map (some mb)] w fun e w' =>
    e = .returned (.func (.func 33) #[] #[.pointer (some ⟨w.heap.size, 0, none⟩)]) ∧ w' = w.alloc (.cells #[.map (some mb)] 42) := by
  go_enter Tryd.func22, Tryd.ntmps22
  go_wp2
  go_ret
  exact ⟨rfl, rfl⟩
set_option maxHeartbeats 2000000 in
theorem all_any {w : World} {pb mb : Nat} {T : Tab} (h : TabAt w pb mb T) (hT : T.length ≤ 200) :
    Calls Tryd.prog 9 #[.pointer (some ⟨pb, 0, none⟩)] w fun e w' => ∃ v, e = .returned v ∧ OpsSl w' w.heap.size v (allT T) ∧ Keep (fun _ => True) w w' := by
  have hh := h.head.cell 0
  simp at hh
  have hs := sorted_any (w := w.alloc (.cells #[.map (some mb)] 42)) (Bm := w.heap.size) (mb := mb) (T := T) (by simp) (by simp) (h.map.keep ((Keep.refl (fun _ => True) w).alloc _) trivial) hT
  have HS := Lib.hid hs; clear hs h
  have HK0 := Lib.hid ((Keep.refl (fun _ => True) w).alloc (.cells #[.map (some mb)] 42))
  go_enter Tryd.func9, Tryd.ntmps9
  go_wp2_with (go_at_call 22; refine (values_any mb _).mono ?_; rintro e w1 ⟨rfl, rfl⟩)
  refine HS.out.mono ?_
  rintro e w2 ⟨v, rfl, hso, hk⟩
  have HSO := Lib.hid hso; clear hso
  have HK := Lib.hid hk; clear hk
  go_wp2_with fail
  go_ret
  obtain ⟨a, c, hv, hc⟩ := HSO.out
  refine ⟨v, rfl, ⟨a, c, hv, fun i o hi => ?_⟩, HK0.out.trans HK.out⟩
  obtain ⟨g, h1, h2, h3⟩ := hc i o hi
  exact ⟨g, h1, by simp at h2; omega, h3⟩
end Go.Proofs.YtbjnbfoedicelaaDoor
