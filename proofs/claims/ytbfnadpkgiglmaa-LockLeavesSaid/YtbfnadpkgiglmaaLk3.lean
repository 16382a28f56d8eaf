/-
  Package lock: Make, Drop, Take, Give. Conditions: fewer than 2^62 mutexes were made, and no count is above 2^62.
-/
import Derived.Test.YtbfnadpkgiglmaaLk2
import Derived.Deep.DeepCutAuto
import Derived.Deep.RegionHeld3
namespace Go.Proofs.Ytbfnadpkgiglmaa
open Go.RowKit Go.Maps
set_option linter.unusedVariables false
set_option linter.unusedSimpArgs false

theorem Keep.ofBelow0 {X : Nat → Prop} {w w' : World} (h : Below w.heap.size w w') : Keep X w w' := ⟨h.os, h.tape, h.output, h.size, fun k hk _ => h.block k hk⟩
theorem LkAt.drew {w : World} {pa mb : Nat} {L : LS} {c : Int} (h : LkAt w pa mb L c) : LkAt w.drew pa mb L c := h.keep (X := fun _ => True) (Keep.refl _ w).drew trivial trivial
theorem LkAt.alloc {w : World} {pa mb : Nat} {L : LS} {c : Int} (h : LkAt w pa mb L c) (o : Obj) : LkAt (w.alloc o) pa mb L c := h.keep (X := fun _ => True) ((Keep.refl _ w).alloc o) trivial trivial
section
variable {w w' : World} {pa mb : Nat} {L : LS} {c : Int}
/-- Another owner in its place. -/
theorem LkAt.store (h : LkAt w pa mb L c) {m : Int} (hm : (ik m).wf = true) {y : Lk} (hy : LS.get L m = some y) (x : Lk) (hx : x.is = true) {d : Int} (hcd : c ≤ d) (hx2 : (x.ct = 0 ∧ x.ow = 0) ∨ (1 ≤ x.ct ∧ x.ct ≤ d ∧ 1 ≤ x.ow)) :
    ∃ w', (Instr.mapUpdate 52 (.map (some mb)) (.int .i64 m) (.agg #[.int .i64 x.ow, .int .i64 x.ct])).run Try.prog w = .ok () w' ∧ LkAt w' pa mb (LS.put L m x) d ∧ KeepL pa mb w w' := by
  obtain ⟨i, rfl, h1, h2, h3⟩ := get_some hy
  have e : ((i : Int) + 1 - 1).toNat = i := by omega
  obtain ⟨w', hr, hm', ht⟩ := h.map.store h.ok.few hm x (L' := LS.put L ((i : Int) + 1) x) (fun k => by
    unfold LS.put
    rw [e, get_set i x h1]
    by_cases hk : k = (i : Int) + 1
    · rw [if_pos hk, if_pos hk, if_pos hx]
    · rw [if_neg hk, if_neg hk])
  refine ⟨w', hr, ⟨?_, hm', h.ok.put hy hcd hx2⟩, (Keep.refl _ w).turned ht (fun hh => hh.2 rfl)⟩
  rw [length_put]
  exact h.head.keep (X := fun k => k ≠ mb) ((Keep.refl _ w).turned ht (fun hh => hh rfl)) h.ne.symm
theorem LkAt.cut (h : LkAt w pa mb L c) {m : Int} (hm : (ik m).wf = true) {y : Lk} (hy : LS.get L m = some y) (ty : TypeId) :
    ∃ w', (Builtin.delete_ #[52, 3] ty #[.map (some mb), .int .i64 m]).run Try.prog w = .ok (.tuple #[]) w' ∧ LkAt w' pa mb (LS.put L m ⟨false, 0, 0⟩) c ∧ KeepL pa mb w w' := by
  obtain ⟨i, rfl, h1, h2, h3⟩ := get_some hy
  have e : ((i : Int) + 1 - 1).toNat = i := by omega
  obtain ⟨w', hr, hm', ht⟩ := h.map.cut hm (L' := LS.put L ((i : Int) + 1) ⟨false, 0, 0⟩) (fun k => by
    unfold LS.put
    rw [e, get_set i _ h1]
    by_cases hk : k = (i : Int) + 1
    · rw [if_pos hk, if_pos hk]; rfl
    · rw [if_neg hk, if_neg hk]) ty
  refine ⟨w', hr, ⟨?_, hm', h.ok.put hy (Int.le_refl _) (.inl ⟨rfl, rfl⟩)⟩, (Keep.refl _ w).turned ht (fun hh => hh.2 rfl)⟩
  rw [length_put]
  exact h.head.keep (X := fun k => k ≠ mb) ((Keep.refl _ w).turned ht (fun hh => hh rfl)) h.ne.symm
/-- One more, behind the number was written. -/
theorem LkAt.more (h : LkAt w pa mb L c) (hl : (LS.all L).length < 8) (hm : (ik ((L.length : Int) + 1)).wf = true) :
    ∃ w', (Instr.mapUpdate 52 (.map (some mb)) (.int .i64 ((L.length : Int) + 1)) (.agg #[.int .i64 0, .int .i64 0])).run Try.prog ((w.setCell ⟨pa, 0, none⟩ (.int .i64 ((L.length : Int) + 1))).drew) = .ok () w' ∧
      LkAt w' pa mb (L ++ [⟨true, 0, 0⟩]) c ∧ KeepL pa mb w w' := by
  have hk0 : Keep (fun k => k ≠ pa) w ((w.setCell ⟨pa, 0, none⟩ (.int .i64 ((L.length : Int) + 1))).drew) := ((Keep.refl _ w).setCell (p := ⟨pa, 0, none⟩) (fun hh => hh rfl) _).drew
  have hmap := h.map.keep hk0 h.ne
  obtain ⟨w', hr, hm', ht⟩ := hmap.store h.ok.few hm ⟨true, 0, 0⟩ (L' := L ++ [⟨true, 0, 0⟩]) (fun k => by rw [get_push]; rfl)
  have hb0 : Blk ((w.setCell ⟨pa, 0, none⟩ (.int .i64 ((L.length : Int) + 1))).drew) pa 54 #[.int .i64 ((L.length : Int) + 1), .map (some mb)] := by
    have := (h.head.set_ 0 (.int .i64 ((L.length : Int) + 1))).drew
    simpa using this
  refine ⟨w', hr, ⟨?_, hm', h.ok.push hl⟩, (hk0.less (fun k hk => hk.1)).turned ht (fun hh => hh.2 rfl)⟩
  have : ((L ++ [(⟨true, 0, 0⟩ : Lk)]).length : Int) = (L.length : Int) + 1 := by simp
  rw [this]
  exact hb0.keep (X := fun k => k ≠ mb) ((Keep.refl _ _).turned ht (fun hh => hh rfl)) h.ne.symm

set_option maxRecDepth 100000 in
set_option maxHeartbeats 1000000 in
theorem make_any (h : LkAt w pa mb L c) (hb : L.length < 4611686018427387904) :
    Calls Try.prog 19 #[.pointer (some ⟨pa, 0, none⟩)] w fun e w' => e = .returned (.tuple #[.int .i64 (LS.makeNo L), .int .i64 (LS.makeErr L)]) ∧ LkAt w' pa mb (LS.make L) c ∧ KeepL pa mb w w' := by
  have c0 := h.head.cell 0
  have c1 := h.head.cell 1
  have f0 := h.head.frozen 0
  have hlt := h.head.lt
  have hln := fun ty => h.map.len ty
  have hfew := h.ok.few
  simp at c0 c1
  unfold LS.makeNo LS.makeErr LS.make
  by_cases hl : 8 ≤ (LS.all L).length
  · rw [if_pos hl, if_pos hl, if_pos hl]
    have hH := Lib.hid h; clear h
    generalize (LS.all L).length = n at hl hln hfew
    go_enter Try.func19, Try.ntmps19
    go_wp2
    go_ret2
    exact ⟨rfl, hH.out, Keep.refl _ _⟩
  · rw [if_neg hl, if_neg hl, if_neg hl]
    obtain ⟨w1, hr, h1, hk⟩ := h.more (by omega) (ik_wf (by omega) (by omega))
    have hH := Lib.hid h1; clear h1
    have hK := Lib.hid hk; clear hk
    have d0 := hH.out.head.cell 0
    simp at d0
    clear h
    generalize (LS.all L).length = n at hl hln hfew
    generalize L.length = k at *
    go_enter Try.func19, Try.ntmps19
    go_wp2_with fail
    go_region_with (fail)
    all_goals (go_wp2_with fail)
    all_goals go_ret2
    all_goals exact ⟨rfl, hH.out, hK.out⟩

set_option maxHeartbeats 1000000 in
theorem drop_any (h : LkAt w pa mb L c) {m : Int} (hm : (ik m).wf = true) :
    Calls Try.prog 20 #[.pointer (some ⟨pa, 0, none⟩), .int .i64 m] w fun e w' => e = .returned (.int .i64 (LS.dropErr L m)) ∧ LkAt w' pa mb (LS.drop L m) c ∧ KeepL pa mb w w' := by
  have c1 := h.head.cell 1
  have hlt := h.head.lt
  have hl := h.map.look hm
  unfold LS.drop LS.dropErr
  simp at c1
  cases hg : LS.get L m with
  | none =>
    rw [hg] at hl
    have hH := Lib.hid h; clear h
    dsimp only [Option.getD_none, Option.isSome_none, zLk] at hl ⊢
    clear hg
    go_enter Try.func20, Try.ntmps20
    go_wp2
    go_ret
    exact ⟨rfl, hH.out.below ((Below.refl _ _).alloc (Nat.le_refl _) _), (Keep.refl _ _).alloc _⟩
  | some x =>
    rw [hg] at hl
    dsimp only [Option.getD_some, Option.isSome_some] at hl ⊢
    have hA := h.below ((Below.refl w.heap.size w).alloc (Nat.le_refl _) (.cells #[.int .i64 x.ow, .int .i64 x.ct] 64))
    by_cases hc : 0 < x.ct
    · rw [if_pos hc, if_pos hc]
      have hH := Lib.hid hA; clear h hA hg
      generalize x.ct = a at *
      generalize x.ow = b at *
      go_enter Try.func20, Try.ntmps20
      go_wp2
      go_ret
      exact ⟨rfl, hH.out, (Keep.refl _ _).alloc _⟩
    · rw [if_neg hc, if_neg hc]
      obtain ⟨w1, hr, h1, hk⟩ := hA.cut hm hg 0
      have hH := Lib.hid h1; clear h1
      have hK := Lib.hid hk; clear hk h hA hg
      generalize x.ct = a at *
      generalize x.ow = b at *
      go_enter Try.func20, Try.ntmps20
      go_wp2
      go_ret
      exact ⟨rfl, hH.out, ((Keep.refl _ _).alloc _).trans hK.out⟩

/-- What a thread is told that asks for a mutex. -/
def LS.askErr (L : LS) (m t : Int) : Int := match LS.get L m with | none => 61 | some _ => if t < 1 then 1 else 0
def LS.askTo (L : LS) (m t : Int) : Lk := match LS.get L m with | none => zLk | some x => if t < 1 then zLk else x
set_option maxRecDepth 100000 in
set_option maxHeartbeats 1000000 in
theorem asked_any (h : LkAt w pa mb L c) {m : Int} (hm : (ik m).wf = true) (t : Int) :
    Calls Try.prog 28 #[.pointer (some ⟨pa, 0, none⟩), .int .i64 m, .int .i64 t] w fun e w' =>
      e = .returned (.tuple #[.agg #[.int .i64 (LS.askTo L m t).ow, .int .i64 (LS.askTo L m t).ct], .int .i64 (LS.askErr L m t)]) ∧ Below w.heap.size w w' := by
  have c1 := h.head.cell 1
  have hlt := h.head.lt
  have hA := h.below ((Below.refl w.heap.size w).alloc (Nat.le_refl _) (.cells #[.int .i64 0, .int .i64 0] 64))
  have hl := hA.map.look hm
  have hB := Lib.hid (((Below.refl w.heap.size w).alloc (Nat.le_refl _) (.cells #[.int .i64 0, .int .i64 0] 64)))
  unfold LS.askErr LS.askTo
  simp at c1
  clear h hA
  cases hg : LS.get L m with
  | none =>
    rw [hg] at hl
    dsimp only [Option.getD_none, Option.isSome_none, zLk] at hl ⊢
    clear hg
    go_enter Try.func28, Try.ntmps28
    go_wp2
    refine bodyPost_ret (v := .tuple #[.agg #[.int .i64 0, .int .i64 0], .int .i64 61]) (by simp [results, Try.results28, go_sem]) rfl ⟨rfl, ?_⟩
    repeat (first | exact hB.out | refine Below.alloc ?_ (by simp) _ | refine Below.setCell ?_ (by simp) _)
  | some x =>
    rw [hg] at hl
    dsimp only [Option.getD_some, Option.isSome_some] at hl ⊢
    clear hg
    by_cases ht : t < 1
    · rw [if_pos ht, if_pos ht]
      dsimp only [zLk]
      generalize x.ct = a at *
      generalize x.ow = b at *
      go_enter Try.func28, Try.ntmps28
      go_wp2
      refine bodyPost_ret (v := .tuple #[.agg #[.int .i64 0, .int .i64 0], .int .i64 1]) (by simp [results, Try.results28, go_sem]) rfl ⟨rfl, ?_⟩
      repeat (first | exact hB.out | refine Below.alloc ?_ (by simp) _ | refine Below.setCell ?_ (by simp) _)
    · rw [if_neg ht, if_neg ht]
      generalize x.ct = a at *
      generalize x.ow = b at *
      go_enter Try.func28, Try.ntmps28
      go_wp2
      refine bodyPost_ret (v := .tuple #[.agg #[.int .i64 b, .int .i64 a], .int .i64 0]) (by simp [results, Try.results28, go_sem]) rfl ⟨rfl, ?_⟩
      repeat (first | exact Below.refl _ _ | refine Below.alloc ?_ (by simp) _ | refine Below.setCell ?_ (by simp) _)

set_option maxRecDepth 100000 in
set_option maxHeartbeats 1000000 in
theorem take_any (h : LkAt w pa mb L c) (hc0 : 0 ≤ c) (hcb : c < 4611686018427387904) {m : Int} (hm : (ik m).wf = true) (t : Int) :
    Calls Try.prog 16 #[.pointer (some ⟨pa, 0, none⟩), .int .i64 m, .int .i64 t] w fun e w' => e = .returned (.int .i64 (LS.takeErr L m t)) ∧ LkAt w' pa mb (LS.take L m t) (c + 1) ∧ KeepL pa mb w w' := by
  have ha := asked_any h hm t
  have hlt := h.head.lt
  unfold LS.take LS.takeErr
  unfold LS.askErr LS.askTo at ha
  cases hg : LS.get L m with
  | none =>
    rw [hg] at ha
    dsimp only [zLk] at ha ⊢
    have HA := Lib.hid ha; clear ha hg
    have HH := Lib.hid h; clear h
    go_enter Try.func16, Try.ntmps16
    go_wp2_with fail
    refine HA.out.mono ?_
    rintro e w1 ⟨rfl, hb⟩
    have HB := Lib.hid hb; clear hb
    go_wp2
    go_ret
    exact ⟨rfl, ((HH.out.below HB.out).below ((Below.refl _ _).alloc (Nat.le_refl _) _)).mono (by omega), (Keep.ofBelow0 HB.out).alloc _⟩
  | some x =>
    rw [hg] at ha
    dsimp only at ha ⊢
    by_cases ht : t < 1
    · rw [if_pos ht, if_pos ht] at ha
      rw [if_pos ht, if_pos ht]
      dsimp only [zLk] at ha
      have HA := Lib.hid ha; clear ha hg
      have HH := Lib.hid h; clear h
      go_enter Try.func16, Try.ntmps16
      go_wp2_with fail
      refine HA.out.mono ?_
      rintro e w1 ⟨rfl, hb⟩
      have HB := Lib.hid hb; clear hb
      go_wp2
      go_ret
      exact ⟨rfl, ((HH.out.below HB.out).below ((Below.refl _ _).alloc (Nat.le_refl _) _)).mono (by omega), (Keep.ofBelow0 HB.out).alloc _⟩
    · rw [if_neg ht, if_neg ht] at ha
      rw [if_neg ht, if_neg ht]
      have hx := h.ok.get hg
      by_cases h0 : 0 < x.ct
      · by_cases h1 : x.ow = t
        · rw [if_neg (fun hh => hh.2 h1), if_neg (fun hh => hh.2 h1)]
          have HA := Lib.hid ha; clear ha
          have hst : Hid (∀ W, Below w.heap.size w W → ∃ w', (Instr.mapUpdate 52 (.map (some mb)) (.int .i64 m) (.agg #[.int .i64 t, .int .i64 (x.ct + 1)])).run Try.prog W = .ok () w' ∧ Hid (LkAt w' pa mb (LS.put L m ⟨true, t, x.ct + 1⟩) (c + 1)) ∧ Hid (KeepL pa mb w w')) := Lib.hid (fun W hW => by
            obtain ⟨w', hr, h1, h2⟩ := (h.below hW).store hm hg ⟨true, t, x.ct + 1⟩ rfl (d := c + 1) (by omega) (.inr ⟨by dsimp only; omega, by dsimp only; omega, by dsimp only; omega⟩)
            exact ⟨w', hr, Lib.hid h1, Lib.hid ((Keep.ofBelow0 hW).trans h2)⟩)
          have hcl : Hid (∀ W, Below w.heap.size w W → W.cell? ⟨pa, 1, none⟩ = some (.map (some mb))) := Lib.hid (fun W hW => by have := (h.below hW).head.cell 1; simpa using this)
          clear h hg
          have hca : -4611686018427387904 ≤ x.ct ∧ x.ct < 4611686018427387904 := by omega
          have hwr : IntKind.i64.wrap (x.ct + 1) = x.ct + 1 := by rw [IntKind.wrap_i64]; omega
          clear hx
          generalize hLP : LS.put L m ⟨true, t, x.ct + 1⟩ = LP at hst ⊢
          clear hLP
          generalize x.ct = a at *
          rw [h1] at HA
          go_enter Try.func16, Try.ntmps16
          go_wp2_with fail
          refine HA.out.mono ?_
          rintro e w1 ⟨rfl, hb⟩
          have c1 := hcl.out _ ((hb.alloc (by have := hb.size; exact this) (.cells #[.int .i64 t, .int .i64 a] 64)).drew)
          have hlt1 : pa < w1.heap.size := Nat.lt_of_lt_of_le hlt hb.size
          obtain ⟨w2, hr, hL2, hK2⟩ := hst.out _ ((hb.alloc (by have := hb.size; exact this) (.cells #[.int .i64 t, .int .i64 a] 64)).drew)
          clear hb hcl hst HA
          go_wp2_with fail
          go_region_with (fail)
          all_goals (go_wp2_with fail)
          all_goals go_ret
          all_goals exact ⟨rfl, hL2.out, hK2.out⟩
        · rw [if_pos ⟨h0, h1⟩, if_pos ⟨h0, h1⟩]
          have HA := Lib.hid ha; clear ha hg
          have HH := Lib.hid h; clear h
          clear hx
          generalize x.ct = a at *
          generalize x.ow = b at *
          have hb1 : (b != t) = true := by simpa using h1
          go_enter Try.func16, Try.ntmps16
          go_wp2_with fail
          refine HA.out.mono ?_
          rintro e w1 ⟨rfl, hb⟩
          have HB := Lib.hid hb; clear hb
          go_wp2
          go_ret
          exact ⟨rfl, ((HH.out.below HB.out).alloc _).mono (by omega), (Keep.ofBelow0 HB.out).alloc _⟩
      · rw [if_neg (fun hh => h0 hh.1), if_neg (fun hh => h0 hh.1)]
        have HA := Lib.hid ha; clear ha
        have hst : Hid (∀ W, Below w.heap.size w W → ∃ w', (Instr.mapUpdate 52 (.map (some mb)) (.int .i64 m) (.agg #[.int .i64 t, .int .i64 (x.ct + 1)])).run Try.prog W = .ok () w' ∧ Hid (LkAt w' pa mb (LS.put L m ⟨true, t, x.ct + 1⟩) (c + 1)) ∧ Hid (KeepL pa mb w w')) := Lib.hid (fun W hW => by
          obtain ⟨w', hr, h1, h2⟩ := (h.below hW).store hm hg ⟨true, t, x.ct + 1⟩ rfl (d := c + 1) (by omega) (.inr ⟨by dsimp only; omega, by dsimp only; omega, by dsimp only; omega⟩)
          exact ⟨w', hr, Lib.hid h1, Lib.hid ((Keep.ofBelow0 hW).trans h2)⟩)
        have hcl : Hid (∀ W, Below w.heap.size w W → W.cell? ⟨pa, 1, none⟩ = some (.map (some mb))) := Lib.hid (fun W hW => by have := (h.below hW).head.cell 1; simpa using this)
        clear h hg
        have hca : -4611686018427387904 ≤ x.ct ∧ x.ct < 4611686018427387904 := by omega
        have hwr : IntKind.i64.wrap (x.ct + 1) = x.ct + 1 := by rw [IntKind.wrap_i64]; omega
        clear hx
        generalize hLP : LS.put L m ⟨true, t, x.ct + 1⟩ = LP at hst ⊢
        clear hLP
        generalize x.ct = a at *
        generalize x.ow = b at *
        go_enter Try.func16, Try.ntmps16
        go_wp2_with fail
        refine HA.out.mono ?_
        rintro e w1 ⟨rfl, hb⟩
        have c1 := hcl.out _ ((hb.alloc (by have := hb.size; exact this) (.cells #[.int .i64 b, .int .i64 a] 64)).drew)
        have hlt1 : pa < w1.heap.size := Nat.lt_of_lt_of_le hlt hb.size
        obtain ⟨w2, hr, hL2, hK2⟩ := hst.out _ ((hb.alloc (by have := hb.size; exact this) (.cells #[.int .i64 b, .int .i64 a] 64)).drew)
        clear hb hcl hst HA
        go_wp2_with fail
        go_region_with (fail)
        all_goals (go_wp2_with fail)
        all_goals go_ret
        all_goals exact ⟨rfl, hL2.out, hK2.out⟩
set_option maxRecDepth 100000 in
set_option maxHeartbeats 1000000 in
theorem give_any (h : LkAt w pa mb L c) (hc0 : 0 ≤ c) (hcb : c < 4611686018427387904) {m : Int} (hm : (ik m).wf = true) (t : Int) :
    Calls Try.prog 17 #[.pointer (some ⟨pa, 0, none⟩), .int .i64 m, .int .i64 t] w fun e w' => e = .returned (.int .i64 (LS.giveErr L m t)) ∧ LkAt w' pa mb (LS.give L m t) c ∧ KeepL pa mb w w' := by
  have ha := asked_any h hm t
  have hlt := h.head.lt
  unfold LS.give LS.giveErr
  unfold LS.askErr LS.askTo at ha
  cases hg : LS.get L m with
  | none =>
    rw [hg] at ha
    dsimp only [zLk] at ha ⊢
    have HA := Lib.hid ha; clear ha hg
    have HH := Lib.hid h; clear h
    go_enter Try.func17, Try.ntmps17
    go_wp2_with fail
    refine HA.out.mono ?_
    rintro e w1 ⟨rfl, hb⟩
    have HB := Lib.hid hb; clear hb
    go_wp2
    go_ret
    exact ⟨rfl, ((HH.out.below HB.out).alloc _), (Keep.ofBelow0 HB.out).alloc _⟩
  | some x =>
    rw [hg] at ha
    dsimp only at ha ⊢
    by_cases ht : t < 1
    · rw [if_pos ht, if_pos ht] at ha
      rw [if_pos ht, if_pos ht]
      dsimp only [zLk] at ha
      have HA := Lib.hid ha; clear ha hg
      have HH := Lib.hid h; clear h
      go_enter Try.func17, Try.ntmps17
      go_wp2_with fail
      refine HA.out.mono ?_
      rintro e w1 ⟨rfl, hb⟩
      have HB := Lib.hid hb; clear hb
      go_wp2
      go_ret
      exact ⟨rfl, ((HH.out.below HB.out).alloc _), (Keep.ofBelow0 HB.out).alloc _⟩
    · rw [if_neg ht, if_neg ht] at ha
      rw [if_neg ht, if_neg ht]
      have hx := h.ok.get hg
      by_cases h1 : x.ow = t
      · have hne : ¬ (x.ct = 0 ∨ x.ow ≠ t) := by omega
        rw [if_neg hne, if_neg hne]
        by_cases h2 : x.ct = 1
        · rw [if_pos h2]
          have HA := Lib.hid ha; clear ha
          have hst : Hid (∀ W, Below w.heap.size w W → ∃ w', (Instr.mapUpdate 52 (.map (some mb)) (.int .i64 m) (.agg #[.int .i64 0, .int .i64 0])).run Try.prog W = .ok () w' ∧ Hid (LkAt w' pa mb (LS.put L m ⟨true, 0, 0⟩) c) ∧ Hid (KeepL pa mb w w')) := Lib.hid (fun W hW => by
            obtain ⟨w', hr, h1, h2⟩ := (h.below hW).store hm hg ⟨true, 0, 0⟩ rfl (d := c) (by omega) (.inl ⟨rfl, rfl⟩)
            exact ⟨w', hr, Lib.hid h1, Lib.hid ((Keep.ofBelow0 hW).trans h2)⟩)
          have hcl : Hid (∀ W, Below w.heap.size w W → W.cell? ⟨pa, 1, none⟩ = some (.map (some mb))) := Lib.hid (fun W hW => by have := (h.below hW).head.cell 1; simpa using this)
          clear h hg hx hne
          generalize hLP : LS.put L m ⟨true, 0, 0⟩ = LP at hst ⊢
          clear hLP
          rw [h1, h2] at HA
          clear h1 h2
          go_enter Try.func17, Try.ntmps17
          go_wp2_with fail
          refine HA.out.mono ?_
          rintro e w1 ⟨rfl, hb⟩
          have c1 := hcl.out _ ((hb.alloc (by have := hb.size; exact this) (.cells #[.int .i64 t, .int .i64 1] 64)))
          have hlt1 : pa < w1.heap.size := Nat.lt_of_lt_of_le hlt hb.size
          obtain ⟨w2, hr, hL2, hK2⟩ := hst.out _ ((hb.alloc (by have := hb.size; exact this) (.cells #[.int .i64 t, .int .i64 1] 64)))
          clear hb hcl hst HA
          go_wp2
          go_ret
          exact ⟨rfl, hL2.out, hK2.out⟩
        · rw [if_neg h2]
          have HA := Lib.hid ha; clear ha
          have hst : Hid (∀ W, Below w.heap.size w W → ∃ w', (Instr.mapUpdate 52 (.map (some mb)) (.int .i64 m) (.agg #[.int .i64 t, .int .i64 (x.ct - 1)])).run Try.prog W = .ok () w' ∧ Hid (LkAt w' pa mb (LS.put L m ⟨true, t, x.ct - 1⟩) c) ∧ Hid (KeepL pa mb w w')) := Lib.hid (fun W hW => by
            obtain ⟨w', hr, h1, h2⟩ := (h.below hW).store hm hg ⟨true, t, x.ct - 1⟩ rfl (d := c) (by omega) (.inr ⟨by dsimp only; omega, by dsimp only; omega, by dsimp only; omega⟩)
            exact ⟨w', hr, Lib.hid h1, Lib.hid ((Keep.ofBelow0 hW).trans h2)⟩)
          have hcl : Hid (∀ W, Below w.heap.size w W → W.cell? ⟨pa, 1, none⟩ = some (.map (some mb))) := Lib.hid (fun W hW => by have := (h.below hW).head.cell 1; simpa using this)
          have hca : -4611686018427387904 ≤ x.ct ∧ x.ct < 4611686018427387904 := by omega
          have hwr : IntKind.i64.wrap (x.ct - 1) = x.ct - 1 := by rw [IntKind.wrap_i64]; omega
          clear h hg hx hne
          generalize hLP : LS.put L m ⟨true, t, x.ct - 1⟩ = LP at hst ⊢
          clear hLP
          rw [h1] at HA
          have hb2 : (x.ct == 1) = false := by simpa using h2
          generalize x.ct = a at *
          clear h1
          go_enter Try.func17, Try.ntmps17
          go_wp2_with fail
          refine HA.out.mono ?_
          rintro e w1 ⟨rfl, hb⟩
          have c1 := hcl.out _ ((hb.alloc (by have := hb.size; exact this) (.cells #[.int .i64 t, .int .i64 a] 64)).drew)
          have hlt1 : pa < w1.heap.size := Nat.lt_of_lt_of_le hlt hb.size
          obtain ⟨w2, hr, hL2, hK2⟩ := hst.out _ ((hb.alloc (by have := hb.size; exact this) (.cells #[.int .i64 t, .int .i64 a] 64)).drew)
          clear hb hcl hst HA
          go_wp2_with fail
          go_region_with (fail)
          all_goals (go_wp2_with fail)
          all_goals go_ret
          all_goals exact ⟨rfl, hL2.out, hK2.out⟩
      · have hor : x.ct = 0 ∨ x.ow ≠ t := .inr h1
        rw [if_pos hor, if_pos hor]
        have HA := Lib.hid ha; clear ha hg hor
        have HH := Lib.hid h; clear h
        clear hx
        generalize x.ct = a at *
        generalize x.ow = b at *
        have hb1 : (b != t) = true := by simpa using h1
        go_enter Try.func17, Try.ntmps17
        go_wp2_with fail
        refine HA.out.mono ?_
        rintro e w1 ⟨rfl, hb⟩
        have HB := Lib.hid hb; clear hb
        go_wp2
        go_ret
        exact ⟨rfl, ((HH.out.below HB.out).alloc _), (Keep.ofBelow0 HB.out).alloc _⟩
end
end Go.Proofs.Ytbfnadpkgiglmaa
