/-
  Package ops: an operator is put into a table. No condition.
-/
import Derived.Test.YtbjnbfoedicelaaDoorOp3
import Derived.Test.YtbjnbfoedicelaaDoorClone
import Derived.Deep.DeepCutAuto
namespace Go.Proofs.YtbjnbfoedicelaaDoor
open Go.RowKit Go.Maps
set_option linter.unusedVariables false
set_option linter.unusedSimpArgs false

section
variable {w : World}
theorem TabAt.put {w w' : World} {pb mb : Nat} {T : Tab} (h : TabAt w pb mb T) (hl : T.length ≤ 200) {o : Opv} (ho : Fits o) (ho' : o.nm.length ≤ 64) :
    ∃ w', (Instr.mapUpdate 42 (.map (some mb)) (kvl o.nm (isPre o.ty)) (opVal o)).run Tryd.prog w = .ok () w' ∧ TabAt w' pb mb (put T o) ∧ Keep (· ≠ mb) w w' := by
  obtain ⟨w', hr, hm, ht⟩ := h.map.put hl ho ho'
  have hk : Keep (· ≠ mb) w w' := (Keep.refl _ w).turned ht (fun hh => hh rfl)
  exact ⟨w', hr, ⟨h.head.keep hk h.ne.symm, hm⟩, hk⟩
theorem TabAt.del {w w' : World} {pb mb : Nat} {T : Tab} (h : TabAt w pb mb T) {nm : List UInt8} (hn : nm.length ≤ maxLen) (p : Bool) (ty : TypeId) :
    ∃ w', (Builtin.delete_ #[42, 56] ty #[.map (some mb), kvl nm p]).run Tryd.prog w = .ok (.tuple #[]) w' ∧ TabAt w' pb mb (drop T nm p) ∧ Keep (· ≠ mb) w w' := by
  obtain ⟨w', hr, hm, ht⟩ := h.map.del hn p ty
  have hk : Keep (· ≠ mb) w w' := (Keep.refl _ w).turned ht (fun hh => hh rfl)
  exact ⟨w', hr, ⟨h.head.keep hk h.ne.symm, hm⟩, hk⟩
set_option maxRecDepth 100000 in
set_option maxHeartbeats 4000000 in
theorem put_any {pb mb : Nat} {T : Tab} {o : Opv} (h : TabAt w pb mb T) (hl : T.length ≤ 200) (ho : Fits o) (ho' : o.nm.length ≤ 64) :
    Calls Tryd.prog 20 #[.pointer (some ⟨pb, 0, none⟩), opVal o] w fun e w' => e = .returned (.tuple #[]) ∧ TabAt w' pb mb (put T o) ∧ Keep (· ≠ mb) w w' := by
  have hlt := h.head.lt
  have K0 := Lib.hid ((Keep.refl (fun _ => True) w).alloc (.cells #[.string (str o.nm), .int .i64 o.ty, .int .i64 o.pr] 27))
  have c0 := (h.head.keep K0.out trivial).cell 0
  simp at c0
  have hko : ∀ W, Keep (fun _ => True) (w.alloc (.cells #[.string (str o.nm), .int .i64 o.ty, .int .i64 o.pr] 27)) W → Calls Tryd.prog 25 #[.agg #[.string (str o.nm), .int .i64 o.ty, .int .i64 o.pr]] W fun e w1 =>
      e = .returned (.agg #[.string (str o.nm), .bool (isPre o.ty)]) ∧ w1.cell? ⟨pb, 0, none⟩ = some (.map (some mb)) ∧
      w1.cell? ⟨w.heap.size, 0, none⟩ = some (.string (str o.nm)) ∧ w1.cell? ⟨w.heap.size, 1, none⟩ = some (.int .i64 o.ty) ∧ w1.cell? ⟨w.heap.size, 2, none⟩ = some (.int .i64 o.pr) ∧
      ∃ w2, (Instr.mapUpdate 42 (.map (some mb)) (.agg #[.string (str o.nm), .bool (isPre o.ty)]) (.agg #[.string (str o.nm), .int .i64 o.ty, .int .i64 o.pr])).run Tryd.prog w1 = .ok () w2 ∧
        Hid (TabAt w2 pb mb (put T o)) ∧ Hid (Keep (· ≠ mb) w w2) := by
    intro W hW
    refine (keyOf_any o W).mono ?_
    rintro e w1 ⟨he, k1⟩
    have b1 := ((Blk.new w 27 #[.string (str o.nm), .int .i64 o.ty, .int .i64 o.pr]).keep hW trivial).keep k1 trivial
    have k2 := (K0.out.trans hW).trans k1
    have t1 := h.keep k2 trivial trivial
    have c1 := t1.head.cell 0
    have d0 := b1.cell 0; have d1 := b1.cell 1; have d2 := b1.cell 2
    obtain ⟨w2, hr, ht, hk⟩ := t1.put (w' := w1) hl ho ho'
    exact ⟨he, by simpa using c1, by simpa using d0, by simpa using d1, by simpa using d2, w2, hr, Lib.hid ht, Lib.hid ((k2.less (fun _ _ => trivial)).trans hk)⟩
  clear h
  unfold opVal
  generalize isPre o.ty = p at hko ⊢
  generalize hs : str o.nm = s at hko K0 c0 ⊢
  generalize ht : o.ty = t at hko K0 c0 ⊢
  generalize hr : o.pr = r at hko K0 c0 ⊢
  clear hs ht hr ho ho' hl
  have HKO := Lib.hid hko; clear hko
  have KR := Lib.hid (Keep.refl (fun _ => True) (w.alloc (.cells #[.string s, .int .i64 t, .int .i64 r] 27)))
  go_enter Tryd.func20, Tryd.ntmps20
  go_wp2_with fail
  go_region_with (go_at_call 25; refine (HKO.out _ (by repeat (first | with_reducible exact KR.out | with_reducible refine Keep.alloc ?_ _ | with_reducible refine Keep.drew ?_))).mono ?_; rintro e w1 ⟨rfl, c1, d0, d1, d2, w2, hr, ht, hk⟩)
  all_goals go_wp2_with fail
  all_goals exact bodyPost_end (results_none rfl _ _ _) rfl ⟨rfl, ht.out, hk.out⟩
end
end Go.Proofs.YtbjnbfoedicelaaDoor
