/-
  Package atoms in memory: strings.Clone, Begin. No condition but what lies in memory.
-/
import Derived.Test.YtebdlggmpojgdaaAtoms21
import Derived.Lib.Strings
import Derived.Lib.Walk
import Derived.Lib.BufferWrite
import Derived.Lib.UnsafeStr
import Derived.Laws.MakeOwn
namespace Go.Proofs.Ytebdlggmpojgdaa
open Go.RowKit Go.Maps
set_option linter.unusedVariables false

theorem info5 : (Try.prog.info? 5).map (fun i => (i.zero, i.size, i.bytes)) = some (some (Value.int IntKind.u8 0), 1, 1) := by kernel_rfl
set_option maxHeartbeats 4000000 in
set_option maxRecDepth 100000 in
theorem clone_any (s : ByteArray) (w : World) (hlim : s.size ≤ 281474976710656) :
    Calls Try.prog 75 #[.string s] w fun e w' => e = .returned (.string s) ∧ Below w.heap.size w w' := by
  by_cases h0 : s.size = 0
  · have hs : s = ⟨#[]⟩ := by
      apply ByteArray.ext
      exact Array.eq_empty_of_size_eq_zero h0
    subst hs
    go_enter Try.func75, Try.ntmps75
    go_wp2
    go_ret
    exact ⟨rfl, Below.refl _ _⟩
  · obtain ⟨i0, hi, hz0, hz1, hz2⟩ := info_parts info5
    have hinfo : (Try.prog.info? 5).map (·.size) = some 1 := by rw [hi]; simp [hz1]
    have hco : Try.prog.cellsOf 5 = 1 := by simp [Program.cellsOf, hi, hz1]
    obtain ⟨M, hM⟩ : ∃ M, M = madeCells (Value.int .u8 0).cells (((s.size : Nat) : Int).toNat * i0.size) := ⟨_, rfl⟩
    have hMs : M.size = s.size := by rw [hM, size_madeCells, hz1]; simp
    have hmk : ∀ W : World, (Instr.makeSlice 138 (.int .i64 (s.size : Int)) (.int .i64 (s.size : Int))).run Try.prog W = .ok (.slice (some ⟨W.heap.size, 0, none⟩) s.size s.size) (W.alloc (.cells M 5)) := fun W => by
      have h := run_make (P := Try.prog) W 138 5 i0 (.int .u8 0) Try.underlying138 hi hz0 .i64 .i64 (s.size : Int) (s.size : Int) (by omega) (by omega) (by rw [hz2]; omega) (by omega)
      rw [← hM] at h
      simpa using h
    clear hM
    have hcp := Lib.run_copy_row_string (P := Try.prog) (w.alloc (.cells M 5)) 138 9 3 5 w.heap.size 0 s.size s.size s M 5 Try.underlying138 hinfo (heap_alloc_new w _) (Nat.le_refl _) (by omega)
    obtain ⟨Y, hY⟩ : ∃ Y, Y = (M.toList.take 0 ++ Lib.byteCells s.data.toList ++ M.toList.drop (0 + s.size)).toArray := ⟨_, rfl⟩
    rw [← hY] at hcp
    have hYl : Y.toList = Lib.byteCells s.data.toList := by
      rw [hY, List.toList_toArray, List.take_zero, List.nil_append, List.drop_of_length_le (by rw [Array.length_toList]; omega), List.append_nil]
    have hYs : Y.size = s.size := by rw [← Array.length_toList, hYl, Lib.byteCells_length, ← Lib.size_eq]
    have hgY : ((w.alloc (.cells M 5)).setRow w.heap.size Y).heap[w.heap.size]? = some (.cells Y 5 (0, 0)) := setRow_heap _ _ M _ 5 (0, 0) (heap_alloc_new w _)
    have hne : s.data.toList ≠ [] := fun e => h0 (by rw [Lib.size_eq, e]; rfl)
    have hUS := Lib.run_unsafeString_row (P := Try.prog) ((w.alloc (.cells M 5)).setRow w.heap.size Y) 139 3 9 5 Try.underlying139 hco w.heap.size Y.size (by unfold World.shape?; rw [hgY]) s.data.toList hne (by rw [← Lib.size_eq]; omega) (by rw [← Lib.size_eq]; omega)
      (fun j x hx => Lib.cells_of_row hgY Y.size j _ (by rw [List.take_of_length_le (by rw [Array.length_toList]; exact Nat.le_refl _), hYl]; simp [Lib.byteCells, hx]))
    rw [← Lib.size_eq] at hUS
    clear hY
    go_enter Try.func75, Try.ntmps75
    go_wp2
    go_ret
    have hb1 : Below w.heap.size w (w.alloc (.cells M 5)) := (Below.refl _ w).alloc (Nat.le_refl _) _
    have hb2 : Below w.heap.size (w.alloc (.cells M 5)) ((w.alloc (.cells M 5)).setRow w.heap.size Y) := ⟨rfl, rfl, rfl, by simp, fun k hk => setRow_other _ _ _ _ (by omega)⟩
    exact ⟨rfl, Lib.below_freeze (hb1.trans hb2) (p := ⟨w.heap.size, 0, none⟩) (Nat.le_refl _) _⟩
theorem sclone_any (s : ByteArray) (w : World) (hlim : s.size ≤ 281474976710656) :
    Calls Try.prog 35 #[.string s] w fun e w' => e = .returned (.string s) ∧ Below w.heap.size w w' := by
  have hc := clone_any s w hlim
  have HC := Lib.hid hc; clear hc
  go_enter Try.func35, Try.ntmps35
  go_wp2_with (go_at_call 75; refine HC.out.mono ?_; rintro e w' ⟨rfl, hb⟩; have HB := Lib.hid hb; clear hb)
  go_ret
  exact ⟨rfl, HB.out⟩

/-- An operation that is begun. -/
def OS.begun (T : TS) (n : List UInt8) : OS := if 64 < n.length then ⟨0, [], 0, 0, 0, 0, 0, 0, 0, false, 0, 0⟩ else ⟨1, n, T.list n, 0, 0, 0, 0, 0, 0, false, 0, 0⟩
section
variable {w w' : World} {X Y : Nat → Prop} {pa po pt nb : Nat} {o : OS} {T T' : TS} {A A' : AS} {P : List Int} {m : Int} {os : List OS} {B i : Nat} {s : ByteArray}
set_option maxHeartbeats 1000000 in
theorem begin_any (ht : THead w pt pa nb T) (hl : 1 ≤ T.lists ∧ T.lists ≤ 64) (s : ByteArray) (hs : s.size ≤ 9223372036854775807) :
    Calls Try.prog 11 #[.pointer (some ⟨pt, 0, none⟩), .string s] w fun e w' => ∃ po, e = .returned (.pointer (some ⟨po, 0, none⟩)) ∧ w.heap.size ≤ po ∧ OHead w' po pt (OS.begun T s.data.toList) (str (OS.begun T s.data.toList).name) ∧ Below w.heap.size w w' := by
  have e1 : s.data.toList.length = s.size := by rw [Array.length_toList]; rfl
  by_cases h64 : 64 < s.size
  · have hb : OS.begun T s.data.toList = ⟨0, [], 0, 0, 0, 0, 0, 0, 0, false, 0, 0⟩ := by unfold OS.begun; rw [if_pos (by omega)]
    rw [hb]
    clear hb e1 hl ht
    go_enter Try.func11, Try.ntmps11
    go_wp2_with fail
    go_ret
    exact ⟨w.heap.size, rfl, Nat.le_refl _, ⟨Blk.new w _ _⟩, (Below.refl _ _).alloc (Nat.le_refl _) _⟩
  · have hb : OS.begun T s.data.toList = ⟨1, s.data.toList, T.list s.data.toList, 0, 0, 0, 0, 0, 0, false, 0, 0⟩ := by unfold OS.begun; rw [if_neg (by omega)]
    rw [hb]
    have es : str s.data.toList = s := (str_of rfl).symm
    have hc := sclone_any s w (by omega)
    have hli : ∀ w1, Below w.heap.size w w1 → _ := fun w1 b => list_any (w := w1) (pt := pt) T s hl (THead.reads2 (Blk.below ht b ht.lt)) (by omega)
    dsimp only
    rw [es]
    generalize hn : s.data.toList = nm at hli ⊢
    generalize T.list nm = li at hli ⊢
    have HC := Lib.hid hc; clear hc
    have HLI := Lib.hid hli; clear hli
    have HN := Lib.hid hn; clear hn
    clear hb e1 hl ht es
    go_enter Try.func11, Try.ntmps11
    go_wp2_with (first
      | (go_at_call 35; refine HC.out.mono ?_; rintro e w1 ⟨rfl, b1⟩; have z1 := b1.size; have B1 := Lib.hid b1; clear b1)
      | (go_at_call 36; refine (HLI.out _ B1.out).mono ?_; rintro e w2 ⟨rfl, rfl⟩))
    go_ret
    exact ⟨w1.heap.size, rfl, z1, ⟨Blk.new w1 _ _⟩, B1.out.alloc z1 _⟩
theorem Tab.more (h : Tab w X pa pt nb A T) (hb : Below w.heap.size w w') {po : Nat} (h1 : w.heap.size ≤ po) (h2 : po < w'.heap.size) : Tab w' (fun k => X k ∨ k = po) pa pt nb A T := by
  have h' := h.below hb
  refine ⟨(h.arena.less (Y := fun k => X k ∨ k = po) (fun k hk hy => hy.resolve_right (by omega))).below hb, h'.head, h'.names, .inl h.xt, .inl h.xn, fun k hk => ?_, h.lists, h.short⟩
  rintro (hx | rfl)
  · exact h'.fut k hk hx
  · omega
end
end Go.Proofs.Ytebdlggmpojgdaa
