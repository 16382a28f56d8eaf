/-
  The contracts of package cells over the plain state of an arena (YtebdlggmpojgdaaArena): each call answers and changes the state as that state's own functions say. Conditions: the arena stands for a plain state that is right; for Alloc, fewer than 2^62 blocks were made.
-/
import Derived.Test.YtebdlggmpojgdaaArena
import Derived.WalkLawsBesides
import Derived.WalkSpells
import Derived.RegionTactic
import Derived.Deep.QuietTactic
import Derived.BigQuiet
import Derived.Deep.Draws
import Derived.Lib.Hide
namespace Go.Proofs.Ytebdlggmpojgdaa
open Go.RowKit Go.Maps

theorem law3 : Keyed Try.prog 3 := int_keyed Try.underlying3
theorem zero42 (w : World) : (zeroValue 44).run Try.prog w = .ok (.slice none 0 0) w := by kernel_rfl

/-- 'v, ok := m[k]' on the arena's map. -/
theorem wpList_look_slot {w : World} {ops : Array Oper} {rest : List Oper} {o : Oper} {a : Act} {Q : Exit → Act → World → Prop}
    (hg : o.guard = none) (m x : Operand) (hop : o.op = Op.lookup 78 m x true) (b n : Nat) (D : DataW Value)
    (hm : a.eval m = .map (some b)) (hown : w.ownsMap Try.prog 3 slotElem b n D) (k : Int) (hwk : (ik k).wf = true) (hx : a.eval x = .int .i64 k)
    (v : Value) (ok : Bool) (hat : D.atKey (ik k) nilHeld = .held v) (hhas : Maps.has D (ik k) = ok)
    (hK : wpList Try.prog ops Q rest (a.put o.dst (.tuple #[v, .bool ok])) w) :
    wpList Try.prog ops Q (o :: rest) a w :=
  wpList_lookup_own_ok w hg m x 78 hop 3 44 law3 Try.underlying78 slotElem (zero42 w) nilHeld [] rfl b n D hm hown (.int .i64 k) (ik k) hx (keyOf_int_mk Try.underlying3 hwk) (fun u ps hu => by
    unfold slotElem at hu
    rw [hat] at hu
    simp only [Option.some.injEq, Prod.mk.injEq, DataW.held.injEq] at hu
    rw [hu.1, hhas]
    exact hK)

/-- block, where the block is live: its cells; nothing changes. -/
theorem block_hit {w : World} {X : Nat → Prop} {pa bm : Nat} {D : DataW Value} {row : Int → Nat} {S : AS} (h : At w X pa bm D row S) {b : Int} (hwb : (ik b).wf = true) {cs : List Int} (hl : look S.bl b = some cs) :
    Calls Try.prog 81 #[.pointer (some ⟨pa, 0, none⟩), .int .i64 b] w fun e w' => e = .returned (.tuple #[rowOf (row b) cs.length, .int .i64 0]) ∧ w = w' := by
  obtain ⟨hh, hat, _, _⟩ := h.hit b cs hl
  have c4 := h.head.cell 4
  have hown := h.own
  simp at c4
  generalize hv : rowOf (row b) cs.length = v at hat
  have HV := Lib.hid hv; clear hv
  have HAT := Lib.hid hat; clear hat
  have HH := Lib.hid hh; clear hh
  have HW := Lib.hid hwb; clear hwb
  have HL := Lib.hid hl; clear hl
  clear h
  go_enter Try.func81, Try.ntmps81
  go_wp2_with (at_lookup; refine wpList_look_slot rfl _ _ rfl bm _ D rfl hown b HW.out rfl v true HAT.out HH.out ?_)
  go_ret2
  exact ⟨rfl, rfl⟩

/-- .. where it is not: ErrFreed, and one fault more. -/
theorem block_miss {w : World} {X : Nat → Prop} {pa bm : Nat} {D : DataW Value} {row : Int → Nat} {S : AS} (h : At w X pa bm D row S) {b : Int} (hwb : (ik b).wf = true) (hl : look S.bl b = none) :
    Calls Try.prog 81 #[.pointer (some ⟨pa, 0, none⟩), .int .i64 b] w fun e w' => e = .returned (.tuple #[.slice none 0 0, .int .i64 20]) ∧ w.setCell ⟨pa, 3, none⟩ (.int .i64 (wrap64 (S.faults + 1))) = w' := by
  have hh := h.miss b hl
  have hat := atKey_of_not_has hh nilHeld
  have c3 := h.head.cell 3
  have f3 := h.head.frozen 3
  have c4 := h.head.cell 4
  have hown := h.own
  simp at c3 c4
  have HAT := Lib.hid hat; clear hat
  have HH := Lib.hid hh; clear hh
  have HW := Lib.hid hwb; clear hwb
  have HL := Lib.hid hl; clear hl
  clear h
  go_enter Try.func81, Try.ntmps81
  go_wp2_with (at_lookup; refine wpList_look_slot rfl _ _ rfl bm _ D rfl hown b HW.out rfl _ false HAT.out HH.out ?_)
  go_ret2
  exact ⟨rfl, rfl⟩

theorem cell_hit {w : World} {X : Nat → Prop} {pa bm : Nat} {D : DataW Value} {row : Int → Nat} {S : AS} (h : At w X pa bm D row S) {b : Int} (hwb : (ik b).wf = true) {cs : List Int} (hl : look S.bl b = some cs) {i : Nat} (hi : i < cs.length) :
    Calls Try.prog 79 #[.pointer (some ⟨pa, 0, none⟩), .int .i64 b, .int .i64 i] w fun e w' => e = .returned (.tuple #[.pointer (some ⟨row b, i, none⟩), .int .i64 0]) ∧ w = w' := by
  have hsz := (h.ok.size hl).2
  have hc := block_hit h hwb hl
  unfold rowOf at hc
  generalize row b = g at hc ⊢
  have HC := Lib.hid hc; clear hc
  clear h hl hwb
  go_enter Try.func79, Try.ntmps79
  go_wp2_with (go_at_call 81; refine HC.out.mono ?_; rintro e w' ⟨rfl, rfl⟩)
  go_ret2
  exact ⟨rfl, rfl⟩

theorem cell_arg {w : World} {X : Nat → Prop} {pa bm : Nat} {D : DataW Value} {row : Int → Nat} {S : AS} (h : At w X pa bm D row S) {b : Int} (hwb : (ik b).wf = true) {cs : List Int} (hl : look S.bl b = some cs) {i : Int} (hi : i < 0 ∨ (cs.length : Int) ≤ i) :
    Calls Try.prog 79 #[.pointer (some ⟨pa, 0, none⟩), .int .i64 b, .int .i64 i] w fun e w' => e = .returned (.tuple #[.pointer none, .int .i64 1]) ∧ w = w' := by
  have hsz := (h.ok.size hl).2
  have hc := block_hit h hwb hl
  unfold rowOf at hc
  generalize row b = g at hc ⊢
  have HC := Lib.hid hc; clear hc
  clear h hl hwb
  by_cases h0 : i < 0
  all_goals
    go_enter Try.func79, Try.ntmps79
    go_wp2_with (go_at_call 81; refine HC.out.mono ?_; rintro e w' ⟨rfl, rfl⟩)
    go_ret2
    exact ⟨rfl, rfl⟩

theorem cell_miss {w : World} {X : Nat → Prop} {pa bm : Nat} {D : DataW Value} {row : Int → Nat} {S : AS} (h : At w X pa bm D row S) {b : Int} (hwb : (ik b).wf = true) (hl : look S.bl b = none) (i : Int) :
    Calls Try.prog 79 #[.pointer (some ⟨pa, 0, none⟩), .int .i64 b, .int .i64 i] w fun e w' => e = .returned (.tuple #[.pointer none, .int .i64 20]) ∧ w.setCell ⟨pa, 3, none⟩ (.int .i64 (wrap64 (S.faults + 1))) = w' := by
  have hc := block_miss h hwb hl
  have HC := Lib.hid hc; clear hc
  clear h hl hwb
  go_enter Try.func79, Try.ntmps79
  go_wp2_with (go_at_call 81; refine HC.out.mono ?_; rintro e w' ⟨rfl, rfl⟩)
  go_ret2
  exact ⟨rfl, rfl⟩

/-! ### Load -/
theorem load_hit {w : World} {X : Nat → Prop} {pa : Nat} {S : AS} (h : Arena w X pa S) {b : Int} (hwb : (ik b).wf = true) {cs : List Int} (hl : look S.bl b = some cs) {i : Nat} (hi : i < cs.length) :
    Calls Try.prog 76 #[.pointer (some ⟨pa, 0, none⟩), .int .i64 b, .int .i64 i] w fun e w' => e = .returned (.tuple #[.int .i64 (cs.getD i 0), .int .i64 0]) ∧ w = w' := by
  obtain ⟨bm, D, row, h⟩ := h
  have hc := cell_hit h hwb hl hi
  have hx := h.cell hl hi
  generalize cs.getD i 0 = x at hx ⊢
  generalize row b = g at hc hx
  have HC := Lib.hid hc; clear hc
  clear h hl hwb hi
  go_enter Try.func76, Try.ntmps76
  go_wp2_with (go_at_call 79; refine HC.out.mono ?_; rintro e w' ⟨rfl, rfl⟩)
  go_ret2
  exact ⟨rfl, rfl⟩
theorem load_arg {w : World} {X : Nat → Prop} {pa : Nat} {S : AS} (h : Arena w X pa S) {b : Int} (hwb : (ik b).wf = true) {cs : List Int} (hl : look S.bl b = some cs) {i : Int} (hi : i < 0 ∨ (cs.length : Int) ≤ i) :
    Calls Try.prog 76 #[.pointer (some ⟨pa, 0, none⟩), .int .i64 b, .int .i64 i] w fun e w' => e = .returned (.tuple #[.int .i64 0, .int .i64 1]) ∧ w = w' := by
  obtain ⟨bm, D, row, h⟩ := h
  have hc := cell_arg h hwb hl hi
  have HC := Lib.hid hc; clear hc
  clear h hl hwb hi
  go_enter Try.func76, Try.ntmps76
  go_wp2_with (go_at_call 79; refine HC.out.mono ?_; rintro e w' ⟨rfl, rfl⟩)
  go_ret2
  exact ⟨rfl, rfl⟩
theorem load_miss {w : World} {X : Nat → Prop} {pa : Nat} {S : AS} (h : Arena w X pa S) {b : Int} (hwb : (ik b).wf = true) (hl : look S.bl b = none) (i : Int) :
    Calls Try.prog 76 #[.pointer (some ⟨pa, 0, none⟩), .int .i64 b, .int .i64 i] w fun e w' => e = .returned (.tuple #[.int .i64 0, .int .i64 20]) ∧ Arena w' X pa S.fault ∧ Keep X w w' := by
  obtain ⟨bm, D, row, h⟩ := h
  have hc := cell_miss h hwb hl i
  have hf : Arena _ X pa S.fault := ⟨bm, D, row, h.fault⟩
  have hk := h.setK 3 (.int .i64 (wrap64 (S.faults + 1)))
  have HC := Lib.hid hc; clear hc
  have HF := Lib.hid hf; clear hf
  have HK := Lib.hid hk; clear hk
  clear h hl hwb
  go_enter Try.func76, Try.ntmps76
  go_wp2_with (go_at_call 79; refine HC.out.mono ?_; rintro e w' ⟨rfl, rfl⟩)
  go_ret2
  exact ⟨rfl, HF.out, HK.out⟩
theorem load_any {w : World} {X : Nat → Prop} {pa : Nat} {S : AS} (h : Arena w X pa S) {b : Int} (hwb : (ik b).wf = true) (i : Int) :
    Calls Try.prog 76 #[.pointer (some ⟨pa, 0, none⟩), .int .i64 b, .int .i64 i] w fun e w' => e = .returned (.tuple #[.int .i64 (S.val b i), .int .i64 (S.err b i)]) ∧ Arena w' X pa (S.touch b) ∧ Keep X w w' := by
  unfold AS.val AS.err AS.touch
  cases hl : look S.bl b with
  | none => exact load_miss h hwb hl i
  | some cs =>
    by_cases hi : 0 ≤ i ∧ i < cs.length
    · obtain ⟨n, rfl⟩ := Int.eq_ofNat_of_zero_le hi.1
      refine (load_hit h hwb hl (i := n) (by omega)).mono ?_
      rintro e w' ⟨rfl, rfl⟩
      exact ⟨by simp only [if_pos hi, Int.toNat_natCast], h, Keep.refl _ _⟩
    · refine (load_arg h hwb hl (by omega)).mono ?_
      rintro e w' ⟨rfl, rfl⟩
      exact ⟨by simp only [if_neg hi], h, Keep.refl _ _⟩

/-! ### Store -/
theorem store_any {w : World} {X : Nat → Prop} {pa : Nat} {S : AS} (h : Arena w X pa S) {b : Int} (hwb : (ik b).wf = true) (i v : Int) :
    Calls Try.prog 45 #[.pointer (some ⟨pa, 0, none⟩), .int .i64 b, .int .i64 i, .int .i64 v] w fun e w' => e = .returned (.int .i64 (S.err b i)) ∧ Arena w' X pa (S.storeAt b i v) ∧ Keep X w w' := by
  obtain ⟨bm, D, row, h⟩ := h
  unfold AS.err AS.storeAt
  cases hl : look S.bl b with
  | none =>
    have hc := cell_miss h hwb hl i
    have hf : Arena _ X pa S.fault := ⟨bm, D, row, h.fault⟩
    have hk := h.setK 3 (.int .i64 (wrap64 (S.faults + 1)))
    have HC := Lib.hid hc; clear hc
    have HF := Lib.hid hf; clear hf
    have HK := Lib.hid hk; clear hk
    clear h hl hwb
    go_enter Try.func45, Try.ntmps45
    go_wp2_with (go_at_call 79; refine HC.out.mono ?_; rintro e w' ⟨rfl, rfl⟩)
    go_ret
    exact ⟨rfl, HF.out, HK.out⟩
  | some cs =>
    by_cases hi : 0 ≤ i ∧ i < cs.length
    · obtain ⟨n, rfl⟩ := Int.eq_ofNat_of_zero_le hi.1
      simp only [if_pos hi, Int.toNat_natCast]
      have hc := cell_hit h hwb hl (i := n) (by omega)
      have hx := h.cell hl (i := n) (by omega)
      have hz := h.thaw hl n
      have hf : Arena _ X pa (S.set b (cs.set n v)) := ⟨bm, D, row, h.rowSet hl v⟩
      have hk := h.rowK hl n (.int .i64 v)
      generalize row b = g at hc hx hz hf hk
      have HC := Lib.hid hc; clear hc
      have HF := Lib.hid hf; clear hf
      have HK := Lib.hid hk; clear hk
      clear h hl hwb hi
      go_enter Try.func45, Try.ntmps45
      go_wp2_with (go_at_call 79; refine HC.out.mono ?_; rintro e w' ⟨rfl, rfl⟩)
      go_ret
      exact ⟨rfl, HF.out, HK.out⟩
    · simp only [if_neg hi]
      have hc := cell_arg h hwb hl (i := i) (by omega)
      have hf : Arena _ X pa S := ⟨bm, D, row, h⟩
      have HC := Lib.hid hc; clear hc
      have HF := Lib.hid hf; clear hf
      clear h hl hwb hi
      go_enter Try.func45, Try.ntmps45
      go_wp2_with (go_at_call 79; refine HC.out.mono ?_; rintro e w' ⟨rfl, rfl⟩)
      go_ret
      exact ⟨rfl, HF.out, Keep.refl _ _⟩

/-! ### Swap -/
theorem swap_any {w : World} {X : Nat → Prop} {pa : Nat} {S : AS} (h : Arena w X pa S) {b : Int} (hwb : (ik b).wf = true) (i o v : Int) :
    Calls Try.prog 77 #[.pointer (some ⟨pa, 0, none⟩), .int .i64 b, .int .i64 i, .int .i64 o, .int .i64 v] w fun e w' => e = .returned (.tuple #[.bool (S.swapOk b i o), .int .i64 (S.err b i)]) ∧ Arena w' X pa (S.swapAt b i o v) ∧ Keep X w w' := by
  obtain ⟨bm, D, row, h⟩ := h
  unfold AS.err AS.swapAt AS.swapOk
  cases hl : look S.bl b with
  | none =>
    have hc := cell_miss h hwb hl i
    have hf : Arena _ X pa S.fault := ⟨bm, D, row, h.fault⟩
    have hk := h.setK 3 (.int .i64 (wrap64 (S.faults + 1)))
    have HC := Lib.hid hc; clear hc
    have HF := Lib.hid hf; clear hf
    have HK := Lib.hid hk; clear hk
    clear h hl hwb
    go_enter Try.func77, Try.ntmps77
    go_wp2_with (go_at_call 79; refine HC.out.mono ?_; rintro e w' ⟨rfl, rfl⟩)
    go_ret2
    exact ⟨rfl, HF.out, HK.out⟩
  | some cs =>
    by_cases hi : 0 ≤ i ∧ i < cs.length
    · obtain ⟨n, rfl⟩ := Int.eq_ofNat_of_zero_le hi.1
      have hc := cell_hit h hwb hl (i := n) (by omega)
      have hx := h.cell hl (i := n) (by omega)
      have hz := h.thaw hl n
      have hn : n < cs.length := by omega
      simp only [if_pos hi, Int.toNat_natCast]
      by_cases ho : cs.getD n 0 = o
      · have hd : decide (0 ≤ (n : Int) ∧ (n : Int) < cs.length ∧ cs.getD n 0 = o) = true := decide_eq_true ⟨hi.1, hi.2, ho⟩
        rw [hd, if_pos ⟨hi.1, hi.2, ho⟩]
        have hf : Arena _ X pa (S.set b (cs.set n v)) := ⟨bm, D, row, h.rowSet hl v⟩
        have hk := h.rowK hl n (.int .i64 v)
        clear hd
        rw [ho] at hx
        generalize row b = g at hc hx hz hf hk
        have HC := Lib.hid hc; clear hc
        have HF := Lib.hid hf; clear hf
        have HK := Lib.hid hk; clear hk
        clear h hl hwb hi ho
        go_enter Try.func77, Try.ntmps77
        go_wp2_with (go_at_call 79; refine HC.out.mono ?_; rintro e w' ⟨rfl, rfl⟩)
        go_ret2
        exact ⟨rfl, HF.out, HK.out⟩
      · have hd : decide (0 ≤ (n : Int) ∧ (n : Int) < cs.length ∧ cs.getD n 0 = o) = false := decide_eq_false (fun hh => ho hh.2.2)
        rw [hd, if_neg (fun hh => ho hh.2.2)]
        have hf : Arena _ X pa S := ⟨bm, D, row, h⟩
        clear hd
        generalize cs.getD n 0 = x at hx ho
        have hne : (x == o) = false := by simpa using ho
        generalize row b = g at hc hx hz
        have HC := Lib.hid hc; clear hc
        have HF := Lib.hid hf; clear hf
        clear h hl hwb hi ho
        go_enter Try.func77, Try.ntmps77
        go_wp2_with (go_at_call 79; refine HC.out.mono ?_; rintro e w' ⟨rfl, rfl⟩)
        go_ret2
        exact ⟨rfl, HF.out, Keep.refl _ _⟩
    · have hd : ∀ p : Prop, ¬ (0 ≤ i ∧ i < (cs.length : Int) ∧ p) := fun p hh => hi ⟨hh.1, hh.2.1⟩
      simp only [if_neg hi, decide_eq_false (hd _), if_neg (hd _)]
      have hc := cell_arg h hwb hl (i := i) (by omega)
      have hf : Arena _ X pa S := ⟨bm, D, row, h⟩
      have HC := Lib.hid hc; clear hc
      have HF := Lib.hid hf; clear hf
      clear h hl hwb hi hd
      go_enter Try.func77, Try.ntmps77
      go_wp2_with (go_at_call 79; refine HC.out.mono ?_; rintro e w' ⟨rfl, rfl⟩)
      go_ret2
      exact ⟨rfl, HF.out, Keep.refl _ _⟩

/-! ### Size -/
theorem size_any {w : World} {X : Nat → Prop} {pa : Nat} {S : AS} (h : Arena w X pa S) {b : Int} (hwb : (ik b).wf = true) :
    Calls Try.prog 69 #[.pointer (some ⟨pa, 0, none⟩), .int .i64 b] w fun e w' => e = .returned (.tuple #[.int .i64 (S.sizeAt b), .int .i64 (S.err0 b)]) ∧ Arena w' X pa (S.touch b) ∧ Keep X w w' := by
  obtain ⟨bm, D, row, h⟩ := h
  unfold AS.sizeAt AS.err0 AS.touch
  cases hl : look S.bl b with
  | none =>
    have hc := block_miss h hwb hl
    have hf : Arena _ X pa S.fault := ⟨bm, D, row, h.fault⟩
    have hk := h.setK 3 (.int .i64 (wrap64 (S.faults + 1)))
    have HC := Lib.hid hc; clear hc
    have HF := Lib.hid hf; clear hf
    have HK := Lib.hid hk; clear hk
    clear h hl hwb
    go_enter Try.func69, Try.ntmps69
    go_wp2_with (go_at_call 81; refine HC.out.mono ?_; rintro e w' ⟨rfl, rfl⟩)
    go_ret2
    exact ⟨rfl, HF.out, HK.out⟩
  | some cs =>
    have hc := block_hit h hwb hl
    unfold rowOf at hc
    have hf : Arena _ X pa S := ⟨bm, D, row, h⟩
    generalize row b = g at hc
    have HC := Lib.hid hc; clear hc
    have HF := Lib.hid hf; clear hf
    clear h hl hwb
    go_enter Try.func69, Try.ntmps69
    go_wp2_with (go_at_call 81; refine HC.out.mono ?_; rintro e w' ⟨rfl, rfl⟩)
    go_ret2
    exact ⟨rfl, HF.out, Keep.refl _ _⟩

/-! ### Faults -/
theorem faults_any {w : World} {X : Nat → Prop} {pa : Nat} {S : AS} (h : Arena w X pa S) :
    Calls Try.prog 19 #[.pointer (some ⟨pa, 0, none⟩)] w fun e w' => e = .returned (.int .i64 S.faults) ∧ w = w' := by
  obtain ⟨bm, D, row, h⟩ := h
  have c2 := h.head.cell 3
  simp at c2
  clear h
  go_enter Try.func19, Try.ntmps19
  go_wp2
  go_ret
  exact ⟨rfl, rfl⟩

end Go.Proofs.Ytebdlggmpojgdaa
