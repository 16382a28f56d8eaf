/-
  The contracts of package epoch's Sweep, up to the search for the first block that goes: the function literal that frees a block that nobody holds. Conditions: the yard and its arena stand for plain states.
-/
import Derived.Test.YtiiaajdkkofbjaaYheld
namespace Go.Proofs.Ytiiaajdkkofbjaa
open Go.RowKit Go.Maps

/-- One more is counted, if the block was live. -/
def inc (S : AS) (b : Int) : Int := if S.err0 b = 0 then 1 else 0
theorem inc_le (S : AS) (b : Int) : 0 ≤ inc S b ∧ inc S b ≤ 1 := by unfold inc; split <;> omega
/-- What one block that waits does to the arena, and to the count. -/
def stp (ent : List Int) (p : AS × Int) (r : Wt) : AS × Int :=
  if held ent r.whn = true then p else (p.1.freeAt r.block, p.2 + inc p.1 r.block)
def swp (ent : List Int) (S : AS) (l : List Wt) : AS × Int := l.foldl (stp ent) (S, 0)
theorem swp_succ (ent : List Int) (S : AS) (l : List Wt) (k : Nat) (hk : k < l.length) : swp ent S (l.take (k + 1)) = stp ent (swp ent S (l.take k)) l[k] := by
  unfold swp
  rw [List.take_succ_eq_append_getElem hk, List.foldl_append]
  rfl
theorem stp_snd (ent : List Int) (p : AS × Int) (r : Wt) : p.2 ≤ (stp ent p r).2 ∧ (stp ent p r).2 ≤ p.2 + 1 := by
  unfold stp
  split
  · exact ⟨Int.le_refl _, by omega⟩
  · have := inc_le p.1 r.block; dsimp only; omega
theorem swp_le (ent : List Int) (S : AS) (l : List Wt) (k : Nat) : 0 ≤ (swp ent S (l.take k)).2 ∧ (swp ent S (l.take k)).2 ≤ k := by
  induction k with
  | zero => simp [swp]
  | succ k ih =>
    by_cases hk : k < l.length
    · have := stp_snd ent (swp ent S (l.take k)) l[k]
      rw [swp_succ _ _ _ _ hk]
      omega
    · rw [List.take_of_length_le (by omega)]
      rw [List.take_of_length_le (by omega)] at ih
      omega

theorem Keep.ofBelow' {X : Nat → Prop} {w w' : World} (h : Below w.heap.size w w') : Keep X w w' := ⟨h.os, h.tape, h.output, h.size, fun k hk _ => h.block k hk⟩
/-- The literal's captured variables, and what it reads: the yard's head, the arena. Z: what the arena keeps off. -/
structure Swst (w : World) (Z : Nat → Prop) (pa py By Bf : Nat) (v : Value) (Y : YS) (S : AS) (n : Int) : Prop where
  ar : Arena w Z pa S
  head : Blk w py 89 (yc pa Y v)
  by_ : Blk w By 45 #[.pointer (some ⟨py, 0, none⟩)]
  bf : Blk w Bf 3 #[.int .i64 n]
  zy : Z py
  zb : Z By
  zf : Z Bf

section
variable {w w' : World} {Z : Nat → Prop} {pa py By Bf : Nat} {v : Value} {Y : YS} {S : AS} {n : Int}
theorem Swst.below (h : Swst w Z pa py By Bf v Y S n) (hb : Below w.heap.size w w') : Swst w' Z pa py By Bf v Y S n :=
  ⟨h.ar.below hb, h.head.below hb h.head.lt, h.by_.below hb h.by_.lt, h.bf.below hb h.bf.lt, h.zy, h.zb, h.zf⟩
theorem Swst.ne1 (h : Swst w Z pa py By Bf v Y S n) : py ≠ By ∧ py ≠ Bf ∧ By ≠ Bf := ⟨h.head.ne_ h.by_ (by decide), h.head.ne_ h.bf (by decide), h.by_.ne_ h.bf (by decide)⟩
theorem Swst.setK (h : Swst w Z pa py By Bf v Y S n) {p : Addr} (hp : Z p.block) (h1 : p.block ≠ py) (h2 : p.block ≠ By) (h3 : p.block ≠ Bf) (u : Value) : Swst (w.setCell p u) Z pa py By Bf v Y S n :=
  ⟨h.ar.setCell hp u, h.head.far (Ne.symm h1) u, h.by_.far (Ne.symm h2) u, h.bf.far (Ne.symm h3) u, h.zy, h.zb, h.zf⟩
theorem Swst.freed (h : Swst w Z pa py By Bf v Y S n) {S' : AS} (ha : Arena w' Z pa S') (hk : Keep Z w w') : Swst w' Z pa py By Bf v Y S' n :=
  ⟨ha, h.head.keep hk h.zy, h.by_.keep hk h.zb, h.bf.keep hk h.zf, h.zy, h.zb, h.zf⟩
theorem Swst.count (h : Swst w Z pa py By Bf v Y S n) (m : Int) : Swst (w.setCell ⟨Bf, 0, none⟩ (.int .i64 m)) Z pa py By Bf v Y S m :=
  ⟨h.ar.setCell h.zf _, h.head.far h.ne1.2.1 _, h.by_.far h.ne1.2.2 _, by have := h.bf.set_ 0 (.int .i64 m); simpa using this, h.zy, h.zb, h.zf⟩
end

theorem isHeld_head {w : World} {pa py : Nat} {v : Value} {Y : YS} (h : Blk w py 89 (yc pa Y v)) (x0 x1 whn : Int) :
    Calls Try.prog 67 #[.pointer (some ⟨py, 0, none⟩), .agg #[.int .i64 x0, .int .i64 x1, .int .i64 whn]] w fun en w' => en = .returned (.bool (held Y.ent whn)) ∧ Below w.heap.size w w' := by
  have h1 := h.alloc (Obj.cells #[Value.int .i64 x0, Value.int .i64 x1, Value.int .i64 whn] 103)
  have hc := hasInt_any (py := py) Y.ent whn _ _ (Blk.new w 103 #[Value.int .i64 x0, Value.int .i64 x1, Value.int .i64 whn]) (fun k hk => by rw [h1.cell, yc_ent _ _ _ _ hk])
  clear h h1
  have HC := Lib.hid hc; clear hc
  go_enter Try.func67, Try.ntmps67
  go_wp2_with fail
  refine HC.out.mono ?_
  rintro e w' ⟨rfl, rfl⟩
  go_wp2
  go_ret
  exact ⟨rfl, (Below.refl _ _).alloc (Nat.le_refl _) _⟩

/-- What the walk of the literal leaves: the state one block further; of Z nothing but the count. -/
def After (w : World) (Z : Nat → Prop) (pa py By Bf : Nat) (v : Value) (Y : YS) (p : AS × Int) (w' : World) : Prop :=
  Swst w' Z pa py By Bf v Y p.1 p.2 ∧ Keep (fun k => Z k ∧ k ≠ Bf) w w'

theorem lit_held {w : World} {Z : Nat → Prop} {pa py By Bf : Nat} {v : Value} {Y : YS} {S : AS} {n : Int} (h : Swst w Z pa py By Bf v Y S n) (x0 x1 whn : Int) (hh : held Y.ent whn = true) :
    Calls Try.prog 66 #[.agg #[.int .i64 x0, .int .i64 x1, .int .i64 whn], .pointer (some ⟨By, 0, none⟩), .pointer (some ⟨Bf, 0, none⟩)] w fun en w' => en = .returned (.bool false) ∧ Below w.heap.size w w' := by
  have hb0 : Below w.heap.size w (w.alloc (Obj.cells #[Value.int .i64 x0, Value.int .i64 x1, Value.int .i64 whn] 103)) := (Below.refl _ _).alloc (Nat.le_refl _) _
  have hc := isHeld_head (h.below hb0).head x0 x1 whn
  rw [hh] at hc
  have cy := h.by_.cell 0
  have hby := h.by_.lt
  simp at cy
  have HC := Lib.hid hc; clear hc
  have HB := Lib.hid hb0; clear hb0
  clear h hh
  go_enter Try.func66, Try.ntmps66
  go_wp2_with fail
  refine HC.out.mono ?_
  rintro e w1 ⟨rfl, hb1⟩
  have HB1 := Lib.hid hb1; clear hb1
  go_wp2
  go_ret
  exact ⟨rfl, HB.out.trans (HB1.out.mono HB.out.size)⟩

set_option maxHeartbeats 2000000 in
theorem lit_free {w : World} {Z : Nat → Prop} {pa py By Bf : Nat} {v : Value} {Y : YS} {S : AS} {n : Int} (h : Swst w Z pa py By Bf v Y S n) (x0 x1 whn : Int) (hwb : (ik x0).wf = true) (hh : held Y.ent whn = false) (hn : 0 ≤ n ∧ n < 1000000000) :
    Calls Try.prog 66 #[.agg #[.int .i64 x0, .int .i64 x1, .int .i64 whn], .pointer (some ⟨By, 0, none⟩), .pointer (some ⟨Bf, 0, none⟩)] w fun en w' => en = .returned (.bool true) ∧ After w Z pa py By Bf v Y (S.freeAt x0, n + inc S x0) w' := by
  have hb0 : Below w.heap.size w (w.alloc (Obj.cells #[Value.int .i64 x0, Value.int .i64 x1, Value.int .i64 whn] 103)) := (Below.refl _ _).alloc (Nat.le_refl _) _
  have hc := isHeld_head (h.below hb0).head x0 x1 whn
  rw [hh] at hc
  have cy := h.by_.cell 0
  have hby := h.by_.lt
  simp at cy
  have hR0 := Blk.new w 103 #[Value.int .i64 x0, Value.int .i64 x1, Value.int .i64 whn]
  have HC := Lib.hid hc; clear hc
  have HB := Lib.hid hb0; clear hb0
  have HH := Lib.hid h; clear h
  clear hh
  have HW := Lib.hid hwb; clear hwb
  go_enter Try.func66, Try.ntmps66
  go_wp2_with fail
  refine HC.out.mono ?_
  rintro e w1 ⟨rfl, hb1⟩
  have hb01 : Below w.heap.size w w1 := HB.out.trans (hb1.mono HB.out.size)
  have hR1 := hR0.below hb1 (by simp)
  have h1 := HH.out.below hb01
  have cb := h1.by_.cell 0
  have cf := h1.bf.cell 0
  have ff := h1.bf.frozen 0
  have ch := h1.head.cell 0
  have cr := hR1.cell 0
  have hcf := free_any h1.ar.drew HW.out
  have hne := h1.ne1
  simp [yc] at cb cf ch cr
  clear cy hby
  have HF := Lib.hid hcf; clear hcf
  have H1 := Lib.hid h1; clear h1
  have HB1 := Lib.hid hb01; clear hb01
  clear hb1 hR0 hR1
  have hcase : S.err0 x0 = 0 ∨ S.err0 x0 = 20 := by unfold AS.err0; split <;> simp
  rcases hcase with he | he
  · rw [he] at HF
    have HE := Lib.hid he; clear he
    go_wp2
    go_region_with (go_at_call 36; refine HF.out.mono ?_; rintro e w2 ⟨rfl, ha, hk⟩)
    all_goals
      have h2 := (H1.out.below (Below.refl _ _).drew).freed ha hk
      have c2 := h2.bf.cell 0
      have f2 := h2.bf.frozen 0
      simp at c2
      have HK2 := Lib.hid ((Keep.ofBelow' (X := fun k => Z k ∧ k ≠ Bf) HB1.out).trans ((Keep.refl _ w1).drew.trans (hk.less (fun _ hk => hk.1))))
      have hfin := h2.count (n + 1)
      have hi : inc S x0 = 1 := by unfold inc; rw [HE.out]; rfl
      rw [← hi] at hfin
      have HI := Lib.hid hi; clear hi
      have HFIN := Lib.hid hfin; clear hfin
      clear h2 ha hk
      go_wp2
      go_ret
      refine ⟨rfl, ?_, HK2.out.setCell (fun hh => hh.2 rfl) _⟩
      have := HFIN.out
      rw [HI.out] at this ⊢
      exact this
  · rw [he] at HF
    have HE := Lib.hid he; clear he
    go_wp2
    go_region_with (go_at_call 36; refine HF.out.mono ?_; rintro e w2 ⟨rfl, ha, hk⟩)
    all_goals
      have h2 := (H1.out.below (Below.refl _ _).drew).freed ha hk
      have HFIN := Lib.hid h2; clear h2
      have HK2 := Lib.hid ((Keep.ofBelow' (X := fun k => Z k ∧ k ≠ Bf) HB1.out).trans ((Keep.refl _ w1).drew.trans (hk.less (fun _ hk => hk.1))))
      clear ha hk
      go_wp2
      go_ret
      refine ⟨rfl, ?_, HK2.out⟩
      have hi : inc S x0 = 0 := by unfold inc; rw [HE.out]; rfl
      rw [hi, Int.add_zero]
      exact HFIN.out
end Go.Proofs.Ytiiaajdkkofbjaa
