/-
  The contracts of package epoch over the plain state of a yard: isThread, tick, Enter, Leave, Limbo. Conditions: the yard stands for a plain state; for Enter, fewer than 2^62 moments have gone.
-/
import Derived.Test.YtiiaajdkkofbjaaYard
import Derived.Deep.RegionWith
import Derived.BigRegion
import Derived.BigQuiet
import Derived.Outline
namespace Go.Proofs.Ytiiaajdkkofbjaa
open Go.RowKit Go.Maps

def YS.isT (Y : YS) (t : Int) : Bool := decide (1 ≤ t ∧ t ≤ Y.threads)
def YS.tick (Y : YS) : YS := { Y with now := Y.now + 1 }

theorem isT_yes {w : World} {X : Nat → Prop} {pa py : Nat} {v : Value} {Y : YS} {S : AS} (h : YAt w X pa py v Y S) {t : Int} (h1 : 1 ≤ t) (h2 : t ≤ Y.threads) :
    Calls Try.prog 60 #[.pointer (some ⟨py, 0, none⟩), .int .i64 t] w fun e w' => e = .returned (.bool true) ∧ w = w' := by
  obtain ⟨_, c1, _⟩ := h.cells
  clear h
  go_enter Try.func60, Try.ntmps60
  go_wp2
  go_ret
  exact ⟨rfl, rfl⟩
theorem isT_no {w : World} {X : Nat → Prop} {pa py : Nat} {v : Value} {Y : YS} {S : AS} (h : YAt w X pa py v Y S) {t : Int} (hn : ¬ (1 ≤ t ∧ t ≤ Y.threads)) :
    Calls Try.prog 60 #[.pointer (some ⟨py, 0, none⟩), .int .i64 t] w fun e w' => e = .returned (.bool false) ∧ w = w' := by
  obtain ⟨_, c1, _⟩ := h.cells
  clear h
  by_cases h1 : 1 ≤ t
  · have h2 : ¬ t ≤ Y.threads := by omega
    clear hn
    go_enter Try.func60, Try.ntmps60
    go_wp2
    go_ret
    exact ⟨rfl, rfl⟩
  · clear hn
    go_enter Try.func60, Try.ntmps60
    go_wp2
    go_ret
    exact ⟨rfl, rfl⟩
theorem isT_any {w : World} {X : Nat → Prop} {pa py : Nat} {v : Value} {Y : YS} {S : AS} (h : YAt w X pa py v Y S) (t : Int) :
    Calls Try.prog 60 #[.pointer (some ⟨py, 0, none⟩), .int .i64 t] w fun e w' => e = .returned (.bool (Y.isT t)) ∧ w = w' := by
  unfold YS.isT
  by_cases hn : 1 ≤ t ∧ t ≤ Y.threads
  · rw [decide_eq_true hn]; exact isT_yes h hn.1 hn.2
  · rw [decide_eq_false hn]; exact isT_no h hn

theorem tick_any {w : World} {X : Nat → Prop} {pa py : Nat} {v : Value} {Y : YS} {S : AS} (h : YAt w X pa py v Y S) (hn : Y.now < 4611686018427387904) :
    Calls Try.prog 61 #[.pointer (some ⟨py, 0, none⟩)] w fun e w' => e = .returned (.int .i64 (Y.now + 1)) ∧ w.setCell ⟨py, 3, none⟩ (.int .i64 (Y.now + 1)) = w' := by
  obtain ⟨_, _, _, c3, _, hf⟩ := h.cells
  have f3 := hf 3
  have h0 := h.ok.now0
  clear hf h
  go_enter Try.func61, Try.ntmps61
  go_wp2
  go_ret
  exact ⟨rfl, rfl⟩

def YS.at_ (Y : YS) (t : Int) : Int := Y.ent.getD t.toNat 0
def YS.enterErr (Y : YS) (t : Int) : Int := if 1 ≤ t ∧ t ≤ Y.threads then (if Y.at_ t = 0 then 0 else 40) else 1
def YS.enterAt (Y : YS) (t : Int) : YS := if Y.enterErr t = 0 then { Y with now := Y.now + 1, ent := Y.ent.set t.toNat (Y.now + 1) } else Y
def YS.leaveErr (Y : YS) (t : Int) : Int := if 1 ≤ t ∧ t ≤ Y.threads then (if Y.at_ t = 0 then 41 else 0) else 1
def YS.leaveAt (Y : YS) (t : Int) : YS := if Y.leaveErr t = 0 then { Y with ent := Y.ent.set t.toNat 0 } else Y

theorem enter_go {w : World} {X : Nat → Prop} {pa py : Nat} {v : Value} {Y : YS} {S : AS} (h : YAt w X pa py v Y S) (hn : Y.now < 4611686018427387904) {t : Nat} (h1 : 1 ≤ t) (h2 : (t : Int) ≤ Y.threads) (he : Y.ent.getD t 0 = 0) :
    Calls Try.prog 26 #[.pointer (some ⟨py, 0, none⟩), .int .i64 t] w fun e w' => e = .returned (.int .i64 0) ∧ YAt w' X pa py v { Y with now := Y.now + 1, ent := Y.ent.set t (Y.now + 1) } S ∧ Keep X w w' := by
  have hth := h.ok.th8
  have hn0 := h.ok.now0
  have h9 : t < 9 := by omega
  have ce := h.entry h9
  rw [he] at ce
  have hi := isT_yes h (t := t) (by omega) h2
  have hf4 := h.cells.2.2.2.2.2 (4 + t)
  have ht := tick_any h.drew hn
  have hfin : YAt ((w.drew.setCell ⟨py, 3, none⟩ (.int .i64 (Y.now + 1))).setCell ⟨py, 4 + t, none⟩ (.int .i64 (Y.now + 1))) X pa py v { Y with now := Y.now + 1, ent := Y.ent.set t (Y.now + 1) } S :=
    (h.drew.tickSet (Y.now + 1) (by omega)).entSet h9 (Y.now + 1)
  have hk : Keep X w ((w.drew.setCell ⟨py, 3, none⟩ (.int .i64 (Y.now + 1))).setCell ⟨py, 4 + t, none⟩ (.int .i64 (Y.now + 1))) := ((Keep.refl X w).drew.setCell h.nX _).setCell h.nX _
  have HI := Lib.hid hi; clear hi
  have HT := Lib.hid ht; clear ht
  have HF := Lib.hid hfin; clear hfin
  have HK := Lib.hid hk; clear hk
  clear h
  have HE := Lib.hid he; clear he
  have f5 : (w.drew.setCell ⟨py, 3, none⟩ (.int .i64 (Y.now + 1))).frozen? ⟨py, 4 + t, none⟩ = false := by
    rw [World.frozen?_setCell]; exact hf4
  go_enter Try.func26, Try.ntmps26
  go_wp2_with (go_at_call 60; refine HI.out.mono ?_; rintro e w' ⟨rfl, rfl⟩)
  go_region_with (go_at_call 61; refine HT.out.mono ?_; rintro e w' ⟨rfl, rfl⟩)
  all_goals
    go_wp2
    go_ret
    exact ⟨rfl, HF.out, HK.out⟩
theorem enter_in {w : World} {X : Nat → Prop} {pa py : Nat} {v : Value} {Y : YS} {S : AS} (h : YAt w X pa py v Y S) {t : Nat} (h1 : 1 ≤ t) (h2 : (t : Int) ≤ Y.threads) (he : Y.ent.getD t 0 ≠ 0) :
    Calls Try.prog 26 #[.pointer (some ⟨py, 0, none⟩), .int .i64 t] w fun e w' => e = .returned (.int .i64 40) ∧ w = w' := by
  have hth := h.ok.th8
  have h9 : t < 9 := by omega
  have ce := h.entry h9
  have hi := isT_yes h (t := t) (by omega) h2
  have HI := Lib.hid hi; clear hi
  clear h
  generalize Y.ent.getD t 0 = x at ce he
  have hne : (x == 0) = false := by simpa using he
  go_enter Try.func26, Try.ntmps26
  go_wp2_with (go_at_call 60; refine HI.out.mono ?_; rintro e w' ⟨rfl, rfl⟩)
  go_ret
  exact ⟨rfl, rfl⟩
theorem enter_bad {w : World} {X : Nat → Prop} {pa py : Nat} {v : Value} {Y : YS} {S : AS} (h : YAt w X pa py v Y S) {t : Int} (hb : ¬ (1 ≤ t ∧ t ≤ Y.threads)) :
    Calls Try.prog 26 #[.pointer (some ⟨py, 0, none⟩), .int .i64 t] w fun e w' => e = .returned (.int .i64 1) ∧ w = w' := by
  have hi := isT_no h hb
  have HI := Lib.hid hi; clear hi
  clear h hb
  go_enter Try.func26, Try.ntmps26
  go_wp2_with (go_at_call 60; refine HI.out.mono ?_; rintro e w' ⟨rfl, rfl⟩)
  go_ret
  exact ⟨rfl, rfl⟩
theorem enter_any {w : World} {X : Nat → Prop} {pa py : Nat} {Y : YS} {S : AS} (h : Yd w X pa py Y S) (hn : Y.now < 4611686018427387904) (t : Int) :
    Calls Try.prog 26 #[.pointer (some ⟨py, 0, none⟩), .int .i64 t] w fun e w' => e = .returned (.int .i64 (Y.enterErr t)) ∧ Yd w' X pa py (Y.enterAt t) S ∧ Keep X w w' := by
  obtain ⟨v, h⟩ := h
  unfold YS.enterAt
  by_cases hb : 1 ≤ t ∧ t ≤ Y.threads
  · obtain ⟨n, rfl⟩ := Int.eq_ofNat_of_zero_le (a := t) (by omega)
    by_cases he : Y.ent.getD n 0 = 0
    · have hr : Y.enterErr n = 0 := by unfold YS.enterErr YS.at_; rw [if_pos hb, Int.toNat_natCast, if_pos he]
      rw [hr]
      refine (enter_go h hn (by omega) hb.2 he).mono ?_
      rintro e w' ⟨rfl, ha, hk⟩
      exact ⟨rfl, ⟨v, by simpa using ha⟩, hk⟩
    · have hr : Y.enterErr n = 40 := by unfold YS.enterErr YS.at_; rw [if_pos hb, Int.toNat_natCast, if_neg he]
      rw [hr]
      refine (enter_in h (by omega) hb.2 he).mono ?_
      rintro e w' ⟨rfl, rfl⟩
      exact ⟨rfl, ⟨v, h⟩, Keep.refl _ _⟩
  · have hr : Y.enterErr t = 1 := by unfold YS.enterErr; rw [if_neg hb]
    rw [hr]
    refine (enter_bad h hb).mono ?_
    rintro e w' ⟨rfl, rfl⟩
    exact ⟨rfl, ⟨v, h⟩, Keep.refl _ _⟩

theorem leave_any {w : World} {X : Nat → Prop} {pa py : Nat} {Y : YS} {S : AS} (h : Yd w X pa py Y S) (t : Int) :
    Calls Try.prog 32 #[.pointer (some ⟨py, 0, none⟩), .int .i64 t] w fun e w' => e = .returned (.int .i64 (Y.leaveErr t)) ∧ Yd w' X pa py (Y.leaveAt t) S ∧ Keep X w w' := by
  obtain ⟨v, h⟩ := h
  unfold YS.leaveAt
  by_cases hb : 1 ≤ t ∧ t ≤ Y.threads
  · obtain ⟨n, rfl⟩ := Int.eq_ofNat_of_zero_le (a := t) (by omega)
    have hth := h.ok.th8
    have h9 : n < 9 := by omega
    have ce := h.entry h9
    have hf4 := h.cells.2.2.2.2.2 (4 + n)
    have hi := isT_yes h hb.1 hb.2
    have HI := Lib.hid hi; clear hi
    by_cases he : Y.ent.getD n 0 = 0
    · have hr : Y.leaveErr n = 41 := by unfold YS.leaveErr YS.at_; rw [if_pos hb, Int.toNat_natCast, if_pos he]
      rw [hr]
      rw [he] at ce
      have HH := Lib.hid h; clear h
      clear he hr hth
      go_enter Try.func32, Try.ntmps32
      go_wp2_with (go_at_call 60; refine HI.out.mono ?_; rintro e w' ⟨rfl, rfl⟩)
      go_ret
      exact ⟨rfl, ⟨v, HH.out⟩, Keep.refl _ _⟩
    · have hr : Y.leaveErr n = 0 := by unfold YS.leaveErr YS.at_; rw [if_pos hb, Int.toNat_natCast, if_neg he]
      rw [hr]
      have hfin := h.entSet h9 0
      have hk := h.setK (4 + n) (.int .i64 0)
      have HF := Lib.hid hfin; clear hfin
      have HK := Lib.hid hk; clear hk
      clear h hr hth
      generalize Y.ent.getD n 0 = x at ce he
      have hne : (x == 0) = false := by simpa using he
      go_enter Try.func32, Try.ntmps32
      go_wp2_with (go_at_call 60; refine HI.out.mono ?_; rintro e w' ⟨rfl, rfl⟩)
      go_ret
      exact ⟨rfl, ⟨v, HF.out⟩, HK.out⟩
  · have hr : Y.leaveErr t = 1 := by unfold YS.leaveErr; rw [if_neg hb]
    rw [hr]
    have hi := isT_no h hb
    have HI := Lib.hid hi; clear hi
    have HH := Lib.hid h; clear h
    clear hr hb
    go_enter Try.func32, Try.ntmps32
    go_wp2_with (go_at_call 60; refine HI.out.mono ?_; rintro e w' ⟨rfl, rfl⟩)
    go_ret
    exact ⟨rfl, ⟨v, HH.out⟩, Keep.refl _ _⟩

/-! ### New -/
def YS.new (t b : Int) : YS := ⟨min (max t 1) 8, min (max b 0) 64, 0, [0, 0, 0, 0, 0, 0, 0, 0, 0], []⟩
theorem YS.new_ok (t b : Int) : (YS.new t b).Ok := ⟨by simp only [YS.new]; omega, by simp only [YS.new]; omega, by simp only [YS.new]; omega, by simp only [YS.new]; omega, by simp [YS.new], rfl, by simp [YS.new], by simp [YS.new], fun t => by simp [YS.new, lim]; omega⟩
theorem ynew_any {w : World} {X : Nat → Prop} {pa : Nat} {S : AS} (h : Arena w X pa S) (hX : ∀ k, w.heap.size ≤ k → ¬ X k) (t b : Int) :
    Calls Try.prog 23 #[.pointer (some ⟨pa, 0, none⟩), .int .i64 t, .int .i64 b] w fun e w' => e = .returned (.pointer (some ⟨w.heap.size, 0, none⟩)) ∧ Yd w' X pa w.heap.size (YS.new t b) S ∧ Below w.heap.size w w' := by
  have key : ∀ x y : Int, x = min (max t 1) 8 → y = min (max b 0) 64 → Yd (w.alloc (.cells (yc pa ⟨x, y, 0, [0, 0, 0, 0, 0, 0, 0, 0, 0], []⟩ (.slice none 0 0)) 89)) X pa w.heap.size (YS.new t b) S := by
    rintro x y rfl rfl
    refine ⟨.slice none 0 0, (h.less (fun k hk hy => ?_)).alloc _, Blk.new _ _ _, ⟨rfl, .inl ⟨rfl, rfl⟩⟩, hX _ (Nat.le_refl _), fun g hg => by simp [Value.ownBlock] at hg, YS.new_ok t b⟩
    rcases hy with hy | hy | hy
    · exact hy
    · omega
    · simp [Value.ownBlock] at hy
  have HK := Lib.hid key; clear key
  clear h hX
  go_enter Try.func23, Try.ntmps23
  go_wp2
  all_goals
    go_ret
    exact ⟨rfl, HK.out _ _ (by omega) (by omega), (Below.refl _ _).alloc (Nat.le_refl _) _⟩
end Go.Proofs.Ytiiaajdkkofbjaa
