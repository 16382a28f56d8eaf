/-
  The contracts of package epoch's isHeld, and of the search by it: a block is held while somebody is inside who came in before. Conditions: the yard stands for a plain state.
-/
import Derived.Test.YtiiaajdkkofbjaaYlist
import Derived.Shelf.Abstract
namespace Go.Proofs.Ytiiaajdkkofbjaa
open Go.RowKit Go.Maps

def heldTo (ent : List Int) (whn : Int) : Nat → Bool
  | 0 => false
  | k + 1 => heldTo ent whn k || (ent.getD k 0 != 0 && decide (ent.getD k 0 < whn))
def held (ent : List Int) (whn : Int) : Bool := heldTo ent whn 9

def tst (e whn : Int) : Bool := e != 0 && decide (e < whn)
theorem tst_any {w : World} {B : Nat} (e whn : Int) (x0 x1 : Value) {t : TypeId} (h : Blk w B t #[x0, x1, .int .i64 whn]) :
    Calls Try.prog 82 #[.int .i64 e, .pointer (some ⟨B, 0, none⟩)] w fun en w' => en = .returned (.bool (tst e whn)) ∧ w = w' := by
  have c2 := h.cell 2
  simp at c2
  clear h
  unfold tst
  by_cases h0 : e = 0
  · subst h0
    go_enter Try.func82, Try.ntmps82
    go_wp2
    go_ret
    exact ⟨rfl, rfl⟩
  · have hb : (e != 0) = true := by simpa using h0
    by_cases h1 : e < whn
    · have hd : decide (e < whn) = true := by simpa using h1
      rw [hb, hd]
      go_enter Try.func82, Try.ntmps82
      go_wp2
      go_ret
      exact ⟨rfl, rfl⟩
    · have hd : decide (e < whn) = false := by simpa using h1
      rw [hb, hd]
      go_enter Try.func82, Try.ntmps82
      go_wp2
      go_ret
      exact ⟨rfl, rfl⟩

theorem idxInt_any {w : World} {py B : Nat} (ent : List Int) (whn : Int) (x0 x1 : Value) {t : TypeId} (h : Blk w B t #[x0, x1, .int .i64 whn]) (hent : ∀ k, k < 9 → w.cell? ⟨py, 4 + k, none⟩ = some (.int .i64 (ent.getD k 0))) :
    Calls Try.prog 83 #[.slice (some ⟨py, 4, none⟩) 9 9, .func (.func 82) #[] #[.pointer (some ⟨B, 0, none⟩)]] w fun en w' => (∃ r : Int, en = .returned (.int .i64 r) ∧ -1 ≤ r ∧ r < 9 ∧ decide (0 ≤ r) = held ent whn) ∧ w = w' := by
  have eg := enters_of Try.func82 (by kernel_rfl) rfl
  have HT := Lib.hid (fun e => tst_any e whn x0 x1 h)
  clear h
  have HE := Lib.hid hent; clear hent
  have hs : ∀ k, heldTo ent whn (k + 1) = (heldTo ent whn k || tst (ent.getD k 0) whn) := fun _ => rfl
  have h0 : heldTo ent whn 0 = false := rfl
  unfold held
  have HS := Lib.hid hs; clear hs
  have H0 := Lib.hid h0; clear h0
  go_enter Try.func83, Try.ntmps83
  go_wp2
  go_loop [5, 8] (fun _ i => ∃ k : Nat, k ≤ 9 ∧ i = .int .i64 k ∧ Hid (heldTo ent whn k = false)) (fun _ i => 9 - (intOf i).toNat)
  case atStart => exact ⟨0, by omega, rfl, H0⟩
  case round =>
    obtain ⟨k, hk, rfl, HK⟩ := hrel
    by_cases hlt : k < 9
    · have ce := HE.out k hlt
      have hcall := HT.out (ent.getD k 0)
      have hsk := HS.out k
      rw [HK.out, Bool.false_or] at hsk
      generalize ent.getD k 0 = x at ce hcall hsk
      cases hq : tst x whn with
      | true =>
        rw [hq] at hcall hsk
        have hfin : held ent whn = true := by
          have key : ∀ n, heldTo ent whn (k + 1 + n) = true := by
            intro n
            induction n with
            | zero => exact hsk
            | succ n ih => show (heldTo ent whn (k + 1 + n) || _) = true; rw [ih]; rfl
          have := key (9 - (k + 1))
          rw [show k + 1 + (9 - (k + 1)) = 9 by omega] at this
          exact this
        have HF := Lib.hid hfin; clear hfin
        have HC := Lib.hid hcall; clear hcall
        clear hsk hq
        go_wp2_with fail
        refine HC.out.mono ?_
        rintro e w' ⟨rfl, rfl⟩
        go_wp2
        go_ret
        exact ⟨⟨k, rfl, by omega, by omega, by have := HF.out; unfold held at this; rw [this]; simp⟩, rfl⟩
      | false =>
        rw [hq] at hcall hsk
        have HC := Lib.hid hcall; clear hcall
        have HN := Lib.hid hsk; clear hsk
        clear hq
        go_wp2_with fail
        refine HC.out.mono ?_
        rintro e w' ⟨rfl, rfl⟩
        go_wp2
        go_round
        case rel => exact ⟨k + 1, by omega, by go_num, HN⟩
        case measure => simp [intOf]; omega
    · obtain rfl : k = 9 := by omega
      go_wp2
      go_ret
      exact ⟨⟨-1, rfl, by omega, by omega, by rw [HK.out]; simp⟩, rfl⟩

theorem hasInt_any {w : World} {py B : Nat} (ent : List Int) (whn : Int) (x0 x1 : Value) {t : TypeId} (h : Blk w B t #[x0, x1, .int .i64 whn]) (hent : ∀ k, k < 9 → w.cell? ⟨py, 4 + k, none⟩ = some (.int .i64 (ent.getD k 0))) :
    Calls Try.prog 81 #[.slice (some ⟨py, 4, none⟩) 9 9, .func (.func 82) #[] #[.pointer (some ⟨B, 0, none⟩)]] w fun en w' => en = .returned (.bool (held ent whn)) ∧ w = w' := by
  have hc := idxInt_any ent whn x0 x1 h hent
  clear h hent
  have HC := Lib.hid hc; clear hc
  go_enter Try.func81, Try.ntmps81
  go_wp2_with fail
  refine HC.out.mono ?_
  rintro e w' ⟨⟨r, rfl, h1, h2, hr⟩, rfl⟩
  have HR := Lib.hid hr; clear hr
  go_wp2
  go_ret
  exact ⟨by rw [← HR.out]; rfl, rfl⟩

theorem isHeld_any {w : World} {X : Nat → Prop} {pa py : Nat} {v : Value} {Y : YS} {S : AS} (h : YAt w X pa py v Y S) (x0 x1 whn : Int) :
    Calls Try.prog 67 #[.pointer (some ⟨py, 0, none⟩), .agg #[.int .i64 x0, .int .i64 x1, .int .i64 whn]] w fun en w' => en = .returned (.bool (held Y.ent whn)) ∧ Below w.heap.size w w' := by
  have h1 := h.alloc (Obj.cells #[Value.int .i64 x0, Value.int .i64 x1, Value.int .i64 whn] 103)
  have hc := hasInt_any (py := py) Y.ent whn _ _ (Blk.new w 103 #[Value.int .i64 x0, Value.int .i64 x1, Value.int .i64 whn]) (fun k hk => h1.entry hk)
  clear h h1
  have HC := Lib.hid hc; clear hc
  go_enter Try.func67, Try.ntmps67
  go_wp2_with fail
  refine HC.out.mono ?_
  rintro e w' ⟨rfl, rfl⟩
  go_wp2
  go_ret
  exact ⟨rfl, (Below.refl _ _).alloc (Nat.le_refl _) _⟩
end Go.Proofs.Ytiiaajdkkofbjaa
