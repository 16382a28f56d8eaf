/-
  An arena's plain state beside the document's list: when they match, and that each step keeps it so. No condition.
-/
import Derived.Test.YtbgbknbfleiakaaRef6
import Derived.Test.YtbgbknbfleiakaaScript
namespace Go.Proofs.Ytbgbknbfleiakaa
open Go.RowKit Go.Maps

structure Match (S : AS) (bl : List (List Int)) : Prop where
  made : (bl.length : Int) = S.made
  at_ : ∀ i, i < bl.length → bl.getD i [] = (look S.bl ((i : Int) + 1)).getD []
  cnt : cnt bl = S.bl.length
  tot : tot bl = total S.bl

section
variable {S : AS} {bl : List (List Int)}
theorem Match.none_ (h : Match S bl) {b : Int} (hl : look S.bl b = none) : NotIn bl b := by
  by_cases hb : b < 1 ∨ (bl.length : Int) < b
  · exact .inl hb
  · refine .inr ⟨(b - 1).toNat, by omega, by omega, ?_⟩
    rw [h.at_ _ (by omega), show (((b - 1).toNat : Nat) : Int) + 1 = b by omega, hl]
    rfl
theorem Match.some_ (h : Match S bl) (hS : S.Ok) {b : Int} {cs : List Int} (hl : look S.bl b = some cs) : ∃ i : Nat, i < bl.length ∧ b = (i : Int) + 1 ∧ bl.getD i [] = cs := by
  have hk := hS.key hl
  have := h.made
  refine ⟨(b - 1).toNat, by omega, by omega, ?_⟩
  rw [h.at_ _ (by omega), show (((b - 1).toNat : Nat) : Int) + 1 = b by omega, hl]
  rfl
theorem Match.fault (h : Match S bl) : Match S.fault bl := ⟨h.made, h.at_, h.cnt, h.tot⟩
theorem Match.alloc (h : Match S bl) (_hS : S.Ok) {n : Nat} (hn : 1 ≤ n) : Match (S.alloc n) (bl ++ [List.replicate n 0]) := by
  refine ⟨?_, ?_, ?_, ?_⟩
  · have := h.made; simp only [AS.alloc, List.length_append, List.length_singleton]; omega
  · intro i hi
    simp only [AS.alloc, look_cons]
    rw [List.length_append, List.length_singleton] at hi
    by_cases hil : i < bl.length
    · rw [if_neg (by have := h.made; omega)]
      rw [show (bl ++ [List.replicate n (0 : Int)]).getD i [] = bl.getD i [] by simp [List.getD_eq_getElem?_getD, List.getElem?_append_left hil]]
      exact h.at_ i hil
    · obtain rfl : i = bl.length := by omega
      rw [if_pos (by have := h.made; omega)]
      simp
  · rw [cnt_snoc, if_pos (by rw [List.length_replicate]; omega)]; simp only [AS.alloc, List.length_cons]; have := h.cnt; omega
  · rw [tot_snoc]; simp only [AS.alloc, total, List.map_cons, List.sum_cons, List.length_replicate]; have := h.tot; unfold total at this; omega

theorem cnt_set {bl : List (List Int)} {i : Nat} (hi : i < bl.length) (x : List Int) : cnt (bl.set i x) + (if 0 < (bl.getD i []).length then 1 else 0) = cnt bl + if 0 < x.length then 1 else 0 := by
  induction bl generalizing i with
  | nil => simp at hi
  | cons a bl ih =>
    have hc : ∀ (y : List Int) (l : List (List Int)), cnt (y :: l) = cnt l + if 0 < y.length then 1 else 0 := by
      intro y l; unfold cnt; by_cases h : 0 < y.length <;> simp [h]
    cases i with
    | zero => simp only [List.set_cons_zero, List.getD_cons_zero, hc]; omega
    | succ i =>
      have := ih (i := i) (by simpa using hi)
      simp only [List.set_cons_succ, List.getD_cons_succ, hc]; omega
theorem tot_set {bl : List (List Int)} {i : Nat} (hi : i < bl.length) (x : List Int) : tot (bl.set i x) + (bl.getD i []).length = tot bl + x.length := by
  induction bl generalizing i with
  | nil => simp at hi
  | cons a bl ih =>
    have hc : ∀ (y : List Int) (l : List (List Int)), tot (y :: l) = tot l + y.length := by
      intro y l; unfold tot; simp; omega
    cases i with
    | zero => simp only [List.set_cons_zero, List.getD_cons_zero, hc]; omega
    | succ i =>
      have := ih (i := i) (by simpa using hi)
      simp only [List.set_cons_succ, List.getD_cons_succ, hc]; omega

theorem Match.free (h : Match S bl) (hS : S.Ok) {i : Nat} (hi : i < bl.length) {cs : List Int} (hl : look S.bl ((i : Int) + 1) = some cs) : Match (S.free ((i : Int) + 1) cs.length) (bl.set i []) := by
  have hcs := hS.size hl
  have hat := h.at_ i hi
  rw [hl] at hat
  have hat' : bl.getD i [] = cs := hat
  have t := total_cut hS.apart hl
  refine ⟨by rw [List.length_set]; exact h.made, ?_, ?_, ?_⟩
  · intro k hk
    rw [List.length_set] at hk
    rw [set_getD_ints]
    simp only [AS.free, look_cut]
    by_cases hik : i = k
    · rw [if_pos ⟨hik, hk⟩, if_pos (by omega)]; rfl
    · rw [if_neg (fun e => hik e.1), if_neg (by omega)]; exact h.at_ k hk
  · have := cnt_set hi []
    rw [hat', if_pos (by omega), if_neg (by simp)] at this
    simp only [AS.free]
    have := h.cnt
    omega
  · have := tot_set hi []
    rw [hat'] at this
    simp only [AS.free]
    have := h.tot
    simp at *
    omega
theorem Match.set (h : Match S bl) (hS : S.Ok) {i : Nat} (hi : i < bl.length) {cs ds : List Int} (hl : look S.bl ((i : Int) + 1) = some cs) (hd : ds.length = cs.length) : Match (S.set ((i : Int) + 1) ds) (bl.set i ds) := by
  have hat := h.at_ i hi
  rw [hl] at hat
  have hat' : bl.getD i [] = cs := hat
  refine ⟨by rw [List.length_set]; exact h.made, ?_, ?_, ?_⟩
  · intro k hk
    rw [List.length_set] at hk
    rw [set_getD_ints]
    simp only [AS.set, look_put]
    by_cases hik : i = k
    · subst hik
      rw [if_pos ⟨rfl, hk⟩, if_pos ⟨rfl, by rw [hl]; rfl⟩]; rfl
    · rw [if_neg (fun e => hik e.1), if_neg (by omega)]; exact h.at_ k hk
  · have := cnt_set hi ds
    rw [hat', hd] at this
    simp only [AS.set, length_put]
    have := h.cnt
    omega
  · have := tot_set hi ds
    rw [hat', hd] at this
    simp only [AS.set]
    rw [total_put _ _ _ (fun u hu => by
      have h1 := look_of_mem hS.apart hu
      rw [hl] at h1
      obtain rfl := Option.some.inj h1
      exact hd.symm)]
    have := h.tot
    omega
end

/-- What a call against the document leaves: true, and both sides a step further. X: what is kept; Y: where the list's rows lie; N: where new rows of it lie. -/
def Plays (w : World) (X Y : Nat → Prop) (pa : Nat) (S' : AS) (e : Ending) (w' : World) : Prop :=
  ∃ (A' : Option Addr) (c' : Nat) (vals' : List Value) (bl' : List (List Int)) (N : Nat → Prop), e = .returned (.tuple #[.agg #[.slice A' bl'.length c', .int .i64 S'.most, .int .i64 S'.faults], .bool true]) ∧ Arena w' (fun k => X k ∨ N k) pa S' ∧ RowsAt w' (fun k => Y k ∨ N k) A' vals' bl' ∧ Match S' bl' ∧ (∀ k, N k → w.heap.size ≤ k ∧ k < w'.heap.size) ∧ Keep X w w'

end Go.Proofs.Ytbgbknbfleiakaa
