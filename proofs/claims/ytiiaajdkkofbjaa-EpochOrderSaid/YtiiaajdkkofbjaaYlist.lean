/-
  The contracts of package epoch that go through what waits, and who is inside: Limbo, Waiting, Inside. Conditions: the yard stands for a plain state.
-/
import Derived.Test.YtiiaajdkkofbjaaYops
import Derived.Laws.AppendOwn
import Derived.ProofKit
namespace Go.Proofs.Ytiiaajdkkofbjaa
open Go.RowKit Go.Maps

/-- What waits, as a slice of three cells an element. -/
def IsWts (w : World) (a : Option Addr) (l : List Wt) : Prop :=
  ∀ k (hk : k < l.length), ∃ g, a = some ⟨g, 0, none⟩ ∧ g < w.heap.size ∧ w.cell? ⟨g, k * 3, none⟩ = some (.int .i64 l[k].block) ∧ w.cell? ⟨g, k * 3 + 1, none⟩ = some (.int .i64 l[k].thread) ∧ w.cell? ⟨g, k * 3 + 2, none⟩ = some (.int .i64 l[k].whn)

theorem IsWts.below {w w' : World} {a : Option Addr} {l : List Wt} (h : IsWts w a l) (hb : Below w.heap.size w w') : IsWts w' a l := by
  intro k hk
  obtain ⟨g, ha, hg, c0, c1, c2⟩ := h k hk
  have e : ∀ o, w'.cell? ⟨g, o, none⟩ = w.cell? ⟨g, o, none⟩ := fun o => hb.cell (p := ⟨g, o, none⟩) hg
  exact ⟨g, ha, Nat.lt_of_lt_of_le hg hb.size, (e _).trans c0, (e _).trans c1, (e _).trans c2⟩

theorem row_wts {w : World} {v : Value} {l : List Wt} {t : TypeId} (h : w.ownsRow 0 t 3 v l.length (flat l)) : ∃ a cap, v = .slice a l.length cap ∧ l.length ≤ cap ∧ cap ≤ maxLen ∧ IsWts w a l := by
  rcases h.2 with ⟨rfl, h0⟩ | ⟨g, cap, cur, rfl, _, hb, hn, hc, hs, ht⟩
  · rw [h0]
    exact ⟨none, 0, rfl, Nat.le_refl _, Nat.zero_le _, fun k hk => by omega⟩
  · refine ⟨_, _, rfl, hn, hc, fun k hk => ⟨g, rfl, (show Blk w g t cur from hb).lt, ?_⟩⟩
    have hB : Blk w g t cur := hb
    obtain ⟨f0, f1, f2⟩ := flat_get l k hk
    have key : ∀ i, i < l.length * 3 → cur[i]? = (flat l)[i]? := by
      intro i hi
      rw [← ht, List.getElem?_take, if_pos hi, Array.getElem?_toList]
    refine ⟨?_, ?_, ?_⟩
    · rw [hB.cell, key _ (by omega)]; exact f0
    · rw [hB.cell, key _ (by omega)]; exact f1
    · rw [hB.cell, key _ (by omega)]; exact f2

theorem lim_succ (l : List Wt) (t : Int) (k : Nat) (hk : k < l.length) : lim (l.take (k + 1)) t = lim (l.take k) t + if l[k].thread == t then 1 else 0 := by
  unfold lim
  rw [List.take_succ_eq_append_getElem hk, List.filter_append, List.length_append]
  congr 1
  by_cases h : l[k].thread == t
  · simp [h]
  · simp [h]

theorem limbo_row {w : World} {py : Nat} {a : Option Addr} {l : List Wt} {cap : Nat} (t : Int) (c13 : w.cell? ⟨py, 13, none⟩ = some (.slice a l.length cap)) (hw : IsWts w a l) (hcap : l.length ≤ cap) (hm : cap ≤ maxLen) :
    Calls Try.prog 29 #[.pointer (some ⟨py, 0, none⟩), .int .i64 t] w fun e w' => e = .returned (.int .i64 (lim l t : Nat)) ∧ Below w.heap.size w w' := by
  have HW := Lib.hid hw; clear hw
  have hm : cap ≤ 9223372036854775807 := by unfold maxLen at hm; omega
  go_enter Try.func29, Try.ntmps29
  go_wp2
  go_loopw [5, 13] (fun n i wr => ∃ k : Nat, k ≤ l.length ∧ i = .int .i64 k ∧ n = .int .i64 (lim (l.take k) t : Nat) ∧ Below w.heap.size w wr) (fun _ i _ => l.length - (intOf i).toNat)
  case atStart => exact ⟨0, by omega, rfl, rfl, Below.refl _ _⟩
  case round =>
    obtain ⟨k, hk, rfl, rfl, hb⟩ := hrel
    have HB := Lib.hid hb; clear hb
    have hl := lim_le (l.take k) t
    have hlt' : (l.take k).length ≤ k := List.length_take_le _ _
    by_cases hlt : k < l.length
    · have hs := lim_succ l t k hlt
      have HS := Lib.hid hs; clear hs
      obtain ⟨g, rfl, hg, c0, c1, c2⟩ := HW.out k hlt
      rw [← HB.out.cell (p := ⟨g, _, none⟩) hg] at c0 c1 c2
      generalize l[k].block = x0 at c0
      generalize hx1 : l[k].thread = x1 at c1 HS
      have HX1 := Lib.hid hx1; clear hx1
      generalize l[k].whn = x2 at c2
      by_cases ht : x1 = t
      · have hbt : (x1 == t) = true := by simpa using ht
        go_wp2
        go_roundw
        case rel => exact ⟨k + 1, by omega, by go_num, by rw [HS.out, if_pos hbt]; go_num, HB.out.alloc (HB.out.size) _⟩
        case measure => simp [intOf]; omega
      · have hbt : (x1 == t) = false := by simpa using ht
        go_wp2
        go_roundw
        case rel => exact ⟨k + 1, by omega, by go_num, by rw [HS.out, if_neg (by simp [hbt])]; go_num, HB.out.alloc (HB.out.size) _⟩
        case measure => simp [intOf]; omega
    · have hkk : k = l.length := by omega
      have HKK := Lib.hid hkk; clear hkk
      have hd : decide (k < l.length) = false := by simpa using hlt
      go_wp2
      go_ret
      exact ⟨by rw [HKK.out, List.take_length]; rfl, HB.out⟩

theorem below_set {B g o : Nat} {a w : World} {u : Value} (h : Below B a w) (hg : B ≤ g) : Below B a (w.setCell ⟨g, o, none⟩ u) := h.setCell hg u
theorem keep_set {X : Nat → Prop} {g o : Nat} {a w : World} {u : Value} (h : Keep X a w) (hg : ¬ X g) : Keep X a (w.setCell ⟨g, o, none⟩ u) := h.setCell hg u
theorem limbo_any {w : World} {X : Nat → Prop} {pa py : Nat} {Y : YS} {S : AS} (h : Yd w X pa py Y S) (t : Int) :
    Calls Try.prog 29 #[.pointer (some ⟨py, 0, none⟩), .int .i64 t] w fun e w' => e = .returned (.int .i64 (lim Y.wt t : Nat)) ∧ Below w.heap.size w w' := by
  obtain ⟨v, h⟩ := h
  obtain ⟨a, cap, hv, h1, h2, h3⟩ := row_wts h.row
  have c := h.cells.2.2.2.2.1
  rw [hv] at c
  exact limbo_row t c h3 h1 h2

/-! ### Waiting -/
def blocksOf (l : List Wt) : List Int := l.map (·.block)
theorem set_take_drop (A B : List Int) (k : Nat) (hk : k < A.length) (hkB : k < B.length) : (A.take k ++ B.drop k).set k A[k] = A.take (k + 1) ++ B.drop (k + 1) := by
  have hkl : (A.take k).length = k := by simp; omega
  rw [List.set_append_right _ _ (by omega), hkl, Nat.sub_self, List.drop_eq_getElem_cons hkB, List.set_cons_zero]
  have e : A.take (k + 1) = A.take k ++ [A[k]] := List.take_succ_eq_append_getElem hk
  rw [e, List.append_assoc]
  rfl
theorem info3 : (Try.prog.info? 3).map (fun i => (i.zero, i.size, i.bytes)) = some (some (.int .i64 0), 1, 8) := by kernel_rfl
set_option maxHeartbeats 1000000 in
theorem waiting_row {w : World} {py : Nat} {a : Option Addr} {l : List Wt} {cap : Nat} (c13 : w.cell? ⟨py, 13, none⟩ = some (.slice a l.length cap)) (hp : py < w.heap.size) (hw : IsWts w a l) (hm : cap ≤ maxLen) (hfew : l.length ≤ 1000000) :
    Calls Try.prog 31 #[.pointer (some ⟨py, 0, none⟩)] w fun e w' => e = .returned (.slice (some ⟨w.heap.size, 0, none⟩) l.length l.length) ∧ Below w.heap.size w w' ∧ Blk w' w.heap.size 3 (cellsOf (blocksOf l)) := by
  have HW := Lib.hid hw; clear hw
  have hm : cap ≤ 9223372036854775807 := by unfold maxLen at hm; omega
  have hmk := run_make_row' (P := Try.prog) 30 3 (.int .i64 0) 8 Try.underlying30 info3 rfl .i64 .i64 l.length (by omega) (by omega)
  have hB0 : Blk (w.alloc (Obj.cells (madeCells #[Value.int IntKind.i64 0] l.length) 3)) w.heap.size 3 (cellsOf ((blocksOf l).take 0 ++ (List.replicate l.length 0).drop 0)) := by
    rw [madeCells_zero]; simpa using Blk.new w 3 (cellsOf (List.replicate l.length 0))
  have HB0 := Lib.hid hB0; clear hB0
  go_enter Try.func31, Try.ntmps31
  go_wp2
  go_loopw [17] (fun i wr => ∃ k : Nat, k ≤ l.length ∧ i = .int .i64 k ∧ Below w.heap.size w wr ∧ Blk wr w.heap.size 3 (cellsOf ((blocksOf l).take k ++ (List.replicate l.length 0).drop k))) (fun i _ => l.length - (intOf i).toNat)
  case atStart => exact ⟨0, by omega, rfl, (Below.refl _ _).alloc (Nat.le_refl _) _, HB0.out⟩
  case round =>
    clear HB0
    obtain ⟨k, hk, rfl, hb, hB⟩ := hrel
    have hz := hb.size
    have hlen : (blocksOf l).length = l.length := by simp [blocksOf]
    have hBl := hB.lt
    by_cases hlt : k < l.length
    · have hs := set_take_drop (blocksOf l) (List.replicate l.length 0) k (by omega) (by simpa using hlt)
      have hx : (blocksOf l)[k]'(by omega) = l[k].block := by simp [blocksOf]
      rw [hx] at hs
      have hgetd : k < ((blocksOf l).take k ++ (List.replicate l.length 0).drop k).length := by simp; omega
      obtain ⟨g, rfl, hg, c0, c1, c2⟩ := HW.out k hlt
      rw [← hb.cell (p := ⟨g, _, none⟩) hg] at c0 c1 c2
      generalize l[k].block = x0 at c0 hs
      generalize l[k].thread = x1 at c1
      generalize l[k].whn = x2 at c2
      generalize (blocksOf l).take k ++ (List.replicate l.length 0).drop k = L at hs hB hgetd
      have hfin := hB.set_ k (.int .i64 x0)
      rw [cellsOf_set, hs] at hfin
      have hfin := hfin.alloc (Obj.cells #[Value.int .i64 x0, Value.int .i64 x1, Value.int .i64 x2] 103)
      have ck := hB.cell k
      rw [cellsOf_get hgetd] at ck
      have fk := hB.frozen k
      generalize L.getD k 0 = x3 at ck
      have HF := Lib.hid hfin; clear hfin
      have HB := Lib.hid hb; clear hb
      have HS := Lib.hid hs; clear hs hx
      clear hB hgetd
      go_wp2
      go_roundw
      case rel => exact ⟨k + 1, by omega, by go_num, (below_set HB.out (Nat.le_refl _)).alloc (by simpa using hz) _, HF.out⟩
      case measure => simp [intOf]; omega
    · have hkk : k = l.length := by omega
      have HB := Lib.hid hb; clear hb
      have hfin : Blk wr w.heap.size 3 (cellsOf (blocksOf l)) := by
        have := hB
        rw [hkk, List.take_of_length_le (by omega), List.drop_of_length_le (by simp)] at this
        simpa using this
      have HF := Lib.hid hfin; clear hfin
      clear hB hkk
      go_wp2
      go_ret
      exact ⟨rfl, HB.out, HF.out⟩

theorem waiting_any {w : World} {X : Nat → Prop} {pa py : Nat} {Y : YS} {S : AS} (h : Yd w X pa py Y S) :
    Calls Try.prog 31 #[.pointer (some ⟨py, 0, none⟩)] w fun e w' => e = .returned (.slice (some ⟨w.heap.size, 0, none⟩) Y.wt.length Y.wt.length) ∧ Below w.heap.size w w' ∧ Blk w' w.heap.size 3 (cellsOf (blocksOf Y.wt)) := by
  have hfew := h.ok.few
  obtain ⟨v, h⟩ := h
  obtain ⟨a, cap, hv, _, h2, h3⟩ := row_wts h.row
  have c := h.cells.2.2.2.2.1
  rw [hv] at c
  exact waiting_row c h.head.lt h3 h2 (by omega)

/-! ### Inside -/
/-- Who is inside, below a number. -/
def insideTo (ent : List Int) : Nat → List Int
  | 0 => []
  | k + 1 => insideTo ent k ++ (if ent.getD k 0 = 0 then [] else [(k : Int)])
theorem insideTo_le (ent : List Int) (k : Nat) : (insideTo ent k).length ≤ k := by
  induction k with
  | zero => simp [insideTo]
  | succ k ih => simp only [insideTo, List.length_append]; split <;> simp <;> omega
def YS.inside (Y : YS) : List Int := insideTo Y.ent 9
set_option maxRecDepth 100000 in
theorem idx9 (e : Nat → Int) (k : Nat) (hk : k < 9) (w : World) : (Instr.index 86 (.agg #[.int .i64 (e 0), .int .i64 (e 1), .int .i64 (e 2), .int .i64 (e 3), .int .i64 (e 4), .int .i64 (e 5), .int .i64 (e 6), .int .i64 (e 7), .int .i64 (e 8)]) (.int .i64 k)).run Try.prog w = .ok (.int .i64 (e k)) w := by
  have h : k = 0 ∨ k = 1 ∨ k = 2 ∨ k = 3 ∨ k = 4 ∨ k = 5 ∨ k = 6 ∨ k = 7 ∨ k = 8 := by omega
  rcases h with rfl | rfl | rfl | rfl | rfl | rfl | rfl | rfl | rfl <;> (show _ = _; exact (by kernel_rfl))
set_option maxRecDepth 100000 in
set_option maxHeartbeats 1000000 in
theorem inside_row {w : World} {X : Nat → Prop} {pa py : Nat} {v : Value} {Y : YS} {S : AS} (h : YAt w X pa py v Y S) :
    Calls Try.prog 27 #[.pointer (some ⟨py, 0, none⟩)] w fun e w' => ∃ u, e = .returned u ∧ Below w.heap.size w w' ∧ w'.ownsRow w.heap.size 3 1 u Y.inside.length (Y.inside.map (Value.int .i64)) := by
  have hp := h.head.lt
  obtain ⟨d0, d1, d2, d3, d4, d5, d6, d7, d8⟩ := (⟨h.entry (t := 0) (by omega), h.entry (t := 1) (by omega), h.entry (t := 2) (by omega), h.entry (t := 3) (by omega), h.entry (t := 4) (by omega), h.entry (t := 5) (by omega), h.entry (t := 6) (by omega), h.entry (t := 7) (by omega), h.entry (t := 8) (by omega)⟩ : _ ∧ _ ∧ _ ∧ _ ∧ _ ∧ _ ∧ _ ∧ _ ∧ _)
  obtain ⟨i0, hi0, hz0, hz1, hz2⟩ := info_parts info3
  clear h
  unfold YS.inside
  generalize Y.ent = ent at *
  obtain ⟨A, hA, hAk⟩ : ∃ A : Array Value, A = #[.int .i64 (ent.getD 0 0), .int .i64 (ent.getD 1 0), .int .i64 (ent.getD 2 0), .int .i64 (ent.getD 3 0), .int .i64 (ent.getD 4 0), .int .i64 (ent.getD 5 0), .int .i64 (ent.getD 6 0), .int .i64 (ent.getD 7 0), .int .i64 (ent.getD 8 0)] ∧ ∀ k : Nat, k < 9 → ∀ w, (Instr.index 86 (.agg A) (.int .i64 k)).run Try.prog w = .ok (.int .i64 (ent.getD k 0)) w := by
    exact ⟨_, rfl, fun k hk w => idx9 (fun k => ent.getD k 0) k hk w⟩
  have hin : ∀ k, insideTo ent (k + 1) = insideTo ent k ++ (if ent.getD k 0 = 0 then [] else [(k : Int)]) := fun k => rfl
  have h0 : insideTo ent 0 = [] := rfl
  have hle := insideTo_le ent
  have HAK := Lib.hid hAk; clear hAk
  have HIN := Lib.hid hin; clear hin
  have HLE := Lib.hid hle; clear hle
  have H0 := Lib.hid h0; clear h0
  simp only [Nat.reduceAdd] at d0 d1 d2 d3 d4 d5 d6 d7 d8
  go_enter Try.func27, Try.ntmps27
  go_wp2
  simp only [List.getD_eq_getElem?_getD] at hA HAK HIN
  rw [← hA]
  clear hA d0 d1 d2 d3 d4 d5 d6 d7 d8
  go_loopw [3, 10] (fun u i wr => ∃ k : Nat, k ≤ 9 ∧ i = .int .i64 k ∧ Below w.heap.size w wr ∧ wr.ownsRow w.heap.size 3 1 u (insideTo ent k).length ((insideTo ent k).map (Value.int .i64))) (fun _ i _ => 9 - (intOf i).toNat)
  case atStart => exact ⟨0, by omega, rfl, Below.refl _ _, by rw [H0.out]; exact World.ownsRow_nil _ _ _ _⟩
  case round =>
    obtain ⟨k, hk, rfl, hb, hB⟩ := hrel
    have hz := hb.size
    by_cases hlt : k < 9
    · have hx := HAK.out k hlt
      have hi := HIN.out k
      have hl := HLE.out k
      generalize hA : ent[k]?.getD 0 = x at hx hi
      have HI := Lib.hid hi; clear hi
      have HB := Lib.hid hb; clear hb
      have HBB := Lib.hid hB; clear hB
      clear hA
      by_cases hx0 : x = 0
      · subst hx0
        go_wp2
        go_roundw
        case rel => exact ⟨k + 1, by omega, by go_num, HB.out, by rw [HI.out]; simpa using HBB.out⟩
        case measure => simp [intOf]; omega
      · have hne : (x == 0) = false := by simpa using hx0
        go_wp2_with (at_builtin; refine wpList_append_own _ rfl _ _ 30 rfl w.heap.size 3 i0 (.int .i64 0) 1 8 Try.underlying30 hi0 hz0 hz1 hz2 rfl (by decide) _ _ _ rfl (HBB.out.alloc _) ⟨wr.heap.size, 0, none⟩ 1 1 [.int .i64 k] rfl rfl ?c1 ?c2 ?c3 ?c4 ?c5 ?_)
        case c1 => exact cell_one_new _ _ _
        case c2 => exact ints_oneCell .i64 [(k : Int)]
        case c3 => unfold maxLen; omega
        case c4 => omega
        case c5 => simp; omega
        intro v' w' hown' hgrow _
        have HOWN : Hid (w'.ownsRow w.heap.size 3 1 v' (insideTo ent (k + 1)).length ((insideTo ent (k + 1)).map (Value.int .i64))) := by
          refine Lib.hid ?_; rw [HI.out, if_neg hx0]; simpa using hown'
        have HBN := Lib.hid ((HB.out.alloc hz _).grown hgrow (by simp; omega) (fun g hg => (HBB.out.lt g hg).1))
        clear hown' hgrow
        go_wp2
        go_roundw
        case rel => exact ⟨k + 1, by omega, by go_num, HBN.out, HOWN.out⟩
        case measure => simp [intOf]; omega
    · obtain rfl : k = 9 := by omega
      have HB := Lib.hid hb; clear hb
      have HBB := Lib.hid hB; clear hB
      go_wp2
      go_ret
      exact ⟨_, rfl, HB.out, HBB.out⟩
theorem inside_any {w : World} {X : Nat → Prop} {pa py : Nat} {Y : YS} {S : AS} (h : Yd w X pa py Y S) :
    Calls Try.prog 27 #[.pointer (some ⟨py, 0, none⟩)] w fun e w' => ∃ u, e = .returned u ∧ Below w.heap.size w w' ∧ w'.ownsRow w.heap.size 3 1 u Y.inside.length (Y.inside.map (Value.int .i64)) := by
  obtain ⟨v, h⟩ := h
  exact inside_row h
end Go.Proofs.Ytiiaajdkkofbjaa
