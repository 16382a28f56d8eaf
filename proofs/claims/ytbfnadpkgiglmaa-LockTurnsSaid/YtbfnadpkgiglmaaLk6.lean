/-
  The document's own mutexes in memory; its Get, All, put. Conditions: fewer than 2^42 mutexes.
-/
import Derived.Test.YtbfnadpkgiglmaaLk5
namespace Go.Proofs.Ytbfnadpkgiglmaa
open Go.RowKit Go.Maps
set_option linter.unusedVariables false
set_option linter.unusedSimpArgs false

def lkc (x : Lk) : List Value := [.bool x.is, .int .i64 x.ow, .int .i64 x.ct]
def flat (L : LS) : List Value := L.flatMap lkc
theorem flat_length (L : LS) : (flat L).length = L.length * 3 := by
  induction L with
  | nil => rfl
  | cons r l ih => simp only [flat, List.flatMap_cons, List.length_append] at *; simp [lkc, ih]; omega
theorem flat_append (l m : LS) : flat (l ++ m) = flat l ++ flat m := by simp [flat]
theorem flat_one (x : Lk) : flat [x] = lkc x := by simp [flat]
theorem flat_get (l : LS) (k : Nat) (hk : k < l.length) : (flat l)[k * 3]? = some (.bool (l.getD k zLk).is) ∧ (flat l)[k * 3 + 1]? = some (.int .i64 (l.getD k zLk).ow) ∧ (flat l)[k * 3 + 2]? = some (.int .i64 (l.getD k zLk).ct) := by
  induction l generalizing k with
  | nil => simp at hk
  | cons r l ih =>
    cases k with
    | zero => simp [flat, lkc]
    | succ k =>
      have e : flat (r :: l) = lkc r ++ flat l := rfl
      have h3 : (lkc r).length = 3 := rfl
      obtain ⟨i0, i1, i2⟩ := ih k (by simpa using hk)
      have eg : (r :: l).getD (k + 1) zLk = l.getD k zLk := by simp [List.getD]
      rw [eg]
      refine ⟨?_, ?_, ?_⟩
      all_goals rw [e, List.getElem?_append_right (by rw [h3]; omega), h3]
      · rw [← i0]; congr 1; omega
      · rw [← i1]; congr 1; omega
      · rw [← i2]; congr 1; omega
/-- A slice that holds the mutexes of L. -/
def RAt (w : World) (v : Value) (L : LS) : Prop := w.ownsRow 0 35 3 v L.length (flat L)
def RowsAt (w : World) (a : Option Addr) (L : LS) : Prop :=
  ∀ i, i < L.length → ∃ g, a = some ⟨g, 0, none⟩ ∧ g < w.heap.size ∧ w.cell? ⟨g, i * 3, none⟩ = some (.bool (L.getD i zLk).is) ∧ w.cell? ⟨g, i * 3 + 1, none⟩ = some (.int .i64 (L.getD i zLk).ow) ∧ w.cell? ⟨g, i * 3 + 2, none⟩ = some (.int .i64 (L.getD i zLk).ct)
theorem RowsAt.below {w w' : World} {a : Option Addr} {L : LS} (h : RowsAt w a L) (hb : Below w.heap.size w w') : RowsAt w' a L := fun i hi => by
  obtain ⟨g, ha, hlt, h0, h1, h2⟩ := h i hi
  exact ⟨g, ha, Nat.lt_of_lt_of_le hlt hb.size, (hb.cell (p := ⟨g, _, none⟩) hlt).trans h0, (hb.cell (p := ⟨g, _, none⟩) hlt).trans h1, (hb.cell (p := ⟨g, _, none⟩) hlt).trans h2⟩
theorem RAt.open_ {w : World} {v : Value} {L : LS} (h : RAt w v L) : ∃ a c, v = .slice a L.length c ∧ RowsAt w a L := by
  rcases h.2 with ⟨rfl, h0⟩ | ⟨g, cap, cur, rfl, _, hb, hr⟩
  · exact ⟨none, 0, by rw [h0], fun j hj => by omega⟩
  · refine ⟨_, _, rfl, fun j hj => ⟨g, rfl, (show Blk w g _ cur from hb).lt, ?_⟩⟩
    obtain ⟨e0, e1, e2⟩ := flat_get L j hj
    have hs : ∀ i, i < L.length * 3 → w.cell? ⟨g, i, none⟩ = (flat L)[i]? := by
      intro i hi
      rw [← hr.2.2.2, List.getElem?_take_of_lt hi, (show Blk w g _ cur from hb).cell i]
      simp
    exact ⟨by rw [hs _ (by omega)]; exact e0, by rw [hs _ (by omega)]; exact e1, by rw [hs _ (by omega)]; exact e2⟩
theorem infoLk : (Try.prog.info? 35).map (fun i => (i.zero, i.size, i.bytes)) = some (some (.agg #[.bool false, .int .i64 0, .int .i64 0]), 3, 24) := by kernel_rfl

/-- What Get tells. -/
def getV (L : LS) (m : Int) : Value := match LS.get L m with | none => .tuple #[.agg #[.bool false, .int .i64 0, .int .i64 0], .bool false] | some x => .tuple #[.agg #[.bool x.is, .int .i64 x.ow, .int .i64 x.ct], .bool true]
set_option maxRecDepth 100000 in
set_option maxHeartbeats 1000000 in
theorem rget_any {w : World} {a : Option Addr} {ca : Nat} {L : LS} (h : RowsAt w a L) (hn : L.length ≤ 5864062014805) {m : Int} (hm : (ik m).wf = true) :
    Calls Try.prog 11 #[.slice a L.length ca, .int .i64 m] w fun e w' => e = .returned (getV L m) ∧ Below w.heap.size w w' := by
  have hB := Lib.hid (((Below.refl w.heap.size w).alloc (Nat.le_refl _) (.cells #[.bool false, .int .i64 0, .int .i64 0] 35)))
  unfold getV
  by_cases h1 : m < 1
  · rw [get_low h1]
    clear h
    dsimp only
    go_enter Try.func11, Try.ntmps11
    go_wp2
    refine bodyPost_ret (v := .tuple #[.agg #[.bool false, .int .i64 0, .int .i64 0], .bool false]) (by simp [results, Try.results11, go_sem]) rfl ⟨rfl, ?_⟩
    repeat (first | exact hB.out | refine Below.alloc ?_ (by simp) _ | refine Below.setCell ?_ (by simp) _)
  · by_cases h2 : (L.length : Int) < m
    · rw [get_high h2]
      clear h
      dsimp only
      generalize L.length = n at *
      go_enter Try.func11, Try.ntmps11
      go_wp2
      refine bodyPost_ret (v := .tuple #[.agg #[.bool false, .int .i64 0, .int .i64 0], .bool false]) (by simp [results, Try.results11, go_sem]) rfl ⟨rfl, ?_⟩
      repeat (first | exact hB.out | refine Below.alloc ?_ (by simp) _ | refine Below.setCell ?_ (by simp) _)
    · obtain ⟨i, rfl⟩ : ∃ i : Nat, m = (i : Int) + 1 := ⟨(m - 1).toNat, by omega⟩
      have hi : i < L.length := by omega
      obtain ⟨g, rfl, hg, c0, c1, c2⟩ := h i hi
      rw [get_at hi]
      unfold LS.isAt
      clear h
      generalize L.getD i zLk = x at *
      generalize L.length = n at *
      have hsub : IntKind.i64.wrap ((i : Int) + 1 - 1) = (i : Int) := by rw [IntKind.wrap_i64]; omega
      have g1 : ¬ (i : Int) + 1 < 1 := by omega
      have g2 : ¬ (n : Int) < (i : Int) + 1 := by omega
      cases hx : x.is with
      | false =>
        rw [hx] at c0
        rw [if_neg (by simp)]
        dsimp only
        generalize x.ow = o at *
        generalize x.ct = ct at *
        go_enter Try.func11, Try.ntmps11
        go_wp2
        refine bodyPost_ret (v := .tuple #[.agg #[.bool false, .int .i64 0, .int .i64 0], .bool false]) (by simp [results, Try.results11, go_sem]) rfl ⟨rfl, ?_⟩
        repeat (first | exact hB.out | refine Below.alloc ?_ (by simp) _ | refine Below.setCell ?_ (by simp) _)
      | true =>
        rw [hx] at c0
        rw [if_pos rfl]
        dsimp only
        rw [hx]
        generalize x.ow = o at *
        generalize x.ct = ct at *
        go_enter Try.func11, Try.ntmps11
        go_wp2
        refine bodyPost_ret (v := .tuple #[.agg #[.bool true, .int .i64 o, .int .i64 ct], .bool true]) (by simp [results, Try.results11, go_sem]) rfl ⟨rfl, ?_⟩
        repeat (first | exact Below.refl _ _ | refine Below.alloc ?_ (by simp) _ | refine Below.setCell ?_ (by simp) _)

set_option maxRecDepth 1000000 in
set_option maxHeartbeats 4000000 in
theorem rall_any {w : World} {a : Option Addr} {ca : Nat} {L : LS} (h : RowsAt w a L) (hn : L.length ≤ 5864062014805) :
    Calls Try.prog 14 #[.slice a L.length ca] w fun e w' => ∃ v, e = .returned v ∧ w'.ownsRow w.heap.size 3 1 v (LS.all L).length ((LS.all L).map (Value.int .i64)) ∧ Below w.heap.size w w' := by
  obtain ⟨i0, hi0, hz0, hz1, hz2⟩ := info_parts info3
  have HI := Lib.hid h; clear h
  have HS := Lib.hid (fun k => upto_succ (LS.isAt L) k)
  have HL := Lib.hid (fun k => upto_len (LS.isAt L) k)
  have HAT := Lib.hid (show ∀ k, LS.isAt L k = (L.getD k zLk).is from fun k => rfl)
  unfold LS.all
  generalize LS.isAt L = f at *
  have hst := World.ownsRow_made (base := w.heap.size) (e := 3) (size := 1) w #[] 0 (Nat.le_refl _) (by unfold maxLen; omega) rfl
  have REL0 : Hid ((w.alloc (Obj.cells #[] 3)).ownsRow w.heap.size 3 1 (.slice (some ⟨w.heap.size, 0, none⟩) 0 0) (upto f 0).length ((upto f 0).map (Value.int .i64)) ∧ Below w.heap.size w (w.alloc (Obj.cells #[] 3))) := Lib.hid ⟨hst, (Below.refl _ w).alloc (Nat.le_refl _) _⟩
  clear hst
  go_enter Try.func14, Try.ntmps14
  go_wp2_with fail
  go_loopw [3, 4] (fun v i wr => ∃ k : Nat, k ≤ L.length ∧ i = .int .i64 k ∧ wr.ownsRow w.heap.size 3 1 v (upto f k).length ((upto f k).map (Value.int .i64)) ∧ Below w.heap.size w wr) (fun _ i _ => L.length - (intOf i).toNat)
  case atStart => exact ⟨0, by omega, rfl, REL0.out.1, REL0.out.2⟩
  case round =>
    clear REL0
    obtain ⟨k, hk, rfl, hrow, hbel⟩ := hrel
    have hzr := hbel.size
    by_cases hlk : k < L.length
    · obtain ⟨g, rfl, hg, c0, -, -⟩ := (HI.out.below hbel) k hlk
      have hs := HS.out k
      have hl := HL.out k
      rw [← HAT.out k] at c0
      cases hf : f k with
      | false =>
        rw [hf] at c0 hs
        rw [if_neg (by simp), List.append_nil] at hs
        rw [← hs] at hrow
        have HR := Lib.hid hrow; clear hrow hs
        have HB := Lib.hid hbel; clear hbel
        go_wp2_with fail
        go_roundw
        case rel => exact ⟨k + 1, by omega, by go_num, HR.out, HB.out⟩
        case measure => simp [intOf]; omega
      | true =>
        rw [hf] at c0 hs
        rw [if_pos rfl] at hs
        generalize upto f k = S at *
        have HR := Lib.hid hrow; clear hrow
        have HB := Lib.hid hbel; clear hbel
        have HS2 := Lib.hid hs; clear hs
        clear hf
        have hwr : IntKind.i64.wrap ((k : Int) + 1) = (k : Int) + 1 := by rw [IntKind.wrap_i64]; omega
        go_wp2_with (at_builtin; refine wpList_append_lies _ rfl _ _ 38 rfl w.heap.size 3 i0 (.int .i64 0) 1 8 Try.underlying38 hi0 hz0 hz1 hz2 rfl (by decide) _ S.length _ rfl (HR.out.alloc _) ⟨wr.heap.size, 0, none⟩ 1 1 [.int .i64 ((k : Int) + 1)] rfl rfl (cell_one_new wr (.int .i64 ((k : Int) + 1)) 3) (ints_oneCell .i64 [(k : Int) + 1]) (by decide) (by unfold maxLen; omega) (by omega) (by simp; omega) (wr.heap.size + 1) (by simp) ?_)
        intro g1 capg1 w3 hown hgr hat hltg1
        have hfin : w3.ownsRow w.heap.size 3 1 (.slice (some ⟨g1, 0, none⟩) (S.length + 1) capg1) (upto f (k + 1)).length ((upto f (k + 1)).map (Value.int .i64)) ∧ Below w.heap.size w w3 := by
          refine ⟨by rw [HS2.out]; simpa using hown, (HB.out.alloc hzr _).trans ((Keep.ofGrown (X := fun k => k < w.heap.size) hgr (fun g e hx => ?_)).toBelow (fun k hk => hk) (by simp; omega))⟩
          have := (own_type HR.out e).1
          omega
        have HF := Lib.hid hfin; clear hfin hown hgr hat
        go_wp2_with fail
        go_roundw
        case rel => exact ⟨k + 1, by omega, by go_num, HF.out.1, HF.out.2⟩
        case measure => simp [intOf]; omega
    · obtain rfl : k = L.length := by omega
      have HR := Lib.hid hrow; clear hrow
      have HB := Lib.hid hbel; clear hbel
      go_wp2
      go_ret
      exact ⟨_, rfl, HR.out, HB.out⟩
end Go.Proofs.Ytbfnadpkgiglmaa
