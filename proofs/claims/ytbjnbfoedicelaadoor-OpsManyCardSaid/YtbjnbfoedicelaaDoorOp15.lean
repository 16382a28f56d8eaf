/-
  strings.FieldsSeq over a text of bytes below 128: its words, one by one. No condition but what lies in memory.
-/
import Derived.Test.YtbjnbfoedicelaaDoorStr
import Derived.Test.YtbjnbfoedicelaaDoorMem
import Derived.RangeFuncNested
import Derived.RangeFuncLeaves
import Derived.OwnWalkIn
import Derived.TacticsInMore
import Derived.RegionIn
import Derived.LoopNIn
import Derived.LoopIn
import Derived.Shelf.Abstract
import Derived.Lib.Hide
namespace Go.Proofs.YtbjnbfoedicelaaDoor
open Go.RowKit Go.Shelf
set_option linter.unusedVariables false
set_option linter.unusedSimpArgs false

def isSp (c : UInt8) : Bool := c == 9 || c == 10 || c == 11 || c == 12 || c == 13 || c == 32
/-- The words of what stands from place i on; st: where a word that is under way began. -/
def fldF (s : List UInt8) : (m i : Nat) → Option Nat → List (List UInt8)
  | 0, i, some k => [(s.take i).drop k]
  | 0, i, none => []
  | m + 1, i, some k => if isSp (s.getD i 0) then (s.take i).drop k :: fldF s m (i + 1) none else fldF s m (i + 1) (some k)
  | m + 1, i, none => if isSp (s.getD i 0) then fldF s m (i + 1) none else fldF s m (i + 1) (some i)
def flds (s : List UInt8) : List (List UInt8) := fldF s s.length 0 none
def stI : Option Nat → Int
  | none => -1
  | some k => k
/-- What the iterator wants kept: its text's box, and the library's table. -/
def KpF (Bs gt : Nat) (A B : World) : Prop := B.heap[Bs]? = A.heap[Bs]? ∧ B.heap[gt]? = A.heap[gt]?
theorem str_extract (s : List UInt8) (k i : Nat) : (str s).extract k i = str ((s.take i).drop k) := by
  apply ByteArray.ext
  rw [ByteArray.data_extract]
  apply Array.ext'
  simp [str, List.extract_eq_take_drop, List.drop_take]
theorem fld_none {s : List UInt8} {i : Nat} (h : i < s.length) : fldF s (s.length - i) i none = if isSp (s.getD i 0) then fldF s (s.length - (i + 1)) (i + 1) none else fldF s (s.length - (i + 1)) (i + 1) (some i) := by
  rw [show s.length - i = (s.length - (i + 1)) + 1 by omega]; rfl
theorem fld_some {s : List UInt8} {i k : Nat} (h : i < s.length) : fldF s (s.length - i) i (some k) = if isSp (s.getD i 0) then (s.take i).drop k :: fldF s (s.length - (i + 1)) (i + 1) none else fldF s (s.length - (i + 1)) (i + 1) (some k) := by
  rw [show s.length - i = (s.length - (i + 1)) + 1 by omega]; rfl
set_option maxRecDepth 100000 in
set_option maxHeartbeats 4000000 in
theorem fields1_in (F : Fence) (n : Nat) (h28 : F.fn 28) (hro : F.round = none) (hn : 1 ≤ n) (l Bs : Nat) (s : List UInt8) (hs : ∀ c ∈ s, c < 128) (hsl : s.length ≤ 1000) (J Jx : List (List UInt8) → World → Prop)
    (hY : ∀ pre x W, J pre W → (∃ rest, pre ++ x :: rest = flds s) → YieldAt F (n - 1) Tryd.prog l #[.string (str x)] W fun e W' =>
      (e = .returned (.bool true) ∧ J (pre ++ [x]) W' ∧ KpF Bs 1 W W') ∨ (e = .returned (.bool false) ∧ Jx (pre ++ [x]) W'))
    (W : World) (hJ : AbidesFrom W.heap.size J) (hm : W.cell? ⟨Bs, 0, none⟩ = some (.string (str s))) (htab : ∀ c : UInt8, c < 128 → W.cell? ⟨1, c.toNat, none⟩ = some (.int .u8 (if isSp c then 1 else 0))) (h0 : J [] W) :
    CallsIn F n Tryd.prog 28 #[.func (.yield l) #[] #[], .pointer (some ⟨Bs, 0, none⟩)] W fun e W' => (∃ v, e = .returned v) ∧
      ((∃ xs, xs = flds s ∧ J xs W') ∨ (∃ pre, True ∧ Jx pre W')) := by
  refine callsIn_of_wp Tryd.func28 rfl h28 ?_ hro
  simp only [Tryd.ntmps28, List.size_toArray, List.length_cons, List.length_nil, Nat.reduceAdd, Nat.reduceSub, Array.replicate_succ, Array.replicate_zero, List.push_toArray, List.append_toArray, List.nil_append, List.cons_append]
  have hsz := str_size s
  have HTAB := Lib.hid htab; clear htab
  have HS := Lib.hid hs; clear hs
  gi_wp2
  gi_loopw [3, 4] (fun s3 s4 wr => ∃ (i : Nat) (st : Option Nat) (pre : List (List UInt8)), s3 = .int .i64 (stI st) ∧ s4 = .int .i64 i ∧ i ≤ s.length ∧ (∀ k, st = some k → k ≤ i) ∧ pre ++ fldF s (s.length - i) i st = flds s ∧ J pre wr ∧ wr.heap[Bs]? = W.heap[Bs]? ∧ wr.heap[1]? = W.heap[1]?)
    (fun _ s4 _ => s.length - (intOf s4).toNat)
  case atStart =>
    exact ⟨0, none, [], rfl, rfl, Nat.zero_le _, (fun k h => by cases h), rfl, h0, rfl, rfl⟩
  case round =>
    obtain ⟨i, st, pre, rfl, rfl, hi, hst, hall, hJs, hb1, hb2⟩ := hrel
    have hc := (World.cell?_of_block hb1 (a := ⟨Bs, 0, none⟩)).trans hm
    have HALL := Lib.hid hall; clear hall
    have HB1 := Lib.hid hb1; clear hb1
    have HB2 := Lib.hid hb2; clear hb2
    have HST := Lib.hid hst; clear hst
    have HJS := Lib.hid hJs; clear hJs
    by_cases hlt : i < s.length
    · obtain ⟨c, hcs⟩ : ∃ c, s[i] = c := ⟨_, rfl⟩
      have hidx : ∀ h : i < (str s).size, (str s)[i] = c := fun h => by rw [← hcs]; simp [str]; rfl
      have hcl : c < 128 := HS.out c (by rw [← hcs]; exact List.getElem_mem hlt)
      have hcn : c.toNat < 128 := UInt8.lt_iff_toNat_lt.1 hcl
      have ht := (World.cell?_of_block HB2.out (a := ⟨1, c.toNat, none⟩)).trans (HTAB.out c hcl)
      have hgd : s.getD i 0 = c := by simp [List.getD, hlt, hcs]
      have HGD := Lib.hid hgd; clear hgd hcs
      rcases hsp : isSp c with _ | _
      · rw [hsp] at ht
        cases st with
        | none =>
          simp only [stI]
          gi_wp2
          refine ⟨⟨i + 1, some i, pre, rfl, by go_num, by omega, (fun k h => by cases h; omega), ?_, HJS.out, HB1.out, HB2.out⟩, by simp [intOf]; omega⟩
          have := HALL.out
          rw [fld_none hlt, HGD.out, hsp] at this
          exact this
        | some k =>
          simp only [stI]
          have hk0 : (0 : Int) ≤ k := by omega
          gi_wp2
          refine ⟨⟨i + 1, some k, pre, rfl, by go_num, by omega, (fun k' h => by have := HST.out k' h; omega), ?_, HJS.out, HB1.out, HB2.out⟩, by simp [intOf]; omega⟩
          have := HALL.out
          rw [fld_some hlt, HGD.out, hsp] at this
          exact this
      · rw [hsp] at ht
        cases st with
        | none =>
          simp only [stI]
          gi_wp2
          refine ⟨⟨i + 1, none, pre, rfl, by go_num, by omega, (fun k h => by cases h), ?_, HJS.out, HB1.out, HB2.out⟩, by simp [intOf]; omega⟩
          have := HALL.out
          rw [fld_none hlt, HGD.out, hsp] at this
          exact this
        | some k =>
          simp only [stI]
          have hk0 : (0 : Int) ≤ k := by omega
          have hki := HST.out k rfl
          have hall := HALL.out
          rw [fld_some hlt, HGD.out, hsp] at hall
          simp only [if_true] at hall
          have hlen : ∃ rest, pre ++ (s.take i).drop k :: rest = flds s := ⟨_, hall⟩
          have hex := str_extract s k i
          obtain ⟨fn, tmps, assign, body, hy, hR⟩ := hY pre ((s.take i).drop k) wr HJS.out hlen
          have HALL2 := Lib.hid hall; clear hall hlen
          gi_wp2
          refine hR.mono ?_
          rintro e W3 (⟨rfl, hJ3, hk1, hk2⟩ | ⟨rfl, hJx3⟩)
          · have HK1 := Lib.hid hk1; clear hk1
            have HK2 := Lib.hid hk2; clear hk2
            gi_wp2
            refine ⟨⟨i + 1, none, pre ++ [(s.take i).drop k], rfl, by go_num, by omega, (fun k h => by cases h), ?_, hJ3, HK1.out.trans HB1.out, HK2.out.trans HB2.out⟩, by simp [intOf]; omega⟩
            rw [List.append_assoc]; exact HALL2.out
          · gi_wp2
            refine bodyPost_ret (results_none rfl _ _ _) rfl ?_
            exact ⟨⟨_, rfl⟩, .inr ⟨_, trivial, hJx3⟩⟩
    · have hie : i = s.length := by omega
      cases st with
      | none =>
        simp only [stI]
        gi_wp2
        go_end0
        have := HALL.out
        rw [hie, Nat.sub_self] at this
        simp only [fldF, List.append_nil] at this
        exact ⟨⟨_, rfl⟩, .inl ⟨pre, this, HJS.out⟩⟩
      | some k =>
        simp only [stI]
        have hk0 : (0 : Int) ≤ k := by omega
        have hki := HST.out k rfl
        have hall := HALL.out
        rw [hie, Nat.sub_self] at hall
        simp only [fldF, List.take_length] at hall
        have hlen : ∃ rest, pre ++ s.drop k :: rest = flds s := ⟨[], hall⟩
        have hex := str_extract s k s.length
        rw [List.take_length] at hex
        obtain ⟨fn, tmps, assign, body, hy, hR⟩ := hY pre (s.drop k) wr HJS.out hlen
        have HALL2 := Lib.hid hall; clear hall hlen
        gi_wp2
        refine hR.mono ?_
        rintro e W3 (⟨rfl, hJ3, hk1, hk2⟩ | ⟨rfl, hJx3⟩)
        · gi_wp2
          go_end0
          exact ⟨⟨_, rfl⟩, .inl ⟨_, HALL2.out, hJ3⟩⟩
        · gi_wp2
          go_end0
          exact ⟨⟨_, rfl⟩, .inr ⟨_, trivial, hJx3⟩⟩
end Go.Proofs.YtbjnbfoedicelaaDoor
