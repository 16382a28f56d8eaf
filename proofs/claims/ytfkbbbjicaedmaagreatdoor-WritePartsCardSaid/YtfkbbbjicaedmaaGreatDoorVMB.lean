/-
  Joined texts (Tm7, Tm8, Tm9, Tm10, Tm11, Tm12, Ts0, Ts1, Ts2, Ts3, Ts4, Ts5). No condition.
-/
import Derived.Test.YtfkbbbjicaedmaaGreatDoorQWrP
import Derived.Test.YtfkbbbjicaedmaaGreatDoorQWrV
import Derived.Test.YtfkbbbjicaedmaaGreatDoorQSx16
import Derived.Maps.OwnSet
import Derived.Carry
import Derived.Deep.AppendLies
import Derived.Deep.QuietTactic
import Derived.Laws.Concat
import Derived.Lib.Hide
import Derived.WalkKit
import Derived.RowKitTokens
import Derived.Deep.LoopGhost
import Derived.IntWalk
namespace Go.Proofs.YtfkbbbjicaedmaaGreatDoor
set_option linter.unusedVariables false
end Go.Proofs.YtfkbbbjicaedmaaGreatDoor
namespace Go.Proofs.YtfkbbbjicaedmaaGreatDoor
set_option linter.unusedVariables false
instance : Inhabited T := ⟨.n 0⟩
theorem T.nd_pos (t : T) : 1 ≤ t.nd := by cases t <;> simp [T.nd]
end Go.Proofs.YtfkbbbjicaedmaaGreatDoor
namespace Go.Proofs.YtfkbbbjicaedmaaGreatDoor
set_option linter.unusedVariables false
end Go.Proofs.YtfkbbbjicaedmaaGreatDoor
namespace Go.Proofs.YtfkbbbjicaedmaaGreatDoor
set_option linter.unusedVariables false
end Go.Proofs.YtfkbbbjicaedmaaGreatDoor
namespace Go.Proofs.YtfkbbbjicaedmaaGreatDoor
set_option linter.unusedVariables false
end Go.Proofs.YtfkbbbjicaedmaaGreatDoor
namespace Go.Proofs.YtfkbbbjicaedmaaGreatDoor
set_option linter.unusedVariables false
end Go.Proofs.YtfkbbbjicaedmaaGreatDoor
namespace Go.Proofs.YtfkbbbjicaedmaaGreatDoor
set_option linter.unusedVariables false
end Go.Proofs.YtfkbbbjicaedmaaGreatDoor
namespace Go.Proofs.YtfkbbbjicaedmaaGreatDoor
set_option linter.unusedVariables false
section
variable {G : List Nd} {D : Nat → T} {A B : Nat} {R : Nat → Nat} {todo : List (Nat × Nat)} {a b : Nat}
end
end Go.Proofs.YtfkbbbjicaedmaaGreatDoor
namespace Go.Proofs.YtfkbbbjicaedmaaGreatDoor
set_option linter.unusedVariables false
section
variable {G : List Nd} {D : Nat → T} {A B : Nat} {R : Nat → Nat} {a b : Nat} {t u : T}
end
end Go.Proofs.YtfkbbbjicaedmaaGreatDoor
namespace Go.Proofs.YtfkbbbjicaedmaaGreatDoor
set_option linter.unusedVariables false
end Go.Proofs.YtfkbbbjicaedmaaGreatDoor
namespace Go.Proofs.YtfkbbbjicaedmaaGreatDoor
set_option linter.unusedVariables false
section
variable {n : Nat} {s R rk : Nat → Nat} {a : Nat}
end
end Go.Proofs.YtfkbbbjicaedmaaGreatDoor
namespace Go.Proofs.YtfkbbbjicaedmaaGreatDoor
set_option linter.unusedVariables false
section
variable {G : List Nd} {D : Nat → T} {R : Nat → Nat} {a b u : Nat} {t : T}
end
end Go.Proofs.YtfkbbbjicaedmaaGreatDoor
namespace Go.Proofs.YtfkbbbjicaedmaaGreatDoor
open Go.RowKit Go.Maps
set_option linter.unusedVariables false
set_option linter.unusedSimpArgs false
section
variable {w : World} {t u : Tm} {a b : Option Addr} {c d : Nat}
end
section
variable {w w' : World} {mb n : Nat} {z : Value} {f : Int → Option Value} {X : Nat → Prop}
end
end Go.Proofs.YtfkbbbjicaedmaaGreatDoor
namespace Go.Proofs.YtfkbbbjicaedmaaGreatDoor
open Go.RowKit Go.Maps
set_option linter.unusedVariables false
set_option linter.unusedSimpArgs false
end Go.Proofs.YtfkbbbjicaedmaaGreatDoor
namespace Go.Proofs.YtfkbbbjicaedmaaGreatDoor
open Go.RowKit Go.Maps
set_option linter.unusedVariables false
set_option linter.unusedSimpArgs false
section
variable {w : World} {t : Tm} {a : Option Addr} {c : Nat} {m : Int}
end
end Go.Proofs.YtfkbbbjicaedmaaGreatDoor
namespace Go.Proofs.YtfkbbbjicaedmaaGreatDoor
open Go.RowKit Go.Maps
set_option linter.unusedVariables false
set_option linter.unusedSimpArgs false
theorem nsL_append : ∀ (ts us : List Tm), nsL (ts ++ us) = nsL ts + nsL us := by
  intro ts us
  induction ts with
  | nil => rw [nsL_nil, List.nil_append]; omega
  | cons x ts ih => rw [List.cons_append, nsL_cons, nsL_cons, ih]; omega
end Go.Proofs.YtfkbbbjicaedmaaGreatDoor
namespace Go.Proofs.YtfkbbbjicaedmaaGreatDoor
open Go.RowKit Go.Maps
set_option linter.unusedVariables false
set_option linter.unusedSimpArgs false
section
variable {w : World} {t : Tm} {a : Option Addr} {c : Nat}
end
end Go.Proofs.YtfkbbbjicaedmaaGreatDoor
namespace Go.Proofs.YtfkbbbjicaedmaaGreatDoor
open Go.RowKit Go.Maps
set_option linter.unusedVariables false
set_option linter.unusedSimpArgs false
section
variable {w : World} {t u : Tm} {a b : Option Addr} {c d : Nat}
end
end Go.Proofs.YtfkbbbjicaedmaaGreatDoor
namespace Go.Proofs.YtfkbbbjicaedmaaGreatDoor
open Go.RowKit Go.Maps
set_option linter.unusedVariables false
set_option linter.unusedSimpArgs false
end Go.Proofs.YtfkbbbjicaedmaaGreatDoor
namespace Go.Proofs.YtfkbbbjicaedmaaGreatDoor
open Go.RowKit Go.Maps
set_option linter.unusedVariables false
set_option linter.unusedSimpArgs false
def maxN (l : List Nat) : Nat := l.foldl (fun d k => if d < k then k else d) 0
def rd : Nat → Tm → Nat
  | 0, _ => 1
  | n + 1, t => if t.k = 4 then maxN (t.args.map (rd n)) + 1 else 1
theorem maxN_snoc (l : List Nat) (k : Nat) : maxN (l ++ [k]) = if maxN l < k then k else maxN l := by unfold maxN; rw [List.foldl_append]; rfl
theorem maxN_le {l : List Nat} {m : Nat} (h : ∀ x ∈ l, x ≤ m) : maxN l ≤ m := by
  have go : ∀ (l : List Nat) (d : Nat), d ≤ m → (∀ x ∈ l, x ≤ m) → l.foldl (fun d k => if d < k then k else d) d ≤ m := by
    intro l
    induction l with
    | nil => intro d h _; exact h
    | cons x l ih => intro d h h2; rw [List.foldl_cons]; exact ih _ (by have := h2 x List.mem_cons_self; split <;> omega) (fun y hy => h2 y (List.mem_cons_of_mem _ hy))
  exact go l 0 (Nat.zero_le _) h
theorem rd_le : ∀ (n : Nat) (t : Tm), rd n t ≤ n + 1 := by
  intro n
  induction n with
  | zero => intro t; exact Nat.le_refl _
  | succ n ih =>
    intro t
    rw [rd]
    split
    · have := maxN_le (l := t.args.map (rd n)) (m := n + 1) (fun x hx => by obtain ⟨y, _, rfl⟩ := List.mem_map.1 hx; exact ih y)
      omega
    · omega
set_option maxRecDepth 100000 in
set_option maxHeartbeats 4000000 in
theorem refDepth_any : ∀ (n : Nat), n ≤ 1000 → ∀ (t : Tm) (w : World) (a : Option Addr) (c : Nat), TmAt w.heap.size w t a c →
    Calls Tryz.prog 26 #[tv t a c, .int .i64 n] w fun e w' => e = .returned (.int .i64 (rd n t)) ∧ Keep (fun g => g < w.heap.size) w w' := by
  intro n
  induction n with
  | zero =>
    intro _ t w a c hT
    have k0 : Keep (fun g => g < w.heap.size) w (w.alloc (tb t a c)) := (Keep.refl _ w).alloc _
    unfold tb at k0
    have HK := Lib.hid k0; clear k0 hT
    unfold tv
    show Calls _ _ _ _ (fun e w' => e = .returned (.int .i64 1) ∧ _)
    go_enter Tryz.func26, Tryz.ntmps26
    go_wp2
    go_ret
    exact ⟨rfl, HK.out⟩
  | succ n ih =>
    intro hn t w a c hT
    have k0 : Keep (fun g => g < w.heap.size) w (w.alloc (tb t a c)) := (Keep.refl _ w).alloc _
    have hb := Blk.new w 24 #[.int .i64 t.k, .string (str t.nm), .int .i64 t.i, .slice a t.args.length c]
    have hb0 := hb
    have HT := Lib.hid hT; clear hT
    have hargs : t.args.length ≤ maxLen := by have := HT.out; cases this; assumption
    unfold maxLen at hargs
    have HIH := Lib.hid (ih (by omega)); clear ih
    obtain ⟨dv, hdv⟩ : ∃ dv, dv = rd (n + 1) t := ⟨_, rfl⟩
    rw [← hdv]
    rw [rd] at hdv
    have HD := Lib.hid hdv; clear hdv
    unfold tb at k0
    have HK := Lib.hid (And.intro k0 hb); clear k0 hb hb0
    have hn1 : ((n + 1 : Nat) : Int) = (n : Int) + 1 := by push_cast; rfl
    unfold tv
    rw [hn1]
    clear hn1
    by_cases h4 : t.k = 4
    · have hd : dv = maxN (t.args.map (rd n)) + 1 := by rw [HD.out, if_pos h4]
      have HD2 := Lib.hid hd; clear hd
      rw [h4] at HK ⊢
      obtain ⟨len, hln⟩ : ∃ len, len = t.args.length := ⟨_, rfl⟩
      rw [← hln] at HK hargs ⊢
      have HLN := Lib.hid hln; clear hln
      go_enter Tryz.func26, Tryz.ntmps26
      go_wp2_with fail
      go_loopw [5, 6] (fun d i wr => ∃ j : Nat, j ≤ len ∧ i = .int .i64 j ∧ d = .int .i64 (maxN ((t.args.take j).map (rd n)) : Nat) ∧ Keep (fun g => g < w.heap.size + 1) (w.alloc (.cells #[.int .i64 4, .string (str t.nm), .int .i64 t.i, .slice a len c] 24)) wr) (fun _ i _ => len - (intOf i).toNat)
      case atStart => exact ⟨0, Nat.zero_le _, rfl, rfl, Keep.refl _ _⟩
      case round =>
        obtain ⟨j, hj, rfl, rfl, hkr⟩ := hrel
        obtain ⟨k0, hb⟩ := HK.out
        have hbr := hb.keep hkr (by omega)
        have c3 := hbr.cell 3
        simp at c3
        have lb := hbr.lt
        have hml : maxN ((t.args.take j).map (rd n)) ≤ n + 1 := maxN_le (fun x hx => by obtain ⟨y, _, rfl⟩ := List.mem_map.1 hx; exact rd_le n y)
        by_cases hlj : j < len
        · have hjl : j < t.args.length := by rw [← HLN.out]; exact hlj
          obtain ⟨x, hx⟩ : ∃ x, t.args[j]? = some x := ⟨_, List.getElem?_eq_getElem hjl⟩
          have kw : Keep (fun g => g < w.heap.size) w wr := k0.trans (hkr.less (fun g hg => by omega))
          have hTr : TmAt w.heap.size wr t a c := HT.out.keepX kw (fun _ h => h)
          obtain ⟨b, off, ax, cx, rfl, hbB, hTx, u0, u1, u2, u3⟩ := hTr.arg hx
          simp only [← Nat.add_assoc] at u0 u1 u2 u3
          have hcall := HIH.out x wr ax cx (hTx.up (by omega))
          have hsn : maxN ((t.args.take (j + 1)).map (rd n)) = if maxN ((t.args.take j).map (rd n)) < rd n x then rd n x else maxN ((t.args.take j).map (rd n)) := by
            rw [List.take_succ_eq_append_getElem hjl, List.map_append, List.map_cons, List.map_nil, maxN_snoc]
            rw [List.getElem?_eq_getElem hjl] at hx
            rw [Option.some.inj hx]
          have hrl := rd_le n x
          have hwj : IntKind.i64.wrap ((j : Int) + 1) = (j : Int) + 1 := by rw [IntKind.wrap_i64]; omega
          have HLJ := Lib.hid hlj
          have HKR := Lib.hid hkr
          have HSN := Lib.hid hsn; clear hsn
          have hbw : b < wr.heap.size := by omega
          unfold tv at hcall
          have HC := Lib.hid hcall; clear hcall
          clear hkr hbr hTr hTx kw k0 hb hx
          generalize maxN ((t.args.take j).map (rd n)) = dd at *
          generalize rd n x = rx at *
          go_wp2_with fail
          refine HC.out.mono ?_
          rintro e w5 ⟨rfl, k5⟩
          have HK5 := Lib.hid (HKR.out.trans (k5.less (fun g hg => by have := HKR.out.size; simp at this; omega)))
          clear HC k5 HKR u0 u1 u2 u3 c3 lb hbw
          by_cases hlt : dd < rx
          · have hltz : (dd : Int) < (rx : Int) := by omega
            go_wp2_with fail
            go_roundw
            case rel => exact ⟨j + 1, (by have := HLJ.out; omega), by go_num, by rw [HSN.out, if_pos hlt], HK5.out⟩
            case measure => have := HLJ.out; simp [intOf]; omega
          · have hltz : ¬ (dd : Int) < (rx : Int) := by omega
            go_wp2_with fail
            go_roundw
            case rel => exact ⟨j + 1, (by have := HLJ.out; omega), by go_num, by rw [HSN.out, if_neg hlt], HK5.out⟩
            case measure => have := HLJ.out; simp [intOf]; omega
        · obtain rfl : j = len := by omega
          have htk : t.args.take j = t.args := by rw [HLN.out, List.take_length]
          rw [htk] at hml ⊢
          have hdv := HD2.out
          subst hdv
          have HE := Lib.hid (k0.trans (hkr.less (fun g hg => by omega)))
          clear hbr hkr k0 hb htk HD HD2 HIH
          go_wp2_with fail
          go_ret
          exact ⟨rfl, HE.out⟩
    · have hd : dv = 1 := by rw [HD.out, if_neg h4]
      subst hd
      obtain ⟨k0, hb⟩ := HK.out
      have HE := Lib.hid k0
      clear k0 hb HK HD HIH
      generalize t.k = tk at *
      have hbne : (tk != 4) = true := by simpa using h4
      go_enter Tryz.func26, Tryz.ntmps26
      go_wp2_with fail
      go_ret
      exact ⟨by simp, HE.out⟩
end Go.Proofs.YtfkbbbjicaedmaaGreatDoor
namespace Go.Proofs.YtfkbbbjicaedmaaGreatDoor
open Go.RowKit Go.Maps
set_option linter.unusedVariables false
set_option linter.unusedSimpArgs false
theorem nsL_take_le (ts : List Tm) (j : Nat) : nsL (ts.take j) ≤ nsL ts := by
  have h : nsL ts = nsL (ts.take j) + nsL (ts.drop j) := by rw [← nsL_append, List.take_append_drop]
  omega
set_option maxRecDepth 100000 in
set_option maxHeartbeats 4000000 in
theorem refSize_any : ∀ (t : Tm) (m : Nat), m ≤ 2000 → ∀ (w : World) (a : Option Addr) (c : Nat), TmAt w.heap.size w t a c →
    Calls Tryz.prog 25 #[tv t a c, .int .i64 m] w fun e w' => e = .returned (.int .i64 ((min t.ns (m + 1) : Nat) : Int)) ∧ Keep (fun g => g < w.heap.size) w w' := by
  intro t
  induction t using Tm.ind with
  | h kd nm i args ih =>
    intro m hm w a c hT
    have hargs : args.length ≤ maxLen := by cases hT; assumption
    unfold maxLen at hargs
    have k0 : Keep (fun g => g < w.heap.size) w (w.alloc (tb (.node kd nm i args) a c)) := (Keep.refl _ w).alloc _
    have hb := Blk.new w 24 #[.int .i64 (Tm.node kd nm i args).k, .string (str (Tm.node kd nm i args).nm), .int .i64 (Tm.node kd nm i args).i, .slice a (Tm.node kd nm i args).args.length c]
    have HT := Lib.hid hT; clear hT
    unfold tb at k0
    have HK := Lib.hid (And.intro k0 hb); clear k0 hb
    have HIH := Lib.hid ih; clear ih
    obtain ⟨dv, hdv⟩ : ∃ dv, dv = min (Tm.node kd nm i args).ns (m + 1) := ⟨_, rfl⟩
    rw [← hdv]
    have HD := Lib.hid hdv; clear hdv
    unfold tv
    simp only [Tm.k, Tm.nm, Tm.i, Tm.args] at HK ⊢
    by_cases h4 : kd = 4
    · subst h4
      have hd : dv = min (1 + nsL args) (m + 1) := by rw [HD.out, Tm.ns_eq, if_pos (show (Tm.node 4 nm i args).k = 4 from rfl)]; rfl
      have HD2 := Lib.hid hd; clear hd
      obtain ⟨len, hln⟩ : ∃ len, len = args.length := ⟨_, rfl⟩
      rw [← hln] at HK hargs ⊢
      have HLN := Lib.hid hln; clear hln
      go_enter Tryz.func25, Tryz.ntmps25
      go_wp2_with fail
      go_loopw [5, 6] (fun n i' wr => ∃ j : Nat, j ≤ len ∧ i' = .int .i64 j ∧ n = .int .i64 ((min (1 + nsL (args.take j)) (m + 1) : Nat) : Int) ∧ Keep (fun g => g < w.heap.size + 1) (w.alloc (.cells #[.int .i64 4, .string (str nm), .int .i64 i, .slice a len c] 24)) wr) (fun _ i' _ => len - (intOf i').toNat)
      case atStart => exact ⟨0, Nat.zero_le _, rfl, by rw [List.take_zero, nsL_nil, Nat.min_eq_left (by omega)]; rfl, Keep.refl _ _⟩
      case round =>
        obtain ⟨j, hj, rfl, rfl, hkr⟩ := hrel
        obtain ⟨k0, hb⟩ := HK.out
        have hbr := hb.keep hkr (by omega)
        have c3 := hbr.cell 3
        simp at c3
        have lb := hbr.lt
        obtain ⟨n, hn⟩ : ∃ n, n = min (1 + nsL (args.take j)) (m + 1) := ⟨_, rfl⟩
        rw [← hn]
        have hnm : n ≤ m + 1 := by omega
        have HN := Lib.hid hn; clear hn
        have kw : Keep (fun g => g < w.heap.size) w wr := k0.trans (hkr.less (fun g hg => by omega))
        by_cases hlj : j < len
        · by_cases hnn : n ≤ m
          · have hjl : j < args.length := by rw [← HLN.out]; exact hlj
            obtain ⟨x, hx⟩ : ∃ x, args[j]? = some x := ⟨_, List.getElem?_eq_getElem hjl⟩
            have hTr : TmAt w.heap.size wr (.node 4 nm i args) a c := HT.out.keepX kw (fun _ h => h)
            obtain ⟨b, off, ax, cx, rfl, hbB, hTx, u0, u1, u2, u3⟩ := hTr.arg hx
            simp only [← Nat.add_assoc] at u0 u1 u2 u3
            have hcall := HIH.out x (List.mem_of_getElem? hx) (m - n) (by omega) wr ax cx (hTx.up (by omega))
            have hsn : min (1 + nsL (args.take (j + 1))) (m + 1) = n + min x.ns (m - n + 1) := by
              rw [List.take_succ_eq_append_getElem hjl, nsL_append, nsL_cons, nsL_nil]
              rw [List.getElem?_eq_getElem hjl] at hx
              rw [Option.some.inj hx]
              have := HN.out
              omega
            have hwj : IntKind.i64.wrap ((j : Int) + 1) = (j : Int) + 1 := by rw [IntKind.wrap_i64]; omega
            have hwm : IntKind.i64.wrap ((m : Int) - (n : Int)) = ((m - n : Nat) : Int) := by rw [IntKind.wrap_i64]; omega
            have HKR := Lib.hid hkr
            have HSN := Lib.hid hsn; clear hsn
            have HLJ := Lib.hid hlj
            have hbw : b < wr.heap.size := by omega
            unfold tv at hcall
            have HC := Lib.hid hcall; clear hcall
            clear hkr hbr hTr hTx kw k0 hb hx
            have hmn : (m : Int) - (n : Int) = ((m - n : Nat) : Int) := by omega
            obtain ⟨y, hy⟩ : ∃ y, y = min x.ns (m - n + 1) := ⟨_, rfl⟩
            rw [← hy] at HC HSN
            have hyl : y ≤ m - n + 1 := by omega
            clear hy
            have hwy : IntKind.i64.wrap ((n : Int) + (y : Int)) = ((n + y : Nat) : Int) := by rw [IntKind.wrap_i64]; omega
            go_wp2_with fail
            refine HC.out.mono ?_
            rintro e w5 ⟨rfl, k5⟩
            have HK5 := Lib.hid (HKR.out.trans (k5.less (fun g hg => by have := HKR.out.size; simp at this; omega)))
            clear HC k5 HKR u0 u1 u2 u3 c3 lb hbw
            go_wp2_with fail
            go_roundw
            case rel => exact ⟨j + 1, (by have := HLJ.out; omega), by go_num, (by rw [HSN.out]; first | rfl | (push_cast; rfl) | simp), HK5.out⟩
            case measure => have := HLJ.out; simp [intOf]; omega
          · have hnm1 : n = m + 1 := by omega
            have hdv : dv = n := by
              rw [HD2.out]
              have h1 := nsL_take_le args j
              have h2 := HN.out
              omega
            have HE := Lib.hid kw
            clear hbr hkr k0 hb kw HD HD2 HIH hnm
            subst hdv
            have hltz : ¬ (dv : Int) ≤ (m : Int) := by omega
            go_wp2_with fail
            go_ret
            exact ⟨rfl, HE.out⟩
        · have hjl : j = len := by omega
          have hdv : dv = n := by
            rw [HD2.out, HN.out, hjl, HLN.out, List.take_length]
          have HE := Lib.hid kw
          clear hbr hkr k0 hb kw HD HD2 HIH hnm
          subst hdv
          go_wp2_with fail
          go_ret
          exact ⟨rfl, HE.out⟩
    · have hd : dv = 1 := by rw [HD.out, Tm.ns_eq, if_neg (show ¬ (Tm.node kd nm i args).k = 4 from h4)]; omega
      subst hd
      obtain ⟨k0, hb⟩ := HK.out
      have HE := Lib.hid k0
      clear k0 hb HK HD HIH
      have hbne : (kd == 4) = false := by simpa using h4
      go_enter Tryz.func25, Tryz.ntmps25
      go_wp2_with fail
      go_ret
      exact ⟨by simp, HE.out⟩
end Go.Proofs.YtfkbbbjicaedmaaGreatDoor
namespace Go.Proofs.YtfkbbbjicaedmaaGreatDoor
open Go.RowKit Go.Maps
set_option linter.unusedVariables false
set_option linter.unusedSimpArgs false
def Tm.pl (n : Nat) (t : Tm) : Bool := t.ok && decide (t.nd ≤ n)
theorem pl_zero (t : Tm) : t.pl 0 = false := by unfold Tm.pl; have := t.nd_pos; simp; omega
theorem ndL_le {ts : List Tm} {n : Nat} : ndL ts ≤ n ↔ ∀ x ∈ ts, x.nd ≤ n := by
  induction ts with
  | nil => rw [ndL_nil]; simp
  | cons t ts ih => rw [ndL_cons, Nat.max_le, ih]; simp
theorem pl_4 {t : Tm} (h : t.k = 4) (n : Nat) : t.pl (n + 1) = (decide (t.nm.length ≤ 64) && decide (1 ≤ t.args.length) && decide (t.args.length ≤ 8) && t.args.all (fun x => x.pl n)) := by
  unfold Tm.pl
  rw [t.ok_eq, if_neg (by omega), if_neg (by omega), if_pos h, t.nd_eq, if_pos h]
  apply Bool.eq_iff_iff.2
  simp only [Bool.and_eq_true, decide_eq_true_eq, okL_all, List.all_eq_true]
  rw [show (1 + ndL t.args ≤ n + 1) ↔ ndL t.args ≤ n by omega, ndL_le]
  constructor
  · rintro ⟨⟨⟨⟨h1, h2⟩, h3⟩, h4⟩, h5⟩; exact ⟨⟨⟨h4, h1⟩, h2⟩, fun x hx => ⟨h3 x hx, h5 x hx⟩⟩
  · rintro ⟨⟨⟨h4, h1⟩, h2⟩, h⟩; exact ⟨⟨⟨⟨h1, h2⟩, fun x hx => (h x hx).1⟩, h4⟩, fun x hx => (h x hx).2⟩
theorem pl_1 {t : Tm} (h : t.k = 1) (n : Nat) : t.pl (n + 1) = decide (1 ≤ t.i) := by
  unfold Tm.pl; rw [t.ok_eq, if_pos h, t.nd_eq, if_neg (by omega)]; simp
theorem pl_2 {t : Tm} (h : t.k = 2) (n : Nat) : t.pl (n + 1) = true := by
  unfold Tm.pl; rw [t.ok_eq, if_neg (by omega), if_pos h, t.nd_eq, if_neg (by omega)]; simp
theorem pl_3 {t : Tm} (h : t.k = 3) (n : Nat) : t.pl (n + 1) = decide (t.nm.length ≤ 64) := by
  unfold Tm.pl; rw [t.ok_eq, if_neg (by omega), if_neg (by omega), if_neg (by omega), if_pos h, t.nd_eq, if_neg (by omega)]; simp
theorem pl_no {t : Tm} (h1 : t.k ≠ 1) (h2 : t.k ≠ 2) (h3 : t.k ≠ 3) (h4 : t.k ≠ 4) (n : Nat) : t.pl n = false := by
  unfold Tm.pl; rw [t.ok_eq, if_neg h1, if_neg h2, if_neg h4, if_neg h3]; simp
theorem pl_right (t : Tm) : t.right = true ↔ t.ns ≤ 2000 ∧ t.pl 100 = true := by
  rw [right_of]; unfold Tm.Right Tm.pl; simp only [Bool.and_eq_true, decide_eq_true_eq]
  exact ⟨fun ⟨a, b, c⟩ => ⟨b, a, c⟩, fun ⟨a, b, c⟩ => ⟨b, a, c⟩⟩
set_option maxRecDepth 100000 in
set_option maxHeartbeats 4000000 in
theorem plain_any : ∀ (n : Nat), n ≤ 1000 → ∀ (t : Tm) (w : World) (a : Option Addr) (c : Nat), TmAt w.heap.size w t a c →
    Calls Tryz.prog 27 #[tv t a c, .int .i64 n] w fun e w' => e = .returned (.bool (t.pl n)) ∧ Keep (fun g => g < w.heap.size) w w' := by
  intro n
  induction n with
  | zero =>
    intro _ t w a c hT
    have k0 : Keep (fun g => g < w.heap.size) w (w.alloc (tb t a c)) := (Keep.refl _ w).alloc _
    unfold tb at k0
    have HK := Lib.hid k0; clear k0 hT
    unfold tv
    rw [pl_zero]
    show Calls _ _ #[_, .int .i64 0] _ _
    go_enter Tryz.func27, Tryz.ntmps27
    go_wp2
    go_ret
    exact ⟨rfl, HK.out⟩
  | succ n ih =>
    intro hn t w a c hT
    have k0 : Keep (fun g => g < w.heap.size) w (w.alloc (tb t a c)) := (Keep.refl _ w).alloc _
    have hb := Blk.new w 24 #[.int .i64 t.k, .string (str t.nm), .int .i64 t.i, .slice a t.args.length c]
    have HT := Lib.hid hT; clear hT
    have HIH := Lib.hid (ih (by omega)); clear ih
    obtain ⟨bv, hbv⟩ : ∃ bv, bv = t.pl (n + 1) := ⟨_, rfl⟩
    rw [← hbv]
    have HB := Lib.hid hbv; clear hbv
    unfold tb at k0
    have HK := Lib.hid (And.intro k0 hb); clear k0 hb
    have hn1 : ((n + 1 : Nat) : Int) = (n : Int) + 1 := by push_cast; rfl
    have hsz := str_size t.nm
    unfold tv
    rw [hn1]
    clear hn1
    by_cases h1 : t.k = 1
    · have hd : bv = decide (1 ≤ t.i) := by rw [HB.out, pl_1 h1]
      subst hd
      rw [h1] at HK ⊢
      have HE := Lib.hid HK.out.1; clear HB HK HT HIH
      go_enter Tryz.func27, Tryz.ntmps27
      go_wp2
      go_ret
      exact ⟨by simp, HE.out⟩
    by_cases h2 : t.k = 2
    · have hd : bv = true := by rw [HB.out, pl_2 h2]
      subst hd
      rw [h2] at HK ⊢
      have HE := Lib.hid HK.out.1; clear HB HK HT HIH
      go_enter Tryz.func27, Tryz.ntmps27
      go_wp2
      go_ret
      exact ⟨by simp, HE.out⟩
    by_cases h3 : t.k = 3
    · have hd : bv = decide (t.nm.length ≤ 64) := by rw [HB.out, pl_3 h3]
      subst hd
      rw [h3] at HK ⊢
      have HE := Lib.hid HK.out.1; clear HB HK HT HIH
      have hl64 : decide (((str t.nm).size : Int) ≤ 64) = decide (t.nm.length ≤ 64) := by rw [hsz]; by_cases h : t.nm.length ≤ 64 <;> simp [h] <;> omega
      go_enter Tryz.func27, Tryz.ntmps27
      go_wp2
      go_ret
      refine ⟨?_, HE.out⟩
      by_cases h : t.nm.length ≤ 64 <;> simp [h, hsz] <;> omega
    by_cases h4 : t.k = 4
    · have hargs : t.args.length ≤ maxLen := by have := HT.out; cases this; assumption
      unfold maxLen at hargs
      have hd := pl_4 h4 n
      rw [← HB.out] at hd
      have HD := Lib.hid hd; clear hd HB
      rw [h4] at HK ⊢
      obtain ⟨len, hln⟩ : ∃ len, len = t.args.length := ⟨_, rfl⟩
      rw [← hln] at HK HD hargs ⊢
      have HLN := Lib.hid hln; clear hln
      by_cases hbad : t.nm.length ≤ 64 ∧ 1 ≤ len ∧ len ≤ 8
      · obtain ⟨g1, g2, g3⟩ := hbad
        have hd := HD.out
        rw [decide_eq_true g1, decide_eq_true g2, decide_eq_true g3] at hd
        simp only [Bool.true_and] at hd
        have HD2 := Lib.hid hd; clear hd
        have hsz64 : ¬ (64 : Int) < ((str t.nm).size : Int) := by rw [hsz]; omega
        have hl1 : ¬ (len : Int) < 1 := by omega
        have hl8 : ¬ (8 : Int) < (len : Int) := by omega
        go_enter Tryz.func27, Tryz.ntmps27
        go_wp2_with fail
        go_loopw [5] (fun i wr => ∃ j : Nat, j ≤ len ∧ i = .int .i64 j ∧ (∀ x ∈ t.args.take j, x.pl n = true) ∧ Keep (fun g => g < w.heap.size + 1) (w.alloc (.cells #[.int .i64 4, .string (str t.nm), .int .i64 t.i, .slice a len c] 24)) wr) (fun i _ => len - (intOf i).toNat)
        case atStart => exact ⟨0, Nat.zero_le _, rfl, by simp, Keep.refl _ _⟩
        case round =>
          obtain ⟨j, hj, rfl, hall, hkr⟩ := hrel
          obtain ⟨k0, hb⟩ := HK.out
          have hbr := hb.keep hkr (by omega)
          have c3 := hbr.cell 3
          simp at c3
          have lb := hbr.lt
          have kw : Keep (fun g => g < w.heap.size) w wr := k0.trans (hkr.less (fun g hg => by omega))
          by_cases hlj : j < len
          · have hjl : j < t.args.length := by rw [← HLN.out]; exact hlj
            obtain ⟨x, hx⟩ : ∃ x, t.args[j]? = some x := ⟨_, List.getElem?_eq_getElem hjl⟩
            have hTr : TmAt w.heap.size wr t a c := HT.out.keepX kw (fun _ h => h)
            obtain ⟨b, off, ax, cx, rfl, hbB, hTx, u0, u1, u2, u3⟩ := hTr.arg hx
            simp only [← Nat.add_assoc] at u0 u1 u2 u3
            have hcall := HIH.out x wr ax cx (hTx.up (by omega))
            have hsn : x.pl n = true → ∀ y ∈ t.args.take (j + 1), y.pl n = true := fun hp y hy => by
              rw [List.take_succ_eq_append_getElem hjl] at hy
              rw [List.getElem?_eq_getElem hjl] at hx
              rcases List.mem_append.1 hy with hy | hy
              · exact hall y hy
              · simp only [List.mem_singleton] at hy; rw [hy, Option.some.inj hx]; exact hp
            have hbd : x.pl n = false → bv = false := fun hp => by
              rw [HD2.out, List.all_eq_false]
              exact ⟨x, List.mem_of_getElem? hx, by rw [hp]; decide⟩
            have hwj : IntKind.i64.wrap ((j : Int) + 1) = (j : Int) + 1 := by rw [IntKind.wrap_i64]; omega
            have hwn : IntKind.i64.wrap ((n : Int) + 1 - 1) = (n : Int) := by rw [IntKind.wrap_i64]; omega
            have HKR := Lib.hid hkr
            have HKW := Lib.hid kw
            have HSN := Lib.hid hsn; clear hsn
            have HBD := Lib.hid hbd; clear hbd
            have HLJ := Lib.hid hlj
            have hbw : b < wr.heap.size := by omega
            unfold tv at hcall
            have HC := Lib.hid hcall; clear hcall
            clear hkr hbr hTr hTx kw k0 hb hx hall
            generalize x.pl n = px at *
            go_wp2_with fail
            refine HC.out.mono ?_
            rintro e w5 ⟨rfl, k5⟩
            have HK5 := Lib.hid (HKR.out.trans (k5.less (fun g hg => by have := HKR.out.size; simp at this; omega)))
            have HKE := Lib.hid (HKW.out.trans (k5.less (fun g hg => by have := HKW.out.size; omega)))
            clear HC k5 HKR HKW u0 u1 u2 u3 c3 lb hbw
            cases px with
            | true =>
              go_wp2_with fail
              go_roundw
              case rel => exact ⟨j + 1, (by have := HLJ.out; omega), by go_num, HSN.out (by simp), HK5.out⟩
              case measure => have := HLJ.out; simp [intOf]; omega
            | false =>
              have hbv := HBD.out rfl
              subst hbv
              clear HD HD2 HSN HBD HK5
              go_wp2_with fail
              go_ret
              exact ⟨rfl, HKE.out⟩
          · have hjl : j = len := by omega
            have hbv : bv = true := by
              rw [HD2.out, List.all_eq_true]
              rw [hjl, HLN.out, List.take_length] at hall
              exact hall
            subst hbv
            have HE := Lib.hid kw
            clear hbr hkr k0 hb kw HD HD2 HIH hall
            go_wp2_with fail
            go_ret
            exact ⟨rfl, HE.out⟩
      · have hbv : bv = false := by
          have hd := HD.out
          rw [hd]
          by_cases g1 : t.nm.length ≤ 64
          · by_cases g2 : 1 ≤ len
            · have g3 : ¬ len ≤ 8 := fun g3 => hbad ⟨g1, g2, g3⟩
              simp [g3]
            · simp [g2]
          · simp [g1]
        subst hbv
        have HE := Lib.hid HK.out.1
        have hsz2 : ((str t.nm).size : Int) = (t.nm.length : Int) := by rw [hsz]
        generalize t.nm.length = nl at *
        generalize str t.nm = s at *
        clear HK HD HIH HT HLN
        by_cases g1 : (64 : Int) < (s.size : Int)
        · go_enter Tryz.func27, Tryz.ntmps27
          go_wp2_with fail
          go_ret
          exact ⟨rfl, HE.out⟩
        · by_cases g2 : (len : Int) < 1
          · go_enter Tryz.func27, Tryz.ntmps27
            go_wp2_with fail
            go_ret
            exact ⟨rfl, HE.out⟩
          · have g3 : (8 : Int) < (len : Int) := by omega
            clear hbad
            go_enter Tryz.func27, Tryz.ntmps27
            go_wp2_with fail
            go_ret
            exact ⟨rfl, HE.out⟩
    · have hbv : bv = false := by rw [HB.out, pl_no h1 h2 h3 h4]
      subst hbv
      have HE := Lib.hid HK.out.1
      have e1 : (t.k == 1) = false := by simpa using h1
      have e2 : (t.k == 2) = false := by simpa using h2
      have e3 : (t.k == 3) = false := by simpa using h3
      have e4 : (t.k == 4) = false := by simpa using h4
      generalize t.k = kd at *
      clear HB HK HT HIH
      go_enter Tryz.func27, Tryz.ntmps27
      go_wp2_with fail
      go_ret
      exact ⟨rfl, HE.out⟩
end Go.Proofs.YtfkbbbjicaedmaaGreatDoor
namespace Go.Proofs.YtfkbbbjicaedmaaGreatDoor
open Go.RowKit Go.Maps
set_option linter.unusedVariables false
set_option linter.unusedSimpArgs false
theorem rd_nd : ∀ (n : Nat) (t : Tm), rd n t ≤ t.nd := by
  intro n
  induction n with
  | zero => intro t; exact t.nd_pos
  | succ n ih =>
    intro t
    rw [rd, t.nd_eq]
    split
    · have := maxN_le (l := t.args.map (rd n)) (m := ndL t.args) (fun x hx => by
        obtain ⟨y, hy, rfl⟩ := List.mem_map.1 hx
        exact Nat.le_trans (ih y) (ndL_le.1 (Nat.le_refl _) y hy))
      omega
    · omega
set_option maxRecDepth 100000 in
set_option maxHeartbeats 4000000 in
theorem refRight_any {w : World} {t : Tm} {a : Option Addr} {c : Nat} (hT : TmAt w.heap.size w t a c) :
    Calls Tryz.prog 9 #[tv t a c] w fun e w' => e = .returned (.bool t.right) ∧ Keep (fun g => g < w.heap.size) w w' := by
  have k0 : Keep (fun g => g < w.heap.size) w (w.alloc (tb t a c)) := (Keep.refl _ w).alloc _
  have hb := Blk.new w 24 #[.int .i64 t.k, .string (str t.nm), .int .i64 t.i, .slice a t.args.length c]
  obtain ⟨w0, hw0⟩ : ∃ w0, w0 = w.alloc (tb t a c) := ⟨_, rfl⟩
  rw [← hw0] at k0 hb
  have hz0 : w0.heap.size = w.heap.size + 1 := by rw [hw0]; simp
  have hall : ∀ W, Keep (fun g => g < w0.heap.size) w0 W → TmAt W.heap.size W t a c ∧ Blk W w.heap.size 24 #[.int .i64 t.k, .string (str t.nm), .int .i64 t.i, .slice a t.args.length c] ∧ Keep (fun g => g < w.heap.size) w W := fun W hW =>
    ⟨hT.on (k0.onto hW), hb.keep hW hb.lt, k0.onto hW⟩
  have HALL := Lib.hid hall; clear hall
  have hS := refSize_any t 2000 (by omega) w0 a c (HALL.out w0 (Keep.refl _ _)).1
  have e2 : ((2000 : Nat) : Int) = 2000 := rfl
  rw [e2] at hS
  have hD := fun W (h : Keep (fun g => g < w0.heap.size) w0 W) => refDepth_any 101 (by omega) t W a c (HALL.out W h).1
  have e3 : ((101 : Nat) : Int) = 101 := rfl
  rw [e3] at hD
  have hP := fun W (h : Keep (fun g => g < w0.heap.size) w0 W) => plain_any 100 (by omega) t W a c (HALL.out W h).1
  have e4 : ((100 : Nat) : Int) = 100 := rfl
  rw [e4] at hP
  obtain ⟨bv, hbv⟩ : ∃ bv, bv = t.right := ⟨_, rfl⟩
  rw [← hbv]
  have hr := pl_right t
  rw [← hbv] at hr
  have hdn := rd_nd 101 t
  have hnd : t.pl 100 = true → t.nd ≤ 100 := fun h => by unfold Tm.pl at h; simp only [Bool.and_eq_true, decide_eq_true_eq] at h; exact h.2
  have HR := Lib.hid hr; clear hr hbv
  unfold tv at hS hD hP
  have HS := Lib.hid hS; clear hS
  have HD := Lib.hid hD; clear hD
  have HP := Lib.hid hP; clear hP
  have HN := Lib.hid hnd; clear hnd
  clear e2 e3 e4 hT hb k0
  unfold tb at hw0
  have HW0 := Lib.hid hw0; clear hw0
  unfold tv
  go_enter Tryz.func9, Tryz.ntmps9
  go_wp2_with fail
  rw [← HW0.out]
  refine HS.out.mono ?_
  rintro e w1 ⟨rfl, k1⟩
  obtain ⟨-, b1, kw1⟩ := HALL.out w1 k1
  have c0 := b1.cell 0; have c1 := b1.cell 1; have c2 := b1.cell 2; have c3 := b1.cell 3
  simp at c0 c1 c2 c3
  have l1 := b1.lt
  have HK1 := Lib.hid k1
  have HKW := Lib.hid kw1
  clear b1 k1 kw1
  by_cases hs : t.ns ≤ 2000
  · have hmin : min t.ns (2000 + 1) = t.ns := by omega
    rw [hmin]
    have hle : ((t.ns : Nat) : Int) ≤ 2000 := by omega
    go_wp2_with fail
    refine (HD.out w1 HK1.out).mono ?_
    rintro e w2 ⟨rfl, k2⟩
    have HK2 := Lib.hid (HK1.out.onto k2)
    obtain ⟨-, b1, kw2⟩ := HALL.out w2 HK2.out
    clear c0 c1 c2 c3 l1
    have c0 := b1.cell 0; have c1 := b1.cell 1; have c2 := b1.cell 2; have c3 := b1.cell 3
    simp at c0 c1 c2 c3
    have l1 := b1.lt
    have HKW2 := Lib.hid kw2
    clear b1 k2 kw2
    by_cases hd : rd 101 t ≤ 100
    · have hdle : ((rd 101 t : Nat) : Int) ≤ 100 := by omega
      go_wp2_with fail
      refine (HP.out w2 HK2.out).mono ?_
      rintro e w3 ⟨rfl, k3⟩
      have hbv : bv = t.pl 100 := by
        cases hb : bv with
        | true => exact ((HR.out.1 hb).2).symm
        | false => cases hp : t.pl 100 with
          | false => rfl
          | true => have := HR.out.2 ⟨hs, hp⟩; rw [hb] at this; cases this
      have HE := Lib.hid (HALL.out w3 (HK2.out.onto k3)).2.2
      clear k3
      rw [← hbv]
      clear hbv HR HN
      cases bv
      all_goals
        go_wp2_with fail
        go_ret
        refine ⟨?_, HE.out⟩
        first | rfl | simp | (simp; omega)
    · have hbv : bv = false := by
        cases hb : bv with
        | false => rfl
        | true => have := HN.out (HR.out.1 hb).2; omega
      subst hbv
      have hdle : ¬ ((rd 101 t : Nat) : Int) ≤ 100 := by omega
      go_wp2_with fail
      go_ret
      exact ⟨rfl, HKW2.out⟩
  · have hmin : min t.ns (2000 + 1) = 2001 := by omega
    rw [hmin]
    have hbv : bv = false := by
      cases hb : bv with
      | false => rfl
      | true => exact absurd (HR.out.1 hb).1 hs
    subst hbv
    have e5 : ((2001 : Nat) : Int) = 2001 := rfl
    rw [e5]
    go_wp2_with fail
    go_ret
    exact ⟨rfl, HKW.out⟩
end Go.Proofs.YtfkbbbjicaedmaaGreatDoor
namespace Go.Proofs.YtfkbbbjicaedmaaGreatDoor
open Go.RowKit Go.Maps
set_option linter.unusedVariables false
set_option linter.unusedSimpArgs false
end Go.Proofs.YtfkbbbjicaedmaaGreatDoor
namespace Go.Proofs.YtfkbbbjicaedmaaGreatDoor
set_option linter.unusedVariables false
theorem itF_more : ∀ (n m : Nat) (t : T), t.nd ≤ n → t.nd ≤ m → itF n t = itF m t := by
  intro n
  induction n with
  | zero => intro m t h; have := t.nd_pos; omega
  | succ n ih =>
    intro m t hn hm
    cases m with
    | zero => have := t.nd_pos; omega
    | succ m =>
      match t with
      | .v _ => rfl
      | .n _ => rfl
      | .a _ => rfl
      | .c nm [] => rfl
      | .c nm [x] => rfl
      | .c nm [x, l] =>
        rw [T.nd_c, ndT_cons, ndT_cons, ndT_nil] at hn hm
        by_cases h : nm = [46]
        · simp only [itF, if_pos h]
          rw [ih m l (by omega) (by omega)]
        · simp only [itF, if_neg h]
      | .c nm (x :: y :: z :: r) => rfl
theorem lsT_items : ∀ (ts : List Tm) (u : Tm), (lsT ts u).tree.items = (ts.map Tm.tree ++ u.tree.items.1, u.tree.items.2) := by
  intro ts
  induction ts with
  | nil => intro u; rfl
  | cons x xs ih =>
    intro u
    have e : (lsT (x :: xs) u).tree = .c [46] [x.tree, (lsT xs u).tree] := tree_4 (t := .node 4 [46] 0 [x, lsT xs u]) rfl
    unfold T.items
    rw [e]
    have hnd : (T.c [46] [x.tree, (lsT xs u).tree]).nd = (max x.tree.nd (max (lsT xs u).tree.nd 0)) + 1 := by
      rw [T.nd_c, ndT_cons, ndT_cons, ndT_nil]; omega
    rw [hnd]
    simp only [itF, if_true]
    rw [itF_more _ (lsT xs u).tree.nd (lsT xs u).tree (by omega) (Nat.le_refl _)]
    have := ih u
    unfold T.items at this
    rw [this]; rfl
end Go.Proofs.YtfkbbbjicaedmaaGreatDoor
namespace Go.Proofs.YtfkbbbjicaedmaaGreatDoor
open Go.RowKit Go.Maps
set_option linter.unusedVariables false
set_option linter.unusedSimpArgs false
theorem tm_of_sl {B : Nat} {w : World} {a : Option Addr} {c : Nat} {nm : List UInt8} {ps : List TP} (h : TmSl B w a ps) (hn : nm.length ≤ maxLen) (hl : ps.length ≤ maxLen) : TmAt B w (.node 4 nm 0 (ps.map (·.1))) a c := by
  refine .mk _ _ _ (fun j => (ps.getD j (default, none, 0)).2.1) (fun j => (ps.getD j (default, none, 0)).2.2) (by show (Lit.int .i64 4).wf = true; decide) (by show (Lit.int .i64 0).wf = true; decide) hn (by show (ps.map _).length ≤ maxLen; rw [List.length_map]; exact hl) (fun j x hj => ?_) (fun j x hj => ?_)
  all_goals
    change (ps.map (·.1))[j]? = some x at hj
    rw [List.getElem?_map] at hj
    obtain ⟨p, hp, rfl⟩ := Option.map_eq_some_iff.1 hj
    have hp' : ps.getD j (default, none, 0) = p := by rw [List.getD_eq_getElem?_getD, hp]; rfl
    obtain ⟨h1, h2⟩ := h j p hp
    rw [hp']
  · exact h1
  · exact h2
theorem txV_good {t : Tm} (h : (txV t).2 = 0) : t.right = true ∧ t.tree.tell = true ∧ (txV t).1 = t.tree.tx bareC := by
  unfold txV at h ⊢
  split at h
  · rename_i hr
    split at h
    · rename_i ht
      rw [if_pos hr, if_pos ht]
      exact ⟨hr, ht, rfl⟩
    · cases h
  · cases h
theorem txV_is {t : Tm} (hr : t.right = true) (ht : t.tree.tell = true) : txV t = (t.tree.tx bareC, 0) := by
  unfold txV
  rw [if_pos hr, if_pos ht]
theorem txV_bad {t : Tm} (h : (txV t).2 ≠ 0) : (txV t).1 = [] := by
  unfold txV at h ⊢
  split at h
  · rename_i hr
    split at h
    · exact absurd rfl h
    · rename_i ht
      rw [if_pos hr, if_neg ht]
  · rename_i hr
    rw [if_neg hr]
theorem txV_unright {t : Tm} (h : t.right = false) : (txV t).2 = 70 := by
  unfold txV
  rw [if_neg (by rw [h]; decide)]
section
variable {nm : List UInt8} {ts : List Tm}
theorem parts_of (h : (txV (.node 4 nm 0 ts)).2 = 0) : nm.length ≤ 64 ∧ 1 ≤ ts.length ∧ ts.length ≤ 8 ∧ tellX nm = true ∧ (∀ x ∈ ts, x.right = true ∧ x.tree.tell = true) := by
  obtain ⟨hr, ht, _⟩ := txV_good h
  have hok := (right_of.1 hr).1
  obtain ⟨h1, h2, _, h4⟩ := Tm.ok_args hok rfl
  rw [tree_4 rfl, T.tell, tellL_all, Bool.and_eq_true, List.all_eq_true] at ht
  exact ⟨h4, h1, h2, ht.1, fun x hx => ⟨part_right' hr rfl hx, ht.2 _ (List.mem_map_of_mem hx)⟩⟩
theorem part_is (h : (txV (.node 4 nm 0 ts)).2 = 0) {x : Tm} (hx : x ∈ ts) : txV x = (x.tree.tx bareC, 0) :=
  txV_is ((parts_of h).2.2.2.2 x hx).1 ((parts_of h).2.2.2.2 x hx).2
theorem comp_is (h : (txV (.node 4 nm 0 ts)).2 = 0) (hd : ¬ (nm = [46] ∧ ts.length = 2)) : (txV (.node 4 nm 0 ts)).1 = funX bareC nm ++ 40 :: (joinX (ts.map fun x => x.tree.tx bareC) ++ [41]) := by
  rw [(txV_good h).2.2, tree_4 rfl, tx_comp bareC (by rw [List.length_map]; exact hd), List.map_map]
  rfl
theorem name_is (h : (txV (.node 4 nm 0 ts)).2 = 0) (h1 : nm ≠ [91, 93]) (h2 : nm ≠ [123, 125]) : nmV nm = (funX bareC nm, 0) := by
  obtain ⟨h3, _, _, h4, _⟩ := parts_of h
  unfold nmV
  rw [if_neg (by omega), if_pos h4]
  unfold atmX
  rw [if_neg (fun h => h.elim h1 h2)]
theorem ls_meas (e f : Tm) (h1 : e.ok = f.ok) (h2 : e.ns = f.ns) (h3 : e.nd = f.nd) : ∀ ts : List Tm, (lsT ts e).ok = (lsT ts f).ok ∧ (lsT ts e).ns = (lsT ts f).ns ∧ (lsT ts e).nd = (lsT ts f).nd
  | [] => ⟨h1, h2, h3⟩
  | x :: ts => by
    obtain ⟨i1, i2, i3⟩ := ls_meas e f h1 h2 h3 ts
    show (Tm.node 4 [46] 0 [x, lsT ts e]).ok = (Tm.node 4 [46] 0 [x, lsT ts f]).ok ∧ (Tm.node 4 [46] 0 [x, lsT ts e]).ns = (Tm.node 4 [46] 0 [x, lsT ts f]).ns ∧ (Tm.node 4 [46] 0 [x, lsT ts e]).nd = (Tm.node 4 [46] 0 [x, lsT ts f]).nd
    simp [Tm.ok, okL, Tm.ns, nsL, Tm.nd, ndL, i1, i2, i3]
theorem ls_same (ts : List Tm) : (lsT ts (.node 2 [] 7 [])).right = (lsT ts (.node 3 [91, 93] 0 [])).right := by
  obtain ⟨h1, h2, h3⟩ := ls_meas (.node 2 [] 7 []) (.node 3 [91, 93] 0 []) (by decide) (by decide) (by decide) ts
  rw [Bool.eq_iff_iff, right_of, right_of]
  unfold Tm.Right
  rw [h1, h2, h3]
theorem ls_tell {e : Tm} (he : e.tree.tell = true) : ∀ {ts : List Tm}, (∀ x ∈ ts, x.tree.tell = true) → (lsT ts e).tree.tell = true
  | [], _ => he
  | x :: ts, h => by
    have ih := ls_tell he (ts := ts) fun y hy => h y (List.mem_cons_of_mem _ hy)
    show (Tm.node 4 [46] 0 [x, lsT ts e]).tree.tell = true
    rw [tree_4 rfl, T.tell, tellL_all]
    show (tellX [46] && [x.tree, (lsT ts e).tree].all T.tell) = true
    simp [h x (List.mem_cons_self ..), ih]
    decide
theorem ls_tx {e : Tm} (h : ts ≠ []) : ((lsT ts e).tree).tx bareC = 91 :: (joinX ((ts.map fun x => x.tree.tx bareC) ++ (e.tree.items.1.map (T.tx bareC))) ++ endX (T.tx bareC) e.tree.items.2) := by
  have hi := lsT_items ts e
  match ts, h with
  | x :: l, _ =>
    have e1 : (lsT (x :: l) e).tree = .c [46] [x.tree, (lsT l e).tree] := tree_4 rfl
    rw [e1] at hi ⊢
    rw [tx_list bareC ⟨rfl, rfl⟩, hi, List.map_append, List.map_map]
    rfl
theorem lsA_is (hts : ts ≠ []) (ht : ∀ x ∈ ts, x.tree.tell = true) (hr : (lsT ts (.node 3 [91, 93] 0 [])).right = true) : txV (lsT ts (.node 3 [91, 93] 0 [])) = (91 :: (joinX (ts.map fun x => x.tree.tx bareC) ++ [93]), 0) := by
  rw [txV_is hr (ls_tell (by decide) ht), ls_tx hts]
  rw [show ((Tm.node 3 [91, 93] 0 []).tree).items = ([], .a [91, 93]) by rfl, List.map_nil, List.append_nil]
  rfl
theorem lsN_is (hts : ts ≠ []) (ht : ∀ x ∈ ts, x.tree.tell = true) (hr : (lsT ts (.node 3 [91, 93] 0 [])).right = true) : txV (lsT ts (.node 2 [] 7 [])) = (91 :: (joinX (ts.map fun x => x.tree.tx bareC) ++ [124, 55, 93]), 0) := by
  rw [txV_is (by rw [ls_same]; exact hr) (ls_tell (by decide) ht), ls_tx hts]
  rw [show ((Tm.node 2 [] 7 []).tree).items = ([], .n 7) by rfl, List.map_nil, List.append_nil]
  have e : endX (T.tx bareC) (.n 7) = [124, 55, 93] := by kernel_rfl
  show (91 :: (_ ++ endX (T.tx bareC) (.n 7)), (0 : Int)) = _
  rw [e]
end
end Go.Proofs.YtfkbbbjicaedmaaGreatDoor
namespace Go.Proofs.YtfkbbbjicaedmaaGreatDoor
open Go.RowKit Go.Maps
set_option linter.unusedVariables false
set_option linter.unusedSimpArgs false
theorem app_str (a b : List UInt8) : str a ++ str b = str (a ++ b) := by
  apply ByteArray.ext
  simp [str]
end Go.Proofs.YtfkbbbjicaedmaaGreatDoor
