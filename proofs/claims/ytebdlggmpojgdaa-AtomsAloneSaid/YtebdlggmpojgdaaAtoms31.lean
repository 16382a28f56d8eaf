/-
  AtomsFree's walk: whatever is there before and is begun, in whatever order the operations are picked, one is over within the promised steps. Conditions: lengths as the form's reach has them.
-/
import Derived.Test.YtebdlggmpojgdaaAtoms28
import Derived.Test.YtebdlggmpojgdaaAtoms30
namespace Go.Proofs.Ytebdlggmpojgdaa
open Go.RowKit Go.Maps
set_option linter.unusedVariables false

theorem infoPtr : (Try.prog.info? 31).map (fun i => (i.zero, i.size, i.bytes)) = some (some (.pointer none), 1, 8) := by kernel_rfl
theorem ptr_oneCell (p : Nat) : ∀ u ∈ [Value.pointer (some ⟨p, 0, none⟩)], u.oneCell' = true := by simp [Value.oneCell']
theorem cell_one_ptr (w : World) (v : Value) (t : TypeId) (hv : v.oneCell' = true) : ∀ (j : Nat) u, [v][j]? = some u → (w.alloc (Obj.cells #[v] t)).cell? ((⟨w.heap.size, 0, none⟩ : Addr).add j) = some u := by
  intro j u hj
  rcases j with _ | j
  · obtain rfl : v = u := by simpa using hj
    simp [Addr.add]
  · simp at hj
/-- The names that are there before. -/
def RB (w w1 : World) (X : Nat → Prop) (pa pt nb : Nat) (len : Nat) (g : Nat) (i : Value) (wr : World) : Prop :=
  ∃ (k : Nat) (A : AS) (T : TS) (P : List Int) (m : Int) (B : Nat), k ≤ len ∧ len - k ≤ g ∧ i = .int .i64 k ∧ B ≤ 65 + min k 40 ∧ AInv A T P m [] B 65536 ∧ Tab wr X pa pt nb A T ∧ Keep (fun k => k < w.heap.size) w1 wr
/-- The operations that are begun. -/
def RN (wb : World) (pt : Nat) (A : AS) (T : TS) (P : List Int) (m : Int) (B : Nat) (len : Nat) (g : Nat) (ops i : Value) (wr : World) : Prop :=
  ∃ (k : Nat) (os : List OS) (pos : List Nat), k ≤ len ∧ len - k ≤ g ∧ i = .int .i64 k ∧ os.length = min k 12 ∧ Bg wb wr pt A T P m os pos B 65536 ops
/-- The operations that are stepped. -/
def RP (w w1 : World) (X : Nat → Prop) (pa pt nb g : Nat) (pos : List Nat) (n : Nat) (B : Nat) (gk : Nat) (live bound k : Value) (wr : World) : Prop :=
  ∃ (A : AS) (T : TS) (P : List Int) (m : Int) (os : List OS) (q : Nat) (b : Nat), Many wr X pa pt nb A T P m os pos B 65536 ∧ Ops wr X nb g pos ∧ os.length = n ∧
    live = .int .i64 (lives os) ∧ bound = .int .i64 b ∧ k = .int .i64 q ∧ pots P.length P m os ≤ b ∧ b ≤ 20000 ∧ lives os * 100000 + b ≤ gk ∧ q + gk ≤ 3000000 ∧ Keep (fun k => k < w.heap.size) w1 wr
/-- Who is found. -/
def RF (wr0 : World) (pos : List Nat) (p n d : Nat) (g : Nat) (o i : Value) (wr : World) : Prop :=
  ∃ (c j po : Nat), wr = wr0 ∧ o = .pointer (some ⟨po, 0, none⟩) ∧ i = .int .i64 j ∧ pos[c]? = some po ∧ c < n ∧ (j = 0 ∧ c = p % n ∨ ∃ j', j = j' + 1 ∧ j' ≤ d ∧ c = (p + j') % n) ∧ d + 1 - j ≤ g ∧ j ≤ d + 1

section
variable {w : World}
theorem fr1 {X : Nat → Prop} (hX : ∀ k, w.heap.size ≤ k → ¬ X k) : Calls Try.prog 9 #[.int .i64 65536] w fun e w' => e = .returned (.pointer (some ⟨w.heap.size + 1, 0, none⟩)) ∧ Arena w' X (w.heap.size + 1) (AS.new 65536) ∧ Below w.heap.size w w' := new_any 65536 w X hX
theorem fr_room (b : Int) : (AS.new 65536).allocErr (1 + min (max b 1) 64) = 0 := by
  unfold AS.allocErr
  rw [if_neg (by omega), if_neg (by simp [AS.new]; omega)]
theorem fr2 {X : Nat → Prop} {pa : Nat} (h : Arena w X pa (AS.new 65536)) (hX : ∀ k, w.heap.size ≤ k → ¬ X k) (b : Int) :
    Calls Try.prog 10 #[.pointer (some ⟨pa, 0, none⟩), .int .i64 b, .int .i64 4096] w fun e w' => ∃ pt nb, e = .returned (.tuple #[.pointer (some ⟨pt, 0, none⟩), .int .i64 0]) ∧
      Tab w' (fun k => X k ∨ k = pt ∨ k = nb) pa pt nb ((AS.new 65536).allocAt (1 + min (max b 1) 64)) (TS.new 1 (min (max b 1) 64) 4096) ∧ Keep X w w' ∧ w.heap.size ≤ pt ∧ w.heap.size ≤ nb := by
  have := tnew_any h hX b 4096 (by decide) (fr_room b)
  rw [show (AS.new 65536).allocNo (1 + min (max b 1) 64) = 1 by unfold AS.allocNo; rw [if_pos (fr_room b)]; rfl] at this
  exact this
theorem fr3 (b : Int) : AInv ((AS.new 65536).allocAt (1 + min (max b 1) 64)) (TS.new 1 (min (max b 1) 64) 4096) [] 0 [] 65 65536 :=
  (AInv.new_ 65536 b 4096 (fr_room b)).up (by omega)
theorem own_below {w w' : World} {v : Value} {base n : Nat} {e : TypeId} {xs : List Value} (h : w.ownsRow base e 1 v n xs) (hb : Below w.heap.size w w') : w'.ownsRow base e 1 v n xs := by
  obtain ⟨h1, h2⟩ := h
  refine ⟨h1, ?_⟩
  rcases h2 with h2 | ⟨g, cap, cur, rfl, a1, a2, a3⟩
  · exact .inl h2
  · exact .inr ⟨g, cap, cur, rfl, a1, (hb.block g (show Blk w g e cur from a2).lt).trans a2, a3⟩
theorem Many.length {w : World} {X : Nat → Prop} {pa pt nb : Nat} {A : AS} {T : TS} {P : List Int} {m : Int} {os : List OS} {pos : List Nat} {B : Nat} {M : Int} (h : Many w X pa pt nb A T P m os pos B M) (hB : B + os.length ≤ 16000) :
    Calls Try.prog 17 #[.pointer (some ⟨pt, 0, none⟩)] w fun e w' => e = .returned (.int .i64 P.length) ∧ Below w.heap.size w w' := by
  have := ManyAt.len (s := (A, T, os)) ⟨P, m, h⟩ hB
  dsimp only at this
  rw [h.inv.lst.mark, h.inv.lst.cnt] at this
  exact this
theorem bound_le (n L : Nat) (hn : n ≤ 12) (hL : L ≤ 130) : n * (2 * (L + n) + 16) ≤ 20000 := by
  have h1 := Nat.mul_le_mul_right (2 * (L + n) + 16) hn
  omega
theorem bound_wrap (n L : Nat) (hn : n ≤ 12) (hL : L ≤ 130) : wrap64 ((n : Int) * (2 * ((L : Int) + n) + 16)) = ((n * (2 * (L + n) + 16) : Nat) : Int) := by
  have h1 := bound_le n L hn hL
  have h2 : ((n : Int) * (2 * ((L : Int) + n) + 16)) = ((n * (2 * (L + n) + 16) : Nat) : Int) := by
    simp only [Int.natCast_mul, Int.natCast_add]; rfl
  rw [h2]
  generalize n * (2 * (L + n) + 16) = q at h1
  unfold wrap64; omega
theorem bound_wrap2 (n L : Nat) (hn : n ≤ 12) (hL : L ≤ 130) : IntKind.i64.wrap ((n : Int) * (2 * ((L : Int) + n) + 16)) = ((n * (2 * (L + n) + 16) : Nat) : Int) := by
  have h := bound_wrap n L hn hL
  rw [IntKind.wrap_i64]
  unfold wrap64 at h
  omega
theorem Ops.below {w w' : World} {X : Nat → Prop} {nb g : Nat} {pos : List Nat} (h : Ops w X nb g pos) (hb : Below w.heap.size w w') : Ops w' X nb g pos := by
  obtain ⟨cur, hbl, hc⟩ := h.blk
  exact ⟨⟨cur, hbl.below hb hbl.lt, hc⟩, h.xg, h.np, h.nn⟩
theorem inv_flt {A : AS} {T : TS} {P : List Int} {m : Int} {os : List OS} {B : Nat} {M : Int} (h : AInv A T P m os B M) : A.faults = 0 := h.flt
end
set_option maxRecDepth 1000000 in
set_option maxHeartbeats 8000000 in
theorem free_walk (b0 : Int) (a1 a2 a3 : Option Addr) (l1 c1 l2 c2 l3 c3 : Nat) (zs : List Int) (w : World) (h1 : IsStrs w a1 l1) (h2 : IsStrs w a2 l2) (h3 : IsRow .i64 w a3 l3 c3 zs)
    (n1 : l1 ≤ 9223372036854775806) (n2 : l2 ≤ 9223372036854775806) :
    Calls Try.prog 4 #[.int .i64 b0, .slice a1 l1 c1, .slice a2 l2 c2, .slice a3 l3 c3] w fun e w' => e = .returned (.bool true) ∧ Below w.heap.size w w' := by
  obtain ⟨i0, hi0, hz0, hz1, hz2⟩ := info_parts infoPtr
  have H1 := Lib.hid h1; clear h1
  have H2 := Lib.hid h2; clear h2
  have H3 := Lib.hid h3; clear h3
  go_enter Try.func4, Try.ntmps4
  go_wp2_with fail
  refine (aalive_any w).mono ?_
  rintro e wa ⟨rfl, ba⟩
  have za := ba.size
  have BA := Lib.hid ba; clear ba
  go_wp2_with fail
  refine (fr1 (w := wa) (X := fun k => k < w.heap.size) (fun k hk => by omega)).mono ?_
  rintro e w1 ⟨rfl, ar1, b1⟩
  have z1 := b1.size
  have B1 := Lib.hid (BA.out.trans (b1.mono za)); clear b1 BA
  go_wp2_with fail
  refine (fr2 ar1 (fun k hk => by omega) b0).mono ?_
  rintro e w2 ⟨pt, nb, rfl, t2, k2, hp2, hp3⟩
  clear ar1
  have z2 := k2.size
  have K2 := Lib.hid k2; clear k2
  have T2 := Lib.hid t2; clear t2
  go_wp2_with fail
  go_loopg [42] l1 (fun g i wr => RB w w1 (fun k => k < w.heap.size ∨ k = pt ∨ k = nb) (wa.heap.size + 1) pt nb l1 g i wr)
  case atStart => exact ⟨0, _, _, _, _, 65, by omega, by omega, rfl, by omega, fr3 b0, T2.out, K2.out⟩
  case round =>
    obtain ⟨k, A, T, P, m, B, hk, hg, rfl, hB, hinv, htb, hkp⟩ := hrel
    have HKP := Lib.hid hkp; clear hkp
    have HINV := Lib.hid hinv; clear hinv
    have HTB := Lib.hid htb; clear htb
    have HG := Lib.hid hg; clear hg
    have zr := HKP.out.size
    by_cases hlt : k < l1
    · obtain ⟨bb, off, s, rfl, hbl, hc, hs⟩ := H1.out k hlt
      have hc' : wr.cell? ⟨bb, off + k, none⟩ = some (.string s) := by
        have e1 := (B1.out).cell (p := ⟨bb, off + k, none⟩) hbl
        have e2 := (HKP.out.toBelow (B := w.heap.size) (fun _ h => h) (by omega)).cell (p := ⟨bb, off + k, none⟩) hbl
        exact e2.trans (e1.trans hc)
      by_cases h40 : k < 40
      · have hin := intern_any HINV.out (by omega) (by omega) HTB.out s (by unfold maxLen at hs; omega)
        have HIN := Lib.hid hin; clear hin
        clear hc hs hbl
        go_wp2_with fail
        refine HIN.out.mono ?_
        rintro e w3 ⟨A', T', o', hd, rfl⟩
        have HD := Lib.hid hd; clear hd
        go_wp2_with fail
        go_roundg (l1 - (k + 1))
        case measure => have := HG.out; omega
        case rel =>
          obtain ⟨P', m', hi'⟩ := HD.out.inv
          exact ⟨k + 1, A', T', P', m', B + 1, by omega, Nat.le_refl _, by go_num, by omega, hi', HD.out.tab, HKP.out.trans (HD.out.keep.less (fun j hj => ⟨.inl hj, by omega⟩))⟩
      · clear hc hs hbl
        go_wp2_with fail
        go_roundg (l1 - (k + 1))
        case measure => have := HG.out; omega
        case rel => exact ⟨k + 1, A, T, P, m, B, by omega, Nat.le_refl _, by go_num, by omega, HINV.out, HTB.out, HKP.out⟩
    · obtain rfl : k = l1 := by omega
      have hB105 : B ≤ 105 := by omega
      clear hB hlt hk HG
      obtain ⟨wb, hwb⟩ : ∃ x, x = wr := ⟨_, rfl⟩
      subst hwb
      have hbg0 := Bg.start (pt := pt) HINV.out wb
      have HBG0 := Lib.hid hbg0; clear hbg0
      have hW : ∀ wq, Below wb.heap.size wb wq → Below w.heap.size w wq := fun wq hb => (B1.out.trans (HKP.out.toBelow (B := w.heap.size) (fun _ h => h) (by omega))).trans (hb.mono (by omega))
      have HW := Lib.hid hW; clear hW
      go_wp2_with fail
      go_loopg [14, 56] l2 (fun g ops i wq => RN wb pt A T P m B l2 g ops i wq)
      case atStart => exact ⟨0, [], [], by omega, by omega, rfl, rfl, HBG0.out⟩
      case round =>
        obtain ⟨k2, os, pos, hk2, hg2, rfl, hol, hbg⟩ := hrel
        have HBG := Lib.hid hbg; clear hbg
        have HG2 := Lib.hid hg2; clear hg2
        have HOL := Lib.hid hol; clear hol
        have zq := HBG.out.bel.size
        by_cases hlt : k2 < l2
        · obtain ⟨bb, off, s, rfl, hbl, hc, hs⟩ := H2.out k2 hlt
          have hc' := ((HW.out _ HBG.out.bel).cell (p := ⟨bb, off + k2, none⟩) hbl).trans hc
          by_cases h12 : k2 < 12
          · have hbe := begin_any (HTB.out.below HBG.out.bel).head HTB.out.lists s (by unfold maxLen at hs; omega)
            have HBE := Lib.hid hbe; clear hbe
            have hk12 : os.length = k2 := by have := HOL.out; omega
            clear hc hs hbl
            go_wp2_with fail
            refine HBE.out.mono ?_
            rintro e w3 ⟨po, rfl, hpo, ho, hb3⟩
            have z3 := hb3.size
            have HO := Lib.hid ho; clear ho
            have HB3 := Lib.hid hb3; clear hb3
            have hrow : w3.ownsRow wb.heap.size 31 1 u14 k2 (ptrs pos) := by
              have := HBG.out.row
              rw [hk12] at this
              exact own_below this HB3.out
            have HROW := Lib.hid hrow; clear hrow
            have hpl : (ptrs pos).length = k2 := by unfold ptrs; rw [List.length_map, HBG.out.len, hk12]
            go_wp2_with (at_builtin; refine wpList_append_own _ rfl _ _ 42 rfl wb.heap.size 31 i0 (.pointer none) 1 8 Try.underlying42 hi0 hz0 hz1 hz2 rfl (by decide) _ _ _ rfl (HROW.out.alloc _) ⟨w3.heap.size, 0, none⟩ 1 1 [.pointer (some ⟨po, 0, none⟩)] rfl rfl (cell_one_ptr w3 _ _ rfl) (ptr_oneCell po) (by unfold maxLen; omega) (by omega) (by simp; omega) ?_)
            intro v' w4 hown' hgrow _
            have hadd := HBG.out.add HTB.out.lists.1 hpo HO.out HB3.out (by rw [hk12]; exact hown') hgrow
            have HADD := Lib.hid hadd; clear hadd hown' hgrow
            go_wp2_with fail
            go_roundg (l2 - (k2 + 1))
            case measure => have := HG2.out; omega
            case rel => exact ⟨k2 + 1, _, _, by omega, Nat.le_refl _, by go_num, by simp only [List.length_append, List.length_singleton, hk12]; omega, HADD.out⟩
          · clear hc hs hbl
            go_wp2_with fail
            go_roundg (l2 - (k2 + 1))
            case measure => have := HG2.out; omega
            case rel => exact ⟨k2 + 1, os, pos, by omega, Nat.le_refl _, by go_num, by have := HOL.out; omega, HBG.out⟩
        · obtain rfl : k2 = l2 := by omega
          obtain ⟨we, hwe⟩ : ∃ x, x = wr := ⟨_, rfl⟩
          subst hwe
          have hn12 : os.length ≤ 12 := by have := HOL.out; omega
          have hend := HW.out _ HBG.out.bel
          have HEND := Lib.hid hend; clear hend
          clear hlt hk2 HG2 HOL
          by_cases h0 : os = []
          · have hu : ∃ a c, u14 = .slice a 0 c := by
              have hrow := HBG.out.row
              rw [h0] at hrow
              rcases hrow.2 with ⟨rfl, _⟩ | ⟨g, cap, cur, rfl, _⟩
              · exact ⟨_, _, rfl⟩
              · exact ⟨_, _, rfl⟩
            clear h0
            obtain ⟨ua, uc, rfl⟩ := hu
            go_wp2_with fail
            go_ret
            exact ⟨rfl, HEND.out⟩
          · obtain ⟨g, ucap, rfl, hmany, hops⟩ := HBG.out.done HTB.out h0
            have hn1 : 0 < os.length := List.length_pos_iff.2 h0
            have HMANY := Lib.hid hmany; clear hmany
            have HOPS := Lib.hid hops; clear hops
            clear h0
            have hla := lives_all HBG.out.live
            have how := owns_le os
            obtain ⟨n, hn⟩ : ∃ n, n = os.length := ⟨_, rfl⟩
            rw [← hn] at hn12 hn1 hla how ⊢
            have HNN := Lib.hid hn; clear hn
            have hn0 : ((n : Int) == 0) = false := by
              have : ¬ (n : Int) = 0 := by omega
              simpa using this
            by_cases hl3 : l3 = 0
            · subst hl3
              go_wp2_with fail
              go_ret
              exact ⟨rfl, HEND.out⟩
            · have hl3' : 0 < l3 := by omega
              clear hl3
              have hlen := HMANY.out.length (by rw [← HNN.out]; omega)
              have hl0 : ((l3 : Int) == 0) = false := by
                have : ¬ (l3 : Int) = 0 := by omega
                simpa using this
              have hfew := HMANY.out.inv.few
              have hmd := HMANY.out.inv.made
              have hL : P.length ≤ 130 := by omega
              have hq := bound_le n P.length hn12 hL
              have hpt := Nat.le_trans (pots_le P m os) (show lives os * (2 * P.length + 13) ≤ n * (2 * (P.length + n) + 16) by rw [hla]; exact Nat.mul_le_mul_left _ (by omega))
              have HPT := Lib.hid hpt; clear hpt
              have HLA := Lib.hid hla; clear hla
              have HLEN := Lib.hid hlen; clear hlen
              clear hfew hmd how
              generalize hLP : P.length = L at HLEN hL hq HPT
              have HLP := Lib.hid hLP; clear hLP
              have hqw := bound_wrap n L hn12 hL
              have hqw2 := bound_wrap2 n L hn12 hL
              generalize n * (2 * (L + n) + 16) = q0 at hq HPT hqw hqw2
              have HQW := Lib.hid (And.intro hqw hqw2); clear hqw hqw2
              have HQ := Lib.hid hq; clear hq
              go_wp2_with fail
              refine HLEN.out.mono ?_
              rintro e w5 ⟨rfl, b5⟩
              have B5 := Lib.hid b5; clear b5
              have K5 : Hid (Keep (fun k => k < w.heap.size) w1 w5) := Lib.hid ((HKP.out.trans (Keep.ofBelow (X := fun k => k < w.heap.size) HBG.out.bel (fun k hk => by omega))).trans (Keep.ofBelow (X := fun k => k < w.heap.size) B5.out (fun k hk => by omega)))
              have hrp : RP w w1 (fun k => (k < w.heap.size ∨ k = pt ∨ k = nb) ∨ (wb.heap.size ≤ k ∧ k < we.heap.size)) (wa.heap.size + 1) pt nb g pos n B 1300000 (.int .i64 n) (.int .i64 q0) (.int .i64 ((0 : Nat) : Int)) w5 :=
                ⟨A, T, P, m, os, 0, q0, HMANY.out.below B5.out, HOPS.out.below B5.out, HNN.out.symm, by rw [HLA.out], rfl, rfl, by rw [HLP.out]; exact HPT.out, HQ.out, by rw [HLA.out]; have := HQ.out; omega, by omega, K5.out⟩
              have HRP := Lib.hid hrp; clear hrp
              obtain ⟨X, hX⟩ : ∃ X : Nat → Prop, X = (fun k => (k < w.heap.size ∨ k = pt ∨ k = nb) ∨ (wb.heap.size ≤ k ∧ k < we.heap.size)) := ⟨_, rfl⟩
              rw [← hX] at HRP
              have HXX : Hid (∀ k, k < w.heap.size → X k ∧ k ≠ nb) := Lib.hid (fun k hk => by subst hX; exact ⟨.inl (.inl hk), by omega⟩)
              clear hX
              have HGE : Hid (∀ po ∈ pos, wb.heap.size ≤ po) := Lib.hid HBG.out.ge
              clear HMANY HOPS HPT HLA HLP HQ HNN HLEN K5 B5 HTB HINV HW HEND HKP hn0 T2 K2
              obtain ⟨hqw, hqw2⟩ := HQW.out
              clear HQW
              go_wp2_with fail
              clear hqw hqw2
              go_loopg [17, 18, 19] 1300000 (fun gk live bound k wq => RP w w1 X (wa.heap.size + 1) pt nb g pos n B gk live bound k wq)
              case atStart => exact HRP.out
              case round =>
                obtain ⟨A4, T4, P4, m4, os4, q, b, hm, ho, hn4, rfl, rfl, rfl, hpp, hb, hg4, hqk, hkp⟩ := hrel
                obtain ⟨wl, hwl⟩ : ∃ x, x = wr := ⟨_, rfl⟩
                subst hwl
                have HM := Lib.hid hm; clear hm
                have HO := Lib.hid ho; clear ho
                have HKP := Lib.hid hkp; clear hkp
                have HPP := Lib.hid hpp; clear hpp
                have HN4 := Lib.hid hn4; clear hn4
                by_cases hl : lives os4 = 0
                · have hfa := faults_any HM.out.tab.arena
                  rw [HM.out.inv.flt] at hfa
                  have HFA := Lib.hid hfa; clear hfa
                  rw [hl]
                  clear hl
                  go_wp2_with fail
                  refine HFA.out.mono ?_
                  rintro e w6 ⟨rfl, rfl⟩
                  go_wp2_with fail
                  go_ret
                  exact ⟨rfl, B1.out.trans (HKP.out.toBelow (fun _ h => h) (by omega))⟩
                · have hl0 : 0 < lives os4 := by omega
                  have how4 := owns_le os4
                  have hll := lives_le os4
                  rw [HN4.out] at hll how4
                  have hfew := HM.out.inv.few
                  have hmd := HM.out.inv.made
                  clear hl
                  -- the pick
                  obtain ⟨r, hr⟩ : ∃ r, r = q % l3 := ⟨_, rfl⟩
                  have hr3 : r < l3 := by rw [hr]; exact Nat.mod_lt _ hl3'
                  have hqr : q % l3 = r := hr.symm
                  clear hr
                  obtain ⟨pb, poff, rfl, hpb, hpc, _⟩ := H3.out.at_ hr3
                  have hpc' : wl.cell? ⟨pb, poff + r, none⟩ = some (.int .i64 (zs.getD r 0)) := ((HKP.out.toBelow (B := w.heap.size) (fun _ h => h) (by omega)).cell (p := ⟨pb, poff + r, none⟩) hpb).trans ((B1.out.cell (p := ⟨pb, poff + r, none⟩) hpb).trans hpc)
                  clear hpc hpb
                  generalize zs.getD r 0 = x at hpc'
                  obtain ⟨p, hand, hp⟩ := and_1023 x
                  obtain ⟨d, ol, hd, hol4, hol10⟩ := find_live hl0 p
                  rw [HN4.out] at hd hol4
                  have HOL4 := Lib.hid (And.intro hol4 hol10); clear hol4 hol10
                  have HLL := Lib.hid hll; clear hll
                  obtain ⟨c0, hc0⟩ : ∃ c, c = p % n := ⟨_, rfl⟩
                  have hc0n : c0 < n := by rw [hc0]; exact Nat.mod_lt _ hn1
                  have hpc0 : p % n = c0 := hc0.symm
                  have HC0 := Lib.hid hc0; clear hc0
                  obtain ⟨o0, po0, ho0, hp0⟩ := HM.out.get (j := c0) (by rw [HN4.out]; exact hc0n)
                  have hcell0 := HO.out.cell hp0
                  have HP0 := Lib.hid hp0; clear hp0 ho0
                  obtain ⟨l, hl1⟩ : ∃ l, lives os4 = l := ⟨_, rfl⟩
                  rw [hl1] at hg4 hl0 ⊢
                  have HL1 := Lib.hid hl1; clear hl1
                  have HFM : Hid (P4.length ≤ 130) := Lib.hid (by omega)
                  clear hfew hmd how4
                  go_wp2_with fail
                  clear hpc0 hqr hpc' hcell0 hand
                  go_loopg [21, 22] (d + 2) (fun g' o i wq => RF wl pos p n d g' o i wq)
                  case atStart => exact ⟨c0, 0, po0, rfl, rfl, rfl, HP0.out, hc0n, .inl ⟨rfl, HC0.out⟩, by omega, by omega⟩
                  case round =>
                    obtain ⟨c, j, po, rfl, rfl, rfl, hpcc, hcn, hwhere, hgj, hjd⟩ := hrel
                    obtain ⟨oc, pc, hoc, hpc2⟩ := HM.out.get (j := c) (by rw [HN4.out]; exact hcn)
                    obtain rfl : po = pc := by rw [hpcc] at hpc2; exact Option.some.inj hpc2
                    have HOC := Lib.hid hoc; clear hoc hpc2
                    have HPC := Lib.hid hpcc; clear hpcc
                    have HGJ := Lib.hid hgj; clear hgj
                    have hov := HM.out.over HOC.out HPC.out
                    by_cases h10 : oc.next = 10
                    · rw [decide_eq_true h10] at hov
                      have HOV := Lib.hid hov; clear hov
                      have hjd' : j ≤ d := by
                        rcases hwhere with ⟨e, _⟩ | ⟨j', rfl, hj', e⟩
                        · omega
                        · by_cases hjj : j' = d
                          · exfalso
                            subst hjj
                            have h2 := HOL4.out.1
                            rw [← e, HOC.out] at h2
                            exact HOL4.out.2 (by rw [← Option.some.inj h2]; exact h10)
                          · omega
                      clear hwhere h10 hjd
                      obtain ⟨c2, hc2⟩ : ∃ c, c = (p + j) % n := ⟨_, rfl⟩
                      have hc2n : c2 < n := by rw [hc2]; exact Nat.mod_lt _ hn1
                      have hpc2 : (p + j) % n = c2 := hc2.symm
                      have hpcI : ((p : Int) + (j : Int)) % (n : Int) = (c2 : Int) := by rw [← hpc2]; rfl
                      have HC2 := Lib.hid hc2; clear hc2
                      obtain ⟨o2, po2, _, hp2'⟩ := HM.out.get (j := c2) (by rw [HN4.out]; exact hc2n)
                      have hcell2 := HO.out.cell hp2'
                      have HP2 := Lib.hid hp2'; clear hp2'
                      go_wp2_with fail
                      refine HOV.out.mono ?_
                      rintro e w7 ⟨rfl, rfl⟩
                      go_wp2_with fail
                      go_roundg (d + 1 - (j + 1))
                      case measure => have := HGJ.out; omega
                      case rel => exact ⟨c2, j + 1, po2, rfl, rfl, by go_num, HP2.out, hc2n, .inr ⟨j, rfl, hjd', HC2.out⟩, Nat.le_refl _, by omega⟩
                    · rw [decide_eq_false h10] at hov
                      have HOV := Lib.hid hov; clear hov
                      clear hwhere hjd HGJ HC0 HOL4
                      have hoi := HM.out.inv.ops c oc HOC.out
                      have hle := hoi.le
                      have hst := HM.out.step (by rw [HN4.out]; omega) (by rw [HN4.out]; omega) HOC.out HPC.out (by omega)
                      have hls := lives_set HOC.out (stepO A4 T4 oc) h10
                      have HLS := Lib.hid hls; clear hls
                      have H10 := Lib.hid h10; clear h10
                      clear hoi hle
                      by_cases he : (stepO A4 T4 oc).next = 10
                      · rw [decide_eq_true he] at hst
                        have HE := Lib.hid he; clear he
                        have HST := Lib.hid hst; clear hst
                        go_wp2_with fail
                        refine HOV.out.mono ?_
                        rintro e w7 ⟨rfl, rfl⟩
                        go_wp2_with fail
                        refine HST.out.mono ?_
                        rintro e w8 ⟨rfl, k8, P', m', hm8, _⟩
                        have HM8 := Lib.hid hm8; clear hm8
                        have K8 : Hid (Keep (fun k => k < w.heap.size) w1 w8) := Lib.hid (HKP.out.trans (k8.less (fun k hk => ⟨(HXX.out k hk).1, fun e => by have := HGE.out k e; omega, (HXX.out k hk).2⟩)))
                        have HO8 := Lib.hid (HO.out.keep k8); clear k8
                        have hn8 : (os4.set c (stepO A4 T4 oc)).length = n := by rw [List.length_set, HN4.out]
                        have hlen8 := HM8.out.length (by rw [hn8]; omega)
                        have hfew8 := HM8.out.inv.few
                        have hmd8 := HM8.out.inv.made
                        have how8 := owns_le (os4.set c (stepO A4 T4 oc))
                        rw [hn8] at how8
                        have hL8 : P'.length ≤ 130 := by omega
                        have hls8 : lives (os4.set c (stepO A4 T4 oc)) + 1 = l := by have := HLS.out; rw [if_pos HE.out, HL1.out] at this; exact this
                        have hpt8 := pots_le P' m' (os4.set c (stepO A4 T4 oc))
                        have HN8 := Lib.hid hn8; clear hn8
                        have HLEN8 := Lib.hid hlen8; clear hlen8
                        clear hfew8 hmd8 how8
                        obtain ⟨l', hl'⟩ : ∃ l', lives (os4.set c (stepO A4 T4 oc)) = l' := ⟨_, rfl⟩
                        rw [hl'] at hls8 hpt8
                        have HL8 := Lib.hid hl'; clear hl'
                        obtain ⟨L', hLe⟩ : ∃ L', P'.length = L' := ⟨_, rfl⟩
                        have hl12 : l' ≤ 12 := by have := HLL.out; have := HL1.out; omega
                        have hpt9 : pots P'.length P' m' (os4.set c (stepO A4 T4 oc)) ≤ l' * (2 * (P'.length + l') + 16) := Nat.le_trans hpt8 (Nat.mul_le_mul_left _ (by omega))
                        have HPT9 := Lib.hid hpt9; clear hpt9 hpt8
                        rw [hLe] at hL8
                        rw [hLe] at HPT9
                        have hq8 := bound_le l' L' hl12 hL8
                        have hqw8 := bound_wrap l' L' hl12 hL8
                        have hqw9 := bound_wrap2 l' L' hl12 hL8
                        generalize l' * (2 * (L' + l') + 16) = q8 at hq8 hqw8 hqw9 HPT9
                        have HQW := Lib.hid (And.intro hqw8 hqw9); clear hqw8 hqw9
                        have HLE := Lib.hid hLe
                        have hLEN9 : Calls Try.prog 17 #[.pointer (some ⟨pt, 0, none⟩)] w8 fun e w' => e = .returned (.int .i64 (L' : Int)) ∧ Below w8.heap.size w8 w' := by
                          have := HLEN8.out; rw [hLe] at this; exact this
                        have HLEN9 := Lib.hid hLEN9; clear hLEN9 HLEN8 hLe
                        have hlm : (l : Int) - 1 = (l' : Int) := by omega
                        go_wp2_with fail
                        refine HLEN9.out.mono ?_
                        rintro e w9 ⟨rfl, b9⟩
                        have HB9 := Lib.hid b9; clear b9
                        have HLM := Lib.hid hlm
                        obtain ⟨hqw8, hqw9⟩ := HQW.out
                        go_wp2_with fail
                        clear hqw8 hqw9 HQW hlm
                        go_roundg (l' * 100000 + q8)
                        case measure => omega
                        case rel => exact ⟨_, _, P', m', _, q + 1, q8, HM8.out.below HB9.out, HO8.out.below HB9.out, HN8.out, by rw [HL8.out], rfl, by go_num, by rw [HLE.out]; exact HPT9.out, hq8, by rw [HL8.out]; exact Nat.le_refl _, by omega, K8.out.trans (Keep.ofBelow (X := fun k => k < w.heap.size) HB9.out (fun k hk => by have := K8.out.size; omega))⟩
                      · rw [decide_eq_false he] at hst
                        have HE := Lib.hid he; clear he
                        have HST := Lib.hid hst; clear hst
                        go_wp2_with fail
                        refine HOV.out.mono ?_
                        rintro e w7 ⟨rfl, rfl⟩
                        go_wp2_with fail
                        refine HST.out.mono ?_
                        rintro e w8 ⟨rfl, k8, P', m', hm8, hp8⟩
                        obtain ⟨rfl, rfl, hp9⟩ := hp8 HE.out
                        have hb1 : 1 ≤ b := by have := HPP.out; omega
                        have hp10 : pots P'.length P' m' (os4.set c (stepO A4 T4 oc)) + 1 ≤ b := by have := HPP.out; omega
                        have HP10 := Lib.hid hp10; clear hp10 hp9 hp8
                        have HM8 := Lib.hid hm8; clear hm8
                        have K8 : Hid (Keep (fun k => k < w.heap.size) w1 w8) := Lib.hid (HKP.out.trans (k8.less (fun k hk => ⟨(HXX.out k hk).1, fun e => by have := HGE.out k e; omega, (HXX.out k hk).2⟩)))
                        have HO8 := Lib.hid (HO.out.keep k8); clear k8
                        have hls8 : lives (os4.set c (stepO A4 T4 oc)) = l := by have := HLS.out; rw [if_neg HE.out, HL1.out] at this; exact this
                        have HL8 := Lib.hid hls8; clear hls8
                        obtain ⟨b1, hbb⟩ : ∃ b1, b = b1 + 1 := ⟨b - 1, by omega⟩
                        have hbm : (b : Int) - 1 = (b1 : Int) := by omega
                        have HBB := Lib.hid hbb; clear hbb
                        go_wp2_with fail
                        go_roundg (l * 100000 + b1)
                        case measure => have := HBB.out; omega
                        case rel => exact ⟨_, _, P', m', _, q + 1, b1, HM8.out, HO8.out, by rw [List.length_set, HN4.out], by rw [HL8.out], rfl, by go_num, by have := HP10.out; have := HBB.out; omega, by have := HBB.out; omega, by rw [HL8.out]; exact Nat.le_refl _, by have := HBB.out; omega, K8.out⟩
end Go.Proofs.Ytebdlggmpojgdaa
