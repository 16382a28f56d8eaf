/-
  SchedKeys, the walk. Conditions: the arguments' lengths.
-/
import Derived.Test.YtlmgojnhmdppnaaSc9
namespace Go.Proofs.Ytlmgojnhmdppnaa
open Go.RowKit Go.Maps
set_option linter.unusedVariables false

def KRel (w : World) (ps : Nat) (ks es : List Int) (key : Int) (u : Value) (k : Nat) (wr : World) : Prop :=
  Zd wr (fun k => k < w.heap.size) ps (kZ ks es k) ∧ Keep (fun k => k < w.heap.size) w wr ∧ wr.ownsRow w.heap.size 3 1 u (wantK ks es key k).length ((wantK ks es key k).map (Value.int .i64)) ∧ ps < wr.heap.size

theorem own_keep {w w' : World} {v : Value} {base sz n : Nat} {t : TypeId} {xs : List Value} {X : Nat → Prop} (h : w.ownsRow base t sz v n xs) (hk : Keep X w w') (hX : ∀ g cs, Blk w g t cs → X g) : w'.ownsRow base t sz v n xs := by
  obtain ⟨h1, h2⟩ := h
  refine ⟨h1, ?_⟩
  rcases h2 with h2 | ⟨g, cap, cur, rfl, a1, a2, a3⟩
  · exact .inl h2
  · exact .inr ⟨g, cap, cur, rfl, a1, (hk.block g (show Blk w g t cur from a2).lt (hX g cur a2)).trans a2, a3⟩
/-- Memory of numbers is none of the scheduler's. -/
theorem Zd.more {w : World} {X Y : Nat → Prop} {ps : Nat} {Z : ZS} (h : Zd w X ps Z) (hY : ∀ k, Y k → X k ∨ ∃ cs, Blk w k 3 cs) : Zd w Y ps Z := by
  obtain ⟨v, h⟩ := h
  refine ⟨v, h.head, h.row, fun hy => ?_, fun g hg hy => ?_, h.ok⟩
  · rcases hY _ hy with hx | ⟨cs, hb⟩
    · exact h.nX hx
    · exact hb.ne_ h.head (by decide) rfl
  · rcases hY _ hy with hx | ⟨cs, hb⟩
    · exact h.rX g hg hx
    · obtain ⟨cap, cur, _, hbk, _⟩ := zrow_ty h.row hg
      exact hb.ne_ hbk (by decide) rfl
/-- All that was there, and the memory of numbers. -/
def nums (B : Nat) (w : World) : Nat → Prop := fun k => k < B ∨ ∃ cs, Blk w k 3 cs
theorem Zd.nums {w : World} {B ps : Nat} {Z : ZS} (h : Zd w (fun k => k < B) ps Z) : Zd w (nums B w) ps Z := h.more (fun k hk => hk)
theorem Zd.old {w w0 : World} {B ps : Nat} {Z : ZS} (h : Zd w (Proofs.Ytlmgojnhmdppnaa.nums B w0) ps Z) : Zd w (fun k => k < B) ps Z := h.less (fun k _ hk => .inl hk)
theorem Keep.old {w w' w0 : World} {B : Nat} (h : Keep (nums B w0) w w') : Keep (fun k => k < B) w w' := h.less (fun k hk => .inl hk)
theorem nums_new {w : World} {B : Nat} (hB : B ≤ w.heap.size) : ∀ k, w.heap.size ≤ k → ¬ nums B w k := by
  rintro k hk (h | ⟨cs, h⟩)
  · omega
  · have := h.lt; omega
theorem own_nums {w w' : World} {v : Value} {base n B : Nat} {xs : List Value} (h : w.ownsRow base 3 1 v n xs) (hk : Keep (nums B w) w w') : w'.ownsRow base 3 1 v n xs := own_keep h hk (fun g cs hb => .inr ⟨cs, hb⟩)
theorem own_below {w w' : World} {v : Value} {base n : Nat} {xs : List Value} (h : w.ownsRow base 3 1 v n xs) (hb : Below w.heap.size w w') : w'.ownsRow base 3 1 v n xs := own_keep h (X := fun _ => True) (Keep.ofBelow0 hb) (fun _ _ _ => trivial)

theorem Keep.ofGrown {w w' : World} {row : Option Nat} {X : Nat → Prop} (hg : w.grownBy w' row) (hX : ∀ g, row = some g → ¬ X g) : Keep X w w' :=
  ⟨hg.os, hg.tape, hg.output, hg.size, fun k hk hx => hg.block k hk (fun e => hX k e.symm hx)⟩
theorem own_type {w : World} {base sz n : Nat} {t : TypeId} {v : Value} {xs : List Value} (h : w.ownsRow base t sz v n xs) {g : Nat} (hg : v.ownBlock = some g) : base ≤ g ∧ ∃ cs, Blk w g t cs := by
  rcases h.2 with ⟨rfl, _⟩ | ⟨g', cap, cur, rfl, hb, a2, _⟩
  · simp [Value.ownBlock] at hg
  · simp only [Value.ownBlock, Option.some.injEq] at hg
    subst hg
    exact ⟨hb, cur, a2⟩
/-- A slice of numbers of the law's own grows: the scheduler stays. -/
theorem Zd.grownInts {w w' : World} {B ps base n : Nat} {Z : ZS} {v : Value} {xs : List Value} (h : Zd w (fun k => k < B) ps Z) (hg : w.grownBy w' v.ownBlock) (hown : w.ownsRow base 3 1 v n xs) : Zd w' (fun k => k < B) ps Z := by
  have h2 : Zd w (fun k => k < B ∨ v.ownBlock = some k) ps Z := h.more (fun k hk => by
    rcases hk with hk | hk
    · exact .inl hk
    · exact .inr (own_type hown hk).2)
  have hk : Keep (fun k => v.ownBlock ≠ some k) w w' := Keep.ofGrown hg (fun g hg hn => hn hg)
  exact (h2.keep hk (fun k hn e => hn (.inr e))).less (fun k _ hk => .inl hk)

set_option maxRecDepth 1000000 in
set_option maxHeartbeats 4000000 in
theorem keys_walk (a0 a1 : Option Addr) (c0 c1 : Nat) (ks es : List Int) (key : Int) (w : World) (hks : IntsAt w a0 ks) (hes : IntsAt w a1 es) (hlk : ks.length ≤ 1152921504606846976) (hle : es.length ≤ 1152921504606846976) :
    Calls Try.prog 11 #[.slice a0 ks.length c0, .slice a1 es.length c1, .int .i64 key] w fun e w' => e = .returned (.bool true) ∧ Below w.heap.size w w' := by
  have hX : ∀ W : World, w.heap.size ≤ W.heap.size → ∀ k, W.heap.size ≤ k → ¬ k < w.heap.size := fun W h k hk => by omega
  have HX := Lib.hid hX; clear hX
  obtain ⟨i0, hi0, hz0, hz1, hz2⟩ := info_parts info3
  have HKS := Lib.hid hks; clear hks
  have HES := Lib.hid hes; clear hes
  go_enter Try.func11, Try.ntmps11
  go_wp2_with fail
  refine (new_sched 8 w (X := fun k => k < w.heap.size) (by omega)).mono ?_
  rintro e w1 ⟨rfl, a1', b1⟩
  have z1 := b1.size
  have K1 : Hid (Keep (fun k => k < w.heap.size) w w1) := Lib.hid (Keep.ofBelow0 b1)
  clear b1
  have hz : (⟨min (max 8 1) 8, 0, [], 0, 0⟩ : ZS) = kZ ks es 0 := rfl
  rw [hz] at a1'
  go_wp2_with fail
  refine (alive_any w1).mono ?_
  rintro e w2 ⟨rfl, b2⟩
  have z2 := b2.size
  have A2 := Lib.hid (a1'.below b2)
  have K2 : Hid (Keep (fun k => k < w.heap.size) w w2) := Lib.hid (K1.out.trans (Keep.ofBelow0 b2))
  clear b2 a1' K1 hz
  have hlt0 := A2.out.lt
  have hown0 : (w2.alloc (Obj.cells #[] 3)).ownsRow w.heap.size 3 1 (.slice (some ⟨w2.heap.size, 0, none⟩) 0 0) 0 [] := World.ownsRow_made w2 #[] 0 (by omega) (by unfold maxLen; omega) rfl
  have hrel0 : KRel w w.heap.size ks es key (.slice (some ⟨w2.heap.size, 0, none⟩) 0 0) 0 (w2.alloc (Obj.cells #[] 3)) := ⟨A2.out.alloc _, K2.out.alloc _, hown0, by simp; omega⟩
  have HREL0 := Lib.hid hrel0; clear hrel0 hown0
  clear A2 K2 hlt0
  go_wp2_with fail
  go_loopw [8, 9] (fun u i wr => ∃ k : Nat, k ≤ 8 ∧ i = .int .i64 k ∧ KRel w w.heap.size ks es key u k wr) (fun _ i _ => 8 - (intOf i).toNat)
  case atStart => exact ⟨0, by omega, rfl, HREL0.out⟩
  case round =>
    clear HREL0
    obtain ⟨k, hk, rfl, hzd, hkp, hown, hlt⟩ := hrel
    have zr := hkp.size
    by_cases hk8 : k < 8
    · obtain ⟨s1, s2, s3⟩ := k_spawn (ks := ks) (es := es) hk8
      have hc := spawn_any hzd.nums (nums_new (by omega)) (by show (k : Int) < 4611686018427387903; omega)
      rw [s1, s2, s3] at hc
      have HC := Lib.hid hc; clear hc s1 s2 s3 hzd
      have HKP := Lib.hid hkp; clear hkp
      have HOWN := Lib.hid hown; clear hown
      go_wp2_with fail
      refine HC.out.mono ?_
      rintro e w3 ⟨rfl, y3, k3⟩
      have z3 := k3.size
      have Y3 := Lib.hid y3.old
      have K3 := Lib.hid (HKP.out.trans k3.old)
      have O3 := Lib.hid (own_nums HOWN.out k3)
      clear y3 k3 HC HKP HOWN
      have wl := want_le ks es key k
      have WS0 := Lib.hid (want_succ ks es key k)
      have hes3 := HES.out.below (K3.out.toBelow (fun _ hk => hk) (Nat.le_refl _))
      have hh := has_ints (c := c1) hes3 (by omega) ((k : Int) + 1)
      have hlt3 := Y3.out.lt
      cases hmem : among es ((k : Int) + 1) with
      | true =>
        rw [hmem] at hh
        have HH := Lib.hid hh; clear hh hes3
        have hst := stop_any Y3.out.nums ((k : Int) + 1)
        rw [k_err, k_stop hmem] at hst
        have HST := Lib.hid hst; clear hst
        have WS : Hid (wantK ks es key (k + 1) = wantK ks es key k) := Lib.hid (by rw [WS0.out, hmem]; simp)
        clear hmem WS0 Y3
        go_wp2_with fail
        refine HH.out.mono ?_
        rintro e w4 ⟨rfl, rfl⟩
        go_wp2_with fail
        refine HST.out.mono ?_
        rintro e w5 ⟨rfl, y5, k5⟩
        have hrn : KRel w w.heap.size ks es key u8 (k + 1) w5 := ⟨y5.old, K3.out.trans k5.old, by rw [WS.out]; exact own_nums O3.out k5, y5.lt⟩
        have HRN := Lib.hid hrn; clear hrn y5 k5
        go_wp2_with fail
        go_roundw
        case rel => exact ⟨k + 1, by omega, by go_num, HRN.out⟩
        case measure => simp [intOf]; omega
      | false =>
        rw [hmem] at hh
        have HH := Lib.hid hh; clear hh hes3
        by_cases hkl : k < ks.length
        · have hbk := block_any Y3.out.nums ((k : Int) + 1) (ks.getD k 0)
          rw [k_err, k_block hmem hkl] at hbk
          have WS1 : Hid (wantK ks es key (k + 1) = wantK ks es key k ++ if (ks.getD k 0 == key) = true then [(k : Int) + 1] else []) := Lib.hid (by rw [WS0.out, hmem, if_neg (by simp), if_pos hkl])
          obtain ⟨bk, off, rfl, hbl, hck⟩ := HKS.out k hkl
          have hck3 := hck
          rw [← (K3.out.toBelow (fun _ hk => hk) (Nat.le_refl _)).cell (p := ⟨bk, off + k, none⟩) hbl] at hck3
          generalize ks.getD k 0 = y at hbk WS1 hck hck3
          have HBK := Lib.hid hbk; clear hbk
          clear hmem WS0 Y3
          go_wp2_with fail
          refine HH.out.mono ?_
          rintro e w4 ⟨rfl, rfl⟩
          go_wp2_with fail
          refine HBK.out.mono ?_
          rintro e w5 ⟨rfl, y5, k5⟩
          have z5 := k5.size
          have Y5 := Lib.hid y5.old
          have K5 := Lib.hid (K3.out.trans k5.old)
          have O5 := Lib.hid (own_nums O3.out k5)
          rw [← (K5.out.toBelow (fun _ hk => hk) (Nat.le_refl _)).cell (p := ⟨bk, off + k, none⟩) hbl] at hck
          clear y5 k5 hck3 K3 O3
          cases hy : (y == key) with
          | false =>
            have WS : Hid (wantK ks es key (k + 1) = wantK ks es key k) := Lib.hid (by rw [WS1.out, hy]; simp)
            have hrn : KRel w w.heap.size ks es key u8 (k + 1) w5 := ⟨Y5.out, K5.out, by rw [WS.out]; exact O5.out, Y5.out.lt⟩
            have HRN := Lib.hid hrn; clear hrn Y5 K5 O5 WS1
            go_wp2_with fail
            go_roundw
            case rel => exact ⟨k + 1, by omega, by go_num, HRN.out⟩
            case measure => simp [intOf]; omega
          | true =>
            have WS : Hid (wantK ks es key (k + 1) = wantK ks es key k ++ [(k : Int) + 1]) := Lib.hid (by rw [WS1.out, hy]; simp)
            clear WS1
            go_wp2_with (at_builtin; refine wpList_append_own _ rfl _ _ 30 rfl w.heap.size 3 i0 (.int .i64 0) 1 8 Try.underlying30 hi0 hz0 hz1 hz2 rfl (by decide) _ _ _ rfl (O5.out.alloc _) ⟨w5.heap.size, 0, none⟩ 1 1 [.int .i64 ((k : Int) + 1)] rfl rfl (cell_one_new w5 (.int .i64 ((k : Int) + 1)) 3) (ints_oneCell .i64 [(k : Int) + 1]) (by unfold maxLen; omega) (by omega) (by simp; omega) ?_)
            intro v' w' hown' hgrow _
            have hgk : Keep (fun k => k < w.heap.size) (w5.alloc (Obj.cells #[Value.int .i64 ((k : Int) + 1)] 3)) w' := Keep.ofGrown hgrow (fun g hg hx => by have := (O5.out.lt g hg).1; omega)
            have hzn : Zd w' (fun k => k < w.heap.size) w.heap.size (kZ ks es (k + 1)) := (Y5.out.alloc _).grownInts hgrow (O5.out.alloc _)
            have hrn : KRel w w.heap.size ks es key v' (k + 1) w' := ⟨hzn, (K5.out.alloc _).trans hgk, by rw [WS.out]; simpa using hown', hzn.lt⟩
            have HRN := Lib.hid hrn; clear hrn hzn hgk hown' hgrow
            go_wp2_with fail
            go_roundw
            case rel => exact ⟨k + 1, by omega, by go_num, HRN.out⟩
            case measure => simp [intOf]; omega
        · have WS : Hid (wantK ks es key (k + 1) = wantK ks es key k ++ [(k : Int) + 1]) := Lib.hid (by rw [WS0.out, hmem, if_neg (by simp), if_neg hkl])
          have hyk : Zd w3 (fun k => k < w.heap.size) w.heap.size (kZ ks es (k + 1)) := by rw [← k_none hmem hkl]; exact Y3.out
          have YK := Lib.hid hyk; clear hyk
          clear hmem WS0 Y3
          go_wp2_with fail
          refine HH.out.mono ?_
          rintro e w4 ⟨rfl, rfl⟩
          go_wp2_with (at_builtin; refine wpList_append_own _ rfl _ _ 30 rfl w.heap.size 3 i0 (.int .i64 0) 1 8 Try.underlying30 hi0 hz0 hz1 hz2 rfl (by decide) _ _ _ rfl (O3.out.alloc _) ⟨w3.heap.size, 0, none⟩ 1 1 [.int .i64 ((k : Int) + 1)] rfl rfl (cell_one_new w3 (.int .i64 ((k : Int) + 1)) 3) (ints_oneCell .i64 [(k : Int) + 1]) (by unfold maxLen; omega) (by omega) (by simp; omega) ?_)
          intro v' w' hown' hgrow _
          have hgk : Keep (fun k => k < w.heap.size) (w3.alloc (Obj.cells #[Value.int .i64 ((k : Int) + 1)] 3)) w' := Keep.ofGrown hgrow (fun g hg hx => by have := (O3.out.lt g hg).1; omega)
          have hzn : Zd w' (fun k => k < w.heap.size) w.heap.size (kZ ks es (k + 1)) := (YK.out.alloc _).grownInts hgrow (O3.out.alloc _)
          have hrn : KRel w w.heap.size ks es key v' (k + 1) w' := ⟨hzn, (K3.out.alloc _).trans hgk, by rw [WS.out]; simpa using hown', hzn.lt⟩
          have HRN := Lib.hid hrn; clear hrn hzn hgk hown' hgrow
          go_wp2_with fail
          go_roundw
          case rel => exact ⟨k + 1, by omega, by go_num, HRN.out⟩
          case measure => simp [intOf]; omega
    · have hk88 : k = 8 := by omega
      rw [hk88] at hzd hown
      clear hk88
      have hks' : IntsAt wr a0 ks := HKS.out.below (hkp.toBelow (fun _ hk => hk) (Nat.le_refl _))
      have hes' : IntsAt wr a1 es := HES.out.below (hkp.toBelow (fun _ hk => hk) (Nat.le_refl _))
      have KS' := Lib.hid hks'; clear hks'
      have ES' := Lib.hid hes'; clear hes'
      have HZD := Lib.hid hzd; clear hzd
      have HKP := Lib.hid hkp; clear hkp
      have HOWN := Lib.hid hown; clear hown
      have CLE := Lib.hid (cnt_le ks es key)
      go_wp2_with fail
      go_loopw [12, 76] (fun b i wq => ∃ k : Nat, k ≤ ks.length ∧ i = .int .i64 k ∧ b = .int .i64 (cntK ks es key k) ∧ wq = wr) (fun _ i _ => ks.length - (intOf i).toNat)
      case atStart => exact ⟨0, by omega, rfl, rfl, rfl⟩
      case round =>
        obtain ⟨k, hkk, rfl, rfl, hwq⟩ := hrel
        subst hwq
        by_cases hlt' : k < ks.length
        · have cle := CLE.out k
          by_cases h8 : k < 8
          · have hcs := cnt_lt (es := es) key h8 hlt'
            obtain ⟨bk, off, rfl, hbl, hck⟩ := KS'.out k hlt'
            have hh := has_ints (c := c1) ES'.out (by omega) ((k : Int) + 1)
            generalize ks.getD k 0 = y at hcs hck
            generalize among es ((k : Int) + 1) = m at hcs hh
            generalize cntK ks es key k = c at hcs cle ⊢
            have HH := Lib.hid hh; clear hh
            cases hy : (y == key) with
            | false =>
              rw [hy] at hcs
              have HC := Lib.hid hcs; clear hcs
              go_wp2_with fail
              go_roundw
              case rel => exact ⟨k + 1, by omega, by go_num, by rw [HC.out]; rfl, trivial⟩
              case measure => simp [intOf]; omega
            | true =>
              rw [hy] at hcs
              cases m with
              | true =>
                have HC := Lib.hid hcs; clear hcs
                go_wp2_with fail
                refine HH.out.mono ?_
                rintro e w4 ⟨rfl, rfl⟩
                go_wp2_with fail
                go_roundw
                case rel => exact ⟨k + 1, by omega, by go_num, by rw [HC.out]; go_num, trivial⟩
                case measure => simp [intOf]; omega
              | false =>
                have HC := Lib.hid hcs; clear hcs
                go_wp2_with fail
                refine HH.out.mono ?_
                rintro e w4 ⟨rfl, rfl⟩
                go_wp2_with fail
                go_roundw
                case rel => exact ⟨k + 1, by omega, by go_num, by rw [HC.out]; go_num, trivial⟩
                case measure => simp [intOf]; omega
          · have hcs := cnt_ge (ks := ks) (es := es) key (i := k) (by omega)
            generalize cntK ks es key k = c at hcs cle ⊢
            have HC := Lib.hid hcs; clear hcs
            go_wp2_with fail
            go_roundw
            case rel => exact ⟨k + 1, by omega, by go_num, by rw [HC.out], trivial⟩
            case measure => simp [intOf]; omega
        · obtain rfl : k = ks.length := by omega
          have cle := CLE.out ks.length
          have hce := cnt_end ks es key
          rw [hce] at cle ⊢
          obtain ⟨s1, s2, s3⟩ := k_full ks es
          have hsp := spawn_any HZD.out.nums (nums_new (by omega)) (by show (8 : Int) < 4611686018427387903; omega)
          rw [s1, s2, s3] at hsp
          have HSP := Lib.hid hsp; clear hsp s1 s2 s3 hce
          go_wp2_with fail
          refine HSP.out.mono ?_
          rintro e w3 ⟨rfl, y3, k3⟩
          have z3 := k3.size
          have hwk := wake_any y3.old.nums key
          have K3 := Lib.hid (HKP.out.trans k3.old)
          have O3 := Lib.hid (own_nums HOWN.out k3)
          have HWK : Hid (Calls Try.prog 51 #[.pointer (some ⟨w.heap.size, 0, none⟩), .int .i64 key] w3 fun e w' => e = .returned (.int .i64 (waits (kths ks es 8) key)) ∧ Zd w' (nums w.heap.size w3) w.heap.size ((kZ ks es 8).wake key) ∧ Keep (nums w.heap.size w3) w3 w') := Lib.hid hwk
          clear hwk y3 k3 HSP HOWN HKP HZD
          generalize waits (kths ks es 8) key = c at cle HWK ⊢
          go_wp2_with fail
          refine HWK.out.mono ?_
          rintro e w4 ⟨rfl, y4, k4⟩
          have z4 := k4.size
          have Y4 := Lib.hid y4.old
          have K4 := Lib.hid (K3.out.trans k4.old)
          have O4 := Lib.hid (own_nums O3.out k4)
          have hrd := ready_any Y4.out
          have HRD : Hid (Calls Try.prog 44 #[.pointer (some ⟨w.heap.size, 0, none⟩)] w4 fun e w' => ∃ u, e = .returned u ∧ Below w4.heap.size w4 w' ∧ w'.ownsRow w4.heap.size 3 1 u (wantK ks es key 8).length ((wantK ks es key 8).map (Value.int .i64))) := Lib.hid hrd
          clear y4 k4 K3 O3 HWK hrd
          go_wp2_with fail
          refine HRD.out.mono ?_
          rintro e w5 ⟨u5, rfl, b5, o5⟩
          have z5 := b5.size
          have o5' := own_below O4.out b5
          have Y5 := Lib.hid (Y4.out.below b5)
          have K5 : Hid (Keep (fun k => k < w.heap.size) w w5) := Lib.hid (K4.out.trans (Keep.ofBelow0 b5))
          obtain ⟨ar, cr, rfl, ir⟩ := own_ints o5
          obtain ⟨aw, cw, rfl, iw⟩ := own_ints o5'
          have wl := want_le ks es key 8
          have hsm := same_any (c := cr) (c' := cw) ir iw (by omega)
          have HSM := Lib.hid hsm; clear hsm ir iw o5 o5' b5 HRD O4 Y4 K4
          go_wp2_with fail
          refine HSM.out.mono ?_
          rintro e w6 ⟨rfl, q, rfl⟩
          have hw2 := wake_any ((Y5.out.keep (Y := fun _ => True) (Keep.drewN _ w5 q) (fun _ _ => trivial))) key
          have HW2 : Hid (Calls Try.prog 51 #[.pointer (some ⟨w.heap.size, 0, none⟩), .int .i64 key] (w5.drewN q) fun e w' => e = .returned (.int .i64 0) ∧ Keep (fun k => k < w.heap.size) (w5.drewN q) w') := Lib.hid (hw2.mono (by
            rintro e w' ⟨rfl, _, hk⟩
            refine ⟨?_, hk⟩
            show Ending.returned (.int .i64 (waits (wakeT (kths ks es 8) key) key)) = _
            rw [waits_wake]; rfl))
          clear hw2 HSM
          go_wp2_with fail
          refine HW2.out.mono ?_
          rintro e w7 ⟨rfl, k7⟩
          have K7 := Lib.hid ((K5.out.trans (Keep.drewN _ w5 q)).trans k7)
          clear k7
          go_wp2_with fail
          go_ret
          exact ⟨rfl, K7.out.toBelow (fun _ hk => hk) (Nat.le_refl _)⟩
end Go.Proofs.Ytlmgojnhmdppnaa
