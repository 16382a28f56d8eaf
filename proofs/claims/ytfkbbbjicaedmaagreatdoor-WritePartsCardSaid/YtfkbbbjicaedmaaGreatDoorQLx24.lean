/-
  Package lex: a text's tokens. Conditions: strconv.ErrRange holds its sentinel, internal/bytealg.MaxLen a number.
-/
import Derived.Test.YtfkbbbjicaedmaaGreatDoorQLx23
import Derived.Test.YtfkbbbjicaedmaaGreatDoorQLx13
import Derived.Test.YtfkbbbjicaedmaaGreatDoorQLx20
import Derived.Test.YtfkbbbjicaedmaaGreatDoorQLx25
namespace Go.Proofs.YtfkbbbjicaedmaaGreatDoor
open Go.RowKit Go.Shelf Go.Maps
set_option linter.unusedVariables false
set_option linter.unusedSimpArgs false
theorem LxAt.from' {w : World} {p : Nat} {L : List UInt8} {fr a : Nat} (h : LxAt w p L fr a) (n : Nat) : LxAt (w.setCell ⟨p, 1, none⟩ (.int .i64 n)) p L n a := ⟨h.blk.set_ 1 _, h.le, h.len⟩
theorem infoTok : (Tryz.prog.info? 75).map (fun i => (i.zero, i.size, i.bytes)) = some (some noTk, 6, 48) := by kernel_rfl
theorem digC : DigC := fun h hro hp hpos => digits_any h hro hp hpos
def ToksPost (w : World) (x : R (List Tok)) (e : Ending) (w' : World) : Prop :=
  match x with
  | .good ts _ _ => ∃ v, e = .returned (.tuple #[v, .nilIface]) ∧ ToksAt w' w.heap.size v ts ∧ Below w.heap.size w w'
  | .bad c q => ∃ b, e = .returned (.tuple #[.slice none 0 0, faultV b]) ∧ FaultAt w' b c q ∧ w.heap.size ≤ b ∧ Below w.heap.size w w'
theorem toks_over {k n : Nat} {e : Bool} {l : List UInt8} {u : Unit} (h : skipL k l = .good u n []) : toks k e l = .good [] n [] := by rw [toks_eq, h]
theorem toks_wrong {k n : Nat} {e : Bool} {l : List UInt8} {u : Unit} {d : UInt8} {r : List UInt8} {c p : Nat} (h : skipL k l = .good u n (d :: r)) (ht : tokL n (d :: r) = .bad c p) : toks k e l = .bad c p := by rw [toks_eq, h]; simp only; rw [ht]
theorem toks_next {k n m : Nat} {e : Bool} {l : List UInt8} {u : Unit} {d : UInt8} {r r' : List UInt8} {t : Tk} (ts : List Tok) (h : skipL k l = .good u n (d :: r)) (ht : tokL n (d :: r) = .good t m r') : after ts (toks k e l) = after (ts ++ [⟨t, n, e || decide (k < n)⟩]) (toks m false r') := by
  rw [toks_eq, h]; simp only; rw [ht]; simp only
  cases toks m false r' <;> simp [after]
theorem skip_le {k n : Nat} {l r : List UInt8} {u : Unit} (h : skipL k l = .good u n r) : k ≤ n := by
  obtain ⟨s, _, hs⟩ := skip_split k l h
  omega
def TkRel (w : World) (L : List UInt8) (X : R (List Tok)) (g : Nat) (v : Value) (wr : World) : Prop :=
  ∃ k fr ts, g = L.length + 1 - k ∧ LxAt wr w.heap.size L fr k ∧ ToksAt wr (w.heap.size + 1) v ts ∧ ts.length ≤ k ∧ after ts (toks k (decide (ts.length = 0)) (L.drop k)) = X ∧ Keep (· < w.heap.size) w wr
theorem cells_new (W : World) (cs : List Value) (T : TypeId) (r : Nat) (hr : r = W.heap.size) (j : Nat) (u : Value) (h : cs[j]? = some u) : (W.alloc (.cells cs.toArray T)).cell? (Addr.add ⟨r, 0, none⟩ j) = some u := by
  subst hr
  have hb := (Blk.new W T cs.toArray).cell j
  have he : Addr.add ⟨W.heap.size, 0, none⟩ j = ⟨W.heap.size, j, none⟩ := by simp [Addr.add]; omega
  rw [he, hb]; simpa using h
theorem flag_eq {k n len : Nat} (h : ¬ k < n) : ((len : Int) == 0) = (decide (len = 0) || decide (k < n)) := by
  rw [decide_eq_false h, Bool.or_false]
  by_cases hz : len = 0
  · subst hz; rfl
  · rw [decide_eq_false hz]; exact beq_eq_false_iff_ne.2 (by omega)
theorem tk_round {w w4 w5 : World} {L : List UInt8} {X : R (List Tok)} {k n m : Nat} {ts : List Tok} {t : Tk} {ap : Bool} {v v' : Value} {o1 o2 : Obj} (hap : ap = (decide (ts.length = 0) || decide (k < n))) (hL : LxAt w4 w.heap.size L n m) (hrow : ToksAt w4 (w.heap.size + 1) v ts) (hk : Keep (· < w.heap.size) w w4)
    (hg : ((w4.alloc o1).alloc o2).grownBy w5 v.ownBlock) (hown : w5.ownsRow (w.heap.size + 1) 75 6 v' (ts.length + 1) (cellsOfToks ts ++ [.int .i64 t.kind, .string (str t.text), .int .i64 t.int, .int .i64 n, .bool t.quoted, .bool ap]))
    (hX : after ts (toks k (decide (ts.length = 0)) (L.drop k)) = X) (hN : after ts (toks k (decide (ts.length = 0)) (L.drop k)) = after (ts ++ [⟨t, n, decide (ts.length = 0) || decide (k < n)⟩]) (toks m false (L.drop m))) (hlen : ts.length ≤ k) (hkm : k < m) : TkRel w L X (L.length + 1 - m) v' w5 := by
  have hgr := grown_keepS ((World.ownsRow.alloc (World.ownsRow.alloc hrow o1) o2)) hg
  have ha : Keep (fun _ => True) w4 ((w4.alloc o1).alloc o2) := ((Keep.refl _ w4).alloc _).alloc _
  refine ⟨m, n, ts ++ [⟨t, n, ap⟩], rfl, (hL.keep ha trivial).keep hgr (by show w.heap.size < w.heap.size + 1; omega), ?_, by simp; omega, ?_, (hk.trans (ha.less fun _ _ => trivial)).trans (hgr.less fun k (hk : k < w.heap.size) => by show k < w.heap.size + 1; omega)⟩
  · unfold ToksAt
    rw [cellsOfToks_snoc, List.length_append]
    exact hown
  · rw [← hX, hN, hap]
    simp
set_option maxRecDepth 1000000 in
set_option maxHeartbeats 8000000 in
theorem tokens_any (L : List UInt8) {w : World} {b : Addr} (hro : RangeOk w b) (hm : MaxOk w) : Calls Tryz.prog 61 #[.string (str L)] w (ToksPost w (tokens L)) := by
  by_cases hl : L.length ≤ 16384
  · rw [show tokens L = toks 0 true L by unfold tokens; rw [if_neg (by omega)]]
    have hsz : ¬ ((16384 : Int) < (str L).size) := by rw [str_size]; omega
    obtain ⟨i0, hi0, hz0, hz1, hz2⟩ := info_parts infoTok
    have hb := Blk.new w 114 #[.string (str L), .int .i64 0, .int .i64 0]
    have HR : Hid (TkRel w L (toks 0 true L) (L.length + 1) (.slice none 0 0) (w.alloc (.cells #[.string (str L), .int .i64 0, .int .i64 0] 114))) :=
      Lib.hid ⟨0, 0, [], rfl, ⟨hb, by omega, hl⟩, World.ownsRow_nil _ _ _ _, by simp, by rw [after_nil]; rfl, (Keep.refl _ w).alloc _⟩
    obtain ⟨s, hsl⟩ : ∃ s, str L = s := ⟨_, rfl⟩
    rw [hsl] at hsz HR
    obtain ⟨X, hX⟩ : ∃ X, toks 0 true L = X := ⟨_, rfl⟩
    rw [hX] at HR
    rw [hX, hsl]
    have HSL := Lib.hid hsl
    have HM := Lib.hid hm
    have HRO := Lib.hid hro
    clear hX hsl hb hm hro
    go_enter Tryz.func61, Tryz.ntmps61
    go_wp2_with fail
    go_loopg [5] (L.length + 1) (fun g v wr => TkRel w L X g v wr)
    case atStart => exact HR.out
    case round =>
      clear HR
      obtain ⟨k, fr, ts, hg, hL, hrow, htk, hX, hK⟩ := hrel
      have hpl := hL.blk.lt
      have HM1 := Lib.hid (HM.out.keep hK HM.out.lt)
      have HRO1 := Lib.hid (HRO.out.keep hK (lt_cell HRO.out))
      have hgm := HM.out.lt
      have hgr : 3 < w.heap.size := lt_cell HRO.out
      have hsk := skip_any hL HM1.out (by omega)
      have c2 := hL.c2
      have hkl := hL.le
      have HK := Lib.hid hK
      have HROW := Lib.hid hrow
      have HG := Lib.hid hg
      have HX := Lib.hid hX
      obtain ⟨ad, cp, rfl⟩ := hrow.is
      clear hK hrow hg hX hL
      rcases hx : skipL k (L.drop k) with ⟨c, q⟩ | ⟨u, n, r⟩
      · rw [hx] at hsk
        have HSK := Lib.hid hsk
        have HXX := Lib.hid (show R.bad c q = X by rw [← HX.out, toks_eq, hx]; rfl)
        clear hsk hx
        go_wp2_with fail
        refine HSK.out.mono ?_
        rintro e w1 ⟨b', rfl, hF, hbs, hk1⟩
        have HF := Lib.hid hF
        have HBS := Lib.hid hbs
        have HK1 := Lib.hid (HK.out.trans (hk1.less fun k (hk : k < w.heap.size) => Nat.ne_of_lt hk))
        have hsz1 := HK.out.size
        clear hF hbs hk1 HSK
        unfold faultV
        go_wp2_with fail
        refine bodyPost_ret (v := .tuple #[.slice none 0 0, faultV b']) (by simp [results, Tryz.results61, go_sem, faultV]) rfl ?_
        rw [← HXX.out]
        exact ⟨b', rfl, HF.out, by have := HBS.out; omega, HK1.out.toBelow (fun _ h => h) (Nat.le_refl _)⟩
      · rw [hx] at hsk
        have HSK := Lib.hid hsk
        have hkn := skip_le hx
        have HSX := Lib.hid hx
        clear hsk hx
        go_wp2_with fail
        refine HSK.out.mono ?_
        rintro e w1 ⟨rfl, rfl, hL1, hk1⟩
        have hov := isOver_any hL1
        have hnl := hL1.le
        have hs1 := hk1.size
        have HK1 := Lib.hid (HK.out.trans (hk1.less fun k (hk : k < w.heap.size) => Nat.ne_of_lt hk))
        have HROW1 := Lib.hid (HROW.out.keep hk1 (fun g hg _ => by omega))
        have HL1 := Lib.hid hL1
        clear hL1 hk1 HSK
        by_cases he : n = L.length
        · rw [decide_eq_true he] at hov
          have HO := Lib.hid hov
          have HXX := Lib.hid (show R.good ts n [] = X by rw [← HX.out, toks_over (by rw [HSX.out, show List.drop n L = [] by rw [he, List.drop_length]])]; simp [after])
          clear hov
          go_wp2_with fail
          refine HO.out.mono ?_
          rintro e w2 ⟨rfl, hk2⟩
          have HROW2 := Lib.hid (HROW1.out.keep hk2 (fun g hg _ => trivial))
          have HK2 := Lib.hid (HK1.out.trans (hk2.less fun _ _ => trivial))
          clear hk2 HO
          go_wp2_with fail
          refine bodyPost_ret (v := .tuple #[.slice ad ts.length cp, .nilIface]) (by simp [results, Tryz.results61, go_sem]) rfl ?_
          rw [← HXX.out]
          exact ⟨_, rfl, HROW2.out.base (by omega), HK2.out.toBelow (fun _ h => h) (Nat.le_refl _)⟩
        · rw [decide_eq_false he] at hov
          have HO := Lib.hid hov
          obtain ⟨c, r, hcr⟩ : ∃ c r, L.drop n = c :: r := by
            cases h9 : L.drop n with
            | nil => exact absurd (List.drop_eq_nil_iff.1 h9) (by omega)
            | cons c r => exact ⟨c, r, rfl⟩
          have HCR := Lib.hid hcr
          clear hov
          go_wp2_with fail
          refine HO.out.mono ?_
          rintro e w2 ⟨rfl, hk2⟩
          have hL2 := HL1.out.keep hk2 trivial
          have d2 := hL2.c2
          have d1 := hL2.c1
          have dz := hL2.blk.frozen 1
          have HROW2 := Lib.hid (HROW1.out.keep hk2 (fun g hg _ => trivial))
          have HK2 := Lib.hid (HK1.out.trans (hk2.less fun _ _ => trivial))
          have HL3 := Lib.hid (hL2.from' n)
          clear hk2 HO hL2 hcr c2
          go_wp2_with fail
          have hk3 := HK2.out.setCell (p := ⟨w.heap.size, 1, none⟩) (by simp) (.int .i64 (n : Int))
          have htok := token_any digC (b := b) HL3.out (HRO.out.keep hk3 (by exact lt_cell HRO.out)) (by exact Nat.ne_of_gt (lt_cell HRO.out)) HCR.out
          have hsz3 : (w2.setCell ⟨w.heap.size, 1, none⟩ (.int .i64 (n : Int))).heap.size = w2.heap.size := by simp [World.setCell]
          have HK3 := Lib.hid hk3
          have HROW3 := Lib.hid (HROW2.out.keep ((Keep.refl (· ≠ w.heap.size) w2).setCell (p := ⟨w.heap.size, 1, none⟩) (by simp) (.int .i64 (n : Int))) (fun g hg _ => by omega))
          clear hk3 d1 d2 dz
          generalize w2.setCell ⟨w.heap.size, 1, none⟩ (.int .i64 (n : Int)) = w3 at *
          rw [HCR.out] at htok
          rcases ht : tokL n (c :: r) with ⟨cc, q⟩ | ⟨t, m, r'⟩
          · rw [ht] at htok
            have HXX := Lib.hid (show R.bad cc q = X by rw [← HX.out, toks_wrong (by rw [HSX.out, HCR.out]) ht]; rfl)
            have HTOK := Lib.hid htok
            clear htok ht
            refine HTOK.out.mono ?_
            rintro e w4 ⟨tv, ev, rfl, rfl, b', rfl, hF, hbs, hk4⟩
            have HF := Lib.hid hF
            have HBS := Lib.hid hbs
            have HK4 := Lib.hid (HK3.out.trans (hk4.less fun k (hk : k < w.heap.size) => Nat.ne_of_lt hk))
            have hsz4 := HK3.out.size
            clear hF hbs hk4 HTOK
            unfold faultV noTk
            go_wp2_with fail
            refine bodyPost_ret (v := .tuple #[.slice none 0 0, faultV b']) (by simp [results, Tryz.results61, go_sem, faultV]) rfl ?_
            rw [← HXX.out]
            exact ⟨b', rfl, Blk.alloc HF.out _, by have := HBS.out; omega, (HK4.out.alloc _).toBelow (fun _ h => h) (Nat.le_refl _)⟩
          · rw [ht] at htok
            have HNX := Lib.hid (toks_next (e := decide (ts.length = 0)) ts (by rw [HSX.out, HCR.out]) ht)
            have HTOK := Lib.hid htok
            obtain ⟨pp, hp1, hp2, hp3⟩ := tok_split (skip_stop k (L.drop k) (by rw [HSX.out, HCR.out])).2.2 ht
            have hpp := List.length_pos_iff.2 hp3
            clear htok ht hp1 hp3
            refine HTOK.out.mono ?_
            rintro e w4 ⟨tv, ev, rfl, rfl, rfl, rfl, hL4, hk4⟩
            have hs4 := hk4.size
            have hml := hL4.le
            have hb4 := Blk.new w4 75 #[.int .i64 t.kind, .string (str t.text), .int .i64 t.int, .int .i64 0, .bool t.quoted, .bool false]
            have HROW4 := Lib.hid (HROW3.out.keep hk4 (fun g hg _ => by omega))
            have HK4 := Lib.hid (HK3.out.trans (hk4.less fun k (hk : k < w.heap.size) => Nat.ne_of_lt hk))
            have HL4 := Lib.hid hL4
            clear hk4 HTOK hL4
            unfold tkV
            obtain ⟨x1, hx1⟩ : ∃ x1, str t.text = x1 := ⟨_, rfl⟩
            have HX1 := Lib.hid hx1
            rw [hx1] at hb4 ⊢
            clear hx1
            obtain ⟨b0, b1, b2, b3, b4, b5, z0, z1, z2, z3, z4, z5, hlt1⟩ := hb4.six
            simp only [List.getElem?_toArray, List.getElem?_cons_zero, List.getElem?_cons_succ] at b0 b1 b2 b3 b4 b5
            have hl4b := HL4.out.keep ((Keep.refl (fun _ => True) w4).alloc (.cells #[.int .i64 t.kind, .string x1, .int .i64 t.int, .int .i64 0, .bool t.quoted, .bool false] 75)) trivial
            have e1 := hl4b.c1
            clear hl4b
            by_cases hlt : k < n
            · have hlt' : ((k : Int) < n) := by omega
              go_wp2_with (at_builtin; refine wpList_append_own _ rfl _ _ 69 rfl (w.heap.size + 1) 75 i0 noTk 6 48 Tryz.underlying69 hi0 hz0 hz1 hz2 rfl (by decide) _ _ _ rfl (World.ownsRow.alloc (World.ownsRow.alloc HROW4.out _) _) ⟨w4.heap.size + 1, 0, none⟩ 1 1 [.int .i64 t.kind, .string x1, .int .i64 t.int, .int .i64 n, .bool t.quoted, .bool true] rfl rfl (cells_new _ _ _ _ (by simp)) (by simp [Value.oneCell']) (by unfold maxLen; omega) (by omega) (by have := HK4.out.size; simp; omega) ?_)
              intro v' w5 hown' hgrow _
              have HREL := Lib.hid (tk_round (X := X) (k := k) (ap := true) (by simp [hlt]) HL4.out HROW4.out HK4.out hgrow (by rw [HX1.out]; exact hown') HX.out HNX.out htk (by omega))
              clear hown' hgrow
              go_wp2_with fail
              go_roundg (L.length + 1 - m)
              case measure => have := HG.out; omega
              case rel => exact HREL.out
            · have hlt' : ¬ ((k : Int) < n) := by omega
              go_wp2_with (at_builtin; refine wpList_append_own _ rfl _ _ 69 rfl (w.heap.size + 1) 75 i0 noTk 6 48 Tryz.underlying69 hi0 hz0 hz1 hz2 rfl (by decide) _ _ _ rfl (World.ownsRow.alloc (World.ownsRow.alloc HROW4.out _) _) ⟨w4.heap.size + 1, 0, none⟩ 1 1 [.int .i64 t.kind, .string x1, .int .i64 t.int, .int .i64 n, .bool t.quoted, .bool ((ts.length : Int) == 0)] rfl rfl (cells_new _ _ _ _ (by simp)) (by simp [Value.oneCell']) (by unfold maxLen; omega) (by omega) (by have := HK4.out.size; simp; omega) ?_)
              intro v' w5 hown' hgrow _
              have HREL := Lib.hid (tk_round (X := X) (k := k) (ap := ((ts.length : Int) == 0)) (flag_eq hlt) HL4.out HROW4.out HK4.out hgrow (by rw [HX1.out]; exact hown') HX.out HNX.out htk (by omega))
              clear hown' hgrow
              go_wp2_with fail
              go_roundg (L.length + 1 - m)
              case measure => have := HG.out; omega
              case rel => exact HREL.out
  · rw [show tokens L = .bad 2 0 by unfold tokens; rw [if_pos (by omega)]]
    have hsz : ((16384 : Int) < (str L).size) := by rw [str_size]; omega
    have hn := fun W => new_any 2 0 (by decide) W
    generalize str L = s at *
    go_enter Tryz.func61, Tryz.ntmps61
    go_wp2_with fail
    refine (hn _).mono ?_
    rintro e w1 ⟨rfl, hF, hk⟩
    have HF := Lib.hid hF
    have HK := Lib.hid hk
    clear hF hk
    unfold faultV
    go_wp2_with fail
    refine bodyPost_ret (v := .tuple #[.slice none 0 0, faultV w.heap.size]) (by simp [results, Tryz.results61, go_sem, faultV]) rfl ?_
    exact ⟨_, rfl, HF.out, Nat.le_refl _, HK.out.toBelow (fun _ _ => trivial) (Nat.le_refl _)⟩
end Go.Proofs.YtfkbbbjicaedmaaGreatDoor
