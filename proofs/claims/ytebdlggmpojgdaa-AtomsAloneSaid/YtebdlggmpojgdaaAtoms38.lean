/-
  AtomsAlone's walk: whatever names are asked for one behind the other, each has its own number, within the promised steps. Conditions: lengths as the form's reach has them.
-/
import Derived.Test.YtebdlggmpojgdaaAtoms37
import Derived.Test.YtebdlggmpojgdaaAtoms31
import Derived.Deep.AppendLies
namespace Go.Proofs.Ytebdlggmpojgdaa
open Go.RowKit Go.Maps
set_option linter.unusedVariables false

theorem infoStr : (Try.prog.info? 9).map (fun i => (i.zero, i.size, i.bytes)) = some (some (.string ⟨#[]⟩), 1, 16) := by kernel_rfl
theorem infoInt : (Try.prog.info? 3).map (fun i => (i.zero, i.size, i.bytes)) = some (some (.int .i64 0), 1, 8) := by kernel_rfl
section
variable {w w' wr : World} {X Y : Nat → Prop} {pa po pt nb g : Nat} {o : OS} {T T' : TS} {A A' : AS} {P P' : List Int} {m m' : Int} {B base n c : Nat} {e : TypeId} {xs : List Value}
theorem row_at (h : w.ownsRow base e 1 (.slice (some ⟨g, 0, none⟩) n c) n xs) : RowAt w (some ⟨g, 0, none⟩) xs ∧ base ≤ g ∧ ∃ cur, Blk w g e cur := by
  obtain ⟨a, c', hu, hr⟩ := own_row h
  injection hu with hu1 hu2 hu3
  subst hu1
  refine ⟨hr, (h.lt g rfl).1, ?_⟩
  rcases h.2 with ⟨h0, _⟩ | ⟨g', cap, cur, h0, _, hb, _⟩
  · cases h0
  · injection h0 with h1
    injection h1 with h1
    injection h1 with h1
    subst h1
    exact ⟨cur, hb⟩
theorem row_keep (h : w.ownsRow base e 1 (.slice (some ⟨g, 0, none⟩) n c) n xs) (hk : Keep Y w w') (hY : Y g) : w'.ownsRow base e 1 (.slice (some ⟨g, 0, none⟩) n c) n xs := by
  obtain ⟨h1, h2⟩ := h
  refine ⟨h1, ?_⟩
  rcases h2 with h2 | ⟨g', cap, cur, hu, a1, a2, a3⟩
  · exact .inl h2
  · have hu0 := hu
    injection hu0 with hu1
    injection hu1 with hu1
    injection hu1 with hu1
    subst hu1
    exact .inr ⟨g, cap, cur, hu, a1, (hk.block g (show Blk w g e cur from a2).lt hY).trans a2, a3⟩
theorem row_ne (h : w.ownsRow base e 1 (.slice (some ⟨g, 0, none⟩) n c) n xs) (tb : Tab w X pa pt nb A T) (he : e ≠ 84) : g ≠ pt ∧ g ≠ nb := by
  obtain ⟨_, _, cur, hb⟩ := row_at h
  exact ⟨hb.ne_ tb.head he, (tb.names.ne_blk hb).symm⟩
theorem Tab.wide (h : Tab w X pa pt nb A T) (hb : Below w.heap.size w w') (hY : ∀ k, Y k → X k ∨ (w.heap.size ≤ k ∧ k < w'.heap.size)) (y1 : Y pt) (y2 : Y nb) : Tab w' Y pa pt nb A T :=
  h.grow (row := none) (fun g e => by cases e) ⟨hb.os, hb.tape, hb.output, hb.size, fun k hk _ => hb.block k hk⟩ hY y1 y2
end
def XA (w : World) (pt nb gs gi : Nat) : Nat → Prop := fun k => (k < w.heap.size ∨ k = pt ∨ k = nb) ∨ k = gs ∨ k = gi
structure ARow (w wr : World) (pa pt nb gs cs gi ci : Nat) (A : AS) (T : TS) (S : List (List UInt8)) (I : List Int) : Prop where
  tab : Tab wr (XA w pt nb gs gi) pa pt nb A T
  rs : wr.ownsRow w.heap.size 9 1 (.slice (some ⟨gs, 0, none⟩) S.length cs) S.length (strsOf S)
  ri : wr.ownsRow w.heap.size 3 1 (.slice (some ⟨gi, 0, none⟩) I.length ci) I.length (intsOf I)
theorem ARow.below {w wr w' : World} {pa pt nb gs cs gi ci : Nat} {A : AS} {T : TS} {S : List (List UInt8)} {I : List Int} (h : ARow w wr pa pt nb gs cs gi ci A T S I) (hb : Below wr.heap.size wr w') : ARow w w' pa pt nb gs cs gi ci A T S I :=
  ⟨h.tab.below hb, own_below h.rs hb, own_below h.ri hb⟩
/-- A row grows; the other one, of another type, stays. -/
theorem push_row {w w6 w7 : World} {pa pt nb g g' c c' n n' g1 : Nat} {e e' : TypeId} {A : AS} {T : TS} {xs xs' : List Value} {X Y : Nat → Prop} {b : Obj} (tb : Tab w6 X pa pt nb A T)
    (r : w6.ownsRow w.heap.size e 1 (.slice (some ⟨g, 0, none⟩) n c) n xs) (r' : w6.ownsRow w.heap.size e' 1 (.slice (some ⟨g', 0, none⟩) n' c') n' xs') (he : e ≠ e') (ht : e ≠ 84) (hX : X g)
    (hgr : (w6.alloc b).grownBy w7 (some g)) (hat : some g = some g1 ∨ g1 = w6.heap.size + 1) (hlt : g1 < w7.heap.size) (hY : ∀ k, Y k → X k ∨ k = g1) (y1 : Y pt) (y2 : Y nb) :
    Tab w7 Y pa pt nb A T ∧ w7.ownsRow w.heap.size e' 1 (.slice (some ⟨g', 0, none⟩) n' c') n' xs' ∧ Keep (fun k => k < w.heap.size) w6 w7 := by
  obtain ⟨_, hge, cur, hb⟩ := row_at r
  obtain ⟨_, _, cur', hb'⟩ := row_at r'
  obtain ⟨q1, q2⟩ := row_ne r tb ht
  have hne := hb.ne_ hb' he
  have hba : Below w6.heap.size w6 (w6.alloc b) := (Below.refl _ w6).alloc (Nat.le_refl _) _
  refine ⟨(tb.below hba).grow (row := some g) (fun k hk => ?_) hgr (fun k hk => ?_) y1 y2, (r'.alloc b).kept hgr (.inr (by simpa [Value.ownBlock] using fun e => hne e.symm)), ?_⟩
  · obtain rfl := Option.some.inj hk
    exact ⟨hX, q1, q2⟩
  · rcases hY k hk with hx | rfl
    · exact .inl hx
    · rcases hat with e1 | e1
      · obtain rfl := Option.some.inj e1
        exact .inl hX
      · right; simp; omega
  · have := ((Keep.refl (fun k => k < w.heap.size) w6).alloc b)
    refine this.trans ⟨hgr.os, hgr.tape, hgr.output, hgr.size, fun k hk hx => hgr.block k hk (fun e => ?_)⟩
    obtain rfl := Option.some.inj e
    omega
/-- The names so far. -/
def AR (w w1 : World) (pa pt nb : Nat) (top : Int) (len : Nat) (g : Nat) (us ui i : Value) (wr : World) : Prop :=
  ∃ (k : Nat) (A : AS) (T : TS) (P : List Int) (m : Int) (B : Nat) (S : List (List UInt8)) (I : List Int) (gs cs gi ci : Nat), k ≤ len ∧ len - k ≤ g ∧ i = .int .i64 k ∧ k ≤ 301 ∧ B ≤ 65 + k ∧ S.length ≤ k ∧
    us = .slice (some ⟨gs, 0, none⟩) S.length cs ∧ ui = .slice (some ⟨gi, 0, none⟩) I.length ci ∧ Seen A T P m B top S I ∧ ARow w wr pa pt nb gs cs gi ci A T S I ∧ Keep (fun k => k < w.heap.size) w1 wr
/-- The steps so far. -/
def AS_ (w1 : World) (X : Nat → Prop) (pa pt nb po B : Nat) (n : List UInt8) (P : List Int) (N0 : Int → List UInt8) (top : Int) (lim : Nat) (g : Nat) (i : Value) (wr : World) : Prop :=
  ∃ (k : Nat) (A' : AS) (T' : TS) (P' : List Int) (m' : Int) (o' : OS), k ≤ lim ∧ lim - k ≤ g ∧ i = .int .i64 k ∧ OneQ wr (fun k => X k ∨ k = po) pa pt nb po B 65536 n P N0 top k A' T' P' m' o' ∧ Keep (fun k => X k ∧ k ≠ nb) w1 wr
/-- The names, asked for at the end. -/
def AN (w1 w2 : World) (len : Nat) (g : Nat) (i : Value) (wr : World) : Prop := ∃ k : Nat, k ≤ len ∧ len - k ≤ g ∧ i = .int .i64 k ∧ Below w2.heap.size w2 wr
section
variable {w : World}
theorem al_new {X : Nat → Prop} {pa : Nat} (h : Arena w X pa (AS.new 65536)) (hX : ∀ k, w.heap.size ≤ k → ¬ X k) (b mo : Int) :
    Calls Try.prog 10 #[.pointer (some ⟨pa, 0, none⟩), .int .i64 b, .int .i64 mo] w fun e w' => ∃ pt nb, e = .returned (.tuple #[.pointer (some ⟨pt, 0, none⟩), .int .i64 0]) ∧
      Tab w' (fun k => X k ∨ k = pt ∨ k = nb) pa pt nb ((AS.new 65536).allocAt (1 + min (max b 1) 64)) (TS.new 1 (min (max b 1) 64) mo) ∧ Keep X w w' ∧ w.heap.size ≤ pt ∧ w.heap.size ≤ nb := by
  have := tnew_any h hX b mo (by decide) (fr_room b)
  rw [show (AS.new 65536).allocNo (1 + min (max b 1) 64) = 1 by unfold AS.allocNo; rw [if_pos (fr_room b)]; rfl] at this
  exact this
theorem al_seen (b mo : Int) : Seen ((AS.new 65536).allocAt (1 + min (max b 1) 64)) (TS.new 1 (min (max b 1) 64) mo) [] 0 65 (min (max mo 0) 4096) [] [] := by
  have hi : AInv ((AS.new 65536).allocAt (1 + min (max b 1) 64)) (TS.new 1 (min (max b 1) 64) mo) [] 0 [] 65 65536 := (AInv.new_ 65536 b mo (fr_room b)).up (by omega)
  refine ⟨hi, ⟨true, by simp, by simp, fun l h0 h1 => ⟨[], ?_, by simp⟩, fun e => by cases e⟩, rfl, rfl, rfl, fun j h1 => by simp at h1⟩
  have := hi.lst.head h0 h1
  simpa [Chn] using this
end
set_option maxRecDepth 1000000 in
set_option maxHeartbeats 8000000 in
theorem alone_walk (b0 mo : Int) (a1 : Option Addr) (l1 c1 : Nat) (w : World) (h1 : IsStrs w a1 l1) (n1 : l1 ≤ 9223372036854775806) :
    Calls Try.prog 3 #[.int .i64 b0, .int .i64 mo, .slice a1 l1 c1] w fun e w' => e = .returned (.bool true) ∧ Below w.heap.size w w' := by
  obtain ⟨is, his, hs0, hs1, hs2⟩ := info_parts infoStr
  obtain ⟨i0, hi0, hz0, hz1, hz2⟩ := info_parts infoInt
  have H1 := Lib.hid h1; clear h1
  have hseen0 := al_seen b0 mo
  have hnew := fun (w1 : World) (X : Nat → Prop) (pa : Nat) (h : Arena w1 X pa (AS.new 65536)) (hX : ∀ k, w1.heap.size ≤ k → ¬ X k) => al_new h hX b0 mo
  obtain ⟨M1, hM1⟩ : ∃ M1, max mo 0 = M1 := ⟨_, rfl⟩
  obtain ⟨top, hM2⟩ : ∃ top, min M1 4096 = top := ⟨_, rfl⟩
  rw [hM1, hM2] at hseen0
  have htop : top ≤ 4096 := by omega
  generalize (AS.new 65536).allocAt (1 + min (max b0 1) 64) = A0 at hseen0 hnew
  generalize TS.new 1 (min (max b0 1) 64) mo = T0 at hseen0 hnew
  have HSEEN0 := Lib.hid hseen0; clear hseen0
  have HNEW := Lib.hid hnew; clear hnew
  go_enter Try.func3, Try.ntmps3
  go_wp2_with fail
  refine (aalive_any w).mono ?_
  rintro e wa ⟨rfl, ba⟩
  have za := ba.size
  have BA := Lib.hid ba; clear ba
  go_wp2_with fail
  refine (fr1 (w := wa) (X := fun k => k < w.heap.size) (fun k hk => by omega)).mono ?_
  rintro e w1 ⟨rfl, ar1, b1⟩
  have z1 := b1.size
  have B1 := Lib.hid (BA.out.trans (b1.mono za)); clear b1 BA
  go_wp2_with fail
  refine (HNEW.out _ _ _ ar1 (fun k hk => by omega)).mono ?_
  rintro e w2 ⟨pt, nb, rfl, t2, k2, hp2, hp3⟩
  clear ar1 HNEW
  have z2 := k2.size
  have hb2 : Below w2.heap.size w2 ((w2.alloc (Obj.cells #[] 9)).alloc (Obj.cells #[] 3)) := ((Below.refl _ w2).alloc (Nat.le_refl _) _).alloc (by simp) _
  have hrow0 : ARow w ((w2.alloc (Obj.cells #[] 9)).alloc (Obj.cells #[] 3)) (wa.heap.size + 1) pt nb w2.heap.size 0 (w2.heap.size + 1) 0 A0 T0 [] [] :=
    ⟨t2.wide hb2 (fun k hk => hk.imp id (fun hh => by simp; omega)) (.inl (.inr (.inl rfl))) (.inl (.inr (.inr rfl))), (World.ownsRow_made w2 #[] 0 (by omega) (by unfold maxLen; omega) rfl).alloc _,
     by have := World.ownsRow_made (base := w.heap.size) (e := 3) (size := 1) (w2.alloc (Obj.cells #[] 9)) #[] 0 (by simp; omega) (by unfold maxLen; omega) rfl
        simpa [intsOf] using this⟩
  have k0 : Keep (fun k => k < w.heap.size) w1 ((w2.alloc (Obj.cells #[] 9)).alloc (Obj.cells #[] 3)) := k2.trans (Keep.ofBelow (X := fun k => k < w.heap.size) hb2 (fun k hk => by omega))
  have HROW0 := Lib.hid hrow0; clear hrow0 t2
  have HK0 := Lib.hid k0; clear k0 k2 hb2
  go_wp2_with fail
  clear hM1 hM2
  go_loopg [11, 12, 48] l1 (fun g us ui i wr => AR w w1 (wa.heap.size + 1) pt nb top l1 g us ui i wr)
  case atStart => exact ⟨0, A0, T0, [], 0, 65, [], [], _, 0, _, 0, by omega, by omega, rfl, by omega, by omega, by simp, rfl, rfl, HSEEN0.out, HROW0.out, HK0.out⟩
  case round =>
    obtain ⟨k, A, T, P, m, B, S, I, gs, cs, gi, ci, hk, hg, rfl, hk301, hB, hSk, rfl, rfl, hseen, hrow, hkp⟩ := hrel
    obtain ⟨wb, hwb⟩ : ∃ x, x = wr := ⟨_, rfl⟩
    subst hwb
    have zr := hkp.size
    have HSEEN := Lib.hid hseen; clear hseen
    have HROW := Lib.hid hrow; clear hrow
    have HKP := Lib.hid hkp; clear hkp
    have HG := Lib.hid hg; clear hg
    obtain ⟨L, hL⟩ : ∃ L, S.length = L := ⟨_, rfl⟩
    have hLI : I.length = L := by rw [← HSEEN.out.len]; exact hL
    have hPL : P.length = L := by rw [HSEEN.out.plen]; exact hL
    rw [hL] at hSk ⊢
    rw [hLI]
    have HL := Lib.hid (And.intro hL (And.intro hLI hPL)); clear hL hLI hPL
    have hold : ∀ (b off : Nat) (v : Value), b < w.heap.size → w.cell? ⟨b, off, none⟩ = some v → wb.cell? ⟨b, off, none⟩ = some v := fun b off v hb hc =>
      ((HKP.out.toBelow (B := w.heap.size) (fun _ h => h) (by omega)).cell (p := ⟨b, off, none⟩) hb).trans ((B1.out.cell (p := ⟨b, off, none⟩) hb).trans hc)
    have HOLD := Lib.hid hold; clear hold
    by_cases hgo : k < l1 ∧ k ≤ 300
    · obtain ⟨hlt, h300⟩ := hgo
      obtain ⟨bb, off, s, rfl, hbl, hc, hs⟩ := H1.out k hlt
      have hc' := HOLD.out _ _ _ hbl hc
      have hbe := begin_way HSEEN.out.inv HROW.out.tab s (by unfold maxLen at hs; omega)
      have hsl : s.data.toList.length = s.size := by rw [Array.length_toList]; rfl
      have hstr : str s.data.toList = s := (str_of rfl).symm
      generalize hnn : s.data.toList = n at hbe hsl hstr
      clear hnn hc hbl
      have HBE := Lib.hid hbe; clear hbe
      have HSTR := Lib.hid (And.intro hsl hstr); clear hsl hstr
      go_wp2_with fail
      refine HBE.out.mono ?_
      rintro e w3 ⟨po, rfl, hpo, hway, b3⟩
      have z3 := b3.size
      have hone := HSEEN.out.one hway
      have HONE := Lib.hid hone; clear hone hway
      have hrow3 := HROW.out.below b3
      have HROW3 := Lib.hid hrow3; clear hrow3
      have K3 := Lib.hid (HKP.out.trans (Keep.ofBelow (X := fun k => k < w.heap.size) b3 (fun k hk => by omega))); clear b3
      go_wp2_with fail
      go_loopg [16] (2 * L + 16) (fun g i wr => AS_ w3 (XA w pt nb gs gi) (wa.heap.size + 1) pt nb po B n P T.name top (2 * L + 16) g i wr)
      case atStart => exact ⟨0, _, _, _, _, _, by omega, by omega, rfl, HONE.out, Keep.refl _ _⟩
      case round =>
        obtain ⟨k2, A', T', P', m', o', hk2, hg2, rfl, honeq, hk3⟩ := hrel
        have HQ := Lib.hid honeq; clear honeq
        have HK3 := Lib.hid hk3; clear hk3
        have HG2 := Lib.hid hg2; clear hg2
        by_cases hl2 : k2 < 2 * L + 16
        · have hst := HQ.out.step (by omega) (by omega)
          have HST := Lib.hid hst; clear hst
          go_wp2_with fail
          refine HST.out.mono ?_
          rintro e w4 ⟨⟨bb2, rfl⟩, k4, A2, T2, P2, m2, o2, hq2⟩
          have HQ2 := Lib.hid hq2; clear hq2
          have K4 := Lib.hid k4; clear k4
          go_wp2_with fail
          go_roundg (2 * L + 16 - (k2 + 1))
          case measure => have := HG2.out; omega
          case rel => exact ⟨k2 + 1, A2, T2, P2, m2, o2, by omega, Nat.le_refl _, by go_num, HQ2.out, HK3.out.trans (K4.out.less (fun j hj => ⟨.inl hj.1, fun e => HROW.out.tab.fut po hpo (e ▸ hj.1), hj.2⟩))⟩
        · obtain ⟨hov, hres⟩ := HQ.out.over (by omega) (by rw [HL.out.2.2]; omega)
          have hway2 := HQ.out.1
          have hmost2 := HQ.out.2.1
          obtain ⟨S', I', hseen', htold⟩ := HSEEN.out.told hway2.inv hmost2 hres
          obtain ⟨we, hwe⟩ : ∃ x, x = wr := ⟨_, rfl⟩
          subst hwe
          obtain ⟨gs1, gs2⟩ := row_ne HROW3.out.rs HROW3.out.tab (by decide)
          obtain ⟨gi1, gi2⟩ := row_ne HROW3.out.ri HROW3.out.tab (by decide)
          have hrow4 : ARow w we (wa.heap.size + 1) pt nb gs cs gi ci A' T' S I :=
            ⟨hway2.tab.less (fun j hj => .inl hj) (.inl (.inr (.inl rfl))) (.inl (.inr (.inr rfl))), row_keep HROW3.out.rs HK3.out ⟨.inr (.inl rfl), gs2⟩, row_keep HROW3.out.ri HK3.out ⟨.inr (.inr rfl), gi2⟩⟩
          have K5 := Lib.hid (K3.out.trans (HK3.out.less (fun j hj => ⟨.inl (.inl hj), by omega⟩)))
          have zwe := HK3.out.size
          have hans := hway2.answer hov
          have hovr : ∀ w6, Keep (fun _ => True) we w6 → Calls Try.prog 14 #[.pointer (some ⟨po, 0, none⟩)] w6 fun e w' => e = .returned (.bool true) ∧ w6 = w' := fun w6 k6 => by
            have := over_any (hway2.op.keep k6 trivial)
            rw [decide_eq_true hov] at this
            exact this
          have HOVR := Lib.hid hovr; clear hovr
          have HROW4 := Lib.hid hrow4; clear hrow4
          have HSEEN' := Lib.hid hseen'; clear hseen'
          generalize o'.id = id at htold hans
          generalize o'.err = er at htold hans
          have HANS := Lib.hid hans; clear hans
          have HTOLD := Lib.hid htold; clear htold
          clear hov hres hway2 hmost2 HQ HK3 HG2 HONE HROW3 K3 HBE hk2
          have hkn : ∀ w6, Below we.heap.size we w6 → Calls Try.prog 15 #[.slice (some ⟨gs, 0, none⟩) L cs, .slice (some ⟨gi, 0, none⟩) L ci, .string s] w6 fun e w' => e = .returned (.int .i64 (knownF S I n)) ∧ w6 = w' := fun w6 b6 => by
            have hr6 := HROW4.out.below b6
            have := known_any (c1 := cs) (c2 := ci) (row_at hr6.rs).1 (row_at hr6.ri).1 HSEEN.out.len (by rw [HL.out.1]; omega) n
            rw [HL.out.1, HL.out.2.1, HSTR.out.2] at this
            exact this
          have HKN := Lib.hid hkn; clear hkn
          have hlen' : ∀ w6, Below we.heap.size we w6 → Calls Try.prog 17 #[.pointer (some ⟨pt, 0, none⟩)] w6 fun e w' => e = .returned (.int .i64 P'.length) ∧ Below w6.heap.size w6 w' := fun w6 b6 =>
            (Many.nil_ HSEEN'.out.inv (HROW4.out.tab.below b6)).length (by simp; omega)
          have HLEN' := Lib.hid hlen'; clear hlen'
          go_wp2_with fail
          refine HANS.out.mono ?_
          rintro e w6 ⟨rfl, k6⟩
          have hb6 : Below we.heap.size we w6 := ⟨k6.os, k6.tape, k6.output, k6.size, fun j hj => k6.block j hj trivial⟩
          have ho6 := HOVR.out w6 k6
          have HO6 := Lib.hid ho6; clear ho6 k6
          have HB6 := Lib.hid hb6; clear hb6
          have z6 := HB6.out.size
          have hkn6 := HKN.out w6 HB6.out
          rcases HTOLD.out with ⟨h64, rfl, rfl, rfl⟩ | ⟨h64, hkk, rfl, rfl, rfl, rfl⟩ | ⟨h64, hkk, htp, rfl, rfl, rfl, rfl⟩ | ⟨h64, hkk, htp, rfl, hid, hnin, rfl, rfl⟩
          · have hs64 : 64 < s.size := by rw [← HSTR.out.1]; exact h64
            have HKN6 := Lib.hid hkn6; clear hkn6
            clear HTOLD h64
            generalize knownF S' I' n = was at HKN6
            have hpl : P'.length = L := by rw [HSEEN'.out.plen, HL.out.1]
            have hln := HLEN'.out w6 HB6.out
            rw [hpl] at hln
            have HLN := Lib.hid hln; clear hln hpl
            go_wp2_with fail
            refine HO6.out.mono ?_
            rintro e w' ⟨rfl, rfl⟩
            go_wp2_with fail
            refine HKN6.out.mono ?_
            rintro e w' ⟨rfl, rfl⟩
            go_wp2_with fail
            refine HLN.out.mono ?_
            rintro e w7 ⟨rfl, b7⟩
            have B7 := Lib.hid (HB6.out.trans (b7.mono z6)); clear b7
            go_wp2_with fail
            go_roundg (l1 - (k + 1))
            case measure => have := HG.out; omega
            case rel => exact ⟨k + 1, A', T', P', m', B + 1, S', I', gs, cs, gi, ci, by omega, Nat.le_refl _, by go_num, by omega, by omega, by rw [HL.out.1]; omega, by rw [HL.out.1], by rw [HL.out.2.1], HSEEN'.out, HROW4.out.below B7.out, K5.out.trans (Keep.ofBelow (X := fun j => j < w.heap.size) B7.out (fun j hj => by omega))⟩
          · have hs64 : s.size ≤ 64 := by rw [← HSTR.out.1]; exact h64
            clear HTOLD h64
            generalize knownF S' I' n = was at hkn6 hkk HANS HO6 ⊢
            have HKN6 := Lib.hid hkn6; clear hkn6
            have hpl : P'.length = L := by rw [HSEEN'.out.plen, HL.out.1]
            have hln := HLEN'.out w6 HB6.out
            rw [hpl] at hln
            have HLN := Lib.hid hln; clear hln hpl
            go_wp2_with fail
            refine HO6.out.mono ?_
            rintro e w' ⟨rfl, rfl⟩
            go_wp2_with fail
            refine HKN6.out.mono ?_
            rintro e w' ⟨rfl, rfl⟩
            go_wp2_with fail
            refine HLN.out.mono ?_
            rintro e w7 ⟨rfl, b7⟩
            have B7 := Lib.hid (HB6.out.trans (b7.mono z6)); clear b7
            go_wp2_with fail
            go_roundg (l1 - (k + 1))
            case measure => have := HG.out; omega
            case rel => exact ⟨k + 1, A', T', P', m', B + 1, S', I', gs, cs, gi, ci, by omega, Nat.le_refl _, by go_num, by omega, by omega, by rw [HL.out.1]; omega, by rw [HL.out.1], by rw [HL.out.2.1], HSEEN'.out, HROW4.out.below B7.out, K5.out.trans (Keep.ofBelow (X := fun j => j < w.heap.size) B7.out (fun j hj => by omega))⟩
          · have hs64 : s.size ≤ 64 := by rw [← HSTR.out.1]; exact h64
            rw [hkk] at hkn6
            rw [HL.out.1] at htp
            clear HTOLD h64 hkk
            have HKN6 := Lib.hid hkn6; clear hkn6
            have hpl : P'.length = L := by rw [HSEEN'.out.plen, HL.out.1]
            have hln := HLEN'.out w6 HB6.out
            rw [hpl] at hln
            have HLN := Lib.hid hln; clear hln hpl
            go_wp2_with fail
            refine HO6.out.mono ?_
            rintro e w' ⟨rfl, rfl⟩
            go_wp2_with fail
            refine HKN6.out.mono ?_
            rintro e w' ⟨rfl, rfl⟩
            go_wp2_with fail
            refine HLN.out.mono ?_
            rintro e w7 ⟨rfl, b7⟩
            have B7 := Lib.hid (HB6.out.trans (b7.mono z6)); clear b7
            go_wp2_with fail
            go_roundg (l1 - (k + 1))
            case measure => have := HG.out; omega
            case rel => exact ⟨k + 1, A', T', P', m', B + 1, S', I', gs, cs, gi, ci, by omega, Nat.le_refl _, by go_num, by omega, by omega, by rw [HL.out.1]; omega, by rw [HL.out.1], by rw [HL.out.2.1], HSEEN'.out, HROW4.out.below B7.out, K5.out.trans (Keep.ofBelow (X := fun j => j < w.heap.size) B7.out (fun j hj => by omega))⟩
          · have hs64 : s.size ≤ 64 := by rw [← HSTR.out.1]; exact h64
            rw [hkk] at hkn6
            rw [HL.out.1] at htp
            have hrow6 := HROW4.out.below HB6.out
            have hrs6 := hrow6.rs
            have hri6 := hrow6.ri
            have htb6 := hrow6.tab
            have hhas := hasnt_any (c := ci) (row_at hri6).1 (by rw [HL.out.2.1]; omega) hnin
            rw [HL.out.1] at hrs6
            rw [HL.out.2.1] at hri6 hhas
            have hlt0 : ¬ top ≤ (L : Int) := by omega
            have hsl : (strsOf S).length = L := by unfold strsOf; rw [List.length_map, HL.out.1]
            have hil : (intsOf I).length = L := by unfold intsOf; rw [List.length_map, HL.out.2.1]
            clear HTOLD h64 hkk hrow6 hnin
            have HKN6 := Lib.hid hkn6; clear hkn6
            have HHAS := Lib.hid hhas; clear hhas
            have HRS6 := Lib.hid hrs6; clear hrs6
            have HRI6 := Lib.hid hri6; clear hri6
            have HTB6 := Lib.hid htb6; clear htb6
            have hneid : (id < 1) = False := by simp; omega
            go_wp2_with fail
            refine HO6.out.mono ?_
            rintro e w' ⟨rfl, rfl⟩
            go_wp2_with fail
            refine HKN6.out.mono ?_
            rintro e w' ⟨rfl, rfl⟩
            go_wp2_with fail
            refine HHAS.out.mono ?_
            rintro e w' ⟨rfl, rfl⟩
            go_wp2_with (at_builtin; refine wpList_append_lies _ rfl _ _ 22 rfl w.heap.size 9 is (.string ⟨#[]⟩) 1 16 Try.underlying22 his hs0 hs1 hs2 rfl (by decide) _ _ _ rfl (HRS6.out.alloc _) ⟨w6.heap.size, 0, none⟩ 1 1 [.string s] rfl rfl (cell_one_ptr w6 _ _ rfl) (by simp [Value.oneCell']) (by decide) (by unfold maxLen; omega) (by omega) (by simp; omega) (w6.heap.size + 1) (by simp) ?_)
            intro g1 cap1 w7 hown hgr hat hltg
            obtain ⟨tb7, ri7, k7⟩ := push_row HTB6.out HRS6.out HRI6.out (by decide) (by decide) (.inr (.inl rfl)) (by simpa [Value.ownBlock] using hgr) (by simpa [Value.ownBlock] using hat) hltg (Y := XA w pt nb g1 gi) (fun j hj => by
              rcases hj with hj | rfl | rfl
              · exact .inl (.inl hj)
              · exact .inr rfl
              · exact .inl (.inr (.inr rfl))) (.inl (.inr (.inl rfl))) (.inl (.inr (.inr rfl)))
            have z7 := k7.size
            have HT7 := Lib.hid tb7; clear tb7
            have HRI7 := Lib.hid ri7; clear ri7
            have HK7 := Lib.hid k7; clear k7
            have HOWN7 := Lib.hid hown; clear hown hgr hat
            go_wp2_with (at_builtin; refine wpList_append_lies _ rfl _ _ 30 rfl w.heap.size 3 i0 (.int .i64 0) 1 8 Try.underlying30 hi0 hz0 hz1 hz2 rfl (by decide) _ _ _ rfl (HRI7.out.alloc _) ⟨w7.heap.size, 0, none⟩ 1 1 [.int .i64 id] rfl rfl (cell_one_ptr w7 _ _ rfl) (by simp [Value.oneCell']) (by decide) (by unfold maxLen; omega) (by omega) (by simp; omega) (w7.heap.size + 1) (by simp) ?_)
            intro g2 cap2 w8 hown hgr hat hltg2
            obtain ⟨tb8, rs8, k8⟩ := push_row HT7.out HRI7.out HOWN7.out (by decide) (by decide) (.inr (.inr rfl)) (by simpa [Value.ownBlock] using hgr) (by simpa [Value.ownBlock] using hat) hltg2 (Y := XA w pt nb g1 g2) (fun j hj => by
              rcases hj with hj | rfl | rfl
              · exact .inl (.inl hj)
              · exact .inl (.inr (.inl rfl))
              · exact .inr rfl) (.inl (.inr (.inl rfl))) (.inl (.inr (.inr rfl)))
            have z8 := k8.size
            have hln := (Many.nil_ HSEEN'.out.inv tb8).length (by simp; omega)
            rw [HSEEN'.out.plen, List.length_append, HL.out.1] at hln
            have hln' : Calls Try.prog 17 #[.pointer (some ⟨pt, 0, none⟩)] w8 fun e w' => e = .returned (.int .i64 ((L : Int) + 1)) ∧ Below w8.heap.size w8 w' := hln
            have HLN := Lib.hid hln'; clear hln hln'
            have HT8 := Lib.hid tb8; clear tb8
            have HRS8 := Lib.hid rs8; clear rs8
            have HRI8 := Lib.hid hown; clear hown hgr hat
            have K8 := Lib.hid ((K5.out.trans (Keep.ofBelow (X := fun j => j < w.heap.size) HB6.out (fun j hj => by omega))).trans (HK7.out.trans k8)); clear k8
            go_wp2_with fail
            refine HLN.out.mono ?_
            rintro e w9 ⟨rfl, b9⟩
            have B9 := Lib.hid b9; clear b9
            go_wp2_with fail
            go_roundg (l1 - (k + 1))
            case measure => have := HG.out; omega
            case rel =>
              have e1 : (S ++ [n]).length = L + 1 := by rw [List.length_append, HL.out.1]; rfl
              have e2 : (I ++ [id]).length = L + 1 := by rw [List.length_append, HL.out.2.1]; rfl
              have e3 : strsOf (S ++ [n]) = strsOf S ++ [.string s] := by unfold strsOf; rw [List.map_append, ← HSTR.out.2]; rfl
              have e4 : intsOf (I ++ [id]) = intsOf I ++ [.int .i64 id] := by unfold intsOf; rw [List.map_append]; rfl
              refine ⟨k + 1, A', T', P', m', B + 1, S ++ [n], I ++ [id], g1, cap1, g2, cap2, by omega, Nat.le_refl _, by go_num, by omega, by omega, by rw [e1]; omega, by rw [e1], by rw [e2], HSEEN'.out, (⟨HT8.out, ?_, ?_⟩ : ARow w w8 (wa.heap.size + 1) pt nb g1 cap1 g2 cap2 A' T' (S ++ [n]) (I ++ [id])).below B9.out, K8.out.trans (Keep.ofBelow (X := fun j => j < w.heap.size) B9.out (fun j hj => by omega))⟩
              · rw [e1, e3]; exact HRS8.out
              · rw [e2, e4]; exact HRI8.out
    · have hend : k = l1 ∨ (k < l1 ∧ 300 < k) := by omega
      have hbf : Below w.heap.size w wb := B1.out.trans (HKP.out.toBelow (fun _ h => h) (by omega))
      have HBF := Lib.hid hbf; clear hbf
      have hnames : ∀ j, (hj : j < L) → ∃ x sn, wb.cell? ⟨gi, j, none⟩ = some (.int .i64 x) ∧ wb.cell? ⟨gs, j, none⟩ = some (.string sn) ∧ gi < wb.heap.size ∧ gs < wb.heap.size ∧ ∀ wq, Below wb.heap.size wb wq →
          Calls Try.prog 18 #[.pointer (some ⟨pt, 0, none⟩), .int .i64 x] wq fun e w' => e = .returned (.tuple #[.string sn, .bool true]) ∧ Below wq.heap.size wq w' := fun j hj => by
        have h1 : j < S.length := by rw [HL.out.1]; exact hj
        have h2 : j < I.length := by rw [HL.out.2.1]; exact hj
        obtain ⟨g1, e1, l1', q1⟩ := (row_at HROW.out.rs).1 j _ (strsOf_get h1)
        obtain ⟨g2, e2, l2', q2⟩ := (row_at HROW.out.ri).1 j _ (intsOf_get h2)
        injection e1 with e1
        injection e1 with e1
        injection e2 with e2
        injection e2 with e2
        subst e1
        subst e2
        refine ⟨_, _, q2, q1, l2', l1', fun wq hb => ?_⟩
        have hin := HSEEN.out.isin h2
        obtain ⟨f1, f2⟩ := HSEEN.out.found hin
        obtain ⟨_, _, nx, en, _⟩ := HSEEN.out.inv.lst.put _ hin
        have hk' := HSEEN.out.inv.ok.key en
        have hmd := HSEEN.out.inv.made
        have := name_any HSEEN.out.inv (by simp; omega) (HROW.out.tab.below hb) (id := I[j]) (wf_small (by omega) (by simp [owns] at hmd; omega))
        rw [f1, f2, if_pos (by decide), HSEEN.out.nm j h1 h2] at this
        refine this.mono ?_
        rintro e w' ⟨rfl, d, rfl⟩
        exact ⟨rfl, ⟨rfl, rfl, rfl, Nat.le_refl _, fun _ _ => rfl⟩⟩
      have HNAMES := Lib.hid hnames; clear hnames
      have hflt : ∀ wq, Below wb.heap.size wb wq → Calls Try.prog 19 #[.pointer (some ⟨wa.heap.size + 1, 0, none⟩)] wq fun e w' => e = .returned (.int .i64 0) ∧ wq = w' := fun wq hb => by
        have := faults_any (HROW.out.tab.arena.below hb)
        rw [HSEEN.out.inv.flt] at this
        exact this
      have HFLT := Lib.hid hflt; clear hflt
      have hstr : k < l1 → ∃ bb off s, a1 = some ⟨bb, off, none⟩ ∧ wb.cell? ⟨bb, off + k, none⟩ = some (.string s) := fun hlt => by
        obtain ⟨bb, off, s, e, hbl, hc, _⟩ := H1.out k hlt
        exact ⟨bb, off, s, e, HOLD.out _ _ _ hbl hc⟩
      have hL301 : L ≤ 301 := by omega
      clear hgo HSEEN0 HROW0 HK0
      rcases hend with rfl | ⟨hlt, h300⟩
      · clear hstr
        have HTAG := Lib.hid (rfl : k = k)
        go_wp2_with fail
        go_loopg [136] L (fun g i wr => AN w1 wb L g i wr)
        case atStart => exact ⟨0, by omega, by omega, rfl, Below.refl _ _⟩
        case round =>
          obtain ⟨j, hj, hgj, rfl, hbq⟩ := hrel
          have HBQ := Lib.hid hbq; clear hbq
          have HGJ := Lib.hid hgj; clear hgj
          have zq := HBQ.out.size
          by_cases hlt : j < L
          · obtain ⟨x, sn, q2, q1, g2, g1, hnm⟩ := HNAMES.out j hlt
            have q2' := (HBQ.out.cell (p := ⟨gi, j, none⟩) g2).trans q2
            have hnm' := hnm _ HBQ.out
            have HNM := Lib.hid hnm'; clear hnm' hnm q2
            by_cases h60 : j < 60
            · go_wp2_with fail
              refine HNM.out.mono ?_
              rintro e w9 ⟨rfl, b9⟩
              have B9 := Lib.hid (HBQ.out.trans (b9.mono zq)); clear b9
              have q1' := (B9.out.cell (p := ⟨gs, j, none⟩) g1).trans q1
              go_wp2_with fail
              go_roundg (L - (j + 1))
              case measure => have := HGJ.out; omega
              case rel => exact ⟨j + 1, by omega, Nat.le_refl _, by go_num, B9.out⟩
            · go_wp2_with fail
              refine HNM.out.mono ?_
              rintro e w9 ⟨rfl, b9⟩
              have B9 := Lib.hid (HBQ.out.trans (b9.mono zq)); clear b9
              go_wp2_with fail
              go_roundg (L - (j + 1))
              case measure => have := HGJ.out; omega
              case rel => exact ⟨j + 1, by omega, Nat.le_refl _, by go_num, B9.out⟩
          · have hfl := HFLT.out _ HBQ.out
            have HFL := Lib.hid hfl; clear hfl
            go_wp2_with fail
            refine HFL.out.mono ?_
            rintro e w9 ⟨rfl, rfl⟩
            go_wp2_with fail
            go_ret
            exact ⟨rfl, HBF.out.trans (HBQ.out.mono (by omega))⟩
      · obtain ⟨bb, off, s0, rfl, hc0⟩ := hstr hlt
        have hgt : decide ((300 : Int) < (k : Int)) = true := decide_eq_true (by omega)
        have hgt2 : decide (300 < k) = true := decide_eq_true h300
        have hlk : decide (k < l1) = true := decide_eq_true hlt
        have hlk2 : decide ((k : Int) < (l1 : Int)) = true := decide_eq_true (by omega)
        go_wp2_with fail
        clear hgt hgt2 h300 hlk hlk2 hlt hc0 hstr
        go_loopg [136] L (fun g i wr => AN w1 wb L g i wr)
        case atStart => exact ⟨0, by omega, by omega, rfl, Below.refl _ _⟩
        case round =>
          obtain ⟨j, hj, hgj, rfl, hbq⟩ := hrel
          have HBQ := Lib.hid hbq; clear hbq
          have HGJ := Lib.hid hgj; clear hgj
          have zq := HBQ.out.size
          by_cases hltj : j < L
          · obtain ⟨x, sn, q2, q1, g2, g1, hnm⟩ := HNAMES.out j hltj
            have q2' := (HBQ.out.cell (p := ⟨gi, j, none⟩) g2).trans q2
            have hnm' := hnm _ HBQ.out
            have HNM := Lib.hid hnm'; clear hnm' hnm q2
            by_cases h60 : j < 60
            · go_wp2_with fail
              refine HNM.out.mono ?_
              rintro e w9 ⟨rfl, b9⟩
              have B9 := Lib.hid (HBQ.out.trans (b9.mono zq)); clear b9
              have q1' := (B9.out.cell (p := ⟨gs, j, none⟩) g1).trans q1
              go_wp2_with fail
              go_roundg (L - (j + 1))
              case measure => have := HGJ.out; omega
              case rel => exact ⟨j + 1, by omega, Nat.le_refl _, by go_num, B9.out⟩
            · go_wp2_with fail
              refine HNM.out.mono ?_
              rintro e w9 ⟨rfl, b9⟩
              have B9 := Lib.hid (HBQ.out.trans (b9.mono zq)); clear b9
              go_wp2_with fail
              go_roundg (L - (j + 1))
              case measure => have := HGJ.out; omega
              case rel => exact ⟨j + 1, by omega, Nat.le_refl _, by go_num, B9.out⟩
          · have hfl := HFLT.out _ HBQ.out
            have HFL := Lib.hid hfl; clear hfl
            go_wp2_with fail
            refine HFL.out.mono ?_
            rintro e w9 ⟨rfl, rfl⟩
            go_wp2_with fail
            go_ret
            exact ⟨rfl, HBF.out.trans (HBQ.out.mono (by omega))⟩
end Go.Proofs.Ytebdlggmpojgdaa
