/-
  CellsApart: what a block holds changes with no call for another one; what is freed tells nothing any more. No condition but the reach: a script takes at most 2^47 bytes.
-/
import Derived.Test.YtbgbknbfleiakaaRoom
namespace Go.Proofs.Ytbgbknbfleiakaa
open Go.RowKit Go.Maps

/-- A call for another block leaves a block as it is. -/
theorem AS.step_look (S : AS) (hS : S.Ok) {b c : Int} (hne : b ≠ c) {cs : List Int} (hl : look S.bl c = some cs) (kd i v x : Int) : look (S.step kd b i v x).bl c = some cs := by
  have hkey := (hS.key hl).2
  have hs : ∀ ds, look (S.set b ds).bl c = some cs := fun ds => by
    simp only [AS.set, look_put]
    rw [if_neg (fun h => hne h.1.symm)]
    exact hl
  unfold AS.step
  repeat' split
  · unfold AS.allocAt; split
    · simp only [AS.alloc, look_cons]; rw [if_neg (by omega)]; exact hl
    · exact hl
  · unfold AS.freeAt; split
    · exact hl
    · simp only [AS.free, look_cut]; rw [if_neg (Ne.symm hne)]; exact hl
  · unfold AS.touch; split <;> exact hl
  · unfold AS.storeAt; split
    · exact hl
    · split
      · exact hs _
      · exact hl
  · unfold AS.swapAt; split
    · exact hl
    · split
      · exact hs _
      · exact hl
  · unfold AS.addAt; split
    · exact hl
    · split
      · exact hs _
      · exact hl
  · unfold AS.touch; split <;> exact hl
  · exact hl

/-- What holds at the head of a round of the second script. -/
structure ApRel (w wr : World) (X : Nat → Prop) (pa k : Nat) (S : AS) : Prop where
  below : Below w.heap.size w wr
  arena : Arena wr X pa S
  cover : ∀ i, i < w.heap.size → X i
  bound : ∀ i, X i → i < wr.heap.size
  few : S.made ≤ k

theorem ApRel.step {w wr w1 : World} {X : Nat → Prop} {pa k : Nat} {S : AS} (h : ApRel w wr X pa k S) {kd b i v x : Int} (o : Obj) (ha : Arena w1 X pa (S.step kd b i v x)) (hk : Keep X (wr.alloc o) w1) :
    ApRel w w1 X pa (k + 1) (S.step kd b i v x) :=
  ⟨(h.below.alloc h.below.size o).trans (hk.toBelow h.cover (by have := h.below.size; simp; omega)), ha, h.cover, fun i hi => by have := h.bound i hi; have := hk.size; simp at this; omega, by have := (S.step_made kd b i v x).2; have := h.few; omega⟩
theorem ApRel.pass {w wr : World} {X : Nat → Prop} {pa k : Nat} {S : AS} (h : ApRel w wr X pa k S) (o : Obj) : ApRel w (wr.alloc o) X pa (k + 1) S :=
  ⟨h.below.alloc h.below.size o, h.arena.alloc o, h.cover, fun i hi => by have := h.bound i hi; simp; omega, by have := h.few; omega⟩
theorem ApRel.hX {w wr : World} {X : Nat → Prop} {pa k : Nat} {S : AS} (h : ApRel w wr X pa k S) (o : Obj) : ∀ i, (wr.alloc o).heap.size ≤ i → ¬ X i := fun i hi hx => by
  have := h.bound i hx; simp at hi; omega

/-- The slice of what a block held: its cells in a row that the arena doesn't own. -/
def Was (w : World) (X : Nat → Prop) (g : Nat) (cs : List Int) : Prop := X g ∧ g < w.heap.size ∧ ∀ j, j < cs.length → w.cell? ⟨g, j, none⟩ = some (.int .i64 (cs.getD j 0))
theorem Was.keep {w w' : World} {X : Nat → Prop} {g : Nat} {cs : List Int} (h : Was w X g cs) (hk : Keep X w w') : Was w' X g cs :=
  ⟨h.1, Nat.lt_of_lt_of_le h.2.1 hk.size, fun j hj => (World.cell?_of_block (a := ⟨g, j, none⟩) (hk.block g h.2.1 h.1)).trans (h.2.2 j hj)⟩
theorem Was.alloc {w : World} {X : Nat → Prop} {g : Nat} {cs : List Int} (h : Was w X g cs) (o : Obj) : Was (w.alloc o) X g cs := h.keep ((Keep.refl X w).alloc o)

theorem AS.freeAlloc_look {S : AS} (hS : S.Ok) {b : Int} {cs : List Int} (hl : look S.bl b = some cs) (n : Int) : look ((S.free b cs.length).allocAt n).bl b = none := by
  have hkey := (hS.key hl).2
  unfold AS.allocAt
  split
  · simp only [AS.alloc, AS.free, look_cons, look_cut]; rw [if_neg (by omega)]; simp
  · simp [AS.free, look_cut]

theorem ap0 {w : World} {X : Nat → Prop} (hX : ∀ k, w.heap.size ≤ k → ¬ X k) : Calls Try.prog 8 #[.int .i64 3000] w fun e w' => e = .returned (.pointer (some ⟨w.heap.size + 1, 0, none⟩)) ∧ Arena w' X (w.heap.size + 1) ⟨3000, 0, 0, 0, []⟩ ∧ Below w.heap.size w w' := new_any 3000 w X hX

set_option maxHeartbeats 4000000 in
set_option maxRecDepth 100000 in
theorem apart_walk (a0 : Option Addr) (len0 cap0 : Nat) (a1 : Option Addr) (len1 cap1 : Nat) (b : Int) (w : World) (ho0 : IsOps w a0 len0) (ho1 : IsOps w a1 len1) (hlen0 : len0 ≤ 1152921504606846000) (hlen1 : len1 ≤ 1152921504606846000) (hwb : (ik b).wf = true) :
    Calls Try.prog 4 #[.slice a0 len0 cap0, .slice a1 len1 cap1, .int .i64 b] w fun e w' => e = .returned (.bool true) ∧ Below w.heap.size w w' := by
  have hX : ∀ W : World, w.heap.size ≤ W.heap.size → ∀ k, W.heap.size ≤ k → ¬ k < w.heap.size := fun W h k hk => by omega
  have HX := Lib.hid hX; clear hX
  have HO0 := Lib.hid ho0; clear ho0
  have HO1 := Lib.hid ho1; clear ho1
  have HWB := Lib.hid hwb; clear hwb
  go_enter Try.func4, Try.ntmps4
  go_wp2_with fail
  refine (ap0 (X := fun k => k < w.heap.size) (HX.out _ (Nat.le_refl _))).mono ?_
  rintro e w1 ⟨rfl, a1', b1⟩
  have z1' := b1.size
  go_wp2_with fail
  refine (alive_any _).mono ?_
  rintro e w2 ⟨rfl, b2⟩
  have HREL : Hid (ScRel w w2 (w.heap.size + 1) 0 3000 ⟨3000, 0, 0, 0, []⟩) := ⟨b1.trans (b2.mono z1'), a1'.below b2, rfl, by simp⟩
  clear a1' b1 b2
  go_wp2_with fail
  generalize w.heap.size + 1 = pa at *
  go_loopw [34] (fun i wr => ∃ (k : Nat) (S : AS), k ≤ len0 ∧ i = .int .i64 k ∧ ScRel w wr pa k 3000 S) (fun i _ => len0 - (intOf i).toNat)
  case atStart => exact ⟨0, _, by omega, rfl, HREL.out⟩
  case round =>
    clear HREL
    obtain ⟨k, S, hk, rfl, hr⟩ := hrel
    by_cases hkl : k < len0
    · obtain ⟨bl, off, kd, bb, i, v, x, rfl, hb, ⟨c0, c1, c2, c3, c4⟩, hwbb, _⟩ := HO0.out k hkl
      have e : ∀ o, w.cell? ⟨bl, o, none⟩ = wr.cell? ⟨bl, o, none⟩ := fun o => (hr.below.cell (p := ⟨bl, o, none⟩) hb).symm
      rw [e] at c0 c1 c2 c3 c4
      clear e
      have hcall := asks0_any (hr.arena.alloc (.cells #[.int .i64 kd, .int .i64 bb, .int .i64 i, .int .i64 v, .int .i64 x] 31)) (HX.out _ (by have := hr.below.size; simp; omega)) (by have := hr.few; omega) kd hwbb i v x
      have HC := Lib.hid hcall; clear hcall
      have HREL := Lib.hid hr; clear hr
      go_wp2_with fail
      refine HC.out.mono ?_
      rintro e w3 ⟨⟨u, rfl⟩, a3, k3⟩
      have HREL3 := Lib.hid (HREL.out.step _ a3 k3)
      clear a3 k3
      go_wp2_with fail
      go_roundw
      case rel => exact ⟨k + 1, _, by omega, by go_num, HREL3.out⟩
      case measure => simp [intOf]; omega
    · have HB := Lib.hid hr.below
      have HAR := Lib.hid hr.arena
      have hfew := hr.few
      have HFEW := Lib.hid hfew; clear hfew
      clear hr
      cases hl : look S.bl b with
      | none =>
        have hsz := size_any HAR.out HWB.out
        have e1 : S.sizeAt b = 0 := by unfold AS.sizeAt; rw [hl]
        have e2 : S.err0 b = 20 := by unfold AS.err0; rw [hl]
        have e3 : S.touch b = S.fault := by unfold AS.touch; rw [hl]
        rw [e1, e2, e3] at hsz
        have HSZ := Lib.hid hsz; clear hsz
        clear e1 e2 e3 hl
        go_wp2_with fail
        refine HSZ.out.mono ?_
        rintro e w3 ⟨rfl, a3, k3⟩
        have HREL3 : Hid (ApRel w w3 (fun i => i < w.heap.size) pa (len0 + 0) S.fault) := ⟨HB.out.trans (k3.toBelow (fun _ h => h) HB.out.size), a3, fun _ h => h, fun i hi => by have := HB.out.size; have := k3.size; omega, by have := HFEW.out; simp only [AS.fault]; omega⟩
        clear a3 k3
        go_wp2_with fail
        refine wp_loop_rounds 1 ?_
        rw [rounds_succ]
        go_wp2_with fail
        have HREL4 : Hid (ApRel w (w3.alloc (Obj.cells #[] 2)) (fun i => i < w.heap.size) pa (len0 + 0) S.fault) :=
          ⟨HREL3.out.below.alloc HREL3.out.below.size _, HREL3.out.arena.alloc _, HREL3.out.cover, fun i hi => by have := HREL3.out.bound i hi; simp; omega, HREL3.out.few⟩
        clear HREL3 HSZ
        generalize w3.alloc (Obj.cells #[] 2) = W4 at HREL4 ⊢
        go_loopw [68] (fun i wr => ∃ (j : Nat) (S : AS), j ≤ len1 ∧ i = .int .i64 j ∧ ApRel w wr (fun i => i < w.heap.size) pa (len0 + j) S) (fun i _ => len1 - (intOf i).toNat)
        case atStart => exact ⟨0, _, by omega, rfl, HREL4.out⟩
        case round =>
          clear HREL4
          obtain ⟨j, T, hj, rfl, hr⟩ := hrel
          by_cases hjl : j < len1
          · obtain ⟨bl, off, kd, bb, i, v, x, rfl, hb, ⟨c0, c1, c2, c3, c4⟩, hwbb, _⟩ := HO1.out j hjl
            have e : ∀ o, w.cell? ⟨bl, o, none⟩ = wr.cell? ⟨bl, o, none⟩ := fun o => (hr.below.cell (p := ⟨bl, o, none⟩) hb).symm
            rw [e] at c0 c1 c2 c3 c4
            clear e
            by_cases hbb : bb = b
            · subst hbb
              have HREL := Lib.hid hr; clear hr
              go_wp2_with fail
              go_roundw
              case rel => exact ⟨j + 1, T, by omega, by go_num, HREL.out.pass _⟩
              case measure => simp [intOf]; omega
            · have hcall := asks0_any (hr.arena.alloc (.cells #[.int .i64 kd, .int .i64 bb, .int .i64 i, .int .i64 v, .int .i64 x] 31)) (hr.hX _) (by have := hr.few; omega) kd hwbb i v x
              have HC := Lib.hid hcall; clear hcall
              have HREL := Lib.hid hr; clear hr
              have hne : (bb == b) = false := by simpa using hbb
              clear hbb
              go_wp2_with fail
              refine HC.out.mono ?_
              rintro e w5 ⟨⟨u, rfl⟩, a5, k5⟩
              have HREL5 := Lib.hid (HREL.out.step _ a5 k5)
              clear a5 k5
              go_wp2_with fail
              go_roundw
              case rel => exact ⟨j + 1, _, by omega, by go_num, HREL5.out⟩
              case measure => simp [intOf]; omega
          · have HB3 := Lib.hid hr.below
            have HAR3 := Lib.hid hr.arena
            clear hr
            cases hl3 : look T.bl b with
            | none =>
              have hmiss := load_miss HAR3.out HWB.out hl3 0
              have HM := Lib.hid hmiss; clear hmiss
              clear hl3
              go_wp2_with fail
              refine HM.out.mono ?_
              rintro e w5 ⟨rfl, _, k5⟩
              have HB5 := Lib.hid (HB3.out.trans (k5.toBelow (fun _ h => h) HB3.out.size))
              clear k5
              go_wp2_with fail
              go_ret
              exact ⟨rfl, HB5.out⟩
            | some ds =>
              have hkey := HAR3.out.ok.key hl3
              have hds := (HAR3.out.ok.size hl3).1
              have hhit := load_hit HAR3.out HWB.out hl3 (i := 0) (by omega)
              have hmd := made_any HAR3.out
              have HH := Lib.hid hhit; clear hhit
              have HMD := Lib.hid hmd; clear hmd
              obtain ⟨hk1, hk2⟩ := hkey
              have hk0 : 0 < b := by omega
              clear hl3 hds
              go_wp2_with fail
              refine HH.out.mono ?_
              rintro e w5 ⟨rfl, rfl⟩
              go_wp2_with fail
              refine HMD.out.mono ?_
              rintro e w5 ⟨rfl, rfl⟩
              go_wp2_with fail
              go_ret
              exact ⟨rfl, HB3.out⟩
      | some cs =>
        have hsz := size_hit HAR.out HWB.out hl
        have hcs := HAR.out.ok.size hl
        have hkey := HAR.out.ok.key hl
        obtain ⟨hcs1, hcs2⟩ := hcs
        have HSZ := Lib.hid hsz; clear hsz
        have HL := Lib.hid hl; clear hl
        have HKEY := Lib.hid hkey; clear hkey
        obtain ⟨i0, hi0, hz0, hz1, hz2⟩ := info_parts info2
        go_wp2_with fail
        refine HSZ.out.mono ?_
        rintro e w3 ⟨rfl, rfl⟩
        have hown0 : (wr.alloc (Obj.cells #[] 2)).ownsRow wr.heap.size 2 1 (.slice (some ⟨wr.heap.size, 0, none⟩) 0 0) 0 [] := World.ownsRow_made wr #[] 0 (Nat.le_refl _) (by unfold maxLen; omega) rfl
        have HOWN0 := Lib.hid hown0; clear hown0
        go_wp2_with fail
        have hb0 : Below wr.heap.size wr (wr.alloc (Obj.cells #[] 2)) := (Below.refl _ _).alloc (Nat.le_refl _) _
        have HB0 := Lib.hid hb0; clear hb0
        obtain ⟨wb, rfl⟩ : ∃ wb : World, wb = wr := ⟨_, rfl⟩
        go_loopw [12, 13] (fun v i wq => ∃ (j : Nat), j ≤ cs.length ∧ i = .int .i64 j ∧ wq.ownsRow wb.heap.size 2 1 v j ((cs.map (Value.int .i64)).take j) ∧ Below wb.heap.size wb wq) (fun _ i _ => cs.length - (intOf i).toNat)
        case atStart => exact ⟨0, by omega, rfl, HOWN0.out, HB0.out⟩
        case round =>
          clear HOWN0 HB0
          obtain ⟨j, hj, rfl, hown, hbq⟩ := hrel
          by_cases hjl : j < cs.length
          · have hld := load_hit (HAR.out.below hbq) HWB.out HL.out hjl
            have htk : (cs.map (Value.int .i64)).take (j + 1) = (cs.map (Value.int .i64)).take j ++ [.int .i64 (cs.getD j 0)] := by
              rw [List.take_succ_eq_append_getElem (by simpa using hjl)]; simp [List.getD, hjl]
            generalize cs.getD j 0 = xj at hld htk
            have HLD := Lib.hid hld; clear hld
            have HTK := Lib.hid htk; clear htk
            have HBQ := Lib.hid hbq
            have hbs := hbq.size
            clear hbq
            go_wp2_with fail
            refine HLD.out.mono ?_
            rintro e w5 ⟨rfl, rfl⟩
            go_wp2_with (at_builtin; refine wpList_append_own _ rfl _ _ 42 rfl wb.heap.size 2 i0 (.int .i64 0) 1 8 Try.underlying42 hi0 hz0 hz1 hz2 rfl (by decide) _ _ _ rfl (hown.alloc _) ⟨wr.heap.size, 0, none⟩ 1 1 [.int .i64 xj] rfl rfl ?c1 ?c2 ?c3 ?c4 ?c5 ?_)
            case c1 => exact cell_one_new _ _ _
            case c2 => exact ints_oneCell .i64 [xj]
            case c3 => unfold maxLen; omega
            case c4 => omega
            case c5 => simp; omega
            intro v' w' hown' hgrow _
            have HOWN : Hid (w'.ownsRow wb.heap.size 2 1 v' (j + 1) ((cs.map (Value.int .i64)).take (j + 1))) := by rw [HTK.out]; exact hown'
            have HBN := Lib.hid ((HBQ.out.alloc hbs _).grown hgrow (by simp; omega) (fun g hg => (hown.lt g hg).1))
            clear hown hown' hgrow
            go_wp2_with fail
            go_roundw
            case rel => exact ⟨j + 1, by omega, by go_num, HOWN.out, HBN.out⟩
            case measure => simp [intOf]; omega
          · obtain rfl : j = cs.length := by omega
            obtain ⟨g, cap, rfl, hg1⟩ : ∃ g cap, u12 = .slice (some ⟨g, 0, none⟩) cs.length cap ∧ wb.heap.size ≤ g := by
              rcases hown.2 with ⟨_, h0⟩ | ⟨g, cap, cur, hv, hg, _⟩
              · omega
              · exact ⟨g, cap, hv, hg⟩
            have hglt := (hown.lt g rfl).2
            have hwas : Was wr (fun k => k < w.heap.size ∨ (wb.heap.size ≤ k ∧ k < wr.heap.size)) g cs := ⟨.inr ⟨hg1, hglt⟩, hglt, fun j hj => by
              rw [hown.cellAt j (by omega), List.getElem?_take, if_pos hj]; simp [List.getD, hj]⟩
            have hrel : ApRel w wr (fun k => k < w.heap.size ∨ (wb.heap.size ≤ k ∧ k < wr.heap.size)) pa (len0 + 0) S :=
              ⟨HB.out.trans (hbq.mono HB.out.size), (HAR.out.more wr.heap.size).below hbq, fun i hi => .inl hi, fun i hi => by have := HB.out.size; have := hbq.size; omega, by have := HFEW.out; omega⟩
            generalize (fun k => k < w.heap.size ∨ (wb.heap.size ≤ k ∧ k < wr.heap.size)) = X at hwas hrel
            have HWAS := Lib.hid hwas; clear hwas
            have HREL := Lib.hid hrel; clear hrel
            clear hown hbq hg1 hglt
            go_wp2_with fail
            go_loopw [68] (fun i wq => ∃ (j : Nat) (T : AS), j ≤ len1 ∧ i = .int .i64 j ∧ ApRel w wq X pa (len0 + j) T ∧ look T.bl b = some cs ∧ Was wq X g cs) (fun i _ => len1 - (intOf i).toNat)
            case atStart => exact ⟨0, S, by omega, rfl, HREL.out, HL.out, HWAS.out⟩
            case round =>
              clear HREL HWAS
              obtain ⟨j, T, hj, rfl, hr, hlT, hwT⟩ := hrel
              by_cases hjl : j < len1
              · obtain ⟨bl, off, kd, bb, i, v, x, rfl, hb, ⟨c0, c1, c2, c3, c4⟩, hwbb, _⟩ := HO1.out j hjl
                have e : ∀ o, w.cell? ⟨bl, o, none⟩ = wr.cell? ⟨bl, o, none⟩ := fun o => (hr.below.cell (p := ⟨bl, o, none⟩) hb).symm
                rw [e] at c0 c1 c2 c3 c4
                clear e
                have HW := Lib.hid hwT; clear hwT
                have HLT := Lib.hid hlT; clear hlT
                by_cases hbb : bb = b
                · subst hbb
                  have HREL := Lib.hid hr; clear hr
                  go_wp2_with fail
                  go_roundw
                  case rel => exact ⟨j + 1, T, by omega, by go_num, HREL.out.pass _, HLT.out, HW.out.alloc _⟩
                  case measure => simp [intOf]; omega
                · have hcall := asks0_any (hr.arena.alloc (.cells #[.int .i64 kd, .int .i64 bb, .int .i64 i, .int .i64 v, .int .i64 x] 31)) (hr.hX _) (by have := hr.few; omega) kd hwbb i v x
                  have HC := Lib.hid hcall; clear hcall
                  have HSL := Lib.hid (T.step_look hr.arena.ok hbb HLT.out kd i v x)
                  have HREL := Lib.hid hr; clear hr
                  have hne : (bb == b) = false := by simpa using hbb
                  clear hbb
                  go_wp2_with fail
                  refine HC.out.mono ?_
                  rintro e w5 ⟨⟨u, rfl⟩, a5, k5⟩
                  have HREL5 := Lib.hid (HREL.out.step _ a5 k5)
                  have HW5 := Lib.hid ((HW.out.alloc _).keep k5)
                  clear a5 k5
                  go_wp2_with fail
                  go_roundw
                  case rel => exact ⟨j + 1, _, by omega, by go_num, HREL5.out, HSL.out, HW5.out⟩
                  case measure => simp [intOf]; omega
              · have HREL := Lib.hid hr; clear hr
                have HW := Lib.hid hwT; clear hwT
                have HLT := Lib.hid hlT; clear hlT
                go_wp2_with fail
                go_loop [107] (fun i => ∃ m : Nat, m ≤ cs.length ∧ i = .int .i64 m) (fun i => cs.length - (intOf i).toNat)
                case atStart => exact ⟨0, by omega, rfl⟩
                case round =>
                  obtain ⟨m, hm, rfl⟩ := hrel
                  by_cases hml : m < cs.length
                  · have hld := load_hit HREL.out.arena HWB.out HLT.out hml
                    have hwc := HW.out.2.2 m hml
                    generalize cs.getD m 0 = xm at hld hwc
                    have HLD := Lib.hid hld; clear hld
                    go_wp2_with fail
                    refine HLD.out.mono ?_
                    rintro e w5 ⟨rfl, rfl⟩
                    go_wp2_with fail
                    go_round
                    case rel => exact ⟨m + 1, by omega, by go_num⟩
                    case measure => simp [intOf]; omega
                  · have hml' : (cs.length : Int) ≤ m := by omega
                    have hfr := free_hit HREL.out.arena HWB.out HLT.out
                    have HFR := Lib.hid hfr; clear hfr
                    go_wp2_with fail
                    refine HFR.out.mono ?_
                    rintro e w5 ⟨rfl, a5, k5⟩
                    have hb5 := HREL.out.below.trans (k5.toBelow HREL.out.cover HREL.out.below.size)
                    have hal := alloc_any a5 (cs.length : Int) (by have := HREL.out.few; simp only [AS.free]; omega) (fun i hi hx => by have := HREL.out.bound i hx; have := k5.size; omega)
                    have HAL := Lib.hid hal; clear hal
                    have HB5 := Lib.hid hb5; clear hb5
                    clear a5 k5
                    have hlook := AS.freeAlloc_look HREL.out.arena.ok HLT.out (cs.length : Int)
                    generalize ((T.free b cs.length).allocAt (cs.length : Int)) = U at HAL hlook
                    generalize (T.free b cs.length).allocNo (cs.length : Int) = no at HAL
                    generalize (T.free b cs.length).allocErr (cs.length : Int) = er at HAL
                    have HLK := Lib.hid hlook; clear hlook
                    go_wp2_with fail
                    refine HAL.out.mono ?_
                    rintro e w6 ⟨rfl, a6, k6⟩
                    have hb6 := HB5.out.trans (k6.toBelow HREL.out.cover HB5.out.size)
                    have hms := load_miss a6 HWB.out HLK.out 0
                    have HMS := Lib.hid hms; clear hms
                    have HB6 := Lib.hid hb6; clear hb6
                    clear a6 k6
                    go_wp2_with fail
                    refine HMS.out.mono ?_
                    rintro e w7 ⟨rfl, a7, k7⟩
                    have hb7 := HB6.out.trans (k7.toBelow HREL.out.cover HB6.out.size)
                    have hst := store_any a7 HWB.out 0 1
                    have e7 : U.fault.err b 0 = 20 := by
                      have : look U.fault.bl b = none := HLK.out
                      unfold AS.err; rw [this]
                    have e8 : U.fault.storeAt b 0 1 = U.fault.fault := by
                      have : look U.fault.bl b = none := HLK.out
                      unfold AS.storeAt; rw [this]
                    rw [e7, e8] at hst
                    have HST := Lib.hid hst; clear hst
                    have HB7 := Lib.hid hb7; clear hb7
                    clear a7 k7 e7 e8
                    go_wp2_with fail
                    refine HST.out.mono ?_
                    rintro e w8 ⟨rfl, a8, k8⟩
                    have hb8 := HB7.out.trans (k8.toBelow HREL.out.cover HB7.out.size)
                    have hf8 := free_any a8 HWB.out
                    have e9 : U.fault.fault.err0 b = 20 := by
                      have : look U.fault.fault.bl b = none := HLK.out
                      unfold AS.err0; rw [this]
                    rw [e9] at hf8
                    have HF8 := Lib.hid hf8; clear hf8
                    have HB8 := Lib.hid hb8; clear hb8
                    clear a8 k8 e9
                    go_wp2_with fail
                    refine HF8.out.mono ?_
                    rintro e w9 ⟨rfl, _, k9⟩
                    have HB9 := Lib.hid (HB8.out.trans (k9.toBelow HREL.out.cover HB8.out.size))
                    clear k9
                    go_wp2_with fail
                    go_ret
                    exact ⟨rfl, HB9.out⟩

end Go.Proofs.Ytbgbknbfleiakaa
