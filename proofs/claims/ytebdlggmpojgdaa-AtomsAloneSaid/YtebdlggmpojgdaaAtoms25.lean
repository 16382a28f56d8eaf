/-
  Package atoms in memory: has, Name. Conditions: a table whose lists are as they should be.
-/
import Derived.Test.YtebdlggmpojgdaaAtoms23
import Derived.Deep.LoopGhost
namespace Go.Proofs.Ytebdlggmpojgdaa
open Go.RowKit Go.Maps
set_option linter.unusedVariables false

/-- Is a block in a list, from another block on? n: more than there are blocks in it. -/
def inList (A : AS) : Nat → Int → Int → Bool
  | 0, _, _ => false
  | n + 1, at_, id => if at_ = 0 then false else if at_ = id then true else inList A n (A.val at_ 0) id
/-- Is it in one of the lists from number l on? k lists are left. -/
def inLists (A : AS) (T : TS) (n : Nat) (id : Int) : Nat → Int → Bool
  | 0, _ => false
  | k + 1, l => if inList A n (A.val T.first (1 + l)) id then true else inLists A T n id k (l + 1)
def hasIn (A : AS) (T : TS) (n : Nat) (id : Int) : Bool := if mNew (A.val T.first 0) = id then true else inLists A T n id T.lists.toNat 0
section
variable {w w' : World} {X Y : Nat → Prop} {pa po pt nb : Nat} {o : OS} {T T' : TS} {A A' : AS} {P : List Int} {m : Int} {os : List OS} {B i : Nat} {M : Int} {s : ByteArray}
/-- More than enough is as good as enough. -/
theorem inList_more (h : LInv A T P m) : ∀ (n : Nat) (at_ : Int), (at_ = 0 ∨ at_ ∈ P) → rank P at_ < n → ∀ (n' : Nat), rank P at_ < n' → ∀ id, inList A n at_ id = inList A n' at_ id := by
  intro n
  induction n with
  | zero => intro at_ _ h0; omega
  | succ n ih =>
    intro at_ hat hn n' hn' id
    obtain ⟨k, rfl⟩ : ∃ k, n' = k + 1 := ⟨n' - 1, by omega⟩
    rw [inList, inList]
    by_cases h0 : at_ = 0
    · rw [if_pos h0, if_pos h0]
    · rw [if_neg h0, if_neg h0]
      by_cases h1 : at_ = id
      · rw [if_pos h1, if_pos h1]
      · rw [if_neg h1, if_neg h1]
        have hp := hat.resolve_left h0
        have hr := rank_pos hp
        have hb := h.behind hp
        have hlt : rank P (A.val at_ 0) < rank P at_ := by
          rcases hb with e | ⟨_, e⟩
          · rw [e, rank_not h.zero]; exact hr
          · exact e
        exact ih _ (hb.imp (fun e => e) (·.1)) (by omega) k (by omega) id
def HRel1 (A : AS) (T : TS) (P : List Int) (id : Int) (w : World) (g : Nat) (l : Value) (wr : World) : Prop :=
  ∃ k : Nat, (k : Int) ≤ T.lists ∧ T.lists.toNat - k ≤ g ∧ l = .int .i64 k ∧ inLists A T (P.length + 1) id T.lists.toNat 0 = inLists A T (P.length + 1) id (T.lists.toNat - k) k ∧ ∃ d, wr = w.drewN d
def HRel2 (A : AS) (T : TS) (P : List Int) (id : Int) (w : World) (l : Int) (g : Nat) (a : Value) (wr : World) : Prop :=
  ∃ x : Int, a = .int .i64 x ∧ (x = 0 ∨ x ∈ P) ∧ rank P x < g ∧ inList A (P.length + 1) (A.val T.first (1 + l)) id = inList A (P.length + 1) x id ∧ ∃ d, wr = w.drewN d
theorem Tab.drewN (h : Tab w X pa pt nb A T) (d : Nat) : Tab (w.drewN d) X pa pt nb A T := h.below ⟨rfl, rfl, rfl, Nat.le_refl _, fun _ _ => rfl⟩
set_option maxHeartbeats 4000000 in
theorem has_new (h : AInv A T P m os B M) (hB : B + os.length ≤ 16000) (tb : Tab w X pa pt nb A T) (id : Int) (hid : mNew m = id) :
    Calls Try.prog 50 #[.pointer (some ⟨pt, 0, none⟩), .int .i64 id] w fun e w' => e = .returned (.bool (hasIn A T (P.length + 1) id)) ∧ ∃ d, w' = w.drewN d := by
  obtain ⟨m0, m1, m2⟩ := h.mark hB
  have hmd : A.made < 20000 := by have := h.made; have := owns_le os; omega
  obtain ⟨hs, el, hl, hh⟩ := h.lst.fst
  have hfk := h.ok.key el
  have hwb : (ik T.first).wf = true := wf_small (by omega) (by omega)
  have hmk := mark_any tb.arena tb.head hwb el (by simp)
  have hnw := newest_any m m0 m2
  have t2 := tb.head.reads2
  simp only [List.getD_cons_zero] at hmk
  have HMK := Lib.hid hmk; clear hmk
  have HNW := Lib.hid hnw; clear hnw
  have HT := Lib.hid tb; clear tb
  have HI := Lib.hid h; clear h
  unfold hasIn
  rw [HI.out.lst.mark]
  rw [if_pos hid]
  rw [hid] at HNW
  clear el hl hh hfk hwb m0 m1 m2 hmd hid t2
  go_enter Try.func50, Try.ntmps50
  go_wp2_with (first
    | (go_at_call 48; refine HMK.out.mono ?_; rintro e w1 ⟨rfl, rfl⟩)
    | (go_at_call 40; refine (HNW.out _).mono ?_; rintro e w1 ⟨rfl, rfl⟩))
  go_ret
  exact ⟨rfl, 1, rfl⟩
set_option maxHeartbeats 4000000 in
theorem has_old (h : AInv A T P m os B M) (hB : B + os.length ≤ 16000) (tb : Tab w X pa pt nb A T) (id : Int) (hid : ¬ mNew m = id) :
    Calls Try.prog 50 #[.pointer (some ⟨pt, 0, none⟩), .int .i64 id] w fun e w' => e = .returned (.bool (hasIn A T (P.length + 1) id)) ∧ ∃ d, w' = w.drewN d := by
  obtain ⟨m0, m1, m2⟩ := h.mark hB
  have hmd : A.made < 20000 := by have := h.made; have := owns_le os; omega
  obtain ⟨hs, el, hl, hh⟩ := h.lst.fst
  have hfk := h.ok.key el
  have hwb : (ik T.first).wf = true := wf_small (by omega) (by omega)
  have hmk := mark_any tb.arena tb.head hwb el (by simp)
  have hnw := newest_any m m0 m2
  have t2 := tb.head.reads2
  simp only [List.getD_cons_zero] at hmk
  have HMK := Lib.hid hmk; clear hmk
  have HNW := Lib.hid hnw; clear hnw
  have HT := Lib.hid tb; clear tb
  have HI := Lib.hid h; clear h
  unfold hasIn
  rw [HI.out.lst.mark]
  rw [if_neg hid]
  have hne : (mNew m == id) = false := by simpa using hid
  have HLI := Lib.hid HT.out.lists
  have HEL := Lib.hid (And.intro el hl); clear el hl
  have HWB := Lib.hid hwb; clear hwb
  have HMD := Lib.hid hmd; clear hmd
  clear hh hfk m0 m1 m2 hid
  go_enter Try.func50, Try.ntmps50
  go_wp2_with (first
    | (go_at_call 48; refine HMK.out.mono ?_; rintro e w1 ⟨rfl, rfl⟩)
    | (go_at_call 40; refine (HNW.out _).mono ?_; rintro e w1 ⟨rfl, rfl⟩))
  go_loopg [16] T.lists.toNat (fun g l wr => HRel1 A T P id w g l wr)
  case atStart => exact ⟨0, by have := HLI.out; omega, by omega, rfl, rfl, 1, rfl⟩
  case round =>
    obtain ⟨k, hk, hgk, rfl, hin, d, rfl⟩ := hrel
    have HGK := Lib.hid hgk; clear hgk
    have HIN := Lib.hid hin; clear hin
    by_cases hlt : (k : Int) < T.lists
    · have htb := HT.out.drewN d
      have hli := HLI.out
      have hhd := head_any htb.arena htb.head HWB.out HEL.out.1 (l := (k : Int)) (by omega) (by omega) (by have := HEL.out.2; simp; omega)
      have hev : (m :: hs).getD (1 + (k : Int)).toNat 0 = A.val T.first (1 + (k : Int)) := by
        unfold AS.val; rw [HEL.out.1]; dsimp only; rw [if_pos ⟨by omega, by have := HEL.out.2; simp; omega⟩]
      rw [hev] at hhd
      have HHD := Lib.hid hhd; clear hhd
      have HLT := Lib.hid hlt
      clear htb hli hev
      have hhx := HI.out.lst.head (l := (k : Int)) (by omega) hlt
      have HHX := Lib.hid hhx; clear hhx
      have hk1 : wrap64 ((k : Int) + 1) = (k : Int) + 1 := by have := HLI.out; unfold wrap64; omega
      have HK1 := Lib.hid hk1; clear hk1
      go_wp2_with (go_at_call 42; refine HHD.out.mono ?_; rintro e w1 ⟨rfl, rfl⟩)
      go_loopg [6] (P.length + 1) (fun g a wr => HRel2 A T P id w (k : Int) g a wr)
      case atStart => exact ⟨_, rfl, HHX.out, Nat.lt_succ_of_le (rank_le _ _), rfl, d + 1, rfl⟩
      case round =>
        obtain ⟨x, rfl, hx, hg, hin2, d2, rfl⟩ := hrel
        have HIN2 := Lib.hid hin2; clear hin2
        have HX := Lib.hid hx; clear hx
        have HG := Lib.hid hg; clear hg
        by_cases h0 : x = 0
        · have hx0 : (x == 0) = true := by simpa using h0
          have hk1 := HK1.out
          have hnx : inLists A T (P.length + 1) id T.lists.toNat 0 = inLists A T (P.length + 1) id (T.lists.toNat - (k + 1)) (↑(k + 1) : Int) := by
            rw [HIN.out, show T.lists.toNat - k = (T.lists.toNat - (k + 1)) + 1 by have := HLT.out; omega, inLists, HIN2.out, show inList A (P.length + 1) x id = false by rw [inList, if_pos h0]]
            simp
          have HNX := Lib.hid hnx; clear hnx
          clear h0
          go_wp2_with fail
          go_roundg (T.lists.toNat - (k + 1))
          case measure => have := HLT.out; have := HGK.out; omega
          case rel => exact ⟨k + 1, by have := HLT.out; omega, Nat.le_refl _, by go_num, HNX.out, d2, rfl⟩
        · have hx0 : (x == 0) = false := by simpa using h0
          by_cases hxi : x = id
          · have hxt : (x == id) = true := by simpa using hxi
            have hfin : inLists A T (P.length + 1) id T.lists.toNat 0 = true := by
              rw [HIN.out, show T.lists.toNat - k = (T.lists.toNat - (k + 1)) + 1 by have := HLT.out; omega, inLists, HIN2.out, show inList A (P.length + 1) x id = true by rw [inList, if_neg h0, if_pos hxi]]
              simp
            have HFIN := Lib.hid hfin; clear hfin
            clear hxi
            go_wp2_with fail
            go_ret
            exact ⟨by rw [HFIN.out]; rfl, d2, rfl⟩
          · have hxn : (x == id) = false := by simpa using hxi
            have hp := HX.out.resolve_left h0
            obtain ⟨_, _, nx, en, hnx⟩ := HI.out.lst.put x hp
            have hkx := HI.out.ok.key en
            have htb := HT.out.drewN d2
            have hbh := behind_any htb.arena htb.head (wf_small (by omega) (by have := HMD.out; omega)) en (by simp)
            have ev : A.val x 0 = nx := by unfold AS.val; rw [en]; simp
            simp only [List.getD_cons_zero] at hbh
            have HBH := Lib.hid hbh; clear hbh
            have HEV := Lib.hid ev; clear ev
            have HNX := Lib.hid hnx; clear hnx
            have HP := Lib.hid hp; clear hp
            have H0 := Lib.hid h0; clear h0
            have HXI := Lib.hid hxi; clear hxi
            clear htb en hkx
            go_wp2_with (go_at_call 39; refine HBH.out.mono ?_; rintro e w1 ⟨rfl, rfl⟩)
            have hrn : rank P nx < rank P x := by
              rcases HNX.out with e | ⟨_, e⟩
              · rw [e, rank_not HI.out.lst.zero]; exact rank_pos HP.out
              · exact e
            go_roundg (rank P nx + 1)
            case measure => have := HG.out; omega
            case rel =>
              refine ⟨nx, rfl, HNX.out.imp (fun e => e) (·.1), Nat.lt_succ_self _, ?_, d2, rfl⟩
              rw [HIN2.out, inList, if_neg H0.out, if_neg HXI.out, HEV.out]
              have hnx := HNX.out.imp (fun e => e) (·.1)
              exact inList_more HI.out.lst P.length nx hnx (by have := rank_le P x; omega) (P.length + 1) (by have := rank_le P x; omega) id
    · have hge : T.lists ≤ (k : Int) := by omega
      have hz : inLists A T (P.length + 1) id (T.lists.toNat - k) (k : Int) = false := by rw [show T.lists.toNat - k = 0 by omega]; rfl
      have HZ := Lib.hid hz; clear hz
      go_wp2_with fail
      go_ret
      exact ⟨by rw [HIN.out, HZ.out]; rfl, d, rfl⟩
theorem has_any (h : AInv A T P m os B M) (hB : B + os.length ≤ 16000) (tb : Tab w X pa pt nb A T) (id : Int) :
    Calls Try.prog 50 #[.pointer (some ⟨pt, 0, none⟩), .int .i64 id] w fun e w' => e = .returned (.bool (hasIn A T (P.length + 1) id)) ∧ ∃ d, w' = w.drewN d := by
  by_cases hid : mNew m = id
  · exact has_new h hB tb id hid
  · exact has_old h hB tb id hid
/-- Name. -/
theorem name_any (h : AInv A T P m os B M) (hB : B + os.length ≤ 16000) (tb : Tab w X pa pt nb A T) {id : Int} (hid : (ik id).wf = true) :
    Calls Try.prog 18 #[.pointer (some ⟨pt, 0, none⟩), .int .i64 id] w fun e w' => e = .returned (.tuple (if T.has id && hasIn A T (P.length + 1) id then #[.string (str (T.name id)), .bool true] else #[.string ⟨#[]⟩, .bool false])) ∧ ∃ d, w' = w.drewN d := by
  have hh := has_any h hB tb id
  have hlk := tb.names.lookOk hid
  have t4 := tb.head.reads4
  generalize hasIn A T (P.length + 1) id = b2 at hh ⊢
  generalize T.has id = b1 at hlk ⊢
  generalize str (T.name id) = sn at hlk ⊢
  have HH := Lib.hid hh; clear hh
  clear h hB tb hid
  cases b1 <;> cases b2
  all_goals
    first | rw [if_pos (by decide)] | rw [if_neg (by decide)]
    go_enter Try.func18, Try.ntmps18
    go_wp2_with (go_at_call 50; refine HH.out.mono ?_; rintro e w1 ⟨rfl, d, rfl⟩)
    go_ret2
    first
      | exact ⟨rfl, 0, rfl⟩
      | exact ⟨rfl, _, rfl⟩
end
end Go.Proofs.Ytebdlggmpojgdaa
