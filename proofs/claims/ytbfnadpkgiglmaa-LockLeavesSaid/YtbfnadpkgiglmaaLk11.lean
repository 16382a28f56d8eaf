/-
  One call against the document: beside no mutexes at all. Conditions: as in Lk3 and Lk6.
-/
import Derived.Test.YtbfnadpkgiglmaaLk9
import Derived.Test.YtbfnadpkgiglmaaLk4
namespace Go.Proofs.Ytbfnadpkgiglmaa
open Go.RowKit Go.Maps
set_option linter.unusedVariables false
set_option linter.unusedSimpArgs false

set_option maxHeartbeats 1000000 in
/-- A slice of numbers beside an empty one. -/
theorem same_nil {a a' : Option Addr} {c c' n : Nat} (w : World) :
    Calls Try.prog 13 #[.slice a n c, .slice a' 0 c'] w fun e w' => ∃ b, e = .returned (.bool b) ∧ ∃ q, w' = w.drewN q := by
  by_cases h : n = 0
  · subst h
    exact (same_any (w := w) (a := a) (a' := a') (c := c) (c' := c') (xs := []) (fun j hj => by simp at hj) (fun j hj => by simp at hj) (by simp)).mono (fun e w' hh => ⟨_, hh.1, hh.2⟩)
  · have hq : (((n : Nat) : Int) != 0) = true := by simp; omega
    go_enter Try.func13, Try.ntmps13
    go_wp2
    go_ret
    exact ⟨_, rfl, 0, rfl⟩

set_option maxRecDepth 1000000 in
set_option maxHeartbeats 4000000 in
theorem does_nil1 {w : World} {pa mb : Nat} {L : LS} {c : Int} {a : Option Addr} {ca : Nat} (h : LkAt w pa mb L c) (hr : RAt w (.slice a 0 ca) ([] : LS)) (hc0 : 0 ≤ c) (hcb : c < 4611686018427387903) (hn : L.length ≤ 5864062014804) (m t : Int) (hm : (ik m).wf = true) (ht : (ik t).wf = true) :
    Calls Try.prog 9 #[.pointer (some ⟨pa, 0, none⟩), .slice a 0 ca, .agg #[.int .i64 1, .int .i64 m, .int .i64 t]] w fun e w' => ∃ v b, e = .returned (.tuple #[v, .bool b]) ∧ LkAt w' pa mb (LS.make L) (c + 1) ∧ KeepL pa mb w w' := by
  have hb0 := Blk.new w 29 #[.int .i64 1, .int .i64 m, .int .i64 t]
  have h0 := h.alloc (.cells #[.int .i64 1, .int .i64 m, .int .i64 t] 29)
  have hr0 := hr.below ((Below.refl _ w).alloc (Nat.le_refl _) (.cells #[.int .i64 1, .int .i64 m, .int .i64 t] 29))
  have hk0 : KeepL pa mb w (w.alloc (.cells #[.int .i64 1, .int .i64 m, .int .i64 t] 29)) := (Keep.refl _ w).alloc _
  clear h hr
  have hcall := make_any h0 (by omega)
  have href := fun W (hR : RAt W (.slice a 0 ca) ([] : LS)) => rmake2 (L := ([] : LS)) hR (by simp)
  have hkp := fun W (hkk : KeepL pa mb (w.alloc (.cells #[.int .i64 1, .int .i64 m, .int .i64 t] 29)) W) => And.intro (own_locks hr0 h0 hkk (by decide)) (hb0.keep hkk (h0.ne_blk hb0 (by decide)))
  have HKP : Hid (∀ W, KeepL pa mb (w.alloc (.cells #[.int .i64 1, .int .i64 m, .int .i64 t] 29)) W → RAt W (.slice a 0 ca) ([] : LS) ∧ Blk W w.heap.size 29 #[.int .i64 1, .int .i64 m, .int .i64 t]) := Lib.hid hkp
  clear hkp
  have HC := Lib.hid hcall; clear hcall
  have HRF := Lib.hid href; clear href
  have HK0 := Lib.hid hk0; clear hk0
  have hlt : w.heap.size < (w.alloc (.cells #[.int .i64 1, .int .i64 m, .int .i64 t] 29)).heap.size := by simp
  clear h0 hr0 hb0
  generalize LS.makeNo L = x1 at *
  generalize LS.makeErr L = x2 at *
  generalize LS.makeNo ([] : LS) = y1 at *
  generalize LS.makeErr ([] : LS) = y2 at *
  go_enter Try.func9, Try.ntmps9
  go_wp2_with fail
  refine HC.out.mono ?_
  rintro e w1 ⟨rfl, hl1, hk1⟩
  have hz1 := hk1.size
  rw [World.size_alloc] at hz1
  obtain ⟨hR1, hB1⟩ := HKP.out w1 hk1
  have b0 := hB1.cell 0
  have b1 := hB1.cell 1
  have b2 := hB1.cell 2
  simp at b0 b1 b2
  have hrf := HRF.out w1 hR1
  have HR := Lib.hid hrf; clear hrf
  have HL1 := Lib.hid hl1; clear hl1
  have HK1 : Hid (KeepL pa mb w w1) := Lib.hid (HK0.out.trans hk1); clear hk1
  clear hR1 hB1 HKP HRF HC HK0
  go_wp2_with fail
  refine HR.out.mono ?_
  rintro e w2 ⟨v, rfl, hra, hb2⟩
  have HL2 : Hid (LkAt w2 pa mb (LS.make L) (c + 1)) := Lib.hid ((HL1.out.below hb2).mono (by omega))
  have HK2 : Hid (KeepL pa mb w w2) := Lib.hid (HK1.out.trans (Keep.ofBelow0 hb2))
  have HRA := Lib.hid hra; clear hra hb2 HR HL1 HK1
  by_cases he : x1 = y1
  · subst he
    go_wp2_with fail
    go_ret2
    exact ⟨_, _, rfl, HL2.out, HK2.out⟩
  · have hb1 : (x1 == y1) = false := by simpa using he
    clear he
    go_wp2_with fail
    go_ret2
    exact ⟨_, _, rfl, HL2.out, HK2.out⟩

set_option maxRecDepth 1000000 in
set_option maxHeartbeats 4000000 in
theorem does_nil2 {w : World} {pa mb : Nat} {L : LS} {c : Int} {a : Option Addr} {ca : Nat} (h : LkAt w pa mb L c) (hr : RAt w (.slice a 0 ca) ([] : LS)) (hc0 : 0 ≤ c) (hcb : c < 4611686018427387903) (hn : L.length ≤ 5864062014804) (m t : Int) (hm : (ik m).wf = true) (ht : (ik t).wf = true) :
    Calls Try.prog 9 #[.pointer (some ⟨pa, 0, none⟩), .slice a 0 ca, .agg #[.int .i64 2, .int .i64 m, .int .i64 t]] w fun e w' => ∃ v b, e = .returned (.tuple #[v, .bool b]) ∧ LkAt w' pa mb (LS.drop L m) (c + 1) ∧ KeepL pa mb w w' := by
  have hb0 := Blk.new w 29 #[.int .i64 2, .int .i64 m, .int .i64 t]
  have h0 := h.alloc (.cells #[.int .i64 2, .int .i64 m, .int .i64 t] 29)
  have hr0 := hr.below ((Below.refl _ w).alloc (Nat.le_refl _) (.cells #[.int .i64 2, .int .i64 m, .int .i64 t] 29))
  have hk0 : KeepL pa mb w (w.alloc (.cells #[.int .i64 2, .int .i64 m, .int .i64 t] 29)) := (Keep.refl _ w).alloc _
  clear h hr
  have hcall := drop_any h0 hm
  have href := fun W (hR : RAt W (.slice a 0 ca) ([] : LS)) => rdrop_any (L := ([] : LS)) hR (LS.Ok.nil.mono hc0) (by omega) (by simp) hm
  have hkp := fun W (hkk : KeepL pa mb (w.alloc (.cells #[.int .i64 2, .int .i64 m, .int .i64 t] 29)) W) => And.intro (own_locks hr0 h0 hkk (by decide)) (hb0.keep hkk (h0.ne_blk hb0 (by decide)))
  have HKP : Hid (∀ W, KeepL pa mb (w.alloc (.cells #[.int .i64 2, .int .i64 m, .int .i64 t] 29)) W → RAt W (.slice a 0 ca) ([] : LS) ∧ Blk W w.heap.size 29 #[.int .i64 2, .int .i64 m, .int .i64 t]) := Lib.hid hkp
  clear hkp
  have HC := Lib.hid hcall; clear hcall
  have HRF := Lib.hid href; clear href
  have HK0 := Lib.hid hk0; clear hk0
  have hlt : w.heap.size < (w.alloc (.cells #[.int .i64 2, .int .i64 m, .int .i64 t] 29)).heap.size := by simp
  clear h0 hr0 hb0
  generalize LS.dropErr L m = x1 at *
  generalize LS.dropErr ([] : LS) m = y1 at *
  go_enter Try.func9, Try.ntmps9
  go_wp2_with fail
  refine HC.out.mono ?_
  rintro e w1 ⟨rfl, hl1, hk1⟩
  have hz1 := hk1.size
  rw [World.size_alloc] at hz1
  obtain ⟨hR1, hB1⟩ := HKP.out w1 hk1
  have b0 := hB1.cell 0
  have b1 := hB1.cell 1
  have b2 := hB1.cell 2
  simp at b0 b1 b2
  have hrf := HRF.out w1 hR1
  have HR := Lib.hid hrf; clear hrf
  have HL1 := Lib.hid hl1; clear hl1
  have HK1 : Hid (KeepL pa mb w w1) := Lib.hid (HK0.out.trans hk1); clear hk1
  clear hR1 hB1 HKP HRF HC HK0
  go_wp2_with fail
  refine HR.out.mono ?_
  rintro e w2 ⟨v, rfl, hra, hb2⟩
  have HL2 : Hid (LkAt w2 pa mb (LS.drop L m) (c + 1)) := Lib.hid ((HL1.out.below hb2).mono (by omega))
  have HK2 : Hid (KeepL pa mb w w2) := Lib.hid (HK1.out.trans (Keep.ofBelow0 hb2))
  have HRA := Lib.hid hra; clear hra hb2 HR HL1 HK1
  go_wp2_with fail
  go_ret2
  exact ⟨_, _, rfl, HL2.out, HK2.out⟩

set_option maxRecDepth 1000000 in
set_option maxHeartbeats 4000000 in
theorem does_nil3 {w : World} {pa mb : Nat} {L : LS} {c : Int} {a : Option Addr} {ca : Nat} (h : LkAt w pa mb L c) (hr : RAt w (.slice a 0 ca) ([] : LS)) (hc0 : 0 ≤ c) (hcb : c < 4611686018427387903) (hn : L.length ≤ 5864062014804) (m t : Int) (hm : (ik m).wf = true) (ht : (ik t).wf = true) :
    Calls Try.prog 9 #[.pointer (some ⟨pa, 0, none⟩), .slice a 0 ca, .agg #[.int .i64 3, .int .i64 m, .int .i64 t]] w fun e w' => ∃ v b, e = .returned (.tuple #[v, .bool b]) ∧ LkAt w' pa mb (LS.take L m t) (c + 1) ∧ KeepL pa mb w w' := by
  have hb0 := Blk.new w 29 #[.int .i64 3, .int .i64 m, .int .i64 t]
  have h0 := h.alloc (.cells #[.int .i64 3, .int .i64 m, .int .i64 t] 29)
  have hr0 := hr.below ((Below.refl _ w).alloc (Nat.le_refl _) (.cells #[.int .i64 3, .int .i64 m, .int .i64 t] 29))
  have hk0 : KeepL pa mb w (w.alloc (.cells #[.int .i64 3, .int .i64 m, .int .i64 t] 29)) := (Keep.refl _ w).alloc _
  clear h hr
  have hcall := take_any h0 hc0 (by omega) hm t
  have href := fun W (hR : RAt W (.slice a 0 ca) ([] : LS)) => rtake_any (L := ([] : LS)) hR (LS.Ok.nil.mono hc0) (by omega) (by simp) hm t
  have hkp := fun W (hkk : KeepL pa mb (w.alloc (.cells #[.int .i64 3, .int .i64 m, .int .i64 t] 29)) W) => And.intro (own_locks hr0 h0 hkk (by decide)) (hb0.keep hkk (h0.ne_blk hb0 (by decide)))
  have HKP : Hid (∀ W, KeepL pa mb (w.alloc (.cells #[.int .i64 3, .int .i64 m, .int .i64 t] 29)) W → RAt W (.slice a 0 ca) ([] : LS) ∧ Blk W w.heap.size 29 #[.int .i64 3, .int .i64 m, .int .i64 t]) := Lib.hid hkp
  clear hkp
  have HC := Lib.hid hcall; clear hcall
  have HRF := Lib.hid href; clear href
  have HK0 := Lib.hid hk0; clear hk0
  have hlt : w.heap.size < (w.alloc (.cells #[.int .i64 3, .int .i64 m, .int .i64 t] 29)).heap.size := by simp
  clear h0 hr0 hb0
  generalize LS.takeErr L m t = x1 at *
  generalize LS.takeErr ([] : LS) m t = y1 at *
  go_enter Try.func9, Try.ntmps9
  go_wp2_with fail
  refine HC.out.mono ?_
  rintro e w1 ⟨rfl, hl1, hk1⟩
  have hz1 := hk1.size
  rw [World.size_alloc] at hz1
  obtain ⟨hR1, hB1⟩ := HKP.out w1 hk1
  have b0 := hB1.cell 0
  have b1 := hB1.cell 1
  have b2 := hB1.cell 2
  simp at b0 b1 b2
  have hrf := HRF.out w1 hR1
  have HR := Lib.hid hrf; clear hrf
  have HL1 := Lib.hid hl1; clear hl1
  have HK1 : Hid (KeepL pa mb w w1) := Lib.hid (HK0.out.trans hk1); clear hk1
  clear hR1 hB1 HKP HRF HC HK0
  go_wp2_with fail
  refine HR.out.mono ?_
  rintro e w2 ⟨v, rfl, hra, hb2⟩
  have HL2 : Hid (LkAt w2 pa mb (LS.take L m t) (c + 1)) := Lib.hid ((HL1.out.below hb2).mono (by omega))
  have HK2 : Hid (KeepL pa mb w w2) := Lib.hid (HK1.out.trans (Keep.ofBelow0 hb2))
  have HRA := Lib.hid hra; clear hra hb2 HR HL1 HK1
  go_wp2_with fail
  go_ret2
  exact ⟨_, _, rfl, HL2.out, HK2.out⟩

set_option maxRecDepth 1000000 in
set_option maxHeartbeats 4000000 in
theorem does_nil4 {w : World} {pa mb : Nat} {L : LS} {c : Int} {a : Option Addr} {ca : Nat} (h : LkAt w pa mb L c) (hr : RAt w (.slice a 0 ca) ([] : LS)) (hc0 : 0 ≤ c) (hcb : c < 4611686018427387903) (hn : L.length ≤ 5864062014804) (m t : Int) (hm : (ik m).wf = true) (ht : (ik t).wf = true) :
    Calls Try.prog 9 #[.pointer (some ⟨pa, 0, none⟩), .slice a 0 ca, .agg #[.int .i64 4, .int .i64 m, .int .i64 t]] w fun e w' => ∃ v b, e = .returned (.tuple #[v, .bool b]) ∧ LkAt w' pa mb (LS.give L m t) (c + 1) ∧ KeepL pa mb w w' := by
  have hb0 := Blk.new w 29 #[.int .i64 4, .int .i64 m, .int .i64 t]
  have h0 := h.alloc (.cells #[.int .i64 4, .int .i64 m, .int .i64 t] 29)
  have hr0 := hr.below ((Below.refl _ w).alloc (Nat.le_refl _) (.cells #[.int .i64 4, .int .i64 m, .int .i64 t] 29))
  have hk0 : KeepL pa mb w (w.alloc (.cells #[.int .i64 4, .int .i64 m, .int .i64 t] 29)) := (Keep.refl _ w).alloc _
  clear h hr
  have hcall := give_any h0 hc0 (by omega) hm t
  have href := fun W (hR : RAt W (.slice a 0 ca) ([] : LS)) => rgive_any (L := ([] : LS)) hR (LS.Ok.nil.mono hc0) (by omega) (by simp) hm t
  have hkp := fun W (hkk : KeepL pa mb (w.alloc (.cells #[.int .i64 4, .int .i64 m, .int .i64 t] 29)) W) => And.intro (own_locks hr0 h0 hkk (by decide)) (hb0.keep hkk (h0.ne_blk hb0 (by decide)))
  have HKP : Hid (∀ W, KeepL pa mb (w.alloc (.cells #[.int .i64 4, .int .i64 m, .int .i64 t] 29)) W → RAt W (.slice a 0 ca) ([] : LS) ∧ Blk W w.heap.size 29 #[.int .i64 4, .int .i64 m, .int .i64 t]) := Lib.hid hkp
  clear hkp
  have HC := Lib.hid hcall; clear hcall
  have HRF := Lib.hid href; clear href
  have HK0 := Lib.hid hk0; clear hk0
  have hlt : w.heap.size < (w.alloc (.cells #[.int .i64 4, .int .i64 m, .int .i64 t] 29)).heap.size := by simp
  clear h0 hr0 hb0
  generalize LS.giveErr L m t = x1 at *
  generalize LS.giveErr ([] : LS) m t = y1 at *
  go_enter Try.func9, Try.ntmps9
  go_wp2_with fail
  refine HC.out.mono ?_
  rintro e w1 ⟨rfl, hl1, hk1⟩
  have hz1 := hk1.size
  rw [World.size_alloc] at hz1
  obtain ⟨hR1, hB1⟩ := HKP.out w1 hk1
  have b0 := hB1.cell 0
  have b1 := hB1.cell 1
  have b2 := hB1.cell 2
  simp at b0 b1 b2
  have hrf := HRF.out w1 hR1
  have HR := Lib.hid hrf; clear hrf
  have HL1 := Lib.hid hl1; clear hl1
  have HK1 : Hid (KeepL pa mb w w1) := Lib.hid (HK0.out.trans hk1); clear hk1
  clear hR1 hB1 HKP HRF HC HK0
  go_wp2_with fail
  refine HR.out.mono ?_
  rintro e w2 ⟨v, rfl, hra, hb2⟩
  have HL2 : Hid (LkAt w2 pa mb (LS.give L m t) (c + 1)) := Lib.hid ((HL1.out.below hb2).mono (by omega))
  have HK2 : Hid (KeepL pa mb w w2) := Lib.hid (HK1.out.trans (Keep.ofBelow0 hb2))
  have HRA := Lib.hid hra; clear hra hb2 HR HL1 HK1
  go_wp2_with fail
  go_ret2
  exact ⟨_, _, rfl, HL2.out, HK2.out⟩

set_option maxRecDepth 1000000 in
set_option maxHeartbeats 4000000 in
theorem does_nil5 {w : World} {pa mb : Nat} {L : LS} {c : Int} {a : Option Addr} {ca : Nat} (h : LkAt w pa mb L c) (hr : RAt w (.slice a 0 ca) ([] : LS)) (hc0 : 0 ≤ c) (hcb : c < 4611686018427387903) (hn : L.length ≤ 5864062014804) (m t : Int) (hm : (ik m).wf = true) (ht : (ik t).wf = true) :
    Calls Try.prog 9 #[.pointer (some ⟨pa, 0, none⟩), .slice a 0 ca, .agg #[.int .i64 5, .int .i64 m, .int .i64 t]] w fun e w' => ∃ v b, e = .returned (.tuple #[v, .bool b]) ∧ LkAt w' pa mb (LS.leave L t) (c + 1) ∧ KeepL pa mb w w' := by
  have hb0 := Blk.new w 29 #[.int .i64 5, .int .i64 m, .int .i64 t]
  have h0 := h.alloc (.cells #[.int .i64 5, .int .i64 m, .int .i64 t] 29)
  have hr0 := hr.below ((Below.refl _ w).alloc (Nat.le_refl _) (.cells #[.int .i64 5, .int .i64 m, .int .i64 t] 29))
  have hk0 : KeepL pa mb w (w.alloc (.cells #[.int .i64 5, .int .i64 m, .int .i64 t] 29)) := (Keep.refl _ w).alloc _
  clear h hr
  have hcall := leave_any h0 hc0 (by omega) t
  have href := fun W (hR : RAt W (.slice a 0 ca) ([] : LS)) => rleave_any (L := ([] : LS)) hR (by simp) (LS.Ok.nil.few) t
  have hkp := fun W (hkk : KeepL pa mb (w.alloc (.cells #[.int .i64 5, .int .i64 m, .int .i64 t] 29)) W) => And.intro (own_locks hr0 h0 hkk (by decide)) (hb0.keep hkk (h0.ne_blk hb0 (by decide)))
  have HKP : Hid (∀ W, KeepL pa mb (w.alloc (.cells #[.int .i64 5, .int .i64 m, .int .i64 t] 29)) W → RAt W (.slice a 0 ca) ([] : LS) ∧ Blk W w.heap.size 29 #[.int .i64 5, .int .i64 m, .int .i64 t]) := Lib.hid hkp
  clear hkp
  have HC := Lib.hid hcall; clear hcall
  have HRF := Lib.hid href; clear href
  have HK0 := Lib.hid hk0; clear hk0
  have hlt : w.heap.size < (w.alloc (.cells #[.int .i64 5, .int .i64 m, .int .i64 t] 29)).heap.size := by simp
  clear h0 hr0 hb0
  go_enter Try.func9, Try.ntmps9
  go_wp2_with fail
  refine HC.out.mono ?_
  rintro e w1 ⟨vp, rfl, hrow, hl1, hk1⟩
  have hz1 := hk1.size
  rw [World.size_alloc] at hz1
  obtain ⟨hR1, hB1⟩ := HKP.out w1 hk1
  have b0 := hB1.cell 0
  have b1 := hB1.cell 1
  have b2 := hB1.cell 2
  simp at b0 b1 b2
  have hrf := HRF.out w1 hR1
  have HR := Lib.hid hrf; clear hrf
  have HL1 := Lib.hid hl1; clear hl1
  have HK1 : Hid (KeepL pa mb w w1) := Lib.hid (HK0.out.trans hk1); clear hk1
  clear hR1 hB1 HKP HRF HC HK0
  obtain ⟨a2, c2, rfl, _⟩ := own_ints hrow
  have HROW := Lib.hid hrow; clear hrow
  go_wp2_with fail
  refine HR.out.mono ?_
  rintro e w2 ⟨v, u, rfl, hra, hru, hb2⟩
  have hl2 := HL1.out.below hb2
  have hk2 : KeepL pa mb w w2 := HK1.out.trans (Keep.ofBelow0 hb2)
  have hru1 := own_below HROW.out hb2
  obtain ⟨a3, c3, hv3, hi3⟩ := own_ints hru1
  injection hv3 with hq1 _ hq3
  subst hq1 hq3
  obtain ⟨a4, c4, rfl, hi4⟩ := own_ints hru
  have hsm := fun W (hW : Below w2.heap.size w2 W) => same_nil (c := c2) (c' := c4) (n := (LS.own L t).length) (a := a2) (a' := a4) W
  have HSM := Lib.hid hsm; clear hsm
  have HL2 := Lib.hid hl2; clear hl2
  have HK2 := Lib.hid hk2; clear hk2
  have HRA := Lib.hid hra; clear hra
  clear hru hru1 hi3 hi4 hb2
  go_wp2_with fail
  refine (HSM.out w2 (Below.refl _ _)).mono ?_
  rintro e w3 ⟨b, rfl, q, rfl⟩
  go_wp2_with fail
  go_ret2
  exact ⟨_, _, rfl, (HL2.out.keep (X := fun _ => True) ((Keep.refl _ w2).drewN q) trivial trivial).mono (by omega), HK2.out.drewN q⟩

set_option maxRecDepth 1000000 in
set_option maxHeartbeats 4000000 in
theorem does_nil {w : World} {pa mb : Nat} {L : LS} {c : Int} {a : Option Addr} {ca : Nat} (h : LkAt w pa mb L c) (hr : RAt w (.slice a 0 ca) ([] : LS)) (hc0 : 0 ≤ c) (hcb : c < 4611686018427387903) (hn : L.length ≤ 5864062014804) (k m t : Int) (hm : (ik m).wf = true) (ht : (ik t).wf = true) :
    Calls Try.prog 9 #[.pointer (some ⟨pa, 0, none⟩), .slice a 0 ca, .agg #[.int .i64 k, .int .i64 m, .int .i64 t]] w fun e w' => ∃ v b, e = .returned (.tuple #[v, .bool b]) ∧ LkAt w' pa mb (LS.step L k m t) (c + 1) ∧ KeepL pa mb w w' := by
  unfold LS.step
  by_cases k1 : k = 1
  · subst k1; exact does_nil1 h hr hc0 hcb hn m t hm ht
  rw [if_neg k1]
  by_cases k2 : k = 2
  · subst k2; exact does_nil2 h hr hc0 hcb hn m t hm ht
  rw [if_neg k2]
  by_cases k3 : k = 3
  · subst k3; exact does_nil3 h hr hc0 hcb hn m t hm ht
  rw [if_neg k3]
  by_cases k4 : k = 4
  · subst k4; exact does_nil4 h hr hc0 hcb hn m t hm ht
  rw [if_neg k4]
  by_cases k5 : k = 5
  · subst k5; exact does_nil5 h hr hc0 hcb hn m t hm ht
  rw [if_neg k5]
  have h0 := Lib.hid (h.alloc (.cells #[.int .i64 k, .int .i64 m, .int .i64 t] 29))
  have hr0 := Lib.hid (hr.below ((Below.refl _ w).alloc (Nat.le_refl _) (.cells #[.int .i64 k, .int .i64 m, .int .i64 t] 29)))
  have hk0 : Hid (KeepL pa mb w (w.alloc (.cells #[.int .i64 k, .int .i64 m, .int .i64 t] 29))) := Lib.hid ((Keep.refl _ w).alloc _)
  have b1 : (k == 1) = false := by simpa using k1
  have b2 : (k == 2) = false := by simpa using k2
  have b3 : (k == 3) = false := by simpa using k3
  have b4 : (k == 4) = false := by simpa using k4
  have b5 : (k == 5) = false := by simpa using k5
  clear h hr k1 k2 k3 k4 k5
  go_enter Try.func9, Try.ntmps9
  go_wp2
  go_ret2
  exact ⟨_, _, rfl, h0.out.mono (by omega), hk0.out⟩
end Go.Proofs.Ytbfnadpkgiglmaa
