/-
  The contract of the library's DeleteFunc over what waits, with Sweep's function literal: blocks that nobody holds are freed in order, the others stay in order. Conditions: the yard and its arena stand for plain states.
-/
import Derived.Test.YtiiaajdkkofbjaaYrow
import Derived.Shelf.Abstract
namespace Go.Proofs.Ytiiaajdkkofbjaa
open Go.RowKit Go.Maps

abbrev lit (By Bf : Nat) : Value := .func (.func 66) #[] #[.pointer (some ⟨By, 0, none⟩), .pointer (some ⟨Bf, 0, none⟩)]
/-- What the search leaves. -/
inductive Found (w : World) (Z : Nat → Prop) (pa py By Bf : Nat) (v : Value) (Y : YS) (S : AS) (L : List Wt) (w' : World) : Int → Prop
  | none : (∀ r ∈ L, held Y.ent r.whn = true) → Below w.heap.size w w' → Found w Z pa py By Bf v Y S L w' (-1)
  | some (k : Nat) (hk : k < L.length) : (∀ r ∈ L.take k, held Y.ent r.whn = true) → held Y.ent L[k].whn = false → After w Z pa py By Bf v Y (stp Y.ent (S, 0) L[k]) w' → Found w Z pa py By Bf v Y S L w' k

set_option maxHeartbeats 1000000 in
theorem idx_lit {w : World} {Z : Nat → Prop} {pa py By Bf g cap : Nat} {v : Value} {Y : YS} {S : AS} {L : List Wt} (h : Swst w Z pa py By Bf v Y S 0) (hr : Row w g cap L) (hwf : ∀ r ∈ L, (ik r.block).wf = true) (hlen : L.length ≤ 512) :
    Calls Try.prog 80 #[.slice (some ⟨g, 0, none⟩) L.length cap, lit By Bf] w fun e w' => ∃ n, e = .returned (.int .i64 n) ∧ Found w Z pa py By Bf v Y S L w' n := by
  have eg := enters_of Try.func66 (by kernel_rfl) rfl
  have H := Lib.hid h; clear h
  have HR := Lib.hid hr; clear hr
  have HW := Lib.hid hwf; clear hwf
  go_enter Try.func80, Try.ntmps80
  go_wp2
  go_loopw [5, 8] (fun _ i wr => ∃ k : Nat, k ≤ L.length ∧ i = .int .i64 k ∧ Below w.heap.size w wr ∧ Hid (∀ r ∈ L.take k, held Y.ent r.whn = true)) (fun _ i _ => L.length - (intOf i).toNat)
  case atStart => exact ⟨0, by omega, rfl, Below.refl _ _, Lib.hid (by simp)⟩
  case round =>
    obtain ⟨k, hk, rfl, hb, HA⟩ := hrel
    by_cases hlt : k < L.length
    · obtain ⟨c0, c1, c2⟩ := (HR.out.below hb).at_ k hlt
      have hnew : held Y.ent L[k].whn = true → ∀ r ∈ L.take (k + 1), held Y.ent r.whn = true := by
        intro hh r hr
        rw [List.take_succ_eq_append_getElem hlt, List.mem_append] at hr
        rcases hr with hr | hr
        · exact HA.out r hr
        · rw [List.mem_singleton] at hr; rw [hr]; exact hh
      have hs := H.out.below hb
      have hw0 := HW.out L[k] (List.getElem_mem _)
      have hst : held Y.ent L[k].whn = false → stp Y.ent (S, 0) L[k] = (S.freeAt L[k].block, 0 + inc S L[k].block) := by
        intro hh; unfold stp; rw [hh]; rfl
      have hfound : ∀ w', held Y.ent L[k].whn = false → After w Z pa py By Bf v Y (stp Y.ent (S, 0) L[k]) w' → Found w Z pa py By Bf v Y S L w' k := fun w' h1 h2 => .some k hlt HA.out h1 h2
      have HFO := Lib.hid hfound; clear hfound
      have HST := Lib.hid hst; clear hst
      have HN := Lib.hid hnew; clear hnew
      cases hh : held Y.ent L[k].whn with
      | true =>
        have hc := lit_held hs L[k].block L[k].thread L[k].whn hh
        have HN := Lib.hid (HN.out hh)
        have HB := Lib.hid hb; clear hb
        generalize L[k].block = x0 at c0 hc
        generalize L[k].thread = x1 at c1 hc
        generalize L[k].whn = x2 at c2 hc
        have HC := Lib.hid hc; clear hc
        clear hs hw0 hh HST HFO
        go_wp2_with fail
        refine HC.out.mono ?_
        rintro e w1 ⟨rfl, hb1⟩
        have HBN := Lib.hid (HB.out.trans (hb1.mono HB.out.size))
        clear hb1
        go_wp2
        go_roundw
        case rel => exact ⟨k + 1, by omega, by go_num, HBN.out, HN⟩
        case measure => simp [intOf]; omega
      | false =>
        have hc := lit_free hs L[k].block L[k].thread L[k].whn hw0 hh (by omega)
        have hf := fun w' => HFO.out w' hh
        rw [HST.out hh] at hf
        have HF := Lib.hid hf; clear hf
        have HB := Lib.hid hb; clear hb
        clear HFO HST
        generalize L[k].block = x0 at c0 hc HF
        generalize L[k].thread = x1 at c1 hc
        generalize L[k].whn = x2 at c2 hc
        have HC := Lib.hid hc; clear hc
        clear hs hw0 hh
        go_wp2_with fail
        refine HC.out.mono ?_
        rintro e w1 ⟨rfl, ha⟩
        have HAF := Lib.hid (HF.out w1 ⟨ha.1, (Keep.ofBelow' HB.out).trans ha.2⟩)
        clear ha
        go_wp2
        go_ret
        exact ⟨_, rfl, HAF.out⟩
    · obtain rfl : k = L.length := by omega
      have HB := Lib.hid hb; clear hb
      have hall : ∀ r ∈ L, held Y.ent r.whn = true := by have := HA.out; rwa [List.take_length] at this
      have HALL := Lib.hid hall; clear hall
      go_wp2
      go_ret
      exact ⟨_, rfl, .none HALL.out HB.out⟩

def hld (Y : YS) (r : Wt) : Bool := held Y.ent r.whn
theorem swp_held (ent : List Int) (S : AS) (l : List Wt) (h : ∀ r ∈ l, held ent r.whn = true) : swp ent S l = (S, 0) := by
  unfold swp
  induction l with
  | nil => rfl
  | cons r l ih =>
    rw [List.foldl_cons, show stp ent (S, 0) r = (S, 0) by unfold stp; rw [if_pos (h r (by simp))]]
    exact ih (fun x hx => h x (by simp [hx]))

/-- i: how many stay of the first j. -/
structure DelInv (p : Wt → Bool) (L L' : List Wt) (i j : Nat) : Prop where
  len : L'.length = L.length
  lt : i < j
  le : j ≤ L.length
  drop : ∀ m, j ≤ m → L'[m]? = L[m]?
  take : L'.take i = (L.take j).filter p
section
variable {p : Wt → Bool} {L L' : List Wt} {i j : Nat}
theorem DelInv.start {k : Nat} (hk : k < L.length) (h1 : ∀ r ∈ L.take k, p r = true) (h2 : p L[k] = false) : DelInv p L L k (k + 1) := by
  refine ⟨rfl, by omega, by omega, fun _ _ => rfl, ?_⟩
  rw [List.take_succ_eq_append_getElem hk, List.filter_append, List.filter_eq_self.2 h1]
  simp [h2]
theorem DelInv.skip (h : DelInv p L L' i j) (hj : j < L.length) (hp : p L[j] = false) : DelInv p L L' i (j + 1) := by
  refine ⟨h.len, by have := h.lt; omega, by omega, fun m hm => h.drop m (by omega), ?_⟩
  rw [List.take_succ_eq_append_getElem hj, List.filter_append, h.take]
  simp [hp]
theorem DelInv.keep (h : DelInv p L L' i j) (hj : j < L.length) (hp : p L[j] = true) : DelInv p L (L'.set i L[j]) (i + 1) (j + 1) := by
  have hi := h.lt
  have hl := h.len
  refine ⟨by simpa using hl, by omega, by omega, fun m hm => ?_, ?_⟩
  · rw [List.getElem?_set_ne (by omega)]; exact h.drop m (by omega)
  · rw [List.take_succ_eq_append_getElem (by simp; omega), List.getElem_set_self, List.take_set_of_le (by omega), h.take, List.take_succ_eq_append_getElem hj, List.filter_append]
    simp [hp]
theorem DelInv.get (h : DelInv p L L' i j) (hj : j < L.length) : L'[j]'(by rw [h.len]; exact hj) = L[j] := by
  have := h.drop j (Nat.le_refl _)
  rw [List.getElem?_eq_getElem hj, List.getElem?_eq_getElem (by rw [h.len]; exact hj)] at this
  exact Option.some.inj this
theorem DelInv.done (h : DelInv p L L' i j) (hj : ¬ j < L.length) : L'.take i = L.filter p ∧ (L.filter p).length = i ∧ i < L.length := by
  have hj' : j = L.length := by have := h.le; omega
  have ht := h.take
  rw [hj', List.take_length] at ht
  refine ⟨ht, ?_, by have := h.lt; omega⟩
  rw [← ht]
  simp
  have := h.lt; have := h.len
  omega
end

structure DelRel (w : World) (Z : Nat → Prop) (pa py By Bf g cap : Nat) (v : Value) (Y : YS) (S : AS) (L : List Wt) (i j : Nat) (wr : World) : Prop where
  st : Swst wr Z pa py By Bf v Y (swp Y.ent S (L.take j)).1 (swp Y.ent S (L.take j)).2
  row : ∃ L', Row wr g cap L' ∧ DelInv (hld Y) L L' i j
  kp : Keep (fun k => Z k ∧ k ≠ Bf ∧ k ≠ g) w wr

set_option maxHeartbeats 2000000 in
theorem del_lit {w : World} {Z : Nat → Prop} {pa py By Bf g cap : Nat} {v : Value} {Y : YS} {S : AS} {L : List Wt} (h : Swst w Z pa py By Bf v Y S 0) (hr : Row w g cap L) (hZ : Z g) (hwf : ∀ r ∈ L, (ik r.block).wf = true) (hlen : L.length ≤ 512) (hcap : cap ≤ maxLen) :
    Calls Try.prog 65 #[.slice (some ⟨g, 0, none⟩) L.length cap, lit By Bf] w fun e w' => e = .returned (.slice (some ⟨g, 0, none⟩) (L.filter (hld Y)).length cap) ∧
      Swst w' Z pa py By Bf v Y (swp Y.ent S L).1 (swp Y.ent S L).2 ∧ Row w' g cap (L.filter (hld Y)) ∧ Keep (fun k => Z k ∧ k ≠ Bf ∧ k ≠ g) w w' := by
  have eg := enters_of Try.func66 (by kernel_rfl) rfl
  have hi := idx_lit h hr hwf hlen (cap := cap)
  have hg1 := hr.ne_ h.head (by decide)
  have hg2 := hr.ne_ h.by_ (by decide)
  have hg3 := hr.ne_ h.bf (by decide)
  have hle : L.length ≤ cap := by obtain ⟨cur, _, _, hl, _⟩ := hr; exact hl
  have hcap : cap ≤ 9223372036854775807 := by unfold maxLen at hcap; omega
  have H := Lib.hid h; clear h
  have HR := Lib.hid hr; clear hr
  have HZ := Lib.hid hZ; clear hZ
  have HW := Lib.hid hwf; clear hwf
  have HI := Lib.hid hi; clear hi
  go_enter Try.func65, Try.ntmps65
  go_wp2_with fail
  refine HI.out.mono ?_
  rintro e w1 ⟨n, rfl, hf⟩
  cases hf with
  | none hall hb =>
    have hfin1 : L.filter (hld Y) = L := List.filter_eq_self.2 hall
    have hfin2 := swp_held Y.ent S L hall
    have HF1 := Lib.hid hfin1; clear hfin1
    have HF2 := Lib.hid hfin2; clear hfin2
    have HB := Lib.hid hb; clear hb
    clear hall HI
    go_wp2
    go_ret
    rw [HF1.out, HF2.out]
    exact ⟨rfl, H.out.below HB.out, HR.out.below HB.out, Keep.ofBelow' HB.out⟩
  | some k hk hall hno ha =>
    have hst : Swst w1 Z pa py By Bf v Y (swp Y.ent S (L.take (k + 1))).1 (swp Y.ent S (L.take (k + 1))).2 := by
      rw [swp_succ _ _ _ _ hk, swp_held Y.ent S (L.take k) hall]; exact ha.1
    have hinv : DelInv (hld Y) L L k (k + 1) := DelInv.start hk hall hno
    have hrel0 : DelRel w Z pa py By Bf g cap v Y S L k (k + 1) w1 := ⟨hst, ⟨L, HR.out.keep ha.2 ⟨HZ.out, hg3⟩, hinv⟩, ha.2.less (fun _ hk => ⟨hk.1, hk.2.1⟩)⟩
    have HREL := Lib.hid hrel0; clear hrel0
    clear hst hinv hall hno ha HI
    have hk1 : ((k : Int) == -1) = false := by rw [beq_eq_false_iff_ne]; omega
    go_wp2
    go_loopw [5, 6] (fun a b wr => ∃ i j : Nat, a = .int .i64 i ∧ b = .int .i64 j ∧ j ≤ L.length ∧ i < j ∧ DelRel w Z pa py By Bf g cap v Y S L i j wr) (fun _ b _ => L.length - (intOf b).toNat)
    case atStart => exact ⟨k, k + 1, rfl, by go_num, by omega, by omega, HREL.out⟩
    case round =>
      clear HREL
      obtain ⟨i, j, rfl, rfl, hjl, hij, hrel⟩ := hrel
      obtain ⟨hst, ⟨L', hrow, hinv⟩, hkp⟩ := hrel
      by_cases hlt : j < L.length
      · have hl' : L'.length = L.length := hinv.len
        obtain ⟨c0, c1, c2⟩ := hrow.at_ j (by omega)
        rw [hinv.get hlt] at c0 c1 c2
        have hglt := hrow.lt
        have hw0 := HW.out L[j] (List.getElem_mem _)
        have hsn := swp_le Y.ent S L j
        have hb0 : Below wr.heap.size wr (wr.alloc (Obj.cells #[Value.int .i64 L[j].block, Value.int .i64 L[j].thread, Value.int .i64 L[j].whn] 103)) := (Below.refl _ _).alloc (Nat.le_refl _) _
        have hst0 := hst.below hb0
        have hrow0 := hrow.below hb0
        have hkp0 := hkp.trans (Keep.ofBelow' hb0)
        have hbox := Blk.new wr 103 #[Value.int .i64 L[j].block, Value.int .i64 L[j].thread, Value.int .i64 L[j].whn]
        have hsucc := swp_succ Y.ent S L j hlt
        cases hh : hld Y L[j] with
        | true =>
          have hc := lit_held hst0 L[j].block L[j].thread L[j].whn hh
          have hstp : stp Y.ent (swp Y.ent S (L.take j)) L[j] = swp Y.ent S (L.take j) := by unfold stp; exact if_pos hh
          rw [hstp] at hsucc
          -- what the next round begins with
          have hnext : ∀ w2, Below (wr.alloc (Obj.cells #[Value.int .i64 L[j].block, Value.int .i64 L[j].thread, Value.int .i64 L[j].whn] 103)).heap.size (wr.alloc (Obj.cells #[Value.int .i64 L[j].block, Value.int .i64 L[j].thread, Value.int .i64 L[j].whn] 103)) w2 →
              DelRel w Z pa py By Bf g cap v Y S L (i + 1) (j + 1) (((w2.setCell ⟨g, i * 3, none⟩ (.int .i64 L[j].block)).setCell ⟨g, i * 3 + 1, none⟩ (.int .i64 L[j].thread)).setCell ⟨g, i * 3 + 2, none⟩ (.int .i64 L[j].whn)) := by
            intro w2 hb2
            refine ⟨?_, ⟨L'.set i L[j], (hrow0.below hb2).set_ i L[j], hinv.keep hlt hh⟩, ?_⟩
            · rw [hsucc]
              exact (((hst0.below hb2).setK HZ.out hg1 hg2 hg3 _).setK HZ.out hg1 hg2 hg3 _).setK HZ.out hg1 hg2 hg3 _
            · exact (((hkp0.trans (Keep.ofBelow' hb2)).setCell (fun hn => hn.2.2 rfl) _).setCell (fun hn => hn.2.2 rfl) _).setCell (fun hn => hn.2.2 rfl) _
          have HNEXT := Lib.hid hnext; clear hnext
          have HROW := Lib.hid hrow0; clear hrow0
          clear hinv hst hst0 hkp hkp0 hrow hsucc hstp hh hw0
          generalize L[j].block = x0 at c0 hc hbox HNEXT HROW hb0
          generalize L[j].thread = x1 at c1 hc hbox HNEXT HROW hb0
          generalize L[j].whn = x2 at c2 hc hbox HNEXT HROW hb0
          have HC := Lib.hid hc; clear hc
          go_wp2_with fail
          refine HC.out.mono ?_
          rintro e w2 ⟨rfl, hb2⟩
          have hbox2 := hbox.below hb2 (by simp)
          have hrow2 := HROW.out.below hb2
          obtain ⟨d0, d1, d2⟩ := hrow2.at_ i (by omega)
          have e0 := hbox2.cell 0
          have e1 := hbox2.cell 1
          have e2 := hbox2.cell 2
          simp at e0 e1 e2
          have f0 := hrow2.frozen (i * 3)
          have f1 := hrow2.frozen (i * 3 + 1)
          have f2 := hrow2.frozen (i * 3 + 2)
          have HN2 := Lib.hid (HNEXT.out w2 hb2); clear HNEXT
          generalize L'[i].block = y0 at d0
          generalize L'[i].thread = y1 at d1
          generalize L'[i].whn = y2 at d2
          clear hbox hbox2 hrow2 hb2 c0 c1 c2 hb0
          go_wp2
          go_roundw
          case rel => exact ⟨i + 1, j + 1, by go_num, by go_num, by omega, by omega, HN2.out⟩
          case measure => simp [intOf]; omega
        | false =>
          have hc := lit_free hst0 L[j].block L[j].thread L[j].whn hw0 hh (by omega)
          have hstp : stp Y.ent (swp Y.ent S (L.take j)) L[j] = ((swp Y.ent S (L.take j)).1.freeAt L[j].block, (swp Y.ent S (L.take j)).2 + inc (swp Y.ent S (L.take j)).1 L[j].block) := by
            unfold stp
            have hh' : held Y.ent L[j].whn = false := hh
            rw [hh']; rfl
          rw [hstp] at hsucc
          have hnext : ∀ w2, After (wr.alloc (Obj.cells #[Value.int .i64 L[j].block, Value.int .i64 L[j].thread, Value.int .i64 L[j].whn] 103)) Z pa py By Bf v Y ((swp Y.ent S (L.take j)).1.freeAt L[j].block, (swp Y.ent S (L.take j)).2 + inc (swp Y.ent S (L.take j)).1 L[j].block) w2 →
              DelRel w Z pa py By Bf g cap v Y S L i (j + 1) w2 := by
            intro w2 ha
            refine ⟨?_, ⟨L', hrow0.keep ha.2 ⟨HZ.out, hg3⟩, hinv.skip hlt hh⟩, hkp0.trans (ha.2.less (fun _ hk => ⟨hk.1, hk.2.1⟩))⟩
            rw [hsucc]
            exact ha.1
          have HNEXT := Lib.hid hnext; clear hnext
          generalize swp Y.ent S (L.take j) = P at hc HNEXT
          clear hinv hst hst0 hkp hkp0 hrow hrow0 hsucc hstp hh hw0
          generalize L[j].block = x0 at c0 hc hbox HNEXT hb0
          generalize L[j].thread = x1 at c1 hc hbox HNEXT hb0
          generalize L[j].whn = x2 at c2 hc hbox HNEXT hb0
          have HC := Lib.hid hc; clear hc
          clear hbox hb0
          go_wp2_with fail
          refine HC.out.mono ?_
          rintro e w2 ⟨rfl, ha⟩
          have HN2 := Lib.hid (HNEXT.out w2 ha); clear HNEXT
          clear ha c0 c1 c2
          go_wp2
          go_roundw
          case rel => exact ⟨i, j + 1, rfl, by go_num, by omega, by omega, HN2.out⟩
          case measure => simp [intOf]; omega
      · obtain ⟨h1, h2, h3⟩ := hinv.done hlt
        have hjj : j = L.length := by omega
        rw [hjj, List.take_length] at hst
        have hl' : L'.length = L.length := hinv.len
        obtain ⟨vs, hcl⟩ := run_clear3 wr g cap L' hrow i (by omega)
        rw [hl'] at hcl
        have hcl : ∀ ty, (Builtin.clear_ #[87] ty #[.slice (some ⟨g, i * 3, none⟩) (L.length - i) (cap - i)]).run Try.prog wr = .ok (.tuple #[]) (wr.setCells g (i * 3) vs) := fun ty => hcl ty _
        have hic : ¬ cap = i := by omega
        have hfin : Swst (wr.setCells g (i * 3) vs) Z pa py By Bf v Y (swp Y.ent S L).1 (swp Y.ent S L).2 ∧ Row (wr.setCells g (i * 3) vs) g cap (L.filter (hld Y)) ∧ Keep (fun k => Z k ∧ k ≠ Bf ∧ k ≠ g) w (wr.setCells g (i * 3) vs) := by
          refine ⟨?_, by rw [← h1]; exact hrow.clear i (by omega) vs, hkp.trans (Keep.setCells (fun hn => hn.2.2 rfl) _ _ _)⟩
          have key : ∀ (vs : List Value) (o : Nat) (W : World), Swst W Z pa py By Bf v Y (swp Y.ent S L).1 (swp Y.ent S L).2 → Swst (W.setCells g o vs) Z pa py By Bf v Y (swp Y.ent S L).1 (swp Y.ent S L).2 := by
            intro vs
            induction vs with
            | nil => exact fun _ _ h => h
            | cons u r ih => exact fun o W h => ih _ _ (h.setK (p := ⟨g, o, none⟩) HZ.out hg1 hg2 hg3 u)
          exact key vs _ _ hst
        have HFIN := Lib.hid hfin; clear hfin
        have HLEN := Lib.hid h2; clear h2
        clear h1 hjj hst hrow hinv hkp
        go_wp2
        go_ret
        exact ⟨by rw [HLEN.out]; rfl, HFIN.out⟩
end Go.Proofs.Ytiiaajdkkofbjaa
