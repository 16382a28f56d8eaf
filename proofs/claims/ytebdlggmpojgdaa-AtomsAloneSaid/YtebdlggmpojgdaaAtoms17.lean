/-
  Package atoms in memory: hang. Conditions: neither the operation nor the table is the arena's memory; the table's block is live.
-/
import Derived.Test.YtebdlggmpojgdaaAtoms16
namespace Go.Proofs.Ytebdlggmpojgdaa
open Go.RowKit Go.Maps
set_option linter.unusedVariables false

section
variable {w : World} {X : Nat → Prop} {pa po pt nb : Nat} {o : OS} {s : ByteArray} {T : TS} {c : Int} {S : AS}
theorem TS.list_range (T : TS) (h : 1 ≤ T.lists) (n : List UInt8) : 0 ≤ T.list n ∧ T.list n < T.lists := by
  unfold TS.list
  have := Nat.mod_lt (hashN n 0) (y := T.lists.toNat) (by omega)
  omega
theorem OHead.reads5 (h : OHead w po pt o s) : w.cell? ⟨po, 5, none⟩ = some (.int .i64 o.behind) := h.cell 5
theorem THead.reads2 (h : THead w pt pa nb T) : w.cell? ⟨pt, 2, none⟩ = some (.int .i64 T.lists) := Blk.cell h 2
set_option maxHeartbeats 4000000 in
theorem hang_any (h : OHead w po pt o s) (ht : THead w pt pa nb T) (hA : Arena w X pa S) (hn : NMap w nb c T) (hXo : X po) (hXt : X pt) (hXn : X nb) (hwb : (ik T.first).wf = true)
    (hl : 1 ≤ T.lists ∧ T.lists ≤ 64) (m0 : 0 ≤ o.seen) (m1 : o.seen < 9223372036854775808) (hw : (ik (mNew o.seen)).wf = true) (hsz : (T.name (mNew o.seen)).length ≤ 1000000) :
    Calls Try.prog 41 #[.pointer (some ⟨po, 0, none⟩)] w fun e w' => e = .returned (.tuple #[]) ∧ OHead w' po pt { o with next := 4 } s ∧ Arena w' X pa (S.swapAt T.first (1 + T.list (T.name (mNew o.seen))) o.behind (mNew o.seen)) ∧ Keep (fun k => X k ∧ k ≠ po) w w' := by
  have hN := newest_any o.seen m0 m1
  have c0 := h.cell 0
  have c4 := h.cell 4
  have d0 := h.drew.cell 0
  have d4 := h.drew.cell 4
  have d5 := h.drew.cell 5
  obtain ⟨t0, t1⟩ := ht.reads
  have t4 := ht.reads4
  have hlk := hn.look hw
  have hls := list_any (w := w.drew) (pt := pt) T (str (T.name (mNew o.seen))) hl ht.drew.reads2 (by rw [str_size]; exact hsz)
  rw [str_data] at hls
  have hr := T.list_range hl.1 (T.name (mNew o.seen))
  simp only [ocells, List.getElem?_toArray, List.getElem?_cons_zero, List.getElem?_cons_succ] at c0 c4 d0 d4 d5
  have hsw : ∀ W, Arena W X pa S → _ := fun W a => swap_any (w := W) a hwb (1 + T.list (T.name (mNew o.seen))) o.behind (mNew o.seen)
  have hlk1 := hn.drew.look hw
  generalize str (T.name (mNew o.seen)) = sn at hlk hls hlk1
  generalize T.list (T.name (mNew o.seen)) = li at hls hr hsw ⊢
  generalize mNew o.seen = y at hN hlk hsw hlk1 ⊢
  have HN := Lib.hid hN; clear hN
  have HLS := Lib.hid hls; clear hls
  have HSW := Lib.hid (hsw w.drew.drew hA.drew.drew); clear hsw
  have HO := Lib.hid h.drew.drew
  have HT := Lib.hid ht.drew.drew
  have HXO := Lib.hid hXo; clear hXo
  have HXT := Lib.hid hXt; clear hXt
  have hkd : Keep (fun k => X k ∧ k ≠ po) w w.drew.drew := (Keep.refl _ w).drew.drew
  have HKD := Lib.hid hkd; clear hkd
  obtain ⟨e0, e1⟩ := ht.drew.drew.reads
  obtain ⟨e01, e11⟩ := ht.drew.reads
  have e41 := ht.drew.reads4
  have f0 := h.drew.drew.cell 0
  have f5 := h.drew.drew.cell 5
  have w1 : wrap64 (1 + li) = 1 + li := by unfold wrap64; omega
  have w2 : IntKind.i64.wrap (1 + li) = 1 + li := by rw [IntKind.wrap_i64]; omega
  simp only [ocells, List.getElem?_toArray, List.getElem?_cons_zero, List.getElem?_cons_succ] at f0 f5
  clear h ht hA
  clear hn hXn hwb m0 m1 hw hsz
  have WW := Lib.hid w2; clear w1 w2 hr
  go_enter Try.func41, Try.ntmps41
  go_wp2_with (go_at_call 40; refine (HN.out _).mono ?_; rintro e w' ⟨rfl, rfl⟩)
  go_region_with (go_at_call 36; refine HLS.out.mono ?_; rintro e w' ⟨rfl, rfl⟩)
  all_goals
    generalize w.drew = w9 at *
    go_wp2_with fail
    go_region_held3 (fun w' => w'.cell? ⟨po, 0, none⟩ = some (.pointer (some ⟨pt, 0, none⟩)) ∧ w'.cell? ⟨po, 5, none⟩ = some (.int .i64 o.behind) ∧ w'.cell? ⟨pt, 0, none⟩ = some (.pointer (some ⟨pa, 0, none⟩)) ∧ w'.cell? ⟨pt, 1, none⟩ = some (.int .i64 T.first)) (simp [*])
      (first
        | (go_at_call 77; (try rw [WW.out]); refine HSW.out.mono ?_; rintro e w7 ⟨rfl, a7, k7⟩; have o7 := HO.out.keep k7 HXO.out; have t7 := HT.out.keep k7 HXT.out; have q0 := o7.reads.1; have q5 := o7.reads5; obtain ⟨r0, r1⟩ := t7.reads; have A7 := Lib.hid a7; clear a7; have K7 := Lib.hid k7; clear k7; have O7 := Lib.hid o7; clear o7; clear t7))
    all_goals
      have q1 := O7.out.cell 1
      have z1 := O7.out.thaw 1
      simp only [ocells, List.getElem?_toArray, List.getElem?_cons_zero, List.getElem?_cons_succ] at q1
      have rr := O7.out.put 1 (.int .i64 4) (o' := { o with next := 4 }) (by simp [ocells])
      have RR := Lib.hid rr; clear rr
      have kx : Keep (fun k => X k ∧ k ≠ po) w w7 := HKD.out.trans (K7.out.less (fun k hk => hk.1))
      have KX := Lib.hid kx; clear kx
      go_wp2_with fail
      exact bodyPost_end (results_none rfl _ _ _) rfl ⟨rfl, RR.out, A7.out.setCell HXO.out _, KX.out.setCell (fun hh => hh.2 rfl) _⟩
end
end Go.Proofs.Ytebdlggmpojgdaa
