/-
  Package post: Drop of a queue that there is not, Make without room, Queues' list. No condition.
-/
import Derived.Test.YtnfcbalppecnfaaGreatPPo6
namespace Go.Proofs.YtnfcbalppecnfaaGreat
open Go.RowKit Go.Maps Go.Sort Go.Shelf
set_option linter.unusedVariables false
set_option linter.unusedSimpArgs false
set_option maxRecDepth 100000 in
set_option maxHeartbeats 4000000 in
theorem drop_a {W : World} {B b0 mb n : Nat} {RR : Nat → Prop} {made k : Int} {f : Int → Option Qu}  {f0 : Act} {w0 : World} (R : FrS 23 f0) (h0 : f0.tmps[0]? = some (.pointer (some ⟨b0, 0, none⟩))) (h1 : f0.tmps[1]? = some (.int .i64 k)) (K1 : Keep (fun g => g < W.heap.size) W w0)  (B0 : Blk w0 b0 48 #[.int .i64 made, .map (some mb)]) (HP : Hid (PoAt B RR W b0 mb made f n)) (HK : Hid ((ik k).wf = true)) (HF : Hid (f k = none)) : cq59_0.wp Tryz.prog (bodyPost Tryz.prog Tryz.f13 (fun e w' => e = .returned (.int .i64 140) ∧ Keep (fun g => g < W.heap.size) W w')) f0 w0 := by
  refine wp_seq (x := cq59_1) (y := cq59_2) ?_
  change (Code.region 0 Oq59_0 false).wp _ _ _ _
  refine reg_in (l := [0]) rfl ?_
  have F : FE_ _ [] f0 f0 := ⟨R, Ag_.refl _⟩; clear R
  have Y : (execOp f0.eval oq59_0_0).run Tryz.prog w0 = .ok (.value (.int .i64 0)) w0 := by unfold oq59_0_0; go_simp
  refine sv_ gq59_0_0 Y fun a101 e => ?_; clear Y
  have h4 := pt_ F e; replace F := pu_ F e; clear e
  refine st_end ?_
  replace h0 := F.of h0; replace h1 := F.of h1; have R := F.r; clear F
  change (cq59_2).wp _ _ _ _
  refine wp_seq (x := cq59_3) (y := cq59_12) ?_
  refine wp_seq (x := cq59_4) (y := cq59_5) ?_
  change (Code.region 1 Oq59_1 false).wp _ _ _ _
  refine reg_in (l := [0, 1, 2, 3, 4, 5, 6, 7, 8, 9, 10]) rfl ?_
  have F : FE_ _ [] a101 a101 := ⟨R, Ag_.refl _⟩; clear R
  refine sv_ gq59_1_0 (ym_ rfl (F.of h0)) fun a102 e => ?_
  have h8 := pt_ F e; replace F := pu_ F e; clear e
  have Y : (execOp a102.eval oq59_1_1).run Tryz.prog w0 = .ok (.value (.pointer (some ⟨b0, 0, none⟩))) w0 := by unfold oq59_1_1; go_simp
  refine sv_ gq59_1_1 Y fun a103 e => ?_; clear Y
  clear h8; have h9 := pt_ F e; replace F := pu_ F e; clear e
  have Y : (execOp a103.eval oq59_1_2).run Tryz.prog w0 = .ok (.value (.pointer (some ⟨b0, 1, none⟩))) w0 := by unfold oq59_1_2; go_simp
  refine sv_ gq59_1_2 Y fun a104 e => ?_; clear Y
  clear h9; have h10 := pt_ F e; replace F := pu_ F e; clear e
  have Y : (execOp a104.eval oq59_1_3).run Tryz.prog w0 = .ok (.value (.map (some mb))) w0 := by have qq0 : w0.cell? ⟨b0, 0, none⟩ = some (.int .i64 made) := B0.cell 0; have qq1 : w0.cell? ⟨b0, 1, none⟩ = some (.map (some mb)) := B0.cell 1; unfold oq59_1_3; go_simp
  refine sv_ gq59_1_3 Y fun a105 e => ?_; clear Y
  clear h10; have h11 := pt_ F e; replace F := pu_ F e; clear e
  refine sv_ gq59_1_4 (ym_ rfl (F.of h1)) fun a106 e => ?_
  have h12 := pt_ F e; replace F := pu_ F e; replace h11 := so_ e h11; clear e
  have Y : (execOp a106.eval oq59_1_5).run Tryz.prog w0 = .ok (.value (.tuple #[.pointer none, .bool false])) w0 := by have hl := PoAt.look0 (HP.out.on K1) HF.out HK.out; unfold oq59_1_5; go_simp
  refine sv_ gq59_1_5 Y fun a107 e => ?_; clear Y
  clear h11 h12; have h13 := pt_ F e; replace F := pu_ F e; clear e
  refine sv_ gq59_1_6 (ym_ rfl h13) fun a108 e => ?_
  clear h13; have h7 := pt_ F e; replace F := pu_ F e; clear e
  refine sv_ gq59_1_7 (ye20_ rfl h7) fun a109 e => ?_
  have h14 := pt_ F e; replace F := pu_ F e; replace h7 := so_ e h7; clear e
  refine sv_ gq59_1_8 (ye21_ rfl h7) fun a110 e => ?_
  clear h7; have h15 := pt_ F e; replace F := pu_ F e; replace h14 := so_ e h14; clear e
  refine sv_ gq59_1_9 (ya_ rfl h14) fun a111 e => ?_
  clear h14; replace F := pu_ F e; replace h15 := so_ e h15; clear e
  refine sv_ gq59_1_10 (ya_ rfl h15) fun a112 e => ?_
  clear h15; have h6 := pt_ F e; replace F := pu_ F e; clear e
  refine st_end ?_
  replace h0 := F.of h0; replace h1 := F.of h1; replace h4 := F.of h4; have R := F.r; clear F
  change (cq59_5).wp _ _ _ _
  refine wp_seq (x := cq59_6) (y := cq59_7) ?_
  change (Code.region 2 Oq59_2 false).wp _ _ _ _
  refine reg_in (l := [0, 1]) rfl ?_
  have F : FE_ _ [] a112 a112 := ⟨R, Ag_.refl _⟩; clear R
  refine sv_ gq59_2_0 (ym_ rfl (F.of h6)) fun a113 e => ?_
  have h16 := pt_ F e; replace F := pu_ F e; clear e
  have Y : (execOp a113.eval oq59_2_1).run Tryz.prog w0 = .ok (.value (.bool true)) w0 := by unfold oq59_2_1; go_simp
  refine sv_ gq59_2_1 Y fun a114 e => ?_; clear Y
  clear h16; have h17 := pt_ F e; replace F := pu_ F e; clear e
  refine st_end ?_
  replace h0 := F.of h0; replace h1 := F.of h1; replace h4 := F.of h4; clear h6; have R := F.r; clear F
  change (cq59_7).wp _ _ _ _
  refine wp_cond_true (x := cq59_8) (y := Code.skip) (eval_slot h17) ?_
  refine wp_seq (x := cq59_9) (y := Code.ret) ?_
  change (Code.region 3 Oq59_3 false).wp _ _ _ _
  refine reg_in (l := [0]) rfl ?_
  have F : FE_ _ [] a114 a114 := ⟨R, Ag_.refl _⟩; clear R
  have Y : (execOp a114.eval oq59_3_0).run Tryz.prog w0 = .ok (.value (.int .i64 140)) w0 := by unfold oq59_3_0; go_simp
  refine sv_ gq59_3_0 Y fun a115 e => ?_; clear Y
  clear h4; have h4 := pt_ F e; replace F := pu_ F e; clear e
  refine st_end ?_
  replace h0 := F.of h0; replace h1 := F.of h1; clear h17; have R := F.r; clear F
  change (Code.ret).wp _ _ _ _
  refine wp_ret ?_
  change bodyPost Tryz.prog Tryz.f13 (fun e w' => e = .returned (.int .i64 140) ∧ Keep (fun g => g < W.heap.size) W w') .ret a115 w0
  refine ret_one rfl R h4 ?_
  exact ⟨rfl, K1⟩
set_option maxRecDepth 100000 in
set_option maxHeartbeats 4000000 in
theorem make_a {W : World} {B b0 mb n : Nat} {RR : Nat → Prop} {made : Int} {f : Int → Option Qu} {most : Int} {f0 : Act} {w0 : World} (R : FrS 36 f0) (h0 : f0.tmps[0]? = some (.pointer (some ⟨b0, 0, none⟩))) (h1 : f0.tmps[1]? = some (.int .i64 most)) (K1 : Keep (fun g => g < W.heap.size) W w0)  (B0 : Blk w0 b0 48 #[.int .i64 made, .map (some mb)]) (HP : Hid (PoAt B RR W b0 mb made f n)) (HN : Hid (8 ≤ n)) : cq23_0.wp Tryz.prog (bodyPost Tryz.prog Tryz.f14 (fun e w' => e = .returned (.tuple #[.int .i64 0, .int .i64 3]) ∧ Keep (fun g => g < W.heap.size) W w')) f0 w0 := by
  refine wp_seq (x := cq23_1) (y := cq23_2) ?_
  change (Code.region 0 Oq23_0 false).wp _ _ _ _
  refine reg_in (l := [0, 1]) rfl ?_
  have F : FE_ _ [] f0 f0 := ⟨R, Ag_.refl _⟩; clear R
  have Y : (execOp f0.eval oq23_0_0).run Tryz.prog w0 = .ok (.value (.int .i64 0)) w0 := by unfold oq23_0_0; go_simp
  refine sv_ gq23_0_0 Y fun a101 e => ?_; clear Y
  have h4 := pt_ F e; replace F := pu_ F e; clear e
  have Y : (execOp a101.eval oq23_0_1).run Tryz.prog w0 = .ok (.value (.int .i64 0)) w0 := by unfold oq23_0_1; go_simp
  refine sv_ gq23_0_1 Y fun a102 e => ?_; clear Y
  have h5 := pt_ F e; replace F := pu_ F e; replace h4 := so_ e h4; clear e
  refine st_end ?_
  replace h0 := F.of h0; replace h1 := F.of h1; have R := F.r; clear F
  change (cq23_2).wp _ _ _ _
  refine wp_seq (x := cq23_3) (y := cq23_10) ?_
  refine wp_seq (x := cq23_4) (y := cq23_5) ?_
  change (Code.region 1 Oq23_1 false).wp _ _ _ _
  refine reg_in (l := [0, 1, 2, 3, 4, 5]) rfl ?_
  have F : FE_ _ [] a102 a102 := ⟨R, Ag_.refl _⟩; clear R
  refine sv_ gq23_1_0 (ym_ rfl (F.of h0)) fun a103 e => ?_
  have h6 := pt_ F e; replace F := pu_ F e; clear e
  have Y : (execOp a103.eval oq23_1_1).run Tryz.prog w0 = .ok (.value (.pointer (some ⟨b0, 0, none⟩))) w0 := by unfold oq23_1_1; go_simp
  refine sv_ gq23_1_1 Y fun a104 e => ?_; clear Y
  clear h6; have h7 := pt_ F e; replace F := pu_ F e; clear e
  have Y : (execOp a104.eval oq23_1_2).run Tryz.prog w0 = .ok (.value (.pointer (some ⟨b0, 1, none⟩))) w0 := by unfold oq23_1_2; go_simp
  refine sv_ gq23_1_2 Y fun a105 e => ?_; clear Y
  clear h7; have h8 := pt_ F e; replace F := pu_ F e; clear e
  have Y : (execOp a105.eval oq23_1_3).run Tryz.prog w0 = .ok (.value (.map (some mb))) w0 := by have qq0 : w0.cell? ⟨b0, 0, none⟩ = some (.int .i64 made) := B0.cell 0; have qq1 : w0.cell? ⟨b0, 1, none⟩ = some (.map (some mb)) := B0.cell 1; unfold oq23_1_3; go_simp
  refine sv_ gq23_1_3 Y fun a106 e => ?_; clear Y
  clear h8; have h9 := pt_ F e; replace F := pu_ F e; clear e
  have Y : (execOp a106.eval oq23_1_4).run Tryz.prog w0 = .ok (.value (.int .i64 (n : Int))) w0 := by have hl := (HP.out.map.keep K1 HP.out.map.lt).len (tm := 46) (e := 69) Tryz.underlying46 oq23_1_4.type; unfold oq23_1_4 at hl; unfold oq23_1_4; go_simp
  refine sv_ gq23_1_4 Y fun a107 e => ?_; clear Y
  clear h9; have h10 := pt_ F e; replace F := pu_ F e; clear e
  have Y : (execOp a107.eval oq23_1_5).run Tryz.prog w0 = .ok (.value (.bool true)) w0 := by have hn8 : (8 : Int) ≤ (n : Int) := (by have := HN.out; omega); unfold oq23_1_5; go_simp
  refine sv_ gq23_1_5 Y fun a108 e => ?_; clear Y
  clear h10; have h11 := pt_ F e; replace F := pu_ F e; clear e
  refine st_end ?_
  replace h0 := F.of h0; replace h1 := F.of h1; replace h4 := F.of h4; replace h5 := F.of h5; have R := F.r; clear F
  change (cq23_5).wp _ _ _ _
  refine wp_cond_true (x := cq23_6) (y := Code.skip) (eval_slot h11) ?_
  refine wp_seq (x := cq23_7) (y := Code.ret) ?_
  change (Code.region 2 Oq23_2 false).wp _ _ _ _
  refine reg_in (l := [0, 1]) rfl ?_
  have F : FE_ _ [] a108 a108 := ⟨R, Ag_.refl _⟩; clear R
  have Y : (execOp a108.eval oq23_2_0).run Tryz.prog w0 = .ok (.value (.int .i64 0)) w0 := by unfold oq23_2_0; go_simp
  refine sv_ gq23_2_0 Y fun a109 e => ?_; clear Y
  clear h4; have h4 := pt_ F e; replace F := pu_ F e; clear e
  have Y : (execOp a109.eval oq23_2_1).run Tryz.prog w0 = .ok (.value (.int .i64 3)) w0 := by unfold oq23_2_1; go_simp
  refine sv_ gq23_2_1 Y fun a110 e => ?_; clear Y
  clear h5; have h5 := pt_ F e; replace F := pu_ F e; replace h4 := so_ e h4; clear e
  refine st_end ?_
  replace h0 := F.of h0; replace h1 := F.of h1; clear h11; have R := F.r; clear F
  change (Code.ret).wp _ _ _ _
  refine wp_ret ?_
  change bodyPost Tryz.prog Tryz.f14 (fun e w' => e = .returned (.tuple #[.int .i64 0, .int .i64 3]) ∧ Keep (fun g => g < W.heap.size) W w') .ret a110 w0
  refine ret_el2 rfl R.defers h4 h5 ?_
  exact ⟨rfl, K1⟩
def keysOf (f : Int → Option Qu) (made : Int) : List Int := ((List.range made.toNat).map fun i : Nat => (i : Int) + 1).filter fun k => (f k).isSome
theorem keysOf_lt (f : Int → Option Qu) (made : Int) : (keysOf f made).Pairwise (· < ·) := by
  unfold keysOf
  refine List.Pairwise.filter _ ?_
  rw [List.pairwise_map]
  exact List.pairwise_lt_range.imp fun {a b} h => by omega
theorem sort_ascP {l m : List Int} (hp : m.Perm l) (hl : l.Pairwise (· < ·)) : m.mergeSort (fun x y => decide (x ≤ y)) = l := by
  have h1 : m.mergeSort leI = l.mergeSort leI := mergeSort_of_perm_i hp
  have h2 : l.mergeSort leI = l := by
    refine List.mergeSort_of_pairwise (hl.imp ?_)
    intro a b h; simp only [leI, decide_eq_true_eq]; omega
  exact h1.trans h2
section
variable {W : World} {B b0 mb n : Nat} {R : Nat → Prop} {made k most : Int} {f : Int → Option Qu} {q : Qu}
theorem PoAt.keysOf_mem (h : PoAt B R W b0 mb made f n) (k : Int) : k ∈ keysOf f made ↔ (f k).isSome = true := by
  unfold keysOf
  rw [List.mem_filter, List.mem_map]
  constructor
  · exact fun h => h.2
  · intro hs
    obtain ⟨q, hq⟩ := Option.isSome_iff_exists.1 hs
    have := h.num.2 k q hq
    refine ⟨⟨(k - 1).toNat, List.mem_range.2 (by omega), ?_⟩, hs⟩
    show (((k - 1).toNat : Nat) : Int) + 1 = k
    omega
theorem PoAt.keys_perm (h : PoAt B R W b0 mb made f n) : ∃ D : DataW Value, W.ownsMap Tryz.prog 3 slotElem mb (Maps.size D) D ∧ Maps.size D = n ∧ (∀ k : Int, D.atKey (ik k) (.held (.pointer none)) = .held (((f k).map fun q => .pointer (some ⟨q.g, 0, none⟩)).getD (.pointer none)) ∧ Maps.has D (ik k) = ((f k).map fun q => Value.pointer (some ⟨q.g, 0, none⟩)).isSome) ∧ (keysOf f made).Perm (intKeys D) := by
  obtain ⟨D, hown, hsz, hat⟩ := h.map.own
  refine ⟨D, hown, hsz, hat, ?_⟩
  obtain ⟨es, hD, hpw, _⟩ := hown.entries lawN
  obtain ⟨es', hD', hko⟩ := hown.keysOf
  obtain rfl : es = es' := by rw [hD] at hD'; simpa using hD'
  subst hD
  exact perm_intKeys hpw (fun p hp => by obtain ⟨v, hv⟩ := hko p hp; obtain ⟨x, _, hx, _⟩ := Maps.keyOf_i64 Tryz.underlying3 hv; exact ⟨x, hx⟩) ((keysOf_lt f made).imp (fun h e => by omega)) (fun x => by rw [(hat x).2, h.keysOf_mem x, Option.isSome_map])
theorem drop_no (h : PoAt B R W b0 mb made f n) (hk : (ik k).wf = true) (hf : f k = none) : Calls Tryz.prog 13 #[.pointer (some ⟨b0, 0, none⟩), .int .i64 k] W fun e w' => e = .returned (.int .i64 140) ∧ Keep (fun g => g < W.heap.size) W w' := by
  refine enter_sx Tryz.func13 bodyq59 rfl (by show (2 : Nat) ≤ 23; decide) fun f0 R0 hs => ?_
  exact drop_a R0 (hs 0 _ rfl) (hs 1 _ rfl) (Keep.refl _ W) h.head (Lib.hid h) (Lib.hid hk) (Lib.hid hf)
theorem make_full (h : PoAt B R W b0 mb made f n) (hn : 8 ≤ n) : Calls Tryz.prog 14 #[.pointer (some ⟨b0, 0, none⟩), .int .i64 most] W fun e w' => e = .returned (.tuple #[.int .i64 0, .int .i64 3]) ∧ Keep (fun g => g < W.heap.size) W w' := by
  refine enter_sx Tryz.func14 bodyq23 rfl (by show (2 : Nat) ≤ 36; decide) fun f0 R0 hs => ?_
  exact make_a R0 (hs 0 _ rfl) (hs 1 _ rfl) (Keep.refl _ W) h.head (Lib.hid h) (Lib.hid hn)
set_option maxHeartbeats 1000000 in
theorem queues_all (h : PoAt B R W b0 mb made f n) : Calls Tryz.prog 9 #[.pointer (some ⟨b0, 0, none⟩)] W fun e w' => ∃ v, e = .returned v ∧ w'.ownsRow W.heap.size 3 1 v n ((keysOf f made).map encZ) ∧ Keep (fun g => g < W.heap.size) W w' := by
  have hper := h.keys_perm
  obtain ⟨D, hown, hsz, hat, hper⟩ := hper
  have hfew := h.few
  have hmax : Maps.size D ≤ maxLen := by unfold maxLen; omega
  have hbytes : Maps.size D * 8 ≤ 140737488355328 := by omega
  have hpa := h.head.cell 1
  have hlt := h.head.lt
  refine (callsIn_wide (n := 6)).1 ?_
  have hbl := hown.lt
  have hkeys : (intKeys D).length = Maps.size D := by
    obtain ⟨es, rfl, _⟩ := hown.entries lawN
    simp [intKeys, Maps.size]
  have hseq : SeqGives Fence.wide 2 Tryz.prog 42 #[.pointer (some ⟨W.heap.size, 0, none⟩)] encZ (fun ss => ss.Perm (intKeys D)) (Maps.size D) (W.alloc (.cells #[.map (some mb)] 46)) :=
    AnyZI.keys_gives (ρ := Tryz.keysO_ren) { Tryz.keysO with } Fence.wide _ trivial rfl (by omega) W.heap.size mb _ D _ (by simp) (by simp) (by
      obtain ⟨es, clock, hb, Ft, hs, hD⟩ := hown
      exact ⟨es, clock, (Below.heap_alloc _ _ mb hbl).trans hb, Ft, hs, hD⟩)
  have cK : ∀ mb W, CallsIn Fence.wide 5 Tryz.prog 29 #[.map mb] W fun e w' => e = .returned (.func (.func 42) #[] #[.pointer (some ⟨W.heap.size, 0, none⟩)]) ∧ w' = W.alloc (.cells #[.map mb] 46) := fun mb W => AnyZI.keys_in Tryz.keysO Fence.wide 5 trivial rfl mb W
  have cS := AnyZI.sorted_in Tryz.sortedI Fence.wide 5 trivial trivial trivial trivial rfl (by omega) (sortsI _) (enters_of Tryz.func41 (by kernel_rfl) rfl) 42 #[.pointer (some ⟨W.heap.size, 0, none⟩)] trivial (enters_of Tryz.func42 (by kernel_rfl) rfl) _ _ hmax hbytes _ hseq
  change CallsIn _ _ Tryz.prog 28 _ _ _ at cS
  have hfK : Fence.wide.fn 29 := trivial
  have hfS : Fence.wide.fn 28 := trivial
  have HKL := Lib.hid hkeys; clear hkeys
  have HSZ := Lib.hid hsz; clear hsz
  have HPE := Lib.hid hper; clear hper
  clear h hseq hown hbl hmax hbytes hfew hat
  simp at hpa
  refine callsIn_of_wp Tryz.func9 rfl trivial ?_ rfl
  simp only [Tryz.ntmps9, List.size_toArray, List.length_cons, List.length_nil, Nat.reduceAdd, Nat.reduceSub, Array.replicate_succ, Array.replicate_zero, List.push_toArray, List.append_toArray, List.nil_append, List.cons_append]
  gi_wp2_with (first
    | (gi_at_call 29; refine (cK _ _).mono ?_; rintro e w' ⟨rfl, rfl⟩)
    | (gi_at_call 28; refine cS.mono ?_; rintro e w' ⟨v, ss, rfl, hS, hrow, hnil, hb⟩))
  go_ret
  have hl : ss.length = n := (hS.length_eq.trans HKL.out).trans HSZ.out
  have hss := sort_ascP (hS.trans HPE.out.symm) (keysOf_lt f made)
  rw [hss, hl] at hrow
  exact ⟨v, rfl, ownsRow_base_a hrow (by simp), Keep.ofBelow (((Below.refl _ W).alloc (Nat.le_refl _) _).trans (hb.mono (by simp))) fun g hg => hg⟩
end
end Go.Proofs.YtnfcbalppecnfaaGreat
