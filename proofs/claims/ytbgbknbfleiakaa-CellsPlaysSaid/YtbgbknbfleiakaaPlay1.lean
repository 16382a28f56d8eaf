/-
  One call of a cell against the document, where there is no such block or no such cell. Condition: fewer than 2^42 blocks were made.
-/
import Derived.Test.YtbgbknbfleiakaaPlay0
import Derived.Test.YtbgbknbfleiakaaAsk2
namespace Go.Proofs.Ytbgbknbfleiakaa
open Go.RowKit Go.Maps

set_option maxHeartbeats 1000000 in
set_option maxRecDepth 100000 in
theorem cellM_load_none {w : World} {X Y : Nat → Prop} {pa : Nat} {S : AS} (h : Arena w X pa S) (hX : ∀ k, X k → k < w.heap.size) (hY : ∀ k, Y k → X k) {A : Option Addr} {vals : List Value} {bl : List (List Int)} (hr : RowsAt w Y A vals bl) (hm : Match S bl) (c : Nat) (hlen : bl.length ≤ 4398046511103) {b : Int} (hwb : (ik b).wf = true) (i v x : Int) (hl : look S.bl b = none) :
    Calls Try.prog 26 #[.pointer (some ⟨pa, 0, none⟩), .agg #[.slice A bl.length c, .int .i64 S.most, .int .i64 S.faults], .agg #[.int .i64 3, .int .i64 b, .int .i64 i, .int .i64 v, .int .i64 x]] w (Plays w X Y pa S.fault) := by
  have e1 : S.err b i = 20 := by unfold AS.err; rw [hl]
  have e2 : S.touch b = S.fault := by unfold AS.touch; rw [hl]
  have e3 : S.val b i = 0 := by unfold AS.val; rw [hl]
  have hb3 := below3 (w := w) #[.slice A bl.length c, .int .i64 S.most, .int .i64 S.faults] #[.int .i64 3, .int .i64 b, .int .i64 i, .int .i64 v, .int .i64 x] #[.slice none 0 0, .int .i64 0, .int .i64 0]
  have hrch := reach_no (hr.below hb3) c S.most S.faults (hm.none_ hl) i (by omega)
  have hE : ∀ (w1 : World) (n : Nat), Arena w1 (fun k => X k ∨ (w.heap.size ≤ k ∧ k < n)) pa S → Calls Try.prog 17 _ w1 _ := fun w1 n ha => by
    have hcall := load_any ha hwb i
    rw [e1, e2, e3] at hcall
    exact hcall
  have HX := Lib.hid hX; clear hX
  have HY := Lib.hid hY; clear hY
  have HA := Lib.hid h; clear h
  have HR := Lib.hid hr; clear hr
  have HM := Lib.hid hm; clear hm
  have HE := Lib.hid hE; clear hE
  have HC := Lib.hid hrch; clear hrch
  clear hb3 hl e1 e2 e3
  go_enter Try.func26, Try.ntmps26
  go_wp2_with fail
  refine HC.out.mono ?_
  rintro e w1 ⟨rfl, b1⟩
  obtain ⟨_, hO, hR, n1, hb1⟩ := box3 b1
  have hO2 := hO.alloc (.cells #[.slice A bl.length c, .int .i64 S.most, .int .i64 (wrap64 (S.faults + 1))] 28)
  have hR2 := hR.alloc (.cells #[.slice A bl.length c, .int .i64 S.most, .int .i64 (wrap64 (S.faults + 1))] 28)
  have hN2 := Blk.new w1 28 #[.slice A bl.length c, .int .i64 S.most, .int .i64 (wrap64 (S.faults + 1))]
  have hb2 := hb1.alloc (by omega) (.cells #[.slice A bl.length c, .int .i64 S.most, .int .i64 (wrap64 (S.faults + 1))] 28)
  have hA2 := (HA.out.more (w1.heap.size + 1)).below hb2
  have hcall := HE.out _ _ hA2
  obtain ⟨o0, o1, o2, o3, o4⟩ := hO2.five
  have HB2 := Lib.hid hb2
  have HCALL := Lib.hid hcall; clear hcall
  have HR2 := Lib.hid hR2; clear hR2
  have HN2 := Lib.hid hN2; clear hN2
  have HN1 := Lib.hid n1; clear n1
  clear hO hR hO2 hb1 hb2 b1 hA2
  go_wp2_with fail
  refine HCALL.out.mono ?_
  rintro e w3 ⟨rfl, a3, k3⟩
  have n1 := HN1.out
  have hR3 := HR2.out.keep k3 (.inr ⟨by omega, by omega⟩)
  have hN3 := HN2.out.keep k3 (.inr ⟨by omega, by omega⟩)
  obtain ⟨c0, c1, c2, _⟩ := hN3.three
  obtain ⟨r0, r1, r2, g0, g1, g2⟩ := hR3.three
  have hF := ((hR3.set_ 0 (.slice A bl.length c)).set_ 1 (.int .i64 S.most)).set_ 2 (.int .i64 (wrap64 (S.faults + 1)))
  obtain ⟨q0, q1, q2, _⟩ := hF.three
  have HA3 := Lib.hid a3; clear a3
  have HK3 := Lib.hid k3; clear k3
  clear hR3 hN3 hF n1
  go_wp2_with fail
  refine bodyPost_ret (by simp [results, Try.results26, go_sem, q0, q1, q2]; rfl) rfl ?_
  have n1 := HN1.out
  have hx : ¬ X (w.heap.size + 1 + 1) := fun hh => by have := HX.out _ hh; omega
  have hkF : Keep X w w3 := kept_ (fun k hk hh => by have := HX.out _ hh; omega) HB2.out HK3.out
  have hkG := keep_set (keep_set (keep_set hkF hx (o := 0) (u := .slice A bl.length c)) hx (o := 1) (u := .int .i64 S.most)) hx (o := 2) (u := .int .i64 (wrap64 (S.faults + 1)))
  refine ⟨A, c, vals, bl, fun _ => False, rfl, ?_, (HR.out.keep (Z := Y) (hkG.less HY.out) (fun k hk => hk)).wide (fun k hk => .inl hk), HM.out.fault, fun k hk => hk.elim, hkG⟩
  refine Arena.less (X := fun k => X k ∨ (w.heap.size ≤ k ∧ k < w1.heap.size + 1)) ?_ (fun k _ hk => by rcases hk with hk | hk; exact .inl hk; exact hk.elim)
  refine arena_set (arena_set (arena_set HA3.out ?_) ?_) ?_
  all_goals exact .inr ⟨by omega, by omega⟩

set_option maxHeartbeats 1000000 in
set_option maxRecDepth 100000 in
theorem cellM_store_none {w : World} {X Y : Nat → Prop} {pa : Nat} {S : AS} (h : Arena w X pa S) (hX : ∀ k, X k → k < w.heap.size) (hY : ∀ k, Y k → X k) {A : Option Addr} {vals : List Value} {bl : List (List Int)} (hr : RowsAt w Y A vals bl) (hm : Match S bl) (c : Nat) (hlen : bl.length ≤ 4398046511103) {b : Int} (hwb : (ik b).wf = true) (i v x : Int) (hl : look S.bl b = none) :
    Calls Try.prog 26 #[.pointer (some ⟨pa, 0, none⟩), .agg #[.slice A bl.length c, .int .i64 S.most, .int .i64 S.faults], .agg #[.int .i64 4, .int .i64 b, .int .i64 i, .int .i64 v, .int .i64 x]] w (Plays w X Y pa S.fault) := by
  have e1 : S.err b i = 20 := by unfold AS.err; rw [hl]
  have e2 : S.storeAt b i v = S.fault := by unfold AS.storeAt; rw [hl]
  have hb3 := below3 (w := w) #[.slice A bl.length c, .int .i64 S.most, .int .i64 S.faults] #[.int .i64 4, .int .i64 b, .int .i64 i, .int .i64 v, .int .i64 x] #[.slice none 0 0, .int .i64 0, .int .i64 0]
  have hrch := reach_no (hr.below hb3) c S.most S.faults (hm.none_ hl) i (by omega)
  have hE : ∀ (w1 : World) (n : Nat), Arena w1 (fun k => X k ∨ (w.heap.size ≤ k ∧ k < n)) pa S → Calls Try.prog 20 _ w1 _ := fun w1 n ha => by
    have hcall := store_any ha hwb i v
    rw [e1, e2] at hcall
    exact hcall
  have HX := Lib.hid hX; clear hX
  have HY := Lib.hid hY; clear hY
  have HA := Lib.hid h; clear h
  have HR := Lib.hid hr; clear hr
  have HM := Lib.hid hm; clear hm
  have HE := Lib.hid hE; clear hE
  have HC := Lib.hid hrch; clear hrch
  clear hb3 hl e1 e2 
  go_enter Try.func26, Try.ntmps26
  go_wp2_with fail
  refine HC.out.mono ?_
  rintro e w1 ⟨rfl, b1⟩
  obtain ⟨_, hO, hR, n1, hb1⟩ := box3 b1
  have hO2 := hO.alloc (.cells #[.slice A bl.length c, .int .i64 S.most, .int .i64 (wrap64 (S.faults + 1))] 28)
  have hR2 := hR.alloc (.cells #[.slice A bl.length c, .int .i64 S.most, .int .i64 (wrap64 (S.faults + 1))] 28)
  have hN2 := Blk.new w1 28 #[.slice A bl.length c, .int .i64 S.most, .int .i64 (wrap64 (S.faults + 1))]
  have hb2 := hb1.alloc (by omega) (.cells #[.slice A bl.length c, .int .i64 S.most, .int .i64 (wrap64 (S.faults + 1))] 28)
  have hA2 := (HA.out.more (w1.heap.size + 1)).below hb2
  have hcall := HE.out _ _ hA2
  obtain ⟨o0, o1, o2, o3, o4⟩ := hO2.five
  have HB2 := Lib.hid hb2
  have HCALL := Lib.hid hcall; clear hcall
  have HR2 := Lib.hid hR2; clear hR2
  have HN2 := Lib.hid hN2; clear hN2
  have HN1 := Lib.hid n1; clear n1
  clear hO hR hO2 hb1 hb2 b1 hA2
  go_wp2_with fail
  refine HCALL.out.mono ?_
  rintro e w3 ⟨rfl, a3, k3⟩
  have n1 := HN1.out
  have hR3 := HR2.out.keep k3 (.inr ⟨by omega, by omega⟩)
  have hN3 := HN2.out.keep k3 (.inr ⟨by omega, by omega⟩)
  obtain ⟨c0, c1, c2, _⟩ := hN3.three
  obtain ⟨r0, r1, r2, g0, g1, g2⟩ := hR3.three
  have hF := ((hR3.set_ 0 (.slice A bl.length c)).set_ 1 (.int .i64 S.most)).set_ 2 (.int .i64 (wrap64 (S.faults + 1)))
  obtain ⟨q0, q1, q2, _⟩ := hF.three
  have HA3 := Lib.hid a3; clear a3
  have HK3 := Lib.hid k3; clear k3
  clear hR3 hN3 hF n1
  go_wp2_with fail
  refine bodyPost_ret (by simp [results, Try.results26, go_sem, q0, q1, q2]; rfl) rfl ?_
  have n1 := HN1.out
  have hx : ¬ X (w.heap.size + 1 + 1) := fun hh => by have := HX.out _ hh; omega
  have hkF : Keep X w w3 := kept_ (fun k hk hh => by have := HX.out _ hh; omega) HB2.out HK3.out
  have hkG := keep_set (keep_set (keep_set hkF hx (o := 0) (u := .slice A bl.length c)) hx (o := 1) (u := .int .i64 S.most)) hx (o := 2) (u := .int .i64 (wrap64 (S.faults + 1)))
  refine ⟨A, c, vals, bl, fun _ => False, rfl, ?_, (HR.out.keep (Z := Y) (hkG.less HY.out) (fun k hk => hk)).wide (fun k hk => .inl hk), HM.out.fault, fun k hk => hk.elim, hkG⟩
  refine Arena.less (X := fun k => X k ∨ (w.heap.size ≤ k ∧ k < w1.heap.size + 1)) ?_ (fun k _ hk => by rcases hk with hk | hk; exact .inl hk; exact hk.elim)
  refine arena_set (arena_set (arena_set HA3.out ?_) ?_) ?_
  all_goals exact .inr ⟨by omega, by omega⟩

set_option maxHeartbeats 1000000 in
set_option maxRecDepth 100000 in
theorem cellM_swap_none {w : World} {X Y : Nat → Prop} {pa : Nat} {S : AS} (h : Arena w X pa S) (hX : ∀ k, X k → k < w.heap.size) (hY : ∀ k, Y k → X k) {A : Option Addr} {vals : List Value} {bl : List (List Int)} (hr : RowsAt w Y A vals bl) (hm : Match S bl) (c : Nat) (hlen : bl.length ≤ 4398046511103) {b : Int} (hwb : (ik b).wf = true) (i v x : Int) (hl : look S.bl b = none) :
    Calls Try.prog 26 #[.pointer (some ⟨pa, 0, none⟩), .agg #[.slice A bl.length c, .int .i64 S.most, .int .i64 S.faults], .agg #[.int .i64 5, .int .i64 b, .int .i64 i, .int .i64 v, .int .i64 x]] w (Plays w X Y pa S.fault) := by
  have e1 : S.err b i = 20 := by unfold AS.err; rw [hl]
  have e2 : S.swapAt b i v x = S.fault := by unfold AS.swapAt; rw [hl]
  have e3 : S.swapOk b i v = false := by unfold AS.swapOk; rw [hl]
  have hb3 := below3 (w := w) #[.slice A bl.length c, .int .i64 S.most, .int .i64 S.faults] #[.int .i64 5, .int .i64 b, .int .i64 i, .int .i64 v, .int .i64 x] #[.slice none 0 0, .int .i64 0, .int .i64 0]
  have hrch := reach_no (hr.below hb3) c S.most S.faults (hm.none_ hl) i (by omega)
  have hE : ∀ (w1 : World) (n : Nat), Arena w1 (fun k => X k ∨ (w.heap.size ≤ k ∧ k < n)) pa S → Calls Try.prog 21 _ w1 _ := fun w1 n ha => by
    have hcall := swap_any ha hwb i v x
    rw [e1, e2, e3] at hcall
    exact hcall
  have HX := Lib.hid hX; clear hX
  have HY := Lib.hid hY; clear hY
  have HA := Lib.hid h; clear h
  have HR := Lib.hid hr; clear hr
  have HM := Lib.hid hm; clear hm
  have HE := Lib.hid hE; clear hE
  have HC := Lib.hid hrch; clear hrch
  clear hb3 hl e1 e2 e3
  go_enter Try.func26, Try.ntmps26
  go_wp2_with fail
  refine HC.out.mono ?_
  rintro e w1 ⟨rfl, b1⟩
  obtain ⟨_, hO, hR, n1, hb1⟩ := box3 b1
  have hO2 := hO.alloc (.cells #[.slice A bl.length c, .int .i64 S.most, .int .i64 (wrap64 (S.faults + 1))] 28)
  have hR2 := hR.alloc (.cells #[.slice A bl.length c, .int .i64 S.most, .int .i64 (wrap64 (S.faults + 1))] 28)
  have hN2 := Blk.new w1 28 #[.slice A bl.length c, .int .i64 S.most, .int .i64 (wrap64 (S.faults + 1))]
  have hb2 := hb1.alloc (by omega) (.cells #[.slice A bl.length c, .int .i64 S.most, .int .i64 (wrap64 (S.faults + 1))] 28)
  have hA2 := (HA.out.more (w1.heap.size + 1)).below hb2
  have hcall := HE.out _ _ hA2
  obtain ⟨o0, o1, o2, o3, o4⟩ := hO2.five
  have HB2 := Lib.hid hb2
  have HCALL := Lib.hid hcall; clear hcall
  have HR2 := Lib.hid hR2; clear hR2
  have HN2 := Lib.hid hN2; clear hN2
  have HN1 := Lib.hid n1; clear n1
  clear hO hR hO2 hb1 hb2 b1 hA2
  go_wp2_with fail
  refine HCALL.out.mono ?_
  rintro e w3 ⟨rfl, a3, k3⟩
  have n1 := HN1.out
  have hR3 := HR2.out.keep k3 (.inr ⟨by omega, by omega⟩)
  have hN3 := HN2.out.keep k3 (.inr ⟨by omega, by omega⟩)
  obtain ⟨c0, c1, c2, _⟩ := hN3.three
  obtain ⟨r0, r1, r2, g0, g1, g2⟩ := hR3.three
  have hF := ((hR3.set_ 0 (.slice A bl.length c)).set_ 1 (.int .i64 S.most)).set_ 2 (.int .i64 (wrap64 (S.faults + 1)))
  obtain ⟨q0, q1, q2, _⟩ := hF.three
  have HA3 := Lib.hid a3; clear a3
  have HK3 := Lib.hid k3; clear k3
  clear hR3 hN3 hF n1
  go_wp2_with fail
  refine bodyPost_ret (by simp [results, Try.results26, go_sem, q0, q1, q2]; rfl) rfl ?_
  have n1 := HN1.out
  have hx : ¬ X (w.heap.size + 1 + 1) := fun hh => by have := HX.out _ hh; omega
  have hkF : Keep X w w3 := kept_ (fun k hk hh => by have := HX.out _ hh; omega) HB2.out HK3.out
  have hkG := keep_set (keep_set (keep_set hkF hx (o := 0) (u := .slice A bl.length c)) hx (o := 1) (u := .int .i64 S.most)) hx (o := 2) (u := .int .i64 (wrap64 (S.faults + 1)))
  refine ⟨A, c, vals, bl, fun _ => False, rfl, ?_, (HR.out.keep (Z := Y) (hkG.less HY.out) (fun k hk => hk)).wide (fun k hk => .inl hk), HM.out.fault, fun k hk => hk.elim, hkG⟩
  refine Arena.less (X := fun k => X k ∨ (w.heap.size ≤ k ∧ k < w1.heap.size + 1)) ?_ (fun k _ hk => by rcases hk with hk | hk; exact .inl hk; exact hk.elim)
  refine arena_set (arena_set (arena_set HA3.out ?_) ?_) ?_
  all_goals exact .inr ⟨by omega, by omega⟩

set_option maxHeartbeats 1000000 in
set_option maxRecDepth 100000 in
theorem cellM_add_none {w : World} {X Y : Nat → Prop} {pa : Nat} {S : AS} (h : Arena w X pa S) (hX : ∀ k, X k → k < w.heap.size) (hY : ∀ k, Y k → X k) {A : Option Addr} {vals : List Value} {bl : List (List Int)} (hr : RowsAt w Y A vals bl) (hm : Match S bl) (c : Nat) (hlen : bl.length ≤ 4398046511103) {b : Int} (hwb : (ik b).wf = true) (i v x : Int) (hl : look S.bl b = none) :
    Calls Try.prog 26 #[.pointer (some ⟨pa, 0, none⟩), .agg #[.slice A bl.length c, .int .i64 S.most, .int .i64 S.faults], .agg #[.int .i64 6, .int .i64 b, .int .i64 i, .int .i64 v, .int .i64 x]] w (Plays w X Y pa S.fault) := by
  have e1 : S.err b i = 20 := by unfold AS.err; rw [hl]
  have e2 : S.addAt b i v = S.fault := by unfold AS.addAt; rw [hl]
  have e3 : S.addVal b i v = 0 := by unfold AS.addVal; rw [hl]
  have hb3 := below3 (w := w) #[.slice A bl.length c, .int .i64 S.most, .int .i64 S.faults] #[.int .i64 6, .int .i64 b, .int .i64 i, .int .i64 v, .int .i64 x] #[.slice none 0 0, .int .i64 0, .int .i64 0]
  have hrch := reach_no (hr.below hb3) c S.most S.faults (hm.none_ hl) i (by omega)
  have hE : ∀ (w1 : World) (n : Nat), Arena w1 (fun k => X k ∨ (w.heap.size ≤ k ∧ k < n)) pa S → Calls Try.prog 22 _ w1 _ := fun w1 n ha => by
    have hcall := add_any ha hwb i v
    rw [e1, e2, e3] at hcall
    exact hcall
  have HX := Lib.hid hX; clear hX
  have HY := Lib.hid hY; clear hY
  have HA := Lib.hid h; clear h
  have HR := Lib.hid hr; clear hr
  have HM := Lib.hid hm; clear hm
  have HE := Lib.hid hE; clear hE
  have HC := Lib.hid hrch; clear hrch
  clear hb3 hl e1 e2 e3
  go_enter Try.func26, Try.ntmps26
  go_wp2_with fail
  refine HC.out.mono ?_
  rintro e w1 ⟨rfl, b1⟩
  obtain ⟨_, hO, hR, n1, hb1⟩ := box3 b1
  have hO2 := hO.alloc (.cells #[.slice A bl.length c, .int .i64 S.most, .int .i64 (wrap64 (S.faults + 1))] 28)
  have hR2 := hR.alloc (.cells #[.slice A bl.length c, .int .i64 S.most, .int .i64 (wrap64 (S.faults + 1))] 28)
  have hN2 := Blk.new w1 28 #[.slice A bl.length c, .int .i64 S.most, .int .i64 (wrap64 (S.faults + 1))]
  have hb2 := hb1.alloc (by omega) (.cells #[.slice A bl.length c, .int .i64 S.most, .int .i64 (wrap64 (S.faults + 1))] 28)
  have hA2 := (HA.out.more (w1.heap.size + 1)).below hb2
  have hcall := HE.out _ _ hA2
  obtain ⟨o0, o1, o2, o3, o4⟩ := hO2.five
  have HB2 := Lib.hid hb2
  have HCALL := Lib.hid hcall; clear hcall
  have HR2 := Lib.hid hR2; clear hR2
  have HN2 := Lib.hid hN2; clear hN2
  have HN1 := Lib.hid n1; clear n1
  clear hO hR hO2 hb1 hb2 b1 hA2
  go_wp2_with fail
  refine HCALL.out.mono ?_
  rintro e w3 ⟨rfl, a3, k3⟩
  have n1 := HN1.out
  have hR3 := HR2.out.keep k3 (.inr ⟨by omega, by omega⟩)
  have hN3 := HN2.out.keep k3 (.inr ⟨by omega, by omega⟩)
  obtain ⟨c0, c1, c2, _⟩ := hN3.three
  obtain ⟨r0, r1, r2, g0, g1, g2⟩ := hR3.three
  have hF := ((hR3.set_ 0 (.slice A bl.length c)).set_ 1 (.int .i64 S.most)).set_ 2 (.int .i64 (wrap64 (S.faults + 1)))
  obtain ⟨q0, q1, q2, _⟩ := hF.three
  have HA3 := Lib.hid a3; clear a3
  have HK3 := Lib.hid k3; clear k3
  clear hR3 hN3 hF n1
  go_wp2_with fail
  refine bodyPost_ret (by simp [results, Try.results26, go_sem, q0, q1, q2]; rfl) rfl ?_
  have n1 := HN1.out
  have hx : ¬ X (w.heap.size + 1 + 1) := fun hh => by have := HX.out _ hh; omega
  have hkF : Keep X w w3 := kept_ (fun k hk hh => by have := HX.out _ hh; omega) HB2.out HK3.out
  have hkG := keep_set (keep_set (keep_set hkF hx (o := 0) (u := .slice A bl.length c)) hx (o := 1) (u := .int .i64 S.most)) hx (o := 2) (u := .int .i64 (wrap64 (S.faults + 1)))
  refine ⟨A, c, vals, bl, fun _ => False, rfl, ?_, (HR.out.keep (Z := Y) (hkG.less HY.out) (fun k hk => hk)).wide (fun k hk => .inl hk), HM.out.fault, fun k hk => hk.elim, hkG⟩
  refine Arena.less (X := fun k => X k ∨ (w.heap.size ≤ k ∧ k < w1.heap.size + 1)) ?_ (fun k _ hk => by rcases hk with hk | hk; exact .inl hk; exact hk.elim)
  refine arena_set (arena_set (arena_set HA3.out ?_) ?_) ?_
  all_goals exact .inr ⟨by omega, by omega⟩

set_option maxHeartbeats 1000000 in
set_option maxRecDepth 100000 in
theorem cellM_load_arg {w : World} {X Y : Nat → Prop} {pa : Nat} {S : AS} (h : Arena w X pa S) (hX : ∀ k, X k → k < w.heap.size) (hY : ∀ k, Y k → X k) {A : Option Addr} {vals : List Value} {bl : List (List Int)} (hr : RowsAt w Y A vals bl) (hm : Match S bl) (c : Nat) (hlen : bl.length ≤ 4398046511103) {b : Int} (hwb : (ik b).wf = true) (i v x : Int) {cs : List Int} (hl : look S.bl b = some cs) (hi : i < 0 ∨ (cs.length : Int) ≤ i) :
    Calls Try.prog 26 #[.pointer (some ⟨pa, 0, none⟩), .agg #[.slice A bl.length c, .int .i64 S.most, .int .i64 S.faults], .agg #[.int .i64 3, .int .i64 b, .int .i64 i, .int .i64 v, .int .i64 x]] w (Plays w X Y pa S) := by
  have hne : ¬ (0 ≤ i ∧ i < (cs.length : Int)) := by omega
  have e1 : S.err b i = 1 := by unfold AS.err; rw [hl]; simp only [if_neg hne]
  have e2 : S.touch b = S := by unfold AS.touch; rw [hl]
  have e3 : S.val b i = 0 := by unfold AS.val; rw [hl]; simp only [if_neg hne]
  have hb3 := below3 (w := w) #[.slice A bl.length c, .int .i64 S.most, .int .i64 S.faults] #[.int .i64 3, .int .i64 b, .int .i64 i, .int .i64 v, .int .i64 x] #[.slice none 0 0, .int .i64 0, .int .i64 0]
  have hszs := h.ok.size hl
  have hrch0 : ∀ W, RowsAt W Y A vals bl → Calls Try.prog 25 #[.agg #[.slice A bl.length c, .int .i64 S.most, .int .i64 S.faults], .int .i64 b, .int .i64 i] W fun e w' => e = .returned (.tuple #[.agg #[.slice A bl.length c, .int .i64 S.most, .int .i64 S.faults], .int .i64 1]) ∧ Below W.heap.size W w' := by
    intro W hW
    obtain ⟨j, hj, hbj, hjc⟩ := hm.some_ h.ok hl
    have hr0 := reach_yes hW c S.most S.faults hj (by rw [hjc]; omega) (by rw [hjc]; omega) i (by omega)
    have hre : reachErr (bl.getD j []).length i = 1 := by unfold reachErr; rw [hjc]; exact if_neg hne
    rw [hre, ← hbj] at hr0
    exact hr0
  have hrch := hrch0 _ (hr.below hb3)
  clear hrch0
  have hE : ∀ (w1 : World) (n : Nat), Arena w1 (fun k => X k ∨ (w.heap.size ≤ k ∧ k < n)) pa S → Calls Try.prog 17 _ w1 _ := fun w1 n ha => by
    have hcall := load_any ha hwb i
    rw [e1, e2, e3] at hcall
    exact hcall
  have HX := Lib.hid hX; clear hX
  have HY := Lib.hid hY; clear hY
  have HA := Lib.hid h; clear h
  have HR := Lib.hid hr; clear hr
  have HM := Lib.hid hm; clear hm
  have HE := Lib.hid hE; clear hE
  have HC := Lib.hid hrch; clear hrch
  clear hb3 hl hi hne hszs e1 e2 e3
  go_enter Try.func26, Try.ntmps26
  go_wp2_with fail
  refine HC.out.mono ?_
  rintro e w1 ⟨rfl, b1⟩
  obtain ⟨_, hO, hR, n1, hb1⟩ := box3 b1
  have hO2 := hO.alloc (.cells #[.slice A bl.length c, .int .i64 S.most, .int .i64 S.faults] 28)
  have hR2 := hR.alloc (.cells #[.slice A bl.length c, .int .i64 S.most, .int .i64 S.faults] 28)
  have hN2 := Blk.new w1 28 #[.slice A bl.length c, .int .i64 S.most, .int .i64 S.faults]
  have hb2 := hb1.alloc (by omega) (.cells #[.slice A bl.length c, .int .i64 S.most, .int .i64 S.faults] 28)
  have hA2 := (HA.out.more (w1.heap.size + 1)).below hb2
  have hcall := HE.out _ _ hA2
  obtain ⟨o0, o1, o2, o3, o4⟩ := hO2.five
  have HB2 := Lib.hid hb2
  have HCALL := Lib.hid hcall; clear hcall
  have HR2 := Lib.hid hR2; clear hR2
  have HN2 := Lib.hid hN2; clear hN2
  have HN1 := Lib.hid n1; clear n1
  clear hO hR hO2 hb1 hb2 b1 hA2
  go_wp2_with fail
  refine HCALL.out.mono ?_
  rintro e w3 ⟨rfl, a3, k3⟩
  have n1 := HN1.out
  have hR3 := HR2.out.keep k3 (.inr ⟨by omega, by omega⟩)
  have hN3 := HN2.out.keep k3 (.inr ⟨by omega, by omega⟩)
  obtain ⟨c0, c1, c2, _⟩ := hN3.three
  obtain ⟨r0, r1, r2, g0, g1, g2⟩ := hR3.three
  have hF := ((hR3.set_ 0 (.slice A bl.length c)).set_ 1 (.int .i64 S.most)).set_ 2 (.int .i64 S.faults)
  obtain ⟨q0, q1, q2, _⟩ := hF.three
  have HA3 := Lib.hid a3; clear a3
  have HK3 := Lib.hid k3; clear k3
  clear hR3 hN3 hF n1
  go_wp2_with fail
  refine bodyPost_ret (by simp [results, Try.results26, go_sem, q0, q1, q2]; rfl) rfl ?_
  have n1 := HN1.out
  have hx : ¬ X (w.heap.size + 1 + 1) := fun hh => by have := HX.out _ hh; omega
  have hkF : Keep X w w3 := kept_ (fun k hk hh => by have := HX.out _ hh; omega) HB2.out HK3.out
  have hkG := keep_set (keep_set (keep_set hkF hx (o := 0) (u := .slice A bl.length c)) hx (o := 1) (u := .int .i64 S.most)) hx (o := 2) (u := .int .i64 S.faults)
  refine ⟨A, c, vals, bl, fun _ => False, rfl, ?_, (HR.out.keep (Z := Y) (hkG.less HY.out) (fun k hk => hk)).wide (fun k hk => .inl hk), HM.out, fun k hk => hk.elim, hkG⟩
  refine Arena.less (X := fun k => X k ∨ (w.heap.size ≤ k ∧ k < w1.heap.size + 1)) ?_ (fun k _ hk => by rcases hk with hk | hk; exact .inl hk; exact hk.elim)
  refine arena_set (arena_set (arena_set HA3.out ?_) ?_) ?_
  all_goals exact .inr ⟨by omega, by omega⟩

set_option maxHeartbeats 1000000 in
set_option maxRecDepth 100000 in
theorem cellM_store_arg {w : World} {X Y : Nat → Prop} {pa : Nat} {S : AS} (h : Arena w X pa S) (hX : ∀ k, X k → k < w.heap.size) (hY : ∀ k, Y k → X k) {A : Option Addr} {vals : List Value} {bl : List (List Int)} (hr : RowsAt w Y A vals bl) (hm : Match S bl) (c : Nat) (hlen : bl.length ≤ 4398046511103) {b : Int} (hwb : (ik b).wf = true) (i v x : Int) {cs : List Int} (hl : look S.bl b = some cs) (hi : i < 0 ∨ (cs.length : Int) ≤ i) :
    Calls Try.prog 26 #[.pointer (some ⟨pa, 0, none⟩), .agg #[.slice A bl.length c, .int .i64 S.most, .int .i64 S.faults], .agg #[.int .i64 4, .int .i64 b, .int .i64 i, .int .i64 v, .int .i64 x]] w (Plays w X Y pa S) := by
  have hne : ¬ (0 ≤ i ∧ i < (cs.length : Int)) := by omega
  have e1 : S.err b i = 1 := by unfold AS.err; rw [hl]; simp only [if_neg hne]
  have e2 : S.storeAt b i v = S := by unfold AS.storeAt; rw [hl]; simp only [if_neg hne]
  have hb3 := below3 (w := w) #[.slice A bl.length c, .int .i64 S.most, .int .i64 S.faults] #[.int .i64 4, .int .i64 b, .int .i64 i, .int .i64 v, .int .i64 x] #[.slice none 0 0, .int .i64 0, .int .i64 0]
  have hszs := h.ok.size hl
  have hrch0 : ∀ W, RowsAt W Y A vals bl → Calls Try.prog 25 #[.agg #[.slice A bl.length c, .int .i64 S.most, .int .i64 S.faults], .int .i64 b, .int .i64 i] W fun e w' => e = .returned (.tuple #[.agg #[.slice A bl.length c, .int .i64 S.most, .int .i64 S.faults], .int .i64 1]) ∧ Below W.heap.size W w' := by
    intro W hW
    obtain ⟨j, hj, hbj, hjc⟩ := hm.some_ h.ok hl
    have hr0 := reach_yes hW c S.most S.faults hj (by rw [hjc]; omega) (by rw [hjc]; omega) i (by omega)
    have hre : reachErr (bl.getD j []).length i = 1 := by unfold reachErr; rw [hjc]; exact if_neg hne
    rw [hre, ← hbj] at hr0
    exact hr0
  have hrch := hrch0 _ (hr.below hb3)
  clear hrch0
  have hE : ∀ (w1 : World) (n : Nat), Arena w1 (fun k => X k ∨ (w.heap.size ≤ k ∧ k < n)) pa S → Calls Try.prog 20 _ w1 _ := fun w1 n ha => by
    have hcall := store_any ha hwb i v
    rw [e1, e2] at hcall
    exact hcall
  have HX := Lib.hid hX; clear hX
  have HY := Lib.hid hY; clear hY
  have HA := Lib.hid h; clear h
  have HR := Lib.hid hr; clear hr
  have HM := Lib.hid hm; clear hm
  have HE := Lib.hid hE; clear hE
  have HC := Lib.hid hrch; clear hrch
  clear hb3 hl hi hne hszs e1 e2 
  go_enter Try.func26, Try.ntmps26
  go_wp2_with fail
  refine HC.out.mono ?_
  rintro e w1 ⟨rfl, b1⟩
  obtain ⟨_, hO, hR, n1, hb1⟩ := box3 b1
  have hO2 := hO.alloc (.cells #[.slice A bl.length c, .int .i64 S.most, .int .i64 S.faults] 28)
  have hR2 := hR.alloc (.cells #[.slice A bl.length c, .int .i64 S.most, .int .i64 S.faults] 28)
  have hN2 := Blk.new w1 28 #[.slice A bl.length c, .int .i64 S.most, .int .i64 S.faults]
  have hb2 := hb1.alloc (by omega) (.cells #[.slice A bl.length c, .int .i64 S.most, .int .i64 S.faults] 28)
  have hA2 := (HA.out.more (w1.heap.size + 1)).below hb2
  have hcall := HE.out _ _ hA2
  obtain ⟨o0, o1, o2, o3, o4⟩ := hO2.five
  have HB2 := Lib.hid hb2
  have HCALL := Lib.hid hcall; clear hcall
  have HR2 := Lib.hid hR2; clear hR2
  have HN2 := Lib.hid hN2; clear hN2
  have HN1 := Lib.hid n1; clear n1
  clear hO hR hO2 hb1 hb2 b1 hA2
  go_wp2_with fail
  refine HCALL.out.mono ?_
  rintro e w3 ⟨rfl, a3, k3⟩
  have n1 := HN1.out
  have hR3 := HR2.out.keep k3 (.inr ⟨by omega, by omega⟩)
  have hN3 := HN2.out.keep k3 (.inr ⟨by omega, by omega⟩)
  obtain ⟨c0, c1, c2, _⟩ := hN3.three
  obtain ⟨r0, r1, r2, g0, g1, g2⟩ := hR3.three
  have hF := ((hR3.set_ 0 (.slice A bl.length c)).set_ 1 (.int .i64 S.most)).set_ 2 (.int .i64 S.faults)
  obtain ⟨q0, q1, q2, _⟩ := hF.three
  have HA3 := Lib.hid a3; clear a3
  have HK3 := Lib.hid k3; clear k3
  clear hR3 hN3 hF n1
  go_wp2_with fail
  refine bodyPost_ret (by simp [results, Try.results26, go_sem, q0, q1, q2]; rfl) rfl ?_
  have n1 := HN1.out
  have hx : ¬ X (w.heap.size + 1 + 1) := fun hh => by have := HX.out _ hh; omega
  have hkF : Keep X w w3 := kept_ (fun k hk hh => by have := HX.out _ hh; omega) HB2.out HK3.out
  have hkG := keep_set (keep_set (keep_set hkF hx (o := 0) (u := .slice A bl.length c)) hx (o := 1) (u := .int .i64 S.most)) hx (o := 2) (u := .int .i64 S.faults)
  refine ⟨A, c, vals, bl, fun _ => False, rfl, ?_, (HR.out.keep (Z := Y) (hkG.less HY.out) (fun k hk => hk)).wide (fun k hk => .inl hk), HM.out, fun k hk => hk.elim, hkG⟩
  refine Arena.less (X := fun k => X k ∨ (w.heap.size ≤ k ∧ k < w1.heap.size + 1)) ?_ (fun k _ hk => by rcases hk with hk | hk; exact .inl hk; exact hk.elim)
  refine arena_set (arena_set (arena_set HA3.out ?_) ?_) ?_
  all_goals exact .inr ⟨by omega, by omega⟩

set_option maxHeartbeats 1000000 in
set_option maxRecDepth 100000 in
theorem cellM_swap_arg {w : World} {X Y : Nat → Prop} {pa : Nat} {S : AS} (h : Arena w X pa S) (hX : ∀ k, X k → k < w.heap.size) (hY : ∀ k, Y k → X k) {A : Option Addr} {vals : List Value} {bl : List (List Int)} (hr : RowsAt w Y A vals bl) (hm : Match S bl) (c : Nat) (hlen : bl.length ≤ 4398046511103) {b : Int} (hwb : (ik b).wf = true) (i v x : Int) {cs : List Int} (hl : look S.bl b = some cs) (hi : i < 0 ∨ (cs.length : Int) ≤ i) :
    Calls Try.prog 26 #[.pointer (some ⟨pa, 0, none⟩), .agg #[.slice A bl.length c, .int .i64 S.most, .int .i64 S.faults], .agg #[.int .i64 5, .int .i64 b, .int .i64 i, .int .i64 v, .int .i64 x]] w (Plays w X Y pa S) := by
  have hne : ¬ (0 ≤ i ∧ i < (cs.length : Int)) := by omega
  have e1 : S.err b i = 1 := by unfold AS.err; rw [hl]; simp only [if_neg hne]
  have e2 : S.swapAt b i v x = S := by unfold AS.swapAt; rw [hl]; simp only [if_neg (show ¬ (0 ≤ i ∧ i < (cs.length : Int) ∧ cs.getD i.toNat 0 = v) from fun hh => hne ⟨hh.1, hh.2.1⟩)]
  have e3 : S.swapOk b i v = false := by unfold AS.swapOk; rw [hl]; exact decide_eq_false (fun hh => hne ⟨hh.1, hh.2.1⟩)
  have hb3 := below3 (w := w) #[.slice A bl.length c, .int .i64 S.most, .int .i64 S.faults] #[.int .i64 5, .int .i64 b, .int .i64 i, .int .i64 v, .int .i64 x] #[.slice none 0 0, .int .i64 0, .int .i64 0]
  have hszs := h.ok.size hl
  have hrch0 : ∀ W, RowsAt W Y A vals bl → Calls Try.prog 25 #[.agg #[.slice A bl.length c, .int .i64 S.most, .int .i64 S.faults], .int .i64 b, .int .i64 i] W fun e w' => e = .returned (.tuple #[.agg #[.slice A bl.length c, .int .i64 S.most, .int .i64 S.faults], .int .i64 1]) ∧ Below W.heap.size W w' := by
    intro W hW
    obtain ⟨j, hj, hbj, hjc⟩ := hm.some_ h.ok hl
    have hr0 := reach_yes hW c S.most S.faults hj (by rw [hjc]; omega) (by rw [hjc]; omega) i (by omega)
    have hre : reachErr (bl.getD j []).length i = 1 := by unfold reachErr; rw [hjc]; exact if_neg hne
    rw [hre, ← hbj] at hr0
    exact hr0
  have hrch := hrch0 _ (hr.below hb3)
  clear hrch0
  have hE : ∀ (w1 : World) (n : Nat), Arena w1 (fun k => X k ∨ (w.heap.size ≤ k ∧ k < n)) pa S → Calls Try.prog 21 _ w1 _ := fun w1 n ha => by
    have hcall := swap_any ha hwb i v x
    rw [e1, e2, e3] at hcall
    exact hcall
  have HX := Lib.hid hX; clear hX
  have HY := Lib.hid hY; clear hY
  have HA := Lib.hid h; clear h
  have HR := Lib.hid hr; clear hr
  have HM := Lib.hid hm; clear hm
  have HE := Lib.hid hE; clear hE
  have HC := Lib.hid hrch; clear hrch
  clear hb3 hl hi hne hszs e1 e2 e3
  go_enter Try.func26, Try.ntmps26
  go_wp2_with fail
  refine HC.out.mono ?_
  rintro e w1 ⟨rfl, b1⟩
  obtain ⟨_, hO, hR, n1, hb1⟩ := box3 b1
  have hO2 := hO.alloc (.cells #[.slice A bl.length c, .int .i64 S.most, .int .i64 S.faults] 28)
  have hR2 := hR.alloc (.cells #[.slice A bl.length c, .int .i64 S.most, .int .i64 S.faults] 28)
  have hN2 := Blk.new w1 28 #[.slice A bl.length c, .int .i64 S.most, .int .i64 S.faults]
  have hb2 := hb1.alloc (by omega) (.cells #[.slice A bl.length c, .int .i64 S.most, .int .i64 S.faults] 28)
  have hA2 := (HA.out.more (w1.heap.size + 1)).below hb2
  have hcall := HE.out _ _ hA2
  obtain ⟨o0, o1, o2, o3, o4⟩ := hO2.five
  have HB2 := Lib.hid hb2
  have HCALL := Lib.hid hcall; clear hcall
  have HR2 := Lib.hid hR2; clear hR2
  have HN2 := Lib.hid hN2; clear hN2
  have HN1 := Lib.hid n1; clear n1
  clear hO hR hO2 hb1 hb2 b1 hA2
  go_wp2_with fail
  refine HCALL.out.mono ?_
  rintro e w3 ⟨rfl, a3, k3⟩
  have n1 := HN1.out
  have hR3 := HR2.out.keep k3 (.inr ⟨by omega, by omega⟩)
  have hN3 := HN2.out.keep k3 (.inr ⟨by omega, by omega⟩)
  obtain ⟨c0, c1, c2, _⟩ := hN3.three
  obtain ⟨r0, r1, r2, g0, g1, g2⟩ := hR3.three
  have hF := ((hR3.set_ 0 (.slice A bl.length c)).set_ 1 (.int .i64 S.most)).set_ 2 (.int .i64 S.faults)
  obtain ⟨q0, q1, q2, _⟩ := hF.three
  have HA3 := Lib.hid a3; clear a3
  have HK3 := Lib.hid k3; clear k3
  clear hR3 hN3 hF n1
  go_wp2_with fail
  refine bodyPost_ret (by simp [results, Try.results26, go_sem, q0, q1, q2]; rfl) rfl ?_
  have n1 := HN1.out
  have hx : ¬ X (w.heap.size + 1 + 1) := fun hh => by have := HX.out _ hh; omega
  have hkF : Keep X w w3 := kept_ (fun k hk hh => by have := HX.out _ hh; omega) HB2.out HK3.out
  have hkG := keep_set (keep_set (keep_set hkF hx (o := 0) (u := .slice A bl.length c)) hx (o := 1) (u := .int .i64 S.most)) hx (o := 2) (u := .int .i64 S.faults)
  refine ⟨A, c, vals, bl, fun _ => False, rfl, ?_, (HR.out.keep (Z := Y) (hkG.less HY.out) (fun k hk => hk)).wide (fun k hk => .inl hk), HM.out, fun k hk => hk.elim, hkG⟩
  refine Arena.less (X := fun k => X k ∨ (w.heap.size ≤ k ∧ k < w1.heap.size + 1)) ?_ (fun k _ hk => by rcases hk with hk | hk; exact .inl hk; exact hk.elim)
  refine arena_set (arena_set (arena_set HA3.out ?_) ?_) ?_
  all_goals exact .inr ⟨by omega, by omega⟩

set_option maxHeartbeats 1000000 in
set_option maxRecDepth 100000 in
theorem cellM_add_arg {w : World} {X Y : Nat → Prop} {pa : Nat} {S : AS} (h : Arena w X pa S) (hX : ∀ k, X k → k < w.heap.size) (hY : ∀ k, Y k → X k) {A : Option Addr} {vals : List Value} {bl : List (List Int)} (hr : RowsAt w Y A vals bl) (hm : Match S bl) (c : Nat) (hlen : bl.length ≤ 4398046511103) {b : Int} (hwb : (ik b).wf = true) (i v x : Int) {cs : List Int} (hl : look S.bl b = some cs) (hi : i < 0 ∨ (cs.length : Int) ≤ i) :
    Calls Try.prog 26 #[.pointer (some ⟨pa, 0, none⟩), .agg #[.slice A bl.length c, .int .i64 S.most, .int .i64 S.faults], .agg #[.int .i64 6, .int .i64 b, .int .i64 i, .int .i64 v, .int .i64 x]] w (Plays w X Y pa S) := by
  have hne : ¬ (0 ≤ i ∧ i < (cs.length : Int)) := by omega
  have e1 : S.err b i = 1 := by unfold AS.err; rw [hl]; simp only [if_neg hne]
  have e2 : S.addAt b i v = S := by unfold AS.addAt; rw [hl]; simp only [if_neg hne]
  have e3 : S.addVal b i v = 0 := by unfold AS.addVal; rw [hl]; simp only [if_neg hne]
  have hb3 := below3 (w := w) #[.slice A bl.length c, .int .i64 S.most, .int .i64 S.faults] #[.int .i64 6, .int .i64 b, .int .i64 i, .int .i64 v, .int .i64 x] #[.slice none 0 0, .int .i64 0, .int .i64 0]
  have hszs := h.ok.size hl
  have hrch0 : ∀ W, RowsAt W Y A vals bl → Calls Try.prog 25 #[.agg #[.slice A bl.length c, .int .i64 S.most, .int .i64 S.faults], .int .i64 b, .int .i64 i] W fun e w' => e = .returned (.tuple #[.agg #[.slice A bl.length c, .int .i64 S.most, .int .i64 S.faults], .int .i64 1]) ∧ Below W.heap.size W w' := by
    intro W hW
    obtain ⟨j, hj, hbj, hjc⟩ := hm.some_ h.ok hl
    have hr0 := reach_yes hW c S.most S.faults hj (by rw [hjc]; omega) (by rw [hjc]; omega) i (by omega)
    have hre : reachErr (bl.getD j []).length i = 1 := by unfold reachErr; rw [hjc]; exact if_neg hne
    rw [hre, ← hbj] at hr0
    exact hr0
  have hrch := hrch0 _ (hr.below hb3)
  clear hrch0
  have hE : ∀ (w1 : World) (n : Nat), Arena w1 (fun k => X k ∨ (w.heap.size ≤ k ∧ k < n)) pa S → Calls Try.prog 22 _ w1 _ := fun w1 n ha => by
    have hcall := add_any ha hwb i v
    rw [e1, e2, e3] at hcall
    exact hcall
  have HX := Lib.hid hX; clear hX
  have HY := Lib.hid hY; clear hY
  have HA := Lib.hid h; clear h
  have HR := Lib.hid hr; clear hr
  have HM := Lib.hid hm; clear hm
  have HE := Lib.hid hE; clear hE
  have HC := Lib.hid hrch; clear hrch
  clear hb3 hl hi hne hszs e1 e2 e3
  go_enter Try.func26, Try.ntmps26
  go_wp2_with fail
  refine HC.out.mono ?_
  rintro e w1 ⟨rfl, b1⟩
  obtain ⟨_, hO, hR, n1, hb1⟩ := box3 b1
  have hO2 := hO.alloc (.cells #[.slice A bl.length c, .int .i64 S.most, .int .i64 S.faults] 28)
  have hR2 := hR.alloc (.cells #[.slice A bl.length c, .int .i64 S.most, .int .i64 S.faults] 28)
  have hN2 := Blk.new w1 28 #[.slice A bl.length c, .int .i64 S.most, .int .i64 S.faults]
  have hb2 := hb1.alloc (by omega) (.cells #[.slice A bl.length c, .int .i64 S.most, .int .i64 S.faults] 28)
  have hA2 := (HA.out.more (w1.heap.size + 1)).below hb2
  have hcall := HE.out _ _ hA2
  obtain ⟨o0, o1, o2, o3, o4⟩ := hO2.five
  have HB2 := Lib.hid hb2
  have HCALL := Lib.hid hcall; clear hcall
  have HR2 := Lib.hid hR2; clear hR2
  have HN2 := Lib.hid hN2; clear hN2
  have HN1 := Lib.hid n1; clear n1
  clear hO hR hO2 hb1 hb2 b1 hA2
  go_wp2_with fail
  refine HCALL.out.mono ?_
  rintro e w3 ⟨rfl, a3, k3⟩
  have n1 := HN1.out
  have hR3 := HR2.out.keep k3 (.inr ⟨by omega, by omega⟩)
  have hN3 := HN2.out.keep k3 (.inr ⟨by omega, by omega⟩)
  obtain ⟨c0, c1, c2, _⟩ := hN3.three
  obtain ⟨r0, r1, r2, g0, g1, g2⟩ := hR3.three
  have hF := ((hR3.set_ 0 (.slice A bl.length c)).set_ 1 (.int .i64 S.most)).set_ 2 (.int .i64 S.faults)
  obtain ⟨q0, q1, q2, _⟩ := hF.three
  have HA3 := Lib.hid a3; clear a3
  have HK3 := Lib.hid k3; clear k3
  clear hR3 hN3 hF n1
  go_wp2_with fail
  refine bodyPost_ret (by simp [results, Try.results26, go_sem, q0, q1, q2]; rfl) rfl ?_
  have n1 := HN1.out
  have hx : ¬ X (w.heap.size + 1 + 1) := fun hh => by have := HX.out _ hh; omega
  have hkF : Keep X w w3 := kept_ (fun k hk hh => by have := HX.out _ hh; omega) HB2.out HK3.out
  have hkG := keep_set (keep_set (keep_set hkF hx (o := 0) (u := .slice A bl.length c)) hx (o := 1) (u := .int .i64 S.most)) hx (o := 2) (u := .int .i64 S.faults)
  refine ⟨A, c, vals, bl, fun _ => False, rfl, ?_, (HR.out.keep (Z := Y) (hkG.less HY.out) (fun k hk => hk)).wide (fun k hk => .inl hk), HM.out, fun k hk => hk.elim, hkG⟩
  refine Arena.less (X := fun k => X k ∨ (w.heap.size ≤ k ∧ k < w1.heap.size + 1)) ?_ (fun k _ hk => by rcases hk with hk | hk; exact .inl hk; exact hk.elim)
  refine arena_set (arena_set (arena_set HA3.out ?_) ?_) ?_
  all_goals exact .inr ⟨by omega, by omega⟩

end Go.Proofs.Ytbgbknbfleiakaa
