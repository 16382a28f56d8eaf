/-
  One call of a script against the document: Alloc, Free, Size, and what does nothing. Condition: fewer than 2^42 blocks were made.
-/
import Derived.Test.YtbgbknbfleiakaaPlay4
import Derived.Test.YtbgbknbfleiakaaNumbers
namespace Go.Proofs.Ytbgbknbfleiakaa
open Go.RowKit Go.Maps
set_option linter.unusedVariables false

set_option maxHeartbeats 1000000 in
set_option maxRecDepth 100000 in
theorem asksM_load {w : World} {X Y : Nat → Prop} {pa : Nat} {S : AS} (h : Arena w X pa S) (hX : ∀ q, X q → q < w.heap.size) (hY : ∀ q, Y q → X q) {A : Option Addr} {vals : List Value} {bl : List (List Int)} (hr : RowsAt w Y A vals bl) (hm : Match S bl) (c : Nat) (hlen : bl.length ≤ 4398046511102) {S' : AS} (b i v x : Int)
    (hcall : ∀ (W : World) (X' : Nat → Prop), Arena W X' pa S → (∀ q, X' q → q < W.heap.size) → (∀ q, Y q → X' q) → RowsAt W Y A vals bl → Calls Try.prog 26 #[.pointer (some ⟨pa, 0, none⟩), .agg #[.slice A bl.length c, .int .i64 S.most, .int .i64 S.faults], .agg #[.int .i64 3, .int .i64 b, .int .i64 i, .int .i64 v, .int .i64 x]] W (Plays W X' Y pa S')) :
    Calls Try.prog 11 #[.pointer (some ⟨pa, 0, none⟩), .agg #[.slice A bl.length c, .int .i64 S.most, .int .i64 S.faults], .agg #[.int .i64 3, .int .i64 b, .int .i64 i, .int .i64 v, .int .i64 x]] w (Plays w X Y pa S') := by
  have hb3 := below3 (w := w) #[.slice A bl.length c, .int .i64 S.most, .int .i64 S.faults] #[.int .i64 3, .int .i64 b, .int .i64 i, .int .i64 v, .int .i64 x] #[.slice none 0 0, .int .i64 0, .int .i64 0]
  have hc := hcall _ (fun q => X q ∨ (w.heap.size ≤ q ∧ q < w.heap.size + 3)) ((h.more (w.heap.size + 3)).below hb3) (fun q hq => by simp only [World.size_alloc]; rcases hq with hq | hq; have := hX q hq; omega; omega) (fun q hq => .inl (hY q hq)) (hr.below hb3)
  have HC := Lib.hid hc; clear hc hcall
  clear h hm hlen hr
  have HX := Lib.hid hX; clear hX
  have HY := Lib.hid hY; clear hY
  have HB3 := Lib.hid hb3; clear hb3
  go_enter Try.func11, Try.ntmps11
  go_wp2_with fail
  refine HC.out.mono ?_
  rintro e w1 ⟨A1, c1, vals1, bl1, N, rfl, a1, hr1, hm1, hN, k1⟩
  obtain ⟨hM, hO, hR, n1⟩ := boxes3 k1
  obtain ⟨r0, r1, r2, g0, g1, g2⟩ := hR.three
  have hF := ((hR.set_ 0 (.slice A1 bl1.length c1)).set_ 1 (.int .i64 S'.most)).set_ 2 (.int .i64 S'.faults)
  obtain ⟨q0, q1, q2, _⟩ := hF.three
  have HA1 := Lib.hid a1; clear a1
  have HK1 := Lib.hid k1; clear k1
  have HN1 := Lib.hid n1; clear n1
  have HR1 := Lib.hid hr1; clear hr1
  have HM1 := Lib.hid hm1; clear hm1
  have HN := Lib.hid hN; clear hN
  clear hM hO hF hR
  go_wp2_with fail
  refine bodyPost_ret (by simp [results, Try.results11, go_sem, q0, q1, q2]; rfl) rfl ?_
  have n1 := HN1.out
  have hx0 : ¬ X (w.heap.size + 1 + 1) := fun hh => by have := HX.out _ hh; omega
  have hxN : ¬ N (w.heap.size + 1 + 1) := fun hh => by have := (HN.out _ hh).1; simp at this; omega
  have hx : ¬ (Y (w.heap.size + 1 + 1) ∨ N (w.heap.size + 1 + 1)) := fun hh => by rcases hh with hh | hh; exact hx0 (HY.out _ hh); exact hxN hh
  have hkF : Keep X w w1 := kept_ (fun q hq hh => by have := HX.out _ hh; omega) HB3.out HK1.out
  have hkG := keep_set (keep_set (keep_set hkF hx0 (o := 0) (u := .slice A1 bl1.length c1)) hx0 (o := 1) (u := .int .i64 S'.most)) hx0 (o := 2) (u := .int .i64 S'.faults)
  have hkH := keep_set (keep_set (keep_set (Keep.refl (fun q => Y q ∨ N q) w1) hx (o := 0) (u := .slice A1 bl1.length c1)) hx (o := 1) (u := .int .i64 S'.most)) hx (o := 2) (u := .int .i64 S'.faults)
  refine ⟨A1, c1, vals1, bl1, N, rfl, ?_, HR1.out.keep hkH (fun q hq => hq), HM1.out, fun q hq => ⟨by have := (HN.out q hq).1; simp at this; omega, by have := (HN.out q hq).2; have := hkH.size; omega⟩, hkG⟩
  refine Arena.less (X := fun q => (X q ∨ (w.heap.size ≤ q ∧ q < w.heap.size + 3)) ∨ N q) ?_ (fun q _ hq => by rcases hq with hq | hq; exact .inl (.inl hq); exact .inr hq)
  refine arena_set (arena_set (arena_set HA1.out ?_) ?_) ?_
  all_goals exact .inl (.inr ⟨by omega, by omega⟩)

set_option maxHeartbeats 1000000 in
set_option maxRecDepth 100000 in
theorem asksM_store {w : World} {X Y : Nat → Prop} {pa : Nat} {S : AS} (h : Arena w X pa S) (hX : ∀ q, X q → q < w.heap.size) (hY : ∀ q, Y q → X q) {A : Option Addr} {vals : List Value} {bl : List (List Int)} (hr : RowsAt w Y A vals bl) (hm : Match S bl) (c : Nat) (hlen : bl.length ≤ 4398046511102) {S' : AS} (b i v x : Int)
    (hcall : ∀ (W : World) (X' : Nat → Prop), Arena W X' pa S → (∀ q, X' q → q < W.heap.size) → (∀ q, Y q → X' q) → RowsAt W Y A vals bl → Calls Try.prog 26 #[.pointer (some ⟨pa, 0, none⟩), .agg #[.slice A bl.length c, .int .i64 S.most, .int .i64 S.faults], .agg #[.int .i64 4, .int .i64 b, .int .i64 i, .int .i64 v, .int .i64 x]] W (Plays W X' Y pa S')) :
    Calls Try.prog 11 #[.pointer (some ⟨pa, 0, none⟩), .agg #[.slice A bl.length c, .int .i64 S.most, .int .i64 S.faults], .agg #[.int .i64 4, .int .i64 b, .int .i64 i, .int .i64 v, .int .i64 x]] w (Plays w X Y pa S') := by
  have hb3 := below3 (w := w) #[.slice A bl.length c, .int .i64 S.most, .int .i64 S.faults] #[.int .i64 4, .int .i64 b, .int .i64 i, .int .i64 v, .int .i64 x] #[.slice none 0 0, .int .i64 0, .int .i64 0]
  have hc := hcall _ (fun q => X q ∨ (w.heap.size ≤ q ∧ q < w.heap.size + 3)) ((h.more (w.heap.size + 3)).below hb3) (fun q hq => by simp only [World.size_alloc]; rcases hq with hq | hq; have := hX q hq; omega; omega) (fun q hq => .inl (hY q hq)) (hr.below hb3)
  have HC := Lib.hid hc; clear hc hcall
  clear h hm hlen hr
  have HX := Lib.hid hX; clear hX
  have HY := Lib.hid hY; clear hY
  have HB3 := Lib.hid hb3; clear hb3
  go_enter Try.func11, Try.ntmps11
  go_wp2_with fail
  refine HC.out.mono ?_
  rintro e w1 ⟨A1, c1, vals1, bl1, N, rfl, a1, hr1, hm1, hN, k1⟩
  obtain ⟨hM, hO, hR, n1⟩ := boxes3 k1
  obtain ⟨r0, r1, r2, g0, g1, g2⟩ := hR.three
  have hF := ((hR.set_ 0 (.slice A1 bl1.length c1)).set_ 1 (.int .i64 S'.most)).set_ 2 (.int .i64 S'.faults)
  obtain ⟨q0, q1, q2, _⟩ := hF.three
  have HA1 := Lib.hid a1; clear a1
  have HK1 := Lib.hid k1; clear k1
  have HN1 := Lib.hid n1; clear n1
  have HR1 := Lib.hid hr1; clear hr1
  have HM1 := Lib.hid hm1; clear hm1
  have HN := Lib.hid hN; clear hN
  clear hM hO hF hR
  go_wp2_with fail
  refine bodyPost_ret (by simp [results, Try.results11, go_sem, q0, q1, q2]; rfl) rfl ?_
  have n1 := HN1.out
  have hx0 : ¬ X (w.heap.size + 1 + 1) := fun hh => by have := HX.out _ hh; omega
  have hxN : ¬ N (w.heap.size + 1 + 1) := fun hh => by have := (HN.out _ hh).1; simp at this; omega
  have hx : ¬ (Y (w.heap.size + 1 + 1) ∨ N (w.heap.size + 1 + 1)) := fun hh => by rcases hh with hh | hh; exact hx0 (HY.out _ hh); exact hxN hh
  have hkF : Keep X w w1 := kept_ (fun q hq hh => by have := HX.out _ hh; omega) HB3.out HK1.out
  have hkG := keep_set (keep_set (keep_set hkF hx0 (o := 0) (u := .slice A1 bl1.length c1)) hx0 (o := 1) (u := .int .i64 S'.most)) hx0 (o := 2) (u := .int .i64 S'.faults)
  have hkH := keep_set (keep_set (keep_set (Keep.refl (fun q => Y q ∨ N q) w1) hx (o := 0) (u := .slice A1 bl1.length c1)) hx (o := 1) (u := .int .i64 S'.most)) hx (o := 2) (u := .int .i64 S'.faults)
  refine ⟨A1, c1, vals1, bl1, N, rfl, ?_, HR1.out.keep hkH (fun q hq => hq), HM1.out, fun q hq => ⟨by have := (HN.out q hq).1; simp at this; omega, by have := (HN.out q hq).2; have := hkH.size; omega⟩, hkG⟩
  refine Arena.less (X := fun q => (X q ∨ (w.heap.size ≤ q ∧ q < w.heap.size + 3)) ∨ N q) ?_ (fun q _ hq => by rcases hq with hq | hq; exact .inl (.inl hq); exact .inr hq)
  refine arena_set (arena_set (arena_set HA1.out ?_) ?_) ?_
  all_goals exact .inl (.inr ⟨by omega, by omega⟩)

set_option maxHeartbeats 1000000 in
set_option maxRecDepth 100000 in
theorem asksM_swap {w : World} {X Y : Nat → Prop} {pa : Nat} {S : AS} (h : Arena w X pa S) (hX : ∀ q, X q → q < w.heap.size) (hY : ∀ q, Y q → X q) {A : Option Addr} {vals : List Value} {bl : List (List Int)} (hr : RowsAt w Y A vals bl) (hm : Match S bl) (c : Nat) (hlen : bl.length ≤ 4398046511102) {S' : AS} (b i v x : Int)
    (hcall : ∀ (W : World) (X' : Nat → Prop), Arena W X' pa S → (∀ q, X' q → q < W.heap.size) → (∀ q, Y q → X' q) → RowsAt W Y A vals bl → Calls Try.prog 26 #[.pointer (some ⟨pa, 0, none⟩), .agg #[.slice A bl.length c, .int .i64 S.most, .int .i64 S.faults], .agg #[.int .i64 5, .int .i64 b, .int .i64 i, .int .i64 v, .int .i64 x]] W (Plays W X' Y pa S')) :
    Calls Try.prog 11 #[.pointer (some ⟨pa, 0, none⟩), .agg #[.slice A bl.length c, .int .i64 S.most, .int .i64 S.faults], .agg #[.int .i64 5, .int .i64 b, .int .i64 i, .int .i64 v, .int .i64 x]] w (Plays w X Y pa S') := by
  have hb3 := below3 (w := w) #[.slice A bl.length c, .int .i64 S.most, .int .i64 S.faults] #[.int .i64 5, .int .i64 b, .int .i64 i, .int .i64 v, .int .i64 x] #[.slice none 0 0, .int .i64 0, .int .i64 0]
  have hc := hcall _ (fun q => X q ∨ (w.heap.size ≤ q ∧ q < w.heap.size + 3)) ((h.more (w.heap.size + 3)).below hb3) (fun q hq => by simp only [World.size_alloc]; rcases hq with hq | hq; have := hX q hq; omega; omega) (fun q hq => .inl (hY q hq)) (hr.below hb3)
  have HC := Lib.hid hc; clear hc hcall
  clear h hm hlen hr
  have HX := Lib.hid hX; clear hX
  have HY := Lib.hid hY; clear hY
  have HB3 := Lib.hid hb3; clear hb3
  go_enter Try.func11, Try.ntmps11
  go_wp2_with fail
  refine HC.out.mono ?_
  rintro e w1 ⟨A1, c1, vals1, bl1, N, rfl, a1, hr1, hm1, hN, k1⟩
  obtain ⟨hM, hO, hR, n1⟩ := boxes3 k1
  obtain ⟨r0, r1, r2, g0, g1, g2⟩ := hR.three
  have hF := ((hR.set_ 0 (.slice A1 bl1.length c1)).set_ 1 (.int .i64 S'.most)).set_ 2 (.int .i64 S'.faults)
  obtain ⟨q0, q1, q2, _⟩ := hF.three
  have HA1 := Lib.hid a1; clear a1
  have HK1 := Lib.hid k1; clear k1
  have HN1 := Lib.hid n1; clear n1
  have HR1 := Lib.hid hr1; clear hr1
  have HM1 := Lib.hid hm1; clear hm1
  have HN := Lib.hid hN; clear hN
  clear hM hO hF hR
  go_wp2_with fail
  refine bodyPost_ret (by simp [results, Try.results11, go_sem, q0, q1, q2]; rfl) rfl ?_
  have n1 := HN1.out
  have hx0 : ¬ X (w.heap.size + 1 + 1) := fun hh => by have := HX.out _ hh; omega
  have hxN : ¬ N (w.heap.size + 1 + 1) := fun hh => by have := (HN.out _ hh).1; simp at this; omega
  have hx : ¬ (Y (w.heap.size + 1 + 1) ∨ N (w.heap.size + 1 + 1)) := fun hh => by rcases hh with hh | hh; exact hx0 (HY.out _ hh); exact hxN hh
  have hkF : Keep X w w1 := kept_ (fun q hq hh => by have := HX.out _ hh; omega) HB3.out HK1.out
  have hkG := keep_set (keep_set (keep_set hkF hx0 (o := 0) (u := .slice A1 bl1.length c1)) hx0 (o := 1) (u := .int .i64 S'.most)) hx0 (o := 2) (u := .int .i64 S'.faults)
  have hkH := keep_set (keep_set (keep_set (Keep.refl (fun q => Y q ∨ N q) w1) hx (o := 0) (u := .slice A1 bl1.length c1)) hx (o := 1) (u := .int .i64 S'.most)) hx (o := 2) (u := .int .i64 S'.faults)
  refine ⟨A1, c1, vals1, bl1, N, rfl, ?_, HR1.out.keep hkH (fun q hq => hq), HM1.out, fun q hq => ⟨by have := (HN.out q hq).1; simp at this; omega, by have := (HN.out q hq).2; have := hkH.size; omega⟩, hkG⟩
  refine Arena.less (X := fun q => (X q ∨ (w.heap.size ≤ q ∧ q < w.heap.size + 3)) ∨ N q) ?_ (fun q _ hq => by rcases hq with hq | hq; exact .inl (.inl hq); exact .inr hq)
  refine arena_set (arena_set (arena_set HA1.out ?_) ?_) ?_
  all_goals exact .inl (.inr ⟨by omega, by omega⟩)

set_option maxHeartbeats 1000000 in
set_option maxRecDepth 100000 in
theorem asksM_add {w : World} {X Y : Nat → Prop} {pa : Nat} {S : AS} (h : Arena w X pa S) (hX : ∀ q, X q → q < w.heap.size) (hY : ∀ q, Y q → X q) {A : Option Addr} {vals : List Value} {bl : List (List Int)} (hr : RowsAt w Y A vals bl) (hm : Match S bl) (c : Nat) (hlen : bl.length ≤ 4398046511102) {S' : AS} (b i v x : Int)
    (hcall : ∀ (W : World) (X' : Nat → Prop), Arena W X' pa S → (∀ q, X' q → q < W.heap.size) → (∀ q, Y q → X' q) → RowsAt W Y A vals bl → Calls Try.prog 26 #[.pointer (some ⟨pa, 0, none⟩), .agg #[.slice A bl.length c, .int .i64 S.most, .int .i64 S.faults], .agg #[.int .i64 6, .int .i64 b, .int .i64 i, .int .i64 v, .int .i64 x]] W (Plays W X' Y pa S')) :
    Calls Try.prog 11 #[.pointer (some ⟨pa, 0, none⟩), .agg #[.slice A bl.length c, .int .i64 S.most, .int .i64 S.faults], .agg #[.int .i64 6, .int .i64 b, .int .i64 i, .int .i64 v, .int .i64 x]] w (Plays w X Y pa S') := by
  have hb3 := below3 (w := w) #[.slice A bl.length c, .int .i64 S.most, .int .i64 S.faults] #[.int .i64 6, .int .i64 b, .int .i64 i, .int .i64 v, .int .i64 x] #[.slice none 0 0, .int .i64 0, .int .i64 0]
  have hc := hcall _ (fun q => X q ∨ (w.heap.size ≤ q ∧ q < w.heap.size + 3)) ((h.more (w.heap.size + 3)).below hb3) (fun q hq => by simp only [World.size_alloc]; rcases hq with hq | hq; have := hX q hq; omega; omega) (fun q hq => .inl (hY q hq)) (hr.below hb3)
  have HC := Lib.hid hc; clear hc hcall
  clear h hm hlen hr
  have HX := Lib.hid hX; clear hX
  have HY := Lib.hid hY; clear hY
  have HB3 := Lib.hid hb3; clear hb3
  go_enter Try.func11, Try.ntmps11
  go_wp2_with fail
  refine HC.out.mono ?_
  rintro e w1 ⟨A1, c1, vals1, bl1, N, rfl, a1, hr1, hm1, hN, k1⟩
  obtain ⟨hM, hO, hR, n1⟩ := boxes3 k1
  obtain ⟨r0, r1, r2, g0, g1, g2⟩ := hR.three
  have hF := ((hR.set_ 0 (.slice A1 bl1.length c1)).set_ 1 (.int .i64 S'.most)).set_ 2 (.int .i64 S'.faults)
  obtain ⟨q0, q1, q2, _⟩ := hF.three
  have HA1 := Lib.hid a1; clear a1
  have HK1 := Lib.hid k1; clear k1
  have HN1 := Lib.hid n1; clear n1
  have HR1 := Lib.hid hr1; clear hr1
  have HM1 := Lib.hid hm1; clear hm1
  have HN := Lib.hid hN; clear hN
  clear hM hO hF hR
  go_wp2_with fail
  refine bodyPost_ret (by simp [results, Try.results11, go_sem, q0, q1, q2]; rfl) rfl ?_
  have n1 := HN1.out
  have hx0 : ¬ X (w.heap.size + 1 + 1) := fun hh => by have := HX.out _ hh; omega
  have hxN : ¬ N (w.heap.size + 1 + 1) := fun hh => by have := (HN.out _ hh).1; simp at this; omega
  have hx : ¬ (Y (w.heap.size + 1 + 1) ∨ N (w.heap.size + 1 + 1)) := fun hh => by rcases hh with hh | hh; exact hx0 (HY.out _ hh); exact hxN hh
  have hkF : Keep X w w1 := kept_ (fun q hq hh => by have := HX.out _ hh; omega) HB3.out HK1.out
  have hkG := keep_set (keep_set (keep_set hkF hx0 (o := 0) (u := .slice A1 bl1.length c1)) hx0 (o := 1) (u := .int .i64 S'.most)) hx0 (o := 2) (u := .int .i64 S'.faults)
  have hkH := keep_set (keep_set (keep_set (Keep.refl (fun q => Y q ∨ N q) w1) hx (o := 0) (u := .slice A1 bl1.length c1)) hx (o := 1) (u := .int .i64 S'.most)) hx (o := 2) (u := .int .i64 S'.faults)
  refine ⟨A1, c1, vals1, bl1, N, rfl, ?_, HR1.out.keep hkH (fun q hq => hq), HM1.out, fun q hq => ⟨by have := (HN.out q hq).1; simp at this; omega, by have := (HN.out q hq).2; have := hkH.size; omega⟩, hkG⟩
  refine Arena.less (X := fun q => (X q ∨ (w.heap.size ≤ q ∧ q < w.heap.size + 3)) ∨ N q) ?_ (fun q _ hq => by rcases hq with hq | hq; exact .inl (.inl hq); exact .inr hq)
  refine arena_set (arena_set (arena_set HA1.out ?_) ?_) ?_
  all_goals exact .inl (.inr ⟨by omega, by omega⟩)

set_option maxHeartbeats 2000000 in
set_option maxRecDepth 100000 in
theorem asksM_alloc_bad {w : World} {X Y : Nat → Prop} {pa : Nat} {S : AS} (h : Arena w X pa S) (hX : ∀ q, X q → q < w.heap.size) (hY : ∀ q, Y q → X q) {A : Option Addr} {vals : List Value} {bl : List (List Int)} (hr : RowsAt w Y A vals bl) (hm : Match S bl) (c : Nat) (hlen : bl.length ≤ 4398046511102) (b i v x : Int) (hi : i < 1 ∨ 256 < i) :
    Calls Try.prog 11 #[.pointer (some ⟨pa, 0, none⟩), .agg #[.slice A bl.length c, .int .i64 S.most, .int .i64 S.faults], .agg #[.int .i64 1, .int .i64 b, .int .i64 i, .int .i64 v, .int .i64 x]] w (Plays w X Y pa (S)) := by
  have hb3 := below3 (w := w) #[.slice A bl.length c, .int .i64 S.most, .int .i64 S.faults] #[.int .i64 1, .int .i64 b, .int .i64 i, .int .i64 v, .int .i64 x] #[.slice none 0 0, .int .i64 0, .int .i64 0]
  have hX3 : ∀ q, w.heap.size + 3 ≤ q → ¬ (X q ∨ (w.heap.size ≤ q ∧ q < w.heap.size + 3)) := fun q hq hh => by rcases hh with hh | hh; have := hX q hh; omega; omega
  have hA3 := (h.more (w.heap.size + 3)).below hb3
  have hc := (alloc_bad (w := ((w.alloc (.cells #[.slice A bl.length c, .int .i64 S.most, .int .i64 S.faults] 28)).alloc (.cells #[.int .i64 1, .int .i64 b, .int .i64 i, .int .i64 v, .int .i64 x] 31)).alloc (.cells #[.slice none 0 0, .int .i64 0, .int .i64 0] 28)) (pa := pa) i hi).mono (R' := fun e w' => e = .returned (.tuple #[.int .i64 0, .int .i64 1]) ∧ Arena w' (fun q => X q ∨ (w.heap.size ≤ q ∧ q < w.heap.size + 3)) pa S ∧ Keep (fun q => X q ∨ (w.heap.size ≤ q ∧ q < w.heap.size + 3)) _ w') (fun e w' hh => by obtain ⟨h1, rfl⟩ := hh; exact ⟨h1, hA3, Keep.refl _ _⟩)
  have HI := Lib.hid hi; clear hi
  have HC := Lib.hid hc; clear hc
  clear h hA3 hX3
  have HX := Lib.hid hX; clear hX
  have HY := Lib.hid hY; clear hY
  have HR := Lib.hid hr; clear hr
  have HM := Lib.hid hm; clear hm
  have HB3 := Lib.hid hb3; clear hb3
  go_enter Try.func11, Try.ntmps11
  go_wp2_with fail
  refine HC.out.mono ?_
  rintro e w1 ⟨rfl, a1, k1⟩
  obtain ⟨hM, hO, hR, n1⟩ := boxes3 k1
  obtain ⟨m0, m1, m2, _⟩ := hM.three
  obtain ⟨o0, o1, o2, o3, o4⟩ := hO.five
  have hrw := (HR.out.below HB3.out).keep (Z := Y) (k1.less (fun q hq => .inl (HY.out q hq))) (fun q hq => hq)
  have href := refAlloc_bad A bl.length c S.most S.faults i w1 HI.out
  have HREF := Lib.hid href; clear href
  have HA1 := Lib.hid a1; clear a1
  have HK1 := Lib.hid k1; clear k1
  have HR1 := Lib.hid hR; clear hR
  have HM1 := Lib.hid hM; clear hM
  have HO1 := Lib.hid hO; clear hO
  have HRW := Lib.hid hrw; clear hrw
  have HN1 := Lib.hid n1; clear n1
  go_wp2_with fail
  refine HREF.out.mono ?_
  rintro e w2 ⟨rfl, b2⟩
  obtain ⟨A2, c2, vals2, rfl, rfl, rfl⟩ : ∃ A2 c2 vals2, A2 = A ∧ c2 = c ∧ vals2 = vals := ⟨_, _, _, rfl, rfl, rfl⟩
  have hrows2 := HRW.out.below b2
  have n1 := HN1.out
  have n2 := b2.size
  have hR2 := (HR1.out.below b2 (by omega)).alloc (.cells #[.slice A2 bl.length c2, .int .i64 S.most, .int .i64 S.faults] 28)
  obtain ⟨r0, r1, r2, g0, g1, g2⟩ := hR2.three
  have hF := ((hR2.set_ 0 (.slice A2 bl.length c2)).set_ 1 (.int .i64 S.most)).set_ 2 (.int .i64 S.faults)
  obtain ⟨q0, q1, q2, _⟩ := hF.three
  have HB2 := Lib.hid b2; clear b2
  have HN2 := Lib.hid n2; clear n2
  have HROWS := Lib.hid hrows2; clear hrows2
  clear hR2 hF n1
  go_wp2_with fail
  refine bodyPost_ret (by simp [results, Try.results11, go_sem, q0, q1, q2]; rfl) rfl ?_
  have n1 := HN1.out
  have n2 := HN2.out
  have hx0 : ¬ X (w.heap.size + 1 + 1) := fun hh => by have := HX.out _ hh; omega
  have hx : ¬ (Y (w.heap.size + 1 + 1) ∨ (fun _ => False) (w.heap.size + 1 + 1)) := fun hh => by
    rcases hh with hh | hh
    · exact hx0 (HY.out _ hh)
    · first | exact hh.elim | (have h2 : w1.heap.size ≤ w.heap.size + 1 + 1 := hh.1; omega)
  have hkF : Keep X w w1 := kept_ (fun q hq hh => by have := HX.out _ hh; omega) HB3.out HK1.out
  have hkA : Keep X w (w2.alloc (.cells #[.slice A2 bl.length c2, .int .i64 S.most, .int .i64 S.faults] 28)) := (hkF.trans (keepOf HB2.out X)).alloc _
  have hkG := keep_set (keep_set (keep_set hkA hx0 (o := 0) (u := .slice A2 bl.length c2)) hx0 (o := 1) (u := .int .i64 S.most)) hx0 (o := 2) (u := .int .i64 S.faults)
  have hkH := keep_set (keep_set (keep_set ((Keep.refl (fun q => Y q ∨ (fun _ => False) q) w2).alloc (.cells #[.slice A2 bl.length c2, .int .i64 S.most, .int .i64 S.faults] 28)) hx (o := 0) (u := .slice A2 bl.length c2)) hx (o := 1) (u := .int .i64 S.most)) hx (o := 2) (u := .int .i64 S.faults)
  refine ⟨A2, c2, vals2, bl, fun _ => False, rfl, ?_, (HROWS.out.keep (Z := fun q => Y q ∨ (fun _ => False) q) hkH (fun q hq => .inl hq)), HM.out, fun q hq => hq.elim, hkG⟩
  refine Arena.less (X := fun q => (X q ∨ (w.heap.size ≤ q ∧ q < w.heap.size + 3)) ∨ (w1.heap.size ≤ q ∧ q < w2.heap.size)) ?_ (fun q _ hq => by rcases hq with hq | hq; exact .inl (.inl hq); exact hq.elim)
  refine arena_set (arena_set (arena_set (((HA1.out.more w2.heap.size).below HB2.out).alloc _) ?_) ?_) ?_
  all_goals exact .inl (.inr ⟨by omega, by omega⟩)

set_option maxHeartbeats 2000000 in
set_option maxRecDepth 100000 in
theorem asksM_alloc_full {w : World} {X Y : Nat → Prop} {pa : Nat} {S : AS} (h : Arena w X pa S) (hX : ∀ q, X q → q < w.heap.size) (hY : ∀ q, Y q → X q) {A : Option Addr} {vals : List Value} {bl : List (List Int)} (hr : RowsAt w Y A vals bl) (hm : Match S bl) (c : Nat) (hlen : bl.length ≤ 4398046511102) (b i v x : Int) (h1 : 1 ≤ i) (h2 : i ≤ 256) (h3 : S.most < S.used + i) :
    Calls Try.prog 11 #[.pointer (some ⟨pa, 0, none⟩), .agg #[.slice A bl.length c, .int .i64 S.most, .int .i64 S.faults], .agg #[.int .i64 1, .int .i64 b, .int .i64 i, .int .i64 v, .int .i64 x]] w (Plays w X Y pa (S)) := by
  have hb3 := below3 (w := w) #[.slice A bl.length c, .int .i64 S.most, .int .i64 S.faults] #[.int .i64 1, .int .i64 b, .int .i64 i, .int .i64 v, .int .i64 x] #[.slice none 0 0, .int .i64 0, .int .i64 0]
  have hX3 : ∀ q, w.heap.size + 3 ≤ q → ¬ (X q ∨ (w.heap.size ≤ q ∧ q < w.heap.size + 3)) := fun q hq hh => by rcases hh with hh | hh; have := hX q hh; omega; omega
  have hA3 := (h.more (w.heap.size + 3)).below hb3
  have hc := (alloc_full hA3 h1 h2 h3).mono (R' := fun e w' => e = .returned (.tuple #[.int .i64 0, .int .i64 21]) ∧ Arena w' (fun q => X q ∨ (w.heap.size ≤ q ∧ q < w.heap.size + 3)) pa S ∧ Keep (fun q => X q ∨ (w.heap.size ≤ q ∧ q < w.heap.size + 3)) _ w') (fun e w' hh => by obtain ⟨h1, k, rfl⟩ := hh; exact ⟨h1, hA3.below ⟨rfl, rfl, rfl, Nat.le_refl _, fun _ _ => rfl⟩, ⟨rfl, rfl, rfl, Nat.le_refl _, fun _ _ _ => rfl⟩⟩)
  have ht : tot bl ≤ 65536 := by have := hm.tot; have := h.ok.sum; have := h.ok.used1; have := h.ok.most1; omega
  have h3' : S.most < (tot bl : Int) + i := by have := hm.tot; have := h.ok.sum; omega
  have HT := Lib.hid ht; clear ht
  have HI3 := Lib.hid h3'; clear h3' h3
  have HI1 := Lib.hid h1; clear h1
  have HI2 := Lib.hid h2; clear h2
  have HC := Lib.hid hc; clear hc
  clear h hA3 hX3
  have HX := Lib.hid hX; clear hX
  have HY := Lib.hid hY; clear hY
  have HR := Lib.hid hr; clear hr
  have HM := Lib.hid hm; clear hm
  have HB3 := Lib.hid hb3; clear hb3
  go_enter Try.func11, Try.ntmps11
  go_wp2_with fail
  refine HC.out.mono ?_
  rintro e w1 ⟨rfl, a1, k1⟩
  obtain ⟨hM, hO, hR, n1⟩ := boxes3 k1
  obtain ⟨m0, m1, m2, _⟩ := hM.three
  obtain ⟨o0, o1, o2, o3, o4⟩ := hO.five
  have hrw := (HR.out.below HB3.out).keep (Z := Y) (k1.less (fun q hq => .inl (HY.out q hq))) (fun q hq => hq)
  have href := refAlloc_full hrw c S.most S.faults (by omega) HT.out HI1.out HI2.out HI3.out
  have HREF := Lib.hid href; clear href
  have HA1 := Lib.hid a1; clear a1
  have HK1 := Lib.hid k1; clear k1
  have HR1 := Lib.hid hR; clear hR
  have HM1 := Lib.hid hM; clear hM
  have HO1 := Lib.hid hO; clear hO
  have HRW := Lib.hid hrw; clear hrw
  have HN1 := Lib.hid n1; clear n1
  go_wp2_with fail
  refine HREF.out.mono ?_
  rintro e w2 ⟨rfl, b2⟩
  obtain ⟨A2, c2, vals2, rfl, rfl, rfl⟩ : ∃ A2 c2 vals2, A2 = A ∧ c2 = c ∧ vals2 = vals := ⟨_, _, _, rfl, rfl, rfl⟩
  have hrows2 := HRW.out.below b2
  have n1 := HN1.out
  have n2 := b2.size
  have hR2 := (HR1.out.below b2 (by omega)).alloc (.cells #[.slice A2 bl.length c2, .int .i64 S.most, .int .i64 S.faults] 28)
  obtain ⟨r0, r1, r2, g0, g1, g2⟩ := hR2.three
  have hF := ((hR2.set_ 0 (.slice A2 bl.length c2)).set_ 1 (.int .i64 S.most)).set_ 2 (.int .i64 S.faults)
  obtain ⟨q0, q1, q2, _⟩ := hF.three
  have HB2 := Lib.hid b2; clear b2
  have HN2 := Lib.hid n2; clear n2
  have HROWS := Lib.hid hrows2; clear hrows2
  clear hR2 hF n1
  go_wp2_with fail
  refine bodyPost_ret (by simp [results, Try.results11, go_sem, q0, q1, q2]; rfl) rfl ?_
  have n1 := HN1.out
  have n2 := HN2.out
  have hx0 : ¬ X (w.heap.size + 1 + 1) := fun hh => by have := HX.out _ hh; omega
  have hx : ¬ (Y (w.heap.size + 1 + 1) ∨ (fun _ => False) (w.heap.size + 1 + 1)) := fun hh => by
    rcases hh with hh | hh
    · exact hx0 (HY.out _ hh)
    · first | exact hh.elim | (have h2 : w1.heap.size ≤ w.heap.size + 1 + 1 := hh.1; omega)
  have hkF : Keep X w w1 := kept_ (fun q hq hh => by have := HX.out _ hh; omega) HB3.out HK1.out
  have hkA : Keep X w (w2.alloc (.cells #[.slice A2 bl.length c2, .int .i64 S.most, .int .i64 S.faults] 28)) := (hkF.trans (keepOf HB2.out X)).alloc _
  have hkG := keep_set (keep_set (keep_set hkA hx0 (o := 0) (u := .slice A2 bl.length c2)) hx0 (o := 1) (u := .int .i64 S.most)) hx0 (o := 2) (u := .int .i64 S.faults)
  have hkH := keep_set (keep_set (keep_set ((Keep.refl (fun q => Y q ∨ (fun _ => False) q) w2).alloc (.cells #[.slice A2 bl.length c2, .int .i64 S.most, .int .i64 S.faults] 28)) hx (o := 0) (u := .slice A2 bl.length c2)) hx (o := 1) (u := .int .i64 S.most)) hx (o := 2) (u := .int .i64 S.faults)
  refine ⟨A2, c2, vals2, bl, fun _ => False, rfl, ?_, (HROWS.out.keep (Z := fun q => Y q ∨ (fun _ => False) q) hkH (fun q hq => .inl hq)), HM.out, fun q hq => hq.elim, hkG⟩
  refine Arena.less (X := fun q => (X q ∨ (w.heap.size ≤ q ∧ q < w.heap.size + 3)) ∨ (w1.heap.size ≤ q ∧ q < w2.heap.size)) ?_ (fun q _ hq => by rcases hq with hq | hq; exact .inl (.inl hq); exact hq.elim)
  refine arena_set (arena_set (arena_set (((HA1.out.more w2.heap.size).below HB2.out).alloc _) ?_) ?_) ?_
  all_goals exact .inl (.inr ⟨by omega, by omega⟩)

set_option maxHeartbeats 2000000 in
set_option maxRecDepth 100000 in
theorem asksM_alloc_room {w : World} {X Y : Nat → Prop} {pa : Nat} {S : AS} (h : Arena w X pa S) (hX : ∀ q, X q → q < w.heap.size) (hY : ∀ q, Y q → X q) {A : Option Addr} {vals : List Value} {bl : List (List Int)} (hr : RowsAt w Y A vals bl) (hm : Match S bl) (c : Nat) (hlen : bl.length ≤ 4398046511102) (b : Int) {m : Nat} (v x : Int) (h1 : 1 ≤ m) (h2 : m ≤ 256) (h3 : S.used + m ≤ S.most) :
    Calls Try.prog 11 #[.pointer (some ⟨pa, 0, none⟩), .agg #[.slice A bl.length c, .int .i64 S.most, .int .i64 S.faults], .agg #[.int .i64 1, .int .i64 b, .int .i64 (m : Int), .int .i64 v, .int .i64 x]] w (Plays w X Y pa (S.alloc m)) := by
  have hb3 := below3 (w := w) #[.slice A bl.length c, .int .i64 S.most, .int .i64 S.faults] #[.int .i64 1, .int .i64 b, .int .i64 (m : Int), .int .i64 v, .int .i64 x] #[.slice none 0 0, .int .i64 0, .int .i64 0]
  have hX3 : ∀ q, w.heap.size + 3 ≤ q → ¬ (X q ∨ (w.heap.size ≤ q ∧ q < w.heap.size + 3)) := fun q hq hh => by rcases hh with hh | hh; have := hX q hh; omega; omega
  have hA3 := (h.more (w.heap.size + 3)).below hb3
  have hc := alloc_room hA3 h1 h2 h3 (by have := hm.made; omega) (fun q hq => by simp only [World.size_alloc] at hq; exact hX3 q (by omega))
  rw [← hm.made] at hc
  have ht : tot bl ≤ 65536 := by have := hm.tot; have := h.ok.sum; have := h.ok.used1; have := h.ok.most1; omega
  have h3' : (tot bl : Int) + m ≤ S.most := by have := hm.tot; have := h.ok.sum; omega
  have hmat := hm.alloc h.ok h1
  have HT := Lib.hid ht; clear ht
  have HI3 := Lib.hid h3'; clear h3' h3
  have HMAT := Lib.hid hmat; clear hmat
  have HI1 := Lib.hid h1; clear h1
  have HI2 := Lib.hid h2; clear h2
  have HC := Lib.hid hc; clear hc
  clear h hA3 hX3
  have HX := Lib.hid hX; clear hX
  have HY := Lib.hid hY; clear hY
  have HR := Lib.hid hr; clear hr
  have HM := Lib.hid hm; clear hm
  have HB3 := Lib.hid hb3; clear hb3
  go_enter Try.func11, Try.ntmps11
  go_wp2_with fail
  refine HC.out.mono ?_
  rintro e w1 ⟨rfl, a1, k1⟩
  obtain ⟨hM, hO, hR, n1⟩ := boxes3 k1
  obtain ⟨m0, m1, m2, _⟩ := hM.three
  obtain ⟨o0, o1, o2, o3, o4⟩ := hO.five
  have hrw := (HR.out.below HB3.out).keep (Z := Y) (k1.less (fun q hq => .inl (HY.out q hq))) (fun q hq => hq)
  have href := refAlloc_room hrw c S.most S.faults (by omega) HT.out HI1.out HI2.out HI3.out
  have HREF := Lib.hid href; clear href
  have HA1 := Lib.hid a1; clear a1
  have HK1 := Lib.hid k1; clear k1
  have HR1 := Lib.hid hR; clear hR
  have HM1 := Lib.hid hM; clear hM
  have HO1 := Lib.hid hO; clear hO
  have HRW := Lib.hid hrw; clear hrw
  have HN1 := Lib.hid n1; clear n1
  go_wp2_with fail
  refine HREF.out.mono ?_
  rintro e w2 ⟨A2, c2, vals2, rfl, hrows2, b2⟩
  have n1 := HN1.out
  have n2 := b2.size
  have hR2 := (HR1.out.below b2 (by omega)).alloc (.cells #[.slice A2 (bl.length + 1) c2, .int .i64 S.most, .int .i64 S.faults] 28)
  obtain ⟨r0, r1, r2, g0, g1, g2⟩ := hR2.three
  have hF := ((hR2.set_ 0 (.slice A2 (bl.length + 1) c2)).set_ 1 (.int .i64 S.most)).set_ 2 (.int .i64 S.faults)
  obtain ⟨q0, q1, q2, _⟩ := hF.three
  have HB2 := Lib.hid b2; clear b2
  have HN2 := Lib.hid n2; clear n2
  have HROWS := Lib.hid hrows2; clear hrows2
  clear hR2 hF n1
  go_wp2_with fail
  refine bodyPost_ret (by simp [results, Try.results11, go_sem, q0, q1, q2]; rfl) rfl ?_
  have n1 := HN1.out
  have n2 := HN2.out
  have hx0 : ¬ X (w.heap.size + 1 + 1) := fun hh => by have := HX.out _ hh; omega
  have hx : ¬ (Y (w.heap.size + 1 + 1) ∨ (fun q => w1.heap.size ≤ q ∧ q < w2.heap.size) (w.heap.size + 1 + 1)) := fun hh => by
    rcases hh with hh | hh
    · exact hx0 (HY.out _ hh)
    · first | exact hh.elim | (have h2 : w1.heap.size ≤ w.heap.size + 1 + 1 := hh.1; omega)
  have hkF : Keep X w w1 := kept_ (fun q hq hh => by have := HX.out _ hh; omega) HB3.out HK1.out
  have hkA : Keep X w (w2.alloc (.cells #[.slice A2 (bl.length + 1) c2, .int .i64 S.most, .int .i64 S.faults] 28)) := (hkF.trans (keepOf HB2.out X)).alloc _
  have hkG := keep_set (keep_set (keep_set hkA hx0 (o := 0) (u := .slice A2 (bl.length + 1) c2)) hx0 (o := 1) (u := .int .i64 S.most)) hx0 (o := 2) (u := .int .i64 S.faults)
  have hkH := keep_set (keep_set (keep_set ((Keep.refl (fun q => Y q ∨ (fun q => w1.heap.size ≤ q ∧ q < w2.heap.size) q) w2).alloc (.cells #[.slice A2 (bl.length + 1) c2, .int .i64 S.most, .int .i64 S.faults] 28)) hx (o := 0) (u := .slice A2 (bl.length + 1) c2)) hx (o := 1) (u := .int .i64 S.most)) hx (o := 2) (u := .int .i64 S.faults)
  refine ⟨A2, c2, vals2, bl ++ [List.replicate m 0], fun q => w1.heap.size ≤ q ∧ q < w2.heap.size, by rw [List.length_append]; rfl, ?_, (HROWS.out.keep (Z := fun q => Y q ∨ (fun q => w1.heap.size ≤ q ∧ q < w2.heap.size) q) hkH (fun q hq => hq)), HMAT.out, fun q hq => ⟨by have h2 := hq.1; omega, by have h2 := hq.2; have h3 := hkH.size; omega⟩, hkG⟩
  refine Arena.less (X := fun q => (X q ∨ (w.heap.size ≤ q ∧ q < w.heap.size + 3)) ∨ (w1.heap.size ≤ q ∧ q < w2.heap.size)) ?_ (fun q _ hq => by rcases hq with hq | hq; exact .inl (.inl hq); exact .inr hq)
  refine arena_set (arena_set (arena_set (((HA1.out.more w2.heap.size).below HB2.out).alloc _) ?_) ?_) ?_
  all_goals exact .inl (.inr ⟨by omega, by omega⟩)

set_option maxHeartbeats 2000000 in
set_option maxRecDepth 100000 in
theorem asksM_free_none {w : World} {X Y : Nat → Prop} {pa : Nat} {S : AS} (h : Arena w X pa S) (hX : ∀ q, X q → q < w.heap.size) (hY : ∀ q, Y q → X q) {A : Option Addr} {vals : List Value} {bl : List (List Int)} (hr : RowsAt w Y A vals bl) (hm : Match S bl) (c : Nat) (hlen : bl.length ≤ 4398046511102) {b : Int} (i v x : Int) (hwb : (ik b).wf = true) (hl : look S.bl b = none) :
    Calls Try.prog 11 #[.pointer (some ⟨pa, 0, none⟩), .agg #[.slice A bl.length c, .int .i64 S.most, .int .i64 S.faults], .agg #[.int .i64 2, .int .i64 b, .int .i64 i, .int .i64 v, .int .i64 x]] w (Plays w X Y pa (S.fault)) := by
  have hb3 := below3 (w := w) #[.slice A bl.length c, .int .i64 S.most, .int .i64 S.faults] #[.int .i64 2, .int .i64 b, .int .i64 i, .int .i64 v, .int .i64 x] #[.slice none 0 0, .int .i64 0, .int .i64 0]
  have hX3 : ∀ q, w.heap.size + 3 ≤ q → ¬ (X q ∨ (w.heap.size ≤ q ∧ q < w.heap.size + 3)) := fun q hq hh => by rcases hh with hh | hh; have := hX q hh; omega; omega
  have hA3 := (h.more (w.heap.size + 3)).below hb3
  have hc := free_any hA3 hwb
  have e1 : S.err0 b = 20 := by unfold AS.err0; rw [hl]
  have e2 : S.freeAt b = S.fault := by unfold AS.freeAt; rw [hl]
  rw [e1, e2] at hc
  clear e1 e2
  have HNI := Lib.hid (hm.none_ hl); clear hl
  have HC := Lib.hid hc; clear hc
  clear h hA3 hX3
  have HX := Lib.hid hX; clear hX
  have HY := Lib.hid hY; clear hY
  have HR := Lib.hid hr; clear hr
  have HM := Lib.hid hm; clear hm
  have HB3 := Lib.hid hb3; clear hb3
  go_enter Try.func11, Try.ntmps11
  go_wp2_with fail
  refine HC.out.mono ?_
  rintro e w1 ⟨rfl, a1, k1⟩
  obtain ⟨hM, hO, hR, n1⟩ := boxes3 k1
  obtain ⟨m0, m1, m2, _⟩ := hM.three
  obtain ⟨o0, o1, o2, o3, o4⟩ := hO.five
  have hrw := (HR.out.below HB3.out).keep (Z := Y) (k1.less (fun q hq => .inl (HY.out q hq))) (fun q hq => hq)
  have href := free_no hrw c S.most S.faults HNI.out (by omega)
  have HREF := Lib.hid href; clear href
  have HA1 := Lib.hid a1; clear a1
  have HK1 := Lib.hid k1; clear k1
  have HR1 := Lib.hid hR; clear hR
  have HM1 := Lib.hid hM; clear hM
  have HO1 := Lib.hid hO; clear hO
  have HRW := Lib.hid hrw; clear hrw
  have HN1 := Lib.hid n1; clear n1
  go_wp2_with fail
  refine HREF.out.mono ?_
  rintro e w2 ⟨rfl, b2⟩
  obtain ⟨A2, c2, vals2, rfl, rfl, rfl⟩ : ∃ A2 c2 vals2, A2 = A ∧ c2 = c ∧ vals2 = vals := ⟨_, _, _, rfl, rfl, rfl⟩
  have hrows2 := HRW.out.below b2
  have n1 := HN1.out
  have n2 := b2.size
  have hR2 := (HR1.out.below b2 (by omega)).alloc (.cells #[.slice A2 bl.length c2, .int .i64 S.most, .int .i64 (wrap64 (S.faults + 1))] 28)
  obtain ⟨r0, r1, r2, g0, g1, g2⟩ := hR2.three
  have hF := ((hR2.set_ 0 (.slice A2 bl.length c2)).set_ 1 (.int .i64 S.most)).set_ 2 (.int .i64 (wrap64 (S.faults + 1)))
  obtain ⟨q0, q1, q2, _⟩ := hF.three
  have HB2 := Lib.hid b2; clear b2
  have HN2 := Lib.hid n2; clear n2
  have HROWS := Lib.hid hrows2; clear hrows2
  clear hR2 hF n1
  go_wp2_with fail
  refine bodyPost_ret (by simp [results, Try.results11, go_sem, q0, q1, q2]; rfl) rfl ?_
  have n1 := HN1.out
  have n2 := HN2.out
  have hx0 : ¬ X (w.heap.size + 1 + 1) := fun hh => by have := HX.out _ hh; omega
  have hx : ¬ (Y (w.heap.size + 1 + 1) ∨ (fun _ => False) (w.heap.size + 1 + 1)) := fun hh => by
    rcases hh with hh | hh
    · exact hx0 (HY.out _ hh)
    · first | exact hh.elim | (have h2 : w1.heap.size ≤ w.heap.size + 1 + 1 := hh.1; omega)
  have hkF : Keep X w w1 := kept_ (fun q hq hh => by have := HX.out _ hh; omega) HB3.out HK1.out
  have hkA : Keep X w (w2.alloc (.cells #[.slice A2 bl.length c2, .int .i64 S.most, .int .i64 (wrap64 (S.faults + 1))] 28)) := (hkF.trans (keepOf HB2.out X)).alloc _
  have hkG := keep_set (keep_set (keep_set hkA hx0 (o := 0) (u := .slice A2 bl.length c2)) hx0 (o := 1) (u := .int .i64 S.most)) hx0 (o := 2) (u := .int .i64 (wrap64 (S.faults + 1)))
  have hkH := keep_set (keep_set (keep_set ((Keep.refl (fun q => Y q ∨ (fun _ => False) q) w2).alloc (.cells #[.slice A2 bl.length c2, .int .i64 S.most, .int .i64 (wrap64 (S.faults + 1))] 28)) hx (o := 0) (u := .slice A2 bl.length c2)) hx (o := 1) (u := .int .i64 S.most)) hx (o := 2) (u := .int .i64 (wrap64 (S.faults + 1)))
  refine ⟨A2, c2, vals2, bl, fun _ => False, rfl, ?_, (HROWS.out.keep (Z := fun q => Y q ∨ (fun _ => False) q) hkH (fun q hq => .inl hq)), HM.out.fault, fun q hq => hq.elim, hkG⟩
  refine Arena.less (X := fun q => (X q ∨ (w.heap.size ≤ q ∧ q < w.heap.size + 3)) ∨ (w1.heap.size ≤ q ∧ q < w2.heap.size)) ?_ (fun q _ hq => by rcases hq with hq | hq; exact .inl (.inl hq); exact hq.elim)
  refine arena_set (arena_set (arena_set (((HA1.out.more w2.heap.size).below HB2.out).alloc _) ?_) ?_) ?_
  all_goals exact .inl (.inr ⟨by omega, by omega⟩)

set_option maxHeartbeats 2000000 in
set_option maxRecDepth 100000 in
theorem asksM_free_some {w : World} {X Y : Nat → Prop} {pa : Nat} {S : AS} (h : Arena w X pa S) (hX : ∀ q, X q → q < w.heap.size) (hY : ∀ q, Y q → X q) {A : Option Addr} {vals : List Value} {bl : List (List Int)} (hr : RowsAt w Y A vals bl) (hm : Match S bl) (c : Nat) (hlen : bl.length ≤ 4398046511102) {j : Nat} {cs : List Int} (i v x : Int) (hwb : (ik ((j : Int) + 1)).wf = true) (hj : j < bl.length) (hl : look S.bl ((j : Int) + 1) = some cs) (hcs : bl.getD j [] = cs) :
    Calls Try.prog 11 #[.pointer (some ⟨pa, 0, none⟩), .agg #[.slice A bl.length c, .int .i64 S.most, .int .i64 S.faults], .agg #[.int .i64 2, .int .i64 ((j : Int) + 1), .int .i64 i, .int .i64 v, .int .i64 x]] w (Plays w X Y pa (S.free ((j : Int) + 1) cs.length)) := by
  have hb3 := below3 (w := w) #[.slice A bl.length c, .int .i64 S.most, .int .i64 S.faults] #[.int .i64 2, .int .i64 ((j : Int) + 1), .int .i64 i, .int .i64 v, .int .i64 x] #[.slice none 0 0, .int .i64 0, .int .i64 0]
  have hX3 : ∀ q, w.heap.size + 3 ≤ q → ¬ (X q ∨ (w.heap.size ≤ q ∧ q < w.heap.size + 3)) := fun q hq hh => by rcases hh with hh | hh; have := hX q hh; omega; omega
  have hA3 := (h.more (w.heap.size + 3)).below hb3
  have hc := free_hit hA3 hwb hl
  have hmat := hm.free h.ok hj hl
  have hsz := (h.ok.size hl).1
  have HMAT := Lib.hid hmat; clear hmat
  have HSZ : Hid (0 < (bl.getD j []).length) := by rw [hcs]; exact hsz
  clear hl hcs hsz
  have HC := Lib.hid hc; clear hc
  clear h hA3 hX3
  have HX := Lib.hid hX; clear hX
  have HY := Lib.hid hY; clear hY
  have HR := Lib.hid hr; clear hr
  have HM := Lib.hid hm; clear hm
  have HB3 := Lib.hid hb3; clear hb3
  go_enter Try.func11, Try.ntmps11
  go_wp2_with fail
  refine HC.out.mono ?_
  rintro e w1 ⟨rfl, a1, k1⟩
  obtain ⟨hM, hO, hR, n1⟩ := boxes3 k1
  obtain ⟨m0, m1, m2, _⟩ := hM.three
  obtain ⟨o0, o1, o2, o3, o4⟩ := hO.five
  have hrw := (HR.out.below HB3.out).keep (Z := Y) (k1.less (fun q hq => .inl (HY.out q hq))) (fun q hq => hq)
  have href := free_yes hrw (fun q hq => by have := HX.out _ (HY.out _ hq); omega) c S.most S.faults hj HSZ.out (by omega)
  have HREF := Lib.hid href; clear href
  have HA1 := Lib.hid a1; clear a1
  have HK1 := Lib.hid k1; clear k1
  have HR1 := Lib.hid hR; clear hR
  have HM1 := Lib.hid hM; clear hM
  have HO1 := Lib.hid hO; clear hO
  have HRW := Lib.hid hrw; clear hrw
  have HN1 := Lib.hid n1; clear n1
  go_wp2_with fail
  refine HREF.out.mono ?_
  rintro e w2 ⟨A2, c2, vals2, rfl, hrows2, b2⟩
  have n1 := HN1.out
  have n2 := b2.size
  have hR2 := (HR1.out.below b2 (by omega)).alloc (.cells #[.slice A2 bl.length c2, .int .i64 S.most, .int .i64 S.faults] 28)
  obtain ⟨r0, r1, r2, g0, g1, g2⟩ := hR2.three
  have hF := ((hR2.set_ 0 (.slice A2 bl.length c2)).set_ 1 (.int .i64 S.most)).set_ 2 (.int .i64 S.faults)
  obtain ⟨q0, q1, q2, _⟩ := hF.three
  have HB2 := Lib.hid b2; clear b2
  have HN2 := Lib.hid n2; clear n2
  have HROWS := Lib.hid hrows2; clear hrows2
  clear hR2 hF n1
  go_wp2_with fail
  refine bodyPost_ret (by simp [results, Try.results11, go_sem, q0, q1, q2]; rfl) rfl ?_
  have n1 := HN1.out
  have n2 := HN2.out
  have hx0 : ¬ X (w.heap.size + 1 + 1) := fun hh => by have := HX.out _ hh; omega
  have hx : ¬ (Y (w.heap.size + 1 + 1) ∨ (fun q => w1.heap.size ≤ q ∧ q < w2.heap.size) (w.heap.size + 1 + 1)) := fun hh => by
    rcases hh with hh | hh
    · exact hx0 (HY.out _ hh)
    · first | exact hh.elim | (have h2 : w1.heap.size ≤ w.heap.size + 1 + 1 := hh.1; omega)
  have hkF : Keep X w w1 := kept_ (fun q hq hh => by have := HX.out _ hh; omega) HB3.out HK1.out
  have hkA : Keep X w (w2.alloc (.cells #[.slice A2 bl.length c2, .int .i64 S.most, .int .i64 S.faults] 28)) := (hkF.trans (keepOf HB2.out X)).alloc _
  have hkG := keep_set (keep_set (keep_set hkA hx0 (o := 0) (u := .slice A2 bl.length c2)) hx0 (o := 1) (u := .int .i64 S.most)) hx0 (o := 2) (u := .int .i64 S.faults)
  have hkH := keep_set (keep_set (keep_set ((Keep.refl (fun q => Y q ∨ (fun q => w1.heap.size ≤ q ∧ q < w2.heap.size) q) w2).alloc (.cells #[.slice A2 bl.length c2, .int .i64 S.most, .int .i64 S.faults] 28)) hx (o := 0) (u := .slice A2 bl.length c2)) hx (o := 1) (u := .int .i64 S.most)) hx (o := 2) (u := .int .i64 S.faults)
  refine ⟨A2, c2, vals2, bl.set j [], fun q => w1.heap.size ≤ q ∧ q < w2.heap.size, by rw [List.length_set]; rfl, ?_, (HROWS.out.keep (Z := fun q => Y q ∨ (fun q => w1.heap.size ≤ q ∧ q < w2.heap.size) q) hkH (fun q hq => hq)), HMAT.out, fun q hq => ⟨by have h2 := hq.1; omega, by have h2 := hq.2; have h3 := hkH.size; omega⟩, hkG⟩
  refine Arena.less (X := fun q => (X q ∨ (w.heap.size ≤ q ∧ q < w.heap.size + 3)) ∨ (w1.heap.size ≤ q ∧ q < w2.heap.size)) ?_ (fun q _ hq => by rcases hq with hq | hq; exact .inl (.inl hq); exact .inr hq)
  refine arena_set (arena_set (arena_set (((HA1.out.more w2.heap.size).below HB2.out).alloc _) ?_) ?_) ?_
  all_goals exact .inl (.inr ⟨by omega, by omega⟩)

set_option maxHeartbeats 2000000 in
set_option maxRecDepth 100000 in
theorem asksM_size_none {w : World} {X Y : Nat → Prop} {pa : Nat} {S : AS} (h : Arena w X pa S) (hX : ∀ q, X q → q < w.heap.size) (hY : ∀ q, Y q → X q) {A : Option Addr} {vals : List Value} {bl : List (List Int)} (hr : RowsAt w Y A vals bl) (hm : Match S bl) (c : Nat) (hlen : bl.length ≤ 4398046511102) {b : Int} (i v x : Int) (hwb : (ik b).wf = true) (hl : look S.bl b = none) :
    Calls Try.prog 11 #[.pointer (some ⟨pa, 0, none⟩), .agg #[.slice A bl.length c, .int .i64 S.most, .int .i64 S.faults], .agg #[.int .i64 7, .int .i64 b, .int .i64 i, .int .i64 v, .int .i64 x]] w (Plays w X Y pa (S.fault)) := by
  have hb3 := below3 (w := w) #[.slice A bl.length c, .int .i64 S.most, .int .i64 S.faults] #[.int .i64 7, .int .i64 b, .int .i64 i, .int .i64 v, .int .i64 x] #[.slice none 0 0, .int .i64 0, .int .i64 0]
  have hX3 : ∀ q, w.heap.size + 3 ≤ q → ¬ (X q ∨ (w.heap.size ≤ q ∧ q < w.heap.size + 3)) := fun q hq hh => by rcases hh with hh | hh; have := hX q hh; omega; omega
  have hA3 := (h.more (w.heap.size + 3)).below hb3
  have hc := size_any hA3 hwb
  have e1 : S.err0 b = 20 := by unfold AS.err0; rw [hl]
  have e2 : S.touch b = S.fault := by unfold AS.touch; rw [hl]
  have e3 : S.sizeAt b = 0 := by unfold AS.sizeAt; rw [hl]
  rw [e1, e2, e3] at hc
  clear e1 e2 e3
  have HNI := Lib.hid (hm.none_ hl); clear hl
  have HC := Lib.hid hc; clear hc
  clear h hA3 hX3
  have HX := Lib.hid hX; clear hX
  have HY := Lib.hid hY; clear hY
  have HR := Lib.hid hr; clear hr
  have HM := Lib.hid hm; clear hm
  have HB3 := Lib.hid hb3; clear hb3
  go_enter Try.func11, Try.ntmps11
  go_wp2_with fail
  refine HC.out.mono ?_
  rintro e w1 ⟨rfl, a1, k1⟩
  obtain ⟨hM, hO, hR, n1⟩ := boxes3 k1
  obtain ⟨m0, m1, m2, _⟩ := hM.three
  obtain ⟨o0, o1, o2, o3, o4⟩ := hO.five
  have hrw := (HR.out.below HB3.out).keep (Z := Y) (k1.less (fun q hq => .inl (HY.out q hq))) (fun q hq => hq)
  have href := reach_no hrw c S.most S.faults HNI.out 0 (by omega)
  have HREF := Lib.hid href; clear href
  have HA1 := Lib.hid a1; clear a1
  have HK1 := Lib.hid k1; clear k1
  have HR1 := Lib.hid hR; clear hR
  have HM1 := Lib.hid hM; clear hM
  have HO1 := Lib.hid hO; clear hO
  have HRW := Lib.hid hrw; clear hrw
  have HN1 := Lib.hid n1; clear n1
  go_wp2_with fail
  refine HREF.out.mono ?_
  rintro e w2 ⟨rfl, b2⟩
  obtain ⟨A2, c2, vals2, rfl, rfl, rfl⟩ : ∃ A2 c2 vals2, A2 = A ∧ c2 = c ∧ vals2 = vals := ⟨_, _, _, rfl, rfl, rfl⟩
  have hrows2 := HRW.out.below b2
  have n1 := HN1.out
  have n2 := b2.size
  have hR2 := (HR1.out.below b2 (by omega)).alloc (.cells #[.slice A2 bl.length c2, .int .i64 S.most, .int .i64 (wrap64 (S.faults + 1))] 28)
  obtain ⟨r0, r1, r2, g0, g1, g2⟩ := hR2.three
  have hF := ((hR2.set_ 0 (.slice A2 bl.length c2)).set_ 1 (.int .i64 S.most)).set_ 2 (.int .i64 (wrap64 (S.faults + 1)))
  obtain ⟨q0, q1, q2, _⟩ := hF.three
  have hN2 := Blk.new w2 28 #[.slice A2 bl.length c2, .int .i64 S.most, .int .i64 (wrap64 (S.faults + 1))]
  obtain ⟨z0, z1, z2, _⟩ := hN2.three
  clear hN2
  have HB2 := Lib.hid b2; clear b2
  have HN2 := Lib.hid n2; clear n2
  have HROWS := Lib.hid hrows2; clear hrows2
  clear hR2 hF n1
  go_wp2_with fail
  go_region
  go_wp2_with fail
  refine bodyPost_ret (by simp [results, Try.results11, go_sem, q0, q1, q2]; rfl) rfl ?_
  have n1 := HN1.out
  have n2 := HN2.out
  have hx0 : ¬ X (w.heap.size + 1 + 1) := fun hh => by have := HX.out _ hh; omega
  have hx : ¬ (Y (w.heap.size + 1 + 1) ∨ (fun _ => False) (w.heap.size + 1 + 1)) := fun hh => by
    rcases hh with hh | hh
    · exact hx0 (HY.out _ hh)
    · first | exact hh.elim | (have h2 : w1.heap.size ≤ w.heap.size + 1 + 1 := hh.1; omega)
  have hkF : Keep X w w1 := kept_ (fun q hq hh => by have := HX.out _ hh; omega) HB3.out HK1.out
  have hkA : Keep X w (w2.alloc (.cells #[.slice A2 bl.length c2, .int .i64 S.most, .int .i64 (wrap64 (S.faults + 1))] 28)) := (hkF.trans (keepOf HB2.out X)).alloc _
  have hkG := keep_set (keep_set (keep_set hkA hx0 (o := 0) (u := .slice A2 bl.length c2)) hx0 (o := 1) (u := .int .i64 S.most)) hx0 (o := 2) (u := .int .i64 (wrap64 (S.faults + 1)))
  have hkH := keep_set (keep_set (keep_set ((Keep.refl (fun q => Y q ∨ (fun _ => False) q) w2).alloc (.cells #[.slice A2 bl.length c2, .int .i64 S.most, .int .i64 (wrap64 (S.faults + 1))] 28)) hx (o := 0) (u := .slice A2 bl.length c2)) hx (o := 1) (u := .int .i64 S.most)) hx (o := 2) (u := .int .i64 (wrap64 (S.faults + 1)))
  refine ⟨A2, c2, vals2, bl, fun _ => False, rfl, ?_, (HROWS.out.keep (Z := fun q => Y q ∨ (fun _ => False) q) hkH.drew (fun q hq => .inl hq)), HM.out.fault, fun q hq => hq.elim, hkG.drew⟩
  refine Arena.drew ?_
  refine Arena.less (X := fun q => (X q ∨ (w.heap.size ≤ q ∧ q < w.heap.size + 3)) ∨ (w1.heap.size ≤ q ∧ q < w2.heap.size)) ?_ (fun q _ hq => by rcases hq with hq | hq; exact .inl (.inl hq); exact hq.elim)
  refine arena_set (arena_set (arena_set (((HA1.out.more w2.heap.size).below HB2.out).alloc _) ?_) ?_) ?_
  all_goals exact .inl (.inr ⟨by omega, by omega⟩)

set_option maxHeartbeats 2000000 in
set_option maxRecDepth 100000 in
theorem asksM_size_some {w : World} {X Y : Nat → Prop} {pa : Nat} {S : AS} (h : Arena w X pa S) (hX : ∀ q, X q → q < w.heap.size) (hY : ∀ q, Y q → X q) {A : Option Addr} {vals : List Value} {bl : List (List Int)} (hr : RowsAt w Y A vals bl) (hm : Match S bl) (c : Nat) (hlen : bl.length ≤ 4398046511102) {j : Nat} {cs : List Int} (i v x : Int) (hwb : (ik ((j : Int) + 1)).wf = true) (hj : j < bl.length) (hl : look S.bl ((j : Int) + 1) = some cs) (hcs : bl.getD j [] = cs) :
    Calls Try.prog 11 #[.pointer (some ⟨pa, 0, none⟩), .agg #[.slice A bl.length c, .int .i64 S.most, .int .i64 S.faults], .agg #[.int .i64 7, .int .i64 ((j : Int) + 1), .int .i64 i, .int .i64 v, .int .i64 x]] w (Plays w X Y pa (S)) := by
  have hb3 := below3 (w := w) #[.slice A bl.length c, .int .i64 S.most, .int .i64 S.faults] #[.int .i64 7, .int .i64 ((j : Int) + 1), .int .i64 i, .int .i64 v, .int .i64 x] #[.slice none 0 0, .int .i64 0, .int .i64 0]
  have hX3 : ∀ q, w.heap.size + 3 ≤ q → ¬ (X q ∨ (w.heap.size ≤ q ∧ q < w.heap.size + 3)) := fun q hq hh => by rcases hh with hh | hh; have := hX q hh; omega; omega
  have hA3 := (h.more (w.heap.size + 3)).below hb3
  have hc := (size_hit hA3 hwb hl).mono (R' := fun e w' => e = .returned (.tuple #[.int .i64 cs.length, .int .i64 0]) ∧ Arena w' (fun q => X q ∨ (w.heap.size ≤ q ∧ q < w.heap.size + 3)) pa S ∧ Keep (fun q => X q ∨ (w.heap.size ≤ q ∧ q < w.heap.size + 3)) _ w') (fun e w' hh => by obtain ⟨h1, rfl⟩ := hh; exact ⟨h1, hA3, Keep.refl _ _⟩)
  have hsz := h.ok.size hl
  have HSZ := Lib.hid hsz; clear hsz
  have HCS := Lib.hid hcs; clear hcs
  clear hl
  have HC := Lib.hid hc; clear hc
  clear h hA3 hX3
  have HX := Lib.hid hX; clear hX
  have HY := Lib.hid hY; clear hY
  have HR := Lib.hid hr; clear hr
  have HM := Lib.hid hm; clear hm
  have HB3 := Lib.hid hb3; clear hb3
  go_enter Try.func11, Try.ntmps11
  go_wp2_with fail
  refine HC.out.mono ?_
  rintro e w1 ⟨rfl, a1, k1⟩
  obtain ⟨hM, hO, hR, n1⟩ := boxes3 k1
  obtain ⟨m0, m1, m2, _⟩ := hM.three
  obtain ⟨o0, o1, o2, o3, o4⟩ := hO.five
  have hrw := (HR.out.below HB3.out).keep (Z := Y) (k1.less (fun q hq => .inl (HY.out q hq))) (fun q hq => hq)
  have href := reach_yes hrw c S.most S.faults hj (by rw [HCS.out]; have := HSZ.out; omega) (by rw [HCS.out]; have := HSZ.out; omega) 0 (by omega)
  have hre : reachErr (bl.getD j []).length 0 = 0 := by unfold reachErr; rw [HCS.out]; have := HSZ.out; exact if_pos ⟨by omega, by omega⟩
  rw [hre] at href
  clear hre
  have HREF := Lib.hid href; clear href
  have HA1 := Lib.hid a1; clear a1
  have HK1 := Lib.hid k1; clear k1
  have HR1 := Lib.hid hR; clear hR
  have HM1 := Lib.hid hM; clear hM
  have HO1 := Lib.hid hO; clear hO
  have HRW := Lib.hid hrw; clear hrw
  have HN1 := Lib.hid n1; clear n1
  go_wp2_with fail
  refine HREF.out.mono ?_
  rintro e w2 ⟨rfl, b2⟩
  obtain ⟨A2, c2, vals2, rfl, rfl, rfl⟩ : ∃ A2 c2 vals2, A2 = A ∧ c2 = c ∧ vals2 = vals := ⟨_, _, _, rfl, rfl, rfl⟩
  have hrows2 := HRW.out.below b2
  have n1 := HN1.out
  have n2 := b2.size
  have hR2 := (HR1.out.below b2 (by omega)).alloc (.cells #[.slice A2 bl.length c2, .int .i64 S.most, .int .i64 S.faults] 28)
  obtain ⟨r0, r1, r2, g0, g1, g2⟩ := hR2.three
  have hF := ((hR2.set_ 0 (.slice A2 bl.length c2)).set_ 1 (.int .i64 S.most)).set_ 2 (.int .i64 S.faults)
  obtain ⟨q0, q1, q2, _⟩ := hF.three
  have hN2 := Blk.new w2 28 #[.slice A2 bl.length c2, .int .i64 S.most, .int .i64 S.faults]
  obtain ⟨z0, z1, z2, _⟩ := hN2.three
  have hM3 := (HM1.out.below b2 (by omega)).alloc (.cells #[.slice A2 bl.length c2, .int .i64 S.most, .int .i64 S.faults] 28)
  obtain ⟨y0, y1, y2, _⟩ := hM3.three
  have hO3 := (HO1.out.below b2 (by omega)).alloc (.cells #[.slice A2 bl.length c2, .int .i64 S.most, .int .i64 S.faults] 28)
  obtain ⟨x0, x1, x2, x3, x4⟩ := hO3.five
  have hd3 := hrows2.below ((Below.refl _ _).alloc (Nat.le_refl _) (.cells #[.slice A2 bl.length c2, .int .i64 S.most, .int .i64 S.faults] 28))
  obtain ⟨g, gj, cj, rfl, d1, _⟩ := hd3.deep (k := 0) hj HCS.out (by have := HSZ.out; omega)
  have hjl : (j : Int) < bl.length := by omega
  clear hN2 hM3 hO3 hd3
  have HB2 := Lib.hid b2; clear b2
  have HN2 := Lib.hid n2; clear n2
  have HROWS := Lib.hid hrows2; clear hrows2
  clear hR2 hF n1
  go_wp2_with fail
  go_region
  go_wp2_with fail
  refine bodyPost_ret (by simp [results, Try.results11, go_sem, q0, q1, q2]; rfl) rfl ?_
  have n1 := HN1.out
  have n2 := HN2.out
  have hx0 : ¬ X (w.heap.size + 1 + 1) := fun hh => by have := HX.out _ hh; omega
  have hx : ¬ (Y (w.heap.size + 1 + 1) ∨ (fun _ => False) (w.heap.size + 1 + 1)) := fun hh => by
    rcases hh with hh | hh
    · exact hx0 (HY.out _ hh)
    · first | exact hh.elim | (have h2 : w1.heap.size ≤ w.heap.size + 1 + 1 := hh.1; omega)
  have hkF : Keep X w w1 := kept_ (fun q hq hh => by have := HX.out _ hh; omega) HB3.out HK1.out
  have hkA : Keep X w (w2.alloc (.cells #[.slice (some ⟨g, 0, none⟩) bl.length c2, .int .i64 S.most, .int .i64 S.faults] 28)) := (hkF.trans (keepOf HB2.out X)).alloc _
  have hkG := keep_set (keep_set (keep_set hkA hx0 (o := 0) (u := .slice (some ⟨g, 0, none⟩) bl.length c2)) hx0 (o := 1) (u := .int .i64 S.most)) hx0 (o := 2) (u := .int .i64 S.faults)
  have hkH := keep_set (keep_set (keep_set ((Keep.refl (fun q => Y q ∨ (fun _ => False) q) w2).alloc (.cells #[.slice (some ⟨g, 0, none⟩) bl.length c2, .int .i64 S.most, .int .i64 S.faults] 28)) hx (o := 0) (u := .slice (some ⟨g, 0, none⟩) bl.length c2)) hx (o := 1) (u := .int .i64 S.most)) hx (o := 2) (u := .int .i64 S.faults)
  refine ⟨(some ⟨g, 0, none⟩), c2, vals2, bl, fun _ => False, rfl, ?_, (HROWS.out.keep (Z := fun q => Y q ∨ (fun _ => False) q) hkH.drew (fun q hq => .inl hq)), HM.out, fun q hq => hq.elim, hkG.drew⟩
  refine Arena.drew ?_
  refine Arena.less (X := fun q => (X q ∨ (w.heap.size ≤ q ∧ q < w.heap.size + 3)) ∨ (w1.heap.size ≤ q ∧ q < w2.heap.size)) ?_ (fun q _ hq => by rcases hq with hq | hq; exact .inl (.inl hq); exact hq.elim)
  refine arena_set (arena_set (arena_set (((HA1.out.more w2.heap.size).below HB2.out).alloc _) ?_) ?_) ?_
  all_goals exact .inl (.inr ⟨by omega, by omega⟩)

end Go.Proofs.Ytbgbknbfleiakaa
