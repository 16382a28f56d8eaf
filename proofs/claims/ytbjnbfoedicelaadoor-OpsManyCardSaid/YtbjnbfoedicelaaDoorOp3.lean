/-
  Package ops: what is told of a type, a name, an operator's key. No condition.
-/
import Derived.Test.YtbjnbfoedicelaaDoorOp2
import Derived.WalkKit
import Derived.Lib.Hide
import Derived.StillTailTactics
import Derived.Deep.RegionHeld3
import Derived.BigQuiet
import Derived.Deep.QuietTactic
namespace Go.Proofs.YtbjnbfoedicelaaDoor
open Go.RowKit Go.Maps
set_option linter.unusedVariables false
set_option linter.unusedSimpArgs false

section
variable {w : World}
theorem isPre_any (t : Int) (w : World) : Calls Tryd.prog 41 #[.int .i64 t] w fun e w' => e = .returned (.bool (isPre t)) ∧ w = w' := by
  unfold isPre
  have e1 : ((t : Int) == 4) = (t == 4) := rfl
  generalize hb : (t == 4) = b at *
  generalize hc : (t == 5) = c at *
  cases b
  · go_enter Tryd.func41, Tryd.ntmps41
    go_wp2
    go_ret
    exact ⟨rfl, rfl⟩
  · go_enter Tryd.func41, Tryd.ntmps41
    go_wp2
    go_ret
    exact ⟨rfl, rfl⟩
theorem isPost_any (t : Int) (w : World) : Calls Tryd.prog 51 #[.int .i64 t] w fun e w' => e = .returned (.bool (isPost t)) ∧ w = w' := by
  unfold isPost
  generalize hb : (t == 6) = b at *
  generalize hc : (t == 7) = c at *
  cases b
  · go_enter Tryd.func51, Tryd.ntmps51
    go_wp2
    go_ret
    exact ⟨rfl, rfl⟩
  · go_enter Tryd.func51, Tryd.ntmps51
    go_wp2
    go_ret
    exact ⟨rfl, rfl⟩
def isTyB (t : Int) : Bool := decide (1 ≤ t) && decide (t ≤ 7)
theorem isType_any (t : Int) (w : World) : Calls Tryd.prog 38 #[.int .i64 t] w fun e w' => e = .returned (.bool (isTyB t)) ∧ w = w' := by
  unfold isTyB
  by_cases h : 1 ≤ t
  · by_cases h2 : t ≤ 7
    · go_enter Tryd.func38, Tryd.ntmps38
      go_wp2
      go_ret
      exact ⟨by simp [h2]; try omega, rfl⟩
    · go_enter Tryd.func38, Tryd.ntmps38
      go_wp2
      go_ret
      exact ⟨by simp [h2]; try omega, rfl⟩
  · go_enter Tryd.func38, Tryd.ntmps38
    go_wp2
    go_ret
    exact ⟨by simp; try omega, rfl⟩
theorem isReserved_any (nm : List UInt8) (w : World) : Calls Tryd.prog 39 #[.string (str nm)] w fun e w' => e = .returned (.bool (reserved nm)) ∧ w = w' := by
  have hb : ∀ c : List UInt8, ((str nm).toList == c) = (nm == c) := fun c => by
    rw [ByteArray.toList_eq, str_data]
  unfold reserved
  have b1 := hb [44]; have b2 := hb [124]; have b3 := hb [91, 93]; have b4 := hb [123, 125]
  clear hb
  generalize (nm == [44]) = x1 at *
  generalize (nm == [124]) = x2 at *
  generalize (nm == [91, 93]) = x3 at *
  generalize (nm == [123, 125]) = x4 at *
  generalize str nm = s at *
  cases x1 <;> cases x2 <;> cases x3 <;> cases x4
  all_goals
    go_enter Tryd.func39, Tryd.ntmps39
    go_wp2
    go_ret
    exact ⟨rfl, rfl⟩
def rankV (t : Int) : Int := if isPre t then 0 else 1
theorem rank_any (t : Int) (w : World) : Calls Tryd.prog 37 #[.int .i64 t] w fun e w' => e = .returned (.int .i64 (rankV t)) ∧ w = w' := by
  have hc := isPre_any t w
  unfold rankV
  generalize isPre t = b at hc ⊢
  have HC := Lib.hid hc; clear hc
  cases b
  all_goals
    go_enter Tryd.func37, Tryd.ntmps37
    go_wp2_with (go_at_call 41; refine HC.out.mono ?_; rintro e w1 ⟨rfl, rfl⟩)
    go_ret
    exact ⟨rfl, rfl⟩
set_option maxHeartbeats 2000000 in
theorem keyOf_any (o : Opv) (w : World) : Calls Tryd.prog 25 #[opVal o] w fun e w' => e = .returned (kvl o.nm (isPre o.ty)) ∧ Keep (fun _ => True) w w' := by
  unfold opVal kvl
  have hc := fun W => isPre_any o.ty W
  generalize isPre o.ty = b at hc ⊢
  generalize o.ty = t at hc ⊢
  generalize o.pr = r
  generalize str o.nm = s
  have HC := Lib.hid hc; clear hc
  have HK := Lib.hid (Keep.refl (fun _ => True) w)
  go_enter Tryd.func25, Tryd.ntmps25
  go_wp2_with fail
  go_region_with (go_at_call 41; refine (HC.out _).mono ?_; rintro e w1 ⟨rfl, rfl⟩)
  all_goals (go_wp2_with fail)
  all_goals exact bodyPost_ret (v := .agg #[.string s, .bool b]) (by simp [results, Tryd.results25, go_sem]) rfl ⟨rfl, ((HK.out.alloc _).alloc _).drew⟩
def fndV (T : Tab) (nm : List UInt8) (p : Bool) : Value := .tuple #[opVal ((find T nm p).getD zOp), .bool (find T nm p).isSome]
set_option maxHeartbeats 2000000 in
theorem after_any {pb mb : Nat} {T : Tab} {nm : List UInt8} (h : TabAt w pb mb T) (hn : nm.length ≤ maxLen) :
    Calls Tryd.prog 16 #[.pointer (some ⟨pb, 0, none⟩), .string (str nm)] w fun e w' => e = .returned (fndV T nm false) ∧ Keep (fun _ => True) w w' := by
  have hh := h.head.cell 0
  have hlt := h.head.lt
  have hl := fun (W : World) (hk : Keep (fun _ => True) w W) => (h.map.keep hk trivial).look hn false
  have HK := Lib.hid (Keep.refl (fun _ => True) w)
  unfold fndV
  unfold kvl at hl
  generalize hx : (find T nm false).getD zOp = x at hl ⊢
  generalize (find T nm false).isSome = b at hl ⊢
  clear h hx hn
  unfold opVal at hl ⊢
  generalize str x.nm = xs at hl ⊢
  generalize x.ty = xt at hl ⊢
  generalize x.pr = xr at hl ⊢
  generalize str nm = s at hl ⊢
  simp at hh
  have hl2 := hl (w.alloc (.cells #[.string ⟨#[]⟩, .int .i64 0, .int .i64 0] 27)) (HK.out.alloc _)
  clear hl
  go_enter Tryd.func16, Tryd.ntmps16
  go_wp2_with fail
  exact bodyPost_ret (v := .tuple #[.agg #[.string xs, .int .i64 xt, .int .i64 xr], .bool b]) (by simp [results, Tryd.results16, go_sem]) rfl ⟨rfl, by repeat (first | exact HK.out | refine Keep.alloc ?_ _ | refine Keep.drew ?_)⟩
set_option maxHeartbeats 2000000 in
theorem prefix_any {pb mb : Nat} {T : Tab} {nm : List UInt8} (h : TabAt w pb mb T) (hn : nm.length ≤ maxLen) :
    Calls Tryd.prog 15 #[.pointer (some ⟨pb, 0, none⟩), .string (str nm)] w fun e w' => e = .returned (fndV T nm true) ∧ Keep (fun _ => True) w w' := by
  have hh := h.head.cell 0
  have hlt := h.head.lt
  have hl := fun (W : World) (hk : Keep (fun _ => True) w W) => (h.map.keep hk trivial).look hn true
  have HK := Lib.hid (Keep.refl (fun _ => True) w)
  unfold fndV
  unfold kvl at hl
  generalize hx : (find T nm true).getD zOp = x at hl ⊢
  generalize (find T nm true).isSome = b at hl ⊢
  clear h hx hn
  unfold opVal at hl ⊢
  generalize str x.nm = xs at hl ⊢
  generalize x.ty = xt at hl ⊢
  generalize x.pr = xr at hl ⊢
  generalize str nm = s at hl ⊢
  simp at hh
  have hl2 := hl (w.alloc (.cells #[.string ⟨#[]⟩, .int .i64 0, .int .i64 0] 27)) (HK.out.alloc _)
  clear hl
  go_enter Tryd.func15, Tryd.ntmps15
  go_wp2_with fail
  exact bodyPost_ret (v := .tuple #[.agg #[.string xs, .int .i64 xt, .int .i64 xr], .bool b]) (by simp [results, Tryd.results15, go_sem]) rfl ⟨rfl, by repeat (first | exact HK.out | refine Keep.alloc ?_ _ | refine Keep.drew ?_)⟩
end
end Go.Proofs.YtbjnbfoedicelaaDoor
