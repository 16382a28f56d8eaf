/-
  Package ops: why a name can't be this operator. No condition.
-/
import Derived.Test.YtbjnbfoedicelaaDoorOp4
namespace Go.Proofs.YtbjnbfoedicelaaDoor
open Go.RowKit Go.Maps
set_option linter.unusedVariables false
set_option linter.unusedSimpArgs false

section
variable {w : World}
set_option maxRecDepth 100000 in
set_option maxHeartbeats 4000000 in
theorem check_any {pb mb : Nat} {T : Tab} {o : Opv} (h : TabAt w pb mb T) (hl : T.length ≤ 200) (ho : Fits o) :
    Calls Tryd.prog 24 #[.pointer (some ⟨pb, 0, none⟩), opVal o] w fun e w' => e = .returned (.int .i64 (checkV T o)) ∧ Keep (fun _ => True) w w' := by
  have hlt := h.head.lt
  have HK := Lib.hid (Keep.refl (fun _ => True) w)
  have hcell := fun W (hk : Keep (fun _ => True) w W) => (h.head.keep hk trivial).cell 0
  have hko := fun W => keyOf_any o W
  have hlk := fun W (hk : Keep (fun _ => True) w W) => (h.map.keep hk trivial).look ho.nm (isPre o.ty)
  have hln := fun W (hk : Keep (fun _ => True) w W) (ty : TypeId) => (h.map.keep hk trivial).len ty
  have hio := fun W (hk : Keep (fun _ => True) w W) => isOther_any (h.keep hk trivial trivial) ho.nm
  have hsz := str_size o.nm
  have hir := fun W => isReserved_any o.nm W
  have hty := fun W => isType_any o.ty W
  unfold checkV
  obtain ⟨b, hb⟩ : ∃ b, (find T o.nm (isPre o.ty)).isSome = b := ⟨_, rfl⟩
  have hnone : (find T o.nm (isPre o.ty)).isNone = !b := by rw [← hb]; cases find T o.nm (isPre o.ty) <;> rfl
  rw [hnone]
  rw [hb] at hlk
  obtain ⟨x, hx⟩ : ∃ x, (find T o.nm (isPre o.ty)).getD zOp = x := ⟨_, rfl⟩
  rw [hx] at hlk
  have HN := ho.nm
  clear hnone hb hx
  generalize reserved o.nm = rs at hir ⊢
  generalize other T o = ot at hio ⊢
  unfold isTyB at hty
  obtain ⟨s, hs⟩ : ∃ s, str o.nm = s := ⟨_, rfl⟩
  unfold opVal at hko hio hlk ⊢
  unfold kvl at hko hlk
  rw [hs] at hko hio hlk hsz hir ⊢
  generalize isPre o.ty = p at hko hlk ⊢
  obtain ⟨t, ht⟩ : ∃ t, o.ty = t := ⟨_, rfl⟩
  obtain ⟨r, hr⟩ : ∃ r, o.pr = r := ⟨_, rfl⟩
  rw [ht] at hko hio hty ⊢
  rw [hr] at hko hio ⊢
  generalize str x.nm = xs at hlk
  generalize x.ty = xt at hlk
  generalize x.pr = xr at hlk
  have hT : (T.length : Int) ≤ 200 := by omega
  rw [← hsz]
  obtain ⟨cv, hcv⟩ : ∃ cv : Int, (if t < 1 ∨ 7 < t ∨ r < 0 ∨ 1200 < r then 1 else if s.size = 0 ∨ 64 < s.size then 2 else if (rs || ot) = true then 90 else if 0 < r ∧ (!b) = true ∧ 200 ≤ T.length then 3 else 0) = cv := ⟨_, rfl⟩
  rw [hcv]
  have HCV := Lib.hid hcv; clear hcv
  have HW := Lib.hid (fun W (hk : Keep (fun _ => True) w W) => (h.keep hk trivial trivial))
  clear h hs ht hr
  have HC := Lib.hid hcell; clear hcell
  have HKO := Lib.hid hko; clear hko
  have HLK := Lib.hid hlk; clear hlk
  have HLN := Lib.hid hln; clear hln
  have HIO := Lib.hid hio; clear hio
  have HIR := Lib.hid hir; clear hir
  have HTY := Lib.hid hty; clear hty
  have HSZ := Lib.hid hsz; clear hsz
  have K0 := Lib.hid (HK.out.alloc (.cells #[.string s, .int .i64 t, .int .i64 r] 27))
  have c0 := HC.out _ K0.out
  simp at c0
  obtain ⟨Z, hZ⟩ : ∃ Z : Array Value, Z = #[.string ⟨#[]⟩, .int .i64 0, .int .i64 0] := ⟨_, rfl⟩
  have hko2 : ∀ W, Keep (fun _ => True) (w.alloc (.cells #[.string s, .int .i64 t, .int .i64 r] 27)) W → Calls Tryd.prog 25 #[.agg #[.string s, .int .i64 t, .int .i64 r]] W fun e w1 =>
      e = .returned (.agg #[.string s, .bool p]) ∧ w1.cell? ⟨pb, 0, none⟩ = some (.map (some mb)) ∧ w.heap.size < w1.heap.size ∧ pb < w1.heap.size ∧
      (Instr.lookup 42 (.map (some mb)) (.agg #[.string s, .bool p]) true).run Tryd.prog w1 = .ok (.tuple #[.agg #[.string xs, .int .i64 xt, .int .i64 xr], .bool b]) w1 ∧
      (Instr.lookup 42 (.map (some mb)) (.agg #[.string s, .bool p]) true).run Tryd.prog (w1.alloc (.cells #[.string ⟨#[]⟩, .int .i64 0, .int .i64 0] 27)) = .ok (.tuple #[.agg #[.string xs, .int .i64 xt, .int .i64 xr], .bool b]) (w1.alloc (.cells #[.string ⟨#[]⟩, .int .i64 0, .int .i64 0] 27)) ∧
      Hid (Keep (fun _ => True) w w1) ∧ Hid (Blk w1 w.heap.size 27 #[.string s, .int .i64 t, .int .i64 r]) ∧ Hid (∀ g tt cs, Blk W g tt cs → Blk w1 g tt cs) := by
    intro W hW
    refine (HKO.out _).mono ?_
    rintro e w1 ⟨he, k1⟩
    have b1 := ((Blk.new w 27 #[.string s, .int .i64 t, .int .i64 r]).keep hW trivial).keep k1 trivial
    have k2 := (K0.out.trans hW).trans k1
    have c1 := HC.out _ k2
    exact ⟨he, by simpa using c1, b1.lt, by have := b1.lt; omega, HLK.out _ k2, HLK.out _ (k2.alloc _), Lib.hid k2, Lib.hid b1, Lib.hid (fun g tt cs hb => hb.keep k1 trivial)⟩
  have HK2 := Lib.hid hko2; clear hko2
  have KR := Lib.hid (Keep.refl (fun _ => True) (w.alloc (.cells #[.string s, .int .i64 t, .int .i64 r] 27)))
  go_enter Tryd.func24, Tryd.ntmps24
  go_upto_region 1 with (fail)
  go_cut [5, 6] (fun s5 s6 wx => s6 = .bool b ∧ (∃ g, s5 = .pointer (some ⟨g, 0, none⟩)) ∧ Hid (Keep (fun _ => True) w wx) ∧ Hid (Blk wx w.heap.size 27 #[.string s, .int .i64 t, .int .i64 r]))
  case first =>
    go_region_with (go_at_call 25; refine (HK2.out _ (by repeat (first | with_reducible exact KR.out | with_reducible refine Keep.alloc ?_ _ | with_reducible refine Keep.drew ?_))).mono ?_; rintro e w1 ⟨rfl, c1, z1, zp, l1, l2, k1, b1, hz⟩; (first | (have bz := hz.out _ _ _ (Blk.new (w.alloc (.cells #[.string s, .int .i64 t, .int .i64 r] 27)).drew 27 #[.string ⟨#[]⟩, .int .i64 0, .int .i64 0]); have z2 := bz.lt; simp at z2; have d0 := bz.cell 0; have d1 := bz.cell 1; have d2 := bz.cell 2; have f0 := bz.frozen 0; have f1 := bz.frozen 1; have f2 := bz.frozen 2; simp at d0 d1 d2 f0 f1 f2; clear bz; clear hz) | clear hz))
    all_goals (go_wp2_with fail)
    all_goals go_meet
    all_goals refine ⟨rfl, ⟨_, rfl⟩, Lib.hid (Keep.all ?_), Lib.hid ?_⟩
    all_goals repeat (first | with_reducible exact k1.out.less (fun _ _ => trivial) | with_reducible exact b1.out | with_reducible refine Keep.alloc ?_ _ | with_reducible refine Keep.drew ?_ | with_reducible refine Keep.setCell ?_ (by simp) _ | with_reducible refine Blk.alloc ?_ _ | with_reducible refine Blk.drew ?_ | with_reducible refine Blk.far ?_ (by simp) _)
    all_goals trace_state
  case rest =>
  obtain ⟨rfl, ⟨g, rfl⟩, KX, BX⟩ := hcut
  clear HK2
  have x0 := BX.out.cell 0
  have x1 := BX.out.cell 1
  have x2 := BX.out.cell 2
  simp at x0 x1 x2
  clear HSZ hl ho HN
  obtain ⟨ty, hty⟩ : ∃ ty, (decide (1 ≤ t) && decide (t ≤ 7)) = ty := ⟨_, rfl⟩
  have HTY2 := Lib.hid (fun W => hty ▸ HTY.out W)
  clear HTY
  cases ty
  · have hv : cv = 1 := by rw [← HCV.out]; exact if_pos (by simp at hty; omega)
    have HV := Lib.hid hv; clear hv hty
    go_wp2_with (first
      | (go_at_call 38; refine (HTY2.out _).mono ?_; rintro e w' ⟨rfl, rfl⟩)
      | (go_at_call 39; refine (HIR.out _).mono ?_; rintro e w' ⟨rfl, rfl⟩))
    go_ret
    exact ⟨by rw [HV.out]; first | done | rfl, KX.out⟩
  simp only [Bool.and_eq_true, decide_eq_true_eq] at hty
  by_cases h2 : r < 0
  · have hv : cv = 1 := by rw [← HCV.out]; exact if_pos (by omega)
    have HV := Lib.hid hv; clear hv hty
    go_wp2_with (first
      | (go_at_call 38; refine (HTY2.out _).mono ?_; rintro e w' ⟨rfl, rfl⟩)
      | (go_at_call 39; refine (HIR.out _).mono ?_; rintro e w' ⟨rfl, rfl⟩))
    go_ret
    exact ⟨by rw [HV.out]; first | done | rfl, KX.out⟩
  have d2 : decide (r < 0) = false := by simpa using h2
  by_cases h3 : 1200 < r
  · have hv : cv = 1 := by rw [← HCV.out]; exact if_pos (by omega)
    have HV := Lib.hid hv; clear hv hty
    go_wp2_with (first
      | (go_at_call 38; refine (HTY2.out _).mono ?_; rintro e w' ⟨rfl, rfl⟩)
      | (go_at_call 39; refine (HIR.out _).mono ?_; rintro e w' ⟨rfl, rfl⟩))
    go_ret
    exact ⟨by rw [HV.out]; first | done | rfl, KX.out⟩
  have hcv := HCV.out
  rw [if_neg (by omega)] at hcv
  have HCV2 := Lib.hid hcv; clear hcv
  clear hty
  have d3 : decide (1200 < r) = false := by simpa using h3
  by_cases h4 : s.size = 0
  · have hv : cv = 2 := by rw [← HCV2.out]; exact if_pos (by omega)
    have HV := Lib.hid hv; clear hv
    go_wp2_with (first
      | (go_at_call 38; refine (HTY2.out _).mono ?_; rintro e w' ⟨rfl, rfl⟩)
      | (go_at_call 39; refine (HIR.out _).mono ?_; rintro e w' ⟨rfl, rfl⟩))
    go_ret
    exact ⟨by rw [HV.out]; first | done | rfl, KX.out⟩
  have d4 : ((s.size : Int) == 0) = false := by simpa using h4
  by_cases h5 : 64 < s.size
  · have hv : cv = 2 := by rw [← HCV2.out]; exact if_pos (by omega)
    have HV := Lib.hid hv; clear hv
    go_wp2_with (first
      | (go_at_call 38; refine (HTY2.out _).mono ?_; rintro e w' ⟨rfl, rfl⟩)
      | (go_at_call 39; refine (HIR.out _).mono ?_; rintro e w' ⟨rfl, rfl⟩))
    go_ret
    exact ⟨by rw [HV.out]; first | done | rfl, KX.out⟩
  have d5 : decide (64 < (s.size : Int)) = false := by simp; omega
  have hcv := HCV2.out
  rw [if_neg (by omega)] at hcv
  have HCV3 := Lib.hid hcv; clear hcv
  cases rs
  · cases ot
    · by_cases h6 : 0 < r
      · have d6 : decide (0 < r) = true := by simpa using h6
        cases b
        · by_cases h7 : 200 ≤ T.length
          · have h7' : decide ((200 : Int) ≤ T.length) = true := by simp; omega
            go_wp2_with (first
              | (go_at_call 38; refine (HTY2.out _).mono ?_; rintro e w' ⟨rfl, rfl⟩)
              | (go_at_call 39; refine (HIR.out _).mono ?_; rintro e w' ⟨rfl, rfl⟩)
              | (go_at_call 40; refine (HIO.out _ KX.out).mono ?_; go_loud (rintro e w3 ⟨rfl, k3⟩; have y2 := (BX.out.keep k3 trivial).cell 2; have c3 := HC.out _ (KX.out.trans k3); have n3 := HLN.out _ (KX.out.trans k3) 3; simp at y2 c3; have K3 := Lib.hid (KX.out.trans k3); clear k3)))
            go_ret
            exact ⟨by have := HCV3.out; simp [h6, h7] at this; rw [← this]; first | done | rfl, K3.out⟩
          · have h7' : decide ((200 : Int) ≤ T.length) = false := by simp; omega
            go_wp2_with (first
              | (go_at_call 38; refine (HTY2.out _).mono ?_; rintro e w' ⟨rfl, rfl⟩)
              | (go_at_call 39; refine (HIR.out _).mono ?_; rintro e w' ⟨rfl, rfl⟩)
              | (go_at_call 40; refine (HIO.out _ KX.out).mono ?_; rintro e w3 ⟨rfl, k3⟩; have y2 := (BX.out.keep k3 trivial).cell 2; have c3 := HC.out _ (KX.out.trans k3); have n3 := HLN.out _ (KX.out.trans k3) 3; simp at y2 c3; have K3 := Lib.hid (KX.out.trans k3); clear k3))
            go_ret
            exact ⟨by have := HCV3.out; simp [h6, h7] at this; rw [← this]; first | done | rfl, K3.out⟩
        · skip
          go_wp2_with (first
            | (go_at_call 38; refine (HTY2.out _).mono ?_; rintro e w' ⟨rfl, rfl⟩)
            | (go_at_call 39; refine (HIR.out _).mono ?_; rintro e w' ⟨rfl, rfl⟩)
            | (go_at_call 40; refine (HIO.out _ KX.out).mono ?_; rintro e w3 ⟨rfl, k3⟩; have y2 := (BX.out.keep k3 trivial).cell 2; have c3 := HC.out _ (KX.out.trans k3); have n3 := HLN.out _ (KX.out.trans k3) 3; simp at y2 c3; have K3 := Lib.hid (KX.out.trans k3); clear k3))
          go_ret
          exact ⟨by have := HCV3.out; simp at this; rw [← this]; first | done | rfl, K3.out⟩
      · skip
        go_wp2_with (first
          | (go_at_call 38; refine (HTY2.out _).mono ?_; rintro e w' ⟨rfl, rfl⟩)
          | (go_at_call 39; refine (HIR.out _).mono ?_; rintro e w' ⟨rfl, rfl⟩)
          | (go_at_call 40; refine (HIO.out _ KX.out).mono ?_; rintro e w3 ⟨rfl, k3⟩; have y2 := (BX.out.keep k3 trivial).cell 2; have c3 := HC.out _ (KX.out.trans k3); have n3 := HLN.out _ (KX.out.trans k3) 3; simp at y2 c3; have K3 := Lib.hid (KX.out.trans k3); clear k3))
        go_ret
        exact ⟨by have := HCV3.out; rw [if_neg (by simp), if_neg (by omega)] at this; rw [← this]; first | done | rfl, K3.out⟩
    · skip
      go_wp2_with (first
        | (go_at_call 38; refine (HTY2.out _).mono ?_; rintro e w' ⟨rfl, rfl⟩)
        | (go_at_call 39; refine (HIR.out _).mono ?_; rintro e w' ⟨rfl, rfl⟩)
        | (go_at_call 40; refine (HIO.out _ KX.out).mono ?_; rintro e w3 ⟨rfl, k3⟩; have y2 := (BX.out.keep k3 trivial).cell 2; have c3 := HC.out _ (KX.out.trans k3); have n3 := HLN.out _ (KX.out.trans k3) 3; simp at y2 c3; have K3 := Lib.hid (KX.out.trans k3); clear k3))
      go_ret
      exact ⟨by have := HCV3.out; simp at this; rw [← this]; first | done | rfl, K3.out⟩
  · skip
    go_wp2_with (first
      | (go_at_call 38; refine (HTY2.out _).mono ?_; rintro e w' ⟨rfl, rfl⟩)
      | (go_at_call 39; refine (HIR.out _).mono ?_; rintro e w' ⟨rfl, rfl⟩)
      | (go_at_call 40; refine (HIO.out _ KX.out).mono ?_; rintro e w3 ⟨rfl, k3⟩; have y2 := (BX.out.keep k3 trivial).cell 2; have c3 := HC.out _ (KX.out.trans k3); have n3 := HLN.out _ (KX.out.trans k3) 3; simp at y2 c3; have K3 := Lib.hid (KX.out.trans k3); clear k3))
    go_ret
    exact ⟨by have := HCV3.out; simp at this; rw [← this]; first | done | rfl, KX.out⟩
end
end Go.Proofs.YtbjnbfoedicelaaDoor
