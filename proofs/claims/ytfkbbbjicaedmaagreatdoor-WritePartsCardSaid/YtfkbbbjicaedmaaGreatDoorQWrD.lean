/-
  A writer in memory: its bytes in a row of its own; what WriteByte, WriteString and String do. Condition: fewer than 2^47 bytes.
-/
import Derived.Test.YtfkbbbjicaedmaaGreatDoorQMD
import Derived.Lib.Builder
import Derived.Lib.AppendStr
import Derived.Lib.UnsafeStr
import Derived.Lib.Walk
import Derived.WalkKit
import Derived.Laws.Externs
import Derived.Shelf.RegionOpenPlain
namespace Go.Proofs.YtfkbbbjicaedmaaGreatDoor
open Go.RowKit
set_option linter.unusedVariables false
set_option linter.unusedSimpArgs false
structure WAt (B : Nat) (R : Nat → Prop) (w : World) (b : Nat) (l : List UInt8) : Prop where
  ex : ∃ p v, Blk w b 46 #[p, v] ∧ (p = .pointer none ∨ p = .pointer (some ⟨b, 0, none⟩)) ∧ w.ownsRow B 5 1 v l.length (Lib.byteCells l) ∧ (∀ k, v.ownBlock = some k → R k ∧ k ≠ b)
  rb : R b
  rr : ∀ k, R k → B ≤ k ∧ k < w.heap.size
  le : B ≤ w.heap.size
def Wr (B : Nat) (R : Nat → Prop) (w w' : World) (b : Nat) (l : List UInt8) : Prop :=
  (∃ R', WAt B R' w' b l ∧ ∀ k, R' k → R k ∨ w.heap.size ≤ k) ∧ Keep (fun g => g < w.heap.size ∧ ¬ R g) w w'
section
variable {B b : Nat} {R : Nat → Prop} {w w' w2 : World} {l : List UInt8}
theorem WAt.lt (h : WAt B R w b l) : b < w.heap.size := (h.rr b h.rb).2
theorem WAt.on (h : WAt B R w b l) (hk : Keep (fun g => g < w.heap.size) w w') : WAt B R w' b l := by
  obtain ⟨p, v, hb, hp, ho, hv⟩ := h.ex
  refine ⟨⟨p, v, hb.keep hk hb.lt, hp, ?_, hv⟩, h.rb, fun k hr => ⟨(h.rr k hr).1, Nat.lt_of_lt_of_le (h.rr k hr).2 hk.size⟩, Nat.le_trans h.le hk.size⟩
  exact row_on ho hk fun g hg => (h.rr g (hv g hg).1).2
theorem liesW : liesAt Tryz.prog Tryz.prog.depth 46 (2 / Tryz.prog.cellsOf 46) 0 44 1 = true := by kernel_rfl
theorem sizeBl : ∃ j, Tryz.prog.info? 44 = some j ∧ j.size = 2 := by
  have h1 : ((Tryz.prog.info? 44).map fun i => i.size) = some 2 := by kernel_rfl
  obtain ⟨i, hi, he⟩ := Option.map_eq_some_iff.1 h1
  exact ⟨i, hi, he⟩
theorem infoB : ∃ i, Tryz.prog.info? 5 = some i ∧ i.zero = some (.int .u8 0) ∧ i.size = 1 ∧ i.bytes = 1 := by
  have h1 : ((Tryz.prog.info? 5).map fun i => (i.zero, i.size, i.bytes)) = some (some (.int .u8 0), 1, 1) := by kernel_rfl
  obtain ⟨i, hi, he⟩ := Option.map_eq_some_iff.1 h1
  obtain ⟨e1, e2⟩ := Prod.mk.inj he
  obtain ⟨e2, e3⟩ := Prod.mk.inj e2
  exact ⟨i, hi, e1, e2, e3⟩
set_option maxHeartbeats 2000000 in
set_option maxRecDepth 100000 in
theorem copyCheck_w {p v : Value} (hb : Blk w b 46 #[p, v]) (hp : p = .pointer none ∨ p = .pointer (some ⟨b, 0, none⟩)) :
    Calls Tryz.prog 45 #[.pointer (some ⟨b, 0, none⟩)] w fun e w' => e = .returned (.tuple #[]) ∧ Blk w' b 46 #[.pointer (some ⟨b, 0, none⟩), v] ∧ Keep (fun g => g ≠ b) w w' ∧ w'.heap.size = w.heap.size := by
  obtain ⟨j, hj, hjs⟩ := sizeBl
  have h0 := hb.cell 0
  have f0 := hb.frozen 0
  have hsh : w.shape? b = some (46, 2) := by
    have hb' : w.heap[b]? = some (.cells #[p, v] 46 (0, 0)) := hb
    simp [World.shape?, hb']
  rcases hp with rfl | rfl
  · have h9 : w.cell? ⟨b, 0, none⟩ = some (.pointer none) := h0
    have hK : Keep (fun g => g ≠ b) w (w.setCell ⟨b, 0, none⟩ (.pointer (some ⟨b, 0, none⟩))) := (Keep.refl _ w).setCell (fun h => h rfl) _
    have hB : Blk (w.setCell ⟨b, 0, none⟩ (.pointer (some ⟨b, 0, none⟩))) b 46 #[.pointer (some ⟨b, 0, none⟩), v] := hb.set_ 0 _
    have hS : (w.setCell ⟨b, 0, none⟩ (.pointer (some ⟨b, 0, none⟩))).heap.size = w.heap.size := by simp [World.setCell]
    have HK := Lib.hid hK; have HB := Lib.hid hB; have HS := Lib.hid hS
    clear hK hB hS hb h0
    go_enter Tryz.func45, Tryz.ntmps45
    go_wp2
    rw [Lib.run_to_unsafe w ⟨b, 0, none⟩ Tryz.underlying41 Tryz.underlying79 hj (by rw [hjs]; decide) hsh (Nat.zero_lt_succ 1)]
    simp only [Result.andThen]
    rw [Oper.upon_value]
    go_wp2
    rw [run_callFunc_extern Tryz.func53 (by kernel_rfl) (by kernel_rfl) (by kernel_rfl) (e := Extern.AbiNoEscape.same) (by kernel_rfl)]
    rw [Lib.run_noEscape]
    simp only [Result.andThen]
    rw [Oper.upon_value]
    go_wp2
    rw [Lib.run_from_unsafe w ⟨b, 0, none⟩ Tryz.underlying79 Tryz.underlying41 hj hsh liesW]
    simp only [Result.andThen]
    rw [Oper.upon_value]
    go_wp2
    go_end0
    exact ⟨rfl, HB.out, HK.out, HS.out⟩
  · have h9 : w.cell? ⟨b, 0, none⟩ = some (.pointer (some ⟨b, 0, none⟩)) := h0
    have HB := Lib.hid hb
    clear h0 hb
    go_enter Tryz.func45, Tryz.ntmps45
    go_wp2
    rw [Lib.run_neq_ptr_same w _ Tryz.underlying41 hj]
    go_wp2
    go_end0
    exact ⟨rfl, HB.out, Keep.refl _ _, rfl⟩
theorem cells_of {b : Nat} {w : World} {p v : Value} (hb : Blk w b 46 #[p, v]) : w.cell? ⟨b, 0, none⟩ = some p ∧ w.cell? ⟨b, 1, none⟩ = some v := ⟨hb.cell 0, hb.cell 1⟩
theorem WAt.put {w1 w3 : World} {v v' : Value} {l' : List UInt8} (h : WAt B R w b l) (hv : ∀ k, v.ownBlock = some k → R k ∧ k ≠ b) (k1 : Keep (fun g => g ≠ b) w w1) (hs1 : w1.heap.size = w.heap.size) {w1' : World} (ka : Keep (fun g => g < w1.heap.size) w1 w1') (kg : w1'.grownBy w3 v.ownBlock) (hn : ∀ k, v'.ownBlock = some k → v.ownBlock = some k ∨ w1.heap.size ≤ k) (hb3 : Blk w3 b 46 #[.pointer (some ⟨b, 0, none⟩), v]) (ho : w3.ownsRow B 5 1 v' l'.length (Lib.byteCells l')) : Wr B R w (w3.setCell ⟨b, 1, none⟩ v') b l' := by
  have kR : Keep (fun g => g < w.heap.size ∧ ¬ R g) w w3 := by
    have h1 : Keep (fun g => g < w.heap.size ∧ ¬ R g) w w1 := k1.less fun g hg e => hg.2 (e ▸ h.rb)
    have h2 : Keep (fun g => g < w.heap.size ∧ ¬ R g) w w1' := h1.trans (ka.less fun g hg => by rw [hs1]; exact hg.1)
    exact h2.trans (Keep.ofGrown kg fun g e hg => hg.2 (hv g e).1)
  have hlt : b < w.heap.size := h.lt
  have hne : v'.ownBlock ≠ some b := fun e => by
    rcases hn b e with h1 | h1
    · exact (hv b h1).2 rfl
    · rw [hs1] at h1; omega
  refine ⟨⟨fun k => R k ∨ v'.ownBlock = some k, ⟨⟨_, v', hb3.set_ 1 v', .inr rfl, ?_, fun k hk => ⟨.inr hk, fun e => hne (e ▸ hk)⟩⟩, .inl h.rb, fun k hk => ?_, ?_⟩, fun k hk => ?_⟩, kR.setCell (fun hx => hx.2 h.rb) _⟩
  · exact row_on ho ((Keep.refl (fun g => g ≠ b) _).setCell (fun h => h rfl) _) fun g hg e => hne (e ▸ hg)
  · rcases hk with hk | hk
    · exact ⟨(h.rr k hk).1, Nat.lt_of_lt_of_le (h.rr k hk).2 (by rw [show (w3.setCell ⟨b, 1, none⟩ v').heap.size = w3.heap.size by simp [World.setCell]]; exact kR.size)⟩
    · have := ho.lt k hk
      exact ⟨this.1, by rw [show (w3.setCell ⟨b, 1, none⟩ v').heap.size = w3.heap.size by simp [World.setCell]]; exact this.2⟩
  · rw [show (w3.setCell ⟨b, 1, none⟩ v').heap.size = w3.heap.size by simp [World.setCell]]; exact Nat.le_trans h.le kR.size
  · rcases hk with hk | hk
    · exact .inl hk
    · rcases hn k hk with h1 | h1
      · exact .inl (hv k h1).1
      · rw [hs1] at h1; exact .inr h1
theorem wpList_append_ran {P : Program} {w w' : World} {ops : Array Oper} {rest : List Oper} {o : Oper} {a : Act} {Q : Exit → Act → World → Prop} (hgd : o.guard = none) (s x : Operand) (t u : TypeId)
    (ho : o.op = .call { callee := .builtin .append, args := #[s, x], argTypes := #[t, u] }) {vs vx v' : Value} (hs : a.eval s = vs) (hx : a.eval x = vx)
    (hr : (Builtin.append_ #[t, u] o.type #[vs, vx]).run P w = .ok v' w') (h : wpList P ops Q rest (a.put o.dst v') w') : wpList P ops Q (o :: rest) a w := by
  refine wpList_plain hgd fun K hK => ?_
  unfold Oper.wp execOp
  simp only [ho, resolve, invoke, builtin, Sem.run_bind, Sem.run_pure, Result.andThen_ok, List.map_toArray, List.map_cons, List.map_nil, hs, hx, hr]
  exact hK _ _ h
theorem own_slice {w : World} {B n sz : Nat} {t : TypeId} {v : Value} {xs : List Value} (h : w.ownsRow B t sz v n xs) : ∃ a n' c, v = .slice a n' c := by
  rcases h.2 with ⟨hv, _⟩ | ⟨g, cap, cur, hv, _⟩
  · exact ⟨_, _, _, hv⟩
  · exact ⟨_, _, _, hv⟩
theorem nil_row (w : World) : w.ownsRow w.heap.size 5 1 (.slice none 0 0) 0 [] := ⟨rfl, .inl ⟨rfl, rfl⟩⟩
theorem append_str {v : Value} {ty : TypeId} {s : List UInt8} (hrow : w.ownsRow B 5 1 v l.length (Lib.byteCells l)) (hn : l.length + s.length ≤ 140737488355328) (hB : B ≤ w.heap.size) :
    ∃ v' w', (Builtin.append_ #[42, 9] ty #[v, .string (str s)]).run Tryz.prog w = .ok v' w' ∧ w'.ownsRow B 5 1 v' (l ++ s).length (Lib.byteCells (l ++ s)) ∧ w.grownBy w' v.ownBlock ∧ (∀ k, v'.ownBlock = some k → v.ownBlock = some k ∨ w.heap.size ≤ k) := by
  obtain ⟨i0, hi, hz0, hz1, hz2⟩ := infoB
  have hs : (str s).size = s.length := str_size s
  have hc : Lib.strCells (str s) = Lib.byteCells s := by rw [Lib.strCells_eq, str_data]
  obtain ⟨v', w', ha, hr, hg, _⟩ := Lib.run_append_own_string (P := Tryz.prog) (w := w) B 42 9 ty 5 i0 Tryz.underlying42 Tryz.underlying9 hi hz0 hz1 hz2 v l.length (Lib.byteCells l) hrow (str s) (by rw [hs]; unfold maxLen; omega) (by rw [hs]; exact hn) hB
  refine ⟨v', w', ha, ?_, hg, fun k hk => ?_⟩
  · rw [List.length_append, Lib.byteCells_append, ← hc, ← hs]; exact hr
  · rcases hrow.2 with ⟨rfl, h0⟩ | ⟨g, cap, cur, rfl, hbg, hgg, hnc, hcm, hcs, htk⟩
    · have hl : l = [] := List.eq_nil_of_length_eq_zero h0
      subst hl
      obtain ⟨v2, w2, ha2, hr2, _⟩ := Lib.run_append_own_string (P := Tryz.prog) (w := w) w.heap.size 42 9 ty 5 i0 Tryz.underlying42 Tryz.underlying9 hi hz0 hz1 hz2 (.slice none 0 0) 0 [] (nil_row w) (str s) (by rw [hs]; unfold maxLen; simp at hn; omega) (by rw [hs]; simpa using hn) (Nat.le_refl _)
      rw [ha] at ha2
      injection ha2 with e1 _
      subst e1
      exact .inr (hr2.lt k hk).1
    · by_cases hroom : l.length + (str s).size ≤ cap
      · have := Lib.run_append_room_string (P := Tryz.prog) (w := w) 42 9 ty 5 i0 Tryz.underlying42 Tryz.underlying9 hi hz1 g l.length cap cur hgg (str s) hroom (by rw [hcs]; omega)
        rw [ha] at this
        injection this with e1 _
        subst e1
        exact .inl hk
      · have holds := hrow.cells (g := g) rfl
        have := Lib.run_append_grow_string (P := Tryz.prog) (w := w) 42 9 ty 5 i0 (.int .u8 0) Tryz.underlying42 Tryz.underlying9 hi hz0 ⟨g, 0, none⟩ l.length cap (Lib.byteCells l) (by rw [hz1, Lib.byteCells_length]; omega) holds (str s) (by omega) (by rw [hs]; omega) (by rw [hz2]; exact growslice_fits (by omega) (by rw [hs]; omega))
        rw [ha] at this
        injection this with e1 _
        subst e1
        cases hk
        exact .inr (Nat.le_refl _)
theorem append_byte {v : Value} {ty : TypeId} {c : UInt8} {b2 : Nat} (hrow : w.ownsRow B 5 1 v l.length (Lib.byteCells l)) (hb : Blk w b2 5 #[.int .u8 c.toNat]) (hn : l.length + 1 ≤ 140737488355328) (hB : B ≤ w.heap.size) :
    ∃ v' w', (Builtin.append_ #[42, 42] ty #[v, .slice (some ⟨b2, 0, none⟩) 1 1]).run Tryz.prog w = .ok v' w' ∧ w'.ownsRow B 5 1 v' (l ++ [c]).length (Lib.byteCells (l ++ [c])) ∧ w.grownBy w' v.ownBlock ∧ (∀ k, v'.ownBlock = some k → v.ownBlock = some k ∨ w.heap.size ≤ k) := by
  obtain ⟨i0, hi, hz0, hz1, hz2⟩ := infoB
  have hnw : ∀ j u, ([.int .u8 c.toNat] : List Value)[j]? = some u → w.cell? ((⟨b2, 0, none⟩ : Addr).add j) = some u := fun j u hu => by
    have e : (⟨b2, 0, none⟩ : Addr).add j = ⟨b2, j, none⟩ := by unfold Addr.add; split <;> simp_all
    rw [e, hb.cell, List.getElem?_toArray]; exact hu
  have hone : ∀ u ∈ ([.int .u8 c.toNat] : List Value), u.oneCell' = true := by intro v hv; simp at hv; subst hv; rfl
  obtain ⟨v', w', ha, hr, hg, _⟩ := run_append_own (P := Tryz.prog) w B 42 ty 5 i0 (.int .u8 0) 1 1 Tryz.underlying42 hi hz0 hz1 hz2 rfl (by decide) v l.length (Lib.byteCells l) hrow ⟨b2, 0, none⟩ 1 1 [.int .u8 c.toNat] rfl hnw hone (by unfold maxLen; omega) (by omega) hB
  refine ⟨v', w', ha, ?_, hg, fun k hk => ?_⟩
  · rw [List.length_append, Lib.byteCells_append]; exact hr
  · rcases hrow.2 with ⟨rfl, h0⟩ | ⟨g, cap, cur, rfl, hbg, hgg, hnc, hcm, hcs, htk⟩
    · have := run_append_nil (P := Tryz.prog) (w := w) 42 ty 5 i0 (.int .u8 0) Tryz.underlying42 hi hz0 ⟨b2, 0, none⟩ 1 1 [.int .u8 c.toNat] (by rw [hz1]; rfl) hnw (by decide) (by decide) (by rw [hz2]; decide)
      rw [ha] at this
      injection this with e1 _
      subst e1
      cases hk
      exact .inr (Nat.le_refl _)
    · by_cases hroom : l.length + 1 ≤ cap
      · have := run_append_room (P := Tryz.prog) w 42 ty 5 i0 Tryz.underlying42 hi g l.length cap cur hgg ⟨b2, 0, none⟩ 1 1 [.int .u8 c.toNat] (by rw [hz1]; rfl) hnw hone hroom (by rw [hz1, hcs]; simp; omega)
        rw [ha] at this
        injection this with e1 _
        subst e1
        exact .inl hk
      · have holds := hrow.cells (g := g) rfl
        have := run_append_grow (P := Tryz.prog) (w := w) 42 ty 5 i0 (.int .u8 0) Tryz.underlying42 hi hz0 ⟨g, 0, none⟩ l.length cap (Lib.byteCells l) (by rw [hz1, Lib.byteCells_length]; omega) holds ⟨b2, 0, none⟩ 1 1 [.int .u8 c.toNat] (by rw [hz1]; rfl) hnw (by omega) (by omega) (by rw [hz2]; exact growslice_fits (by omega) (by omega))
        rw [ha] at this
        injection this with e1 _
        subst e1
        cases hk
        exact .inr (Nat.le_refl _)
set_option maxHeartbeats 4000000 in
set_option maxRecDepth 100000 in
theorem wbyte_any (h : WAt B R w b l) (c : UInt8) (hl : l.length + 1 ≤ 140737488355328) :
    Calls Tryz.prog 36 #[.pointer (some ⟨b, 0, none⟩), .int .u8 c.toNat] w fun e w' => e = .returned .nilIface ∧ Wr B R w w' b (l ++ [c]) := by
  obtain ⟨p, v, hb, hp, hown, hv⟩ := h.ex
  have HCC := Lib.hid (copyCheck_w hb hp)
  have HH := Lib.hid h
  have HO := Lib.hid hown
  have HV := Lib.hid hv
  clear hb hp hown hv h
  go_enter Tryz.func36, Tryz.ntmps36
  go_wp2_with (go_at_call 45; refine HCC.out.mono ?_)
  rintro e w1 ⟨rfl, hb1, k1, hs1⟩
  obtain ⟨c0, c1⟩ := cells_of hb1
  have ho1 : w1.ownsRow B 5 1 v l.length (Lib.byteCells l) := row_on HO.out k1 fun g hg => (HV.out g hg).2
  have ka : Keep (fun g => g < w1.heap.size) w1 (w1.alloc (.cells #[.int .u8 c.toNat] 5)) := (Keep.refl _ _).alloc _
  obtain ⟨v', w2, hA, ho2, kg, hn⟩ := append_byte (ty := 42) (row_on ho1 ka fun g hg => by rw [hs1]; exact (HH.out.rr g (HV.out g hg).1).2) (Blk.new w1 5 #[.int .u8 c.toNat]) hl (by have := HH.out.le; simp; omega)
  obtain ⟨ao, n', cap, rfl⟩ := own_slice ho2
  have hb2 : Blk w2 b 46 #[.pointer (some ⟨b, 0, none⟩), v] := (hb1.keep ka hb1.lt).keep (Keep.ofGrown (X := fun g => g = b) kg fun g e hx => (HV.out g e).2 hx) rfl
  obtain ⟨d0, d1⟩ := cells_of hb2
  have f1 := hb2.frozen 1
  have HW := Lib.hid (WAt.put HH.out HV.out k1 hs1 ka kg (fun k hk => (hn k hk).imp id fun h => Nat.le_trans (by simp) h) hb2 ho2)
  clear ho1 ka ho2 kg hn hb2 hb1 k1 hs1 HH HV HO HCC
  have HA := Lib.hid hA; clear hA
  go_wp2_with (at_builtin; refine wpList_append_ran rfl _ _ 42 42 rfl rfl rfl HA.out ?_)
  go_wp2
  go_ret
  exact ⟨rfl, HW.out⟩
set_option maxHeartbeats 4000000 in
set_option maxRecDepth 100000 in
theorem wstr_any (h : WAt B R w b l) (s : List UInt8) (hl : l.length + s.length ≤ 140737488355328) :
    Calls Tryz.prog 37 #[.pointer (some ⟨b, 0, none⟩), .string (str s)] w fun e w' => e = .returned (.tuple #[.int .i64 (s.length : Int), .nilIface]) ∧ Wr B R w w' b (l ++ s) := by
  obtain ⟨p, v, hb, hp, hown, hv⟩ := h.ex
  have HCC := Lib.hid (copyCheck_w hb hp)
  have HH := Lib.hid h
  have HO := Lib.hid hown
  have HV := Lib.hid hv
  have hz : (str s).size = s.length := str_size s
  clear hb hp hown hv h
  go_enter Tryz.func37, Tryz.ntmps37
  go_wp2_with (go_at_call 45; refine HCC.out.mono ?_)
  rintro e w1 ⟨rfl, hb1, k1, hs1⟩
  obtain ⟨c0, c1⟩ := cells_of hb1
  have ho1 : w1.ownsRow B 5 1 v l.length (Lib.byteCells l) := row_on HO.out k1 fun g hg => (HV.out g hg).2
  obtain ⟨v', w2, hA, ho2, kg, hn⟩ := append_str (ty := 42) (s := s) ho1 hl (by have := HH.out.le; omega)
  obtain ⟨ao, n', cap, rfl⟩ := own_slice ho2
  have hb2 : Blk w2 b 46 #[.pointer (some ⟨b, 0, none⟩), v] := hb1.keep (Keep.ofGrown (X := fun g => g = b) kg fun g e hx => (HV.out g e).2 hx) rfl
  obtain ⟨d0, d1⟩ := cells_of hb2
  have f1 := hb2.frozen 1
  have HW := Lib.hid (WAt.put HH.out HV.out k1 hs1 (Keep.refl _ _) kg hn hb2 ho2)
  clear ho1 ho2 kg hn hb2 hb1 k1 hs1 HH HV HO HCC
  have HA := Lib.hid hA; clear hA
  go_wp2_with (at_builtin; refine wpList_append_ran rfl _ _ 42 9 rfl rfl rfl HA.out ?_)
  go_wp2
  go_ret2
  exact ⟨rfl, HW.out⟩
set_option maxHeartbeats 4000000 in
set_option maxRecDepth 100000 in
theorem wstring_any (h : WAt B R w b l) (h0 : l ≠ []) : Calls Tryz.prog 24 #[.pointer (some ⟨b, 0, none⟩)] w fun e w' => e = .returned (.string (str l)) ∧ Keep (fun g => g < B) w w' := by
  obtain ⟨p, v, hb, hp, hown, hv⟩ := h.ex
  have hl0 : l.length ≠ 0 := by simpa using h0
  obtain ⟨g, cap, cur, rfl, hbg, hg, hnc, hcm, hcs, htake⟩ : ∃ g cap cur, v = .slice (some ⟨g, 0, none⟩) l.length cap ∧ B ≤ g ∧ w.heap[g]? = some (.cells cur 5 (0, 0)) ∧ l.length ≤ cap ∧ cap ≤ maxLen ∧ cur.size = cap * 1 ∧ cur.toList.take (l.length * 1) = Lib.byteCells l := by
    rcases hown.2 with ⟨_, hz⟩ | ⟨g, cap, cur, hv, r⟩
    · exact absurd hz hl0
    · exact ⟨g, cap, cur, hv, r⟩
  have hb' : w.heap[b]? = some (.cells #[p, .slice (some ⟨g, 0, none⟩) l.length cap] 46 (0, 0)) := hb
  have c1 : w.drew.cell? ⟨b, 1, none⟩ = some (.slice (some ⟨g, 0, none⟩) l.length cap) := by
    have : w.drew.heap[b]? = some (.cells #[p, .slice (some ⟨g, 0, none⟩) l.length cap] 46 (0, 0)) := hb
    rw [Lib.cell_of_heap this]; rfl
  have hSD : (Builtin.unsafeSliceData_ #[42] 64 #[.slice (some ⟨g, 0, none⟩) l.length cap]).run Tryz.prog w.drew = .ok (.pointer (some ⟨g, 0, none⟩)) w.drew :=
    Lib.run_unsafeSliceData_row _ _ _ _ _ _ (by omega)
  have hUS : (Builtin.unsafeString_ #[64, 3] 9 #[.pointer (some ⟨g, 0, none⟩), .int .i64 l.length]).run Tryz.prog w.drew = .ok (.string (str l)) (w.drew.freeze ⟨g, 0, none⟩ l.length) := by
    refine Lib.run_unsafeString_row w.drew 64 3 9 5 Tryz.underlying64 (by kernel_rfl) g cur.size (by have hg' : w.drew.heap[g]? = some (.cells cur 5 (0, 0)) := hg; simp [World.shape?, hg']) l h0 (by omega) (by unfold maxLen at hcm; omega) ?_
    intro j x hx
    have := hown.cells (g := g) rfl j (.int .u8 x.toNat) (by simp [Lib.byteCells, hx])
    exact this
  have kF : Keep (fun k => k < B) w (w.drew.freeze ⟨g, 0, none⟩ l.length) := by
    have hf := Lib.below_freeze (Below.drew (Below.refl B w)) (p := ⟨g, 0, none⟩) hbg l.length
    exact Keep.ofBelow hf fun k hk => hk
  have HK := Lib.hid kF
  clear kF hb hp hown hv htake hcs hcm hnc hg hb'
  have mixed : Tryz.prog.follows Departure.mixedOrders = true := by kernel_rfl
  go_enter Tryz.func24, Tryz.ntmps24
  go_wp2
  go_region_o
  all_goals (go_wp2; go_ret; exact ⟨rfl, HK.out⟩)
end
end Go.Proofs.YtfkbbbjicaedmaaGreatDoor
