/-
  CellsSwaps: no step by swapping is lost: the cell holds as many as have gone well. No condition: every slice of picks, every number of threads.
-/
import Derived.Test.YtbgbknbfleiakaaArgs
import Derived.Deep.RegionWith
import Derived.BigRegion
namespace Go.Proofs.Ytbgbknbfleiakaa
open Go.RowKit Go.Maps

theorem i64_and7 (n : Int) : bits .and .i64 n 7 = n % 8 := by
  have h7 : (BitVec.ofInt 64 7).toNat = 2 ^ 3 - 1 := by decide
  have key : (BitVec.ofInt 64 n &&& BitVec.ofInt 64 7).toNat = (n % ((2 ^ 64 : Nat) : Int)).toNat % 2 ^ 3 := by
    rw [BitVec.toNat_and, BitVec.toNat_ofInt, h7, Nat.and_two_pow_sub_one_eq_mod]
  show IntKind.i64.wrap ((BitVec.ofInt 64 n &&& BitVec.ofInt 64 7).toNat : Nat) = n % 8
  rw [key, IntKind.wrap_i64]
  omega

def B0 : AS := ⟨10, 0, 0, 0, []⟩
def Bd (d : Int) : AS := ⟨10, 1, 1, 0, [(1, [d])]⟩
def boolsOf (bs : List Bool) : Array Value := (bs.map Value.bool).toArray
section
variable {w : World} {X : Nat → Prop} {pa : Nat}
theorem sw0 (hX : ∀ k, w.heap.size ≤ k → ¬ X k) : Calls Try.prog 8 #[.int .i64 10] w fun e w' => e = .returned (.pointer (some ⟨w.heap.size + 1, 0, none⟩)) ∧ Arena w' X (w.heap.size + 1) B0 ∧ Below w.heap.size w w' := new_any 10 w X hX
theorem sw1 (h : Arena w X pa B0) (hX : ∀ k, w.heap.size ≤ k → ¬ X k) : Calls Try.prog 19 #[.pointer (some ⟨pa, 0, none⟩), .int .i64 1] w fun e w' => e = .returned (.tuple #[.int .i64 1, .int .i64 0]) ∧ Arena w' X pa (Bd 0) ∧ Keep X w w' := alloc_any h 1 (by decide) hX
theorem sw2 {d : Int} (h : Arena w X pa (Bd d)) : Calls Try.prog 17 #[.pointer (some ⟨pa, 0, none⟩), .int .i64 1, .int .i64 0] w fun e w' => e = .returned (.tuple #[.int .i64 d, .int .i64 0]) ∧ w = w' := load_hit h (b := 1) (by decide) (cs := [d]) rfl (i := 0) (by simp)
theorem sw3 {d : Int} (h : Arena w X pa (Bd d)) : Calls Try.prog 21 #[.pointer (some ⟨pa, 0, none⟩), .int .i64 1, .int .i64 0, .int .i64 d, .int .i64 (wrap64 (d + 1))] w fun e w' => e = .returned (.tuple #[.bool true, .int .i64 0]) ∧ Arena w' X pa (Bd (wrap64 (d + 1))) ∧ Keep X w w' := by
  have h0 := swap_any h (b := 1) (by decide) 0 d (wrap64 (d + 1))
  have e1 : (Bd d).swapOk 1 0 d = true := by
    have : (Bd d).swapOk 1 0 d = decide (0 ≤ (0 : Int) ∧ (0 : Int) < ([d] : List Int).length ∧ ([d] : List Int).getD 0 0 = d) := rfl
    rw [this]; simp
  have e2 : (Bd d).swapAt 1 0 d (wrap64 (d + 1)) = Bd (wrap64 (d + 1)) := by
    have : (Bd d).swapAt 1 0 d (wrap64 (d + 1)) = if 0 ≤ (0 : Int) ∧ (0 : Int) < ([d] : List Int).length ∧ ([d] : List Int).getD 0 0 = d then (Bd d).set 1 ([d].set 0 (wrap64 (d + 1))) else Bd d := rfl
    rw [this, if_pos (by simp)]; rfl
  rw [e1, e2] at h0
  exact h0
theorem sw3v {d v : Int} (h : Arena w X pa (Bd d)) (hv : v = wrap64 (d + 1)) : Calls Try.prog 21 #[.pointer (some ⟨pa, 0, none⟩), .int .i64 1, .int .i64 0, .int .i64 d, .int .i64 v] w fun e w' => e = .returned (.tuple #[.bool true, .int .i64 0]) ∧ Arena w' X pa (Bd (wrap64 (d + 1))) ∧ Keep X w w' := by
  subst hv; exact sw3 h
theorem sw4 {d o : Int} (h : Arena w X pa (Bd d)) (hne : d ≠ o) (v : Int) : Calls Try.prog 21 #[.pointer (some ⟨pa, 0, none⟩), .int .i64 1, .int .i64 0, .int .i64 o, .int .i64 v] w fun e w' => e = .returned (.tuple #[.bool false, .int .i64 0]) ∧ Arena w' X pa (Bd d) ∧ Keep X w w' := by
  have h0 := swap_any h (b := 1) (by decide) 0 o v
  have e1 : (Bd d).swapOk 1 0 o = false := by
    have : (Bd d).swapOk 1 0 o = decide (0 ≤ (0 : Int) ∧ (0 : Int) < ([d] : List Int).length ∧ ([d] : List Int).getD 0 0 = o) := rfl
    rw [this]; simpa using hne
  have e2 : (Bd d).swapAt 1 0 o v = Bd d := by
    have : (Bd d).swapAt 1 0 o v = if 0 ≤ (0 : Int) ∧ (0 : Int) < ([d] : List Int).length ∧ ([d] : List Int).getD 0 0 = o then (Bd d).set 1 ([d].set 0 v) else Bd d := rfl
    rw [this, if_neg (by simpa using hne)]
  rw [e1, e2] at h0
  exact h0
end
theorem info4 : (Try.prog.info? 4).map (fun i => (i.zero, i.size, i.bytes)) = some (some (.bool false), 1, 1) := by kernel_rfl
theorem madeCells_false (n : Nat) : madeCells #[Value.bool false] n = boolsOf (List.replicate n false) := by
  unfold madeCells boolsOf
  apply Array.ext_getElem?
  intro i
  by_cases hi : i < n <;> simp [hi, Nat.mod_one]
theorem boolsOf_get {bs : List Bool} {i : Nat} (hi : i < bs.length) : (boolsOf bs)[i]? = some (.bool (bs.getD i false)) := by
  simp [boolsOf, List.getD, hi]
theorem boolsOf_set (bs : List Bool) (i : Nat) (v : Bool) : (boolsOf bs).setIfInBounds i (.bool v) = boolsOf (bs.set i v) := by
  apply Array.ext_getElem?
  intro j
  simp only [boolsOf, Array.getElem?_setIfInBounds, List.getElem?_toArray, List.getElem?_map, List.getElem?_set, List.size_toArray, List.length_map]
  by_cases hj : i = j <;> by_cases hl : j < bs.length <;> simp [hj, hl]

/-- What holds at the head of a round. -/
structure SwRel (w wr : World) (pa s r T : Nat) (d : Int) : Prop where
  below : Below w.heap.size w wr
  arena : Arena wr (fun k => k < w.heap.size ∨ k = s ∨ k = r) pa (Bd d)
  hs : w.heap.size ≤ s
  hr : w.heap.size ≤ r
  sr : s ≠ r
  seen : ∃ zs : List Int, zs.length = T ∧ Blk wr s 2 (cellsOf zs)
  reads : ∃ bs : List Bool, bs.length = T ∧ Blk wr r 4 (boolsOf bs)

theorem SwRel.setR {w wr : World} {pa s r T : Nat} {d : Int} (h : SwRel w wr pa s r T d) (i : Nat) (v : Bool) : SwRel w (wr.setCell ⟨r, i, none⟩ (.bool v)) pa s r T d := by
  obtain ⟨h1, h2, h3, h4, h5, ⟨zs, z1, z2⟩, ⟨bs, y1, y2⟩⟩ := h
  refine ⟨h1.setCell (by simpa using h4) _, h2.setCell (.inr (.inr rfl)) _, h3, h4, h5, ⟨zs, z1, z2.far (by simpa using h5) _⟩, ⟨bs.set i v, by simpa using y1, ?_⟩⟩
  rw [← boolsOf_set]; exact y2.set_ i _
theorem SwRel.setS {w wr : World} {pa s r T : Nat} {d : Int} (h : SwRel w wr pa s r T d) (i : Nat) (v : Int) : SwRel w (wr.setCell ⟨s, i, none⟩ (.int .i64 v)) pa s r T d := by
  obtain ⟨h1, h2, h3, h4, h5, ⟨zs, z1, z2⟩, ⟨bs, y1, y2⟩⟩ := h
  refine ⟨h1.setCell (by simpa using h3) _, h2.setCell (.inr (.inl rfl)) _, h3, h4, h5, ⟨zs.set i v, by simpa using z1, ?_⟩, ⟨bs, y1, y2.far (by simpa using h5.symm) _⟩⟩
  rw [← cellsOf_set]; exact z2.set_ i _
theorem SwRel.swap {w wr w1 : World} {pa s r T : Nat} {d d' : Int} (h : SwRel w wr pa s r T d) (ha : Arena w1 (fun k => k < w.heap.size ∨ k = s ∨ k = r) pa (Bd d')) (hk : Keep (fun k => k < w.heap.size ∨ k = s ∨ k = r) wr w1) : SwRel w w1 pa s r T d' := by
  obtain ⟨h1, h2, h3, h4, h5, ⟨zs, z1, z2⟩, ⟨bs, y1, y2⟩⟩ := h
  exact ⟨h1.trans (hk.toBelow (fun k hk => .inl hk) h1.size), ha, h3, h4, h5, ⟨zs, z1, z2.keep hk (.inr (.inl rfl))⟩, ⟨bs, y1, y2.keep hk (.inr (.inr rfl))⟩⟩
theorem SwRel.drew {w wr : World} {pa s r T : Nat} {d : Int} (h : SwRel w wr pa s r T d) : SwRel w wr.drew pa s r T d := h.swap h.arena.drew (Keep.refl _ _).drew

set_option maxHeartbeats 1000000 in
set_option maxRecDepth 100000 in
theorem swaps_walk (a0 : Option Addr) (len0 cap0 : Nat) (z0 : List Int) (a1 : Int) (w : World) (w0 : IsRow .i64 w a0 len0 cap0 z0) :
    Calls Try.prog 6 #[.slice a0 len0 cap0, .int .i64 a1] w fun e w' => e = .returned (.bool true) ∧ Below w.heap.size w w' := by
  have hX : ∀ W : World, w.heap.size ≤ W.heap.size → ∀ k, W.heap.size ≤ k → ¬ k < w.heap.size := fun W h k hk => by omega
  have HX := Lib.hid hX; clear hX
  have hlen := w0.len
  have HR := Lib.hid w0; clear w0
  obtain ⟨T, hT⟩ : ∃ T : Nat, 1 + bits .and .i64 a1 7 = (T : Int) := ⟨(1 + a1 % 8).toNat, by rw [i64_and7]; omega⟩
  have hT1 : 1 ≤ T ∧ T ≤ 8 := by rw [i64_and7] at hT; omega
  have hmk2 := run_make_row' (P := Try.prog) 42 2 (.int .i64 0) 8 Try.underlying42 info2 rfl .i64 .i64 T (by omega) (by omega)
  have hmk4 := run_make_row' (P := Try.prog) 50 4 (.bool false) 1 Try.underlying50 info4 rfl .i64 .i64 T (by omega) (by omega)
  have hb0 : 0 ≤ bits .and .i64 a1 7 ∧ bits .and .i64 a1 7 ≤ 7 := by rw [i64_and7]; omega
  go_enter Try.func6, Try.ntmps6
  go_wp2_with fail
  refine (sw0 (X := fun k => k < w.heap.size) (HX.out _ (Nat.le_refl _))).mono ?_
  rintro e w1 ⟨rfl, a1', b1⟩
  have z1 := b1.size
  go_wp2_with fail
  refine (alive_any _).mono ?_
  rintro e w2 ⟨rfl, b2⟩
  have z2 := b2.size
  have a2 := a1'.below b2
  go_wp2_with fail
  refine (sw1 a2 (HX.out _ (by omega))).mono ?_
  rintro e w3 ⟨rfl, a3, k3⟩
  have z3 := k3.size
  go_wp2_with fail
  have hrel0 : SwRel w ((w3.alloc (Obj.cells (madeCells #[Value.int IntKind.i64 0] T) 2)).alloc (Obj.cells (madeCells #[Value.bool false] T) 4)) (w.heap.size + 1) w3.heap.size (w3.heap.size + 1) T 0 := by
    have hb3 : Below w.heap.size w w3 := (b1.trans (b2.mono z1)).trans (k3.toBelow (fun _ hk => hk) (by omega))
    refine ⟨(hb3.alloc (by omega) _).alloc (by simp; omega) _, ((a3.less (Y := fun k => k < w.heap.size ∨ k = w3.heap.size ∨ k = w3.heap.size + 1) (fun k hk hy => by omega)).alloc _).alloc _, by omega, by omega, by omega, ⟨List.replicate T 0, by simp, ?_⟩, ⟨List.replicate T false, by simp, ?_⟩⟩
    · rw [madeCells_zero]; exact (Blk.new _ _ _).alloc _
    · rw [madeCells_false]; have := Blk.new (w3.alloc (Obj.cells (madeCells #[Value.int IntKind.i64 0] T) 2)) 4 (boolsOf (List.replicate T false)); simpa using this
  have HB := Lib.hid hb0; clear hb0
  have HT := Lib.hid hT; clear hT
  clear hmk2 hmk4 a3 k3 a2 b2 a1' b1
  generalize (w3.alloc (Obj.cells (madeCells #[Value.int IntKind.i64 0] T) 2)).alloc (Obj.cells (madeCells #[Value.bool false] T) 4) = W0 at hrel0 ⊢
  generalize w.heap.size + 1 = pa at *
  generalize w3.heap.size = s at *
  generalize s + 1 = r at *
  have HREL := Lib.hid hrel0; clear hrel0
  clear z1 z2 z3
  go_loopw [10, 42] (fun d i wr => ∃ (k : Nat) (dn : Int), k ≤ len0 ∧ i = .int .i64 k ∧ d = .int .i64 dn ∧ SwRel w wr pa s r T dn) (fun _ i _ => len0 - (intOf i).toNat)
  case atStart => exact ⟨0, 0, by omega, rfl, rfl, HREL.out⟩
  case round =>
    clear HREL
    obtain ⟨k, dn, hk, rfl, rfl, hr⟩ := hrel
    have har := hr.arena
    have hbel := hr.below
    by_cases hkl : k < len0
    · obtain ⟨b, off, rfl, hb, hcell, _⟩ := HR.out.at_ hkl
      rw [← hbel.cell (p := ⟨b, off + k, none⟩) hb] at hcell
      generalize z0.getD k 0 = p at hcell
      have HREL := Lib.hid hr
      have HAR := Lib.hid har; clear har
      have HBEL := Lib.hid hbel; clear hbel
      by_cases hp0 : p < 0
      · clear hr
        go_wp2_with fail
        all_goals
          go_roundw
          case rel => exact ⟨k + 1, dn, by omega, by go_num, rfl, HREL.out⟩
          case measure => simp [intOf]; omega
      · by_cases hpT : (T : Int) ≤ p
        · clear hr
          go_wp2_with fail
          all_goals
            go_roundw
            case rel => exact ⟨k + 1, dn, by omega, by go_num, rfl, HREL.out⟩
            case measure => simp [intOf]; omega
        · obtain ⟨pn, rfl⟩ := Int.eq_ofNat_of_zero_le (a := p) (by omega)
          obtain ⟨zs, hz1, hz2⟩ := hr.seen
          obtain ⟨bs, hy1, hy2⟩ := hr.reads
          have hpn : pn < T := by omega
          have cs := hz2.cell pn
          rw [cellsOf_get (by omega)] at cs
          have cr := hy2.cell pn
          rw [boolsOf_get (by omega)] at cr
          have fs := hz2.frozen pn
          have fr := hy2.frozen pn
          have HY := Lib.hid hy2
          have hbl := boolsOf_get (bs := bs) (i := pn) (by omega)
          generalize zs.getD pn 0 = o at cs
          generalize bs.getD pn false = bv at cr hbl
          have HBL := Lib.hid hbl; clear hbl
          clear hz1 hz2 hy1 hy2 hr
          cases bv with
          | false =>
            have cr2 : (wr.setCell ⟨s, pn, none⟩ (.int .i64 dn)).cell? ⟨r, pn, none⟩ = some (.bool false) := by
              rw [World.cell?_setCell_other _ _ _ _ (by simpa using HREL.out.sr)]; exact cr
            go_wp2_with fail
            refine (sw2 HAR.out).mono ?_
            rintro e w' ⟨rfl, rfl⟩
            go_wp2_with fail
            go_roundw
            case rel => exact ⟨k + 1, dn, by omega, by go_num, rfl, (HREL.out.setS pn dn).setR pn true⟩
            case measure => simp [intOf]; omega
          | true =>
            have hi : (pn : Int) < T := by omega
            go_wp2_with fail
            by_cases hdo : dn = o
            · obtain rfl := hdo
              go_region_with (go_at_call 21; refine (sw3v HAR.out.drew ?_).mono ?_; exact IntWalk.i64_left _; rintro e w5 ⟨rfl, ha5, hk5⟩)
              all_goals
                have hb5 := Blk.keep (w := wr.drew) HY.out hk5 (.inr (.inr rfl))
                have c5 := hb5.cell pn
                rw [HBL.out] at c5
                have f5 := hb5.frozen pn
                have HS5 := Lib.hid (HREL.out.drew.swap ha5 hk5)
                clear ha5 hk5 hb5
                go_wp2_with fail
                go_roundw
                case rel => exact ⟨k + 1, wrap64 (dn + 1), by omega, by go_num, rfl, HS5.out.setR pn false⟩
                case measure => simp [intOf]; omega
            · have hne : (dn == o) = false := by simpa using hdo
              go_region_with (go_at_call 21; refine (sw4 HAR.out.drew hdo _).mono ?_; rintro e w5 ⟨rfl, ha5, hk5⟩)
              all_goals
                have hb5 := Blk.keep (w := wr.drew) HY.out hk5 (.inr (.inr rfl))
                have c5 := hb5.cell pn
                rw [HBL.out] at c5
                have f5 := hb5.frozen pn
                have HS5 := Lib.hid (HREL.out.drew.swap ha5 hk5)
                clear ha5 hk5 hb5
                go_wp2_with fail
                go_roundw
                case rel => exact ⟨k + 1, dn, by omega, by go_num, rfl, HS5.out.setR pn false⟩
                case measure => simp [intOf]; omega
    · have hkk : k = len0 := by omega
      have HAR := Lib.hid har; clear har
      have HBEL := Lib.hid hbel; clear hbel
      clear hr hkk
      go_wp2_with fail
      refine (sw2 HAR.out).mono ?_
      rintro e w' ⟨rfl, rfl⟩
      go_wp2_with fail
      go_ret
      exact ⟨rfl, HBEL.out⟩

end Go.Proofs.Ytbgbknbfleiakaa
