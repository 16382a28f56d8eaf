/-
  The document's own arena: the contracts of Set, Free and Reach. Conditions: lengths below 2^42, as the reach has it.
-/
import Derived.Test.YtbgbknbfleiakaaRef3
namespace Go.Proofs.Ytbgbknbfleiakaa
open Go.RowKit Go.Maps

theorem box2 {w w1 : World} {m r : Array Value} (b1 : Below ((w.alloc (.cells m 28)).alloc (.cells r 28)).heap.size ((w.alloc (.cells m 28)).alloc (.cells r 28)) w1) :
    Blk w1 w.heap.size 28 m ∧ Blk w1 (w.heap.size + 1) 28 r ∧ w.heap.size + 2 ≤ w1.heap.size ∧ Below w.heap.size w w1 := by
  have hM := ((Blk.new w 28 m).alloc (.cells r 28)).below b1 (by simp; omega)
  have hR := (Blk.new (w.alloc (.cells m 28)) 28 r).below b1 (by simp)
  simp only [World.size_alloc] at hR
  refine ⟨hM, hR, by have := b1.size; simp at this; omega, ?_⟩
  exact (((Below.refl _ _).alloc (Nat.le_refl _) _).alloc (by simp) _).trans (b1.mono (by simp; omega))
theorem below2 {w : World} (m r : Array Value) : Below w.heap.size w ((w.alloc (.cells m 28)).alloc (.cells r 28)) := ((Below.refl _ _).alloc (Nat.le_refl _) _).alloc (by simp) _

/-- The list with one number of one block changed. -/
theorem map_set_int (cs : List Int) (k : Nat) (v : Int) : (cs.map (Value.int .i64)).set k (.int .i64 v) = (cs.set k v).map (Value.int .i64) := by
  rw [List.map_set]

set_option maxHeartbeats 2000000 in
theorem set_any {w : World} {Y : Nat → Prop} {A : Option Addr} {vals : List Value} {bl : List (List Int)} (h : RowsAt w Y A vals bl) (hY : ∀ k, Y k → k < w.heap.size) (c : Nat) (most fl : Int) {i : Nat} (hi : i < bl.length) (hlen : bl.length ≤ 4398046511104)
    {k : Nat} (hk : k < (bl.getD i []).length) (hk2 : (bl.getD i []).length ≤ 65536) (v : Int) :
    Calls Try.prog 31 #[.agg #[.slice A bl.length c, .int .i64 most, .int .i64 fl], .int .i64 ((i : Int) + 1), .int .i64 k, .int .i64 v] w fun e w' =>
      ∃ A' c' vals', e = .returned (.agg #[.slice A' bl.length c', .int .i64 most, .int .i64 fl]) ∧ RowsAt w' (plus Y w w') A' vals' (bl.set i ((bl.getD i []).set k v)) ∧ Below w.heap.size w w' := by
  obtain ⟨g, rfl, _, hlt, hc⟩ := h.row (by omega)
  have hII := h.ints i hi
  obtain ⟨Ai, ci, hv, hrow⟩ := h.ints i hi
  have hcell := hc i hi
  rw [hv] at hcell hII
  have hb2 := below2 (w := w) #[.slice (some ⟨g, 0, none⟩) bl.length c, .int .i64 most, .int .i64 fl] #[.slice none 0 0, .int .i64 0, .int .i64 0]
  rw [← hb2.cell (p := ⟨g, i, none⟩) hlt] at hcell
  have hcopy := copy_any (hII.below hb2) hk2
  clear hc hv hrow
  generalize hcs : bl.getD i [] = cs at hk hk2 hcell hcopy hII ⊢
  have HCS := Lib.hid hcs; clear hcs
  have HC := Lib.hid hcopy; clear hcopy
  have H := Lib.hid h; clear h
  have HB2 := Lib.hid hb2; clear hb2
  clear hII
  go_enter Try.func31, Try.ntmps31
  go_wp2_with fail
  refine HC.out.mono ?_
  rintro e w1 ⟨A1, c1, rfl, hown1, b1⟩
  obtain ⟨hM, hR, n1, hb1⟩ := box2 b1
  obtain ⟨A1', c1', he, _, hr1⟩ := own_row hown1
  obtain ⟨rfl, rfl⟩ : A1 = A1' ∧ c1 = c1' := by injection he with e1 _ e3; exact ⟨e1, e3⟩
  clear he
  obtain ⟨g1, rfl, hg1, hg1lt, hcc⟩ := hr1 (by omega)
  simp only [World.size_alloc] at hg1
  have hst := hown1.stored k (.int .i64 v)
  have hcw := hown1.cellAt k (by omega)
  have hfz := hown1.frozenAt k
  have hcw2 : w1.cell? ⟨g1, k, none⟩ = some (.int .i64 (cs.getD k 0)) := by rw [hcw]; simp [List.getD, hk]
  clear hcw hcc
  have hM2 := hM.far (p := ⟨g1, k, none⟩) (by show w.heap.size ≠ g1; omega) (.int .i64 v)
  have hR2 := hR.far (p := ⟨g1, k, none⟩) (by show w.heap.size + 1 ≠ g1; omega) (.int .i64 v)
  obtain ⟨d0, d1, d2, _⟩ := hM2.three
  have hk1 : Keep (fun q => Y q ∨ (w.heap.size + 2 ≤ q ∧ q < w1.heap.size ∧ q ≠ g1)) w1 (w1.setCell ⟨g1, k, none⟩ (.int .i64 v)) := keep_set (Keep.refl _ _) (fun hh => by rcases hh with hh | hh; have := hY g1 hh; omega; omega)
  have hsz2 : (w1.setCell ⟨g1, k, none⟩ (.int .i64 v)).heap.size = w1.heap.size := by simp [World.setCell]
  have hint2 : Ints (w1.setCell ⟨g1, k, none⟩ (.int .i64 v)) (fun q => Y q ∨ (w.heap.size + 2 ≤ q ∧ q < w1.heap.size)) (.slice (some ⟨g1, 0, none⟩) (cs.set k v).length c1) (cs.set k v) := by
    have ho := hst.1
    rw [map_set_int] at ho
    have hl : cs.length = (cs.set k v).length := by rw [List.length_set]
    rw [hl] at ho
    exact own_ints ho (fun q hq1 hq2 => .inr ⟨by simpa using hq1, by rw [hsz2] at hq2; exact hq2⟩)
  have hrows2 : RowsAt (w1.setCell ⟨g1, k, none⟩ (.int .i64 v)) (fun q => Y q ∨ (w.heap.size + 2 ≤ q ∧ q < w1.heap.size)) (some ⟨g, 0, none⟩) vals bl := by
    have h1 := (H.out.below hb1).wide (Z := fun q => Y q ∨ (w.heap.size + 2 ≤ q ∧ q < w1.heap.size ∧ q ≠ g1)) (fun q hq => .inl hq)
    exact (h1.keep hk1 (fun q hq => hq)).wide (fun q hq => by rcases hq with hq | hq; exact .inl hq; exact .inr ⟨hq.1, hq.2.1⟩)
  have hput := put_any hrows2 c most fl hi hlen hint2
  rw [List.length_set] at hput
  have hbel2 : Below w.heap.size w (w1.setCell ⟨g1, k, none⟩ (.int .i64 v)) := below_set hb1 (by omega)
  have HPUT := Lib.hid hput; clear hput
  have HR2 := Lib.hid hR2; clear hR2
  have HBEL2 := Lib.hid hbel2; clear hbel2
  have HSZ2 := Lib.hid hsz2; clear hsz2
  have HN1 := Lib.hid n1; clear n1
  clear hown1 b1 hM hR hb1 hst hM2 hint2 hrows2 hk1 hr1
  go_wp2_with fail
  refine HPUT.out.mono ?_
  rintro e w3 ⟨A3, c3, rfl, hrows3, b3⟩
  have hR3 := HR2.out.below b3 (by rw [HSZ2.out]; have := HN1.out; omega)
  obtain ⟨r0, r1, r2, k0, k1, k2⟩ := hR3.three
  have hF := ((hR3.set_ 0 (.slice A3 bl.length c3)).set_ 1 (.int .i64 most)).set_ 2 (.int .i64 fl)
  obtain ⟨q0, q1, q2, _⟩ := hF.three
  have HB3 := Lib.hid b3; clear b3
  have HROWS := Lib.hid hrows3; clear hrows3
  clear hR3 hF
  go_wp2_with fail
  refine bodyPost_ret (by simp [results, Try.results31, go_sem, q0, q1, q2]; rfl) rfl ?_
  have n1 := HN1.out
  have n2 := HSZ2.out
  have n3 := HB3.out.size
  refine ⟨A3, c3, _, rfl, HROWS.out.keep (keep_set (keep_set (keep_set (Keep.refl _ _) ?_) ?_) ?_) (fun q hq => hq) |>.wide (fun q hq => ?_), ?_⟩
  · rintro ((hh | hh) | hh)
    · have := hY _ hh; omega
    · omega
    · omega
  · rintro ((hh | hh) | hh)
    · have := hY _ hh; omega
    · omega
    · omega
  · rintro ((hh | hh) | hh)
    · have := hY _ hh; omega
    · omega
    · omega
  · rcases hq with (hh | hh) | hh
    · exact .inl hh
    · exact .inr ⟨by omega, by simp [World.setCell]; omega⟩
    · exact .inr ⟨by omega, by simp [World.setCell]; omega⟩
  · exact below_set (below_set (below_set (HBEL2.out.trans (HB3.out.mono (by omega))) (by omega)) (by omega)) (by omega)

end Go.Proofs.Ytbgbknbfleiakaa
