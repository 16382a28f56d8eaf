/-
  The contracts of package epoch's Sweep and Retire over the plain state of a yard. Conditions: the yard stands for a plain state; for Retire, fewer than 2^62 moments have gone.
-/
import Derived.Test.YtiiaajdkkofbjaaYdel
import Derived.Deep.RegionHeld
namespace Go.Proofs.Ytiiaajdkkofbjaa
open Go.RowKit Go.Maps
set_option linter.unusedVariables false

theorem del_nil {w : World} (By Bf : Nat) :
    Calls Try.prog 65 #[.slice none 0 0, lit By Bf] w fun e w' => e = .returned (.slice none 0 0) ∧ w = w' := by
  have hi : Calls Try.prog 80 #[.slice none 0 0, lit By Bf] w fun e w' => e = .returned (.int .i64 (-1)) ∧ w = w' := by
    go_enter Try.func80, Try.ntmps80
    go_wp2
    refine wp_loop_rounds 1 ?_
    rw [rounds_succ]
    go_wp2
    go_ret
    exact ⟨rfl, rfl⟩
  have HI := Lib.hid hi; clear hi
  go_enter Try.func65, Try.ntmps65
  go_wp2_with fail
  refine HI.out.mono ?_
  rintro e w' ⟨rfl, rfl⟩
  go_wp2
  go_ret
  exact ⟨rfl, rfl⟩

def YS.sweepAt (Y : YS) : YS := { Y with wt := Y.wt.filter (hld Y) }
def AS.sweepAt (S : AS) (Y : YS) : AS := (swp Y.ent S Y.wt).1
def sweepN (Y : YS) (S : AS) : Int := (swp Y.ent S Y.wt).2

/-- The library's call, whatever waits: the new slice, and the new states. -/
structure Swept (w w' : World) (X : Nat → Prop) (pa py By Bf : Nat) (v u : Value) (Y : YS) (S : AS) : Prop where
  ar : Arena w' (fun k => (X k ∨ k = py ∨ v.ownBlock = some k) ∨ k = By ∨ k = Bf) pa (S.sweepAt Y)
  head : Blk w' py 89 (yc pa Y v)
  by_ : Blk w' By 45 #[.pointer (some ⟨py, 0, none⟩)]
  bf : Blk w' Bf 3 #[.int .i64 (sweepN Y S)]
  row : w'.ownsRow 0 103 3 u (Y.wt.filter (hld Y)).length (flat (Y.wt.filter (hld Y)))
  own : u.ownBlock = v.ownBlock
  kp : Keep (fun k => X k ∨ k = py) w w'

theorem del_any {w : World} {X : Nat → Prop} {pa py By Bf : Nat} {v : Value} {Y : YS} {S : AS} (h : YAt w X pa py v Y S)
    (har : Arena w (fun k => (X k ∨ k = py ∨ v.ownBlock = some k) ∨ k = By ∨ k = Bf) pa S) (hby : Blk w By 45 #[.pointer (some ⟨py, 0, none⟩)]) (hbf : Blk w Bf 3 #[.int .i64 0]) (hXf : ¬ X Bf) :
    Calls Try.prog 65 #[v, lit By Bf] w fun e w' => ∃ a n c, e = .returned (.slice a n c) ∧ Swept w w' X pa py By Bf v (.slice a n c) Y S := by
  rcases h.row.2 with ⟨rfl, h0⟩ | ⟨g, cap, cur, rfl, _, hb, hn, hc, hs, ht⟩
  · refine (del_nil By Bf).mono ?_
    rintro e w' ⟨rfl, rfl⟩
    have hw : Y.wt = [] := List.length_eq_zero_iff.1 h0
    refine ⟨_, _, _, rfl, ?_, h.head, hby, ?_, ?_, rfl, Keep.refl _ _⟩
    · unfold AS.sweepAt; rw [hw]; exact har
    · unfold sweepN; rw [hw]; exact hbf
    · rw [hw]; exact World.ownsRow_nil _ _ _ _
  · have hst : Swst w (fun k => (X k ∨ k = py ∨ (Value.slice (some ⟨g, 0, none⟩) Y.wt.length cap).ownBlock = some k) ∨ k = By ∨ k = Bf) pa py By Bf (.slice (some ⟨g, 0, none⟩) Y.wt.length cap) Y S 0 :=
      ⟨har, h.head, hby, hbf, .inl (.inr (.inl rfl)), .inr (.inl rfl), .inr (.inr rfl)⟩
    have hrow : Row w g cap Y.wt := ⟨cur, hb, hs, hn, ht⟩
    have hgf : g ≠ Bf := hrow.ne_ hbf (by decide)
    have hgy : g ≠ py := hrow.ne_ h.head (by decide)
    have hfy : py ≠ Bf := h.head.ne_ hbf (by decide)
    have hXg : ¬ X g := h.rX g rfl
    refine (del_lit hst hrow (.inl (.inr (.inr rfl))) h.ok.wf h.ok.few hc).mono ?_
    rintro e w' ⟨rfl, h1, h2, h3⟩
    refine ⟨_, _, _, rfl, h1.ar, h1.head, h1.by_, h1.bf, ?_, rfl, h3.less ?_⟩
    · obtain ⟨cur', c1, c2, c3, c4⟩ := h2
      exact ⟨flat_length _, .inr ⟨g, cap, cur', rfl, Nat.zero_le _, c1, c3, hc, c2, c4⟩⟩
    · intro k hk
      refine ⟨?_, ?_, ?_⟩
      · rcases hk with hk | hk
        · exact .inl (.inl hk)
        · exact .inl (.inr (.inl hk))
      · rintro rfl
        rcases hk with hk | hk
        · exact hXf hk
        · exact hfy hk.symm
      · rintro rfl
        rcases hk with hk | hk
        · exact hXg hk
        · exact hgy hk

set_option maxHeartbeats 2000000 in
theorem sweep_any {w : World} {X : Nat → Prop} {pa py : Nat} {Y : YS} {S : AS} (h : Yd w X pa py Y S) (hX : ∀ k, w.heap.size ≤ k → ¬ X k) :
    Calls Try.prog 33 #[.pointer (some ⟨py, 0, none⟩)] w fun e w' => e = .returned (.int .i64 (sweepN Y S)) ∧ Yd w' X pa py Y.sweepAt (S.sweepAt Y) ∧ Keep X w w' := by
  obtain ⟨v, h⟩ := h
  have hp := h.head.lt
  have hmf : ∀ (fn : Fn) (first cap : Array Value) (w : World), (Instr.makeFunc fn first cap).run Try.prog w = .ok (.func fn first cap) w := fun _ _ _ _ => rfl
  have hb0 : Below w.heap.size w (((w.alloc (Obj.cells #[Value.pointer (some ⟨py, 0, none⟩)] 45)).alloc (Obj.cells #[Value.int IntKind.i64 0] 3)).drew) := (((Below.refl _ _).alloc (Nat.le_refl _) _).alloc (by simp) _).drew
  have h0 := h.below hb0
  have hby : Blk (((w.alloc (Obj.cells #[Value.pointer (some ⟨py, 0, none⟩)] 45)).alloc (Obj.cells #[Value.int IntKind.i64 0] 3)).drew) w.heap.size 45 #[.pointer (some ⟨py, 0, none⟩)] := (Blk.new _ _ _).alloc _
  have hbf : Blk (((w.alloc (Obj.cells #[Value.pointer (some ⟨py, 0, none⟩)] 45)).alloc (Obj.cells #[Value.int IntKind.i64 0] 3)).drew) (w.heap.size + 1) 3 #[.int .i64 0] := by
    have := Blk.new (w.alloc (Obj.cells #[Value.pointer (some ⟨py, 0, none⟩)] 45)) 3 #[.int .i64 0]
    simp only [World.size_alloc] at this
    exact this
  have har : Arena (((w.alloc (Obj.cells #[Value.pointer (some ⟨py, 0, none⟩)] 45)).alloc (Obj.cells #[Value.int IntKind.i64 0] 3)).drew) (fun k => (X k ∨ k = py ∨ v.ownBlock = some k) ∨ k = w.heap.size ∨ k = w.heap.size + 1) pa S :=
    (h.ar.less (fun k hk hz => by rcases hz with hz | hz | hz; exact hz; omega; omega)).below hb0
  have hd := del_any h0 har hby hbf (hX _ (by omega))
  have c0 := h0.cells.2.2.2.2.1
  have cy := hby.cell 0
  simp at cy
  -- what is left at the end
  have hend : ∀ w2 u, Swept (((w.alloc (Obj.cells #[Value.pointer (some ⟨py, 0, none⟩)] 45)).alloc (Obj.cells #[Value.int IntKind.i64 0] 3)).drew) w2 X pa py w.heap.size (w.heap.size + 1) v u Y S →
      Yd (w2.setCell ⟨py, 13, none⟩ u) X pa py Y.sweepAt (S.sweepAt Y) ∧ Keep X w (w2.setCell ⟨py, 13, none⟩ u) := by
    intro w2 u hs
    refine ⟨⟨u, (hs.ar.setCell (p := ⟨py, 13, none⟩) (.inl (.inr (.inl rfl))) u).less ?_, ?_, ownsRow_keep hs.row ?_, h.nX, ?_, h.ok.sub rfl rfl rfl rfl List.filter_sublist⟩, ?_⟩
    · intro k hk hz
      rcases hz with hz | hz | hz
      · exact .inl (.inl hz)
      · exact .inl (.inr (.inl hz))
      · rw [hs.own] at hz; exact .inl (.inr (.inr hz))
    · have := hs.head.set_ 13 u
      simpa [yc, YS.sweepAt] using this
    · intro g hg
      rw [hs.own] at hg
      exact Below.heap_setCell _ _ _ _ (h.row_py hg)
    · intro g hg
      rw [hs.own] at hg
      exact h.rX g hg
    · exact ((Keep.ofBelow' hb0).trans (hs.kp.less (fun _ hk => .inl hk))).setCell h.nX u
  have HEND := Lib.hid hend; clear hend
  have HD := Lib.hid hd; clear hd
  clear h h0 hby hbf har hX hb0
  go_enter Try.func33, Try.ntmps33
  go_wp2
  go_region_with (go_at_call 65; refine HD.out.mono ?_; rintro e w2 ⟨ua, un, uc, rfl, hs⟩; have k13 := hs.head.cell 13; have f13 := hs.head.frozen 13; have kb := hs.by_.cell 0; have kf := (hs.bf.far (p := ⟨py, 13, none⟩) (hs.head.ne_ hs.bf (by decide)).symm (.slice ua un uc)).cell 0; have HE2 := Lib.hid (HEND.out w2 _ hs); clear hs; simp [yc] at k13 kf kb)
  all_goals
    go_wp2
    go_ret
    exact ⟨rfl, HE2.out⟩
end Go.Proofs.Ytiiaajdkkofbjaa
