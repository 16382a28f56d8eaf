/-
  EpochOrder, the third loop: what the walk carries. Conditions: as in the texts that it imports.
-/
import Derived.Test.YtiiaajdkkofbjaaOrder2
namespace Go.Proofs.Ytiiaajdkkofbjaa
open Go.RowKit Go.Maps
set_option linter.unusedVariables false

theorem own_ints' {w : World} {base : Nat} {u : Value} {xs : List Int} (h : w.ownsRow base 3 1 u xs.length (xs.map (Value.int .i64))) : ∃ a c, u = .slice a xs.length c ∧ IntsAt w a xs ∧ (a = none → c = 0) ∧ ∀ g, a = some ⟨g, 0, none⟩ → base ≤ g ∧ g < w.heap.size := by
  rcases h.2 with ⟨rfl, h0⟩ | ⟨g, cap, cur, rfl, hg, hb, _⟩
  · exact ⟨none, 0, by rw [h0], fun j hj => by omega, fun _ => rfl, fun g e => (by cases e)⟩
  · have hlt := (show Blk w g 3 cur from hb).lt
    refine ⟨_, _, rfl, fun j hj => ⟨g, rfl, hlt, ?_⟩, fun e => (by cases e), fun g' e => (by cases e; exact ⟨hg, hlt⟩)⟩
    rw [h.cellAt j (by omega)]
    simp [List.getD, hj]

/-- The yard is as Q says; the list L at gL and the list J at a9 are the law's own. -/
structure OG (w wr : World) (pa py : Nat) (Ls : List Int) (gL : Nat) (a9 : Option Addr) (c9 : Nat) (J : List Int) (Q : YS → AS → Prop) : Prop where
  kp : Keep (fun k => k < w.heap.size) w wr
  la : ∀ j, j < Ls.length → wr.cell? ⟨gL, j, none⟩ = some (.int .i64 (Ls.getD j 0))
  ja : IntsAt wr a9 J
  nil : a9 = none → c9 = 0
  st : ∃ P Y S, (∀ k, k < w.heap.size → P k) ∧ (∀ k, wr.heap.size ≤ k → ¬ P k) ∧ P gL ∧ (∀ g, a9 = some ⟨g, 0, none⟩ → P g) ∧ Yd wr P pa py Y S ∧ Q Y S
section
variable {w wr w' : World} {pa py gL c9 : Nat} {Ls J : List Int} {a9 : Option Addr} {Q Q' : YS → AS → Prop}
theorem OG.lt (h : OG w wr pa py Ls gL a9 c9 J Q) : gL < wr.heap.size := by
  obtain ⟨_, _, _, _, P, Y, S, _, p2, pL, _⟩ := h
  rcases Nat.lt_or_ge gL wr.heap.size with h1 | h1
  · exact h1
  · exact absurd pL (p2 _ h1)
theorem OG.below (h : OG w wr pa py Ls gL a9 c9 J Q) (hb : Below wr.heap.size wr w') : OG w w' pa py Ls gL a9 c9 J Q := by
  have hlt := h.lt
  obtain ⟨hk, hl, hj, hn, P, Y, S, p1, p2, pL, p9, y, q⟩ := h
  refine ⟨hk.trans (Keep.ofBelow' hb), fun j hj' => (hb.cell (p := ⟨gL, j, none⟩) hlt).trans (hl j hj'), hj.below hb, hn, fun k => P k ∨ (wr.heap.size ≤ k ∧ k < w'.heap.size), Y, S, fun k hk => .inl (p1 k hk), fun k hk' hx => ?_, .inl pL, fun g hg => .inl (p9 g hg), y.grow hb, q⟩
  rcases hx with hx | hx
  · exact p2 k (by have := hb.size; omega) hx
  · omega
theorem OG.weak (h : OG w wr pa py Ls gL a9 c9 J Q) (hq : ∀ Y S, Y.Ok → Q Y S → Q' Y S) : OG w wr pa py Ls gL a9 c9 J Q' := by
  obtain ⟨hk, hl, hj, hn, P, Y, S, p1, p2, pL, p9, y, q⟩ := h
  exact ⟨hk, hl, hj, hn, P, Y, S, p1, p2, pL, p9, y, hq Y S y.ok q⟩
/-- A call on the yard. -/
theorem OG.op {f : FuncId} {args : Array Value} {R : Ending → YS → AS → Prop} (h : OG w wr pa py Ls gL a9 c9 J Q)
    (c : ∀ P Y S, Q Y S → Yd wr P pa py Y S → (∀ k, wr.heap.size ≤ k → ¬ P k) → Calls Try.prog f args wr fun e w' => R e Y S ∧ ∃ Y' S', Yd w' P pa py Y' S' ∧ Keep P wr w' ∧ Q' Y' S') :
    Calls Try.prog f args wr fun e w' => (∃ Y S, Y.Ok ∧ Q Y S ∧ R e Y S) ∧ OG w w' pa py Ls gL a9 c9 J Q' := by
  have hlt := h.lt
  obtain ⟨hk, hl, hj, hn, P, Y, S, p1, p2, pL, p9, y, q⟩ := h
  refine (c P Y S q y p2).mono ?_
  rintro e w' ⟨hr, Y', S', y', k', q'⟩
  have hz := k'.size
  exact ⟨⟨Y, S, y.ok, q, hr⟩, hk.trans (k'.less p1), fun j hj' => (World.cell?_of_block (a := ⟨gL, j, none⟩) (k'.block gL hlt pL)).trans (hl j hj'), hj.keep k' p9, hn, P, Y', S', p1, fun k hk' => p2 k (by omega), pL, p9, y', q'⟩
/-- Another list J, made now. -/
theorem OG.list (h : OG w wr pa py Ls gL a9 c9 J Q) (hb : Below wr.heap.size wr w') {u : Value} {J' : List Int} (ho : w'.ownsRow wr.heap.size 3 1 u J'.length (J'.map (Value.int .i64))) :
    ∃ a c, u = .slice a J'.length c ∧ OG w w' pa py Ls gL a c J' Q := by
  obtain ⟨a, c, rfl, hi, hn, hg⟩ := own_ints' ho
  refine ⟨a, c, rfl, ?_⟩
  have hlt := h.lt
  obtain ⟨hk, hl, hj, _, P, Y, S, p1, p2, pL, p9, y, q⟩ := h
  refine ⟨hk.trans (Keep.ofBelow' hb), fun j hj' => (hb.cell (p := ⟨gL, j, none⟩) hlt).trans (hl j hj'), hi, hn, fun k => P k ∨ (wr.heap.size ≤ k ∧ k < w'.heap.size), Y, S, fun k hk => .inl (p1 k hk), fun k hk' hx => ?_, .inl pL, fun g e => .inr (hg g e), y.grow hb, q⟩
  rcases hx with hx | hx
  · exact p2 k (by have := hb.size; omega) hx
  · omega
end

/-- What holds at the head of a round. -/
def OQ (J : List Int) (T0 T1 N : Int) (Y : YS) (S : AS) : Prop := OInv Y J T0 T1 ∧ Y.now ≤ N
def OQl (J : List Int) (T0 T1 N : Int) (t : Int) (Y : YS) (S : AS) : Prop := ∃ Y0 : YS, Y = Y0.leaveAt t ∧ OInv Y0 J T0 T1 ∧ Y0.now ≤ N ∧ Y0.Ok
def OQs (J : List Int) (T0 T1 N : Int) (Y : YS) (S : AS) : Prop := OInv Y J T0 T1 ∧ Y.now ≤ N ∧ (J = [] → Y.wt = [])
section
variable {w wr w' : World} {pa py gL c9 : Nat} {Ls J : List Int} {a9 : Option Addr} {T0 T1 N : Int}
/-- Inside, asked for somebody of J. -/
theorem OG.ask (h : OG w wr pa py Ls gL a9 c9 J (OQ J T0 T1 N)) {t : Int} (ht : t ∈ J) :
    Calls Try.prog 27 #[.pointer (some ⟨py, 0, none⟩)] wr fun e w' => ∃ a n c, e = .returned (.slice a n c) ∧ (Calls Try.prog 17 #[.slice a n c, .int .i64 t] w' fun e w2 => e = .returned (.bool true) ∧ w' = w2) ∧ OG w w' pa py Ls gL a9 c9 J (OQ J T0 T1 N) := by
  obtain ⟨P, Y, S, _, _, _, _, y, q⟩ := h.st
  obtain ⟨s, e, h1, h8⟩ := q.1.rng t ht
  have hin := q.1.inn s (by omega) (by rw [← e]; exact ht)
  have hmem : t ∈ Y.inside := by rw [e]; exact insideTo_mem (by omega) (by omega)
  refine (inside_form y).mono ?_
  rintro e w' ⟨a, c, rfl, hb, ho⟩
  have hl : Y.inside.length ≤ 9 := insideTo_le Y.ent 9
  have hh := has_own ho (by omega) t
  rw [among_mem hmem] at hh
  exact ⟨a, _, c, rfl, hh, h.below hb⟩
theorem OG.leave (h : OG w wr pa py Ls gL a9 c9 J (OQ J T0 T1 N)) {t : Int} (ht : t ∈ J) :
    Calls Try.prog 32 #[.pointer (some ⟨py, 0, none⟩), .int .i64 t] wr fun e w' => e = .returned (.int .i64 0) ∧ OG w w' pa py Ls gL a9 c9 J (OQl J T0 T1 N t) := by
  refine (h.op (Q' := OQl J T0 T1 N t) (R := fun e Y S => e = .returned (.int .i64 0)) (fun P Y S q y p2 => ?_)).mono fun e w' hh => ⟨by obtain ⟨_, _, _, _, h1⟩ := hh.1; exact h1, hh.2⟩
  have hl := leave_any y t
  rw [(q.1.again y.ok.len y.ok.now0 ht).1] at hl
  refine hl.mono ?_
  rintro e w' ⟨rfl, y', k'⟩
  exact ⟨rfl, _, _, y', k', Y, rfl, q.1, q.2, y.ok⟩
theorem OG.enter {t : Int} (h : OG w wr pa py Ls gL a9 c9 (without J t) (OQl J T0 T1 N t)) (hN : N ≤ 2305843009213693952) (ht : t ∈ J) :
    Calls Try.prog 26 #[.pointer (some ⟨py, 0, none⟩), .int .i64 t] wr fun e w' => (∃ c, e = .returned (.int .i64 c)) ∧ OG w w' pa py Ls gL a9 c9 (without J t) (OQ (without J t) T0 T1 (N + 1)) := by
  refine (h.op (Q' := OQ (without J t) T0 T1 (N + 1)) (R := fun e Y S => ∃ c, e = .returned (.int .i64 c)) (fun P Y S q y p2 => ?_)).mono fun e w' hh => ⟨by obtain ⟨_, _, _, _, h1⟩ := hh.1; exact h1, hh.2⟩
  obtain ⟨Y0, rfl, hO, hnow, hok⟩ := q
  obtain ⟨_, _, a3, a4, a5, a6⟩ := hO.again hok.len hok.now0 ht
  refine (enter_any y (by omega) t).mono ?_
  rintro e w' ⟨rfl, y', k'⟩
  exact ⟨⟨_, rfl⟩, _, _, y', k', a3, by omega⟩
theorem OG.sweep (h : OG w wr pa py Ls gL a9 c9 J (OQ J T0 T1 N)) :
    Calls Try.prog 33 #[.pointer (some ⟨py, 0, none⟩)] wr fun e w' => (∃ n, e = .returned (.int .i64 n) ∧ (J ≠ [] → n = 0)) ∧ OG w w' pa py Ls gL a9 c9 J (OQs J T0 T1 N) := by
  refine (h.op (Q' := OQs J T0 T1 N) (R := fun e Y S => ∃ n, e = .returned (.int .i64 n) ∧ (J ≠ [] → n = 0)) (fun P Y S q y p2 => ?_)).mono fun e w' hh => ⟨by obtain ⟨_, _, _, _, h1⟩ := hh.1; exact h1, hh.2⟩
  refine (sweep_any y p2).mono ?_
  rintro e w' ⟨rfl, y', k'⟩
  refine ⟨⟨_, rfl, fun hJ => q.1.sweep_in hJ S⟩, _, _, y', k', q.1.swept, q.2, fun hJ => ?_⟩
  subst hJ
  exact q.1.sweep_out
theorem OG.waits (h : OG w wr pa py Ls gL a9 c9 [] (OQs [] T0 T1 N)) :
    Calls Try.prog 31 #[.pointer (some ⟨py, 0, none⟩)] wr fun e w' => (∃ a c, e = .returned (.slice a 0 c)) ∧ OG w w' pa py Ls gL a9 c9 [] (OQs [] T0 T1 N) := by
  obtain ⟨P, Y, S, _, _, _, _, y, q⟩ := h.st
  have hw := waiting_any y
  rw [q.2.2 rfl] at hw
  refine hw.mono ?_
  rintro e w' ⟨rfl, hb, _⟩
  exact ⟨⟨_, _, rfl⟩, h.below hb⟩
end

/-- The third loop, at the head of a round: fin: what was swept stays swept. -/
structure OR3 (w wr : World) (pa py : Nat) (Ls : List Int) (gL : Nat) (a9 : Option Addr) (c9 : Nat) (J : List Int) (T0 T1 N0 : Int) (k : Nat) : Prop where
  og : OG w wr pa py Ls gL a9 c9 J (fun Y S => OQ J T0 T1 (N0 + k) Y S ∧ (k = 0 ∨ J ≠ [] ∨ Y.wt = []))
  done : ∀ x ∈ J, x ∉ Ls.take k
  few : J.length ≤ 512
theorem done_succ {J Ls : List Int} {k : Nat} (h : ∀ x ∈ J, x ∉ Ls.take k) {t : Int} (hk : k < Ls.length) (ht : Ls.getD k 0 = t) (hn : t ∉ J) : ∀ x ∈ J, x ∉ Ls.take (k + 1) := by
  intro x hx hm
  have e : Ls.getD k 0 = Ls[k] := by simp [List.getD, hk]
  rw [List.take_succ_eq_append_getElem hk, List.mem_append] at hm
  rcases hm with hm | hm
  · exact h x hx hm
  · rw [List.mem_singleton, ← e, ht] at hm
    exact hn (hm ▸ hx)
theorem without_done {J Ls : List Int} {k : Nat} (h : ∀ x ∈ J, x ∉ Ls.take k) (t : Int) : ∀ x ∈ without J t, x ∉ Ls.take k := fun x hx => h x (without_mem.1 hx).1
theorem OG.next {w wr : World} {pa py gL c9 : Nat} {Ls J : List Int} {a9 : Option Addr} {T0 T1 N0 N : Int} {k : Nat} (h : OG w wr pa py Ls gL a9 c9 J (OQs J T0 T1 N)) (hd : ∀ x ∈ J, x ∉ Ls.take (k + 1)) (hf : J.length ≤ 512) (hN : N ≤ N0 + ((k + 1 : Nat) : Int)) : OR3 w wr pa py Ls gL a9 c9 J T0 T1 N0 (k + 1) :=
  ⟨h.weak (fun Y S _ q => ⟨⟨q.1, by have := q.2.1; omega⟩, by
    right
    by_cases hJ : J = []
    · exact .inr (q.2.2 hJ)
    · exact .inl hJ⟩), hd, hf⟩
end Go.Proofs.Ytiiaajdkkofbjaa
