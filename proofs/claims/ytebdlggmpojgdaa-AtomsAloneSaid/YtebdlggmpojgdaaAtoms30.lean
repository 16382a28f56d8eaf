/-
  AtomsFree: the operations that the law begins and steps, and its slice of them. No condition.
-/
import Derived.Test.YtebdlggmpojgdaaAtoms26
import Derived.Test.YtebdlggmpojgdaaAtoms29
namespace Go.Proofs.Ytebdlggmpojgdaa
open Go.RowKit Go.Maps
set_option linter.unusedVariables false

def ptrs (pos : List Nat) : List Value := pos.map (fun p => .pointer (some ⟨p, 0, none⟩))
section
variable {wb wr w w' : World} {X Y : Nat → Prop} {pa po pt nb : Nat} {o : OS} {T T' : TS} {A A' : AS} {P : List Int} {m : Int} {os : List OS} {pos : List Nat} {B i : Nat} {M : Int} {s : ByteArray} {u : Value} {g : Nat}
/-- Operations that were begun since wb, and the slice of them. -/
structure Bg (wb wr : World) (pt : Nat) (A : AS) (T : TS) (P : List Int) (m : Int) (os : List OS) (pos : List Nat) (B : Nat) (M : Int) (u : Value) : Prop where
  inv : AInv A T P m os B M
  len : pos.length = os.length
  op : ∀ (i : Nat) (o : OS) (po : Nat), os[i]? = some o → pos[i]? = some po → OHead wr po pt o (str o.name)
  ge : ∀ po ∈ pos, wb.heap.size ≤ po
  fit : ∀ o ∈ os, Fit T o
  live : ∀ o ∈ os, o.next ≤ 1
  nod : pos.Nodup
  bel : Below wb.heap.size wb wr
  row : wr.ownsRow wb.heap.size 31 1 u os.length (ptrs pos)
theorem Bg.lt (h : Bg wb wr pt A T P m os pos B M u) {k : Nat} (hk : k ∈ pos) : k < wr.heap.size := by
  obtain ⟨j, hj, rfl⟩ := List.getElem_of_mem hk
  have hjo : j < os.length := by rw [← h.len]; exact hj
  exact (h.op j os[j] pos[j] (by simp [hjo]) (by simp [hj])).blk.lt
theorem Bg.start (h : AInv A T P m [] B M) (wb : World) : Bg wb (wb.alloc (Obj.cells #[] 31)) pt A T P m [] [] B M (.slice (some ⟨wb.heap.size, 0, none⟩) 0 0) :=
  ⟨h, rfl, by simp, by simp, by simp, by simp, List.Pairwise.nil, (Below.refl _ _).alloc (Nat.le_refl _) _, World.ownsRow_made wb #[] 0 (Nat.le_refl _) (by unfold maxLen; omega) rfl⟩
/-- One more. -/
theorem Bg.add (h : Bg wb wr pt A T P m os pos B M u) (hl : 1 ≤ T.lists) {n : List UInt8} {w1 w2 : World} {po : Nat} {v' : Value} (hpo : wr.heap.size ≤ po) (ho : OHead w1 po pt (OS.begun T n) (str (OS.begun T n).name)) (hb : Below wr.heap.size wr w1)
    (hown : w2.ownsRow wb.heap.size 31 1 v' (os.length + 1) (ptrs pos ++ [.pointer (some ⟨po, 0, none⟩)])) (hg : (w1.alloc (Obj.cells #[.pointer (some ⟨po, 0, none⟩)] 31)).grownBy w2 u.ownBlock) :
    Bg wb w2 pt A T P m (os ++ [OS.begun T n]) (pos ++ [po]) B M v' := by
  obtain ⟨b1, b2, b3, b4, b5, b6, b7⟩ := begun_ok T n hl
  have hbz := h.bel.size
  have hz1 := hb.size
  have key : ∀ {po' : Nat} {a : OS}, OHead w1 po' pt a (str a.name) → OHead w2 po' pt a (str a.name) := fun {po'} {a} hh => by
    refine ⟨?_⟩
    have h2 := hh.blk.alloc (Obj.cells #[.pointer (some ⟨po, 0, none⟩)] 31)
    have hne : some po' ≠ u.ownBlock := fun e => by
      have hrow := h.row
      rcases hrow.2 with ⟨rfl, _⟩ | ⟨g, cap, cur, rfl, hge, hgb, _⟩
      · simp [Value.ownBlock] at e
      · simp [Value.ownBlock] at e
        subst e
        have hgw : Blk wr po' 31 cur := hgb
        have := hgw.below hb hgw.lt
        exact this.ne_ hh.blk (by decide) rfl
    exact (hg.block po' h2.lt hne).trans h2
  refine ⟨h.inv.begin b1 b2 b3 ⟨b4, b5⟩, by simp [h.len], fun j a pa' hj hp => ?_, fun k hk => ?_, fun a ha => ?_, fun a ha => ?_, ?_, ?_, by simpa [ptrs] using hown⟩
  · rcases Nat.lt_or_ge j os.length with h1 | h1
    · rw [List.getElem?_append_left h1] at hj
      rw [List.getElem?_append_left (by rw [h.len]; exact h1)] at hp
      have h0 := h.op j a pa' hj hp
      exact key ⟨h0.blk.below hb h0.blk.lt⟩
    · rw [List.getElem?_append_right h1] at hj
      rw [List.getElem?_append_right (by rw [h.len]; exact h1)] at hp
      rw [h.len] at hp
      rcases Nat.eq_zero_or_pos (j - os.length) with e | e
      · rw [e] at hj hp
        obtain rfl : OS.begun T n = a := by simpa using hj
        obtain rfl : po = pa' := by simpa using hp
        exact key ho
      · rw [List.getElem?_eq_none (by simp; omega)] at hj; cases hj
  · rcases List.mem_append.1 hk with hk | hk
    · exact h.ge k hk
    · obtain rfl : k = po := by simpa using hk
      omega
  · rcases List.mem_append.1 ha with ha | ha
    · exact h.fit a ha
    · obtain rfl : a = OS.begun T n := by simpa using ha
      exact ⟨by rw [b6]; exact Int.le_refl _, by rw [b6]; decide, b7⟩
  · rcases List.mem_append.1 ha with ha | ha
    · exact h.live a ha
    · obtain rfl : a = OS.begun T n := by simpa using ha
      exact b1
  · rw [List.nodup_append]
    refine ⟨h.nod, by simp, fun a ha b hb' => ?_⟩
    obtain rfl : b = po := by simpa using hb'
    rintro rfl
    have := h.lt ha
    omega
  · have h1 : Below wb.heap.size wb (w1.alloc (Obj.cells #[.pointer (some ⟨po, 0, none⟩)] 31)) := (h.bel.trans (hb.mono hbz)).alloc (by omega) _
    refine h1.trans ⟨hg.os, hg.tape, hg.output, hg.size, fun k hk => hg.block k (by simp; omega) (fun e => ?_)⟩
    have := (h.row.lt k e.symm).1
    omega
/-- The slice of operations in memory. -/
structure Ops (w : World) (X : Nat → Prop) (nb g : Nat) (pos : List Nat) : Prop where
  blk : ∃ cur : Array Value, Blk w g 31 cur ∧ ∀ (j po : Nat), pos[j]? = some po → cur[j]? = some (.pointer (some ⟨po, 0, none⟩))
  xg : X g
  np : g ∉ pos
  nn : g ≠ nb
theorem Ops.keep (h : Ops w X nb g pos) (hk : Keep (fun k => X k ∧ k ∉ pos ∧ k ≠ nb) w w') : Ops w' X nb g pos := by
  obtain ⟨cur, hb, hc⟩ := h.blk
  exact ⟨⟨cur, hb.keep hk ⟨h.xg, h.np, h.nn⟩, hc⟩, h.xg, h.np, h.nn⟩
theorem Ops.cell (h : Ops w X nb g pos) {j : Nat} (hp : pos[j]? = some po) : w.cell? ⟨g, j, none⟩ = some (.pointer (some ⟨po, 0, none⟩)) := by
  obtain ⟨cur, hb, hc⟩ := h.blk
  rw [hb.cell, hc j po hp]
/-- All are begun: they are stepped from here on. -/
theorem Bg.done (h : Bg wb wr pt A T P m os pos B M u) (tb : Tab wb X pa pt nb A T) (h0 : os ≠ []) :
    ∃ g cap, u = .slice (some ⟨g, 0, none⟩) os.length cap ∧ Many wr (fun k => X k ∨ (wb.heap.size ≤ k ∧ k < wr.heap.size)) pa pt nb A T P m os pos B M ∧ Ops wr (fun k => X k ∨ (wb.heap.size ≤ k ∧ k < wr.heap.size)) nb g pos := by
  have htb : Tab wr (fun k => X k ∨ (wb.heap.size ≤ k ∧ k < wr.heap.size)) pa pt nb A T := by
    have h' := tb.below h.bel
    refine ⟨(tb.arena.less (Y := fun k => X k ∨ (wb.heap.size ≤ k ∧ k < wr.heap.size)) (fun k hk hy => hy.resolve_right (by omega))).below h.bel, h'.head, h'.names, .inl h'.xt, .inl h'.xn, fun k hk => ?_, h'.lists, h'.short⟩
    rintro (hx | hx)
    · exact h'.fut k hk hx
    · omega
  have hm : Many wr (fun k => X k ∨ (wb.heap.size ≤ k ∧ k < wr.heap.size)) pa pt nb A T P m os pos B M := ⟨h.inv, htb, h.len, h.op, fun k hk => .inr ⟨h.ge k hk, h.lt hk⟩, h.fit, h.nod⟩
  rcases h.row.2 with ⟨_, hz⟩ | ⟨g, cap, cur, rfl, hge, hgb, _, _, _, htk⟩
  · exact absurd (List.length_eq_zero_iff.1 hz) h0
  · have hB : Blk wr g 31 cur := hgb
    refine ⟨g, cap, rfl, hm, ⟨cur, hB, fun j po hp => ?_⟩, .inr ⟨hge, hB.lt⟩, fun hg => ?_, (htb.names.ne_blk hB).symm⟩
    · have hj : j < pos.length := by
        rcases Nat.lt_or_ge j pos.length with h1 | h1
        · exact h1
        · rw [List.getElem?_eq_none h1] at hp; cases hp
      have h1 : (cur.toList.take (os.length * 1))[j]? = some (.pointer (some ⟨po, 0, none⟩)) := by
        rw [htk]; simp [ptrs, hp]
      rw [List.getElem?_take_of_lt (by rw [h.len] at hj; omega)] at h1
      simpa using h1
    · obtain ⟨j, hj, rfl⟩ := List.getElem_of_mem hg
      have hjo : j < os.length := by rw [← h.len]; exact hj
      exact hB.ne_ (h.op j os[j] pos[j] (by simp [hjo]) (by simp [hj])).blk (by decide) rfl
theorem lives_all (h : ∀ o ∈ os, o.next ≤ 1) : lives os = os.length := by
  induction os with
  | nil => rfl
  | cons a l ih =>
    have h1 := h a (by simp)
    have h2 := ih (fun o ho => h o (by simp [ho]))
    unfold lives at h2 ⊢
    simp only [List.map_cons, List.sum_cons, List.length_cons]
    rw [if_neg (by omega), h2]; omega
theorem lives_le (os : List OS) : lives os ≤ os.length := by
  induction os with
  | nil => exact Nat.le_refl _
  | cons a l ih =>
    unfold lives at ih ⊢
    simp only [List.map_cons, List.sum_cons, List.length_cons]
    split <;> omega
/-- Whoever is picked, going on from there somebody is found who isn't over. -/
theorem find_live (h : 0 < lives os) (p : Nat) : ∃ d o, d < os.length ∧ os[(p + d) % os.length]? = some o ∧ o.next ≠ 10 := by
  obtain ⟨j, o, hj, ho⟩ := lives_pos h
  have hlt : j < os.length := by
    rcases Nat.lt_or_ge j os.length with h1 | h1
    · exact h1
    · rw [List.getElem?_eq_none h1] at hj; cases hj
  refine ⟨(j + (os.length - p % os.length)) % os.length, o, Nat.mod_lt _ (by omega), ?_, ho⟩
  have hp := Nat.mod_lt p (show 0 < os.length by omega)
  have e : (p + (j + (os.length - p % os.length)) % os.length) % os.length = j := by
    rw [Nat.add_mod_mod]
    have : p + (j + (os.length - p % os.length)) = j + os.length * (p / os.length + 1) := by
      have := Nat.div_add_mod p os.length
      rw [Nat.mul_add]; omega
    rw [this, Nat.add_mul_mod_self_left, Nat.mod_eq_of_lt hlt]
  rw [e]; exact hj
end
end Go.Proofs.Ytebdlggmpojgdaa
