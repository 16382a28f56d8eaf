/-
  Package atoms in memory: Step as a whole, as the plain state has it. Conditions: a table with operations under way, not too many.
-/
import Derived.Test.YtebdlggmpojgdaaAtoms19
import Derived.Test.YtebdlggmpojgdaaAtoms20
namespace Go.Proofs.Ytebdlggmpojgdaa
open Go.RowKit Go.Maps
set_option linter.unusedVariables false

theorem nodup_le (M : Nat) : ∀ (l : List Int), l.Nodup → (∀ x ∈ l, 1 ≤ x ∧ x ≤ (M : Int)) → l.length ≤ M := by
  induction M with
  | zero =>
    intro l _ h
    cases l with
    | nil => simp
    | cons a l => have := h a (by simp); omega
  | succ M ih =>
    intro l hn h
    by_cases hm : ((M + 1 : Nat) : Int) ∈ l
    · have h1 := ih (l.erase ((M + 1 : Nat) : Int)) (hn.erase _) (fun x hx => by
        have := (hn.mem_erase_iff).1 hx
        have h2 := h x this.2
        have h3 := this.1
        omega)
      rw [List.length_erase_of_mem hm] at h1
      omega
    · have := ih l hn (fun x hx => by
        have h2 := h x hx
        have : x ≠ ((M + 1 : Nat) : Int) := fun e => hm (e ▸ hx)
        omega)
      omega

/-- A table in memory, with its arena and its names. -/
structure Tab (w : World) (X : Nat → Prop) (pa pt nb : Nat) (A : AS) (T : TS) : Prop where
  arena : Arena w X pa A
  head : THead w pt pa nb T
  names : NMap w nb A.made T
  xt : X pt
  xn : X nb
  fut : ∀ k, w.heap.size ≤ k → ¬ X k
  lists : 1 ≤ T.lists ∧ T.lists ≤ 64
  short : ∀ e ∈ T.names, e.2.length ≤ 64
/-- What an operation has seen, and its name. -/
structure Fit (T : TS) (o : OS) : Prop where
  s0 : 0 ≤ o.seen
  s1 : mCnt o.seen < 16384
  nm : o.name.length ≤ 64

section
variable {w w' : World} {X Y : Nat → Prop} {pa po pt nb : Nat} {o : OS} {T T' : TS} {A A' : AS} {P : List Int} {m : Int} {os : List OS} {B i : Nat} {M : Int} {s : ByteArray}
theorem TS.name_short (h : ∀ e ∈ T.names, e.2.length ≤ 64) (k : Int) : (T.name k).length ≤ 64 := by
  unfold TS.name
  cases hf : T.names.find? (fun e => e.1 == k) with
  | none => simp
  | some e => simpa using h e (List.mem_of_find?_eq_some hf)
theorem AInv.few (h : AInv A T P m os B M) : (P.length : Int) ≤ A.made := by
  have := nodup_le A.made.toNat P h.lst.nod (fun x hx => by
    obtain ⟨h1, _, nx, e, _⟩ := h.lst.put x hx
    have := (h.ok.key e).2
    omega)
  have := h.ok.made0
  omega
theorem AInv.mark (h : AInv A T P m os B M) (hB : B + os.length ≤ 16000) : 0 ≤ m ∧ mCnt m < 16384 ∧ m < 9223372036854775808 := by
  have h1 := h.few
  have h2 := h.made
  have h3 := owns_le os
  have h4 := h.lst.cnt
  unfold mCnt at h4 ⊢
  omega
theorem stepO_fit (h : AInv A T P m os B M) (hB : B + os.length ≤ 16000) (hf : Fit T o) (T' : TS) : Fit T' (stepO A T o) := by
  obtain ⟨m0, m1, _⟩ := h.mark hB
  have hd : ∀ o : OS, (o.decide T).seen = o.seen ∧ (o.decide T).name = o.name := fun o => by
    unfold OS.decide OS.fin
    repeat (first | exact ⟨rfl, rfl⟩ | split)
  have hl : ∀ (o : OS) (x : Int), (o.look T x).seen = o.seen ∧ (o.look T x).name = o.name := fun o x => by
    unfold OS.look OS.fin
    split
    · exact hd _
    · split <;> exact ⟨rfl, rfl⟩
  obtain ⟨a, b, c⟩ := hf
  unfold stepO
  split
  · exact ⟨a, b, c⟩
  · rw [h.lst.mark]; exact ⟨m0, m1, c⟩
  · exact ⟨a, b, c⟩
  · exact ⟨a, b, c⟩
  · exact ⟨by rw [(hl _ _).1]; exact a, by rw [(hl _ _).1]; exact b, by rw [(hl _ _).2]; exact c⟩
  · exact ⟨by rw [(hl _ _).1]; exact a, by rw [(hl _ _).1]; exact b, by rw [(hl _ _).2]; exact c⟩
  · split <;> exact ⟨a, b, c⟩
  · exact ⟨a, b, c⟩
  · split <;> exact ⟨a, b, c⟩
  · exact ⟨a, b, c⟩
  · exact ⟨a, b, c⟩
theorem stepO_name (A : AS) (T : TS) (o : OS) : (stepO A T o).name = o.name := by
  have hd : ∀ o : OS, (o.decide T).name = o.name := fun o => by
    unfold OS.decide OS.fin
    repeat (first | rfl | split)
  have hl : ∀ (o : OS) (x : Int), (o.look T x).name = o.name := fun o x => by
    unfold OS.look OS.fin
    split
    · exact hd _
    · split <;> rfl
  unfold stepO
  split <;> first | rfl | (rw [hl]) | (split <;> rfl)
theorem stepT_short (A : AS) (T : TS) (o : OS) (h : ∀ e ∈ T.names, e.2.length ≤ 64) (hn : o.name.length ≤ 64) : ∀ e ∈ (stepT A T o).names, e.2.length ≤ 64 := by
  unfold stepT
  split
  · split
    · intro e he
      rcases List.mem_cons.1 he with rfl | he
      · exact hn
      · exact h e he
    · exact h
  · intro e he; exact h e (List.mem_filter.1 he).1
  · exact h
theorem Tab.below (h : Tab w X pa pt nb A T) (hb : Below w.heap.size w w') : Tab w' X pa pt nb A T :=
  ⟨h.arena.below hb, Blk.below h.head hb h.head.lt, h.names.keep (Keep.ofBelow (X := (· < w.heap.size)) hb (fun _ hk => hk)) h.names.lt, h.xt, h.xn, fun k hk => h.fut k (Nat.le_trans hb.size hk), h.lists, h.short⟩
theorem Tab.next (h : Tab w X pa pt nb A T) (hk : Keep (fun k => X k ∧ k ≠ po ∧ k ≠ nb) w w') (hne : pt ≠ po) (a : Arena w' X pa A') (n : NMap w' nb A'.made T') (e1 : T'.first = T.first) (e2 : T'.lists = T.lists) (e3 : T'.most = T.most) (hs : ∀ e ∈ T'.names, e.2.length ≤ 64) : Tab w' X pa pt nb A' T' := by
  refine ⟨a, ?_, n, h.xt, h.xn, fun k hk' => h.fut k (Nat.le_trans hk.size hk'), by rw [e2]; exact h.lists, hs⟩
  have := h.head.keep hk ⟨h.xt, hne, (h.names.ne_blk h.head).symm⟩
  unfold THead at this ⊢
  rw [e1, e2, e3]; exact this
theorem wf_small {k : Int} (h0 : 0 ≤ k) (h1 : k < 9223372036854775808) : (ik k).wf = true := WalkArith.wf_i64 (by omega)
theorem OpInv.live (ho : OpInv A T P o) (h7 : 7 ≤ o.next) (h9 : o.next ≤ 9) : ∃ c, 0 < o.block ∧ Go.Proofs.Ytebdlggmpojgdaa.look A.bl o.block = some [c] := by
  have hb := ho.has h7 h9
  obtain ⟨h1, _, c, e, _⟩ := ho.own hb ((ho.none h9).resolve_left hb) h9
  exact ⟨c, h1, e⟩
set_option maxHeartbeats 4000000 in
theorem step_any (h : AInv A T P m os B M) (hB : B + os.length ≤ 16000) (hM : (B : Int) + os.length < M) (hi : os[i]? = some o) (h10 : o.next < 10) (tb : Tab w X pa pt nb A T) (hO : OHead w po pt o (str o.name)) (hXo : X po) (hf : Fit T o) :
    Calls Try.prog 12 #[.pointer (some ⟨po, 0, none⟩)] w fun e w' => e = .returned (.bool (decide ((stepO A T o).next = 10))) ∧ OHead w' po pt (stepO A T o) (str o.name) ∧ Tab w' X pa pt nb (stepA A T o) (stepT A T o) ∧ Keep (fun k => X k ∧ k ≠ po ∧ k ≠ nb) w w' := by
  obtain ⟨m0, m1, m2⟩ := h.mark hB
  have ho := h.ops i o hi
  have hmd : A.made < 20000 := by have := h.made; have := owns_le os; omega
  have hpt := hO.ne_pt tb.head
  have hnp := tb.names.ne_blk hO.blk
  obtain ⟨hs, el, hl, hh⟩ := h.lst.fst
  have hfk := h.ok.key el
  have hwb : (ik T.first).wf = true := wf_small (by omega) (by omega)
  have hPk : ∀ b, b = 0 ∨ b ∈ P → 0 ≤ b ∧ b ≤ A.made := fun b hb => by
    rcases hb with rfl | hb
    · have := h.ok.made0; omega
    · obtain ⟨_, _, nx, e, _⟩ := h.lst.put b hb
      have := h.ok.key e; omega
  -- nothing but the operation has turned
  have self : ∀ {o'} {w'}, OHead w' po pt o' (str o.name) → Keep (· ≠ po) w w' → OHead w' po pt o' (str o.name) ∧ Tab w' X pa pt nb A T ∧ Keep (fun k => X k ∧ k ≠ po ∧ k ≠ nb) w w' := fun {o'} {w'} r k => by
    have k' : Keep (fun k => X k ∧ k ≠ po ∧ k ≠ nb) w w' := k.less (fun _ hk => hk.2.1)
    refine ⟨r, tb.next k' hpt.symm ?_ (tb.names.keep k hnp) rfl rfl rfl tb.short, k'⟩
    exact tb.arena.keep (Y := (· ≠ po)) k (fun k hk e => hk (e ▸ hXo))
  -- the operation and the arena
  have both : ∀ {o'} {w'} {A'}, A'.made = A.made → OHead w' po pt o' (str o.name) → Arena w' X pa A' → Keep (fun k => X k ∧ k ≠ po) w w' → OHead w' po pt o' (str o.name) ∧ Tab w' X pa pt nb A' T ∧ Keep (fun k => X k ∧ k ≠ po ∧ k ≠ nb) w w' := fun {o'} {w'} {A'} em r a k => by
    have k' : Keep (fun k => X k ∧ k ≠ po ∧ k ≠ nb) w w' := k.less (fun _ hk => ⟨hk.1, hk.2.1⟩)
    exact ⟨r, tb.next k' hpt.symm a (by rw [em]; exact tb.names.keep k ⟨tb.xn, hnp⟩) rfl rfl rfl tb.short, k'⟩
  have hsw : ∀ k x y, (A.swapAt T.first k x y).made = A.made := fun k x y => by
    unfold AS.swapAt; rw [el]; dsimp only; split <;> rfl
  have hn : o.next = 0 ∨ o.next = 1 ∨ o.next = 2 ∨ o.next = 3 ∨ o.next = 4 ∨ o.next = 5 ∨ o.next = 6 ∨ o.next = 7 ∨ o.next = 8 ∨ o.next = 9 := by omega
  rcases hn with e | e | e | e | e | e | e | e | e | e
  · have eA : stepA A T o = A := by unfold stepA; rw [e] <;> rfl
    have eT : stepT A T o = T := by unfold stepT; rw [e] <;> rfl
    have eO : stepO A T o = o.fin 0 2 := by unfold stepO; rw [e] <;> rfl
    rw [eA, eT, eO]
    refine (step0_any hO e).mono ?_
    rintro _ w' ⟨rfl, r, k⟩
    exact ⟨rfl, self r k⟩
  · have eA : stepA A T o = A := by unfold stepA; rw [e] <;> rfl
    have eT : stepT A T o = T := by unfold stepT; rw [e] <;> rfl
    have eO : stepO A T o = { o with seen := m, next := if mNew m = 0 then 4 else 2 } := by unfold stepO; rw [e]; simp only [h.lst.mark]
    rw [eA, eT, eO]
    have := step1_any hO e tb.head tb.arena hwb el (by simp) (by simpa using m0) (by simpa using m2)
    refine this.mono ?_
    rintro _ w' ⟨rfl, r, k⟩
    refine ⟨?_, self r k⟩
    congr 2
    by_cases h0 : mNew m = 0 <;> simp [h0]
  · have eA : stepA A T o = A := by unfold stepA; rw [e] <;> rfl
    have eT : stepT A T o = T := by unfold stepT; rw [e] <;> rfl
    have hp := ho.seen (by omega) (by omega)
    obtain ⟨_, _, nx, en, _⟩ := h.lst.put _ hp
    have hk := h.ok.key en
    have ev : A.val (mNew o.seen) 0 = nx := by unfold AS.val; rw [en]; simp
    have eO : stepO A T o = { o with behind := nx, next := 3 } := by unfold stepO; rw [e]; simp only [ev]
    rw [eA, eT, eO]
    have s1 := hf.s1
    refine (step2_any hO e tb.head tb.arena hf.s0 (by unfold mCnt at s1; omega) (wf_small (by omega) (by omega)) en (by simp)).mono ?_
    rintro _ w' ⟨rfl, r, k⟩
    exact ⟨rfl, self r k⟩
  · have eA : stepA A T o = A.swapAt T.first (1 + T.list (T.name (mNew o.seen))) o.behind (mNew o.seen) := by unfold stepA; rw [e] <;> rfl
    have eT : stepT A T o = T := by unfold stepT; rw [e] <;> rfl
    have eO : stepO A T o = { o with next := 4 } := by unfold stepO; rw [e] <;> rfl
    have hp := ho.seen (by omega) (by omega)
    obtain ⟨_, _, nx, en, _⟩ := h.lst.put _ hp
    have hk := h.ok.key en
    have s1 := hf.s1
    have hsh := TS.name_short tb.short (mNew o.seen)
    rw [eA, eT, eO]
    refine (step3_any hO e tb.head tb.arena tb.names hXo tb.xt tb.xn hwb tb.lists hf.s0 (by unfold mCnt at s1; omega) (wf_small (by omega) (by omega)) (by omega)).mono ?_
    rintro _ w' ⟨rfl, r, a, k⟩
    exact ⟨rfl, both (hsw _ _ _) r a k⟩
  · have eA : stepA A T o = A := by unfold stepA; rw [e] <;> rfl
    have eT : stepT A T o = T := by unfold stepT; rw [e] <;> rfl
    have hli := ho.list
    have hll := tb.lists
    have ev : A.val T.first (1 + o.list) = (m :: hs).getD (1 + o.list).toNat 0 := by
      unfold AS.val; rw [el]; dsimp only; rw [if_pos ⟨by omega, by simp; omega⟩]
    have eO : stepO A T o = ({ o with head := (m :: hs).getD (1 + o.list).toNat 0 } : OS).look T ((m :: hs).getD (1 + o.list).toNat 0) := by unfold stepO; rw [e]; simp only [ev]
    have hx := hPk _ (h.lst.head hli.1 hli.2)
    rw [ev] at hx
    rw [eA, eT, eO]
    refine (step4_any hO e tb.head tb.arena tb.names hwb el hli.1 (by omega) (by simp; omega) (wf_small (by omega) (by omega))).mono ?_
    rintro _ w' ⟨rfl, r, k⟩
    exact ⟨rfl, self r k⟩
  · have eA : stepA A T o = A := by unfold stepA; rw [e] <;> rfl
    have eT : stepT A T o = T := by unfold stepT; rw [e] <;> rfl
    have hat := ho.at_ e
    obtain ⟨_, _, nx, en, hnx⟩ := h.lst.put _ hat
    have hk := h.ok.key en
    have hx := hPk nx (hnx.imp id (·.1))
    have ev : A.val o.at_ 0 = nx := by unfold AS.val; rw [en]; simp
    have eO : stepO A T o = o.look T nx := by unfold stepO; rw [e]; simp only [ev]
    rw [eA, eT, eO]
    refine (step5_any hO e tb.head tb.arena tb.names (wf_small (by omega) (by omega)) en (by simp) (wf_small (by simp; omega) (by simp; omega))).mono ?_
    rintro _ w' ⟨rfl, r, k⟩
    exact ⟨rfl, self r k⟩
  · have hr := h.room hM
    have eA : stepA A T o = A.allocAt 1 := by unfold stepA; rw [e] <;> rfl
    have eT : stepT A T o = { T with names := (A.allocNo 1, o.name) :: T.names } := by unfold stepT; rw [e]; simp only [hr]; rfl
    have eO : stepO A T o = { o with block := A.allocNo 1, next := 7 } := by unfold stepO; rw [e]; simp only [hr]; rfl
    have hsh := stepT_short A T o tb.short hf.nm
    rw [eT] at hsh
    rw [eA, eT, eO]
    refine (step6_any hO e tb.head tb.arena tb.names hXo tb.xt tb.xn tb.fut hr (by omega)).mono ?_
    rintro _ w' ⟨rfl, r, a, n, k⟩
    exact ⟨rfl, r, tb.next k hpt.symm a n rfl rfl rfl hsh, k⟩
  · have eA : stepA A T o = A.storeAt o.block 0 o.head := by unfold stepA; rw [e] <;> rfl
    have eT : stepT A T o = T := by unfold stepT; rw [e] <;> rfl
    have eO : stepO A T o = { o with next := 8 } := by unfold stepO; rw [e] <;> rfl
    obtain ⟨c, hc0, ec⟩ := ho.live (by omega) (by omega)
    have hk := h.ok.key ec
    rw [eA, eT, eO]
    refine (step7_any hO e tb.head tb.arena hXo tb.xt (wf_small (by omega) (by omega))).mono ?_
    rintro _ w' ⟨rfl, r, a, k⟩
    exact ⟨rfl, both (by unfold AS.storeAt; rw [ec]; dsimp only; split <;> rfl) r a k⟩
  · have eA : stepA A T o = A.swapAt T.first 0 o.seen (mWith o.seen o.block) := by unfold stepA; rw [e] <;> rfl
    have eT : stepT A T o = T := by unfold stepT; rw [e] <;> rfl
    have eO : stepO A T o = if m = o.seen then { o with id := o.block, next := 10 } else { o with next := 1 } := by unfold stepO; rw [e]; simp only [h.lst.mark]
    obtain ⟨c, hc0, ec⟩ := ho.live (by omega) (by omega)
    have hk := h.ok.key ec
    have s1 := hf.s1
    rw [eA, eT, eO]
    refine (step8_any hO e tb.head tb.arena hXo tb.xt hwb el (by simp) hf.s0 (by omega) (by omega) (by omega)).mono ?_
    rintro _ w' ⟨rfl, r, a, k⟩
    refine ⟨?_, both (hsw _ _ _) r a k⟩
    by_cases hv : m = o.seen <;> simp [hv]
  · have eA : stepA A T o = A.freeAt o.block := by unfold stepA; rw [e] <;> rfl
    have eT : stepT A T o = { T with names := T.names.filter (fun e => !(e.1 == o.block)) } := by unfold stepT; rw [e] <;> rfl
    have eO : stepO A T o = { o with next := 10 } := by unfold stepO; rw [e] <;> rfl
    obtain ⟨c, hc0, ec⟩ := ho.live (by omega) (by omega)
    have hk := h.ok.key ec
    have hsh := stepT_short A T o tb.short hf.nm
    rw [eT] at hsh
    rw [eA, eT, eO]
    refine (step9_any hO e tb.head tb.arena tb.names hXo tb.xt tb.xn (wf_small (by omega) (by omega))).mono ?_
    rintro _ w' ⟨rfl, r, a, n, k⟩
    refine ⟨rfl, r, tb.next k hpt.symm a ?_ rfl rfl rfl hsh, k⟩
    have : (A.freeAt o.block).made = A.made := by unfold AS.freeAt; rw [ec]; rfl
    rw [this]; exact n
/-- A step of one that is over. -/
theorem step10_any (hO : OHead w po pt o s) (h10 : o.next = 10) :
    Calls Try.prog 12 #[.pointer (some ⟨po, 0, none⟩)] w fun e w' => e = .returned (.bool true) ∧ w = w' := by
  have hv := over_any hO
  rw [decide_eq_true h10] at hv
  have c1 : w.cell? ⟨po, 1, none⟩ = some (.int .i64 10) := by have := hO.next_; rw [h10] at this; exact this
  have HV := Lib.hid hv; clear hv
  clear hO h10
  go_enter Try.func12, Try.ntmps12
  go_wp2_with (go_at_call 14; refine HV.out.mono ?_; rintro e w2 ⟨rfl, rfl⟩)
  go_ret
  exact ⟨rfl, rfl⟩
end
end Go.Proofs.Ytebdlggmpojgdaa
