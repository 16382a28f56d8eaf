/-
  Joined texts (Tm7, Tm8, Tm9, Tm10, Tm11, Tm12, Ts0, Ts1, Ts2, Ts3, Ts4, Ts5). No condition.
-/
import Derived.Test.YtfkbbbjicaedmaaGreatDoorQMA
namespace Go.Proofs.YtfkbbbjicaedmaaGreatDoor
set_option linter.unusedVariables false
mutual
def Tm.ns : Tm → Nat
  | .node k nm i args => if k = 4 then 1 + nsL args else 1
def nsL : List Tm → Nat
  | [] => 0
  | t :: ts => t.ns + nsL ts
end
mutual
def Tm.nd : Tm → Nat
  | .node k nm i args => if k = 4 then 1 + ndL args else 1
def ndL : List Tm → Nat
  | [] => 0
  | t :: ts => max t.nd (ndL ts)
end
mutual
def Tm.ok : Tm → Bool
  | .node k nm i args => if k = 1 then decide (1 ≤ i) else if k = 2 then true else if k = 4 then (decide (1 ≤ args.length) && decide (args.length ≤ 8) && okL args) && decide (nm.length ≤ 64) else if k = 3 then decide (nm.length ≤ 64) else false
def okL : List Tm → Bool
  | [] => true
  | t :: ts => t.ok && okL ts
end
theorem Tm.ind {P : Tm → Prop} (h : ∀ k nm i args, (∀ x ∈ args, P x) → P (.node k nm i args)) : ∀ t, P t
  | .node k nm i args => h k nm i args (fun x hx => Tm.ind h x)
theorem Tm.ns_eq (t : Tm) : t.ns = if t.k = 4 then 1 + nsL t.args else 1 := by cases t; rw [Tm.ns]; rfl
theorem Tm.nd_eq (t : Tm) : t.nd = if t.k = 4 then 1 + ndL t.args else 1 := by cases t; rw [Tm.nd]; rfl
theorem Tm.ok_eq (t : Tm) : t.ok = if t.k = 1 then decide (1 ≤ t.i) else if t.k = 2 then true else if t.k = 4 then (decide (1 ≤ t.args.length) && decide (t.args.length ≤ 8) && okL t.args) && decide (t.nm.length ≤ 64) else if t.k = 3 then decide (t.nm.length ≤ 64) else false := by cases t; rw [Tm.ok]; rfl
theorem nsL_cons (t : Tm) (ts : List Tm) : nsL (t :: ts) = t.ns + nsL ts := by rw [nsL]
theorem ndL_cons (t : Tm) (ts : List Tm) : ndL (t :: ts) = max t.nd (ndL ts) := by rw [ndL]
theorem okL_cons (t : Tm) (ts : List Tm) : okL (t :: ts) = (t.ok && okL ts) := by rw [okL]
theorem nsL_nil : nsL [] = 0 := by rw [nsL]
theorem ndL_nil : ndL [] = 0 := by rw [ndL]
theorem okL_nil : okL [] = true := by rw [okL]
theorem Tm.ns_pos (t : Tm) : 1 ≤ t.ns := by rw [t.ns_eq]; split <;> omega
theorem Tm.nd_pos (t : Tm) : 1 ≤ t.nd := by rw [t.nd_eq]; split <;> omega
theorem okL_all : ∀ {ts : List Tm}, okL ts = true ↔ ∀ x ∈ ts, x.ok = true := by
  intro ts
  induction ts with
  | nil => simp [okL_nil]
  | cons t ts ih => simp [okL_cons, ih]
def Fits (o : Bool) (n dd : Nat) (d : Int) (sm : Int × Int) : Prop := o = true ∧ sm.1 + n ≤ 2000 ∧ d + dd ≤ 101
def MeasIs (t : Tm) : Prop := ∀ (d : Int) (sm : Int × Int), Bd sm → 1 ≤ d → d ≤ 101 →
  ((t.meas d sm).2 = true ↔ Fits t.ok t.ns t.nd d sm) ∧ ((t.meas d sm).2 = true → (t.meas d sm).1 = (sm.1 + t.ns, max sm.2 (d + t.nd - 1)))
theorem measL_is {ts : List Tm} (h : ∀ x ∈ ts, MeasIs x) : ∀ (d : Int) (sm : Int × Int), Bd sm → 1 ≤ d → d ≤ 101 →
    ((measL ts d sm).2 = true ↔ Fits (okL ts) (nsL ts) (ndL ts) d sm) ∧ ((measL ts d sm).2 = true → (measL ts d sm).1 = (sm.1 + nsL ts, if ts = [] then sm.2 else max sm.2 (d + ndL ts - 1))) := by
  induction ts with
  | nil =>
    intro d sm hb h1 h2
    rw [measL_nil, okL_nil, nsL_nil, ndL_nil]
    have := hb.s1
    refine ⟨⟨fun _ => ⟨rfl, by simpa using this, by simpa using h2⟩, fun _ => rfl⟩, fun _ => by simp⟩
  | cons t ts ih =>
    intro d sm hb h1 h2
    obtain ⟨ha, hv⟩ := h t List.mem_cons_self d sm hb h1 h2
    rw [measL_cons, okL_cons, nsL_cons, ndL_cons]
    have hnp := t.ns_pos
    have hdp := t.nd_pos
    by_cases hx : (t.meas d sm).2 = true
    · have hv' := hv hx
      obtain ⟨f1, f2, f3⟩ := ha.1 hx
      have hb1 : Bd (t.meas d sm).1 := (meas_bd 200 t d sm (by omega) h1 h2 hb).ok hx
      obtain ⟨hi, hj⟩ := ih (fun x hx => h x (List.mem_cons_of_mem _ hx)) d _ hb1 h1 h2
      rw [if_pos hx]
      rw [hv'] at hi hj ⊢
      unfold Fits at hi ⊢
      dsimp only at hi hj
      refine ⟨hi.trans ⟨fun ⟨a, b, c⟩ => ⟨by rw [f1, a]; rfl, by omega, by omega⟩, fun ⟨a, b, c⟩ => ⟨by simp at a; exact a.2, by omega, by omega⟩⟩, fun hk => ?_⟩
      rw [hj hk]
      have e1 : sm.1 + (t.ns : Int) + (nsL ts : Int) = sm.1 + ((t.ns + nsL ts : Nat) : Int) := by omega
      rw [e1]
      congr 1
      cases ts with
      | nil => rw [ndL_nil]; simp
      | cons u us => rw [if_neg (by simp), if_neg (by simp)]; omega
    · rw [if_neg hx]
      refine ⟨⟨fun h => absurd h hx, fun ⟨a, b, c⟩ => absurd (ha.2 ⟨by simp at a; exact a.1, by omega, by omega⟩) hx⟩, fun h => absurd h hx⟩
theorem meas_is : ∀ t : Tm, MeasIs t := by
  intro t
  induction t using Tm.ind with
  | h k nm i args ih =>
    intro d sm hb h1 h2
    have hnp := (Tm.node k nm i args).ns_pos
    have hdp := (Tm.node k nm i args).nd_pos
    obtain ⟨s0, s1, m0, m1⟩ := hb
    rw [Tm.meas]
    unfold Fits
    have hns : (Tm.node k nm i args).ns = if k = 4 then 1 + nsL args else 1 := by rw [Tm.ns]
    have hnd : (Tm.node k nm i args).nd = if k = 4 then 1 + ndL args else 1 := by rw [Tm.nd]
    have hok : (Tm.node k nm i args).ok = if k = 1 then decide (1 ≤ i) else if k = 2 then true else if k = 4 then (decide (1 ≤ args.length) && decide (args.length ≤ 8) && okL args) && decide (nm.length ≤ 64) else if k = 3 then decide (nm.length ≤ 64) else false := by rw [Tm.ok]
    generalize (Tm.node k nm i args).ns = N at *
    generalize (Tm.node k nm i args).nd = D at *
    generalize (Tm.node k nm i args).ok = O at *
    by_cases hg : 2000 < sm.1 + 1 ∨ 100 < max sm.2 d
    · rw [if_pos hg]
      refine ⟨⟨(fun h => by cases h), fun ⟨a, b, c⟩ => ?_⟩, (fun h => by cases h)⟩
      exfalso; omega
    rw [if_neg hg]
    have one : ∀ b, N = 1 → D = 1 → O = b → ((b = true ↔ O = true ∧ sm.1 + (N : Int) ≤ 2000 ∧ d + (D : Int) ≤ 101) ∧ (b = true → (sm.1 + 1, max sm.2 d) = (sm.1 + (N : Int), max sm.2 (d + (D : Int) - 1)))) := by
      rintro b rfl rfl rfl
      exact ⟨⟨fun h => ⟨h, by omega, by omega⟩, fun h => h.1⟩, fun _ => by congr 1; omega⟩
    by_cases k1 : k = 1
    · rw [if_pos k1] at hok ⊢
      rw [if_neg (by omega)] at hns hnd
      exact one _ hns hnd hok
    rw [if_neg k1] at hok ⊢
    by_cases k2 : k = 2
    · rw [if_pos k2] at hok ⊢
      rw [if_neg (by omega)] at hns hnd
      exact one _ hns hnd hok
    rw [if_neg k2] at hok ⊢
    by_cases k4 : k = 4
    · rw [if_pos k4] at hok hns hnd ⊢
      by_cases hl : args.length = 0 ∨ 8 < args.length
      · rw [if_pos hl]
        refine ⟨⟨(fun h => by cases h), fun ⟨a, b, c⟩ => ?_⟩, (fun h => by cases h)⟩
        rw [hok] at a
        simp only [Bool.and_eq_true, decide_eq_true_eq] at a
        exfalso; have := a.1.1; omega
      · rw [if_neg hl]
        obtain ⟨hi, hj⟩ := measL_is ih (d + 1) (sm.1 + 1, max sm.2 d) ⟨by dsimp only; omega, by dsimp only; omega, by dsimp only; omega, by dsimp only; omega⟩ (by omega) (by omega)
        have hne : ¬ args = [] := by intro h; subst h; simp at hl
        rw [if_neg hne] at hj
        refine ⟨?_, fun hk => ?_⟩
        · simp only [Bool.and_eq_true]
          rw [hi, hok]
          unfold Fits
          dsimp only
          simp only [Bool.and_eq_true, decide_eq_true_eq]
          constructor
          · rintro ⟨⟨a, b, c⟩, e⟩
            exact ⟨⟨⟨⟨by omega, by omega⟩, a⟩, e⟩, by omega, by omega⟩
          · rintro ⟨⟨⟨_, a⟩, e⟩, b, c⟩
            exact ⟨⟨a, by omega, by omega⟩, e⟩
        · simp only [Bool.and_eq_true] at hk
          rw [hj hk.1]
          dsimp only
          congr 1 <;> omega
    rw [if_neg k4] at hok hns hnd ⊢
    by_cases k3 : k = 3
    · rw [if_pos k3] at hok ⊢
      exact one _ hns hnd hok
    rw [if_neg k3] at hok ⊢
    exact one _ hns hnd hok
def Tm.Right (t : Tm) : Prop := t.ok = true ∧ t.ns ≤ 2000 ∧ t.nd ≤ 100
theorem Tm.right_iff (t : Tm) : (t.meas 1 (0, 0)).2 = true ↔ t.Right := by
  rw [(meas_is t 1 (0, 0) ⟨by decide, by decide, by decide, by decide⟩ (by decide) (by decide)).1]
  unfold Fits Tm.Right
  dsimp only
  constructor
  · rintro ⟨a, b, c⟩; exact ⟨a, by omega, by omega⟩
  · rintro ⟨a, b, c⟩; exact ⟨a, by omega, by omega⟩
end Go.Proofs.YtfkbbbjicaedmaaGreatDoor
namespace Go.Proofs.YtfkbbbjicaedmaaGreatDoor
set_option linter.unusedVariables false
inductive T where
  | v (n : Int)
  | n (i : Int)
  | a (nm : List UInt8)
  | c (nm : List UInt8) (args : List T)
instance : Inhabited T := ⟨.n 0⟩
mutual
def Tm.tree : Tm → T
  | .node k nm i args => if k = 1 then .v i else if k = 2 then .n i else if k = 3 then .a nm else .c nm (treeL args)
def treeL : List Tm → List T
  | [] => []
  | t :: ts => t.tree :: treeL ts
end
mutual
def T.tm : T → Tm
  | .v x => .node 1 [] x []
  | .n x => .node 2 [] x []
  | .a x => .node 3 x 0 []
  | .c nm args => .node 4 nm 0 (tmL args)
def tmL : List T → List Tm
  | [] => []
  | t :: ts => t.tm :: tmL ts
end
mutual
def T.ns : T → Nat
  | .c nm args => 1 + nsT args
  | _ => 1
def nsT : List T → Nat
  | [] => 0
  | t :: ts => t.ns + nsT ts
end
mutual
def T.nd : T → Nat
  | .c nm args => 1 + ndT args
  | _ => 1
def ndT : List T → Nat
  | [] => 0
  | t :: ts => max t.nd (ndT ts)
end
mutual
def T.ok : T → Bool
  | .v x => decide (1 ≤ x)
  | .n x => true
  | .a nm => decide (nm.length ≤ 64)
  | .c nm args => (decide (1 ≤ args.length) && decide (args.length ≤ 8) && okT args) && decide (nm.length ≤ 64)
def okT : List T → Bool
  | [] => true
  | t :: ts => t.ok && okT ts
end
theorem T.ind {P : T → Prop} (hv : ∀ n, P (.v n)) (hn : ∀ i, P (.n i)) (ha : ∀ nm, P (.a nm)) (hc : ∀ nm args, (∀ x ∈ args, P x) → P (.c nm args)) : ∀ t, P t
  | .v x => hv x
  | .n x => hn x
  | .a x => ha x
  | .c nm args => hc nm args (fun x hx => T.ind hv hn ha hc x)
theorem treeL_map (ts : List Tm) : treeL ts = ts.map Tm.tree := by induction ts with | nil => rw [treeL]; rfl | cons t ts ih => rw [treeL, ih]; rfl
theorem tmL_map (ts : List T) : tmL ts = ts.map T.tm := by induction ts with | nil => rw [tmL]; rfl | cons t ts ih => rw [tmL, ih]; rfl
theorem nsT_cons (t : T) (ts : List T) : nsT (t :: ts) = t.ns + nsT ts := by rw [nsT]
theorem ndT_cons (t : T) (ts : List T) : ndT (t :: ts) = max t.nd (ndT ts) := by rw [ndT]
theorem okT_cons (t : T) (ts : List T) : okT (t :: ts) = (t.ok && okT ts) := by rw [okT]
theorem nsT_nil : nsT [] = 0 := by rw [nsT]
theorem ndT_nil : ndT [] = 0 := by rw [ndT]
theorem okT_nil : okT [] = true := by rw [okT]
theorem T.ns_c (nm : List UInt8) (args : List T) : (T.c nm args).ns = 1 + nsT args := by rw [T.ns]
theorem T.nd_c (nm : List UInt8) (args : List T) : (T.c nm args).nd = 1 + ndT args := by rw [T.nd]
theorem T.ok_c (nm : List UInt8) (args : List T) : (T.c nm args).ok = ((decide (1 ≤ args.length) && decide (args.length ≤ 8) && okT args) && decide (nm.length ≤ 64)) := by rw [T.ok]
theorem okT_all : ∀ {ts : List T}, okT ts = true ↔ ∀ x ∈ ts, x.ok = true := by
  intro ts
  induction ts with
  | nil => simp [okT_nil]
  | cons t ts ih => simp [okT_cons, ih]
def T.kind : T → Int | .v _ => 1 | .n _ => 2 | .a _ => 3 | .c _ _ => 4
theorem Tm.ok_kind {t : Tm} (h : t.ok = true) : t.k = 1 ∨ t.k = 2 ∨ t.k = 3 ∨ t.k = 4 := by
  rw [t.ok_eq] at h
  by_cases k1 : t.k = 1
  · exact .inl k1
  by_cases k2 : t.k = 2
  · exact .inr (.inl k2)
  by_cases k3 : t.k = 3
  · exact .inr (.inr (.inl k3))
  by_cases k4 : t.k = 4
  · exact .inr (.inr (.inr k4))
  rw [if_neg k1, if_neg k2, if_neg k4, if_neg k3] at h
  cases h
theorem Tm.tree_eq (t : Tm) : t.tree = if t.k = 1 then .v t.i else if t.k = 2 then .n t.i else if t.k = 3 then .a t.nm else .c t.nm (t.args.map Tm.tree) := by
  cases t with
  | node k nm i args => rw [Tm.tree, treeL_map]; rfl
theorem Tm.ok_args {t : Tm} (h : t.ok = true) (k4 : t.k = 4) : 1 ≤ t.args.length ∧ t.args.length ≤ 8 ∧ (∀ x ∈ t.args, x.ok = true) ∧ t.nm.length ≤ 64 := by
  rw [t.ok_eq, if_neg (by omega), if_neg (by omega), if_pos k4] at h
  simp only [Bool.and_eq_true, decide_eq_true_eq] at h
  exact ⟨h.1.1.1, h.1.1.2, okL_all.1 h.1.2, h.2⟩
theorem nsT_map {ts : List Tm} (h : ∀ x ∈ ts, x.tree.ns = x.ns) : nsT (ts.map Tm.tree) = nsL ts := by
  induction ts with
  | nil => rw [nsL_nil]; exact nsT_nil
  | cons t ts ih => rw [List.map_cons, nsT_cons, nsL_cons, h t List.mem_cons_self, ih (fun x hx => h x (List.mem_cons_of_mem _ hx))]
theorem ndT_map {ts : List Tm} (h : ∀ x ∈ ts, x.tree.nd = x.nd) : ndT (ts.map Tm.tree) = ndL ts := by
  induction ts with
  | nil => rw [ndL_nil]; exact ndT_nil
  | cons t ts ih => rw [List.map_cons, ndT_cons, ndL_cons, h t List.mem_cons_self, ih (fun x hx => h x (List.mem_cons_of_mem _ hx))]
theorem Tm.tree_ns {t : Tm} : t.ok = true → t.tree.ns = t.ns ∧ t.tree.nd = t.nd ∧ t.tree.ok = true ∧ t.tree.kind = t.k := by
  induction t using Tm.ind with
  | h k nm i args ih =>
    intro h
    have hk := Tm.ok_kind h
    have hargs := Tm.ok_args h
    have e1 : (Tm.node k nm i args).tree = if k = 1 then .v i else if k = 2 then .n i else if k = 3 then .a nm else .c nm (args.map Tm.tree) := by rw [Tm.tree, treeL_map]
    have e2 : (Tm.node k nm i args).ns = if k = 4 then 1 + nsL args else 1 := by rw [Tm.ns]
    have e3 : (Tm.node k nm i args).nd = if k = 4 then 1 + ndL args else 1 := by rw [Tm.nd]
    rw [Tm.ok] at h
    change k = 1 ∨ k = 2 ∨ k = 3 ∨ k = 4 at hk
    change k = 4 → 1 ≤ args.length ∧ args.length ≤ 8 ∧ (∀ x ∈ args, x.ok = true) ∧ nm.length ≤ 64 at hargs
    change _ ∧ _ ∧ _ ∧ _ = k
    rw [e1, e2, e3]
    clear e1 e2 e3
    rcases hk with rfl | rfl | rfl | rfl
    · simp only [if_pos] at h ⊢; exact ⟨by simp [T.ns], by simp [T.nd], by rw [T.ok]; exact h, rfl⟩
    · exact ⟨by simp [T.ns], by simp [T.nd], by simp [T.ok], rfl⟩
    · exact ⟨by simp [T.ns], by simp [T.nd], by simp [T.ok]; simpa using h, rfl⟩
    · obtain ⟨h1, h8, hx, hn⟩ := hargs rfl
      simp only [if_neg (show ¬ (4 : Int) = 1 by decide), if_neg (show ¬ (4 : Int) = 2 by decide), if_neg (show ¬ (4 : Int) = 3 by decide), if_pos]
      rw [T.ns_c, T.nd_c, T.ok_c, nsT_map (fun x hm => (ih x hm (hx x hm)).1), ndT_map (fun x hm => (ih x hm (hx x hm)).2.1), List.length_map]
      refine ⟨rfl, rfl, ?_, rfl⟩
      simp only [Bool.and_eq_true, decide_eq_true_eq]
      refine ⟨⟨⟨h1, h8⟩, okT_all.2 fun x hm => ?_⟩, hn⟩
      obtain ⟨y, hy, rfl⟩ := List.mem_map.1 hm
      exact (ih y hy (hx y hy)).2.2.1
theorem T.tm_c (nm : List UInt8) (args : List T) : (T.c nm args).tm = .node 4 nm 0 (args.map T.tm) := by rw [T.tm, tmL_map]
theorem map_same {α β : Type} {f : α → β} {g : β → α} : ∀ {l : List α}, (∀ x ∈ l, g (f x) = x) → (l.map f).map g = l := by
  intro l
  induction l with
  | nil => intro _; rfl
  | cons x l ih => intro h; rw [List.map_cons, List.map_cons, h x List.mem_cons_self, ih (fun y hy => h y (List.mem_cons_of_mem _ hy))]
theorem T.tm_tree (t : T) : t.tm.tree = t := by
  induction t using T.ind with
  | hv n => simp [T.tm, Tm.tree]
  | hn i => simp [T.tm, Tm.tree]
  | ha nm => simp [T.tm, Tm.tree]
  | hc nm args ih =>
    have e : (Tm.node 4 nm 0 (args.map T.tm)).tree = .c nm ((args.map T.tm).map Tm.tree) := by rw [Tm.tree, treeL_map]; simp
    rw [T.tm_c, e, map_same ih]
theorem T.tm_ok (t : T) : t.tm.ok = t.ok ∧ t.tm.ns = t.ns ∧ t.tm.nd = t.nd := by
  induction t using T.ind with
  | hv n => simp [T.tm, Tm.ok, T.ok, Tm.ns, T.ns, Tm.nd, T.nd]
  | hn i => simp [T.tm, Tm.ok, T.ok, Tm.ns, T.ns, Tm.nd, T.nd]
  | ha nm => simp [T.tm, Tm.ok, T.ok, Tm.ns, T.ns, Tm.nd, T.nd]
  | hc nm args ih =>
    have ls : ∀ l : List T, (∀ x ∈ l, x.tm.ok = x.ok ∧ x.tm.ns = x.ns ∧ x.tm.nd = x.nd) → okL (l.map T.tm) = okT l ∧ nsL (l.map T.tm) = nsT l ∧ ndL (l.map T.tm) = ndT l := by
      intro l
      induction l with
      | nil => intro _; simp [okL_nil, okT_nil, nsL_nil, nsT_nil, ndL_nil, ndT_nil]
      | cons x l ih =>
        intro h
        obtain ⟨a, b, c⟩ := h x List.mem_cons_self
        obtain ⟨d, e, f⟩ := ih (fun y hy => h y (List.mem_cons_of_mem _ hy))
        rw [List.map_cons, okL_cons, okT_cons, nsL_cons, nsT_cons, ndL_cons, ndT_cons, a, b, c, d, e, f]
        exact ⟨rfl, rfl, rfl⟩
    obtain ⟨a, b, c⟩ := ls args ih
    rw [T.tm_c, Tm.ok, Tm.ns, Tm.nd, T.ok_c, T.ns_c, T.nd_c, a, b, c]
    simp
def T.Right (t : T) : Prop := t.ok = true ∧ t.ns ≤ 2000 ∧ t.nd ≤ 100
theorem T.tm_right (t : T) : t.tm.Right ↔ t.Right := by
  obtain ⟨a, b, c⟩ := t.tm_ok
  unfold Tm.Right T.Right
  rw [a, b, c]
theorem Tm.tree_right {t : Tm} (h : t.Right) : t.tree.Right := by
  obtain ⟨a, b, c, _⟩ := Tm.tree_ns h.1
  exact ⟨c, by rw [a]; exact h.2.1, by rw [b]; exact h.2.2⟩
def cmpI (a b : Int) : Int := if a < b then -1 else if b < a then 1 else 0
def cmpB : List UInt8 → List UInt8 → Int
  | [], [] => 0
  | [], _ :: _ => -1
  | _ :: _, [] => 1
  | x :: xs, y :: ys => if x.toNat < y.toNat then -1 else if y.toNat < x.toNat then 1 else cmpB xs ys
def or2 (a b : Int) : Int := if a = 0 then b else a
mutual
def T.cmp : T → T → Int
  | .v x, u => match u with | .v y => cmpI x y | _ => -1
  | .n x, u => match u with | .v _ => 1 | .n y => cmpI x y | _ => -1
  | .a x, u => match u with | .a y => cmpB x y | .c _ _ => -1 | _ => 1
  | .c f as_, u => match u with | .c g bs => or2 (cmpI as_.length bs.length) (or2 (cmpB f g) (cmpL as_ bs)) | _ => 1
def cmpL : List T → List T → Int
  | [], u => match u with | [] => 0 | _ :: _ => -1
  | x :: xs, u => match u with | [] => 1 | y :: ys => or2 (x.cmp y) (cmpL xs ys)
end
theorem cmpI_self (a : Int) : cmpI a a = 0 := by unfold cmpI; split <;> omega
theorem cmpI_zero {a b : Int} : cmpI a b = 0 ↔ a = b := by
  unfold cmpI
  split
  · constructor <;> intro h <;> omega
  · split <;> constructor <;> intro h <;> omega
theorem cmpI_neg (a b : Int) : cmpI a b = -cmpI b a := by
  unfold cmpI
  split <;> split <;> (try split) <;> (try split) <;> omega
theorem cmpB_self : ∀ a, cmpB a a = 0 := by
  intro a
  induction a with
  | nil => rfl
  | cons x xs ih => simp [cmpB, ih]
theorem cmpB_zero : ∀ {a b}, cmpB a b = 0 ↔ a = b := by
  intro a
  induction a with
  | nil => intro b; cases b <;> simp [cmpB]
  | cons x xs ih =>
    intro b
    cases b with
    | nil => simp [cmpB]
    | cons y ys =>
      rw [cmpB]
      by_cases h1 : x.toNat < y.toNat
      · rw [if_pos h1]; simp; rintro rfl; omega
      rw [if_neg h1]
      by_cases h2 : y.toNat < x.toNat
      · rw [if_pos h2]; simp; rintro rfl; omega
      rw [if_neg h2, ih]
      have : x = y := UInt8.toNat_inj.1 (by omega)
      simp [this]
theorem cmpB_neg : ∀ a b, cmpB a b = -cmpB b a := by
  intro a
  induction a with
  | nil => intro b; cases b <;> simp [cmpB]
  | cons x xs ih =>
    intro b
    cases b with
    | nil => simp [cmpB]
    | cons y ys =>
      rw [cmpB, cmpB, ih ys]
      split <;> split <;> (try split) <;> (try omega)
end Go.Proofs.YtfkbbbjicaedmaaGreatDoor
namespace Go.Proofs.YtfkbbbjicaedmaaGreatDoor
set_option linter.unusedVariables false
theorem or2_zero {a b : Int} : or2 a b = 0 ↔ a = 0 ∧ b = 0 := by unfold or2; split <;> omega
theorem or2_neg (a b : Int) : or2 (-a) (-b) = -or2 a b := by unfold or2; split <;> split <;> omega
theorem or2_le {a b : Int} : or2 a b ≤ 0 ↔ a < 0 ∨ (a = 0 ∧ b ≤ 0) := by unfold or2; split <;> omega
structure Lin {α : Type} (f : α → α → Int) (a : α) : Prop where
  zero : ∀ b, f a b = 0 ↔ a = b
  neg : ∀ b, f a b = -f b a
  tr : ∀ b c, f a b ≤ 0 → f b c ≤ 0 → f a c ≤ 0
theorem Lin.lt {α : Type} {f : α → α → Int} {a : α} (h : Lin f a) {b c : α} (hb : f b c ≤ 0) (ha : f a b < 0) : f a c < 0 := by
  have h1 := h.tr b c (by omega) hb
  rcases Int.lt_or_eq_of_le h1 with h2 | h2
  · exact h2
  · have := (h.zero c).1 h2
    subst this
    have := h.neg b
    omega
theorem lin_I (a : Int) : Lin cmpI a where
  zero b := cmpI_zero
  neg b := cmpI_neg a b
  tr b c := by unfold cmpI; split <;> split <;> split <;> (try split) <;> (try split) <;> (try split) <;> omega
theorem cmpB_tr : ∀ a b c, cmpB a b ≤ 0 → cmpB b c ≤ 0 → cmpB a c ≤ 0 := by
  intro a
  induction a with
  | nil => intro b c _ _; cases c <;> simp [cmpB]
  | cons x xs ih =>
    intro b c h1 h2
    cases b with
    | nil => simp [cmpB] at h1
    | cons y ys =>
      cases c with
      | nil => simp [cmpB] at h2
      | cons z zs =>
        rw [cmpB] at h1 h2 ⊢
        by_cases e1 : x.toNat < y.toNat
        · by_cases e2 : y.toNat < z.toNat
          · rw [if_pos (by omega)]; omega
          · rw [if_neg e2] at h2
            by_cases e3 : z.toNat < y.toNat
            · rw [if_pos e3] at h2; omega
            · rw [if_pos (by omega)]; omega
        · rw [if_neg e1] at h1
          by_cases e4 : y.toNat < x.toNat
          · rw [if_pos e4] at h1; omega
          · rw [if_neg e4] at h1
            by_cases e2 : y.toNat < z.toNat
            · rw [if_pos (by omega)]; omega
            · rw [if_neg e2] at h2
              by_cases e3 : z.toNat < y.toNat
              · rw [if_pos e3] at h2; omega
              · rw [if_neg e3] at h2
                rw [if_neg (by omega), if_neg (by omega)]
                exact ih _ _ h1 h2
theorem lin_B (a : List UInt8) : Lin cmpB a where
  zero b := cmpB_zero
  neg b := cmpB_neg a b
  tr b c := cmpB_tr a b c
theorem or2_tr {α β : Type} {f : α → α → Int} {g : β → β → Int} {a a' a'' : α} {b b' b'' : β} (hf : ∀ x, Lin f x) (hg : g b b' ≤ 0 → g b' b'' ≤ 0 → g b b'' ≤ 0)
    (h1 : or2 (f a a') (g b b') ≤ 0) (h2 : or2 (f a' a'') (g b' b'') ≤ 0) : or2 (f a a'') (g b b'') ≤ 0 := by
  rw [or2_le] at h1 h2 ⊢
  rcases h1 with h1 | ⟨h1, k1⟩
  · exact .inl ((hf a).lt (by rcases h2 with h | h <;> omega) h1)
  · have := ((hf a).zero _).1 h1
    subst this
    rcases h2 with h2 | ⟨h2, k2⟩
    · exact .inl h2
    · exact .inr ⟨h2, hg k1 k2⟩
theorem cmpL_nn : cmpL [] [] = 0 := by rw [cmpL]
theorem cmpL_nc (y : T) (ys : List T) : cmpL [] (y :: ys) = -1 := by rw [cmpL]
theorem cmpL_cn (x : T) (xs : List T) : cmpL (x :: xs) [] = 1 := by rw [cmpL]
theorem cmpL_cc (x : T) (xs : List T) (y : T) (ys : List T) : cmpL (x :: xs) (y :: ys) = or2 (x.cmp y) (cmpL xs ys) := by rw [cmpL]
theorem lin_L : ∀ {xs : List T}, (∀ x ∈ xs, Lin T.cmp x) → Lin cmpL xs := by
  intro xs
  induction xs with
  | nil =>
    intro _
    refine ⟨fun b => ?_, fun b => ?_, fun b c _ _ => ?_⟩
    · cases b with
      | nil => simp [cmpL_nn]
      | cons y ys => simp [cmpL_nc]
    · cases b with
      | nil => simp [cmpL_nn]
      | cons y ys => simp [cmpL_nc, cmpL_cn]
    · cases c with
      | nil => simp [cmpL_nn]
      | cons y ys => simp [cmpL_nc]
  | cons x xs ih =>
    intro h
    have hx := h x List.mem_cons_self
    have hs := ih (fun y hy => h y (List.mem_cons_of_mem _ hy))
    refine ⟨fun b => ?_, fun b => ?_, fun b c h1 h2 => ?_⟩
    · cases b with
      | nil => simp [cmpL_cn]
      | cons y ys => rw [cmpL_cc, or2_zero, hx.zero, hs.zero]; simp
    · cases b with
      | nil => simp [cmpL_nc, cmpL_cn]
      | cons y ys => rw [cmpL_cc, cmpL_cc, hx.neg y, hs.neg ys, or2_neg]
    · cases b with
      | nil => simp [cmpL_cn] at h1
      | cons y ys =>
        cases c with
        | nil => simp [cmpL_cn] at h2
        | cons z zs =>
          rw [cmpL_cc] at h1 h2 ⊢
          rw [or2_le] at h1 h2 ⊢
          rcases h1 with h1 | ⟨h1, k1⟩
          · exact .inl (hx.lt (by rcases h2 with h | h <;> omega) h1)
          · have := (hx.zero _).1 h1
            subst this
            rcases h2 with h2 | ⟨h2, k2⟩
            · exact .inl h2
            · exact .inr ⟨h2, hs.tr _ _ k1 k2⟩
theorem T.cmp_c (f g : List UInt8) (as_ bs : List T) : (T.c f as_).cmp (.c g bs) = or2 (cmpI as_.length bs.length) (or2 (cmpB f g) (cmpL as_ bs)) := by rw [T.cmp]
theorem T.cmp_kind (a b : T) (h : a.kind ≠ b.kind) : a.cmp b = cmpI a.kind b.kind := by
  cases a <;> cases b <;> first | (exfalso; exact h rfl) | simp [T.cmp, T.kind, cmpI]
theorem T.cmp_v (x y : Int) : (T.v x).cmp (.v y) = cmpI x y := by rw [T.cmp]
theorem T.cmp_n (x y : Int) : (T.n x).cmp (.n y) = cmpI x y := by rw [T.cmp]
theorem T.cmp_a (x y : List UInt8) : (T.a x).cmp (.a y) = cmpB x y := by rw [T.cmp]
theorem T.lin : ∀ t : T, Lin T.cmp t := by
  intro t
  have kneg : ∀ a b : T, a.kind ≠ b.kind → a.cmp b = -b.cmp a := fun a b h => by rw [T.cmp_kind a b h, T.cmp_kind b a (Ne.symm h)]; exact cmpI_neg _ _
  have kz : ∀ a b : T, a.kind ≠ b.kind → (a.cmp b = 0 ↔ a = b) := fun a b h => by
    rw [T.cmp_kind a b h, cmpI_zero]
    exact ⟨fun e => absurd e h, fun e => absurd (by rw [e]) h⟩
  have cle : ∀ a b : T, a.cmp b ≤ 0 → a.kind ≤ b.kind := fun a b h => by
    by_cases e : a.kind = b.kind
    · omega
    · rw [T.cmp_kind a b e] at h; unfold cmpI at h; split at h <;> (try split at h) <;> omega
  have clt : ∀ a b : T, a.kind < b.kind → a.cmp b ≤ 0 := fun a b h => by
    rw [T.cmp_kind a b (by omega)]; unfold cmpI; rw [if_pos h]; omega
  have kk : ∀ a b c : T, a.cmp b ≤ 0 → b.cmp c ≤ 0 → (a.kind = b.kind → b.kind = c.kind → a.cmp c ≤ 0) → a.cmp c ≤ 0 := fun a b c h1 h2 h => by
    have e1 := cle a b h1
    have e2 := cle b c h2
    by_cases e : a.kind < c.kind
    · exact clt a c e
    · exact h (by omega) (by omega)
  induction t using T.ind with
  | hv x =>
    refine ⟨fun b => ?_, fun b => ?_, fun b c h1 h2 => kk _ b c h1 h2 fun e1 e2 => ?_⟩
    · by_cases e : (T.v x).kind = b.kind
      · cases b with
        | v y => rw [T.cmp_v, cmpI_zero]; simp
        | _ => cases e
      · exact kz _ _ e
    · by_cases e : (T.v x).kind = b.kind
      · cases b with
        | v y => rw [T.cmp_v, T.cmp_v]; exact cmpI_neg _ _
        | _ => cases e
      · exact kneg _ _ e
    · cases b with
      | v y =>
        cases c with
        | v z => rw [T.cmp_v] at *; exact (lin_I x).tr _ _ h1 h2
        | _ => cases e2
      | _ => cases e1
  | hn x =>
    refine ⟨fun b => ?_, fun b => ?_, fun b c h1 h2 => kk _ b c h1 h2 fun e1 e2 => ?_⟩
    · by_cases e : (T.n x).kind = b.kind
      · cases b with
        | n y => rw [T.cmp_n, cmpI_zero]; simp
        | _ => cases e
      · exact kz _ _ e
    · by_cases e : (T.n x).kind = b.kind
      · cases b with
        | n y => rw [T.cmp_n, T.cmp_n]; exact cmpI_neg _ _
        | _ => cases e
      · exact kneg _ _ e
    · cases b with
      | n y =>
        cases c with
        | n z => rw [T.cmp_n] at *; exact (lin_I x).tr _ _ h1 h2
        | _ => cases e2
      | _ => cases e1
  | ha x =>
    refine ⟨fun b => ?_, fun b => ?_, fun b c h1 h2 => kk _ b c h1 h2 fun e1 e2 => ?_⟩
    · by_cases e : (T.a x).kind = b.kind
      · cases b with
        | a y => rw [T.cmp_a, cmpB_zero]; simp
        | _ => cases e
      · exact kz _ _ e
    · by_cases e : (T.a x).kind = b.kind
      · cases b with
        | a y => rw [T.cmp_a, T.cmp_a]; exact cmpB_neg _ _
        | _ => cases e
      · exact kneg _ _ e
    · cases b with
      | a y =>
        cases c with
        | a z => rw [T.cmp_a] at *; exact (lin_B x).tr _ _ h1 h2
        | _ => cases e2
      | _ => cases e1
  | hc f as_ ih =>
    have hl := lin_L ih
    refine ⟨fun b => ?_, fun b => ?_, fun b c h1 h2 => kk _ b c h1 h2 fun e1 e2 => ?_⟩
    · by_cases e : (T.c f as_).kind = b.kind
      · cases b with
        | c g bs =>
          rw [T.cmp_c, or2_zero, or2_zero, cmpI_zero, cmpB_zero, hl.zero]
          simp only [T.c.injEq]
          exact ⟨fun h => h.2, fun h => ⟨by rw [h.2], h⟩⟩
        | _ => cases e
      · exact kz _ _ e
    · by_cases e : (T.c f as_).kind = b.kind
      · cases b with
        | c g bs => rw [T.cmp_c, T.cmp_c, cmpI_neg, cmpB_neg, hl.neg, or2_neg, or2_neg]
        | _ => cases e
      · exact kneg _ _ e
    · cases b with
      | c g bs =>
        cases c with
        | c h cs =>
          rw [T.cmp_c] at *
          exact or2_tr (g := fun (p q : List UInt8 × List T) => or2 (cmpB p.1 q.1) (cmpL p.2 q.2)) (b := (f, as_)) (b' := (g, bs)) (b'' := (h, cs)) lin_I (fun k1 k2 => or2_tr lin_B (fun j1 j2 => hl.tr _ _ j1 j2) k1 k2) h1 h2
        | _ => cases e2
      | _ => cases e1
end Go.Proofs.YtfkbbbjicaedmaaGreatDoor
namespace Go.Proofs.YtfkbbbjicaedmaaGreatDoor
set_option linter.unusedVariables false
mutual
def Tm.cop {σ : Type} (f : σ → Int → Tm × σ) : Tm → σ → Tm × σ
  | .node k nm i args, s => if k = 1 then f s i else if k = 2 then (.node 2 [] i [], s) else if k = 3 then (.node 3 nm 0 [], s) else (.node 4 nm 0 (copL f args s).1, (copL f args s).2)
def copL {σ : Type} (f : σ → Int → Tm × σ) : List Tm → σ → List Tm × σ
  | [], s => ([], s)
  | t :: ts, s => ((t.cop f s).1 :: (copL f ts (t.cop f s).2).1, (copL f ts (t.cop f s).2).2)
end
theorem copL_nil {σ : Type} (f : σ → Int → Tm × σ) (s : σ) : copL f [] s = ([], s) := by rw [copL]
theorem copL_cons {σ : Type} (f : σ → Int → Tm × σ) (t : Tm) (ts : List Tm) (s : σ) : copL f (t :: ts) s = ((t.cop f s).1 :: (copL f ts (t.cop f s).2).1, (copL f ts (t.cop f s).2).2) := by rw [copL]
theorem copL_length {σ : Type} (f : σ → Int → Tm × σ) : ∀ (ts : List Tm) (s : σ), (copL f ts s).1.length = ts.length := by
  intro ts
  induction ts with
  | nil => intro s; rw [copL_nil]
  | cons t ts ih => intro s; rw [copL_cons]; simp [ih]
theorem copL_append {σ : Type} (f : σ → Int → Tm × σ) (us : List Tm) : ∀ (ts : List Tm) (s : σ), copL f (ts ++ us) s = ((copL f ts s).1 ++ (copL f us (copL f ts s).2).1, (copL f us (copL f ts s).2).2) := by
  intro ts
  induction ts with
  | nil => intro s; rw [copL_nil]; rfl
  | cons t ts ih => intro s; rw [List.cons_append, copL_cons, copL_cons, ih]; rfl
mutual
def T.acc : T → List Int → List Int
  | .v x, l => if x ∈ l then l else l ++ [x]
  | .n x, l => l
  | .a x, l => l
  | .c nm args, l => accL args l
def accL : List T → List Int → List Int
  | [], l => l
  | t :: ts, l => accL ts (t.acc l)
end
end Go.Proofs.YtfkbbbjicaedmaaGreatDoor
namespace Go.Proofs.YtfkbbbjicaedmaaGreatDoor
set_option linter.unusedVariables false
theorem cop_1 {σ : Type} (f : σ → Int → Tm × σ) (t : Tm) (s : σ) (h : t.k = 1) : t.cop f s = f s t.i := by
  cases t with
  | node k nm i args => change k = 1 at h; rw [Tm.cop, if_pos h]; rfl
theorem cop_2 {σ : Type} (f : σ → Int → Tm × σ) (t : Tm) (s : σ) (h : t.k = 2) : t.cop f s = (.node 2 [] t.i [], s) := by
  cases t with
  | node k nm i args => change k = 2 at h; rw [Tm.cop, if_neg (by omega), if_pos h]; rfl
theorem cop_3 {σ : Type} (f : σ → Int → Tm × σ) (t : Tm) (s : σ) (h : t.k = 3) : t.cop f s = (.node 3 t.nm 0 [], s) := by
  cases t with
  | node k nm i args => change k = 3 at h; rw [Tm.cop, if_neg (by omega), if_neg (by omega), if_pos h]; rfl
theorem cop_4 {σ : Type} (f : σ → Int → Tm × σ) (t : Tm) (s : σ) (h : t.k = 4) : t.cop f s = (.node 4 t.nm 0 (copL f t.args s).1, (copL f t.args s).2) := by
  cases t with
  | node k nm i args => change k = 4 at h; rw [Tm.cop, if_neg (by omega), if_neg (by omega), if_neg (by omega)]; rfl
theorem tree_1 {t : Tm} (h : t.k = 1) : t.tree = .v t.i := by rw [t.tree_eq, if_pos h]
theorem tree_2 {t : Tm} (h : t.k = 2) : t.tree = .n t.i := by rw [t.tree_eq, if_neg (by omega), if_pos h]
theorem tree_3 {t : Tm} (h : t.k = 3) : t.tree = .a t.nm := by rw [t.tree_eq, if_neg (by omega), if_neg (by omega), if_pos h]
theorem tree_4 {t : Tm} (h : t.k = 4) : t.tree = .c t.nm (t.args.map Tm.tree) := by rw [t.tree_eq, if_neg (by omega), if_neg (by omega), if_neg (by omega)]
theorem Tm.byKind {P : Tm → Prop} (h1 : ∀ t, t.k = 1 → t.ok = true → P t) (h2 : ∀ t, t.k = 2 → t.ok = true → P t) (h3 : ∀ t, t.k = 3 → t.ok = true → P t)
    (h4 : ∀ t, t.k = 4 → t.ok = true → 1 ≤ t.args.length → t.args.length ≤ 8 → t.nm.length ≤ 64 → (∀ x ∈ t.args, x.ok = true) → (∀ x ∈ t.args, P x) → P t) : ∀ t : Tm, t.ok = true → P t := by
  intro t
  induction t using Tm.ind with
  | h k nm i args ih =>
    intro hok
    rcases Tm.ok_kind hok with h | h | h | h
    · exact h1 _ h hok
    · exact h2 _ h hok
    · exact h3 _ h hok
    · obtain ⟨a, b, c, d⟩ := Tm.ok_args hok h
      exact h4 _ h hok a b d c fun x hx => ih x hx (c x hx)
def fAnew : Unit → Int → Tm × Unit := fun _ x => (.node 1 [] x [], ())
theorem cop_anew : ∀ t : Tm, t.ok = true → t.cop fAnew () = (t.tree.tm, ()) := by
  refine Tm.byKind (fun t h _ => ?_) (fun t h _ => ?_) (fun t h _ => ?_) (fun t h _ _ _ _ _ ih => ?_)
  · rw [cop_1 _ _ _ h, tree_1 h, T.tm]; rfl
  · rw [cop_2 _ _ _ h, tree_2 h, T.tm]
  · rw [cop_3 _ _ _ h, tree_3 h, T.tm]
  · rw [cop_4 _ _ _ h, tree_4 h, T.tm_c]
    have go : ∀ l : List Tm, (∀ x ∈ l, x.cop fAnew () = (x.tree.tm, ())) → copL fAnew l () = ((l.map Tm.tree).map T.tm, ()) := by
      intro l
      induction l with
      | nil => intro _; rw [copL_nil]; rfl
      | cons x l ih => intro h; rw [copL_cons, h x List.mem_cons_self, ih (fun y hy => h y (List.mem_cons_of_mem _ hy))]; rfl
    rw [go _ ih]
end Go.Proofs.YtfkbbbjicaedmaaGreatDoor
namespace Go.Proofs.YtfkbbbjicaedmaaGreatDoor
set_option linter.unusedVariables false
end Go.Proofs.YtfkbbbjicaedmaaGreatDoor
namespace Go.Proofs.YtfkbbbjicaedmaaGreatDoor
set_option linter.unusedVariables false
end Go.Proofs.YtfkbbbjicaedmaaGreatDoor
namespace Go.Proofs.YtfkbbbjicaedmaaGreatDoor
set_option linter.unusedVariables false
structure Nd where
  k : Int
  nm : List UInt8
  i : Int
  args : List Nat
deriving Inhabited
def Nd.tree (D : Nat → T) (p : Nd) : T := if p.k = 1 then .v p.i else if p.k = 2 then .n p.i else if p.k = 3 then .a p.nm else .c p.nm (p.args.map D)
section
variable {G : List Nd} {D : Nat → T} {A B : Nat} {R : Nat → Nat} {todo : List (Nat × Nat)} {a b : Nat}
end
end Go.Proofs.YtfkbbbjicaedmaaGreatDoor
namespace Go.Proofs.YtfkbbbjicaedmaaGreatDoor
set_option linter.unusedVariables false
section
variable {G : List Nd} {D : Nat → T} {A B : Nat} {R : Nat → Nat} {a b : Nat} {t u : T}
end
end Go.Proofs.YtfkbbbjicaedmaaGreatDoor
namespace Go.Proofs.YtfkbbbjicaedmaaGreatDoor
set_option linter.unusedVariables false
end Go.Proofs.YtfkbbbjicaedmaaGreatDoor
namespace Go.Proofs.YtfkbbbjicaedmaaGreatDoor
set_option linter.unusedVariables false
section
variable {n : Nat} {s R rk : Nat → Nat} {a : Nat}
end
end Go.Proofs.YtfkbbbjicaedmaaGreatDoor
namespace Go.Proofs.YtfkbbbjicaedmaaGreatDoor
set_option linter.unusedVariables false
def Nd.ok (p : Nd) : Prop := (p.k = 1 → 1 ≤ p.i) ∧ (p.k = 3 → p.nm.length ≤ 64) ∧ (p.k = 4 → 1 ≤ p.args.length ∧ p.args.length ≤ 8 ∧ p.nm.length ≤ 64)
section
variable {G : List Nd} {D : Nat → T} {R : Nat → Nat} {a b u : Nat} {t : T}
end
end Go.Proofs.YtfkbbbjicaedmaaGreatDoor
