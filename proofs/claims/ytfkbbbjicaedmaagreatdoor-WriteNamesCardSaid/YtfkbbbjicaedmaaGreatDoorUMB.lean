/-
  Joined texts (Tm7, Tm8, Tm9, Tm10, Tm11, Tm12, Ts0, Ts1, Ts2, Ts3, Ts4, Ts5). No condition.
-/
import Derived.Test.YtfkbbbjicaedmaaGreatDoorUMA
namespace Go.Proofs.YtfkbbbjicaedmaaGreatDoor
set_option linter.unusedVariables false
mutual
def Tm.ns : Tm → Nat
  | .node k nm i args => if k = 4 then 1 + nsL args else 1
def nsL : List Tm → Nat
  | [] => 0
  | t :: ts => t.ns + nsL ts
end
mutual
def Tm.nd : Tm → Nat
  | .node k nm i args => if k = 4 then 1 + ndL args else 1
def ndL : List Tm → Nat
  | [] => 0
  | t :: ts => max t.nd (ndL ts)
end
mutual
def Tm.ok : Tm → Bool
  | .node k nm i args => if k = 1 then decide (1 ≤ i) else if k = 2 then true else if k = 4 then (decide (1 ≤ args.length) && decide (args.length ≤ 8) && okL args) && decide (nm.length ≤ 64) else if k = 3 then decide (nm.length ≤ 64) else false
def okL : List Tm → Bool
  | [] => true
  | t :: ts => t.ok && okL ts
end
theorem Tm.ind {P : Tm → Prop} (h : ∀ k nm i args, (∀ x ∈ args, P x) → P (.node k nm i args)) : ∀ t, P t
  | .node k nm i args => h k nm i args (fun x hx => Tm.ind h x)
theorem Tm.ns_eq (t : Tm) : t.ns = if t.k = 4 then 1 + nsL t.args else 1 := by cases t; rw [Tm.ns]; rfl
theorem Tm.nd_eq (t : Tm) : t.nd = if t.k = 4 then 1 + ndL t.args else 1 := by cases t; rw [Tm.nd]; rfl
theorem Tm.ok_eq (t : Tm) : t.ok = if t.k = 1 then decide (1 ≤ t.i) else if t.k = 2 then true else if t.k = 4 then (decide (1 ≤ t.args.length) && decide (t.args.length ≤ 8) && okL t.args) && decide (t.nm.length ≤ 64) else if t.k = 3 then decide (t.nm.length ≤ 64) else false := by cases t; rw [Tm.ok]; rfl
theorem nsL_cons (t : Tm) (ts : List Tm) : nsL (t :: ts) = t.ns + nsL ts := by rw [nsL]
theorem ndL_cons (t : Tm) (ts : List Tm) : ndL (t :: ts) = max t.nd (ndL ts) := by rw [ndL]
theorem okL_cons (t : Tm) (ts : List Tm) : okL (t :: ts) = (t.ok && okL ts) := by rw [okL]
theorem nsL_nil : nsL [] = 0 := by rw [nsL]
theorem ndL_nil : ndL [] = 0 := by rw [ndL]
theorem okL_nil : okL [] = true := by rw [okL]
theorem Tm.ns_pos (t : Tm) : 1 ≤ t.ns := by rw [t.ns_eq]; split <;> omega
theorem Tm.nd_pos (t : Tm) : 1 ≤ t.nd := by rw [t.nd_eq]; split <;> omega
theorem okL_all : ∀ {ts : List Tm}, okL ts = true ↔ ∀ x ∈ ts, x.ok = true := by
  intro ts
  induction ts with
  | nil => simp [okL_nil]
  | cons t ts ih => simp [okL_cons, ih]
def Fits (o : Bool) (n dd : Nat) (d : Int) (sm : Int × Int) : Prop := o = true ∧ sm.1 + n ≤ 2000 ∧ d + dd ≤ 101
def MeasIs (t : Tm) : Prop := ∀ (d : Int) (sm : Int × Int), Bd sm → 1 ≤ d → d ≤ 101 →
  ((t.meas d sm).2 = true ↔ Fits t.ok t.ns t.nd d sm) ∧ ((t.meas d sm).2 = true → (t.meas d sm).1 = (sm.1 + t.ns, max sm.2 (d + t.nd - 1)))
theorem measL_is {ts : List Tm} (h : ∀ x ∈ ts, MeasIs x) : ∀ (d : Int) (sm : Int × Int), Bd sm → 1 ≤ d → d ≤ 101 →
    ((measL ts d sm).2 = true ↔ Fits (okL ts) (nsL ts) (ndL ts) d sm) ∧ ((measL ts d sm).2 = true → (measL ts d sm).1 = (sm.1 + nsL ts, if ts = [] then sm.2 else max sm.2 (d + ndL ts - 1))) := by
  induction ts with
  | nil =>
    intro d sm hb h1 h2
    rw [measL_nil, okL_nil, nsL_nil, ndL_nil]
    have := hb.s1
    refine ⟨⟨fun _ => ⟨rfl, by simpa using this, by simpa using h2⟩, fun _ => rfl⟩, fun _ => by simp⟩
  | cons t ts ih =>
    intro d sm hb h1 h2
    obtain ⟨ha, hv⟩ := h t List.mem_cons_self d sm hb h1 h2
    rw [measL_cons, okL_cons, nsL_cons, ndL_cons]
    have hnp := t.ns_pos
    have hdp := t.nd_pos
    by_cases hx : (t.meas d sm).2 = true
    · have hv' := hv hx
      obtain ⟨f1, f2, f3⟩ := ha.1 hx
      have hb1 : Bd (t.meas d sm).1 := (meas_bd 200 t d sm (by omega) h1 h2 hb).ok hx
      obtain ⟨hi, hj⟩ := ih (fun x hx => h x (List.mem_cons_of_mem _ hx)) d _ hb1 h1 h2
      rw [if_pos hx]
      rw [hv'] at hi hj ⊢
      unfold Fits at hi ⊢
      dsimp only at hi hj
      refine ⟨hi.trans ⟨fun ⟨a, b, c⟩ => ⟨by rw [f1, a]; rfl, by omega, by omega⟩, fun ⟨a, b, c⟩ => ⟨by simp at a; exact a.2, by omega, by omega⟩⟩, fun hk => ?_⟩
      rw [hj hk]
      have e1 : sm.1 + (t.ns : Int) + (nsL ts : Int) = sm.1 + ((t.ns + nsL ts : Nat) : Int) := by omega
      rw [e1]
      congr 1
      cases ts with
      | nil => rw [ndL_nil]; simp
      | cons u us => rw [if_neg (by simp), if_neg (by simp)]; omega
    · rw [if_neg hx]
      refine ⟨⟨fun h => absurd h hx, fun ⟨a, b, c⟩ => absurd (ha.2 ⟨by simp at a; exact a.1, by omega, by omega⟩) hx⟩, fun h => absurd h hx⟩
theorem meas_is : ∀ t : Tm, MeasIs t := by
  intro t
  induction t using Tm.ind with
  | h k nm i args ih =>
    intro d sm hb h1 h2
    have hnp := (Tm.node k nm i args).ns_pos
    have hdp := (Tm.node k nm i args).nd_pos
    obtain ⟨s0, s1, m0, m1⟩ := hb
    rw [Tm.meas]
    unfold Fits
    have hns : (Tm.node k nm i args).ns = if k = 4 then 1 + nsL args else 1 := by rw [Tm.ns]
    have hnd : (Tm.node k nm i args).nd = if k = 4 then 1 + ndL args else 1 := by rw [Tm.nd]
    have hok : (Tm.node k nm i args).ok = if k = 1 then decide (1 ≤ i) else if k = 2 then true else if k = 4 then (decide (1 ≤ args.length) && decide (args.length ≤ 8) && okL args) && decide (nm.length ≤ 64) else if k = 3 then decide (nm.length ≤ 64) else false := by rw [Tm.ok]
    generalize (Tm.node k nm i args).ns = N at *
    generalize (Tm.node k nm i args).nd = D at *
    generalize (Tm.node k nm i args).ok = O at *
    by_cases hg : 2000 < sm.1 + 1 ∨ 100 < max sm.2 d
    · rw [if_pos hg]
      refine ⟨⟨(fun h => by cases h), fun ⟨a, b, c⟩ => ?_⟩, (fun h => by cases h)⟩
      exfalso; omega
    rw [if_neg hg]
    have one : ∀ b, N = 1 → D = 1 → O = b → ((b = true ↔ O = true ∧ sm.1 + (N : Int) ≤ 2000 ∧ d + (D : Int) ≤ 101) ∧ (b = true → (sm.1 + 1, max sm.2 d) = (sm.1 + (N : Int), max sm.2 (d + (D : Int) - 1)))) := by
      rintro b rfl rfl rfl
      exact ⟨⟨fun h => ⟨h, by omega, by omega⟩, fun h => h.1⟩, fun _ => by congr 1; omega⟩
    by_cases k1 : k = 1
    · rw [if_pos k1] at hok ⊢
      rw [if_neg (by omega)] at hns hnd
      exact one _ hns hnd hok
    rw [if_neg k1] at hok ⊢
    by_cases k2 : k = 2
    · rw [if_pos k2] at hok ⊢
      rw [if_neg (by omega)] at hns hnd
      exact one _ hns hnd hok
    rw [if_neg k2] at hok ⊢
    by_cases k4 : k = 4
    · rw [if_pos k4] at hok hns hnd ⊢
      by_cases hl : args.length = 0 ∨ 8 < args.length
      · rw [if_pos hl]
        refine ⟨⟨(fun h => by cases h), fun ⟨a, b, c⟩ => ?_⟩, (fun h => by cases h)⟩
        rw [hok] at a
        simp only [Bool.and_eq_true, decide_eq_true_eq] at a
        exfalso; have := a.1.1; omega
      · rw [if_neg hl]
        obtain ⟨hi, hj⟩ := measL_is ih (d + 1) (sm.1 + 1, max sm.2 d) ⟨by dsimp only; omega, by dsimp only; omega, by dsimp only; omega, by dsimp only; omega⟩ (by omega) (by omega)
        have hne : ¬ args = [] := by intro h; subst h; simp at hl
        rw [if_neg hne] at hj
        refine ⟨?_, fun hk => ?_⟩
        · simp only [Bool.and_eq_true]
          rw [hi, hok]
          unfold Fits
          dsimp only
          simp only [Bool.and_eq_true, decide_eq_true_eq]
          constructor
          · rintro ⟨⟨a, b, c⟩, e⟩
            exact ⟨⟨⟨⟨by omega, by omega⟩, a⟩, e⟩, by omega, by omega⟩
          · rintro ⟨⟨⟨_, a⟩, e⟩, b, c⟩
            exact ⟨⟨a, by omega, by omega⟩, e⟩
        · simp only [Bool.and_eq_true] at hk
          rw [hj hk.1]
          dsimp only
          congr 1 <;> omega
    rw [if_neg k4] at hok hns hnd ⊢
    by_cases k3 : k = 3
    · rw [if_pos k3] at hok ⊢
      exact one _ hns hnd hok
    rw [if_neg k3] at hok ⊢
    exact one _ hns hnd hok
def Tm.Right (t : Tm) : Prop := t.ok = true ∧ t.ns ≤ 2000 ∧ t.nd ≤ 100
theorem Tm.right_iff (t : Tm) : (t.meas 1 (0, 0)).2 = true ↔ t.Right := by
  rw [(meas_is t 1 (0, 0) ⟨by decide, by decide, by decide, by decide⟩ (by decide) (by decide)).1]
  unfold Fits Tm.Right
  dsimp only
  constructor
  · rintro ⟨a, b, c⟩; exact ⟨a, by omega, by omega⟩
  · rintro ⟨a, b, c⟩; exact ⟨a, by omega, by omega⟩
end Go.Proofs.YtfkbbbjicaedmaaGreatDoor
namespace Go.Proofs.YtfkbbbjicaedmaaGreatDoor
set_option linter.unusedVariables false
inductive T where
  | v (n : Int)
  | n (i : Int)
  | a (nm : List UInt8)
  | c (nm : List UInt8) (args : List T)
instance : Inhabited T := ⟨.n 0⟩
mutual
def Tm.tree : Tm → T
  | .node k nm i args => if k = 1 then .v i else if k = 2 then .n i else if k = 3 then .a nm else .c nm (treeL args)
def treeL : List Tm → List T
  | [] => []
  | t :: ts => t.tree :: treeL ts
end
mutual
def T.tm : T → Tm
  | .v x => .node 1 [] x []
  | .n x => .node 2 [] x []
  | .a x => .node 3 x 0 []
  | .c nm args => .node 4 nm 0 (tmL args)
def tmL : List T → List Tm
  | [] => []
  | t :: ts => t.tm :: tmL ts
end
mutual
def T.ns : T → Nat
  | .c nm args => 1 + nsT args
  | _ => 1
def nsT : List T → Nat
  | [] => 0
  | t :: ts => t.ns + nsT ts
end
mutual
def T.nd : T → Nat
  | .c nm args => 1 + ndT args
  | _ => 1
def ndT : List T → Nat
  | [] => 0
  | t :: ts => max t.nd (ndT ts)
end
mutual
def T.ok : T → Bool
  | .v x => decide (1 ≤ x)
  | .n x => true
  | .a nm => decide (nm.length ≤ 64)
  | .c nm args => (decide (1 ≤ args.length) && decide (args.length ≤ 8) && okT args) && decide (nm.length ≤ 64)
def okT : List T → Bool
  | [] => true
  | t :: ts => t.ok && okT ts
end
theorem T.ind {P : T → Prop} (hv : ∀ n, P (.v n)) (hn : ∀ i, P (.n i)) (ha : ∀ nm, P (.a nm)) (hc : ∀ nm args, (∀ x ∈ args, P x) → P (.c nm args)) : ∀ t, P t
  | .v x => hv x
  | .n x => hn x
  | .a x => ha x
  | .c nm args => hc nm args (fun x hx => T.ind hv hn ha hc x)
theorem treeL_map (ts : List Tm) : treeL ts = ts.map Tm.tree := by induction ts with | nil => rw [treeL]; rfl | cons t ts ih => rw [treeL, ih]; rfl
theorem tmL_map (ts : List T) : tmL ts = ts.map T.tm := by induction ts with | nil => rw [tmL]; rfl | cons t ts ih => rw [tmL, ih]; rfl
theorem nsT_cons (t : T) (ts : List T) : nsT (t :: ts) = t.ns + nsT ts := by rw [nsT]
theorem ndT_cons (t : T) (ts : List T) : ndT (t :: ts) = max t.nd (ndT ts) := by rw [ndT]
theorem okT_cons (t : T) (ts : List T) : okT (t :: ts) = (t.ok && okT ts) := by rw [okT]
theorem nsT_nil : nsT [] = 0 := by rw [nsT]
theorem ndT_nil : ndT [] = 0 := by rw [ndT]
theorem okT_nil : okT [] = true := by rw [okT]
theorem T.ns_c (nm : List UInt8) (args : List T) : (T.c nm args).ns = 1 + nsT args := by rw [T.ns]
theorem T.nd_c (nm : List UInt8) (args : List T) : (T.c nm args).nd = 1 + ndT args := by rw [T.nd]
theorem T.ok_c (nm : List UInt8) (args : List T) : (T.c nm args).ok = ((decide (1 ≤ args.length) && decide (args.length ≤ 8) && okT args) && decide (nm.length ≤ 64)) := by rw [T.ok]
theorem okT_all : ∀ {ts : List T}, okT ts = true ↔ ∀ x ∈ ts, x.ok = true := by
  intro ts
  induction ts with
  | nil => simp [okT_nil]
  | cons t ts ih => simp [okT_cons, ih]
def T.kind : T → Int | .v _ => 1 | .n _ => 2 | .a _ => 3 | .c _ _ => 4
theorem Tm.ok_kind {t : Tm} (h : t.ok = true) : t.k = 1 ∨ t.k = 2 ∨ t.k = 3 ∨ t.k = 4 := by
  rw [t.ok_eq] at h
  by_cases k1 : t.k = 1
  · exact .inl k1
  by_cases k2 : t.k = 2
  · exact .inr (.inl k2)
  by_cases k3 : t.k = 3
  · exact .inr (.inr (.inl k3))
  by_cases k4 : t.k = 4
  · exact .inr (.inr (.inr k4))
  rw [if_neg k1, if_neg k2, if_neg k4, if_neg k3] at h
  cases h
theorem Tm.tree_eq (t : Tm) : t.tree = if t.k = 1 then .v t.i else if t.k = 2 then .n t.i else if t.k = 3 then .a t.nm else .c t.nm (t.args.map Tm.tree) := by
  cases t with
  | node k nm i args => rw [Tm.tree, treeL_map]; rfl
theorem Tm.ok_args {t : Tm} (h : t.ok = true) (k4 : t.k = 4) : 1 ≤ t.args.length ∧ t.args.length ≤ 8 ∧ (∀ x ∈ t.args, x.ok = true) ∧ t.nm.length ≤ 64 := by
  rw [t.ok_eq, if_neg (by omega), if_neg (by omega), if_pos k4] at h
  simp only [Bool.and_eq_true, decide_eq_true_eq] at h
  exact ⟨h.1.1.1, h.1.1.2, okL_all.1 h.1.2, h.2⟩
theorem nsT_map {ts : List Tm} (h : ∀ x ∈ ts, x.tree.ns = x.ns) : nsT (ts.map Tm.tree) = nsL ts := by
  induction ts with
  | nil => rw [nsL_nil]; exact nsT_nil
  | cons t ts ih => rw [List.map_cons, nsT_cons, nsL_cons, h t List.mem_cons_self, ih (fun x hx => h x (List.mem_cons_of_mem _ hx))]
theorem ndT_map {ts : List Tm} (h : ∀ x ∈ ts, x.tree.nd = x.nd) : ndT (ts.map Tm.tree) = ndL ts := by
  induction ts with
  | nil => rw [ndL_nil]; exact ndT_nil
  | cons t ts ih => rw [List.map_cons, ndT_cons, ndL_cons, h t List.mem_cons_self, ih (fun x hx => h x (List.mem_cons_of_mem _ hx))]
theorem Tm.tree_ns {t : Tm} : t.ok = true → t.tree.ns = t.ns ∧ t.tree.nd = t.nd ∧ t.tree.ok = true ∧ t.tree.kind = t.k := by
  induction t using Tm.ind with
  | h k nm i args ih =>
    intro h
    have hk := Tm.ok_kind h
    have hargs := Tm.ok_args h
    have e1 : (Tm.node k nm i args).tree = if k = 1 then .v i else if k = 2 then .n i else if k = 3 then .a nm else .c nm (args.map Tm.tree) := by rw [Tm.tree, treeL_map]
    have e2 : (Tm.node k nm i args).ns = if k = 4 then 1 + nsL args else 1 := by rw [Tm.ns]
    have e3 : (Tm.node k nm i args).nd = if k = 4 then 1 + ndL args else 1 := by rw [Tm.nd]
    rw [Tm.ok] at h
    change k = 1 ∨ k = 2 ∨ k = 3 ∨ k = 4 at hk
    change k = 4 → 1 ≤ args.length ∧ args.length ≤ 8 ∧ (∀ x ∈ args, x.ok = true) ∧ nm.length ≤ 64 at hargs
    change _ ∧ _ ∧ _ ∧ _ = k
    rw [e1, e2, e3]
    clear e1 e2 e3
    rcases hk with rfl | rfl | rfl | rfl
    · simp only [if_pos] at h ⊢; exact ⟨by simp [T.ns], by simp [T.nd], by rw [T.ok]; exact h, rfl⟩
    · exact ⟨by simp [T.ns], by simp [T.nd], by simp [T.ok], rfl⟩
    · exact ⟨by simp [T.ns], by simp [T.nd], by simp [T.ok]; simpa using h, rfl⟩
    · obtain ⟨h1, h8, hx, hn⟩ := hargs rfl
      simp only [if_neg (show ¬ (4 : Int) = 1 by decide), if_neg (show ¬ (4 : Int) = 2 by decide), if_neg (show ¬ (4 : Int) = 3 by decide), if_pos]
      rw [T.ns_c, T.nd_c, T.ok_c, nsT_map (fun x hm => (ih x hm (hx x hm)).1), ndT_map (fun x hm => (ih x hm (hx x hm)).2.1), List.length_map]
      refine ⟨rfl, rfl, ?_, rfl⟩
      simp only [Bool.and_eq_true, decide_eq_true_eq]
      refine ⟨⟨⟨h1, h8⟩, okT_all.2 fun x hm => ?_⟩, hn⟩
      obtain ⟨y, hy, rfl⟩ := List.mem_map.1 hm
      exact (ih y hy (hx y hy)).2.2.1
theorem T.tm_c (nm : List UInt8) (args : List T) : (T.c nm args).tm = .node 4 nm 0 (args.map T.tm) := by rw [T.tm, tmL_map]
theorem map_same {α β : Type} {f : α → β} {g : β → α} : ∀ {l : List α}, (∀ x ∈ l, g (f x) = x) → (l.map f).map g = l := by
  intro l
  induction l with
  | nil => intro _; rfl
  | cons x l ih => intro h; rw [List.map_cons, List.map_cons, h x List.mem_cons_self, ih (fun y hy => h y (List.mem_cons_of_mem _ hy))]
theorem T.tm_tree (t : T) : t.tm.tree = t := by
  induction t using T.ind with
  | hv n => simp [T.tm, Tm.tree]
  | hn i => simp [T.tm, Tm.tree]
  | ha nm => simp [T.tm, Tm.tree]
  | hc nm args ih =>
    have e : (Tm.node 4 nm 0 (args.map T.tm)).tree = .c nm ((args.map T.tm).map Tm.tree) := by rw [Tm.tree, treeL_map]; simp
    rw [T.tm_c, e, map_same ih]
theorem T.tm_ok (t : T) : t.tm.ok = t.ok ∧ t.tm.ns = t.ns ∧ t.tm.nd = t.nd := by
  induction t using T.ind with
  | hv n => simp [T.tm, Tm.ok, T.ok, Tm.ns, T.ns, Tm.nd, T.nd]
  | hn i => simp [T.tm, Tm.ok, T.ok, Tm.ns, T.ns, Tm.nd, T.nd]
  | ha nm => simp [T.tm, Tm.ok, T.ok, Tm.ns, T.ns, Tm.nd, T.nd]
  | hc nm args ih =>
    have ls : ∀ l : List T, (∀ x ∈ l, x.tm.ok = x.ok ∧ x.tm.ns = x.ns ∧ x.tm.nd = x.nd) → okL (l.map T.tm) = okT l ∧ nsL (l.map T.tm) = nsT l ∧ ndL (l.map T.tm) = ndT l := by
      intro l
      induction l with
      | nil => intro _; simp [okL_nil, okT_nil, nsL_nil, nsT_nil, ndL_nil, ndT_nil]
      | cons x l ih =>
        intro h
        obtain ⟨a, b, c⟩ := h x List.mem_cons_self
        obtain ⟨d, e, f⟩ := ih (fun y hy => h y (List.mem_cons_of_mem _ hy))
        rw [List.map_cons, okL_cons, okT_cons, nsL_cons, nsT_cons, ndL_cons, ndT_cons, a, b, c, d, e, f]
        exact ⟨rfl, rfl, rfl⟩
    obtain ⟨a, b, c⟩ := ls args ih
    rw [T.tm_c, Tm.ok, Tm.ns, Tm.nd, T.ok_c, T.ns_c, T.nd_c, a, b, c]
    simp
def T.Right (t : T) : Prop := t.ok = true ∧ t.ns ≤ 2000 ∧ t.nd ≤ 100
theorem T.tm_right (t : T) : t.tm.Right ↔ t.Right := by
  obtain ⟨a, b, c⟩ := t.tm_ok
  unfold Tm.Right T.Right
  rw [a, b, c]
theorem Tm.tree_right {t : Tm} (h : t.Right) : t.tree.Right := by
  obtain ⟨a, b, c, _⟩ := Tm.tree_ns h.1
  exact ⟨c, by rw [a]; exact h.2.1, by rw [b]; exact h.2.2⟩
end Go.Proofs.YtfkbbbjicaedmaaGreatDoor
namespace Go.Proofs.YtfkbbbjicaedmaaGreatDoor
set_option linter.unusedVariables false
end Go.Proofs.YtfkbbbjicaedmaaGreatDoor
namespace Go.Proofs.YtfkbbbjicaedmaaGreatDoor
set_option linter.unusedVariables false
mutual
def Tm.cop {σ : Type} (f : σ → Int → Tm × σ) : Tm → σ → Tm × σ
  | .node k nm i args, s => if k = 1 then f s i else if k = 2 then (.node 2 [] i [], s) else if k = 3 then (.node 3 nm 0 [], s) else (.node 4 nm 0 (copL f args s).1, (copL f args s).2)
def copL {σ : Type} (f : σ → Int → Tm × σ) : List Tm → σ → List Tm × σ
  | [], s => ([], s)
  | t :: ts, s => ((t.cop f s).1 :: (copL f ts (t.cop f s).2).1, (copL f ts (t.cop f s).2).2)
end
theorem copL_nil {σ : Type} (f : σ → Int → Tm × σ) (s : σ) : copL f [] s = ([], s) := by rw [copL]
theorem copL_cons {σ : Type} (f : σ → Int → Tm × σ) (t : Tm) (ts : List Tm) (s : σ) : copL f (t :: ts) s = ((t.cop f s).1 :: (copL f ts (t.cop f s).2).1, (copL f ts (t.cop f s).2).2) := by rw [copL]
theorem copL_length {σ : Type} (f : σ → Int → Tm × σ) : ∀ (ts : List Tm) (s : σ), (copL f ts s).1.length = ts.length := by
  intro ts
  induction ts with
  | nil => intro s; rw [copL_nil]
  | cons t ts ih => intro s; rw [copL_cons]; simp [ih]
theorem copL_append {σ : Type} (f : σ → Int → Tm × σ) (us : List Tm) : ∀ (ts : List Tm) (s : σ), copL f (ts ++ us) s = ((copL f ts s).1 ++ (copL f us (copL f ts s).2).1, (copL f us (copL f ts s).2).2) := by
  intro ts
  induction ts with
  | nil => intro s; rw [copL_nil]; rfl
  | cons t ts ih => intro s; rw [List.cons_append, copL_cons, copL_cons, ih]; rfl
mutual
def T.acc : T → List Int → List Int
  | .v x, l => if x ∈ l then l else l ++ [x]
  | .n x, l => l
  | .a x, l => l
  | .c nm args, l => accL args l
def accL : List T → List Int → List Int
  | [], l => l
  | t :: ts, l => accL ts (t.acc l)
end
end Go.Proofs.YtfkbbbjicaedmaaGreatDoor
namespace Go.Proofs.YtfkbbbjicaedmaaGreatDoor
set_option linter.unusedVariables false
theorem cop_1 {σ : Type} (f : σ → Int → Tm × σ) (t : Tm) (s : σ) (h : t.k = 1) : t.cop f s = f s t.i := by
  cases t with
  | node k nm i args => change k = 1 at h; rw [Tm.cop, if_pos h]; rfl
theorem cop_2 {σ : Type} (f : σ → Int → Tm × σ) (t : Tm) (s : σ) (h : t.k = 2) : t.cop f s = (.node 2 [] t.i [], s) := by
  cases t with
  | node k nm i args => change k = 2 at h; rw [Tm.cop, if_neg (by omega), if_pos h]; rfl
theorem cop_3 {σ : Type} (f : σ → Int → Tm × σ) (t : Tm) (s : σ) (h : t.k = 3) : t.cop f s = (.node 3 t.nm 0 [], s) := by
  cases t with
  | node k nm i args => change k = 3 at h; rw [Tm.cop, if_neg (by omega), if_neg (by omega), if_pos h]; rfl
theorem cop_4 {σ : Type} (f : σ → Int → Tm × σ) (t : Tm) (s : σ) (h : t.k = 4) : t.cop f s = (.node 4 t.nm 0 (copL f t.args s).1, (copL f t.args s).2) := by
  cases t with
  | node k nm i args => change k = 4 at h; rw [Tm.cop, if_neg (by omega), if_neg (by omega), if_neg (by omega)]; rfl
theorem tree_1 {t : Tm} (h : t.k = 1) : t.tree = .v t.i := by rw [t.tree_eq, if_pos h]
theorem tree_2 {t : Tm} (h : t.k = 2) : t.tree = .n t.i := by rw [t.tree_eq, if_neg (by omega), if_pos h]
theorem tree_3 {t : Tm} (h : t.k = 3) : t.tree = .a t.nm := by rw [t.tree_eq, if_neg (by omega), if_neg (by omega), if_pos h]
theorem tree_4 {t : Tm} (h : t.k = 4) : t.tree = .c t.nm (t.args.map Tm.tree) := by rw [t.tree_eq, if_neg (by omega), if_neg (by omega), if_neg (by omega)]
theorem Tm.byKind {P : Tm → Prop} (h1 : ∀ t, t.k = 1 → t.ok = true → P t) (h2 : ∀ t, t.k = 2 → t.ok = true → P t) (h3 : ∀ t, t.k = 3 → t.ok = true → P t)
    (h4 : ∀ t, t.k = 4 → t.ok = true → 1 ≤ t.args.length → t.args.length ≤ 8 → t.nm.length ≤ 64 → (∀ x ∈ t.args, x.ok = true) → (∀ x ∈ t.args, P x) → P t) : ∀ t : Tm, t.ok = true → P t := by
  intro t
  induction t using Tm.ind with
  | h k nm i args ih =>
    intro hok
    rcases Tm.ok_kind hok with h | h | h | h
    · exact h1 _ h hok
    · exact h2 _ h hok
    · exact h3 _ h hok
    · obtain ⟨a, b, c, d⟩ := Tm.ok_args hok h
      exact h4 _ h hok a b d c fun x hx => ih x hx (c x hx)
def fAnew : Unit → Int → Tm × Unit := fun _ x => (.node 1 [] x [], ())
theorem cop_anew : ∀ t : Tm, t.ok = true → t.cop fAnew () = (t.tree.tm, ()) := by
  refine Tm.byKind (fun t h _ => ?_) (fun t h _ => ?_) (fun t h _ => ?_) (fun t h _ _ _ _ _ ih => ?_)
  · rw [cop_1 _ _ _ h, tree_1 h, T.tm]; rfl
  · rw [cop_2 _ _ _ h, tree_2 h, T.tm]
  · rw [cop_3 _ _ _ h, tree_3 h, T.tm]
  · rw [cop_4 _ _ _ h, tree_4 h, T.tm_c]
    have go : ∀ l : List Tm, (∀ x ∈ l, x.cop fAnew () = (x.tree.tm, ())) → copL fAnew l () = ((l.map Tm.tree).map T.tm, ()) := by
      intro l
      induction l with
      | nil => intro _; rw [copL_nil]; rfl
      | cons x l ih => intro h; rw [copL_cons, h x List.mem_cons_self, ih (fun y hy => h y (List.mem_cons_of_mem _ hy))]; rfl
    rw [go _ ih]
end Go.Proofs.YtfkbbbjicaedmaaGreatDoor
namespace Go.Proofs.YtfkbbbjicaedmaaGreatDoor
set_option linter.unusedVariables false
end Go.Proofs.YtfkbbbjicaedmaaGreatDoor
namespace Go.Proofs.YtfkbbbjicaedmaaGreatDoor
set_option linter.unusedVariables false
end Go.Proofs.YtfkbbbjicaedmaaGreatDoor
namespace Go.Proofs.YtfkbbbjicaedmaaGreatDoor
set_option linter.unusedVariables false
structure Nd where
  k : Int
  nm : List UInt8
  i : Int
  args : List Nat
deriving Inhabited
def Nd.tree (D : Nat → T) (p : Nd) : T := if p.k = 1 then .v p.i else if p.k = 2 then .n p.i else if p.k = 3 then .a p.nm else .c p.nm (p.args.map D)
section
variable {G : List Nd} {D : Nat → T} {A B : Nat} {R : Nat → Nat} {todo : List (Nat × Nat)} {a b : Nat}
end
end Go.Proofs.YtfkbbbjicaedmaaGreatDoor
namespace Go.Proofs.YtfkbbbjicaedmaaGreatDoor
set_option linter.unusedVariables false
section
variable {G : List Nd} {D : Nat → T} {A B : Nat} {R : Nat → Nat} {a b : Nat} {t u : T}
end
end Go.Proofs.YtfkbbbjicaedmaaGreatDoor
namespace Go.Proofs.YtfkbbbjicaedmaaGreatDoor
set_option linter.unusedVariables false
end Go.Proofs.YtfkbbbjicaedmaaGreatDoor
namespace Go.Proofs.YtfkbbbjicaedmaaGreatDoor
set_option linter.unusedVariables false
section
variable {n : Nat} {s R rk : Nat → Nat} {a : Nat}
end
end Go.Proofs.YtfkbbbjicaedmaaGreatDoor
namespace Go.Proofs.YtfkbbbjicaedmaaGreatDoor
set_option linter.unusedVariables false
def Nd.ok (p : Nd) : Prop := (p.k = 1 → 1 ≤ p.i) ∧ (p.k = 3 → p.nm.length ≤ 64) ∧ (p.k = 4 → 1 ≤ p.args.length ∧ p.args.length ≤ 8 ∧ p.nm.length ≤ 64)
section
variable {G : List Nd} {D : Nat → T} {R : Nat → Nat} {a b u : Nat} {t : T}
end
end Go.Proofs.YtfkbbbjicaedmaaGreatDoor
