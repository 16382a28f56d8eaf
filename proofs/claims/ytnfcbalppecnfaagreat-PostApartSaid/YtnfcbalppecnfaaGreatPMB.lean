/-
  Joined texts (Tm7, Tm8, Tm9, Tm10, Tm11, Tm12, Ts0, Ts1, Ts2, Ts3, Ts4, Ts5). No condition.
-/
import Derived.Test.YtnfcbalppecnfaaGreatPMA
namespace Go.Proofs.YtnfcbalppecnfaaGreat
set_option linter.unusedVariables false
mutual
def Tm.ns : Tm → Nat
  | .node k nm i args => if k = 4 then 1 + nsL args else 1
def nsL : List Tm → Nat
  | [] => 0
  | t :: ts => t.ns + nsL ts
end
mutual
def Tm.nd : Tm → Nat
  | .node k nm i args => if k = 4 then 1 + ndL args else 1
def ndL : List Tm → Nat
  | [] => 0
  | t :: ts => max t.nd (ndL ts)
end
mutual
def Tm.ok : Tm → Bool
  | .node k nm i args => if k = 1 then decide (1 ≤ i) else if k = 2 then true else if k = 4 then (decide (1 ≤ args.length) && decide (args.length ≤ 8) && okL args) && decide (nm.length ≤ 64) else if k = 3 then decide (nm.length ≤ 64) else false
def okL : List Tm → Bool
  | [] => true
  | t :: ts => t.ok && okL ts
end
theorem Tm.ind {P : Tm → Prop} (h : ∀ k nm i args, (∀ x ∈ args, P x) → P (.node k nm i args)) : ∀ t, P t
  | .node k nm i args => h k nm i args (fun x hx => Tm.ind h x)
theorem Tm.ns_eq (t : Tm) : t.ns = if t.k = 4 then 1 + nsL t.args else 1 := by cases t; rw [Tm.ns]; rfl
theorem Tm.nd_eq (t : Tm) : t.nd = if t.k = 4 then 1 + ndL t.args else 1 := by cases t; rw [Tm.nd]; rfl
theorem Tm.ok_eq (t : Tm) : t.ok = if t.k = 1 then decide (1 ≤ t.i) else if t.k = 2 then true else if t.k = 4 then (decide (1 ≤ t.args.length) && decide (t.args.length ≤ 8) && okL t.args) && decide (t.nm.length ≤ 64) else if t.k = 3 then decide (t.nm.length ≤ 64) else false := by cases t; rw [Tm.ok]; rfl
theorem nsL_cons (t : Tm) (ts : List Tm) : nsL (t :: ts) = t.ns + nsL ts := by rw [nsL]
theorem ndL_cons (t : Tm) (ts : List Tm) : ndL (t :: ts) = max t.nd (ndL ts) := by rw [ndL]
theorem okL_cons (t : Tm) (ts : List Tm) : okL (t :: ts) = (t.ok && okL ts) := by rw [okL]
theorem nsL_nil : nsL [] = 0 := by rw [nsL]
theorem ndL_nil : ndL [] = 0 := by rw [ndL]
theorem okL_nil : okL [] = true := by rw [okL]
theorem Tm.ns_pos (t : Tm) : 1 ≤ t.ns := by rw [t.ns_eq]; split <;> omega
theorem Tm.nd_pos (t : Tm) : 1 ≤ t.nd := by rw [t.nd_eq]; split <;> omega
theorem okL_all : ∀ {ts : List Tm}, okL ts = true ↔ ∀ x ∈ ts, x.ok = true := by
  intro ts
  induction ts with
  | nil => simp [okL_nil]
  | cons t ts ih => simp [okL_cons, ih]
def Fits (o : Bool) (n dd : Nat) (d : Int) (sm : Int × Int) : Prop := o = true ∧ sm.1 + n ≤ 2000 ∧ d + dd ≤ 101
def MeasIs (t : Tm) : Prop := ∀ (d : Int) (sm : Int × Int), Bd sm → 1 ≤ d → d ≤ 101 →
  ((t.meas d sm).2 = true ↔ Fits t.ok t.ns t.nd d sm) ∧ ((t.meas d sm).2 = true → (t.meas d sm).1 = (sm.1 + t.ns, max sm.2 (d + t.nd - 1)))
theorem measL_is {ts : List Tm} (h : ∀ x ∈ ts, MeasIs x) : ∀ (d : Int) (sm : Int × Int), Bd sm → 1 ≤ d → d ≤ 101 →
    ((measL ts d sm).2 = true ↔ Fits (okL ts) (nsL ts) (ndL ts) d sm) ∧ ((measL ts d sm).2 = true → (measL ts d sm).1 = (sm.1 + nsL ts, if ts = [] then sm.2 else max sm.2 (d + ndL ts - 1))) := by
  induction ts with
  | nil =>
    intro d sm hb h1 h2
    rw [measL_nil, okL_nil, nsL_nil, ndL_nil]
    have := hb.s1
    refine ⟨⟨fun _ => ⟨rfl, by simpa using this, by simpa using h2⟩, fun _ => rfl⟩, fun _ => by simp⟩
  | cons t ts ih =>
    intro d sm hb h1 h2
    obtain ⟨ha, hv⟩ := h t List.mem_cons_self d sm hb h1 h2
    rw [measL_cons, okL_cons, nsL_cons, ndL_cons]
    have hnp := t.ns_pos
    have hdp := t.nd_pos
    by_cases hx : (t.meas d sm).2 = true
    · have hv' := hv hx
      obtain ⟨f1, f2, f3⟩ := ha.1 hx
      have hb1 : Bd (t.meas d sm).1 := (meas_bd 200 t d sm (by omega) h1 h2 hb).ok hx
      obtain ⟨hi, hj⟩ := ih (fun x hx => h x (List.mem_cons_of_mem _ hx)) d _ hb1 h1 h2
      rw [if_pos hx]
      rw [hv'] at hi hj ⊢
      unfold Fits at hi ⊢
      dsimp only at hi hj
      refine ⟨hi.trans ⟨fun ⟨a, b, c⟩ => ⟨by rw [f1, a]; rfl, by omega, by omega⟩, fun ⟨a, b, c⟩ => ⟨by simp at a; exact a.2, by omega, by omega⟩⟩, fun hk => ?_⟩
      rw [hj hk]
      have e1 : sm.1 + (t.ns : Int) + (nsL ts : Int) = sm.1 + ((t.ns + nsL ts : Nat) : Int) := by omega
      rw [e1]
      congr 1
      cases ts with
      | nil => rw [ndL_nil]; simp
      | cons u us => rw [if_neg (by simp), if_neg (by simp)]; omega
    · rw [if_neg hx]
      refine ⟨⟨fun h => absurd h hx, fun ⟨a, b, c⟩ => absurd (ha.2 ⟨by simp at a; exact a.1, by omega, by omega⟩) hx⟩, fun h => absurd h hx⟩
theorem meas_is : ∀ t : Tm, MeasIs t := by
  intro t
  induction t using Tm.ind with
  | h k nm i args ih =>
    intro d sm hb h1 h2
    have hnp := (Tm.node k nm i args).ns_pos
    have hdp := (Tm.node k nm i args).nd_pos
    obtain ⟨s0, s1, m0, m1⟩ := hb
    rw [Tm.meas]
    unfold Fits
    have hns : (Tm.node k nm i args).ns = if k = 4 then 1 + nsL args else 1 := by rw [Tm.ns]
    have hnd : (Tm.node k nm i args).nd = if k = 4 then 1 + ndL args else 1 := by rw [Tm.nd]
    have hok : (Tm.node k nm i args).ok = if k = 1 then decide (1 ≤ i) else if k = 2 then true else if k = 4 then (decide (1 ≤ args.length) && decide (args.length ≤ 8) && okL args) && decide (nm.length ≤ 64) else if k = 3 then decide (nm.length ≤ 64) else false := by rw [Tm.ok]
    generalize (Tm.node k nm i args).ns = N at *
    generalize (Tm.node k nm i args).nd = D at *
    generalize (Tm.node k nm i args).ok = O at *
    by_cases hg : 2000 < sm.1 + 1 ∨ 100 < max sm.2 d
    · rw [if_pos hg]
      refine ⟨⟨(fun h => by cases h), fun ⟨a, b, c⟩ => ?_⟩, (fun h => by cases h)⟩
      exfalso; omega
    rw [if_neg hg]
    have one : ∀ b, N = 1 → D = 1 → O = b → ((b = true ↔ O = true ∧ sm.1 + (N : Int) ≤ 2000 ∧ d + (D : Int) ≤ 101) ∧ (b = true → (sm.1 + 1, max sm.2 d) = (sm.1 + (N : Int), max sm.2 (d + (D : Int) - 1)))) := by
      rintro b rfl rfl rfl
      exact ⟨⟨fun h => ⟨h, by omega, by omega⟩, fun h => h.1⟩, fun _ => by congr 1; omega⟩
    by_cases k1 : k = 1
    · rw [if_pos k1] at hok ⊢
      rw [if_neg (by omega)] at hns hnd
      exact one _ hns hnd hok
    rw [if_neg k1] at hok ⊢
    by_cases k2 : k = 2
    · rw [if_pos k2] at hok ⊢
      rw [if_neg (by omega)] at hns hnd
      exact one _ hns hnd hok
    rw [if_neg k2] at hok ⊢
    by_cases k4 : k = 4
    · rw [if_pos k4] at hok hns hnd ⊢
      by_cases hl : args.length = 0 ∨ 8 < args.length
      · rw [if_pos hl]
        refine ⟨⟨(fun h => by cases h), fun ⟨a, b, c⟩ => ?_⟩, (fun h => by cases h)⟩
        rw [hok] at a
        simp only [Bool.and_eq_true, decide_eq_true_eq] at a
        exfalso; have := a.1.1; omega
      · rw [if_neg hl]
        obtain ⟨hi, hj⟩ := measL_is ih (d + 1) (sm.1 + 1, max sm.2 d) ⟨by dsimp only; omega, by dsimp only; omega, by dsimp only; omega, by dsimp only; omega⟩ (by omega) (by omega)
        have hne : ¬ args = [] := by intro h; subst h; simp at hl
        rw [if_neg hne] at hj
        refine ⟨?_, fun hk => ?_⟩
        · simp only [Bool.and_eq_true]
          rw [hi, hok]
          unfold Fits
          dsimp only
          simp only [Bool.and_eq_true, decide_eq_true_eq]
          constructor
          · rintro ⟨⟨a, b, c⟩, e⟩
            exact ⟨⟨⟨⟨by omega, by omega⟩, a⟩, e⟩, by omega, by omega⟩
          · rintro ⟨⟨⟨_, a⟩, e⟩, b, c⟩
            exact ⟨⟨a, by omega, by omega⟩, e⟩
        · simp only [Bool.and_eq_true] at hk
          rw [hj hk.1]
          dsimp only
          congr 1 <;> omega
    rw [if_neg k4] at hok hns hnd ⊢
    by_cases k3 : k = 3
    · rw [if_pos k3] at hok ⊢
      exact one _ hns hnd hok
    rw [if_neg k3] at hok ⊢
    exact one _ hns hnd hok
def Tm.Right (t : Tm) : Prop := t.ok = true ∧ t.ns ≤ 2000 ∧ t.nd ≤ 100
theorem Tm.right_iff (t : Tm) : (t.meas 1 (0, 0)).2 = true ↔ t.Right := by
  rw [(meas_is t 1 (0, 0) ⟨by decide, by decide, by decide, by decide⟩ (by decide) (by decide)).1]
  unfold Fits Tm.Right
  dsimp only
  constructor
  · rintro ⟨a, b, c⟩; exact ⟨a, by omega, by omega⟩
  · rintro ⟨a, b, c⟩; exact ⟨a, by omega, by omega⟩
end Go.Proofs.YtnfcbalppecnfaaGreat
namespace Go.Proofs.YtnfcbalppecnfaaGreat
set_option linter.unusedVariables false
inductive T where
  | v (n : Int)
  | n (i : Int)
  | a (nm : List UInt8)
  | c (nm : List UInt8) (args : List T)
instance : Inhabited T := ⟨.n 0⟩
mutual
def Tm.tree : Tm → T
  | .node k nm i args => if k = 1 then .v i else if k = 2 then .n i else if k = 3 then .a nm else .c nm (treeL args)
def treeL : List Tm → List T
  | [] => []
  | t :: ts => t.tree :: treeL ts
end
mutual
def T.tm : T → Tm
  | .v x => .node 1 [] x []
  | .n x => .node 2 [] x []
  | .a x => .node 3 x 0 []
  | .c nm args => .node 4 nm 0 (tmL args)
def tmL : List T → List Tm
  | [] => []
  | t :: ts => t.tm :: tmL ts
end
mutual
def T.ns : T → Nat
  | .c nm args => 1 + nsT args
  | _ => 1
def nsT : List T → Nat
  | [] => 0
  | t :: ts => t.ns + nsT ts
end
mutual
def T.nd : T → Nat
  | .c nm args => 1 + ndT args
  | _ => 1
def ndT : List T → Nat
  | [] => 0
  | t :: ts => max t.nd (ndT ts)
end
mutual
def T.ok : T → Bool
  | .v x => decide (1 ≤ x)
  | .n x => true
  | .a nm => decide (nm.length ≤ 64)
  | .c nm args => (decide (1 ≤ args.length) && decide (args.length ≤ 8) && okT args) && decide (nm.length ≤ 64)
def okT : List T → Bool
  | [] => true
  | t :: ts => t.ok && okT ts
end
theorem T.ind {P : T → Prop} (hv : ∀ n, P (.v n)) (hn : ∀ i, P (.n i)) (ha : ∀ nm, P (.a nm)) (hc : ∀ nm args, (∀ x ∈ args, P x) → P (.c nm args)) : ∀ t, P t
  | .v x => hv x
  | .n x => hn x
  | .a x => ha x
  | .c nm args => hc nm args (fun x hx => T.ind hv hn ha hc x)
theorem treeL_map (ts : List Tm) : treeL ts = ts.map Tm.tree := by induction ts with | nil => rw [treeL]; rfl | cons t ts ih => rw [treeL, ih]; rfl
theorem tmL_map (ts : List T) : tmL ts = ts.map T.tm := by induction ts with | nil => rw [tmL]; rfl | cons t ts ih => rw [tmL, ih]; rfl
theorem nsT_cons (t : T) (ts : List T) : nsT (t :: ts) = t.ns + nsT ts := by rw [nsT]
theorem ndT_cons (t : T) (ts : List T) : ndT (t :: ts) = max t.nd (ndT ts) := by rw [ndT]
theorem okT_cons (t : T) (ts : List T) : okT (t :: ts) = (t.ok && okT ts) := by rw [okT]
theorem nsT_nil : nsT [] = 0 := by rw [nsT]
theorem ndT_nil : ndT [] = 0 := by rw [ndT]
theorem okT_nil : okT [] = true := by rw [okT]
theorem T.ns_c (nm : List UInt8) (args : List T) : (T.c nm args).ns = 1 + nsT args := by rw [T.ns]
theorem T.nd_c (nm : List UInt8) (args : List T) : (T.c nm args).nd = 1 + ndT args := by rw [T.nd]
theorem T.ok_c (nm : List UInt8) (args : List T) : (T.c nm args).ok = ((decide (1 ≤ args.length) && decide (args.length ≤ 8) && okT args) && decide (nm.length ≤ 64)) := by rw [T.ok]
theorem okT_all : ∀ {ts : List T}, okT ts = true ↔ ∀ x ∈ ts, x.ok = true := by
  intro ts
  induction ts with
  | nil => simp [okT_nil]
  | cons t ts ih => simp [okT_cons, ih]
def T.kind : T → Int | .v _ => 1 | .n _ => 2 | .a _ => 3 | .c _ _ => 4
theorem Tm.ok_kind {t : Tm} (h : t.ok = true) : t.k = 1 ∨ t.k = 2 ∨ t.k = 3 ∨ t.k = 4 := by
  rw [t.ok_eq] at h
  by_cases k1 : t.k = 1
  · exact .inl k1
  by_cases k2 : t.k = 2
  · exact .inr (.inl k2)
  by_cases k3 : t.k = 3
  · exact .inr (.inr (.inl k3))
  by_cases k4 : t.k = 4
  · exact .inr (.inr (.inr k4))
  rw [if_neg k1, if_neg k2, if_neg k4, if_neg k3] at h
  cases h
theorem Tm.tree_eq (t : Tm) : t.tree = if t.k = 1 then .v t.i else if t.k = 2 then .n t.i else if t.k = 3 then .a t.nm else .c t.nm (t.args.map Tm.tree) := by
  cases t with
  | node k nm i args => rw [Tm.tree, treeL_map]; rfl
theorem Tm.ok_args {t : Tm} (h : t.ok = true) (k4 : t.k = 4) : 1 ≤ t.args.length ∧ t.args.length ≤ 8 ∧ (∀ x ∈ t.args, x.ok = true) ∧ t.nm.length ≤ 64 := by
  rw [t.ok_eq, if_neg (by omega), if_neg (by omega), if_pos k4] at h
  simp only [Bool.and_eq_true, decide_eq_true_eq] at h
  exact ⟨h.1.1.1, h.1.1.2, okL_all.1 h.1.2, h.2⟩
theorem nsT_map {ts : List Tm} (h : ∀ x ∈ ts, x.tree.ns = x.ns) : nsT (ts.map Tm.tree) = nsL ts := by
  induction ts with
  | nil => rw [nsL_nil]; exact nsT_nil
  | cons t ts ih => rw [List.map_cons, nsT_cons, nsL_cons, h t List.mem_cons_self, ih (fun x hx => h x (List.mem_cons_of_mem _ hx))]
theorem ndT_map {ts : List Tm} (h : ∀ x ∈ ts, x.tree.nd = x.nd) : ndT (ts.map Tm.tree) = ndL ts := by
  induction ts with
  | nil => rw [ndL_nil]; exact ndT_nil
  | cons t ts ih => rw [List.map_cons, ndT_cons, ndL_cons, h t List.mem_cons_self, ih (fun x hx => h x (List.mem_cons_of_mem _ hx))]
theorem Tm.tree_ns {t : Tm} : t.ok = true → t.tree.ns = t.ns ∧ t.tree.nd = t.nd ∧ t.tree.ok = true ∧ t.tree.kind = t.k := by
  induction t using Tm.ind with
  | h k nm i args ih =>
    intro h
    have hk := Tm.ok_kind h
    have hargs := Tm.ok_args h
    have e1 : (Tm.node k nm i args).tree = if k = 1 then .v i else if k = 2 then .n i else if k = 3 then .a nm else .c nm (args.map Tm.tree) := by rw [Tm.tree, treeL_map]
    have e2 : (Tm.node k nm i args).ns = if k = 4 then 1 + nsL args else 1 := by rw [Tm.ns]
    have e3 : (Tm.node k nm i args).nd = if k = 4 then 1 + ndL args else 1 := by rw [Tm.nd]
    rw [Tm.ok] at h
    change k = 1 ∨ k = 2 ∨ k = 3 ∨ k = 4 at hk
    change k = 4 → 1 ≤ args.length ∧ args.length ≤ 8 ∧ (∀ x ∈ args, x.ok = true) ∧ nm.length ≤ 64 at hargs
    change _ ∧ _ ∧ _ ∧ _ = k
    rw [e1, e2, e3]
    clear e1 e2 e3
    rcases hk with rfl | rfl | rfl | rfl
    · simp only [if_pos] at h ⊢; exact ⟨by simp [T.ns], by simp [T.nd], by rw [T.ok]; exact h, rfl⟩
    · exact ⟨by simp [T.ns], by simp [T.nd], by simp [T.ok], rfl⟩
    · exact ⟨by simp [T.ns], by simp [T.nd], by simp [T.ok]; simpa using h, rfl⟩
    · obtain ⟨h1, h8, hx, hn⟩ := hargs rfl
      simp only [if_neg (show ¬ (4 : Int) = 1 by decide), if_neg (show ¬ (4 : Int) = 2 by decide), if_neg (show ¬ (4 : Int) = 3 by decide), if_pos]
      rw [T.ns_c, T.nd_c, T.ok_c, nsT_map (fun x hm => (ih x hm (hx x hm)).1), ndT_map (fun x hm => (ih x hm (hx x hm)).2.1), List.length_map]
      refine ⟨rfl, rfl, ?_, rfl⟩
      simp only [Bool.and_eq_true, decide_eq_true_eq]
      refine ⟨⟨⟨h1, h8⟩, okT_all.2 fun x hm => ?_⟩, hn⟩
      obtain ⟨y, hy, rfl⟩ := List.mem_map.1 hm
      exact (ih y hy (hx y hy)).2.2.1
theorem T.tm_c (nm : List UInt8) (args : List T) : (T.c nm args).tm = .node 4 nm 0 (args.map T.tm) := by rw [T.tm, tmL_map]
theorem map_same {α β : Type} {f : α → β} {g : β → α} : ∀ {l : List α}, (∀ x ∈ l, g (f x) = x) → (l.map f).map g = l := by
  intro l
  induction l with
  | nil => intro _; rfl
  | cons x l ih => intro h; rw [List.map_cons, List.map_cons, h x List.mem_cons_self, ih (fun y hy => h y (List.mem_cons_of_mem _ hy))]
theorem T.tm_tree (t : T) : t.tm.tree = t := by
  induction t using T.ind with
  | hv n => simp [T.tm, Tm.tree]
  | hn i => simp [T.tm, Tm.tree]
  | ha nm => simp [T.tm, Tm.tree]
  | hc nm args ih =>
    have e : (Tm.node 4 nm 0 (args.map T.tm)).tree = .c nm ((args.map T.tm).map Tm.tree) := by rw [Tm.tree, treeL_map]; simp
    rw [T.tm_c, e, map_same ih]
theorem T.tm_ok (t : T) : t.tm.ok = t.ok ∧ t.tm.ns = t.ns ∧ t.tm.nd = t.nd := by
  induction t using T.ind with
  | hv n => simp [T.tm, Tm.ok, T.ok, Tm.ns, T.ns, Tm.nd, T.nd]
  | hn i => simp [T.tm, Tm.ok, T.ok, Tm.ns, T.ns, Tm.nd, T.nd]
  | ha nm => simp [T.tm, Tm.ok, T.ok, Tm.ns, T.ns, Tm.nd, T.nd]
  | hc nm args ih =>
    have ls : ∀ l : List T, (∀ x ∈ l, x.tm.ok = x.ok ∧ x.tm.ns = x.ns ∧ x.tm.nd = x.nd) → okL (l.map T.tm) = okT l ∧ nsL (l.map T.tm) = nsT l ∧ ndL (l.map T.tm) = ndT l := by
      intro l
      induction l with
      | nil => intro _; simp [okL_nil, okT_nil, nsL_nil, nsT_nil, ndL_nil, ndT_nil]
      | cons x l ih =>
        intro h
        obtain ⟨a, b, c⟩ := h x List.mem_cons_self
        obtain ⟨d, e, f⟩ := ih (fun y hy => h y (List.mem_cons_of_mem _ hy))
        rw [List.map_cons, okL_cons, okT_cons, nsL_cons, nsT_cons, ndL_cons, ndT_cons, a, b, c, d, e, f]
        exact ⟨rfl, rfl, rfl⟩
    obtain ⟨a, b, c⟩ := ls args ih
    rw [T.tm_c, Tm.ok, Tm.ns, Tm.nd, T.ok_c, T.ns_c, T.nd_c, a, b, c]
    simp
theorem T.ns_pos (t : T) : 1 ≤ t.ns := by cases t <;> simp [T.ns]
def T.Right (t : T) : Prop := t.ok = true ∧ t.ns ≤ 2000 ∧ t.nd ≤ 100
theorem T.tm_right (t : T) : t.tm.Right ↔ t.Right := by
  obtain ⟨a, b, c⟩ := t.tm_ok
  unfold Tm.Right T.Right
  rw [a, b, c]
theorem Tm.tree_right {t : Tm} (h : t.Right) : t.tree.Right := by
  obtain ⟨a, b, c, _⟩ := Tm.tree_ns h.1
  exact ⟨c, by rw [a]; exact h.2.1, by rw [b]; exact h.2.2⟩
def cmpI (a b : Int) : Int := if a < b then -1 else if b < a then 1 else 0
def cmpB : List UInt8 → List UInt8 → Int
  | [], [] => 0
  | [], _ :: _ => -1
  | _ :: _, [] => 1
  | x :: xs, y :: ys => if x.toNat < y.toNat then -1 else if y.toNat < x.toNat then 1 else cmpB xs ys
def or2 (a b : Int) : Int := if a = 0 then b else a
mutual
def T.cmp : T → T → Int
  | .v x, u => match u with | .v y => cmpI x y | _ => -1
  | .n x, u => match u with | .v _ => 1 | .n y => cmpI x y | _ => -1
  | .a x, u => match u with | .a y => cmpB x y | .c _ _ => -1 | _ => 1
  | .c f as_, u => match u with | .c g bs => or2 (cmpI as_.length bs.length) (or2 (cmpB f g) (cmpL as_ bs)) | _ => 1
def cmpL : List T → List T → Int
  | [], u => match u with | [] => 0 | _ :: _ => -1
  | x :: xs, u => match u with | [] => 1 | y :: ys => or2 (x.cmp y) (cmpL xs ys)
end
theorem cmpI_self (a : Int) : cmpI a a = 0 := by unfold cmpI; split <;> omega
theorem cmpI_zero {a b : Int} : cmpI a b = 0 ↔ a = b := by
  unfold cmpI
  split
  · constructor <;> intro h <;> omega
  · split <;> constructor <;> intro h <;> omega
theorem cmpI_neg (a b : Int) : cmpI a b = -cmpI b a := by
  unfold cmpI
  split <;> split <;> (try split) <;> (try split) <;> omega
theorem cmpB_self : ∀ a, cmpB a a = 0 := by
  intro a
  induction a with
  | nil => rfl
  | cons x xs ih => simp [cmpB, ih]
theorem cmpB_zero : ∀ {a b}, cmpB a b = 0 ↔ a = b := by
  intro a
  induction a with
  | nil => intro b; cases b <;> simp [cmpB]
  | cons x xs ih =>
    intro b
    cases b with
    | nil => simp [cmpB]
    | cons y ys =>
      rw [cmpB]
      by_cases h1 : x.toNat < y.toNat
      · rw [if_pos h1]; simp; rintro rfl; omega
      rw [if_neg h1]
      by_cases h2 : y.toNat < x.toNat
      · rw [if_pos h2]; simp; rintro rfl; omega
      rw [if_neg h2, ih]
      have : x = y := UInt8.toNat_inj.1 (by omega)
      simp [this]
theorem cmpB_neg : ∀ a b, cmpB a b = -cmpB b a := by
  intro a
  induction a with
  | nil => intro b; cases b <;> simp [cmpB]
  | cons x xs ih =>
    intro b
    cases b with
    | nil => simp [cmpB]
    | cons y ys =>
      rw [cmpB, cmpB, ih ys]
      split <;> split <;> (try split) <;> (try omega)
end Go.Proofs.YtnfcbalppecnfaaGreat
namespace Go.Proofs.YtnfcbalppecnfaaGreat
set_option linter.unusedVariables false
theorem or2_zero {a b : Int} : or2 a b = 0 ↔ a = 0 ∧ b = 0 := by unfold or2; split <;> omega
theorem or2_neg (a b : Int) : or2 (-a) (-b) = -or2 a b := by unfold or2; split <;> split <;> omega
theorem or2_le {a b : Int} : or2 a b ≤ 0 ↔ a < 0 ∨ (a = 0 ∧ b ≤ 0) := by unfold or2; split <;> omega
structure Lin {α : Type} (f : α → α → Int) (a : α) : Prop where
  zero : ∀ b, f a b = 0 ↔ a = b
  neg : ∀ b, f a b = -f b a
  tr : ∀ b c, f a b ≤ 0 → f b c ≤ 0 → f a c ≤ 0
theorem Lin.lt {α : Type} {f : α → α → Int} {a : α} (h : Lin f a) {b c : α} (hb : f b c ≤ 0) (ha : f a b < 0) : f a c < 0 := by
  have h1 := h.tr b c (by omega) hb
  rcases Int.lt_or_eq_of_le h1 with h2 | h2
  · exact h2
  · have := (h.zero c).1 h2
    subst this
    have := h.neg b
    omega
theorem lin_I (a : Int) : Lin cmpI a where
  zero b := cmpI_zero
  neg b := cmpI_neg a b
  tr b c := by unfold cmpI; split <;> split <;> split <;> (try split) <;> (try split) <;> (try split) <;> omega
theorem cmpB_tr : ∀ a b c, cmpB a b ≤ 0 → cmpB b c ≤ 0 → cmpB a c ≤ 0 := by
  intro a
  induction a with
  | nil => intro b c _ _; cases c <;> simp [cmpB]
  | cons x xs ih =>
    intro b c h1 h2
    cases b with
    | nil => simp [cmpB] at h1
    | cons y ys =>
      cases c with
      | nil => simp [cmpB] at h2
      | cons z zs =>
        rw [cmpB] at h1 h2 ⊢
        by_cases e1 : x.toNat < y.toNat
        · by_cases e2 : y.toNat < z.toNat
          · rw [if_pos (by omega)]; omega
          · rw [if_neg e2] at h2
            by_cases e3 : z.toNat < y.toNat
            · rw [if_pos e3] at h2; omega
            · rw [if_pos (by omega)]; omega
        · rw [if_neg e1] at h1
          by_cases e4 : y.toNat < x.toNat
          · rw [if_pos e4] at h1; omega
          · rw [if_neg e4] at h1
            by_cases e2 : y.toNat < z.toNat
            · rw [if_pos (by omega)]; omega
            · rw [if_neg e2] at h2
              by_cases e3 : z.toNat < y.toNat
              · rw [if_pos e3] at h2; omega
              · rw [if_neg e3] at h2
                rw [if_neg (by omega), if_neg (by omega)]
                exact ih _ _ h1 h2
theorem lin_B (a : List UInt8) : Lin cmpB a where
  zero b := cmpB_zero
  neg b := cmpB_neg a b
  tr b c := cmpB_tr a b c
theorem or2_tr {α β : Type} {f : α → α → Int} {g : β → β → Int} {a a' a'' : α} {b b' b'' : β} (hf : ∀ x, Lin f x) (hg : g b b' ≤ 0 → g b' b'' ≤ 0 → g b b'' ≤ 0)
    (h1 : or2 (f a a') (g b b') ≤ 0) (h2 : or2 (f a' a'') (g b' b'') ≤ 0) : or2 (f a a'') (g b b'') ≤ 0 := by
  rw [or2_le] at h1 h2 ⊢
  rcases h1 with h1 | ⟨h1, k1⟩
  · exact .inl ((hf a).lt (by rcases h2 with h | h <;> omega) h1)
  · have := ((hf a).zero _).1 h1
    subst this
    rcases h2 with h2 | ⟨h2, k2⟩
    · exact .inl h2
    · exact .inr ⟨h2, hg k1 k2⟩
theorem cmpL_nn : cmpL [] [] = 0 := by rw [cmpL]
theorem cmpL_nc (y : T) (ys : List T) : cmpL [] (y :: ys) = -1 := by rw [cmpL]
theorem cmpL_cn (x : T) (xs : List T) : cmpL (x :: xs) [] = 1 := by rw [cmpL]
theorem cmpL_cc (x : T) (xs : List T) (y : T) (ys : List T) : cmpL (x :: xs) (y :: ys) = or2 (x.cmp y) (cmpL xs ys) := by rw [cmpL]
theorem lin_L : ∀ {xs : List T}, (∀ x ∈ xs, Lin T.cmp x) → Lin cmpL xs := by
  intro xs
  induction xs with
  | nil =>
    intro _
    refine ⟨fun b => ?_, fun b => ?_, fun b c _ _ => ?_⟩
    · cases b with
      | nil => simp [cmpL_nn]
      | cons y ys => simp [cmpL_nc]
    · cases b with
      | nil => simp [cmpL_nn]
      | cons y ys => simp [cmpL_nc, cmpL_cn]
    · cases c with
      | nil => simp [cmpL_nn]
      | cons y ys => simp [cmpL_nc]
  | cons x xs ih =>
    intro h
    have hx := h x List.mem_cons_self
    have hs := ih (fun y hy => h y (List.mem_cons_of_mem _ hy))
    refine ⟨fun b => ?_, fun b => ?_, fun b c h1 h2 => ?_⟩
    · cases b with
      | nil => simp [cmpL_cn]
      | cons y ys => rw [cmpL_cc, or2_zero, hx.zero, hs.zero]; simp
    · cases b with
      | nil => simp [cmpL_nc, cmpL_cn]
      | cons y ys => rw [cmpL_cc, cmpL_cc, hx.neg y, hs.neg ys, or2_neg]
    · cases b with
      | nil => simp [cmpL_cn] at h1
      | cons y ys =>
        cases c with
        | nil => simp [cmpL_cn] at h2
        | cons z zs =>
          rw [cmpL_cc] at h1 h2 ⊢
          rw [or2_le] at h1 h2 ⊢
          rcases h1 with h1 | ⟨h1, k1⟩
          · exact .inl (hx.lt (by rcases h2 with h | h <;> omega) h1)
          · have := (hx.zero _).1 h1
            subst this
            rcases h2 with h2 | ⟨h2, k2⟩
            · exact .inl h2
            · exact .inr ⟨h2, hs.tr _ _ k1 k2⟩
theorem T.cmp_c (f g : List UInt8) (as_ bs : List T) : (T.c f as_).cmp (.c g bs) = or2 (cmpI as_.length bs.length) (or2 (cmpB f g) (cmpL as_ bs)) := by rw [T.cmp]
theorem T.cmp_kind (a b : T) (h : a.kind ≠ b.kind) : a.cmp b = cmpI a.kind b.kind := by
  cases a <;> cases b <;> first | (exfalso; exact h rfl) | simp [T.cmp, T.kind, cmpI]
theorem T.cmp_v (x y : Int) : (T.v x).cmp (.v y) = cmpI x y := by rw [T.cmp]
theorem T.cmp_n (x y : Int) : (T.n x).cmp (.n y) = cmpI x y := by rw [T.cmp]
theorem T.cmp_a (x y : List UInt8) : (T.a x).cmp (.a y) = cmpB x y := by rw [T.cmp]
theorem T.lin : ∀ t : T, Lin T.cmp t := by
  intro t
  have kneg : ∀ a b : T, a.kind ≠ b.kind → a.cmp b = -b.cmp a := fun a b h => by rw [T.cmp_kind a b h, T.cmp_kind b a (Ne.symm h)]; exact cmpI_neg _ _
  have kz : ∀ a b : T, a.kind ≠ b.kind → (a.cmp b = 0 ↔ a = b) := fun a b h => by
    rw [T.cmp_kind a b h, cmpI_zero]
    exact ⟨fun e => absurd e h, fun e => absurd (by rw [e]) h⟩
  have cle : ∀ a b : T, a.cmp b ≤ 0 → a.kind ≤ b.kind := fun a b h => by
    by_cases e : a.kind = b.kind
    · omega
    · rw [T.cmp_kind a b e] at h; unfold cmpI at h; split at h <;> (try split at h) <;> omega
  have clt : ∀ a b : T, a.kind < b.kind → a.cmp b ≤ 0 := fun a b h => by
    rw [T.cmp_kind a b (by omega)]; unfold cmpI; rw [if_pos h]; omega
  have kk : ∀ a b c : T, a.cmp b ≤ 0 → b.cmp c ≤ 0 → (a.kind = b.kind → b.kind = c.kind → a.cmp c ≤ 0) → a.cmp c ≤ 0 := fun a b c h1 h2 h => by
    have e1 := cle a b h1
    have e2 := cle b c h2
    by_cases e : a.kind < c.kind
    · exact clt a c e
    · exact h (by omega) (by omega)
  induction t using T.ind with
  | hv x =>
    refine ⟨fun b => ?_, fun b => ?_, fun b c h1 h2 => kk _ b c h1 h2 fun e1 e2 => ?_⟩
    · by_cases e : (T.v x).kind = b.kind
      · cases b with
        | v y => rw [T.cmp_v, cmpI_zero]; simp
        | _ => cases e
      · exact kz _ _ e
    · by_cases e : (T.v x).kind = b.kind
      · cases b with
        | v y => rw [T.cmp_v, T.cmp_v]; exact cmpI_neg _ _
        | _ => cases e
      · exact kneg _ _ e
    · cases b with
      | v y =>
        cases c with
        | v z => rw [T.cmp_v] at *; exact (lin_I x).tr _ _ h1 h2
        | _ => cases e2
      | _ => cases e1
  | hn x =>
    refine ⟨fun b => ?_, fun b => ?_, fun b c h1 h2 => kk _ b c h1 h2 fun e1 e2 => ?_⟩
    · by_cases e : (T.n x).kind = b.kind
      · cases b with
        | n y => rw [T.cmp_n, cmpI_zero]; simp
        | _ => cases e
      · exact kz _ _ e
    · by_cases e : (T.n x).kind = b.kind
      · cases b with
        | n y => rw [T.cmp_n, T.cmp_n]; exact cmpI_neg _ _
        | _ => cases e
      · exact kneg _ _ e
    · cases b with
      | n y =>
        cases c with
        | n z => rw [T.cmp_n] at *; exact (lin_I x).tr _ _ h1 h2
        | _ => cases e2
      | _ => cases e1
  | ha x =>
    refine ⟨fun b => ?_, fun b => ?_, fun b c h1 h2 => kk _ b c h1 h2 fun e1 e2 => ?_⟩
    · by_cases e : (T.a x).kind = b.kind
      · cases b with
        | a y => rw [T.cmp_a, cmpB_zero]; simp
        | _ => cases e
      · exact kz _ _ e
    · by_cases e : (T.a x).kind = b.kind
      · cases b with
        | a y => rw [T.cmp_a, T.cmp_a]; exact cmpB_neg _ _
        | _ => cases e
      · exact kneg _ _ e
    · cases b with
      | a y =>
        cases c with
        | a z => rw [T.cmp_a] at *; exact (lin_B x).tr _ _ h1 h2
        | _ => cases e2
      | _ => cases e1
  | hc f as_ ih =>
    have hl := lin_L ih
    refine ⟨fun b => ?_, fun b => ?_, fun b c h1 h2 => kk _ b c h1 h2 fun e1 e2 => ?_⟩
    · by_cases e : (T.c f as_).kind = b.kind
      · cases b with
        | c g bs =>
          rw [T.cmp_c, or2_zero, or2_zero, cmpI_zero, cmpB_zero, hl.zero]
          simp only [T.c.injEq]
          exact ⟨fun h => h.2, fun h => ⟨by rw [h.2], h⟩⟩
        | _ => cases e
      · exact kz _ _ e
    · by_cases e : (T.c f as_).kind = b.kind
      · cases b with
        | c g bs => rw [T.cmp_c, T.cmp_c, cmpI_neg, cmpB_neg, hl.neg, or2_neg, or2_neg]
        | _ => cases e
      · exact kneg _ _ e
    · cases b with
      | c g bs =>
        cases c with
        | c h cs =>
          rw [T.cmp_c] at *
          exact or2_tr (g := fun (p q : List UInt8 × List T) => or2 (cmpB p.1 q.1) (cmpL p.2 q.2)) (b := (f, as_)) (b' := (g, bs)) (b'' := (h, cs)) lin_I (fun k1 k2 => or2_tr lin_B (fun j1 j2 => hl.tr _ _ j1 j2) k1 k2) h1 h2
        | _ => cases e2
      | _ => cases e1
end Go.Proofs.YtnfcbalppecnfaaGreat
namespace Go.Proofs.YtnfcbalppecnfaaGreat
set_option linter.unusedVariables false
mutual
def Tm.cop {σ : Type} (f : σ → Int → Tm × σ) : Tm → σ → Tm × σ
  | .node k nm i args, s => if k = 1 then f s i else if k = 2 then (.node 2 [] i [], s) else if k = 3 then (.node 3 nm 0 [], s) else (.node 4 nm 0 (copL f args s).1, (copL f args s).2)
def copL {σ : Type} (f : σ → Int → Tm × σ) : List Tm → σ → List Tm × σ
  | [], s => ([], s)
  | t :: ts, s => ((t.cop f s).1 :: (copL f ts (t.cop f s).2).1, (copL f ts (t.cop f s).2).2)
end
theorem copL_nil {σ : Type} (f : σ → Int → Tm × σ) (s : σ) : copL f [] s = ([], s) := by rw [copL]
theorem copL_cons {σ : Type} (f : σ → Int → Tm × σ) (t : Tm) (ts : List Tm) (s : σ) : copL f (t :: ts) s = ((t.cop f s).1 :: (copL f ts (t.cop f s).2).1, (copL f ts (t.cop f s).2).2) := by rw [copL]
theorem copL_length {σ : Type} (f : σ → Int → Tm × σ) : ∀ (ts : List Tm) (s : σ), (copL f ts s).1.length = ts.length := by
  intro ts
  induction ts with
  | nil => intro s; rw [copL_nil]
  | cons t ts ih => intro s; rw [copL_cons]; simp [ih]
theorem copL_append {σ : Type} (f : σ → Int → Tm × σ) (us : List Tm) : ∀ (ts : List Tm) (s : σ), copL f (ts ++ us) s = ((copL f ts s).1 ++ (copL f us (copL f ts s).2).1, (copL f us (copL f ts s).2).2) := by
  intro ts
  induction ts with
  | nil => intro s; rw [copL_nil]; rfl
  | cons t ts ih => intro s; rw [List.cons_append, copL_cons, copL_cons, ih]; rfl
mutual
def T.sub (f : Int → T) : T → T
  | .v x => f x
  | .n x => .n x
  | .a x => .a x
  | .c nm args => .c nm (subL f args)
def subL (f : Int → T) : List T → List T
  | [] => []
  | t :: ts => t.sub f :: subL f ts
end
theorem subL_map (f : Int → T) (ts : List T) : subL f ts = ts.map (T.sub f) := by induction ts with | nil => rw [subL]; rfl | cons t ts ih => rw [subL, ih]; rfl
theorem T.sub_c (f : Int → T) (nm : List UInt8) (args : List T) : (T.c nm args).sub f = .c nm (args.map (T.sub f)) := by rw [T.sub, subL_map]
theorem T.sub_v (f : Int → T) (x : Int) : (T.v x).sub f = f x := by rw [T.sub]
theorem T.sub_n (f : Int → T) (x : Int) : (T.n x).sub f = .n x := by rw [T.sub]
theorem T.sub_a (f : Int → T) (x : List UInt8) : (T.a x).sub f = .a x := by rw [T.sub]
inductive T.has : Int → T → Prop
  | v (x : Int) : T.has x (.v x)
  | c {x : Int} {nm : List UInt8} {args : List T} {t : T} (ht : t ∈ args) (h : T.has x t) : T.has x (.c nm args)
mutual
def T.acc : T → List Int → List Int
  | .v x, l => if x ∈ l then l else l ++ [x]
  | .n x, l => l
  | .a x, l => l
  | .c nm args, l => accL args l
def accL : List T → List Int → List Int
  | [], l => l
  | t :: ts, l => accL ts (t.acc l)
end
def T.vars (t : T) : List Int := t.acc []
theorem has_v {x y : Int} : (T.v y).has x ↔ x = y := ⟨fun h => by cases h; rfl, fun h => by subst h; exact .v _⟩
theorem has_n {x i : Int} : ¬ (T.n i).has x := fun h => by cases h
theorem has_a {x : Int} {nm : List UInt8} : ¬ (T.a nm).has x := fun h => by cases h
theorem has_c {x : Int} {nm : List UInt8} {args : List T} : (T.c nm args).has x ↔ ∃ t ∈ args, t.has x := ⟨fun h => by cases h with | c ht h => exact ⟨_, ht, h⟩, fun ⟨t, ht, h⟩ => .c ht h⟩
theorem T.sub_same {f g : Int → T} {t : T} : (∀ x, t.has x → f x = g x) → t.sub f = t.sub g := by
  induction t using T.ind with
  | hv x => intro h; rw [T.sub_v, T.sub_v]; exact h x (.v x)
  | hn i => intro _; rw [T.sub_n, T.sub_n]
  | ha nm => intro _; rw [T.sub_a, T.sub_a]
  | hc nm args ih =>
    intro h
    rw [T.sub_c, T.sub_c]
    congr 1
    exact List.map_congr_left fun t ht => ih t ht fun x hx => h x (.c ht hx)
theorem T.sub_id {t : T} : t.sub .v = t := by
  induction t using T.ind with
  | hv x => rw [T.sub_v]
  | hn i => rw [T.sub_n]
  | ha nm => rw [T.sub_a]
  | hc nm args ih =>
    rw [T.sub_c]
    congr 1
    rw [List.map_congr_left ih]
    exact List.map_id' args
theorem T.sub_sub {f g : Int → T} {t : T} : (t.sub f).sub g = t.sub (fun x => (f x).sub g) := by
  induction t using T.ind with
  | hv x => rw [T.sub_v, T.sub_v]
  | hn i => rw [T.sub_n, T.sub_n, T.sub_n]
  | ha nm => rw [T.sub_a, T.sub_a, T.sub_a]
  | hc nm args ih =>
    rw [T.sub_c, T.sub_c, T.sub_c, List.map_map]
    congr 1
    exact List.map_congr_left ih
theorem T.acc_c (nm : List UInt8) (args : List T) (l : List Int) : (T.c nm args).acc l = accL args l := by rw [T.acc]
theorem T.acc_v (x : Int) (l : List Int) : (T.v x).acc l = if x ∈ l then l else l ++ [x] := by rw [T.acc]
theorem T.acc_n (x : Int) (l : List Int) : (T.n x).acc l = l := by rw [T.acc]
theorem T.acc_a (x : List UInt8) (l : List Int) : (T.a x).acc l = l := by rw [T.acc]
theorem accL_nil (l : List Int) : accL [] l = l := by rw [accL]
theorem accL_cons (t : T) (ts : List T) (l : List Int) : accL (t :: ts) l = accL ts (t.acc l) := by rw [accL]
structure AccIs (t : T → Prop) (has : Int → Prop) (l m : List Int) : Prop where
  pre : ∃ k, m = l ++ k
  mem : ∀ x, x ∈ m ↔ x ∈ l ∨ has x
  nodup : l.Nodup → m.Nodup
theorem acc_is : ∀ (t : T) (l : List Int), AccIs (fun _ => True) (fun x => t.has x) l (t.acc l) := by
  intro t
  induction t using T.ind with
  | hv x =>
    intro l
    rw [T.acc_v]
    split
    · rename_i h
      exact ⟨⟨[], by simp⟩, fun y => ⟨.inl, fun h' => by rcases h' with h' | h'; exact h'; rw [has_v] at h'; subst h'; exact h⟩, fun h => h⟩
    · rename_i h
      refine ⟨⟨[x], rfl⟩, fun y => by simp [has_v], fun hl => ?_⟩
      rw [List.nodup_append]
      exact ⟨hl, by simp, fun a ha b hb => by simp at hb; subst hb; rintro rfl; exact h ha⟩
  | hn i => intro l; rw [T.acc_n]; exact ⟨⟨[], by simp⟩, fun y => ⟨.inl, fun h => by rcases h with h | h; exact h; exact absurd h has_n⟩, fun h => h⟩
  | ha nm => intro l; rw [T.acc_a]; exact ⟨⟨[], by simp⟩, fun y => ⟨.inl, fun h => by rcases h with h | h; exact h; exact absurd h has_a⟩, fun h => h⟩
  | hc nm args ih =>
    intro l
    rw [T.acc_c]
    have go : ∀ (ts : List T), (∀ x ∈ ts, ∀ l, AccIs (fun _ => True) (fun y => x.has y) l (x.acc l)) → ∀ l, AccIs (fun _ => True) (fun y => ∃ t ∈ ts, t.has y) l (accL ts l) := by
      intro ts
      induction ts with
      | nil => intro _ l; rw [accL_nil]; exact ⟨⟨[], by simp⟩, fun y => by simp, fun h => h⟩
      | cons t ts ih2 =>
        intro h l
        rw [accL_cons]
        obtain ⟨⟨k1, e1⟩, m1, n1⟩ := h t List.mem_cons_self l
        obtain ⟨⟨k2, e2⟩, m2, n2⟩ := ih2 (fun x hx => h x (List.mem_cons_of_mem _ hx)) (t.acc l)
        refine ⟨⟨k1 ++ k2, by rw [e2, e1, List.append_assoc]⟩, fun y => ?_, fun hl => n2 (n1 hl)⟩
        rw [m2, m1]
        simp only [List.mem_cons, exists_eq_or_imp]
        rw [or_assoc]
    obtain ⟨p, m, n⟩ := go args ih l
    exact ⟨p, fun y => by rw [m, has_c], n⟩
theorem T.vars_nodup (t : T) : t.vars.Nodup := (acc_is t []).nodup List.nodup_nil
theorem T.mem_vars (t : T) (x : Int) : x ∈ t.vars ↔ t.has x := by rw [show t.vars = t.acc [] from rfl, (acc_is t []).mem]; simp
end Go.Proofs.YtnfcbalppecnfaaGreat
namespace Go.Proofs.YtnfcbalppecnfaaGreat
set_option linter.unusedVariables false
theorem cop_1 {σ : Type} (f : σ → Int → Tm × σ) (t : Tm) (s : σ) (h : t.k = 1) : t.cop f s = f s t.i := by
  cases t with
  | node k nm i args => change k = 1 at h; rw [Tm.cop, if_pos h]; rfl
theorem cop_2 {σ : Type} (f : σ → Int → Tm × σ) (t : Tm) (s : σ) (h : t.k = 2) : t.cop f s = (.node 2 [] t.i [], s) := by
  cases t with
  | node k nm i args => change k = 2 at h; rw [Tm.cop, if_neg (by omega), if_pos h]; rfl
theorem cop_3 {σ : Type} (f : σ → Int → Tm × σ) (t : Tm) (s : σ) (h : t.k = 3) : t.cop f s = (.node 3 t.nm 0 [], s) := by
  cases t with
  | node k nm i args => change k = 3 at h; rw [Tm.cop, if_neg (by omega), if_neg (by omega), if_pos h]; rfl
theorem cop_4 {σ : Type} (f : σ → Int → Tm × σ) (t : Tm) (s : σ) (h : t.k = 4) : t.cop f s = (.node 4 t.nm 0 (copL f t.args s).1, (copL f t.args s).2) := by
  cases t with
  | node k nm i args => change k = 4 at h; rw [Tm.cop, if_neg (by omega), if_neg (by omega), if_neg (by omega)]; rfl
theorem tree_1 {t : Tm} (h : t.k = 1) : t.tree = .v t.i := by rw [t.tree_eq, if_pos h]
theorem tree_2 {t : Tm} (h : t.k = 2) : t.tree = .n t.i := by rw [t.tree_eq, if_neg (by omega), if_pos h]
theorem tree_3 {t : Tm} (h : t.k = 3) : t.tree = .a t.nm := by rw [t.tree_eq, if_neg (by omega), if_neg (by omega), if_pos h]
theorem tree_4 {t : Tm} (h : t.k = 4) : t.tree = .c t.nm (t.args.map Tm.tree) := by rw [t.tree_eq, if_neg (by omega), if_neg (by omega), if_neg (by omega)]
theorem Tm.byKind {P : Tm → Prop} (h1 : ∀ t, t.k = 1 → t.ok = true → P t) (h2 : ∀ t, t.k = 2 → t.ok = true → P t) (h3 : ∀ t, t.k = 3 → t.ok = true → P t)
    (h4 : ∀ t, t.k = 4 → t.ok = true → 1 ≤ t.args.length → t.args.length ≤ 8 → t.nm.length ≤ 64 → (∀ x ∈ t.args, x.ok = true) → (∀ x ∈ t.args, P x) → P t) : ∀ t : Tm, t.ok = true → P t := by
  intro t
  induction t using Tm.ind with
  | h k nm i args ih =>
    intro hok
    rcases Tm.ok_kind hok with h | h | h | h
    · exact h1 _ h hok
    · exact h2 _ h hok
    · exact h3 _ h hok
    · obtain ⟨a, b, c, d⟩ := Tm.ok_args hok h
      exact h4 _ h hok a b d c fun x hx => ih x hx (c x hx)
def fAnew : Unit → Int → Tm × Unit := fun _ x => (.node 1 [] x [], ())
def idx : List Int → Int → Nat
  | [], _ => 0
  | y :: l, x => if y = x then 0 else idx l x + 1
theorem idx_mem {x : Int} : ∀ {l : List Int}, x ∈ l → idx l x < l.length ∧ ∀ k, idx (l ++ k) x = idx l x := by
  intro l
  induction l with
  | nil => intro h; cases h
  | cons y l ih =>
    intro h
    simp only [idx, List.cons_append, List.length_cons]
    by_cases e : y = x
    · simp [e]
    · have hm : x ∈ l := by rcases List.mem_cons.1 h with h | h; exact absurd h.symm e; exact h
      obtain ⟨a, b⟩ := ih hm
      simp only [if_neg e]
      exact ⟨by omega, fun k => by rw [b k]⟩
theorem idx_new {x : Int} : ∀ {l : List Int}, x ∉ l → idx (l ++ [x]) x = l.length := by
  intro l
  induction l with
  | nil => intro _; simp [idx]
  | cons y l ih =>
    intro h
    simp only [List.mem_cons, not_or] at h
    simp only [idx, List.cons_append, List.length_cons, if_neg (Ne.symm h.1)]
    rw [ih h.2]
def fRen (m : Int) : List Int → Int → Tm × List Int := fun l x => if x ∈ l then (.node 1 [] (m + idx l x) [], l) else (.node 1 [] (m + l.length) [], l ++ [x])
def renB (m : Int) (l : List Int) (x : Int) : T := .v (m + idx l x)
theorem renB_more {m : Int} {l k : List Int} {x : Int} (h : x ∈ l) : renB m (l ++ k) x = renB m l x := by
  unfold renB; rw [(idx_mem h).2]
theorem cop_ren (m : Int) : ∀ t : Tm, t.ok = true → ∀ l, t.cop (fRen m) l = ((t.tree.sub (renB m (t.tree.acc l))).tm, t.tree.acc l) := by
  refine Tm.byKind (fun t h _ l => ?_) (fun t h _ l => ?_) (fun t h _ l => ?_) (fun t h _ _ _ _ _ ih l => ?_)
  · rw [cop_1 _ _ _ h, tree_1 h, T.acc_v, T.sub_v]
    unfold fRen
    split
    · rfl
    · rename_i hx; unfold renB; rw [idx_new hx, T.tm]
  · rw [cop_2 _ _ _ h, tree_2 h, T.acc_n, T.sub_n, T.tm]
  · rw [cop_3 _ _ _ h, tree_3 h, T.acc_a, T.sub_a, T.tm]
  · rw [cop_4 _ _ _ h, tree_4 h, T.acc_c, T.sub_c, T.tm_c]
    have go : ∀ ts : List Tm, (∀ x ∈ ts, ∀ l, x.cop (fRen m) l = ((x.tree.sub (renB m (x.tree.acc l))).tm, x.tree.acc l)) → ∀ l, copL (fRen m) ts l = (((ts.map Tm.tree).map (T.sub (renB m (accL (ts.map Tm.tree) l)))).map T.tm, accL (ts.map Tm.tree) l) := by
      intro ts
      induction ts with
      | nil => intro _ l; rw [copL_nil, List.map_nil, accL_nil]; rfl
      | cons x ts ih =>
        intro h l
        rw [copL_cons, h x List.mem_cons_self, ih (fun y hy => h y (List.mem_cons_of_mem _ hy))]
        rw [List.map_cons, accL_cons, List.map_cons, List.map_cons]
        congr 2
        dsimp only
        congr 1
        refine T.sub_same fun y hy => ?_
        have a := acc_is x.tree l
        have hm : y ∈ x.tree.acc l := (a.mem y).2 (.inr hy)
        have b : ∀ (us : List T) (k : List Int), ∃ q, accL us k = k ++ q := by
          intro us
          induction us with
          | nil => intro k; exact ⟨[], by rw [accL_nil]; simp⟩
          | cons u us ih => intro k; obtain ⟨q1, h1⟩ := (acc_is u k).pre; obtain ⟨q2, h2⟩ := ih (u.acc k); exact ⟨q1 ++ q2, by rw [accL_cons, h2, h1, List.append_assoc]⟩
        obtain ⟨q, hq⟩ := b (ts.map Tm.tree) (x.tree.acc l)
        rw [hq, renB_more hm]
    rw [go _ ih l]
end Go.Proofs.YtnfcbalppecnfaaGreat
namespace Go.Proofs.YtnfcbalppecnfaaGreat
set_option linter.unusedVariables false
theorem nsT_sub {f : Int → T} {ts : List T} (h : ∀ t ∈ ts, (t.sub f).ns = t.ns) : nsT (ts.map (T.sub f)) = nsT ts := by
  induction ts with
  | nil => rfl
  | cons t ts ih => rw [List.map_cons, nsT_cons, nsT_cons, h t List.mem_cons_self, ih (fun x hx => h x (List.mem_cons_of_mem _ hx))]
theorem ndT_sub {f : Int → T} {ts : List T} (h : ∀ t ∈ ts, (t.sub f).nd = t.nd) : ndT (ts.map (T.sub f)) = ndT ts := by
  induction ts with
  | nil => rfl
  | cons t ts ih => rw [List.map_cons, ndT_cons, ndT_cons, h t List.mem_cons_self, ih (fun x hx => h x (List.mem_cons_of_mem _ hx))]
def vr (f : Int → Int) : Int → T := fun x => .v (f x)
theorem T.vr_size (f : Int → Int) : ∀ t : T, (t.sub (vr f)).ns = t.ns ∧ (t.sub (vr f)).nd = t.nd := by
  intro t
  induction t using T.ind with
  | hv x => rw [T.sub_v]; simp [vr, T.ns, T.nd]
  | hn i => rw [T.sub_n]; exact ⟨rfl, rfl⟩
  | ha nm => rw [T.sub_a]; exact ⟨rfl, rfl⟩
  | hc nm args ih => rw [T.sub_c, T.ns_c, T.ns_c, T.nd_c, T.nd_c, nsT_sub (fun t ht => (ih t ht).1), ndT_sub (fun t ht => (ih t ht).2)]; exact ⟨rfl, rfl⟩
theorem T.sub_ok {f : Int → T} {t : T} : t.ok = true → (∀ x, t.has x → (f x).ok = true) → (t.sub f).ok = true := by
  induction t using T.ind with
  | hv x => intro _ h; rw [T.sub_v]; exact h x (.v x)
  | hn i => intro h _; rw [T.sub_n]; exact h
  | ha nm => intro h _; rw [T.sub_a]; exact h
  | hc nm args ih =>
    intro h hf
    rw [T.ok_c] at h
    rw [T.sub_c, T.ok_c, List.length_map]
    simp only [Bool.and_eq_true, decide_eq_true_eq] at h ⊢
    refine ⟨⟨h.1.1, okT_all.2 fun x hx => ?_⟩, h.2⟩
    obtain ⟨t, ht, rfl⟩ := List.mem_map.1 hx
    exact ih t ht (okT_all.1 h.1.2 t ht) fun x hx => hf x (.c ht hx)
theorem mem_map_inj {f : Int → Int} {l : List Int} {x : Int} (h : ∀ y ∈ l, f y = f x → y = x) : f x ∈ l.map f ↔ x ∈ l := by
  constructor
  · intro hm
    obtain ⟨y, hy, e⟩ := List.mem_map.1 hm
    rwa [← h y hy e]
  · exact fun hm => List.mem_map_of_mem hm
theorem acc_vr {f : Int → Int} : ∀ (t : T) (l : List Int), (∀ x y, (x ∈ l ∨ t.has x) → (y ∈ l ∨ t.has y) → f x = f y → x = y) → (t.sub (vr f)).acc (l.map f) = (t.acc l).map f := by
  intro t
  induction t using T.ind with
  | hv x =>
    intro l h
    rw [T.sub_v, T.acc_v]
    show (T.v (f x)).acc (l.map f) = _
    rw [T.acc_v]
    have e : f x ∈ l.map f ↔ x ∈ l := mem_map_inj fun y hy => h y x (.inl hy) (.inr (.v x))
    by_cases hx : x ∈ l
    · rw [if_pos (e.2 hx), if_pos hx]
    · rw [if_neg (fun h => hx (e.1 h)), if_neg hx]; simp
  | hn i => intro l _; rw [T.sub_n, T.acc_n, T.acc_n]
  | ha nm => intro l _; rw [T.sub_a, T.acc_a, T.acc_a]
  | hc nm args ih =>
    intro l h
    rw [T.sub_c, T.acc_c, T.acc_c]
    have go : ∀ (ts : List T), (∀ x ∈ ts, x ∈ args) → ∀ l : List Int, (∀ x y, (x ∈ l ∨ (T.c nm args).has x) → (y ∈ l ∨ (T.c nm args).has y) → f x = f y → x = y) → accL (ts.map (T.sub (vr f))) (l.map f) = (accL ts l).map f := by
      intro ts
      induction ts with
      | nil => intro _ l _; rw [accL_nil, List.map_nil, accL_nil]
      | cons t ts ih2 =>
        intro hs l h
        have ht := hs t List.mem_cons_self
        rw [List.map_cons, accL_cons, accL_cons, ih t ht l (fun x y hx hy => h x y (hx.imp id fun hx => .c ht hx) (hy.imp id fun hy => .c ht hy))]
        refine ih2 (fun x hx => hs x (List.mem_cons_of_mem _ hx)) _ fun x y hx hy => h x y ?_ ?_
        · rcases hx with hx | hx
          · rcases ((acc_is t l).mem x).1 hx with hx | hx
            · exact .inl hx
            · exact .inr (.c ht hx)
          · exact .inr hx
        · rcases hy with hy | hy
          · rcases ((acc_is t l).mem y).1 hy with hy | hy
            · exact .inl hy
            · exact .inr (.c ht hy)
          · exact .inr hy
    exact go args (fun x hx => hx) l h
def T.ren (m : Int) (t : T) : T := t.sub (renB m t.vars)
theorem idx_inj {l : List Int} {x y : Int} (hx : x ∈ l) : ∀ (_ : y ∈ l), idx l x = idx l y → x = y := by
  induction l with
  | nil => cases hx
  | cons z l ih =>
    intro hy h
    unfold idx at h
    by_cases e1 : z = x
    · by_cases e2 : z = y
      · rw [← e1, e2]
      · rw [if_pos e1, if_neg e2] at h; omega
    · by_cases e2 : z = y
      · rw [if_neg e1, if_pos e2] at h; omega
      · rw [if_neg e1, if_neg e2] at h
        have hx' : x ∈ l := by rcases List.mem_cons.1 hx with h | h; exact absurd h.symm e1; exact h
        have hy' : y ∈ l := by rcases List.mem_cons.1 hy with h | h; exact absurd h.symm e2; exact h
        exact ih hx' hy' (by omega)
theorem idx_map {f : Int → Int} {l : List Int} {x : Int} (h : ∀ y ∈ l, f y = f x → y = x) : idx (l.map f) (f x) = idx l x := by
  induction l with
  | nil => rfl
  | cons z l ih =>
    rw [List.map_cons]
    unfold idx
    by_cases e : z = x
    · rw [if_pos e, if_pos (by rw [e])]
    · rw [if_neg e, if_neg (fun h' => e (h z List.mem_cons_self h')), ih (fun y hy => h y (List.mem_cons_of_mem _ hy))]
theorem ren_inj {m : Int} {t : T} : ∀ x y, (x ∈ ([] : List Int) ∨ t.has x) → (y ∈ ([] : List Int) ∨ t.has y) → m + (idx t.vars x : Int) = m + (idx t.vars y : Int) → x = y := by
  intro x y hx hy h
  have hx : t.has x := by rcases hx with h | h; cases h; exact h
  have hy : t.has y := by rcases hy with h | h; cases h; exact h
  exact idx_inj ((t.mem_vars x).2 hx) ((t.mem_vars y).2 hy) (by omega)
theorem T.vars_ren (m : Int) (t : T) : (t.ren m).vars = t.vars.map (fun x => m + (idx t.vars x : Int)) := acc_vr (f := fun x => m + (idx t.vars x : Int)) t [] ren_inj
theorem map_idx (m : Int) : ∀ (l : List Int), l.Nodup → ∀ i (h : i < l.length), m + (idx l l[i] : Int) = m + i := by
  intro l
  induction l with
  | nil => intro _ i h; simp at h
  | cons z l ih =>
    intro hnd i h
    rw [List.nodup_cons] at hnd
    cases i with
    | zero => simp [idx]
    | succ i =>
      have hi : i < l.length := by simpa using h
      have hne : ¬ z = l[i] := fun e => hnd.1 (e ▸ List.getElem_mem hi)
      have := ih hnd.2 i hi
      simp only [List.getElem_cons_succ]
      unfold idx
      rw [if_neg hne]
      omega
theorem T.vars_ren_at (m : Int) (t : T) (i : Nat) (h : i < (t.ren m).vars.length) : (t.ren m).vars[i] = m + i := by
  have hl : i < t.vars.length := by rw [T.vars_ren, List.length_map] at h; exact h
  have : (t.ren m).vars[i] = m + (idx t.vars t.vars[i] : Int) := by
    simp only [T.vars_ren, List.getElem_map]
  rw [this, map_idx m _ t.vars_nodup i hl]
theorem T.ren_ren (m k : Int) (t : T) : (t.ren m).ren k = t.ren k := by
  unfold T.ren
  rw [T.sub_sub]
  refine T.sub_same fun x hx => ?_
  show (T.v (m + (idx t.vars x : Int))).sub _ = _
  rw [T.sub_v]
  show T.v _ = T.v _
  congr 2
  have := T.vars_ren m t
  unfold T.ren at this
  rw [this]
  rw [idx_map (f := fun x => m + (idx t.vars x : Int)) fun y hy => ren_inj y x (.inr ((t.mem_vars y).1 hy)) (.inr hx)]
end Go.Proofs.YtnfcbalppecnfaaGreat
namespace Go.Proofs.YtnfcbalppecnfaaGreat
set_option linter.unusedVariables false
def Uni (A B : T) (f : Int → T) : Prop := A.sub f = B.sub f
structure IsSol (A B : T) (f : Int → T) : Prop where
  uni : Uni A B f
  gen : ∀ g, Uni A B g → ∀ x, (f x).sub g = g x
  idem : ∀ x y, (f x).has y → f y = .v y
  none : ∀ x, ¬ A.has x → ¬ B.has x → f x = .v x
  least : ∀ x y, f x = .v y → y ≤ x
theorem sub_v_inv {t : T} {f : Int → T} {y : Int} (h : t.sub f = .v y) : ∃ x, t = .v x ∧ f x = .v y := by
  cases t with
  | v x => rw [T.sub_v] at h; exact ⟨x, rfl, h⟩
  | n x => rw [T.sub_n] at h; cases h
  | a x => rw [T.sub_a] at h; cases h
  | c nm args => rw [T.sub_c] at h; cases h
theorem IsSol.one {A B : T} {f g : Int → T} (hf : IsSol A B f) (hg : IsSol A B g) : f = g := by
  have hfg : ∀ x, (f x).sub g = g x := hf.gen g hg.uni
  have hgf : ∀ x, (g x).sub f = f x := hg.gen f hf.uni
  -- of the variables that f leaves, g makes variables, the same
  have key : ∀ y, f y = .v y → g y = .v y := by
    intro y hy
    have h1 := hgf y
    rw [hy] at h1
    obtain ⟨z, hz, hzy⟩ := sub_v_inv h1
    -- g y = v z, f z = v y
    have h2 := hg.least y z hz
    have h3 := hf.least z y hzy
    have : z = y := by omega
    rw [hz, this]
  funext x
  rw [← hfg x]
  have : (f x).sub g = (f x).sub .v := T.sub_same fun y hy => key y (hf.idem x y hy)
  rw [this, T.sub_id]
end Go.Proofs.YtnfcbalppecnfaaGreat
namespace Go.Proofs.YtnfcbalppecnfaaGreat
set_option linter.unusedVariables false
structure Nd where
  k : Int
  nm : List UInt8
  i : Int
  args : List Nat
deriving Inhabited
def Nd.tree (D : Nat → T) (p : Nd) : T := if p.k = 1 then .v p.i else if p.k = 2 then .n p.i else if p.k = 3 then .a p.nm else .c p.nm (p.args.map D)
structure Gr (G : List Nd) (D : Nat → T) : Prop where
  is : ∀ (a : Nat) (p : Nd), G[a]? = some p → D a = p.tree D
  lt : ∀ (a : Nat) (p : Nd), G[a]? = some p → ∀ j ∈ p.args, j < a
  kind : ∀ (a : Nat) (p : Nd), G[a]? = some p → p.k = 1 ∨ p.k = 2 ∨ p.k = 3 ∨ p.k = 4
  flat : ∀ (a : Nat) (p : Nd), G[a]? = some p → p.k ≠ 4 → p.args = []
  one : ∀ (a b : Nat) (p q : Nd), G[a]? = some p → G[b]? = some q → p.k = 1 → q.k = 1 → p.i = q.i → a = b
def stands (p q : Nd) : Bool :=
  if q.k = 1 then (decide (p.k ≠ 1) || decide (p.i < q.i)) else if p.k ≠ q.k then false else if p.k = 2 then decide (p.i = q.i) else (decide (p.nm = q.nm) && decide (p.args.length = q.args.length))
def Hd (p q : Nd) : Prop := p.k = q.k ∧ (p.k = 2 → p.i = q.i) ∧ (p.k ≠ 2 → p.nm = q.nm ∧ p.args.length = q.args.length)
theorem Hd.trans {p q r : Nd} (h : Hd p q) (k : Hd q r) : Hd p r :=
  ⟨h.1.trans k.1, fun e => (h.2.1 e).trans (k.2.1 (h.1 ▸ e)), fun e => ⟨(h.2.2 e).1.trans (k.2.2 (fun e' => e (h.1.trans e'))).1, (h.2.2 e).2.trans (k.2.2 (fun e' => e (h.1.trans e'))).2⟩⟩
theorem Hd.symm {p q : Nd} (h : Hd p q) : Hd q p := ⟨h.1.symm, fun e => (h.2.1 (h.1.trans e)).symm, fun e => ⟨(h.2.2 (fun e' => e (h.1.symm.trans e'))).1.symm, (h.2.2 (fun e' => e (h.1.symm.trans e'))).2.symm⟩⟩
theorem stands_hd {p q : Nd} (h : stands p q = true) (hq : q.k ≠ 1) : Hd p q := by
  unfold stands at h
  rw [if_neg hq] at h
  split at h
  · cases h
  rename_i e
  have e : p.k = q.k := by omega
  split at h
  · rename_i e2; exact ⟨e, fun _ => by simpa using h, fun h2 => absurd e2 h2⟩
  · rename_i e2; simp at h; exact ⟨e, fun h2 => absurd h2 e2, fun _ => h⟩
theorem stands_clash {G : List Nd} {D : Nat → T} (hG : Gr G D) {a b : Nat} {p q : Nd} (ha : G[a]? = some p) (hb : G[b]? = some q) (hab : a ≠ b) (h1 : stands p q = false) (h2 : stands q p = false) (f : Int → T) : (D a).sub f ≠ (D b).sub f := by
  rw [hG.is a p ha, hG.is b q hb]
  unfold stands at h1 h2
  have kp := hG.kind a p ha
  have kq := hG.kind b q hb
  by_cases ep : p.k = 1
  · by_cases eq : q.k = 1
    · exfalso
      rw [if_pos eq] at h1
      rw [if_pos ep] at h2
      simp [ep, eq] at h1 h2
      exact hab (hG.one a b p q ha hb ep eq (by omega))
    · rw [if_pos ep] at h2; simp [eq] at h2
  · by_cases eq : q.k = 1
    · rw [if_pos eq] at h1; simp [ep] at h1
    · rw [if_neg eq] at h1
      unfold Nd.tree
      rw [if_neg ep, if_neg eq]
      by_cases e : p.k = q.k
      · rw [if_neg (by omega)] at h1
        rw [← e]
        by_cases e2 : p.k = 2
        · rw [if_pos e2] at h1 ⊢; rw [if_pos e2, T.sub_n, T.sub_n]; simp at h1; intro h; injection h with h; exact h1 h
        · rw [if_neg e2] at h1 ⊢
          rw [if_neg e2]
          by_cases e3 : p.k = 3
          · rw [if_pos e3, if_pos e3, T.sub_a, T.sub_a]
            rw [hG.flat a p ha (by omega), hG.flat b q hb (by omega)] at h1
            simp at h1
            intro h; injection h with h; exact h1 h
          · rw [if_neg e3, if_neg e3, T.sub_c, T.sub_c]
            intro h
            injection h with hn hl
            have := congrArg List.length hl
            simp at this
            simp [hn, this] at h1
      · rcases kp with k | k | k | k <;> rcases kq with l | l | l | l <;> first | (exfalso; omega) | (simp [k, l, T.sub_n, T.sub_a, T.sub_c])
structure Cl (G : List Nd) (R : Nat → Nat) : Prop where
  lt : ∀ a, a < G.length → R a < G.length
  idem : ∀ a, a < G.length → R (R a) = R a
  pref : ∀ (a : Nat) (p r : Nd), G[a]? = some p → G[R a]? = some r → r.k = 1 → p.k = 1 ∧ r.i ≤ p.i
def Link (n : Nat) (R : Nat → Nat) (todo : List (Nat × Nat)) (p q : Nat) : Prop := ∀ f : Nat → Nat, (∀ x, x < n → f x = f (R x)) → (∀ t ∈ todo, f t.1 = f t.2) → f p = f q
structure UInv (G : List Nd) (D : Nat → T) (A B : Nat) (R : Nat → Nat) (todo : List (Nat × Nat)) : Prop where
  cl : Cl G R
  in_ : ∀ t ∈ todo, t.1 < G.length ∧ t.2 < G.length
  con : ∀ (a : Nat) (p r : Nd), G[a]? = some p → G[R a]? = some r → p.k ≠ 1 → Hd p r ∧ ∀ (j x y : Nat), p.args[j]? = some x → r.args[j]? = some y → Link G.length R todo x y
  top : Link G.length R todo A B
  uni : ∀ f, Uni (D A) (D B) f → (∀ a, a < G.length → (D a).sub f = (D (R a)).sub f) ∧ ∀ t ∈ todo, (D t.1).sub f = (D t.2).sub f
section
variable {G : List Nd} {D : Nat → T} {A B : Nat} {R : Nat → Nat} {todo : List (Nat × Nat)} {a b : Nat}
theorem get_lt {α : Type} {l : List α} {i : Nat} {x : α} (h : l[i]? = some x) : i < l.length := (List.getElem?_eq_some_iff.1 h).1
theorem UInv.start (hG : Gr G D) (hA : A < G.length) (hB : B < G.length) : UInv G D A B id [(A, B)] where
  cl := ⟨fun a h => h, fun a h => rfl, fun a p r h1 h2 hr => by simp only [id] at h2; rw [h1] at h2; cases h2; exact ⟨hr, Int.le_refl _⟩⟩
  in_ t ht := by simp at ht; subst ht; exact ⟨hA, hB⟩
  con a p r h1 h2 hk := by
    simp only [id] at h2; rw [h1] at h2; cases h2
    exact ⟨⟨rfl, fun _ => rfl, fun _ => ⟨rfl, rfl⟩⟩, fun j x y hx hy f _ _ => by rw [hx] at hy; cases hy; rfl⟩
  top f _ h := h (A, B) (by simp)
  uni f h := ⟨fun a _ => rfl, fun t ht => by simp at ht; subst ht; exact h⟩
theorem UInv.skip (h : UInv G D A B R (todo ++ [(a, b)])) (e : R a = R b) : UInv G D A B R todo := by
  obtain ⟨ha, hb⟩ := h.in_ (a, b) (by simp)
  have up : ∀ p q, Link G.length R (todo ++ [(a, b)]) p q → Link G.length R todo p q := fun p q hl f h1 h2 => hl f h1 fun t ht => by
    rcases List.mem_append.1 ht with ht | ht
    · exact h2 t ht
    · simp at ht; subst ht; rw [h1 a ha, h1 b hb, e]
  exact ⟨h.cl, fun t ht => h.in_ t (by simp [ht]), fun x p r h1 h2 hk => ⟨(h.con x p r h1 h2 hk).1, fun j y z hy hz => up _ _ ((h.con x p r h1 h2 hk).2 j y z hy hz)⟩, up _ _ h.top, fun f hf => ⟨(h.uni f hf).1, fun t ht => (h.uni f hf).2 t (by simp [ht])⟩⟩
def joinR (R : Nat → Nat) (c b : Nat) : Nat → Nat := fun x => if R x = b then c else R x
theorem UInv.clash (hG : Gr G D) (h : UInv G D A B R (todo ++ [(a, b)])) {p q : Nd} (hp : G[R a]? = some p) (hq : G[R b]? = some q) (e : R a ≠ R b) (h1 : stands p q = false) (h2 : stands q p = false) : ∀ f, ¬ Uni (D A) (D B) f := by
  intro f hf
  obtain ⟨ha, hb⟩ := h.in_ (a, b) (by simp)
  obtain ⟨u1, u2⟩ := h.uni f hf
  have := u2 (a, b) (by simp)
  rw [u1 a ha, u1 b hb] at this
  exact stands_clash hG hp hq e h1 h2 f this
theorem sub_args {x y : T} {f : Int → T} {nm nm' : List UInt8} {as_ bs : List T} (hx : x = .c nm as_) (hy : y = .c nm' bs) (h : x.sub f = y.sub f) : as_.map (T.sub f) = bs.map (T.sub f) := by
  rw [hx, hy, T.sub_c, T.sub_c] at h
  injection h
theorem UInv.join (hG : Gr G D) (h : UInv G D A B R (todo ++ [(a, b)])) {p q : Nd} {c d : Nat} (hcd : (c = R a ∧ d = R b) ∨ (c = R b ∧ d = R a)) (hp : G[c]? = some p) (hq : G[d]? = some q) (e : c ≠ d) (hs : stands p q = true) :
    UInv G D A B (joinR R c d) (todo ++ List.zip p.args q.args) := by
  obtain ⟨ha, hb⟩ := h.in_ (a, b) (by simp)
  have hc : c < G.length := get_lt hp
  have hd : d < G.length := get_lt hq
  have rc : R c = c := by rcases hcd with ⟨rfl, rfl⟩ | ⟨rfl, rfl⟩; exact h.cl.idem a ha; exact h.cl.idem b hb
  have rd : R d = d := by rcases hcd with ⟨rfl, rfl⟩ | ⟨rfl, rfl⟩; exact h.cl.idem b hb; exact h.cl.idem a ha
  have jc : joinR R c d c = c := by unfold joinR; rw [rc, if_neg e]
  have jd : joinR R c d d = c := by unfold joinR; rw [rd, if_pos rfl]
  have jR : ∀ x, x < G.length → joinR R c d (R x) = joinR R c d x := fun x hx => by unfold joinR; rw [h.cl.idem x hx]
  -- what is linked stays so
  have up : ∀ x y, Link G.length R (todo ++ [(a, b)]) x y → Link G.length (joinR R c d) (todo ++ List.zip p.args q.args) x y := fun x y hl f h1 h2 => by
    have hR : ∀ x, x < G.length → f x = f (R x) := fun x hx => by rw [h1 x hx, h1 (R x) (h.cl.lt x hx), jR x hx]
    refine hl f hR fun t ht => ?_
    rcases List.mem_append.1 ht with ht | ht
    · exact h2 t (List.mem_append_left _ ht)
    · simp at ht; subst ht
      rw [hR a ha, hR b hb]
      have hfc : f c = f d := by rw [h1 d hd, jd]
      rcases hcd with ⟨rfl, rfl⟩ | ⟨rfl, rfl⟩
      · exact hfc
      · exact hfc.symm
  have hqk : q.k = 1 ∨ q.k ≠ 1 := by omega
  have kq := hG.kind d q hq
  refine ⟨⟨fun x hx => ?_, fun x hx => ?_, fun x r s h1 h2 hk => ?_⟩, fun t ht => ?_, fun x r s h1 h2 hk => ?_, up _ _ h.top, fun f hf => ?_⟩
  · unfold joinR; split
    · exact hc
    · exact h.cl.lt x hx
  · by_cases hx' : R x = d
    · rw [show joinR R c d x = c by unfold joinR; rw [if_pos hx'], jc]
    · rw [show joinR R c d x = R x by unfold joinR; rw [if_neg hx'], jR x hx]
      unfold joinR; rw [if_neg hx']
  · by_cases hx' : R x = d
    · rw [show joinR R c d x = c by unfold joinR; rw [if_pos hx'], hp] at h2
      cases h2
      -- p is a variable that stands for q: then q is one, too
      have hq1 : q.k = 1 := by
        rcases hqk with h | hn
        · exact h
        · have := (stands_hd hs hn).1; omega
      obtain ⟨k1, k2⟩ := h.cl.pref x r q h1 (by rw [hx']; exact hq) hq1
      unfold stands at hs
      rw [if_pos hq1] at hs
      simp [hk] at hs
      exact ⟨k1, by omega⟩
    · rw [show joinR R c d x = R x by unfold joinR; rw [if_neg hx']] at h2
      exact h.cl.pref x r s h1 h2 hk
  · rcases List.mem_append.1 ht with ht | ht
    · exact h.in_ t (by simp [ht])
    · obtain ⟨m1, m2⟩ := List.of_mem_zip (show (t.1, t.2) ∈ List.zip p.args q.args from ht)
      exact ⟨Nat.lt_trans (hG.lt c p hp _ m1) hc, Nat.lt_trans (hG.lt d q hq _ m2) hd⟩
  · by_cases hx' : R x = d
    · rw [show joinR R c d x = c by unfold joinR; rw [if_pos hx'], hp] at h2
      cases h2
      obtain ⟨hh, hl⟩ := h.con x r q h1 (by rw [hx']; exact hq) hk
      have hqn : q.k ≠ 1 := by rw [← hh.1]; exact hk
      have hpq := stands_hd hs hqn
      refine ⟨hh.trans hpq.symm, fun j y z hy hz => ?_⟩
      have hjl : j < q.args.length := by
        have e1 := get_lt hy
        by_cases e2 : r.k = 2
        · rw [hG.flat x r h1 (by omega)] at e1; cases e1
        · rw [← (hh.2.2 e2).2]; exact e1
      have hw := List.getElem?_eq_getElem hjl
      have l1 := up _ _ (hl j y _ hy hw)
      intro f f1 f2
      rw [l1 f f1 f2]
      exact (f2 (z, q.args[j]) (List.mem_append_right _ (by
        refine List.mem_iff_getElem?.2 ⟨j, ?_⟩
        rw [List.getElem?_zip_eq_some]
        exact ⟨hz, hw⟩))).symm
    · rw [show joinR R c d x = R x by unfold joinR; rw [if_neg hx']] at h2
      obtain ⟨hh, hl⟩ := h.con x r s h1 h2 hk
      exact ⟨hh, fun j y z hy hz => up _ _ (hl j y z hy hz)⟩
  · obtain ⟨u1, u2⟩ := h.uni f hf
    have u3 := u2 (a, b) (by simp)
    rw [u1 a ha, u1 b hb] at u3
    have hcd' : (D c).sub f = (D d).sub f := by
      rcases hcd with ⟨rfl, rfl⟩ | ⟨rfl, rfl⟩
      · exact u3
      · exact u3.symm
    refine ⟨fun x hx => ?_, fun t ht => ?_⟩
    · by_cases hx' : R x = d
      · rw [show joinR R c d x = c by unfold joinR; rw [if_pos hx'], hcd', u1 x hx, hx']
      · rw [show joinR R c d x = R x by unfold joinR; rw [if_neg hx'], u1 x hx]
    · rcases List.mem_append.1 ht with ht | ht
      · exact u2 t (by simp [ht])
      · obtain ⟨j, hj⟩ := List.mem_iff_getElem?.1 ht
        rw [List.getElem?_zip_eq_some] at hj
        obtain ⟨j1, j2⟩ := hj
        have p4 : p.k = 4 := by
          by_cases e4 : p.k = 4
          · exact e4
          · rw [hG.flat c p hp e4] at j1; simp at j1
        have q4 : q.k = 4 := by
          by_cases e4 : q.k = 4
          · exact e4
          · rw [hG.flat d q hq e4] at j2; simp at j2
        have tp : D c = .c p.nm (p.args.map D) := by rw [hG.is c p hp]; unfold Nd.tree; rw [if_neg (by omega), if_neg (by omega), if_neg (by omega)]
        have tq : D d = .c q.nm (q.args.map D) := by rw [hG.is d q hq]; unfold Nd.tree; rw [if_neg (by omega), if_neg (by omega), if_neg (by omega)]
        have hm := congrArg (fun l : List T => l[j]?) (sub_args tp tq hcd')
        simpa [j1, j2] using hm
end
end Go.Proofs.YtnfcbalppecnfaaGreat
namespace Go.Proofs.YtnfcbalppecnfaaGreat
set_option linter.unusedVariables false
inductive Val (G : List Nd) (R : Nat → Nat) : Nat → T → Prop
  | v {a : Nat} {r : Nd} (h : G[R a]? = some r) (k : r.k = 1) : Val G R a (.v r.i)
  | n {a : Nat} {r : Nd} (h : G[R a]? = some r) (k : r.k = 2) : Val G R a (.n r.i)
  | a {a : Nat} {r : Nd} (h : G[R a]? = some r) (k : r.k = 3) : Val G R a (.a r.nm)
  | c {a : Nat} {r : Nd} {vs : List T} (h : G[R a]? = some r) (k : r.k = 4) (hl : vs.length = r.args.length) (hs : ∀ (j x : Nat) (t : T), r.args[j]? = some x → vs[j]? = some t → Val G R x t) : Val G R a (.c r.nm vs)
section
variable {G : List Nd} {D : Nat → T} {A B : Nat} {R : Nat → Nat} {a b : Nat} {t u : T}
theorem Val.class (h : Val G R a t) (e : R b = R a) : Val G R b t := by
  cases h with
  | v h k => exact .v (by rw [e]; exact h) k
  | n h k => exact .n (by rw [e]; exact h) k
  | a h k => exact .a (by rw [e]; exact h) k
  | c h k hl hs => exact .c (by rw [e]; exact h) k hl hs
theorem Val.det (h : Val G R a t) : ∀ {u}, Val G R a u → t = u := by
  induction h with
  | v h k => intro u h'; cases h' with
    | v h1 k1 => rw [h] at h1; cases h1; rfl
    | n h1 k1 => rw [h] at h1; cases h1; omega
    | a h1 k1 => rw [h] at h1; cases h1; omega
    | c h1 k1 hl hs => rw [h] at h1; cases h1; omega
  | n h k => intro u h'; cases h' with
    | v h1 k1 => rw [h] at h1; cases h1; omega
    | n h1 k1 => rw [h] at h1; cases h1; rfl
    | a h1 k1 => rw [h] at h1; cases h1; omega
    | c h1 k1 hl hs => rw [h] at h1; cases h1; omega
  | a h k => intro u h'; cases h' with
    | v h1 k1 => rw [h] at h1; cases h1; omega
    | n h1 k1 => rw [h] at h1; cases h1; omega
    | a h1 k1 => rw [h] at h1; cases h1; rfl
    | c h1 k1 hl hs => rw [h] at h1; cases h1; omega
  | c h k hl hs ih => intro u h'; cases h' with
    | v h1 k1 => rw [h] at h1; cases h1; omega
    | n h1 k1 => rw [h] at h1; cases h1; omega
    | a h1 k1 => rw [h] at h1; cases h1; omega
    | c h1 k1 hl1 hs1 =>
      rw [h] at h1; cases h1
      congr 1
      refine List.ext_getElem (by rw [hl, hl1]) fun j hj1 hj2 => ?_
      have hjr := hj1
      rw [hl] at hjr
      exact ih j _ _ (List.getElem?_eq_getElem hjr) (List.getElem?_eq_getElem hj1) (hs1 j _ _ (List.getElem?_eq_getElem hjr) (List.getElem?_eq_getElem hj2))
theorem Link.done {n : Nat} {p q : Nat} (h : Link n R [] p q) (hi : ∀ x, x < n → R (R x) = R x) : R p = R q := h R (fun x hx => (hi x hx).symm) (fun t ht => by cases ht)
theorem UInv.mates (h : UInv G D A B R []) {x : Nat} {p r : Nd} (hp : G[x]? = some p) (hr : G[R x]? = some r) (hk : p.k ≠ 1) : Hd p r ∧ ∀ (j y z : Nat), p.args[j]? = some y → r.args[j]? = some z → R y = R z :=
  ⟨(h.con x p r hp hr hk).1, fun j y z hy hz => ((h.con x p r hp hr hk).2 j y z hy hz).done h.cl.idem⟩
theorem Nd.tree_c {p : Nd} (D : Nat → T) (h : p.k = 4) : p.tree D = .c p.nm (p.args.map D) := by unfold Nd.tree; rw [if_neg (by omega), if_neg (by omega), if_neg (by omega)]
theorem Nd.tree_v {p : Nd} (D : Nat → T) (h : p.k = 1) : p.tree D = .v p.i := by unfold Nd.tree; rw [if_pos h]
theorem Nd.tree_n {p : Nd} (D : Nat → T) (h : p.k = 2) : p.tree D = .n p.i := by unfold Nd.tree; rw [if_neg (by omega), if_pos h]
theorem Nd.tree_a {p : Nd} (D : Nat → T) (h : p.k = 3) : p.tree D = .a p.nm := by unfold Nd.tree; rw [if_neg (by omega), if_neg (by omega), if_pos h]
theorem Val.of_args (hG : Gr G D) {r : Nd} (hr : G[R a]? = some r) (h : ∀ x ∈ r.args, ∃ t, Val G R x t) : ∃ t, Val G R a t := by
  rcases hG.kind _ r hr with k | k | k | k
  · exact ⟨_, .v hr k⟩
  · exact ⟨_, .n hr k⟩
  · exact ⟨_, .a hr k⟩
  · have : ∀ l : List Nat, (∀ x ∈ l, ∃ t, Val G R x t) → ∃ vs : List T, vs.length = l.length ∧ ∀ (j x : Nat) (t : T), l[j]? = some x → vs[j]? = some t → Val G R x t := by
      intro l
      induction l with
      | nil => intro _; exact ⟨[], rfl, fun j x t hx _ => by simp at hx⟩
      | cons x l ih =>
        intro h
        obtain ⟨t, ht⟩ := h x List.mem_cons_self
        obtain ⟨vs, hl, hv⟩ := ih (fun y hy => h y (List.mem_cons_of_mem _ hy))
        refine ⟨t :: vs, by simp [hl], fun j y u hy hu => ?_⟩
        cases j with
        | zero => simp at hy hu; subst hy hu; exact ht
        | succ j => simp at hy hu; exact hv j y u hy hu
    obtain ⟨vs, hl, hv⟩ := this r.args h
    exact ⟨_, .c hr k hl hv⟩
theorem Val.all (hG : Gr G D) (h : UInv G D A B R []) (hv : ∀ (a : Nat) (p : Nd), G[a]? = some p → p.k = 1 → ∃ t, Val G R a t) : ∀ a, a < G.length → ∃ t, Val G R a t := by
  intro a
  induction a using Nat.strongRecOn with
  | _ a ih =>
    intro ha
    have hp := List.getElem?_eq_getElem ha
    obtain ⟨r, hr⟩ : ∃ r, G[R a]? = some r := ⟨_, List.getElem?_eq_getElem (h.cl.lt a ha)⟩
    by_cases k1 : G[a].k = 1
    · exact hv a _ hp k1
    · obtain ⟨hh, hl⟩ := h.mates hp hr k1
      refine Val.of_args hG hr fun x hx => ?_
      obtain ⟨j, hj⟩ := List.mem_iff_getElem?.1 hx
      have hjl := get_lt hj
      have k2 : r.k ≠ 2 := fun e => by
        rw [hG.flat _ _ hr (by omega)] at hjl; cases hjl
      have hjp : j < G[a].args.length := by rw [(hh.2.2 (by rw [hh.1]; exact k2)).2]; exact hjl
      have hy := List.getElem?_eq_getElem hjp
      have hlt := hG.lt a _ hp _ (List.mem_of_getElem? hy)
      obtain ⟨t, ht⟩ := ih _ hlt (Nat.lt_trans hlt ha)
      exact ⟨t, ht.class (hl j _ _ hy hj).symm⟩
theorem nsT_mem : ∀ {ts : List T} {t : T}, t ∈ ts → t.ns ≤ nsT ts := by
  intro ts
  induction ts with
  | nil => intro t h; cases h
  | cons u ts ih =>
    intro t h
    rw [nsT_cons]
    rcases List.mem_cons.1 h with rfl | h
    · omega
    · have := ih h; omega
theorem Val.of_uni (hG : Gr G D) (h : UInv G D A B R []) {f : Int → T} (hf : Uni (D A) (D B) f) : ∀ a, a < G.length → ∃ t, Val G R a t := by
  have go : ∀ n a, a < G.length → ((D a).sub f).ns ≤ n → ∃ t, Val G R a t := by
    intro n
    induction n with
    | zero => intro a _ hn; have := ((D a).sub f).ns_pos; omega
    | succ n ih =>
      intro a ha hn
      obtain ⟨r, hr⟩ : ∃ r, G[R a]? = some r := ⟨_, List.getElem?_eq_getElem (h.cl.lt a ha)⟩
      refine Val.of_args hG hr fun x hx => ?_
      have k4 : r.k = 4 := by
        by_cases e : r.k = 4
        · exact e
        · rw [hG.flat _ _ hr e] at hx; cases hx
      refine ih x (Nat.lt_trans (hG.lt _ _ hr x hx) (h.cl.lt a ha)) ?_
      rw [(h.uni f hf).1 a ha, hG.is _ _ hr, Nd.tree_c D k4, T.sub_c, T.ns_c] at hn
      have : ((D x).sub f).ns ≤ nsT ((r.args.map D).map (T.sub f)) := nsT_mem (List.mem_map_of_mem (List.mem_map_of_mem hx))
      omega
  exact fun a ha => go _ a ha (Nat.le_refl _)
structure Sol (G : List Nd) (R : Nat → Nat) (f : Int → T) : Prop where
  at_ : ∀ (a : Nat) (p : Nd) (t : T), G[a]? = some p → p.k = 1 → Val G R a t → f p.i = t
  none : ∀ x, (∀ (a : Nat) (p : Nd), G[a]? = some p → p.k = 1 → p.i ≠ x) → f x = .v x
theorem Val.sub_eq (hG : Gr G D) (h : UInv G D A B R []) {f : Int → T} (hs : Sol G R f) : ∀ a t, a < G.length → Val G R a t → t = (D a).sub f := by
  intro a
  induction a using Nat.strongRecOn with
  | _ a ih =>
    intro t ha ht
    have hp := List.getElem?_eq_getElem ha
    have hD := hG.is a _ hp
    by_cases k1 : G[a].k = 1
    · rw [hD, Nd.tree_v D k1, T.sub_v]
      exact (hs.at_ a _ t hp k1 ht).symm
    · cases ht with
      | v hr k =>
        have := (h.cl.pref a _ _ hp hr k).1
        exact absurd this k1
      | n hr k =>
        obtain ⟨hh, hl⟩ := h.mates hp hr k1
        have k2 := hh.1.trans k
        rw [hD, Nd.tree_n D k2, T.sub_n, hh.2.1 k2]
      | a hr k =>
        obtain ⟨hh, hl⟩ := h.mates hp hr k1
        have k2 := hh.1.trans k
        rw [hD, Nd.tree_a D k2, T.sub_a, (hh.2.2 (by omega)).1]
      | c hr k hlen hv =>
        rename_i r vs
        obtain ⟨hh, hl⟩ := h.mates hp hr k1
        have k2 := hh.1.trans k
        rw [hD, Nd.tree_c D k2, T.sub_c, (hh.2.2 (by omega)).1]
        congr 1
        have hla := (hh.2.2 (by omega)).2
        refine List.ext_getElem (by simp [hlen, hla]) fun j hj1 hj2 => ?_
        have hjr : j < r.args.length := by rw [← hlen]; exact hj1
        have hjp : j < G[a].args.length := by rw [hla]; exact hjr
        have hx := List.getElem?_eq_getElem hjr
        have hy := List.getElem?_eq_getElem hjp
        have hlt := hG.lt a _ hp _ (List.mem_of_getElem? hy)
        have := ih _ hlt _ (Nat.lt_trans hlt ha) ((hv j _ _ hx (List.getElem?_eq_getElem hj1)).class (hl j _ _ hy hx))
        rw [this]
        simp
theorem Val.root_v (hG : Gr G D) (hc : Cl G R) {y : Int} (h : Val G R a t) (ha : a < G.length) : t.has y → ∃ (b : Nat) (p : Nd), G[b]? = some p ∧ p.k = 1 ∧ p.i = y ∧ R b = b := by
  induction h with
  | v h k => intro hy; cases hy; exact ⟨_, _, h, k, rfl, hc.idem _ ha⟩
  | n h k => intro hy; cases hy
  | a h k => intro hy; cases hy
  | c h k hl hs ih =>
    intro hy
    obtain ⟨u, hu, hy⟩ := has_c.1 hy
    obtain ⟨j, hj⟩ := List.mem_iff_getElem?.1 hu
    have hjr := get_lt hj
    rw [hl] at hjr
    have hx := List.getElem?_eq_getElem hjr
    exact ih j _ _ hx hj (Nat.lt_trans (hG.lt _ _ h _ (List.mem_of_getElem? hx)) (hc.lt _ ha)) hy
theorem Val.gen (hG : Gr G D) (h : UInv G D A B R []) {f : Int → T} (hf : Uni (D A) (D B) f) (ht : Val G R a t) (ha : a < G.length) : t.sub f = (D a).sub f := by
  induction ht with
  | v hr k => rw [(h.uni f hf).1 _ ha, hG.is _ _ hr, Nd.tree_v D k]
  | n hr k => rw [(h.uni f hf).1 _ ha, hG.is _ _ hr, Nd.tree_n D k]
  | a hr k => rw [(h.uni f hf).1 _ ha, hG.is _ _ hr, Nd.tree_a D k]
  | c hr k hl hs ih =>
    rw [(h.uni f hf).1 _ ha, hG.is _ _ hr, Nd.tree_c D k, T.sub_c, T.sub_c]
    congr 1
    refine List.ext_getElem (by simp [hl]) fun j hj1 hj2 => ?_
    simp at hj1 hj2 ⊢
    have hx := List.getElem?_eq_getElem hj2
    exact ih j _ _ hx (List.getElem?_eq_getElem hj1) (Nat.lt_trans (hG.lt _ _ hr _ (List.mem_of_getElem? hx)) (h.cl.lt _ ha))
theorem Sol.is (hG : Gr G D) (h : UInv G D A B R []) (hA : A < G.length) (hB : B < G.length) (hv : ∀ (a : Nat) (p : Nd), G[a]? = some p → p.k = 1 → ∃ t, Val G R a t)
    (hh : ∀ (a : Nat) (p : Nd), G[a]? = some p → p.k = 1 → (D A).has p.i ∨ (D B).has p.i) {f : Int → T} (hs : Sol G R f) : IsSol (D A) (D B) f := by
  have hall := Val.all hG h hv
  -- a variable's part, if it has one
  have hc : ∀ x, (∃ (a : Nat) (p : Nd) (t : T), G[a]? = some p ∧ p.k = 1 ∧ p.i = x ∧ Val G R a t ∧ f x = t) ∨ f x = .v x := fun x => by
    by_cases e : ∀ (a : Nat) (p : Nd), G[a]? = some p → p.k = 1 → p.i ≠ x
    · exact .inr (hs.none x e)
    · simp only [Classical.not_forall] at e
      obtain ⟨a, p, hp, k, hx⟩ := e
      have hx : p.i = x := Classical.not_not.1 hx
      obtain ⟨t, ht⟩ := hv a p hp k
      exact .inl ⟨a, p, t, hp, k, hx, ht, by rw [← hx]; exact hs.at_ a p t hp k ht⟩
  refine ⟨?_, fun g hg x => ?_, fun x y hy => ?_, fun x ha hb => ?_, fun x y hy => ?_⟩
  · obtain ⟨ta, hta⟩ := hall A hA
    obtain ⟨tb, htb⟩ := hall B hB
    have e := h.top.done h.cl.idem
    unfold Uni
    rw [← Val.sub_eq hG h hs A ta hA hta, ← Val.sub_eq hG h hs B tb hB htb]
    exact hta.det (htb.class e)
  · rcases hc x with ⟨a, p, t, hp, k, rfl, ht, e⟩ | e
    · rw [e, Val.gen hG h hg ht (get_lt hp), hG.is _ _ hp, Nd.tree_v D k, T.sub_v]
    · rw [e, T.sub_v]
  · rcases hc x with ⟨a, p, t, hp, k, rfl, ht, e⟩ | e
    · rw [e] at hy
      obtain ⟨b, q, hq, kq, rfl, hb⟩ := Val.root_v hG h.cl ht (get_lt hp) hy
      exact hs.at_ b q _ hq kq (.v (by rw [hb]; exact hq) kq)
    · rw [e] at hy; cases hy; exact e
  · rcases hc x with ⟨a, p, t, hp, k, rfl, ht, e⟩ | e
    · rcases hh a p hp k with h1 | h1
      · exact absurd h1 ha
      · exact absurd h1 hb
    · exact e
  · rcases hc x with ⟨a, p, t, hp, k, rfl, ht, e⟩ | e
    · rw [e] at hy; subst hy
      cases ht with
      | v hr kr => exact (h.cl.pref a p _ hp hr kr).2
    · rw [e] at hy; cases hy; exact Int.le_refl _
theorem Sol.ex (hG : Gr G D) (hv : ∀ (a : Nat) (p : Nd), G[a]? = some p → p.k = 1 → ∃ t, Val G R a t) : ∃ f, Sol G R f := by
  classical
  refine ⟨fun x => if h : ∃ (t : T) (a : Nat) (p : Nd), G[a]? = some p ∧ p.k = 1 ∧ p.i = x ∧ Val G R a t then h.choose else .v x, fun a p t hp k ht => ?_, fun x hx => ?_⟩
  · have hex : ∃ (t : T) (a : Nat) (q : Nd), G[a]? = some q ∧ q.k = 1 ∧ q.i = p.i ∧ Val G R a t := ⟨t, a, p, hp, k, rfl, ht⟩
    rw [dif_pos hex]
    obtain ⟨b, q, hq, kq, e, hb⟩ := hex.choose_spec
    have := hG.one b a q p hq hp kq k e
    subst this
    exact hb.det ht
  · rw [dif_neg]
    rintro ⟨t, a, p, hp, k, e, _⟩
    exact hx a p hp k e
end
end Go.Proofs.YtnfcbalppecnfaaGreat
namespace Go.Proofs.YtnfcbalppecnfaaGreat
set_option linter.unusedVariables false
def lkp : List (Int × Nat) → Int → Option Nat
  | [], _ => none
  | (y, a) :: l, x => if y = x then some a else lkp l x
theorem lkp_some {x : Int} {a : Nat} : ∀ {l : List (Int × Nat)}, lkp l x = some a → (x, a) ∈ l := by
  intro l
  induction l with
  | nil => intro h; cases h
  | cons p l ih =>
    obtain ⟨y, b⟩ := p
    intro h
    unfold lkp at h
    split at h
    · rename_i e; cases h; subst e; exact List.mem_cons_self
    · exact List.mem_cons_of_mem _ (ih h)
theorem lkp_none {x : Int} : ∀ {l : List (Int × Nat)}, lkp l x = none → ∀ a, (x, a) ∉ l := by
  intro l
  induction l with
  | nil => intro _ a h; cases h
  | cons p l ih =>
    obtain ⟨y, b⟩ := p
    intro h a hm
    unfold lkp at h
    split at h
    · cases h
    · rename_i e
      rcases List.mem_cons.1 hm with hm | hm
      · cases hm; exact e rfl
      · exact ih h a hm
abbrev SSt := List Nd × List (Int × Nat)
mutual
def Tm.addT : Tm → SSt → Nat × SSt
  | .node k nm i args, s =>
    if k = 1 then
      match lkp s.2 i with
      | some a => (a, s)
      | none => (s.1.length, (s.1 ++ [⟨k, nm, i, []⟩], s.2 ++ [(i, s.1.length)]))
    else if k = 4 then ((addL args s).2.1.length, ((addL args s).2.1 ++ [⟨k, nm, i, (addL args s).1⟩], (addL args s).2.2))
    else (s.1.length, (s.1 ++ [⟨k, nm, i, []⟩], s.2))
def addL : List Tm → SSt → List Nat × SSt
  | [], s => ([], s)
  | t :: ts, s => ((t.addT s).1 :: (addL ts (t.addT s).2).1, (addL ts (t.addT s).2).2)
end
theorem addL_nil (s : SSt) : addL [] s = ([], s) := by rw [addL]
theorem addL_cons (t : Tm) (ts : List Tm) (s : SSt) : addL (t :: ts) s = ((t.addT s).1 :: (addL ts (t.addT s).2).1, (addL ts (t.addT s).2).2) := by rw [addL]
theorem addL_append (us : List Tm) : ∀ (ts : List Tm) (s : SSt), addL (ts ++ us) s = ((addL ts s).1 ++ (addL us (addL ts s).2).1, (addL us (addL ts s).2).2) := by
  intro ts
  induction ts with
  | nil => intro s; rw [addL_nil]; rfl
  | cons t ts ih => intro s; rw [List.cons_append, addL_cons, addL_cons, ih]; rfl
theorem addL_length : ∀ (ts : List Tm) (s : SSt), (addL ts s).1.length = ts.length := by
  intro ts
  induction ts with
  | nil => intro s; rw [addL_nil]; rfl
  | cons t ts ih => intro s; rw [addL_cons]; simp [ih]
theorem addT_1 (t : Tm) (s : SSt) (h : t.k = 1) : t.addT s = match lkp s.2 t.i with | some a => (a, s) | none => (s.1.length, (s.1 ++ [⟨t.k, t.nm, t.i, []⟩], s.2 ++ [(t.i, s.1.length)])) := by
  cases t with
  | node k nm i args => change k = 1 at h; rw [Tm.addT, if_pos h]; rfl
theorem addT_4 (t : Tm) (s : SSt) (h : t.k = 4) : t.addT s = ((addL t.args s).2.1.length, ((addL t.args s).2.1 ++ [⟨t.k, t.nm, t.i, (addL t.args s).1⟩], (addL t.args s).2.2)) := by
  cases t with
  | node k nm i args => change k = 4 at h; rw [Tm.addT, if_neg (by omega), if_pos h]; rfl
theorem addT_0 (t : Tm) (s : SSt) (h : t.k ≠ 1) (h4 : t.k ≠ 4) : t.addT s = (s.1.length, (s.1 ++ [⟨t.k, t.nm, t.i, []⟩], s.2)) := by
  cases t with
  | node k nm i args => change k ≠ 1 at h; change k ≠ 4 at h4; rw [Tm.addT, if_neg h, if_neg h4]; rfl
structure AInv (G : List Nd) (vs : List (Int × Nat)) (D : Nat → T) : Prop where
  gr : Gr G D
  vs : ∀ x a, (x, a) ∈ vs ↔ ∃ p, G[a]? = some p ∧ p.k = 1 ∧ p.i = x
structure Adds (G : List Nd) (D : Nat → T) (G' : List Nd) (D' : Nat → T) (n : Nat) (has : Int → Prop) : Prop where
  pre : ∃ k, G' = G ++ k
  old : ∀ a, a < G.length → D' a = D a
  len : G'.length ≤ G.length + n
  has : ∀ (a : Nat) (p : Nd), G'[a]? = some p → G.length ≤ a → p.k = 1 → has p.i
theorem Adds.trans {G G' G'' : List Nd} {D D' D'' : Nat → T} {n m : Nat} {P Q : Int → Prop} (h : Adds G D G' D' n P) (k : Adds G' D' G'' D'' m Q) : Adds G D G'' D'' (n + m) (fun x => P x ∨ Q x) := by
  obtain ⟨k1, e1⟩ := h.pre
  obtain ⟨k2, e2⟩ := k.pre
  have hl : G.length ≤ G'.length := by rw [e1]; simp
  refine ⟨⟨k1 ++ k2, by rw [e2, e1, List.append_assoc]⟩, fun a ha => (k.old a (by omega)).trans (h.old a ha), by have := h.len; have := k.len; omega, fun a p hp ha hk => ?_⟩
  by_cases hlt : a < G'.length
  · refine .inl (h.has a p ?_ ha hk)
    rw [e2, List.getElem?_append_left hlt] at hp
    exact hp
  · exact .inr (k.has a p hp (by omega) hk)
theorem tree_ext {D D' : Nat → T} {p : Nd} {n : Nat} (h : ∀ j ∈ p.args, j < n) (hD : ∀ a, a < n → D' a = D a) : p.tree D' = p.tree D := by
  unfold Nd.tree
  rw [List.map_congr_left (f := D') (g := D) (l := p.args) fun j hj => hD j (h j hj)]
theorem AInv.push {G : List Nd} {vs vs' : List (Int × Nat)} {D : Nat → T} (h : AInv G vs D) (p : Nd) (hk : p.k = 1 ∨ p.k = 2 ∨ p.k = 3 ∨ p.k = 4) (hf : p.k ≠ 4 → p.args = []) (ha : ∀ j ∈ p.args, j < G.length)
    (h1 : p.k = 1 → vs' = vs ++ [(p.i, G.length)] ∧ ∀ a, (p.i, a) ∉ vs) (h2 : p.k ≠ 1 → vs' = vs) :
    ∃ D', AInv (G ++ [p]) vs' D' ∧ D' G.length = p.tree D ∧ ∀ a, a < G.length → D' a = D a := by
  refine ⟨fun a => if a = G.length then p.tree D else D a, ⟨⟨fun a q hq => ?_, fun a q hq j hj => ?_, fun a q hq => ?_, fun a q hq => ?_, fun a b q r hq hr kq kr e => ?_⟩, fun x a => ?_⟩, by simp, fun a h => by simp [Nat.ne_of_lt h]⟩
  all_goals try rw [List.getElem?_append] at hq
  · split at hq
    · rename_i hlt
      rw [if_neg (Nat.ne_of_lt hlt), h.gr.is a q hq]
      exact (tree_ext (n := G.length) (fun j hj => Nat.lt_trans (h.gr.lt a q hq j hj) hlt) (fun b hb => by simp [Nat.ne_of_lt hb])).symm
    · rename_i hlt
      have hl := get_lt hq
      simp at hl
      have e : a = G.length := by omega
      subst e
      simp at hq
      subst hq
      rw [if_pos rfl]
      exact (tree_ext (n := G.length) ha (fun b hb => by simp [Nat.ne_of_lt hb])).symm
  · split at hq
    · exact h.gr.lt a q hq j hj
    · have hl := get_lt hq
      simp at hl
      have e : a = G.length := by omega
      subst e
      simp at hq
      subst hq
      exact ha j hj
  · split at hq
    · exact h.gr.kind a q hq
    · have hl := get_lt hq
      simp at hl
      rw [hl] at hq; simp at hq; subst hq; exact hk
  · split at hq
    · exact h.gr.flat a q hq
    · have hl := get_lt hq
      simp at hl
      rw [hl] at hq; simp at hq; subst hq; exact hf
  · rw [List.getElem?_append] at hr
    split at hq
    · rename_i ha'
      split at hr
      · exact h.gr.one a b q r hq hr kq kr e
      · rename_i hb'
        have hl := get_lt hr
        simp at hl
        rw [hl] at hr; simp at hr; subst hr
        exact absurd ((h.vs p.i a).2 ⟨q, hq, kq, e⟩) ((h1 kr).2 a)
    · rename_i ha'
      have hl := get_lt hq
      simp at hl
      rw [hl] at hq; simp at hq; subst hq
      split at hr
      · exact absurd ((h.vs p.i b).2 ⟨r, hr, kr, e.symm⟩) ((h1 kq).2 b)
      · have hl2 := get_lt hr
        simp at hl2
        omega
  · by_cases e1 : p.k = 1
    · rw [(h1 e1).1, List.mem_append, h.vs]
      constructor
      · rintro (⟨q, hq, hk, hx⟩ | hm)
        · exact ⟨q, by rw [List.getElem?_append_left (get_lt hq)]; exact hq, hk, hx⟩
        · simp at hm; obtain ⟨rfl, rfl⟩ := hm; exact ⟨p, by simp, e1, rfl⟩
      · rintro ⟨q, hq, hk, hx⟩
        rw [List.getElem?_append] at hq
        split at hq
        · exact .inl ⟨q, hq, hk, hx⟩
        · have hl := get_lt hq
          simp at hl
          have e : a = G.length := by omega
          subst e
          simp at hq; subst hq
          exact .inr (by simp [hx])
    · rw [h2 e1, h.vs]
      constructor
      · rintro ⟨q, hq, hk, hx⟩
        exact ⟨q, by rw [List.getElem?_append_left (get_lt hq)]; exact hq, hk, hx⟩
      · rintro ⟨q, hq, hk, hx⟩
        rw [List.getElem?_append] at hq
        split at hq
        · exact ⟨q, hq, hk, hx⟩
        · have hl := get_lt hq
          simp at hl
          rw [hl] at hq; simp at hq; subst hq; exact absurd hk e1
def AddIs (t : Tm) : Prop := ∀ (G : List Nd) (vs : List (Int × Nat)) (D : Nat → T), AInv G vs D → ∃ D', AInv (t.addT (G, vs)).2.1 (t.addT (G, vs)).2.2 D' ∧ (t.addT (G, vs)).1 < (t.addT (G, vs)).2.1.length ∧ D' (t.addT (G, vs)).1 = t.tree ∧ Adds G D (t.addT (G, vs)).2.1 D' t.ns (fun x => t.tree.has x)
theorem addL_is : ∀ (ts : List Tm), (∀ x ∈ ts, AddIs x) → ∀ (G : List Nd) (vs : List (Int × Nat)) (D : Nat → T), AInv G vs D →
    ∃ D', AInv (addL ts (G, vs)).2.1 (addL ts (G, vs)).2.2 D' ∧ (∀ j ∈ (addL ts (G, vs)).1, j < (addL ts (G, vs)).2.1.length) ∧ (addL ts (G, vs)).1.map D' = ts.map Tm.tree ∧ Adds G D (addL ts (G, vs)).2.1 D' (nsL ts) (fun x => ∃ t ∈ ts, t.tree.has x) := by
  intro ts
  induction ts with
  | nil =>
    intro _ G vs D h
    rw [addL_nil, nsL_nil]
    exact ⟨D, h, fun j hj => (by cases hj), rfl, ⟨[], by simp⟩, fun _ _ => rfl, by simp, fun a p hp ha _ => by have := get_lt hp; dsimp only at this; omega⟩
  | cons t ts ih =>
    intro hx G vs D h
    obtain ⟨D1, i1, l1, t1, a1⟩ := hx t List.mem_cons_self G vs D h
    rw [addL_cons, nsL_cons]
    obtain ⟨⟨b, ⟨G1, vs1⟩⟩, hb⟩ : ∃ q, t.addT (G, vs) = q := ⟨_, rfl⟩
    rw [hb] at i1 l1 t1 a1 ⊢
    dsimp only at i1 l1 t1 a1 ⊢
    obtain ⟨D2, i2, l2, t2, a2⟩ := ih (fun y hy => hx y (List.mem_cons_of_mem _ hy)) G1 vs1 D1 i1
    have hle : G1.length ≤ (addL ts (G1, vs1)).2.1.length := by obtain ⟨k, e⟩ := a2.pre; rw [e]; simp
    refine ⟨D2, i2, fun j hj => ?_, ?_, ?_⟩
    · rcases List.mem_cons.1 hj with rfl | hj
      · omega
      · exact l2 j hj
    · rw [List.map_cons, List.map_cons, t2, a2.old b l1, t1]
    · have := a1.trans a2
      refine ⟨this.pre, this.old, this.len, fun a p hp ha hk => ?_⟩
      rcases this.has a p hp ha hk with h | ⟨u, hu, h⟩
      · exact ⟨t, List.mem_cons_self, h⟩
      · exact ⟨u, List.mem_cons_of_mem _ hu, h⟩
theorem add_is : ∀ t : Tm, t.ok = true → AddIs t := by
  have leaf : ∀ t : Tm, t.ok = true → t.k ≠ 1 → t.k ≠ 4 → AddIs t := by
    intro t hok h1 h4 G vs D h
    rw [addT_0 t _ h1 h4]
    dsimp only
    have hk := Tm.ok_kind hok
    obtain ⟨D', i, e, o⟩ := h.push ⟨t.k, t.nm, t.i, []⟩ hk (fun _ => rfl) (fun j hj => by cases hj) (fun e => absurd e h1) (fun _ => rfl) (vs' := vs)
    refine ⟨D', i, by simp, ?_, ⟨[_], rfl⟩, o, by have := t.ns_pos; simp; omega, fun a p hp ha hk => ?_⟩
    · rw [e, t.tree_eq]
      unfold Nd.tree
      dsimp only
      rw [if_neg h1, if_neg h1]
      split
      · rfl
      · rw [if_pos (by omega), if_pos (by omega)]
    · have hl := get_lt hp
      simp at hl
      have e : a = G.length := by omega
      subst e
      simp at hp; subst hp; exact absurd hk h1
  refine Tm.byKind (fun t h hok G vs D hi => ?_) (fun t h hok => leaf t hok (by omega) (by omega)) (fun t h hok => leaf t hok (by omega) (by omega)) (fun t h hok _ _ _ _ ih G vs D hi => ?_)
  · rw [addT_1 t _ h]
    rw [tree_1 h]
    have hp := t.ns_pos
    rcases hx : lkp vs t.i with _ | a
    · dsimp only
      obtain ⟨D', i, e, o⟩ := hi.push ⟨t.k, t.nm, t.i, []⟩ (.inl h) (fun _ => rfl) (fun j hj => by cases hj) (fun _ => ⟨rfl, lkp_none hx⟩) (fun e => absurd h e)
      refine ⟨D', i, by simp, by rw [e, Nd.tree_v D h], ⟨[_], rfl⟩, o, by simp; omega, fun a p hp ha hk => ?_⟩
      have hl := get_lt hp
      simp at hl
      have e : a = G.length := by omega
      subst e
      simp at hp; subst hp; exact .v _
    · dsimp only
      obtain ⟨p, hp', hk, hi'⟩ := (hi.vs t.i a).1 (lkp_some hx)
      refine ⟨D, hi, get_lt hp', by rw [hi.gr.is a p hp', Nd.tree_v D hk, hi'], ⟨[], by simp⟩, fun _ _ => rfl, by omega, fun b q hq hb _ => by have := get_lt hq; omega⟩
  · rw [addT_4 t _ h, tree_4 h]
    obtain ⟨D1, i1, l1, t1, a1⟩ := addL_is t.args ih G vs D hi
    obtain ⟨⟨js, ⟨G1, vs1⟩⟩, hb⟩ : ∃ q, addL t.args (G, vs) = q := ⟨_, rfl⟩
    rw [hb] at i1 l1 t1 a1 ⊢
    dsimp only at i1 l1 t1 a1 ⊢
    obtain ⟨D', i, e, o⟩ := i1.push ⟨t.k, t.nm, t.i, js⟩ (.inr (.inr (.inr h))) (fun e => absurd h e) l1 (fun e => by dsimp only at e; omega) (fun _ => rfl) (vs' := vs1)
    have hns := t.ns_eq
    rw [if_pos h] at hns
    obtain ⟨k, ek⟩ := a1.pre
    have hle : G.length ≤ G1.length := by rw [ek]; simp
    have hlen := a1.len
    refine ⟨D', i, by simp, by rw [e, Nd.tree_c D1 h]; exact congrArg _ t1, ⟨k ++ [_], by rw [ek, List.append_assoc]⟩, fun a ha => (o a (by omega)).trans (a1.old a ha), by simp; omega, fun a p hp ha hk => ?_⟩
    by_cases hlt : a < G1.length
    · rw [List.getElem?_append_left hlt] at hp
      obtain ⟨u, hu, hx⟩ := a1.has a p hp ha hk
      exact .c (List.mem_map_of_mem hu) hx
    · have hl := get_lt hp
      simp at hl
      have e : a = G1.length := by omega
      subst e
      simp at hp; subst hp; dsimp only at hk; omega
end Go.Proofs.YtnfcbalppecnfaaGreat
namespace Go.Proofs.YtnfcbalppecnfaaGreat
set_option linter.unusedVariables false
def upd (s : Nat → Nat) (a v : Nat) : Nat → Nat := fun x => if x = a then v else s x
structure Forest (n : Nat) (s R rk : Nat → Nat) : Prop where
  lt : ∀ a, a < n → s a < n
  root : ∀ a, a < n → R (s a) = R a
  fix : ∀ a, a < n → (R a = a ↔ s a = a)
  rank : ∀ a, a < n → s a ≠ a → rk (s a) < rk a
theorem Forest.start (n : Nat) : Forest n id id (fun _ => 0) := ⟨fun a h => h, fun a h => rfl, fun a h => Iff.rfl, fun a h e => absurd rfl e⟩
section
variable {n : Nat} {s R rk : Nat → Nat} {a : Nat}
theorem Forest.halve (h : Forest n s R rk) (ha : a < n) (hne : s a ≠ a) : Forest n (upd s a (s (s a))) R rk := by
  have h1 := h.lt a ha
  have hr : rk (s (s a)) < rk a := by
    by_cases e : s (s a) = s a
    · rw [e]; exact h.rank a ha hne
    · exact Nat.lt_trans (h.rank _ h1 e) (h.rank a ha hne)
  have hna : s (s a) ≠ a := fun e => by rw [e] at hr; omega
  refine ⟨fun x hx => ?_, fun x hx => ?_, fun x hx => ?_, fun x hx he => ?_⟩
  · unfold upd; split
    · exact h.lt _ h1
    · exact h.lt x hx
  · unfold upd; split
    · rename_i e; rw [e, h.root _ h1, h.root a ha]
    · exact h.root x hx
  · unfold upd; split
    · rename_i e; subst e
      constructor
      · intro hR; exact absurd ((h.fix x hx).1 hR) hne
      · intro hs; exact absurd hs hna
    · exact h.fix x hx
  · unfold upd at he ⊢
    split at he
    · rename_i e; subst e; rw [if_pos rfl]; exact hr
    · rename_i e; rw [if_neg e]; exact h.rank x hx he
theorem Forest.root_of (h : Forest n s R rk) (ha : a < n) (hs : s a = a) : R a = a := (h.fix a ha).2 hs
theorem joinR_fix {c d x : Nat} (hc : R c = c) (hcd : c ≠ d) (hxd : x ≠ d) : joinR R c d x = x ↔ R x = x := by
  unfold joinR
  split
  · rename_i e
    constructor
    · intro h; subst h; rw [hc] at e; exact absurd e hcd
    · intro h; rw [h] at e; exact absurd e hxd
  · rfl
theorem Forest.join {c d : Nat} (h : Forest n s R rk) (hc : c < n) (hd : d < n) (rc : R c = c) (rd : R d = d) (hcd : c ≠ d) : ∃ rk', Forest n (upd s d c) (joinR R c d) rk' := by
  refine ⟨fun x => if R x = d then rk x + rk c + 1 else rk x, fun x hx => ?_, fun x hx => ?_, fun x hx => ?_, fun x hx he => ?_⟩
  · unfold upd; split
    · exact hc
    · exact h.lt x hx
  · unfold upd; split
    · rename_i e; subst e; unfold joinR; rw [rc, rd, if_neg hcd, if_pos rfl]
    · unfold joinR; rw [h.root x hx]
  · by_cases e : x = d
    · subst e
      unfold upd joinR
      rw [if_pos rfl, rd, if_pos rfl]
    · rw [joinR_fix rc hcd e]
      unfold upd
      rw [if_neg e]
      exact h.fix x hx
  · unfold upd at he ⊢
    by_cases e : x = d
    · subst e
      simp only [if_pos]
      rw [if_neg (by rw [rc]; exact hcd), if_pos rd]
      omega
    · rw [if_neg e] at he
      simp only [if_neg e]
      rw [h.root x hx]
      have := h.rank x hx he
      split <;> omega
def roots (R : Nat → Nat) (n : Nat) : Nat := ((List.range n).filter (fun x => R x == x)).length
theorem roots_join {c d : Nat} (hd : d < n) (rc : R c = c) (rd : R d = d) (hcd : c ≠ d) : roots (joinR R c d) n + 1 = roots R n := by
  have key : ∀ l : List Nat, l.Nodup → d ∈ l → (l.filter (fun x => joinR R c d x == x)).length + 1 = (l.filter (fun x => R x == x)).length := by
    have same : ∀ x, x ≠ d → (joinR R c d x == x) = (R x == x) := fun x hx => by
      have := joinR_fix (R := R) rc hcd hx
      by_cases e : R x = x
      · rw [beq_iff_eq.2 e, beq_iff_eq.2 (this.2 e)]
      · rw [beq_eq_false_iff_ne.2 e, beq_eq_false_iff_ne.2 (fun h => e (this.1 h))]
    intro l
    induction l with
    | nil => intro _ h; cases h
    | cons x l ih =>
      intro hnd hm
      rw [List.nodup_cons] at hnd
      by_cases e : x = d
      · subst e
        have e1 : (joinR R c x x == x) = false := beq_eq_false_iff_ne.2 (by unfold joinR; rw [if_pos rd]; exact hcd)
        have e2 : (R x == x) = true := beq_iff_eq.2 rd
        rw [List.filter_cons, List.filter_cons, e1, e2]
        simp only [if_true, Bool.false_eq_true, if_false, List.length_cons]
        congr 2
        refine List.filter_congr fun y hy => same y fun h => hnd.1 (h ▸ hy)
      · have hm' : d ∈ l := by rcases List.mem_cons.1 hm with h | h; exact absurd h.symm e; exact h
        have := ih hnd.2 hm'
        rw [List.filter_cons, List.filter_cons, same x e]
        split
        · simp only [List.length_cons]; omega
        · exact this
  exact key (List.range n) List.nodup_range (List.mem_range.2 hd)
theorem roots_le : roots R n ≤ n := by
  unfold roots
  exact Nat.le_trans (List.length_filter_le _ _) (by simp)
end
end Go.Proofs.YtnfcbalppecnfaaGreat
namespace Go.Proofs.YtnfcbalppecnfaaGreat
set_option linter.unusedVariables false
def Nd.ok (p : Nd) : Prop := (p.k = 1 → 1 ≤ p.i) ∧ (p.k = 3 → p.nm.length ≤ 64) ∧ (p.k = 4 → 1 ≤ p.args.length ∧ p.args.length ≤ 8 ∧ p.nm.length ≤ 64)
theorem Tm.ok_1 {t : Tm} (h : t.ok = true) (k : t.k = 1) : 1 ≤ t.i := by rw [t.ok_eq, if_pos k] at h; simpa using h
theorem Tm.ok_3 {t : Tm} (h : t.ok = true) (k : t.k = 3) : t.nm.length ≤ 64 := by rw [t.ok_eq, if_neg (by omega), if_neg (by omega), if_neg (by omega), if_pos k] at h; simpa using h
def NewOk (s s' : SSt) : Prop := (∀ p ∈ s.1, p.ok) → ∀ p ∈ s'.1, p.ok
theorem addT_ok : ∀ t : Tm, t.ok = true → ∀ s : SSt, NewOk s (t.addT s).2 := by
  have snoc : ∀ (s : SSt) (G : List Nd) (vs : List (Int × Nat)) (p : Nd), NewOk s (G, vs) → p.ok → NewOk s (G ++ [p], vs) := fun s G vs p h hp hs q hq => by
    rcases List.mem_append.1 hq with hq | hq
    · exact h hs q hq
    · rw [List.mem_singleton.1 hq]; exact hp
  refine Tm.byKind (fun t h hok s => ?_) (fun t h hok s => ?_) (fun t h hok s => ?_) (fun t h hok h1 h8 hn _ ih s => ?_)
  · rw [addT_1 t s h]
    split
    · exact fun hs => hs
    · intro hs q hq
      rcases List.mem_append.1 hq with hq | hq
      · exact hs q hq
      · rw [List.mem_singleton.1 hq]
        exact ⟨fun _ => Tm.ok_1 hok h, fun e => by dsimp only at e; omega, fun e => by dsimp only at e; omega⟩
  · rw [addT_0 t s (by omega) (by omega)]
    exact snoc s s.1 s.2 _ (fun hs => hs) ⟨fun e => by dsimp only at e; omega, fun e => by dsimp only at e; omega, fun e => by dsimp only at e; omega⟩
  · rw [addT_0 t s (by omega) (by omega)]
    exact snoc s s.1 s.2 _ (fun hs => hs) ⟨fun e => by dsimp only at e; omega, fun e => Tm.ok_3 hok h, fun e => by dsimp only at e; omega⟩
  · rw [addT_4 t s h]
    have go : ∀ ts : List Tm, (∀ x ∈ ts, ∀ s : SSt, NewOk s (x.addT s).2) → ∀ s : SSt, NewOk s (addL ts s).2 := by
      intro ts
      induction ts with
      | nil => intro _ s; rw [addL_nil]; exact fun hs => hs
      | cons x ts ih2 => intro hx s; rw [addL_cons]; exact fun hs => ih2 (fun y hy => hx y (List.mem_cons_of_mem _ hy)) _ (hx x List.mem_cons_self s hs)
    exact snoc s _ _ _ (go t.args ih s) ⟨fun e => by dsimp only at e; omega, fun e => by dsimp only at e; omega, fun _ => ⟨by rw [addL_length]; exact h1, by rw [addL_length]; exact h8, hn⟩⟩
section
variable {G : List Nd} {D : Nat → T} {R : Nat → Nat} {a b u : Nat} {t : T}
theorem Val.ok (hG : ∀ p ∈ G, p.ok) (h : Val G R a t) : t.ok = true := by
  induction h with
  | v h k => rw [T.ok]; exact decide_eq_true ((hG _ (List.mem_of_getElem? h)).1 k)
  | n h k => rw [T.ok]
  | a h k => rw [T.ok]; exact decide_eq_true ((hG _ (List.mem_of_getElem? h)).2.1 k)
  | c h k hl hs ih =>
    obtain ⟨h1, h8, hn⟩ := (hG _ (List.mem_of_getElem? h)).2.2 k
    rw [T.ok_c]
    simp only [Bool.and_eq_true, decide_eq_true_eq]
    refine ⟨⟨⟨by omega, by omega⟩, okT_all.2 fun x hx => ?_⟩, hn⟩
    obtain ⟨j, hj⟩ := List.mem_iff_getElem?.1 hx
    have hjr := get_lt hj
    rw [hl] at hjr
    exact ih j _ _ (List.getElem?_eq_getElem hjr) hj
theorem nsT_append (us : List T) : ∀ ts : List T, nsT (ts ++ us) = nsT ts + nsT us := by
  intro ts
  induction ts with
  | nil => rw [nsT_nil]; simp
  | cons t ts ih => rw [List.cons_append, nsT_cons, nsT_cons, ih]; omega
theorem ndT_append (us : List T) : ∀ ts : List T, ndT (ts ++ us) = max (ndT ts) (ndT us) := by
  intro ts
  induction ts with
  | nil => rw [ndT_nil]; simp
  | cons t ts ih => rw [List.cons_append, ndT_cons, ndT_cons, ih]; omega
def Anc (G : List Nd) (R : Nat → Nat) (u a : Nat) : Prop := ∀ v, Val G R u v → ∃ v', Val G R a v' ∧ v'.ns < v.ns
theorem Anc.never (h : Anc G R u a) (e : R u = R a) : ¬ ∃ t, Val G R a t := by
  rintro ⟨t, ht⟩
  obtain ⟨v, hv, hlt⟩ := h t (ht.class e)
  have := hv.det ht
  subst this
  omega
theorem Val.args {p : Nd} (h : Val G R a t) (hp : G[R a]? = some p) (hk : p.args ≠ []) (hG : Gr G D) : ∃ vs, t = .c p.nm vs ∧ vs.length = p.args.length ∧ ∀ (j x : Nat) (u : T), p.args[j]? = some x → vs[j]? = some u → Val G R x u := by
  have k4 : p.k = 4 := by
    by_cases e : p.k = 4
    · exact e
    · exact absurd (hG.flat _ _ hp e) hk
  cases h with
  | v h k => rw [hp] at h; cases h; omega
  | n h k => rw [hp] at h; cases h; omega
  | a h k => rw [hp] at h; cases h; omega
  | c h k hl hs => rw [hp] at h; cases h; exact ⟨_, rfl, hl, hs⟩
theorem Anc.arg (hG : Gr G D) {p : Nd} {j x : Nat} (hp : G[R a]? = some p) (hj : p.args[j]? = some x) : Anc G R a x := by
  intro v hv
  have hne : p.args ≠ [] := fun e => by rw [e] at hj; simp at hj
  obtain ⟨vs, rfl, hl, hs⟩ := hv.args hp hne hG
  have hjv : j < vs.length := by rw [hl]; exact get_lt hj
  refine ⟨vs[j], hs j x _ hj (List.getElem?_eq_getElem hjv), ?_⟩
  rw [T.ns_c]
  have := nsT_mem (List.getElem_mem hjv)
  omega
theorem Anc.trans (h : Anc G R u a) (k : Anc G R a b) : Anc G R u b := fun v hv => by
  obtain ⟨v1, h1, l1⟩ := h v hv
  obtain ⟨v2, h2, l2⟩ := k v1 h1
  exact ⟨v2, h2, by omega⟩
theorem Val.finish (hG : Gr G D) {p : Nd} {vs : List T} (hp : G[R a]? = some p) (hl : vs.length = p.args.length) (hs : ∀ (j x : Nat) (u : T), p.args[j]? = some x → vs[j]? = some u → Val G R x u) : ∃ t, Val G R a t ∧ t.ns = 1 + nsT vs ∧ t.nd = 1 + ndT vs := by
  have flat : p.k ≠ 4 → vs = [] := fun e => by
    rw [hG.flat _ _ hp e] at hl
    exact List.length_eq_zero_iff.1 hl
  rcases hG.kind _ p hp with k | k | k | k
  · rw [flat (by omega)]; exact ⟨_, .v hp k, by rw [T.ns, nsT_nil]; simp, by rw [T.nd, ndT_nil]; simp⟩
  · rw [flat (by omega)]; exact ⟨_, .n hp k, by rw [T.ns, nsT_nil]; simp, by rw [T.nd, ndT_nil]; simp⟩
  · rw [flat (by omega)]; exact ⟨_, .a hp k, by rw [T.ns, nsT_nil]; simp, by rw [T.nd, ndT_nil]; simp⟩
  · exact ⟨_, .c hp k hl hs, T.ns_c _ _, T.nd_c _ _⟩
def cnt2 (st : Nat → Int) (n : Nat) : Nat := ((List.range n).filter (fun x => st x == 2)).length
def cnt0 (st : Nat → Int) (n : Nat) : Nat := ((List.range n).filter (fun x => st x == 0)).length
def updI (s : Nat → Int) (a : Nat) (v : Int) : Nat → Int := fun x => if x = a then v else s x
structure MInv (G : List Nd) (R : Nat → Nat) (st sz dp : Nat → Int) : Prop where
  vals : ∀ r, r < G.length → st r = 0 ∨ st r = 1 ∨ st r = 2
  root : ∀ r, r < G.length → R r ≠ r → st r = 0
  done : ∀ r, r < G.length → st r = 2 → ∃ t, Val G R r t ∧ sz r = (min t.ns 2001 : Nat) ∧ dp r = (t.nd : Nat) ∧ t.nd ≤ cnt2 st G.length
theorem cnt_le (f : Nat → Bool) (n : Nat) : ((List.range n).filter f).length ≤ n := Nat.le_trans (List.length_filter_le _ _) (by simp)
theorem cnt_upd (f g : Nat → Bool) {n a : Nat} (ha : a < n) (hf : f a = false) (hg : g a = true) (h : ∀ x, x ≠ a → g x = f x) : ((List.range n).filter g).length = ((List.range n).filter f).length + 1 := by
  have key : ∀ l : List Nat, l.Nodup → a ∈ l → (l.filter g).length = (l.filter f).length + 1 := by
    intro l
    induction l with
    | nil => intro _ h; cases h
    | cons x l ih =>
      intro hnd hm
      rw [List.nodup_cons] at hnd
      by_cases e : x = a
      · subst e
        rw [List.filter_cons, List.filter_cons, hf, hg]
        simp only [if_true, Bool.false_eq_true, if_false, List.length_cons]
        congr 2
        refine List.filter_congr fun y hy => h y fun e => hnd.1 (e ▸ hy)
      · have hm' : a ∈ l := by rcases List.mem_cons.1 hm with h | h; exact absurd h.symm e; exact h
        have := ih hnd.2 hm'
        rw [List.filter_cons, List.filter_cons, h x e]
        split
        · simp only [List.length_cons]; omega
        · exact this
  exact key (List.range n) List.nodup_range (List.mem_range.2 ha)
theorem MInv.begin_ {st sz dp : Nat → Int} {r : Nat} (h : MInv G R st sz dp) (hr : r < G.length) (hR : R r = r) (h0 : st r = 0) (sz' dp' : Nat → Int) (hs : ∀ x, x ≠ r → sz' x = sz x) (hd : ∀ x, x ≠ r → dp' x = dp x) : MInv G R (updI st r 1) sz' dp' ∧ cnt0 (updI st r 1) G.length + 1 = cnt0 st G.length ∧ cnt2 (updI st r 1) G.length = cnt2 st G.length := by
  have e2 : cnt2 (updI st r 1) G.length = cnt2 st G.length := by
    unfold cnt2 updI
    congr 1
    refine List.filter_congr fun x _ => ?_
    by_cases e : x = r
    · subst e; rw [if_pos rfl, h0]; rfl
    · rw [if_neg e]
  refine ⟨⟨fun x hx => ?_, fun x hx hne => ?_, fun x hx h2 => ?_⟩, ?_, e2⟩
  · unfold updI; split
    · exact .inr (.inl rfl)
    · exact h.vals x hx
  · unfold updI; rw [if_neg (fun e => hne (by rw [e]; exact hR))]; exact h.root x hx hne
  · unfold updI at h2
    by_cases e : x = r
    · rw [if_pos e] at h2; cases h2
    · rw [if_neg e] at h2
      obtain ⟨t, a1, a2, a3, a4⟩ := h.done x hx h2
      exact ⟨t, a1, by rw [hs x e]; exact a2, by rw [hd x e]; exact a3, by rw [e2]; exact a4⟩
  · exact (cnt_upd (fun x => updI st r 1 x == 0) (fun x => st x == 0) hr (by simp [updI]) (by simp [h0]) (fun x e => by simp [updI, e])).symm
theorem MInv.end_ {st sz dp : Nat → Int} {r : Nat} {t : T} (h : MInv G R st sz dp) (hr : r < G.length) (h1 : st r = 1) (hR : R r = r) (ht : Val G R r t) (hz : sz r = (min t.ns 2001 : Nat)) (hd : dp r = (t.nd : Nat)) (hb : t.nd ≤ cnt2 st G.length + 1) : MInv G R (updI st r 2) sz dp ∧ cnt2 (updI st r 2) G.length = cnt2 st G.length + 1 ∧ cnt0 (updI st r 2) G.length = cnt0 st G.length := by
  have e2 : cnt2 (updI st r 2) G.length = cnt2 st G.length + 1 := cnt_upd (fun x => st x == 2) (fun x => updI st r 2 x == 2) hr (by simp [h1]) (by simp [updI]) (fun x e => by simp [updI, e])
  refine ⟨⟨fun x hx => ?_, fun x hx hne => ?_, fun x hx h2 => ?_⟩, e2, ?_⟩
  · unfold updI; split
    · exact .inr (.inr rfl)
    · exact h.vals x hx
  · unfold updI; rw [if_neg (fun e => hne (by rw [e]; exact hR))]; exact h.root x hx hne
  · by_cases e : x = r
    · subst e; exact ⟨t, ht, hz, hd, by rw [e2]; exact hb⟩
    · unfold updI at h2
      rw [if_neg e] at h2
      obtain ⟨t, a1, a2, a3, a4⟩ := h.done x hx h2
      exact ⟨t, a1, a2, a3, by rw [e2]; omega⟩
  · unfold cnt0 updI
    congr 1
    refine List.filter_congr fun x _ => ?_
    by_cases e : x = r
    · subst e; rw [if_pos rfl, h1]; rfl
    · rw [if_neg e]
end
end Go.Proofs.YtnfcbalppecnfaaGreat
