/-
  Package atoms, plain: a table, an operation, its steps, how many it may still take. No condition.
-/
import Derived.Test.YtebdlggmpojgdaaArena
namespace Go.Proofs.Ytebdlggmpojgdaa
open Go.RowKit Go.Maps
set_option linter.unusedVariables false

/-- What a mark says. -/
def mNew (m : Int) : Int := m % 281474976710656
def mCnt (m : Int) : Int := m / 281474976710656
def mWith (m b : Int) : Int := (mCnt m + 1) * 281474976710656 + b
theorem mNew_with {m b : Int} (h0 : 0 ≤ b) (h1 : b < 281474976710656) : mNew (mWith m b) = b := by unfold mNew mWith; omega
theorem mCnt_with {m b : Int} (h0 : 0 ≤ b) (h1 : b < 281474976710656) : mCnt (mWith m b) = mCnt m + 1 := by unfold mWith mCnt; omega

/-- The table: its block, how many lists, how many names may be, the names of blocks. -/
structure TS where
  first : Int
  lists : Int
  most : Int
  names : List (Int × List UInt8)
def TS.name (T : TS) (b : Int) : List UInt8 := ((T.names.find? (fun e => e.1 == b)).map (·.2)).getD []
def hashN (l : List UInt8) (s : Nat) : Nat := l.foldl (fun s b => (s * 31 + b.toNat) % 4294967296) s
def TS.list (T : TS) (n : List UInt8) : Int := ((hashN n 0 % T.lists.toNat : Nat) : Int)
/-- An operation. -/
structure OS where
  next : Nat
  name : List UInt8
  list : Int
  seen : Int
  behind : Int
  head : Int
  past : Int
  at_ : Int
  block : Int
  full : Bool
  id : Int
  err : Int
def OS.fin (o : OS) (id err : Int) : OS := { o with id := id, err := err, next := if o.block = 0 then 10 else 9 }
def OS.decide (o : OS) (T : TS) : OS :=
  if T.most ≤ mCnt o.seen then o.fin 0 3 else if o.full then o.fin 0 21 else if o.block = 0 then { o with next := 6 } else { o with next := 7 }
def OS.look (o : OS) (T : TS) (x : Int) : OS :=
  if x = 0 ∨ x = o.past then { o with at_ := x, past := o.head }.decide T
  else if T.name x = o.name then { o with at_ := x }.fin x 0 else { o with at_ := x, next := 5 }
/-- A step, where the table's block is live. -/
def stepA (A : AS) (T : TS) (o : OS) : AS :=
  match o.next with
  | 3 => A.swapAt T.first (1 + T.list (T.name (mNew o.seen))) o.behind (mNew o.seen)
  | 6 => A.allocAt 1
  | 7 => A.storeAt o.block 0 o.head
  | 8 => A.swapAt T.first 0 o.seen (mWith o.seen o.block)
  | 9 => A.freeAt o.block
  | _ => A
def stepT (A : AS) (T : TS) (o : OS) : TS :=
  match o.next with
  | 6 => if A.allocErr 1 = 0 then { T with names := (A.allocNo 1, o.name) :: T.names } else T
  | 9 => { T with names := T.names.filter (fun e => !(e.1 == o.block)) }
  | _ => T
def stepO (A : AS) (T : TS) (o : OS) : OS :=
  match o.next with
  | 0 => o.fin 0 2
  | 1 => { o with seen := A.val T.first 0, next := if mNew (A.val T.first 0) = 0 then 4 else 2 }
  | 2 => { o with behind := A.val (mNew o.seen) 0, next := 3 }
  | 3 => { o with next := 4 }
  | 4 => { o with head := A.val T.first (1 + o.list) }.look T (A.val T.first (1 + o.list))
  | 5 => o.look T (A.val o.at_ 0)
  | 6 => if A.allocErr 1 = 0 then { o with block := A.allocNo 1, next := 7 } else { o with full := true, next := 1 }
  | 7 => { o with next := 8 }
  | 8 => if A.val T.first 0 = o.seen then { o with id := o.block, next := 10 } else { o with next := 1 }
  | 9 => { o with next := 10 }
  | _ => o

/-- The place of a block in the order of putting: the newest first. -/
def rank : List Int → Int → Nat
  | [], _ => 0
  | p :: l, b => if p = b then l.length + 1 else rank l b
theorem rank_le (l : List Int) (b : Int) : rank l b ≤ l.length := by
  induction l with
  | nil => exact Nat.le_refl _
  | cons p l ih => unfold rank; split <;> simp <;> omega
theorem rank_pos {l : List Int} {b : Int} (h : b ∈ l) : 0 < rank l b := by
  induction l with
  | nil => cases h
  | cons p l ih =>
    unfold rank
    split
    · omega
    · rename_i hp
      rcases List.mem_cons.1 h with e | h
      · exact absurd e.symm hp
      · exact ih h
theorem rank_cons {l : List Int} {p b : Int} (h : p ≠ b) : rank (p :: l) b = rank l b := by rw [rank, if_neg h]

/-- The lists of a table, as far as waiting goes. P: the blocks that were put, the newest first. -/
structure LInv (A : AS) (T : TS) (P : List Int) (m : Int) : Prop where
  fst : ∃ hs : List Int, look A.bl T.first = some (m :: hs) ∧ (hs.length : Int) = T.lists ∧ ∀ h ∈ hs, h = 0 ∨ h ∈ P
  cnt : mCnt m = P.length
  new : mNew m = P.headD 0
  put : ∀ b ∈ P, 0 < b ∧ b ≠ T.first ∧ ∃ nx, look A.bl b = some [nx] ∧ (nx = 0 ∨ (nx ∈ P ∧ rank P nx < rank P b))
  nod : P.Nodup
  one : 1 ≤ T.lists
/-- An operation at such a table. -/
structure OpInv (A : AS) (T : TS) (P : List Int) (o : OS) : Prop where
  le : o.next ≤ 10
  list : 0 ≤ o.list ∧ o.list < T.lists
  seen : 2 ≤ o.next → o.next ≤ 3 → mNew o.seen ∈ P
  head : o.head = 0 ∨ o.head ∈ P
  at_ : o.next = 5 → o.at_ ∈ P
  own : o.block ≠ 0 → o.block ∉ P → o.next ≤ 9 → 0 < o.block ∧ o.block ≠ T.first ∧ ∃ c, look A.bl o.block = some [c] ∧ (o.next = 8 → c = o.head)
  none : o.next ≤ 9 → o.block = 0 ∨ o.block ∉ P
  has : 7 ≤ o.next → o.next ≤ 9 → o.block ≠ 0
  hasnt : o.next = 0 ∨ o.next = 6 → o.block = 0

/-- How many steps an operation may still take, while the mark m stands still; n: its count. -/
def potF (n : Nat) (P : List Int) (o : OS) : Nat :=
  match o.next with
  | 2 => n + 6
  | 3 => n + 5
  | 4 => n + 4
  | 5 => rank P o.at_ + 3
  | 6 => 3
  | 7 => 2
  | 8 => 1
  | _ => 0
def pot (n : Nat) (P : List Int) (m : Int) (o : OS) : Nat :=
  if o.next = 0 ∨ o.next = 9 then 1 else if 10 ≤ o.next then 0 else if o.next = 1 then n + 7
  else if o.seen = m then potF n P o else potF n P o + (n + 7)
theorem pot_le (P : List Int) (m : Int) (o : OS) : pot P.length P m o ≤ 2 * P.length + 13 := by
  have hr := rank_le P o.at_
  unfold pot
  split
  · omega
  split
  · omega
  split
  · omega
  have : potF P.length P o ≤ P.length + 6 := by unfold potF; split <;> omega
  split <;> omega
theorem fin_pot (o : OS) (n : Nat) (P : List Int) (m id err : Int) : pot n P m (o.fin id err) ≤ 1 := by
  unfold OS.fin pot
  by_cases h : o.block = 0 <;> simp [h]
/-- Looking at a block: at most so many steps more. -/
theorem look_pot {o : OS} {T : TS} {P : List Int} {m x : Int} (hx : x = 0 ∨ x ∈ P) (n : Nat) :
    pot n P m (o.look T x) ≤ (rank P x + 3) + (if o.seen = m then 0 else n + 7) := by
  have hd : ∀ o' : OS, o'.seen = o.seen → pot n P m (o'.decide T) ≤ 3 + (if o.seen = m then 0 else n + 7) := by
    intro o' e
    unfold OS.decide
    split
    · exact Nat.le_trans (fin_pot _ _ _ _ _ _) (by omega)
    split
    · exact Nat.le_trans (fin_pot _ _ _ _ _ _) (by omega)
    split
    · simp only [pot, potF, e]; simp; split <;> omega
    · simp only [pot, potF, e]; simp; split <;> omega
  unfold OS.look
  split
  · exact Nat.le_trans (hd _ rfl) (by omega)
  split
  · exact Nat.le_trans (fin_pot _ _ _ _ _ _) (by omega)
  · simp only [pot, potF]; simp; split <;> omega
end Go.Proofs.Ytebdlggmpojgdaa
