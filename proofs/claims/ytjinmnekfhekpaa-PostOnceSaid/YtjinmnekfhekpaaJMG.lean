/-
  Joined texts (Tm31, Tm32, Tm33, Tm34, Tm35, Tm36). No condition.
-/
import Derived.Test.YtjinmnekfhekpaaJMF
import Derived.Deep.QuietTactic
namespace Go.Proofs.Ytjinmnekfhekpaa
open Go.RowKit Go.Maps
set_option linter.unusedVariables false
set_option linter.unusedSimpArgs false
set_option maxHeartbeats 1000000 in
theorem refV_any (w:World) (v:Int):Calls Try.prog 26 #[.int .i64 v] w fun e w'=>e=.returned (tv (.node 1 [] v []) none 0)∧Keep (fun g=>g < w.heap.size) w w':=by
  show Calls _ _ _ _ (fun e w'=>e=.returned (.agg #[.int .i64 1,.string ⟨#[]⟩,.int .i64 v,.slice none 0 0])∧_)
  go_enter Try.func26,Try.ntmps26
  go_wp2
  exact bodyPost_ret (v:=.agg #[.int .i64 1,.string ⟨#[]⟩,.int .i64 v,.slice none 0 0]) (by simp [results,Try.results26,go_sem]) rfl ⟨rfl,(Keep.refl _ w).alloc _⟩
set_option maxHeartbeats 1000000 in
theorem refN_any (w:World) (v:Int):Calls Try.prog 31 #[.int .i64 v] w fun e w'=>e=.returned (tv (.node 2 [] v []) none 0)∧Keep (fun g=>g < w.heap.size) w w':=by
  show Calls _ _ _ _ (fun e w'=>e=.returned (.agg #[.int .i64 2,.string ⟨#[]⟩,.int .i64 v,.slice none 0 0])∧_)
  go_enter Try.func31,Try.ntmps31
  go_wp2
  exact bodyPost_ret (v:=.agg #[.int .i64 2,.string ⟨#[]⟩,.int .i64 v,.slice none 0 0]) (by simp [results,Try.results31,go_sem]) rfl ⟨rfl,(Keep.refl _ w).alloc _⟩
set_option maxHeartbeats 1000000 in
theorem refA_any (w:World) (nm:List UInt8):Calls Try.prog 32 #[.string (str nm)] w fun e w'=>e=.returned (tv (.node 3 nm 0 []) none 0)∧Keep (fun g=>g < w.heap.size) w w':=by
  show Calls _ _ _ _ (fun e w'=>e=.returned (.agg #[.int .i64 3,.string (str nm),.int .i64 0,.slice none 0 0])∧_)
  generalize str nm=s
  go_enter Try.func32,Try.ntmps32
  go_wp2
  exact bodyPost_ret (v:=.agg #[.int .i64 3,.string s,.int .i64 0,.slice none 0 0]) (by simp [results,Try.results32,go_sem]) rfl ⟨rfl,(Keep.refl _ w).alloc _⟩
set_option maxHeartbeats 1000000 in
theorem refC_any (w:World) (nm:List UInt8) (ts:List Tm) (a:Option Addr) (c:Nat):Calls Try.prog 30 #[.string (str nm),.slice a ts.length c] w fun e w'=>e=.returned (tv (.node 4 nm 0 ts) a c)∧Keep (fun g=>g < w.heap.size) w w':=by
  show Calls _ _ _ _ (fun e w'=>e=.returned (.agg #[.int .i64 4,.string (str nm),.int .i64 0,.slice a ts.length c])∧_)
  generalize str nm=s
  generalize ts.length=n
  go_enter Try.func30,Try.ntmps30
  go_wp2
  exact bodyPost_ret (v:=.agg #[.int .i64 4,.string s,.int .i64 0,.slice a n c]) (by simp [results,Try.results30,go_sem]) rfl ⟨rfl,(Keep.refl _ w).alloc _⟩
set_option maxHeartbeats 1000000 in
theorem sign_any (w:World) (x y:Bool):Calls Try.prog 73 #[.bool x,.bool y] w fun e w'=>e=.returned (.int .i64 (if x then -1 else if y then 1 else 0))∧w=w':=by
  cases x <;> cases y <;> (go_enter Try.func73,Try.ntmps73;go_wp2;go_ret;exact ⟨by simp,rfl⟩)
end Go.Proofs.Ytjinmnekfhekpaa
namespace Go.Proofs.Ytjinmnekfhekpaa
open Go.RowKit Go.Maps
set_option linter.unusedVariables false
set_option linter.unusedSimpArgs false
def maxN (l:List Nat):Nat:=l.foldl (fun d k=>if d < k then k else d) 0
def rd:Nat→Tm→Nat
  | 0,_=>1
  | n + 1,t=>if t.k=4 then maxN (t.args.map (rd n)) + 1 else 1
end Go.Proofs.Ytjinmnekfhekpaa
namespace Go.Proofs.Ytjinmnekfhekpaa
open Go.RowKit Go.Maps
set_option linter.unusedVariables false
set_option linter.unusedSimpArgs false
end Go.Proofs.Ytjinmnekfhekpaa
namespace Go.Proofs.Ytjinmnekfhekpaa
open Go.RowKit Go.Maps
set_option linter.unusedVariables false
set_option linter.unusedSimpArgs false
def Tm.pl (n:Nat) (t:Tm):Bool:=t.ok && decide (t.nd ≤ n)
end Go.Proofs.Ytjinmnekfhekpaa
namespace Go.Proofs.Ytjinmnekfhekpaa
open Go.RowKit Go.Maps
set_option linter.unusedVariables false
set_option linter.unusedSimpArgs false
end Go.Proofs.Ytjinmnekfhekpaa
namespace Go.Proofs.Ytjinmnekfhekpaa
open Go.RowKit Go.Maps
set_option linter.unusedVariables false
set_option linter.unusedSimpArgs false
def LongsAt (w:World) (a:Option Addr) (xs:List Int):Prop :=
  ∀ j,j < xs.length→∃ b off,a=some ⟨b,off,none⟩∧b < w.heap.size∧w.cell? ⟨b,off + j,none⟩=some (.int .i64 (xs.getD j 0))
theorem row_longs {w:World} {base:Nat} {u:Value} {xs:List Int} (h:w.ownsRow base 2 1 u xs.length (xs.map (Value.int .i64))):∃ a c,u=.slice a xs.length c∧LongsAt w a xs:=by
  obtain ⟨a,c,hu,h2⟩:=row_ints h
  refine ⟨a,c,hu,fun j hj=>?_⟩
  obtain ⟨g,ha,hl,hc⟩:=h2 j hj
  exact ⟨g,0,ha,hl,by rw [Nat.zero_add];exact hc⟩
def among (xs:List Int) (x:Int):Bool:=xs.any (fun y=>y == x)
theorem among_iff (xs:List Int) (x:Int):among xs x=true↔x ∈ xs:=by
  unfold among;rw [List.any_eq_true]
  exact ⟨fun ⟨y, h1, h2⟩ => by have : y = x := by simpa using h2
                               exact this ▸ h1, fun h => ⟨x, h, by simp⟩⟩
theorem among_succ (xs:List Int) (x:Int) (k:Nat) (hk:k < xs.length):among (xs.take (k + 1)) x=(among (xs.take k) x || (xs.getD k 0 == x)):=by
  have e:xs.getD k 0=xs[k]:=by simp [List.getD,hk]
  unfold among
  rw [List.take_succ_eq_append_getElem (by omega),List.any_append,e]
  simp
theorem among_take {xs:List Int} {x:Int} {k:Nat} (h:among (xs.take k) x=true):among xs x=true:=by
  rw [among_iff] at *;exact List.take_subset _ _ h
theorem has_longs {w:World} {a:Option Addr} {c:Nat} {xs:List Int} (h:LongsAt w a xs) (hs:xs.length ≤ 2305843009213693952) (x:Int) :
    Calls Try.prog 92 #[.slice a xs.length c,.int .i64 x] w fun e w'=>e=.returned (.bool (among xs x))∧w=w':=by
  have H:=Lib.hid h;clear h
  have HS:=Lib.hid (among_succ xs x)
  go_enter Try.func92,Try.ntmps92
  go_wp2
  go_loop [5] (fun i=>∃ k:Nat,k ≤ xs.length∧i=.int .i64 k∧Hid (among (xs.take k) x=false)) (fun i=>xs.length - (intOf i).toNat)
  case atStart=>exact ⟨0,by omega,rfl,Lib.hid rfl⟩
  case round =>
    obtain ⟨k,hk,rfl,HA⟩:=hrel
    by_cases hlt:k < xs.length
    · obtain ⟨b,off,rfl,hb,hc⟩:=H.out k hlt
      have hs:=HS.out k hlt
      rw [HA.out,Bool.false_or] at hs
      generalize xs.getD k 0=y at hc hs
      cases hy:(y == x) with
      | true =>
        rw [hy] at hs
        have HF:=Lib.hid (among_take hs);clear hs
        go_wp2
        go_ret
        exact ⟨by rw [HF.out];rfl,rfl⟩
      | false =>
        rw [hy] at hs
        have HN:=Lib.hid hs;clear hs
        go_wp2
        go_round
        case rel=>exact ⟨k + 1,by omega,by go_num,HN⟩
        case measure=>simp [intOf];omega
    · obtain rfl:k=xs.length:=by omega
      have HE:Hid (among xs x=false):=Lib.hid (by have:=HA.out;rwa [List.take_length] at this)
      go_wp2
      go_ret
      exact ⟨by rw [HE.out];rfl,rfl⟩
end Go.Proofs.Ytjinmnekfhekpaa
