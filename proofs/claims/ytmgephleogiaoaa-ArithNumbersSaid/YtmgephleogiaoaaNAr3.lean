/-
  Functions of one number, and products in two words. No condition but that they are numbers of 64 bits.
-/
import Derived.Test.YtmgephleogiaoaaNAr2
import Derived.Shelf.Bits.Mul64
namespace Go.Proofs.Ytmgephleogiaoaa
open Go.RowKit Go.Maps
set_option linter.unusedVariables false
set_option linter.unusedSimpArgs false
theorem ret_el {fn:Func} {R:Ending→World→Prop} {a:Act} {w:World} {p:Nat} {v:Value} (hr:fn.results=#[.tmp p]) (hd:a.defers=[]) (hp:a.tmps[p]? = some v) (hR:R (.returned v) w):bodyPost Try.prog fn R .ret a w :=
  bodyPost_ret (v:=v) (by simp [results,hr,go_sem,Array.getD_eq_getD_getElem?,hp]) hd hR
theorem ret_el2 {fn:Func} {R:Ending→World→Prop} {a:Act} {w:World} {p q:Nat} {v u:Value} (hr:fn.results=#[.tmp p,.tmp q]) (hd:a.defers=[]) (hp:a.tmps[p]? = some v) (hq:a.tmps[q]? = some u) (hR:R (.returned (.tuple #[v,u])) w):bodyPost Try.prog fn R .ret a w :=
  bodyPost_ret (v:=.tuple #[v,u]) (by simp [results,hr,go_sem,Array.getD_eq_getD_getElem?,hp,hq]) hd hR
theorem ret_int {fn:Func} {a:Act} {w V:World} {p:Nat} {k:IntKind} {x z:Int} (hr:fn.results=#[.tmp p]) (hd:a.defers=[]) (hp:a.tmps[p]? = some (.int k x)) (hz:x=z) (hw:w=V):bodyPost Try.prog fn (fun e w'=>e=.returned (.int k z)∧w'=V) .ret a w:=by
  subst hz;exact ret_el hr hd hp ⟨rfl,hw⟩
theorem ret_int2 {fn:Func} {a:Act} {w V:World} {p q:Nat} {k l:IntKind} {x z y u:Int} (hr:fn.results=#[.tmp p,.tmp q]) (hd:a.defers=[]) (hp:a.tmps[p]? = some (.int k x)) (hq:a.tmps[q]? = some (.int l y)) (hz:x=z) (hu:y=u) (hw:w=V):bodyPost Try.prog fn (fun e w'=>e=.returned (.tuple #[.int k z,.int l u])∧w'=V) .ret a w:=by
  subst hz hu;exact ret_el2 hr hd hp hq ⟨rfl,hw⟩
def cmpZ (a b:Int):Int:=if a < b then -1 else if b < a then 1 else 0
def oneR (nm:List UInt8) (a:Int):Rs :=
  if nm=[115,105,103,110] then (cmpZ a 0,[])
  else if nm=[92] then (bits .xor .i64 (-1) a,[])
  else if nm=[97,98,115] then (if 0 ≤ a then (a,[]) else big (-a))
  else if nm=[45] then big (-a)
  else (a,[])
theorem cmp_any (w:World) (a b:Int):Calls Try.prog 64 #[.int .i64 a,.int .i64 b] w fun e w'=>e=.returned (.int .i64 (cmpZ a b))∧w'=w:=by
  go_enter Try.func64,Try.ntmps64
  go_wp2
  all_goals (refine ret_int rfl rfl rfl ?_ rfl;simp only [cmpZ];first | rw [if_pos (by omega)] | rw [if_neg (by omega),if_pos (by omega)] | rw [if_neg (by omega),if_neg (by omega)])
theorem uns_any (w:World) (a:Int) (ha:inR a):Calls Try.prog 78 #[.int .i64 a] w fun e w'=>e=.returned (.int .u64 (a.natAbs:Int))∧w'=w:=by
  have HA:=Lib.hid ha;clear ha
  go_enter Try.func78,Try.ntmps78
  go_wp2
  all_goals (refine ret_int rfl rfl rfl ?_ rfl;have ha:=HA.out;unfold inR at ha;simp only [IntKind.wrap_u64];omega)
open Mul64 in
theorem mul64_any (w:World) (x y:Nat) (hx:x < 18446744073709551616) (hy:y < 18446744073709551616) :
    Calls Try.prog 77 #[.int .u64 x,.int .u64 y] w fun e w'=>e=.returned (.tuple #[.int .u64 ((x * y / 18446744073709551616:Nat):Int),.int .u64 ((x * y % 18446744073709551616:Nat):Int)])∧w'=w:=by
  obtain ⟨bd,bt,bw,hhi⟩:=Lib.mul64_hi x y hx hy
  have ba:=Lib.half_mul_le (a:=x / 4294967296) (b:=y / 4294967296) (by omega) (by omega)
  have bb:=Lib.half_mul_le (a:=x / 4294967296) (b:=y % 4294967296) (by omega) (by omega)
  have bc:=Lib.half_mul_le (a:=x % 4294967296) (b:=y / 4294967296) (by omega) (by omega)
  have ba':x / 4294967296 * (y / 4294967296) < 18446744073709551616:=by omega
  have bb':x / 4294967296 * (y % 4294967296) < 18446744073709551616:=by omega
  have bc':x % 4294967296 * (y / 4294967296) < 18446744073709551616:=by omega
  have bh1:x / 4294967296 * (y / 4294967296) + (x / 4294967296 * (y % 4294967296) + x % 4294967296 * (y % 4294967296) / 4294967296) / 4294967296 < 18446744073709551616:=by omega
  have bh:x / 4294967296 * (y / 4294967296) + (x / 4294967296 * (y % 4294967296) + x % 4294967296 * (y % 4294967296) / 4294967296) / 4294967296 + ((x / 4294967296 * (y % 4294967296) + x % 4294967296 * (y % 4294967296) / 4294967296) % 4294967296 + x % 4294967296 * (y / 4294967296)) / 4294967296 < 18446744073709551616:=by omega
  go_enter Try.func77,Try.ntmps77
  go_wp2
  refine ret_int2 rfl rfl rfl rfl ?_ ?_ rfl
  all_goals simp only [maskN x hx,maskN y hy,divN,mulN,addN,wrapN _ bd,wrapN _ bb',wrapN _ bt,maskN _ bt,wrapN _ bc',wrapN _ bw,wrapN _ ba',wrapN _ bh1,wrapN _ bh,wrapM (x * y)]
  all_goals rw [hhi]
set_option maxHeartbeats 1000000 in
theorem one_sign (w:World) (a:Int) (ha:inR a):Calls Try.prog 57 #[.string (str [115,105,103,110]),.int .i64 a] w fun e w'=>e=.returned (.tuple #[.int .i64 (oneR [115,105,103,110] a).1,.string (str (oneR [115,105,103,110] a).2)])∧Keep (fun g=>g < w.heap.size) w w':=by
  have HA:=Lib.hid ha;clear ha
  go_enter Try.func57,Try.ntmps57
  generalize hs:str [115,105,103,110]=s
  have e0:(s.toList == [115,105,103,110])=true:=by rw [← hs,str_eq];decide
  have e1:(s.toList == [92])=false:=nq_ hs
  have e2:(s.toList == [97,98,115])=false:=nq_ hs
  have e3:(s.toList == [45])=false:=nq_ hs
  clear hs
  have hone:oneR [115,105,103,110] a=oneR [115,105,103,110] a:=rfl
  go_wp2_with fail
  all_goals try (refine (cmp_any _ _ _).mono ?_;rintro e w1 ⟨rfl,hw1⟩;rw [hw1];clear hw1;go_wp2_with fail)
  all_goals try (refine (dif_any _ _ _ (by decide) HA.out).mono ?_;rintro e w1 ⟨rfl,hk⟩;go_wp2_with fail)
  all_goals first
    | (refine ar_ret (l:=[]) rfl rfl rfl rfl rfl (by first | exact Keep.refl _ _ | exact hk) ?_;first | rfl | (rw [oneR,if_neg (by decide),if_neg (by decide),if_pos rfl];first | rw [if_pos (by omega)] | rw [if_neg (by omega)]))
    | (refine ar_ret (l:=(big (-a)).2) rfl rfl rfl rfl rfl (by first | exact Keep.refl _ _ | exact hk) ?_;first | rfl | (rw [oneR,if_neg (by decide),if_neg (by decide),if_pos rfl];first | rw [if_pos (by omega)] | rw [if_neg (by omega)]))
set_option maxHeartbeats 1000000 in
theorem one_bs (w:World) (a:Int) (ha:inR a):Calls Try.prog 57 #[.string (str [92]),.int .i64 a] w fun e w'=>e=.returned (.tuple #[.int .i64 (oneR [92] a).1,.string (str (oneR [92] a).2)])∧Keep (fun g=>g < w.heap.size) w w':=by
  have HA:=Lib.hid ha;clear ha
  go_enter Try.func57,Try.ntmps57
  generalize hs:str [92]=s
  have e0:(s.toList == [115,105,103,110])=false:=nq_ hs
  have e1:(s.toList == [92])=true:=by rw [← hs,str_eq];decide
  have e2:(s.toList == [97,98,115])=false:=nq_ hs
  have e3:(s.toList == [45])=false:=nq_ hs
  clear hs
  have hone:oneR [92] a=oneR [92] a:=rfl
  go_wp2_with fail
  all_goals try (refine (cmp_any _ _ _).mono ?_;rintro e w1 ⟨rfl,hw1⟩;rw [hw1];clear hw1;go_wp2_with fail)
  all_goals try (refine (dif_any _ _ _ (by decide) HA.out).mono ?_;rintro e w1 ⟨rfl,hk⟩;go_wp2_with fail)
  all_goals first
    | (refine ar_ret (l:=[]) rfl rfl rfl rfl rfl (by first | exact Keep.refl _ _ | exact hk) ?_;first | rfl | (rw [oneR,if_neg (by decide),if_neg (by decide),if_pos rfl];first | rw [if_pos (by omega)] | rw [if_neg (by omega)]))
    | (refine ar_ret (l:=(big (-a)).2) rfl rfl rfl rfl rfl (by first | exact Keep.refl _ _ | exact hk) ?_;first | rfl | (rw [oneR,if_neg (by decide),if_neg (by decide),if_pos rfl];first | rw [if_pos (by omega)] | rw [if_neg (by omega)]))
set_option maxHeartbeats 1000000 in
theorem one_abs (w:World) (a:Int) (ha:inR a):Calls Try.prog 57 #[.string (str [97,98,115]),.int .i64 a] w fun e w'=>e=.returned (.tuple #[.int .i64 (oneR [97,98,115] a).1,.string (str (oneR [97,98,115] a).2)])∧Keep (fun g=>g < w.heap.size) w w':=by
  have HA:=Lib.hid ha;clear ha
  go_enter Try.func57,Try.ntmps57
  generalize hs:str [97,98,115]=s
  have e0:(s.toList == [115,105,103,110])=false:=nq_ hs
  have e1:(s.toList == [92])=false:=nq_ hs
  have e2:(s.toList == [97,98,115])=true:=by rw [← hs,str_eq];decide
  have e3:(s.toList == [45])=false:=nq_ hs
  clear hs
  have hone:oneR [97,98,115] a=oneR [97,98,115] a:=rfl
  go_wp2_with fail
  all_goals try (refine (cmp_any _ _ _).mono ?_;rintro e w1 ⟨rfl,hw1⟩;rw [hw1];clear hw1;go_wp2_with fail)
  all_goals try (refine (dif_any _ _ _ (by decide) HA.out).mono ?_;rintro e w1 ⟨rfl,hk⟩;go_wp2_with fail)
  all_goals first
    | (refine ar_ret (l:=[]) rfl rfl rfl rfl rfl (by first | exact Keep.refl _ _ | exact hk) ?_;first | rfl | (rw [oneR,if_neg (by decide),if_neg (by decide),if_pos rfl];first | rw [if_pos (by omega)] | rw [if_neg (by omega)]))
    | (refine ar_ret (l:=(big (-a)).2) rfl rfl rfl rfl rfl (by first | exact Keep.refl _ _ | exact hk) ?_;first | rfl | (rw [oneR,if_neg (by decide),if_neg (by decide),if_pos rfl];first | rw [if_pos (by omega)] | rw [if_neg (by omega)]))
set_option maxHeartbeats 1000000 in
theorem one_minus (w:World) (a:Int) (ha:inR a):Calls Try.prog 57 #[.string (str [45]),.int .i64 a] w fun e w'=>e=.returned (.tuple #[.int .i64 (oneR [45] a).1,.string (str (oneR [45] a).2)])∧Keep (fun g=>g < w.heap.size) w w':=by
  have HA:=Lib.hid ha;clear ha
  go_enter Try.func57,Try.ntmps57
  generalize hs:str [45]=s
  have e0:(s.toList == [115,105,103,110])=false:=nq_ hs
  have e1:(s.toList == [92])=false:=nq_ hs
  have e2:(s.toList == [97,98,115])=false:=nq_ hs
  have e3:(s.toList == [45])=true:=by rw [← hs,str_eq];decide
  clear hs
  have hone:oneR [45] a=oneR [45] a:=rfl
  go_wp2_with fail
  all_goals try (refine (cmp_any _ _ _).mono ?_;rintro e w1 ⟨rfl,hw1⟩;rw [hw1];clear hw1;go_wp2_with fail)
  all_goals try (refine (dif_any _ _ _ (by decide) HA.out).mono ?_;rintro e w1 ⟨rfl,hk⟩;go_wp2_with fail)
  all_goals first
    | (refine ar_ret (l:=[]) rfl rfl rfl rfl rfl (by first | exact Keep.refl _ _ | exact hk) ?_;first | rfl | (rw [oneR,if_neg (by decide),if_neg (by decide),if_pos rfl];first | rw [if_pos (by omega)] | rw [if_neg (by omega)]))
    | (refine ar_ret (l:=(big (-a)).2) rfl rfl rfl rfl rfl (by first | exact Keep.refl _ _ | exact hk) ?_;first | rfl | (rw [oneR,if_neg (by decide),if_neg (by decide),if_pos rfl];first | rw [if_pos (by omega)] | rw [if_neg (by omega)]))
set_option maxHeartbeats 1000000 in
theorem one_none (w:World) (nm:List UInt8) (a:Int) (h:((str nm).toList == [115,105,103,110])=false∧((str nm).toList == [92])=false∧((str nm).toList == [97,98,115])=false∧((str nm).toList == [45])=false):Calls Try.prog 57 #[.string (str nm),.int .i64 a] w fun e w'=>e=.returned (.tuple #[.int .i64 (oneR nm a).1,.string (str (oneR nm a).2)])∧Keep (fun g=>g < w.heap.size) w w':=by
  have hs:oneR nm a=(a,[]):=by
    simp only [str_eq,decide_eq_false_iff_not] at h
    simp [oneR,h]
  rw [hs];clear hs
  obtain ⟨e0,e1,e2,e3⟩:=h
  go_enter Try.func57,Try.ntmps57
  go_wp2
  exact ret_el2 rfl rfl rfl rfl ⟨rfl,Keep.refl _ _⟩
theorem callOne_any (w:World) (nm:List UInt8) (a:Int) (ha:inR a):Calls Try.prog 57 #[.string (str nm),.int .i64 a] w fun e w'=>e=.returned (.tuple #[.int .i64 (oneR nm a).1,.string (str (oneR nm a).2)])∧Keep (fun g=>g < w.heap.size) w w':=by
  rcases name_one nm with rfl | rfl | rfl | rfl | h
  · exact one_sign w a ha
  · exact one_bs w a ha
  · exact one_abs w a ha
  · exact one_minus w a ha
  · exact one_none w nm a h
end Go.Proofs.Ytmgephleogiaoaa
