/-
  The operations of package arith on two numbers. No condition but that they are numbers of 64 bits.
-/
import Derived.Test.YtmgephleogiaoaaNAr0
import Derived.Shelf.Bits.Mul64
namespace Go.Proofs.Ytmgephleogiaoaa
open Go.RowKit Go.Maps
set_option linter.unusedVariables false
set_option linter.unusedSimpArgs false
theorem ar_ret {fn:Func} {V:World} {a:Act} {w:World} {p q:Nat} {x:Int} {s:ByteArray} {l:List UInt8} {z:Rs} (hr:fn.results=#[.tmp p,.tmp q]) (hd:a.defers=[]) (hp:a.tmps[p]? = some (.int .i64 x)) (hq:a.tmps[q]? = some (.string s)) (hs:s=str l) (hk:Keep (fun g=>g < V.heap.size) V w) (hz:z=(x,l)) :
    bodyPost Try.prog fn (fun e w'=>e=.returned (.tuple #[.int .i64 z.1,.string (str z.2)])∧Keep (fun g=>g < V.heap.size) V w') .ret a w:=by
  subst hz hs
  refine bodyPost_ret (v:=.tuple #[.int .i64 x,.string (str l)]) ?_ hd ⟨rfl,hk⟩
  simp [results,hr,go_sem,Array.getD_eq_getD_getElem?,hp,hq]
theorem big_is {z v:Int} (h:v=z) (hz:inR z):big z=(v,[]):=by rw [big,if_pos hz,h]
theorem big_not {z:Int} (h:¬ inR z):big z=(0,fOver):=by rw [big,if_neg h]
set_option maxHeartbeats 1000000 in
theorem sum_any (w:World) (a b:Int) (ha:inR a) (hb:inR b):Calls Try.prog 66 #[.agg #[.int .i64 a,.int .i64 b]] w fun e w'=>e=.returned (.tuple #[.int .i64 (big (a + b)).1,.string (str (big (a + b)).2)])∧Keep (fun g=>g < w.heap.size) w w':=by
  have HA:=Lib.hid ha;have HB:=Lib.hid hb;clear ha hb
  go_enter Try.func66,Try.ntmps66
  go_wp2
  all_goals first | (refine ar_ret (l:=fOver) rfl rfl rfl rfl rfl (by first | exact (Keep.refl _ w).alloc _ | exact ((Keep.refl _ w).alloc _).drew) ?_;exact big_not (by have ha:=HA.out;have hb:=HB.out;clear HA HB;simp [inR,wrap64] at *;omega)) | (refine ar_ret (l:=[]) rfl rfl rfl rfl rfl (by first | exact (Keep.refl _ w).alloc _ | exact ((Keep.refl _ w).alloc _).drew) ?_;exact big_is (by have ha:=HA.out;have hb:=HB.out;clear HA HB;simp [inR,wrap64] at *;omega) (by have ha:=HA.out;have hb:=HB.out;clear HA HB;simp [inR,wrap64] at *;omega))
set_option maxHeartbeats 1000000 in
theorem dif_any (w:World) (a b:Int) (ha:inR a) (hb:inR b):Calls Try.prog 65 #[.agg #[.int .i64 a,.int .i64 b]] w fun e w'=>e=.returned (.tuple #[.int .i64 (big (a - b)).1,.string (str (big (a - b)).2)])∧Keep (fun g=>g < w.heap.size) w w':=by
  have HA:=Lib.hid ha;have HB:=Lib.hid hb;clear ha hb
  go_enter Try.func65,Try.ntmps65
  go_wp2
  all_goals first | (refine ar_ret (l:=fOver) rfl rfl rfl rfl rfl (by first | exact (Keep.refl _ w).alloc _ | exact ((Keep.refl _ w).alloc _).drew) ?_;exact big_not (by have ha:=HA.out;have hb:=HB.out;clear HA HB;simp [inR,wrap64] at *;omega)) | (refine ar_ret (l:=[]) rfl rfl rfl rfl rfl (by first | exact (Keep.refl _ w).alloc _ | exact ((Keep.refl _ w).alloc _).drew) ?_;exact big_is (by have ha:=HA.out;have hb:=HB.out;clear HA HB;simp [inR,wrap64] at *;omega) (by have ha:=HA.out;have hb:=HB.out;clear HA HB;simp [inR,wrap64] at *;omega))
set_option maxHeartbeats 1000000 in
theorem quo_any (w:World) (a b:Int) (ha:inR a) (hb:inR b):Calls Try.prog 68 #[.agg #[.int .i64 a,.int .i64 b]] w fun e w'=>e=.returned (.tuple #[.int .i64 (quoR a b).1,.string (str (quoR a b).2)])∧Keep (fun g=>g < w.heap.size) w w':=by
  have HA:=Lib.hid ha;have HB:=Lib.hid hb;clear ha hb
  go_enter Try.func68,Try.ntmps68
  go_wp2
  all_goals first | (exfalso;simp at *;omega) | (refine ar_ret (l:=fZero) rfl rfl rfl rfl rfl (by first | exact (Keep.refl _ w).alloc _ | exact ((Keep.refl _ w).alloc _).drew) ?_;exact quo_zero (by first | assumption | omega | (simp at *;omega))) | (refine ar_ret (l:=fOver) rfl rfl rfl rfl rfl (by first | exact (Keep.refl _ w).alloc _ | exact ((Keep.refl _ w).alloc _).drew) ?_;exact quo_no (by first | assumption | omega | (simp at *;omega)) (by first | assumption | omega | (simp at *;omega))) | (refine ar_ret (l:=[]) rfl rfl rfl rfl rfl (by first | exact (Keep.refl _ w).alloc _ | exact ((Keep.refl _ w).alloc _).drew) ?_;exact quo_least (by first | assumption | omega | (simp at *;omega)) (by first | assumption | omega | (simp at *;omega)) (by first | assumption | omega | (simp at *;omega))) | (refine ar_ret (l:=[]) rfl rfl rfl rfl rfl (by first | exact (Keep.refl _ w).alloc _ | exact ((Keep.refl _ w).alloc _).drew) ?_;exact quo_yes HA.out (by first | assumption | omega | (simp at *;omega)) (by first | assumption | omega | (simp at *;omega)))
set_option maxHeartbeats 1000000 in
theorem rem_any (w:World) (a b:Int) (ha:inR a) (hb:inR b):Calls Try.prog 69 #[.agg #[.int .i64 a,.int .i64 b]] w fun e w'=>e=.returned (.tuple #[.int .i64 (remR a b).1,.string (str (remR a b).2)])∧Keep (fun g=>g < w.heap.size) w w':=by
  have HA:=Lib.hid ha;have HB:=Lib.hid hb;clear ha hb
  go_enter Try.func69,Try.ntmps69
  go_wp2
  all_goals first | (exfalso;simp at *;omega) | (refine ar_ret (l:=fZero) rfl rfl rfl rfl rfl (by first | exact (Keep.refl _ w).alloc _ | exact ((Keep.refl _ w).alloc _).drew) ?_;exact rem_zero (by first | assumption | omega | (simp at *;omega))) | (refine ar_ret (l:=[]) rfl rfl rfl rfl rfl (by first | exact (Keep.refl _ w).alloc _ | exact ((Keep.refl _ w).alloc _).drew) ?_;exact rem_yes (by first | assumption | omega | (simp at *;omega)))
set_option maxHeartbeats 1000000 in
theorem mod_any (w:World) (a b:Int) (ha:inR a) (hb:inR b):Calls Try.prog 70 #[.agg #[.int .i64 a,.int .i64 b]] w fun e w'=>e=.returned (.tuple #[.int .i64 (modR a b).1,.string (str (modR a b).2)])∧Keep (fun g=>g < w.heap.size) w w':=by
  have HA:=Lib.hid ha;have HB:=Lib.hid hb;clear ha hb
  go_enter Try.func70,Try.ntmps70
  go_wp2
  all_goals first | (exfalso;simp at *;omega) | (refine ar_ret (l:=fZero) rfl rfl rfl rfl rfl (by first | exact (Keep.refl _ w).alloc _ | exact ((Keep.refl _ w).alloc _).drew) ?_;exact mod_zero (by first | assumption | omega | (simp at *;omega))) | (refine ar_ret (l:=[]) rfl rfl rfl rfl rfl (by first | exact (Keep.refl _ w).alloc _ | exact ((Keep.refl _ w).alloc _).drew) ?_;exact mod_nil (by first | assumption | omega | (simp at *;omega)) (by first | assumption | omega | (simp at *;omega))) | (refine ar_ret (l:=[]) rfl rfl rfl rfl rfl (by first | exact (Keep.refl _ w).alloc _ | exact ((Keep.refl _ w).alloc _).drew) ?_;exact mod_two (by first | assumption | omega | (simp at *;omega)) (by first | assumption | omega | (simp at *;omega))) | (refine ar_ret (l:=[]) rfl rfl rfl rfl rfl (by first | exact (Keep.refl _ w).alloc _ | exact ((Keep.refl _ w).alloc _).drew) ?_;exact mod_one (by first | assumption | omega | (simp at *;omega)) (by first | assumption | omega | (simp at *;omega)) HA.out HB.out)
set_option maxHeartbeats 1000000 in
theorem shr_any (w:World) (a b:Int) (ha:inR a) (hb:inR b):Calls Try.prog 71 #[.agg #[.int .i64 a,.int .i64 b]] w fun e w'=>e=.returned (.tuple #[.int .i64 (shrR a b).1,.string (str (shrR a b).2)])∧Keep (fun g=>g < w.heap.size) w w':=by
  have HA:=Lib.hid ha;have HB:=Lib.hid hb;clear ha hb
  go_enter Try.func71,Try.ntmps71
  go_wp2
  all_goals first | (exfalso;simp at *;omega) | (refine ar_ret (l:=fUndef) rfl rfl rfl rfl rfl (by first | exact (Keep.refl _ w).alloc _ | exact ((Keep.refl _ w).alloc _).drew) ?_;exact shr_no (by first | assumption | omega | (simp at *;omega))) | (refine ar_ret (l:=[]) rfl rfl rfl rfl rfl (by first | exact (Keep.refl _ w).alloc _ | exact ((Keep.refl _ w).alloc _).drew) ?_;exact shr_yes HA.out (by first | assumption | omega | (simp at *;omega)))
set_option maxHeartbeats 1000000 in
theorem shl_any (w:World) (a b:Int) (ha:inR a) (hb:inR b):Calls Try.prog 72 #[.agg #[.int .i64 a,.int .i64 b]] w fun e w'=>e=.returned (.tuple #[.int .i64 (shlR a b).1,.string (str (shlR a b).2)])∧Keep (fun g=>g < w.heap.size) w w':=by
  have HA:=Lib.hid ha;have HB:=Lib.hid hb;clear ha hb
  go_enter Try.func72,Try.ntmps72
  go_wp2
  all_goals try (go_region;go_wp2)
  all_goals first | (exfalso;simp at *;omega) | (refine ar_ret (l:=fUndef) rfl rfl rfl rfl rfl (by first | exact (Keep.refl _ w).alloc _ | exact ((Keep.refl _ w).alloc _).drew) ?_;exact shl_no (by first | assumption | omega | (simp at *;omega))) | (refine ar_ret (l:=[]) rfl rfl rfl rfl rfl (by first | exact (Keep.refl _ w).alloc _ | exact ((Keep.refl _ w).alloc _).drew) ?_;exact shl_yes (by first | assumption | omega | (simp at *;omega)) (by rename_i h;simpa using h)) | (refine ar_ret (l:=fOver) rfl rfl rfl rfl rfl (by first | exact (Keep.refl _ w).alloc _ | exact ((Keep.refl _ w).alloc _).drew) ?_;exact shl_over (by first | assumption | omega | (simp at *;omega)) (by rename_i h;simpa using h))
end Go.Proofs.Ytmgephleogiaoaa
