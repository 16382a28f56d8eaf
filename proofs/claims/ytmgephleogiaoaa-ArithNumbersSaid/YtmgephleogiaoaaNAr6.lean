/-
  Functions of two numbers, by their names. No condition but that they are numbers of 64 bits.
-/
import Derived.Test.YtmgephleogiaoaaNAr5
namespace Go.Proofs.Ytmgephleogiaoaa
open Go.RowKit Go.Maps
set_option linter.unusedVariables false
set_option linter.unusedSimpArgs false
def twoR (nm:List UInt8) (a b:Int):Rs :=
  if nm=[43] then big (a + b)
  else if nm=[45] then big (a - b)
  else if nm=[42] then big (a * b)
  else if nm=[109,105,110] then (min a b,[])
  else if nm=[109,97,120] then (max a b,[])
  else if nm=[47,92] then (bits .and .i64 a b,[])
  else if nm=[92,47] then (bits .or .i64 a b,[])
  else if nm=[120,111,114] then (bits .xor .i64 a b,[])
  else if nm=[47,47] then quoR a b
  else if nm=[114,101,109] then remR a b
  else if nm=[109,111,100] then modR a b
  else if nm=[62,62] then shrR a b
  else if nm=[60,60] then shlR a b
  else powR a b
set_option maxHeartbeats 1000000 in
theorem two_plus (w:World) (a b:Int) (ha:inR a) (hb:inR b):Calls Try.prog 58 #[.string (str [43]),.agg #[.int .i64 a,.int .i64 b]] w fun e w'=>e=.returned (.tuple #[.int .i64 (twoR [43] a b).1,.string (str (twoR [43] a b).2)])∧Keep (fun g=>g < w.heap.size) w w':=by
  have HA:=Lib.hid ha;have HB:=Lib.hid hb;clear ha hb
  have hsp:twoR [43] a b=big (a + b):=rfl
  rw [hsp];clear hsp
  go_enter Try.func58,Try.ntmps58
  generalize hs:str [43]=s
  have e0:(s.toList == [43])=true:=by rw [← hs,str_eq];decide
  have e1:(s.toList == [45])=false:=nq_ hs
  have e2:(s.toList == [42])=false:=nq_ hs
  have e3:(s.toList == [109,105,110])=false:=nq_ hs
  have e4:(s.toList == [109,97,120])=false:=nq_ hs
  have e5:(s.toList == [47,92])=false:=nq_ hs
  have e6:(s.toList == [92,47])=false:=nq_ hs
  have e7:(s.toList == [120,111,114])=false:=nq_ hs
  have e8:(s.toList == [47,47])=false:=nq_ hs
  have e9:(s.toList == [114,101,109])=false:=nq_ hs
  have e10:(s.toList == [109,111,100])=false:=nq_ hs
  have e11:(s.toList == [62,62])=false:=nq_ hs
  have e12:(s.toList == [60,60])=false:=nq_ hs
  clear hs
  have hk0:Keep (fun g=>g < w.heap.size) w (w.alloc (Obj.cells #[Value.int IntKind.i64 a,Value.int IntKind.i64 b] 60)):=(Keep.refl _ w).alloc _
  have HK:=Lib.hid hk0;clear hk0
  go_wp2_with fail
  refine (sum_any _ _ _ HA.out HB.out).mono ?_
  rintro e w1 ⟨rfl,hk⟩
  go_wp2_with fail
  exact ar_ret (l:=(big (a + b)).2) rfl rfl rfl rfl rfl (HK.out.onto hk) rfl
set_option maxHeartbeats 1000000 in
theorem two_minus (w:World) (a b:Int) (ha:inR a) (hb:inR b):Calls Try.prog 58 #[.string (str [45]),.agg #[.int .i64 a,.int .i64 b]] w fun e w'=>e=.returned (.tuple #[.int .i64 (twoR [45] a b).1,.string (str (twoR [45] a b).2)])∧Keep (fun g=>g < w.heap.size) w w':=by
  have HA:=Lib.hid ha;have HB:=Lib.hid hb;clear ha hb
  have hsp:twoR [45] a b=big (a - b):=rfl
  rw [hsp];clear hsp
  go_enter Try.func58,Try.ntmps58
  generalize hs:str [45]=s
  have e0:(s.toList == [43])=false:=nq_ hs
  have e1:(s.toList == [45])=true:=by rw [← hs,str_eq];decide
  have e2:(s.toList == [42])=false:=nq_ hs
  have e3:(s.toList == [109,105,110])=false:=nq_ hs
  have e4:(s.toList == [109,97,120])=false:=nq_ hs
  have e5:(s.toList == [47,92])=false:=nq_ hs
  have e6:(s.toList == [92,47])=false:=nq_ hs
  have e7:(s.toList == [120,111,114])=false:=nq_ hs
  have e8:(s.toList == [47,47])=false:=nq_ hs
  have e9:(s.toList == [114,101,109])=false:=nq_ hs
  have e10:(s.toList == [109,111,100])=false:=nq_ hs
  have e11:(s.toList == [62,62])=false:=nq_ hs
  have e12:(s.toList == [60,60])=false:=nq_ hs
  clear hs
  have hk0:Keep (fun g=>g < w.heap.size) w (w.alloc (Obj.cells #[Value.int IntKind.i64 a,Value.int IntKind.i64 b] 60)):=(Keep.refl _ w).alloc _
  have HK:=Lib.hid hk0;clear hk0
  go_wp2_with fail
  refine (dif_any _ _ _ HA.out HB.out).mono ?_
  rintro e w1 ⟨rfl,hk⟩
  go_wp2_with fail
  exact ar_ret (l:=(big (a - b)).2) rfl rfl rfl rfl rfl (HK.out.onto hk) rfl
set_option maxHeartbeats 1000000 in
theorem two_mul (w:World) (a b:Int) (ha:inR a) (hb:inR b):Calls Try.prog 58 #[.string (str [42]),.agg #[.int .i64 a,.int .i64 b]] w fun e w'=>e=.returned (.tuple #[.int .i64 (twoR [42] a b).1,.string (str (twoR [42] a b).2)])∧Keep (fun g=>g < w.heap.size) w w':=by
  have HA:=Lib.hid ha;have HB:=Lib.hid hb;clear ha hb
  have hsp:twoR [42] a b=big (a * b):=rfl
  rw [hsp];clear hsp
  go_enter Try.func58,Try.ntmps58
  generalize hs:str [42]=s
  have e0:(s.toList == [43])=false:=nq_ hs
  have e1:(s.toList == [45])=false:=nq_ hs
  have e2:(s.toList == [42])=true:=by rw [← hs,str_eq];decide
  have e3:(s.toList == [109,105,110])=false:=nq_ hs
  have e4:(s.toList == [109,97,120])=false:=nq_ hs
  have e5:(s.toList == [47,92])=false:=nq_ hs
  have e6:(s.toList == [92,47])=false:=nq_ hs
  have e7:(s.toList == [120,111,114])=false:=nq_ hs
  have e8:(s.toList == [47,47])=false:=nq_ hs
  have e9:(s.toList == [114,101,109])=false:=nq_ hs
  have e10:(s.toList == [109,111,100])=false:=nq_ hs
  have e11:(s.toList == [62,62])=false:=nq_ hs
  have e12:(s.toList == [60,60])=false:=nq_ hs
  clear hs
  have hk0:Keep (fun g=>g < w.heap.size) w (w.alloc (Obj.cells #[Value.int IntKind.i64 a,Value.int IntKind.i64 b] 60)):=(Keep.refl _ w).alloc _
  have HK:=Lib.hid hk0;clear hk0
  go_wp2_with fail
  refine (mul_any _ _ _ HA.out HB.out).mono ?_
  rintro e w1 ⟨rfl,hk⟩
  go_wp2_with fail
  exact ar_ret (l:=(big (a * b)).2) rfl rfl rfl rfl rfl (HK.out.onto hk) rfl
set_option maxHeartbeats 1000000 in
theorem two_min (w:World) (a b:Int) (ha:inR a) (hb:inR b):Calls Try.prog 58 #[.string (str [109,105,110]),.agg #[.int .i64 a,.int .i64 b]] w fun e w'=>e=.returned (.tuple #[.int .i64 (twoR [109,105,110] a b).1,.string (str (twoR [109,105,110] a b).2)])∧Keep (fun g=>g < w.heap.size) w w':=by
  have HA:=Lib.hid ha;have HB:=Lib.hid hb;clear ha hb
  have hsp:twoR [109,105,110] a b=(min a b,[]):=rfl
  rw [hsp];clear hsp
  go_enter Try.func58,Try.ntmps58
  generalize hs:str [109,105,110]=s
  have e0:(s.toList == [43])=false:=nq_ hs
  have e1:(s.toList == [45])=false:=nq_ hs
  have e2:(s.toList == [42])=false:=nq_ hs
  have e3:(s.toList == [109,105,110])=true:=by rw [← hs,str_eq];decide
  have e4:(s.toList == [109,97,120])=false:=nq_ hs
  have e5:(s.toList == [47,92])=false:=nq_ hs
  have e6:(s.toList == [92,47])=false:=nq_ hs
  have e7:(s.toList == [120,111,114])=false:=nq_ hs
  have e8:(s.toList == [47,47])=false:=nq_ hs
  have e9:(s.toList == [114,101,109])=false:=nq_ hs
  have e10:(s.toList == [109,111,100])=false:=nq_ hs
  have e11:(s.toList == [62,62])=false:=nq_ hs
  have e12:(s.toList == [60,60])=false:=nq_ hs
  clear hs
  have hk0:Keep (fun g=>g < w.heap.size) w (w.alloc (Obj.cells #[Value.int IntKind.i64 a,Value.int IntKind.i64 b] 60)):=(Keep.refl _ w).alloc _
  have HK:=Lib.hid hk0;clear hk0
  go_wp2_with fail
  exact ar_ret (l:=[]) rfl rfl rfl rfl rfl HK.out rfl
set_option maxHeartbeats 1000000 in
theorem two_max (w:World) (a b:Int) (ha:inR a) (hb:inR b):Calls Try.prog 58 #[.string (str [109,97,120]),.agg #[.int .i64 a,.int .i64 b]] w fun e w'=>e=.returned (.tuple #[.int .i64 (twoR [109,97,120] a b).1,.string (str (twoR [109,97,120] a b).2)])∧Keep (fun g=>g < w.heap.size) w w':=by
  have HA:=Lib.hid ha;have HB:=Lib.hid hb;clear ha hb
  have hsp:twoR [109,97,120] a b=(max a b,[]):=rfl
  rw [hsp];clear hsp
  go_enter Try.func58,Try.ntmps58
  generalize hs:str [109,97,120]=s
  have e0:(s.toList == [43])=false:=nq_ hs
  have e1:(s.toList == [45])=false:=nq_ hs
  have e2:(s.toList == [42])=false:=nq_ hs
  have e3:(s.toList == [109,105,110])=false:=nq_ hs
  have e4:(s.toList == [109,97,120])=true:=by rw [← hs,str_eq];decide
  have e5:(s.toList == [47,92])=false:=nq_ hs
  have e6:(s.toList == [92,47])=false:=nq_ hs
  have e7:(s.toList == [120,111,114])=false:=nq_ hs
  have e8:(s.toList == [47,47])=false:=nq_ hs
  have e9:(s.toList == [114,101,109])=false:=nq_ hs
  have e10:(s.toList == [109,111,100])=false:=nq_ hs
  have e11:(s.toList == [62,62])=false:=nq_ hs
  have e12:(s.toList == [60,60])=false:=nq_ hs
  clear hs
  have hk0:Keep (fun g=>g < w.heap.size) w (w.alloc (Obj.cells #[Value.int IntKind.i64 a,Value.int IntKind.i64 b] 60)):=(Keep.refl _ w).alloc _
  have HK:=Lib.hid hk0;clear hk0
  go_wp2_with fail
  exact ar_ret (l:=[]) rfl rfl rfl rfl rfl HK.out rfl
set_option maxHeartbeats 1000000 in
theorem two_and (w:World) (a b:Int) (ha:inR a) (hb:inR b):Calls Try.prog 58 #[.string (str [47,92]),.agg #[.int .i64 a,.int .i64 b]] w fun e w'=>e=.returned (.tuple #[.int .i64 (twoR [47,92] a b).1,.string (str (twoR [47,92] a b).2)])∧Keep (fun g=>g < w.heap.size) w w':=by
  have HA:=Lib.hid ha;have HB:=Lib.hid hb;clear ha hb
  have hsp:twoR [47,92] a b=(bits .and .i64 a b,[]):=rfl
  rw [hsp];clear hsp
  go_enter Try.func58,Try.ntmps58
  generalize hs:str [47,92]=s
  have e0:(s.toList == [43])=false:=nq_ hs
  have e1:(s.toList == [45])=false:=nq_ hs
  have e2:(s.toList == [42])=false:=nq_ hs
  have e3:(s.toList == [109,105,110])=false:=nq_ hs
  have e4:(s.toList == [109,97,120])=false:=nq_ hs
  have e5:(s.toList == [47,92])=true:=by rw [← hs,str_eq];decide
  have e6:(s.toList == [92,47])=false:=nq_ hs
  have e7:(s.toList == [120,111,114])=false:=nq_ hs
  have e8:(s.toList == [47,47])=false:=nq_ hs
  have e9:(s.toList == [114,101,109])=false:=nq_ hs
  have e10:(s.toList == [109,111,100])=false:=nq_ hs
  have e11:(s.toList == [62,62])=false:=nq_ hs
  have e12:(s.toList == [60,60])=false:=nq_ hs
  clear hs
  have hk0:Keep (fun g=>g < w.heap.size) w (w.alloc (Obj.cells #[Value.int IntKind.i64 a,Value.int IntKind.i64 b] 60)):=(Keep.refl _ w).alloc _
  have HK:=Lib.hid hk0;clear hk0
  go_wp2_with fail
  exact ar_ret (l:=[]) rfl rfl rfl rfl rfl HK.out rfl
set_option maxHeartbeats 1000000 in
theorem two_or (w:World) (a b:Int) (ha:inR a) (hb:inR b):Calls Try.prog 58 #[.string (str [92,47]),.agg #[.int .i64 a,.int .i64 b]] w fun e w'=>e=.returned (.tuple #[.int .i64 (twoR [92,47] a b).1,.string (str (twoR [92,47] a b).2)])∧Keep (fun g=>g < w.heap.size) w w':=by
  have HA:=Lib.hid ha;have HB:=Lib.hid hb;clear ha hb
  have hsp:twoR [92,47] a b=(bits .or .i64 a b,[]):=rfl
  rw [hsp];clear hsp
  go_enter Try.func58,Try.ntmps58
  generalize hs:str [92,47]=s
  have e0:(s.toList == [43])=false:=nq_ hs
  have e1:(s.toList == [45])=false:=nq_ hs
  have e2:(s.toList == [42])=false:=nq_ hs
  have e3:(s.toList == [109,105,110])=false:=nq_ hs
  have e4:(s.toList == [109,97,120])=false:=nq_ hs
  have e5:(s.toList == [47,92])=false:=nq_ hs
  have e6:(s.toList == [92,47])=true:=by rw [← hs,str_eq];decide
  have e7:(s.toList == [120,111,114])=false:=nq_ hs
  have e8:(s.toList == [47,47])=false:=nq_ hs
  have e9:(s.toList == [114,101,109])=false:=nq_ hs
  have e10:(s.toList == [109,111,100])=false:=nq_ hs
  have e11:(s.toList == [62,62])=false:=nq_ hs
  have e12:(s.toList == [60,60])=false:=nq_ hs
  clear hs
  have hk0:Keep (fun g=>g < w.heap.size) w (w.alloc (Obj.cells #[Value.int IntKind.i64 a,Value.int IntKind.i64 b] 60)):=(Keep.refl _ w).alloc _
  have HK:=Lib.hid hk0;clear hk0
  go_wp2_with fail
  exact ar_ret (l:=[]) rfl rfl rfl rfl rfl HK.out rfl
set_option maxHeartbeats 1000000 in
theorem two_xor (w:World) (a b:Int) (ha:inR a) (hb:inR b):Calls Try.prog 58 #[.string (str [120,111,114]),.agg #[.int .i64 a,.int .i64 b]] w fun e w'=>e=.returned (.tuple #[.int .i64 (twoR [120,111,114] a b).1,.string (str (twoR [120,111,114] a b).2)])∧Keep (fun g=>g < w.heap.size) w w':=by
  have HA:=Lib.hid ha;have HB:=Lib.hid hb;clear ha hb
  have hsp:twoR [120,111,114] a b=(bits .xor .i64 a b,[]):=rfl
  rw [hsp];clear hsp
  go_enter Try.func58,Try.ntmps58
  generalize hs:str [120,111,114]=s
  have e0:(s.toList == [43])=false:=nq_ hs
  have e1:(s.toList == [45])=false:=nq_ hs
  have e2:(s.toList == [42])=false:=nq_ hs
  have e3:(s.toList == [109,105,110])=false:=nq_ hs
  have e4:(s.toList == [109,97,120])=false:=nq_ hs
  have e5:(s.toList == [47,92])=false:=nq_ hs
  have e6:(s.toList == [92,47])=false:=nq_ hs
  have e7:(s.toList == [120,111,114])=true:=by rw [← hs,str_eq];decide
  have e8:(s.toList == [47,47])=false:=nq_ hs
  have e9:(s.toList == [114,101,109])=false:=nq_ hs
  have e10:(s.toList == [109,111,100])=false:=nq_ hs
  have e11:(s.toList == [62,62])=false:=nq_ hs
  have e12:(s.toList == [60,60])=false:=nq_ hs
  clear hs
  have hk0:Keep (fun g=>g < w.heap.size) w (w.alloc (Obj.cells #[Value.int IntKind.i64 a,Value.int IntKind.i64 b] 60)):=(Keep.refl _ w).alloc _
  have HK:=Lib.hid hk0;clear hk0
  go_wp2_with fail
  exact ar_ret (l:=[]) rfl rfl rfl rfl rfl HK.out rfl
set_option maxHeartbeats 1000000 in
theorem two_quo (w:World) (a b:Int) (ha:inR a) (hb:inR b):Calls Try.prog 58 #[.string (str [47,47]),.agg #[.int .i64 a,.int .i64 b]] w fun e w'=>e=.returned (.tuple #[.int .i64 (twoR [47,47] a b).1,.string (str (twoR [47,47] a b).2)])∧Keep (fun g=>g < w.heap.size) w w':=by
  have HA:=Lib.hid ha;have HB:=Lib.hid hb;clear ha hb
  have hsp:twoR [47,47] a b=quoR a b:=rfl
  rw [hsp];clear hsp
  go_enter Try.func58,Try.ntmps58
  generalize hs:str [47,47]=s
  have e0:(s.toList == [43])=false:=nq_ hs
  have e1:(s.toList == [45])=false:=nq_ hs
  have e2:(s.toList == [42])=false:=nq_ hs
  have e3:(s.toList == [109,105,110])=false:=nq_ hs
  have e4:(s.toList == [109,97,120])=false:=nq_ hs
  have e5:(s.toList == [47,92])=false:=nq_ hs
  have e6:(s.toList == [92,47])=false:=nq_ hs
  have e7:(s.toList == [120,111,114])=false:=nq_ hs
  have e8:(s.toList == [47,47])=true:=by rw [← hs,str_eq];decide
  have e9:(s.toList == [114,101,109])=false:=nq_ hs
  have e10:(s.toList == [109,111,100])=false:=nq_ hs
  have e11:(s.toList == [62,62])=false:=nq_ hs
  have e12:(s.toList == [60,60])=false:=nq_ hs
  clear hs
  have hk0:Keep (fun g=>g < w.heap.size) w (w.alloc (Obj.cells #[Value.int IntKind.i64 a,Value.int IntKind.i64 b] 60)):=(Keep.refl _ w).alloc _
  have HK:=Lib.hid hk0;clear hk0
  go_wp2_with fail
  refine (quo_any _ _ _ HA.out HB.out).mono ?_
  rintro e w1 ⟨rfl,hk⟩
  go_wp2_with fail
  exact ar_ret (l:=(quoR a b).2) rfl rfl rfl rfl rfl (HK.out.onto hk) rfl
set_option maxHeartbeats 1000000 in
theorem two_rem (w:World) (a b:Int) (ha:inR a) (hb:inR b):Calls Try.prog 58 #[.string (str [114,101,109]),.agg #[.int .i64 a,.int .i64 b]] w fun e w'=>e=.returned (.tuple #[.int .i64 (twoR [114,101,109] a b).1,.string (str (twoR [114,101,109] a b).2)])∧Keep (fun g=>g < w.heap.size) w w':=by
  have HA:=Lib.hid ha;have HB:=Lib.hid hb;clear ha hb
  have hsp:twoR [114,101,109] a b=remR a b:=rfl
  rw [hsp];clear hsp
  go_enter Try.func58,Try.ntmps58
  generalize hs:str [114,101,109]=s
  have e0:(s.toList == [43])=false:=nq_ hs
  have e1:(s.toList == [45])=false:=nq_ hs
  have e2:(s.toList == [42])=false:=nq_ hs
  have e3:(s.toList == [109,105,110])=false:=nq_ hs
  have e4:(s.toList == [109,97,120])=false:=nq_ hs
  have e5:(s.toList == [47,92])=false:=nq_ hs
  have e6:(s.toList == [92,47])=false:=nq_ hs
  have e7:(s.toList == [120,111,114])=false:=nq_ hs
  have e8:(s.toList == [47,47])=false:=nq_ hs
  have e9:(s.toList == [114,101,109])=true:=by rw [← hs,str_eq];decide
  have e10:(s.toList == [109,111,100])=false:=nq_ hs
  have e11:(s.toList == [62,62])=false:=nq_ hs
  have e12:(s.toList == [60,60])=false:=nq_ hs
  clear hs
  have hk0:Keep (fun g=>g < w.heap.size) w (w.alloc (Obj.cells #[Value.int IntKind.i64 a,Value.int IntKind.i64 b] 60)):=(Keep.refl _ w).alloc _
  have HK:=Lib.hid hk0;clear hk0
  go_wp2_with fail
  refine (rem_any _ _ _ HA.out HB.out).mono ?_
  rintro e w1 ⟨rfl,hk⟩
  go_wp2_with fail
  exact ar_ret (l:=(remR a b).2) rfl rfl rfl rfl rfl (HK.out.onto hk) rfl
set_option maxHeartbeats 1000000 in
theorem two_mod (w:World) (a b:Int) (ha:inR a) (hb:inR b):Calls Try.prog 58 #[.string (str [109,111,100]),.agg #[.int .i64 a,.int .i64 b]] w fun e w'=>e=.returned (.tuple #[.int .i64 (twoR [109,111,100] a b).1,.string (str (twoR [109,111,100] a b).2)])∧Keep (fun g=>g < w.heap.size) w w':=by
  have HA:=Lib.hid ha;have HB:=Lib.hid hb;clear ha hb
  have hsp:twoR [109,111,100] a b=modR a b:=rfl
  rw [hsp];clear hsp
  go_enter Try.func58,Try.ntmps58
  generalize hs:str [109,111,100]=s
  have e0:(s.toList == [43])=false:=nq_ hs
  have e1:(s.toList == [45])=false:=nq_ hs
  have e2:(s.toList == [42])=false:=nq_ hs
  have e3:(s.toList == [109,105,110])=false:=nq_ hs
  have e4:(s.toList == [109,97,120])=false:=nq_ hs
  have e5:(s.toList == [47,92])=false:=nq_ hs
  have e6:(s.toList == [92,47])=false:=nq_ hs
  have e7:(s.toList == [120,111,114])=false:=nq_ hs
  have e8:(s.toList == [47,47])=false:=nq_ hs
  have e9:(s.toList == [114,101,109])=false:=nq_ hs
  have e10:(s.toList == [109,111,100])=true:=by rw [← hs,str_eq];decide
  have e11:(s.toList == [62,62])=false:=nq_ hs
  have e12:(s.toList == [60,60])=false:=nq_ hs
  clear hs
  have hk0:Keep (fun g=>g < w.heap.size) w (w.alloc (Obj.cells #[Value.int IntKind.i64 a,Value.int IntKind.i64 b] 60)):=(Keep.refl _ w).alloc _
  have HK:=Lib.hid hk0;clear hk0
  go_wp2_with fail
  refine (mod_any _ _ _ HA.out HB.out).mono ?_
  rintro e w1 ⟨rfl,hk⟩
  go_wp2_with fail
  exact ar_ret (l:=(modR a b).2) rfl rfl rfl rfl rfl (HK.out.onto hk) rfl
set_option maxHeartbeats 1000000 in
theorem two_shr (w:World) (a b:Int) (ha:inR a) (hb:inR b):Calls Try.prog 58 #[.string (str [62,62]),.agg #[.int .i64 a,.int .i64 b]] w fun e w'=>e=.returned (.tuple #[.int .i64 (twoR [62,62] a b).1,.string (str (twoR [62,62] a b).2)])∧Keep (fun g=>g < w.heap.size) w w':=by
  have HA:=Lib.hid ha;have HB:=Lib.hid hb;clear ha hb
  have hsp:twoR [62,62] a b=shrR a b:=rfl
  rw [hsp];clear hsp
  go_enter Try.func58,Try.ntmps58
  generalize hs:str [62,62]=s
  have e0:(s.toList == [43])=false:=nq_ hs
  have e1:(s.toList == [45])=false:=nq_ hs
  have e2:(s.toList == [42])=false:=nq_ hs
  have e3:(s.toList == [109,105,110])=false:=nq_ hs
  have e4:(s.toList == [109,97,120])=false:=nq_ hs
  have e5:(s.toList == [47,92])=false:=nq_ hs
  have e6:(s.toList == [92,47])=false:=nq_ hs
  have e7:(s.toList == [120,111,114])=false:=nq_ hs
  have e8:(s.toList == [47,47])=false:=nq_ hs
  have e9:(s.toList == [114,101,109])=false:=nq_ hs
  have e10:(s.toList == [109,111,100])=false:=nq_ hs
  have e11:(s.toList == [62,62])=true:=by rw [← hs,str_eq];decide
  have e12:(s.toList == [60,60])=false:=nq_ hs
  clear hs
  have hk0:Keep (fun g=>g < w.heap.size) w (w.alloc (Obj.cells #[Value.int IntKind.i64 a,Value.int IntKind.i64 b] 60)):=(Keep.refl _ w).alloc _
  have HK:=Lib.hid hk0;clear hk0
  go_wp2_with fail
  refine (shr_any _ _ _ HA.out HB.out).mono ?_
  rintro e w1 ⟨rfl,hk⟩
  go_wp2_with fail
  exact ar_ret (l:=(shrR a b).2) rfl rfl rfl rfl rfl (HK.out.onto hk) rfl
set_option maxHeartbeats 1000000 in
theorem two_shl (w:World) (a b:Int) (ha:inR a) (hb:inR b):Calls Try.prog 58 #[.string (str [60,60]),.agg #[.int .i64 a,.int .i64 b]] w fun e w'=>e=.returned (.tuple #[.int .i64 (twoR [60,60] a b).1,.string (str (twoR [60,60] a b).2)])∧Keep (fun g=>g < w.heap.size) w w':=by
  have HA:=Lib.hid ha;have HB:=Lib.hid hb;clear ha hb
  have hsp:twoR [60,60] a b=shlR a b:=rfl
  rw [hsp];clear hsp
  go_enter Try.func58,Try.ntmps58
  generalize hs:str [60,60]=s
  have e0:(s.toList == [43])=false:=nq_ hs
  have e1:(s.toList == [45])=false:=nq_ hs
  have e2:(s.toList == [42])=false:=nq_ hs
  have e3:(s.toList == [109,105,110])=false:=nq_ hs
  have e4:(s.toList == [109,97,120])=false:=nq_ hs
  have e5:(s.toList == [47,92])=false:=nq_ hs
  have e6:(s.toList == [92,47])=false:=nq_ hs
  have e7:(s.toList == [120,111,114])=false:=nq_ hs
  have e8:(s.toList == [47,47])=false:=nq_ hs
  have e9:(s.toList == [114,101,109])=false:=nq_ hs
  have e10:(s.toList == [109,111,100])=false:=nq_ hs
  have e11:(s.toList == [62,62])=false:=nq_ hs
  have e12:(s.toList == [60,60])=true:=by rw [← hs,str_eq];decide
  clear hs
  have hk0:Keep (fun g=>g < w.heap.size) w (w.alloc (Obj.cells #[Value.int IntKind.i64 a,Value.int IntKind.i64 b] 60)):=(Keep.refl _ w).alloc _
  have HK:=Lib.hid hk0;clear hk0
  go_wp2_with fail
  refine (shl_any _ _ _ HA.out HB.out).mono ?_
  rintro e w1 ⟨rfl,hk⟩
  go_wp2_with fail
  exact ar_ret (l:=(shlR a b).2) rfl rfl rfl rfl rfl (HK.out.onto hk) rfl
set_option maxHeartbeats 1000000 in
theorem two_none (w:World) (nm:List UInt8) (a b:Int) (ha:inR a) (hb:inR b) (h:((str nm).toList == [43])=false∧((str nm).toList == [45])=false∧((str nm).toList == [42])=false∧((str nm).toList == [109,105,110])=false∧((str nm).toList == [109,97,120])=false∧((str nm).toList == [47,92])=false∧((str nm).toList == [92,47])=false∧((str nm).toList == [120,111,114])=false∧((str nm).toList == [47,47])=false∧((str nm).toList == [114,101,109])=false∧((str nm).toList == [109,111,100])=false∧((str nm).toList == [62,62])=false∧((str nm).toList == [60,60])=false):Calls Try.prog 58 #[.string (str nm),.agg #[.int .i64 a,.int .i64 b]] w fun e w'=>e=.returned (.tuple #[.int .i64 (twoR nm a b).1,.string (str (twoR nm a b).2)])∧Keep (fun g=>g < w.heap.size) w w':=by
  have hs:twoR nm a b=powR a b:=by
    simp only [str_eq,decide_eq_false_iff_not] at h
    simp only [twoR,h,if_false]
  rw [hs];clear hs
  have HA:=Lib.hid ha;have HB:=Lib.hid hb;clear ha hb
  obtain ⟨e0,e1,e2,e3,e4,e5,e6,e7,e8,e9,e10,e11,e12⟩:=h
  have hk0:Keep (fun g=>g < w.heap.size) w (w.alloc (Obj.cells #[Value.int IntKind.i64 a,Value.int IntKind.i64 b] 60)):=(Keep.refl _ w).alloc _
  have HK:=Lib.hid hk0;clear hk0
  go_enter Try.func58,Try.ntmps58
  go_wp2_with fail
  refine (pow_any _ _ _ HA.out HB.out).mono ?_
  rintro e w1 ⟨rfl,hk⟩
  go_wp2_with fail
  exact ar_ret (l:=(powR a b).2) rfl rfl rfl rfl rfl (HK.out.onto hk) rfl
theorem callTwo_any (w:World) (nm:List UInt8) (a b:Int) (ha:inR a) (hb:inR b):Calls Try.prog 58 #[.string (str nm),.agg #[.int .i64 a,.int .i64 b]] w fun e w'=>e=.returned (.tuple #[.int .i64 (twoR nm a b).1,.string (str (twoR nm a b).2)])∧Keep (fun g=>g < w.heap.size) w w':=by
  rcases name_two nm with rfl | rfl | rfl | rfl | rfl | rfl | rfl | rfl | rfl | rfl | rfl | rfl | rfl | h
  · exact two_plus w a b ha hb
  · exact two_minus w a b ha hb
  · exact two_mul w a b ha hb
  · exact two_min w a b ha hb
  · exact two_max w a b ha hb
  · exact two_and w a b ha hb
  · exact two_or w a b ha hb
  · exact two_xor w a b ha hb
  · exact two_quo w a b ha hb
  · exact two_rem w a b ha hb
  · exact two_mod w a b ha hb
  · exact two_shr w a b ha hb
  · exact two_shl w a b ha hb
  · exact two_none w nm a b ha hb h
def callR (nm:List UInt8) (n:Nat) (a b:Int):Rs:=if n=1 then oneR nm a else twoR nm a b
set_option maxHeartbeats 1000000 in
theorem call_any (w:World) (nm:List UInt8) (n:Nat) (a b:Int) (ha:inR a) (hb:inR b):Calls Try.prog 42 #[.string (str nm),.int .i64 n,.agg #[.int .i64 a,.int .i64 b]] w fun e w'=>e=.returned (.tuple #[.int .i64 (callR nm n a b).1,.string (str (callR nm n a b).2)])∧Keep (fun g=>g < w.heap.size) w w':=by
  have HA:=Lib.hid ha;have HB:=Lib.hid hb;clear ha hb
  have hk0:Keep (fun g=>g < w.heap.size) w (w.alloc (Obj.cells #[Value.int IntKind.i64 a,Value.int IntKind.i64 b] 60)):=(Keep.refl _ w).alloc _
  have HK:=Lib.hid hk0;clear hk0
  generalize hs:str nm=s
  go_enter Try.func42,Try.ntmps42
  by_cases hn:n=1
  · have hsp:callR nm n a b=oneR nm a:=if_pos hn
    rw [hsp];clear hsp
    have hc:((n:Int) == 1)=true:=by rw [cast1];simpa using hn
    go_wp2_with fail
    all_goals try (subst hs;refine (callOne_any _ _ _ HA.out).mono ?_;rintro e w1 ⟨rfl,hk⟩;go_wp2_with fail;exact ar_ret (l:=(oneR nm a).2) rfl rfl rfl rfl rfl (HK.out.onto hk) rfl)
    all_goals first | (exfalso;simp_all;done) | trace_state
  · have hsp:callR nm n a b=twoR nm a b:=if_neg hn
    rw [hsp];clear hsp
    have hc:((n:Int) == 1)=false:=by rw [cast1];simpa using hn
    go_wp2_with fail
    all_goals try (subst hs;refine (callTwo_any _ _ _ _ HA.out HB.out).mono ?_;rintro e w1 ⟨rfl,hk⟩;go_wp2_with fail;exact ar_ret (l:=(twoR nm a b).2) rfl rfl rfl rfl rfl (HK.out.onto hk) rfl)
    all_goals first | (exfalso;simp_all;done) | trace_state
end Go.Proofs.Ytmgephleogiaoaa
