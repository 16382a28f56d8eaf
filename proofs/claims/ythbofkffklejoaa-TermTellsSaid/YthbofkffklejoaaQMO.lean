/-
  Joined texts (Tv27, Tv28). No condition.
-/
import Derived.Test.YthbofkffklejoaaQMM
import Derived.Test.YthbofkffklejoaaQMN
import Derived.Deep.CutRange
namespace Go.Proofs.Ythbofkffklejoaa
open Go.RowKit Go.Maps
set_option linter.unusedVariables false
set_option linter.unusedSimpArgs false
section
variable {W : World} {a b : Option Addr} {c d : Nat}
theorem q_same (h : TmAt W.heap.size W RR a c) (k : TmAt W.heap.size W RR b d) : Calls Try.prog 38 #[.agg #[.int .i64 4, .string ⟨#[102]⟩, .int .i64 0, .slice a 3 c], .agg #[.int .i64 4, .string ⟨#[102]⟩, .int .i64 0, .slice b 3 d]] W fun e w' => e = .returned (.bool true) ∧ Keep (fun g => g < W.heap.size) W w' := by
  have h1 := refSame_any h k (by kernel_rfl) (by kernel_rfl)
  rw [cl_rf] at h1
  exact h1
theorem q_ord1 : Calls Try.prog 20 #[.agg #[.int .i64 1, .string ⟨#[]⟩, .int .i64 9, .slice none 0 0], .agg #[.int .i64 2, .string ⟨#[]⟩, .int .i64 3, .slice none 0 0]] W fun e w' => e = .returned (.int .i64 (-1)) ∧ Keep (fun g => g < W.heap.size) W w' := by
  have h1 := Order_any (w := W) (t := xV 9) (u := xN 3) (a := none) (b := none) (c := 0) (d := 0) (tm_leaf (by decide) (by decide) (by decide)) (tm_leaf (by decide) (by decide) (by decide))
  rw [cl_o1] at h1
  exact h1
theorem q_ord2 (h : TmAt W.heap.size W (xC [103] [xA [97]]) a c) (k : TmAt W.heap.size W (xC [102] [xA [97], xA [97]]) b d) : Calls Try.prog 20 #[.agg #[.int .i64 4, .string ⟨#[103]⟩, .int .i64 0, .slice a 1 c], .agg #[.int .i64 4, .string ⟨#[102]⟩, .int .i64 0, .slice b 2 d]] W fun e w' => e = .returned (.int .i64 (-1)) ∧ Keep (fun g => g < W.heap.size) W w' := by
  have h1 := Order_any h k
  rw [cl_o2] at h1
  exact h1
theorem q_size (h : TmAt W.heap.size W LL a c) : Calls Try.prog 16 #[.agg #[.int .i64 4, .string ⟨#[46]⟩, .int .i64 0, .slice a 2 c]] W fun e w' => e = .returned (.int .i64 5) ∧ Keep (fun g => g < W.heap.size) W w' := by
  have h1 := size_any h
  rw [cl_sz] at h1
  exact h1
theorem q_depth (h : TmAt W.heap.size W LL a c) : Calls Try.prog 17 #[.agg #[.int .i64 4, .string ⟨#[46]⟩, .int .i64 0, .slice a 2 c]] W fun e w' => e = .returned (.int .i64 3) ∧ Keep (fun g => g < W.heap.size) W w' := by
  have h1 := depth_any h
  rw [cl_dp] at h1
  exact h1
theorem q_vars (h : TmAt W.heap.size W RR a c) : Calls Try.prog 18 #[.agg #[.int .i64 4, .string ⟨#[102]⟩, .int .i64 0, .slice a 3 c]] W fun e w' => ∃ g k, e = .returned (.slice (some ⟨g, 0, none⟩) 2 k) ∧ Keep (fun g => g < W.heap.size) W w' := by
  have h1 := Vars_any h
  rw [cl_va] at h1
  refine Calls.mono h1 ?_
  rintro e w' ⟨u, rfl, hr, hk⟩
  obtain ⟨g, cap, cs, rfl, _⟩ := row_some hr (by decide)
  exact ⟨g, cap, rfl, hk⟩
theorem q_sm (h : TmAt W.heap.size W RR a c) : Calls Try.prog 19 #[.agg #[.int .i64 4, .string ⟨#[102]⟩, .int .i64 0, .slice a 3 c], .agg #[.int .i64 4, .string ⟨#[102]⟩, .int .i64 0, .slice a 3 c]] W fun e w' => e = .returned (.bool true) ∧ Keep (fun g => g < W.heap.size) W w' := by
  have h1 := Same_any h h
  rw [cl_sm] at h1
  exact h1
theorem q_check (h : TmAt W.heap.size W RR a c) : Calls Try.prog 15 #[.agg #[.int .i64 4, .string ⟨#[102]⟩, .int .i64 0, .slice a 3 c]] W fun e w' => e = .returned (.int .i64 0) ∧ Keep (fun g => g < W.heap.size) W w' := by
  have h1 := check_any h
  rw [cl_ck] at h1
  exact h1
theorem q_vt (h : TmAt W.heap.size W RR a c) (k : TmAt W.heap.size W FV b d) : Calls Try.prog 21 #[.agg #[.int .i64 4, .string ⟨#[102]⟩, .int .i64 0, .slice a 3 c], .agg #[.int .i64 4, .string ⟨#[102]⟩, .int .i64 0, .slice b 3 d]] W fun e w' => e = .returned (.bool true) ∧ Keep (fun g => g < W.heap.size) W w' := by
  have h1 := Variant_any h k
  rw [cl_vt] at h1
  exact h1
end
set_option maxRecDepth 100000 in
set_option maxHeartbeats 4000000 in
theorem r10_any {W25 : World} {ba br bl be g3 c3 : Nat} {ar al : Option Addr} {cr cl : Nat} (hHS : ∀ W, Keep (fun g => g < W25.heap.size) W25 W → W.cell? ⟨ba, 0, none⟩ = some (.int .i64 3) ∧ W.cell? ⟨ba, 1, none⟩ = some (.string ⟨#[97]⟩) ∧ W.cell? ⟨ba, 2, none⟩ = some (.int .i64 0) ∧ W.cell? ⟨ba, 3, none⟩ = some (.slice none 0 0) ∧ W.cell? ⟨br, 0, none⟩ = some (.int .i64 4) ∧ W.cell? ⟨br, 1, none⟩ = some (.string ⟨#[102]⟩) ∧ W.cell? ⟨br, 2, none⟩ = some (.int .i64 0) ∧ W.cell? ⟨br, 3, none⟩ = some (.slice ar 3 cr) ∧ W.cell? ⟨bl, 0, none⟩ = some (.int .i64 4) ∧ W.cell? ⟨bl, 1, none⟩ = some (.string ⟨#[46]⟩) ∧ W.cell? ⟨bl, 2, none⟩ = some (.int .i64 0) ∧ W.cell? ⟨bl, 3, none⟩ = some (.slice al 2 cl) ∧ W.cell? ⟨be, 1, none⟩ = some (.string ⟨#[91, 93]⟩)) (hRR : TmAt W25.heap.size W25 RR ar cr) (hLL : TmAt W25.heap.size W25 LL al cl) {Q : Exit → Act → World → Prop} {u0 u2 u3 u4 u5 u6 u7 u8 u9 u10 u11 u13 u14 u19 u20 u21 u22 u23 u24 u25 u26 u27 u28 u29 u30 u31 u32 u33 u34 u35 u36 u37 u38 u39 u40 u41 u42 u43 u44 u45 u46 u47 u48 u49 u50 u51 u52 u53 u54 u55 u56 u57 u58 u59 u60 u61 u62 u63 u64 u65 u66 u67 u68 u69 u70 u71 u72 u73 u74 u75 u76 u77 u78 u79 u80 u81 u82 u83 u84 u85 u86 u87 u88 u89 u90 u91 u92 u93 u94 u95 u96 u97 u98 u99 u100 u101 u102 u103 u104 u105 u106 u107 u108 u109 u110 u111 u112 u113 u114 u115 u116 u117 u118 u119 u120 u121 u122 u123 u124 u125 u126 u127 u128 u129 u130 u131 u132 u133 u134 u135 u136 u137 u138 u139 u140 u141 u142 u143 u144 u145 u146 u147 u148 u149 u150 u151 u152 u153 u154 u155 u156 u157 u158 u159 u160 u161 u162 u163 u164 u165 u166 u167 u168 u169 u170 u171 u172 u173 u174 u175 u176 u177 u178 u179 u180 u181 u182 u183 u184 u185 u186 u187 u188 u189 u190 u191 u192 u193 u194 u195 u196 u197 u198 u199 u200 u201 u202 u203 u204 u205 u206 u207 u208 u209 u210 u211 u212 u213 u214 : Value}
    (hQ : ∀ (W : World) (s142 s143 s144 s145 s146 s147 s148 s149 s150 s151 s152 s153 s154 s155 s156 s157 s158 s159 s160 s161 s162 s163 s164 s165 s166 s167 s168 s169 s170 s171 s172 s173 s174 s175 s176 s177 s178 s179 s180 s181 s182 s183 s184 s185 s186 s187 s188 s189 s190 s191 s192 s193 s194 s195 s196 s197 s198 s199 s200 s201 s202 s203 s204 s205 s206 s207 s208 s209 s210 s211 s212 s213 s214 : Value), Keep (fun g => g < W25.heap.size) W25 W → Q .normal { tmps := #[.bool true, .pointer (some ⟨ba, 0, none⟩), u2, u3, u4, u5, u6, u7, u8, u9, u10, u11, .pointer (some ⟨br, 0, none⟩), u13, u14, .pointer (some ⟨bl, 0, none⟩), .int .i64 0, .slice (some ⟨g3, 0, none⟩) 2 c3, .pointer (some ⟨be, 0, none⟩), u19, u20, u21, u22, u23, u24, u25, u26, u27, u28, u29, u30, u31, u32, u33, u34, u35, u36, u37, u38, u39, u40, u41, u42, u43, u44, u45, u46, u47, u48, u49, u50, u51, u52, u53, u54, u55, u56, u57, u58, u59, u60, u61, u62, u63, u64, u65, u66, u67, u68, u69, u70, u71, u72, u73, u74, u75, u76, u77, u78, u79, u80, u81, u82, u83, u84, u85, u86, u87, u88, u89, u90, u91, u92, u93, u94, u95, u96, u97, u98, u99, u100, u101, u102, u103, u104, u105, u106, u107, u108, u109, u110, u111, u112, u113, u114, u115, u116, u117, u118, u119, u120, u121, u122, u123, u124, u125, u126, u127, u128, u129, u130, u131, u132, u133, u134, u135, u136, u137, u138, u139, u140, u141, s142, s143, s144, s145, s146, s147, s148, s149, s150, s151, s152, s153, s154, s155, s156, s157, s158, s159, s160, s161, s162, s163, s164, s165, s166, s167, s168, s169, s170, s171, s172, s173, s174, s175, s176, s177, s178, s179, s180, s181, s182, s183, s184, s185, s186, s187, s188, s189, s190, s191, s192, s193, s194, s195, s196, s197, s198, s199, s200, s201, s202, s203, s204, s205, s206, s207, s208, s209, s210, s211, s212, s213, s214], defers := [] } W) : (Code.region 10 (List.toArray (({ dst := some 142, op := Go.Op.load 24 (Go.Operand.tmp 12), type := 24, pos := "law.go:26", after := #[], guard := none } : Oper) :: { dst := some 143, op := Go.Op.call { callee := Go.Callee.value (Go.Operand.func 48), args := #[Go.Operand.const (Go.Value.int Go.IntKind.i64 1)], argTypes := #[2] }, type := 24, pos := "law.go:26", after := #[], guard := none } :: { dst := some 144, op := Go.Op.call { callee := Go.Callee.value (Go.Operand.func 48), args := #[Go.Operand.const (Go.Value.int Go.IntKind.i64 2)], argTypes := #[2] }, type := 24, pos := "law.go:26", after := #[{ on := 1, ground := Go.Ground.chain }], guard := none } :: { dst := some 145, op := Go.Op.call { callee := Go.Callee.value (Go.Operand.func 48), args := #[Go.Operand.const (Go.Value.int Go.IntKind.i64 1)], argTypes := #[2] }, type := 24, pos := "law.go:26", after := #[{ on := 2, ground := Go.Ground.chain }], guard := none } :: { dst := some 146, op := Go.Op.buildSlice 22 3 #[(0, Go.Operand.tmp 143), (1, Go.Operand.tmp 144), (2, Go.Operand.tmp 145)], type := 22, pos := "law.go:26", after := #[{ on := 1, ground := Go.Ground.data }, { on := 2, ground := Go.Ground.data }, { on := 3, ground := Go.Ground.data }], guard := none } :: { dst := some 147, op := Go.Op.call { callee := Go.Callee.value (Go.Operand.func 47), args := #[Go.Operand.const (Go.Value.string { data := #[102] }), Go.Operand.tmp 146], argTypes := #[9, 22] }, type := 24, pos := "law.go:26", after := #[{ on := 4, ground := Go.Ground.data }, { on := 3, ground := Go.Ground.chain }], guard := none } :: { dst := some 148, op := Go.Op.call { callee := Go.Callee.value (Go.Operand.func 38), args := #[Go.Operand.tmp 142, Go.Operand.tmp 147], argTypes := #[24, 24] }, type := 4, pos := "law.go:26", after := #[{ on := 0, ground := Go.Ground.data }, { on := 5, ground := Go.Ground.data }, { on := 5, ground := Go.Ground.chain }], guard := none } :: { dst := some 149, op := Go.Op.move (Go.Operand.tmp 148), type := 4, pos := "law.go:26", after := #[{ on := 6, ground := Go.Ground.data }, { on := 6, ground := Go.Ground.chain }], guard := none } :: { dst := some 150, op := Go.Op.call { callee := Go.Callee.value (Go.Operand.func 48), args := #[Go.Operand.const (Go.Value.int Go.IntKind.i64 9)], argTypes := #[2] }, type := 24, pos := "law.go:26", after := #[{ on := 7, ground := Go.Ground.chain }, { on := 7, ground := Go.Ground.guard }], guard := some (7, true) } :: { dst := some 151, op := Go.Op.call { callee := Go.Callee.value (Go.Operand.func 49), args := #[Go.Operand.const (Go.Value.int Go.IntKind.i64 3)], argTypes := #[2] }, type := 24, pos := "law.go:26", after := #[{ on := 8, ground := Go.Ground.chain }, { on := 7, ground := Go.Ground.guard }], guard := some (7, true) } :: { dst := some 152, op := Go.Op.call { callee := Go.Callee.value (Go.Operand.func 20), args := #[Go.Operand.tmp 150, Go.Operand.tmp 151], argTypes := #[24, 24] }, type := 3, pos := "law.go:26", after := #[{ on := 8, ground := Go.Ground.data }, { on := 9, ground := Go.Ground.data }, { on := 9, ground := Go.Ground.chain }, { on := 7, ground := Go.Ground.guard }], guard := some (7, true) } :: { dst := some 153, op := Go.Op.binOp Go.BinOp.eql 3 (Go.Operand.tmp 152) (Go.Operand.const (Go.Value.int Go.IntKind.i64 (-1))) 3, type := 4, pos := "law.go:26", after := #[{ on := 10, ground := Go.Ground.data }, { on := 7, ground := Go.Ground.guard }], guard := some (7, true) } :: { dst := some 154, op := Go.Op.pick (Go.Operand.tmp 149) (Go.Operand.tmp 153) (Go.Operand.const (Go.Value.bool false)), type := 4, pos := "law.go:26", after := #[{ on := 7, ground := Go.Ground.data }, { on := 11, ground := Go.Ground.data }], guard := none } :: { dst := some 155, op := Go.Op.move (Go.Operand.tmp 154), type := 4, pos := "law.go:26", after := #[{ on := 12, ground := Go.Ground.data }, { on := 10, ground := Go.Ground.chain }], guard := none } :: { dst := some 156, op := Go.Op.load 24 (Go.Operand.tmp 1), type := 24, pos := "law.go:26", after := #[{ on := 13, ground := Go.Ground.guard }], guard := some (13, true) } :: { dst := some 157, op := Go.Op.buildSlice 22 1 #[(0, Go.Operand.tmp 156)], type := 22, pos := "law.go:26", after := #[{ on := 14, ground := Go.Ground.data }, { on := 13, ground := Go.Ground.guard }], guard := some (13, true) } :: { dst := some 158, op := Go.Op.call { callee := Go.Callee.value (Go.Operand.func 47), args := #[Go.Operand.const (Go.Value.string { data := #[103] }), Go.Operand.tmp 157], argTypes := #[9, 22] }, type := 24, pos := "law.go:26", after := #[{ on := 15, ground := Go.Ground.data }, { on := 13, ground := Go.Ground.chain }, { on := 13, ground := Go.Ground.guard }], guard := some (13, true) } :: { dst := some 159, op := Go.Op.load 24 (Go.Operand.tmp 1), type := 24, pos := "law.go:26", after := #[{ on := 13, ground := Go.Ground.guard }], guard := some (13, true) } :: { dst := some 160, op := Go.Op.load 24 (Go.Operand.tmp 1), type := 24, pos := "law.go:26", after := #[{ on := 13, ground := Go.Ground.guard }], guard := some (13, true) } :: { dst := some 161, op := Go.Op.buildSlice 22 2 #[(0, Go.Operand.tmp 159), (1, Go.Operand.tmp 160)], type := 22, pos := "law.go:26", after := #[{ on := 17, ground := Go.Ground.data }, { on := 18, ground := Go.Ground.data }, { on := 13, ground := Go.Ground.guard }], guard := some (13, true) } :: { dst := some 162, op := Go.Op.call { callee := Go.Callee.value (Go.Operand.func 47), args := #[Go.Operand.const (Go.Value.string { data := #[102] }), Go.Operand.tmp 161], argTypes := #[9, 22] }, type := 24, pos := "law.go:26", after := #[{ on := 19, ground := Go.Ground.data }, { on := 16, ground := Go.Ground.chain }, { on := 13, ground := Go.Ground.guard }], guard := some (13, true) } :: { dst := some 163, op := Go.Op.call { callee := Go.Callee.value (Go.Operand.func 20), args := #[Go.Operand.tmp 158, Go.Operand.tmp 162], argTypes := #[24, 24] }, type := 3, pos := "law.go:26", after := #[{ on := 16, ground := Go.Ground.data }, { on := 20, ground := Go.Ground.data }, { on := 20, ground := Go.Ground.chain }, { on := 13, ground := Go.Ground.guard }], guard := some (13, true) } :: { dst := some 164, op := Go.Op.binOp Go.BinOp.eql 3 (Go.Operand.tmp 163) (Go.Operand.const (Go.Value.int Go.IntKind.i64 (-1))) 3, type := 4, pos := "law.go:26", after := #[{ on := 21, ground := Go.Ground.data }, { on := 13, ground := Go.Ground.guard }], guard := some (13, true) } :: { dst := some 165, op := Go.Op.pick (Go.Operand.tmp 155) (Go.Operand.tmp 164) (Go.Operand.const (Go.Value.bool false)), type := 4, pos := "law.go:26", after := #[{ on := 13, ground := Go.Ground.data }, { on := 22, ground := Go.Ground.data }], guard := none } :: { dst := some 166, op := Go.Op.move (Go.Operand.tmp 165), type := 4, pos := "law.go:26", after := #[{ on := 23, ground := Go.Ground.data }, { on := 21, ground := Go.Ground.chain }], guard := none } :: { dst := some 167, op := Go.Op.move (Go.Operand.tmp 16), type := 27, pos := "law.go:26", after := #[{ on := 24, ground := Go.Ground.guard }], guard := some (24, true) } :: { dst := some 168, op := Go.Op.binOp Go.BinOp.eql 27 (Go.Operand.tmp 167) (Go.Operand.const (Go.Value.int Go.IntKind.i64 0)) 27, type := 4, pos := "law.go:26", after := #[{ on := 25, ground := Go.Ground.data }, { on := 24, ground := Go.Ground.guard }], guard := some (24, true) } :: { dst := some 169, op := Go.Op.pick (Go.Operand.tmp 166) (Go.Operand.tmp 168) (Go.Operand.const (Go.Value.bool false)), type := 4, pos := "law.go:26", after := #[{ on := 24, ground := Go.Ground.data }, { on := 26, ground := Go.Ground.data }], guard := none } :: { dst := some 170, op := Go.Op.move (Go.Operand.tmp 169), type := 4, pos := "law.go:26", after := #[{ on := 27, ground := Go.Ground.data }, { on := 24, ground := Go.Ground.chain }], guard := none } :: { dst := some 171, op := Go.Op.move (Go.Operand.tmp 17), type := 22, pos := "law.go:26", after := #[{ on := 28, ground := Go.Ground.guard }], guard := some (28, true) } :: { dst := some 172, op := Go.Op.call { callee := Go.Callee.builtin Go.Builtin.len, args := #[Go.Operand.tmp 171], argTypes := #[22] }, type := 3, pos := "law.go:26", after := #[{ on := 29, ground := Go.Ground.data }, { on := 28, ground := Go.Ground.guard }], guard := some (28, true) } :: { dst := some 173, op := Go.Op.binOp Go.BinOp.eql 3 (Go.Operand.tmp 172) (Go.Operand.const (Go.Value.int Go.IntKind.i64 2)) 3, type := 4, pos := "law.go:26", after := #[{ on := 30, ground := Go.Ground.data }, { on := 28, ground := Go.Ground.guard }], guard := some (28, true) } :: { dst := some 174, op := Go.Op.pick (Go.Operand.tmp 170) (Go.Operand.tmp 173) (Go.Operand.const (Go.Value.bool false)), type := 4, pos := "law.go:26", after := #[{ on := 28, ground := Go.Ground.data }, { on := 31, ground := Go.Ground.data }], guard := none } :: { dst := some 175, op := Go.Op.move (Go.Operand.tmp 174), type := 4, pos := "law.go:26", after := #[{ on := 32, ground := Go.Ground.data }, { on := 28, ground := Go.Ground.chain }], guard := none } :: { dst := some 176, op := Go.Op.fieldAddr 24 (Go.Operand.tmp 18) 1, type := 0, pos := "law.go:26", after := #[{ on := 33, ground := Go.Ground.guard }], guard := some (33, true) } :: { dst := some 177, op := Go.Op.load 9 (Go.Operand.tmp 176), type := 9, pos := "law.go:26", after := #[{ on := 34, ground := Go.Ground.data }, { on := 33, ground := Go.Ground.guard }], guard := some (33, true) } :: { dst := some 178, op := Go.Op.binOp Go.BinOp.eql 9 (Go.Operand.tmp 177) (Go.Operand.const (Go.Value.string { data := #[91, 93] })) 9, type := 4, pos := "law.go:26", after := #[{ on := 35, ground := Go.Ground.data }, { on := 33, ground := Go.Ground.guard }], guard := some (33, true) } :: { dst := some 179, op := Go.Op.pick (Go.Operand.tmp 175) (Go.Operand.tmp 178) (Go.Operand.const (Go.Value.bool false)), type := 4, pos := "law.go:26", after := #[{ on := 33, ground := Go.Ground.data }, { on := 36, ground := Go.Ground.data }], guard := none } :: { dst := some 180, op := Go.Op.move (Go.Operand.tmp 179), type := 4, pos := "law.go:26", after := #[{ on := 37, ground := Go.Ground.data }, { on := 33, ground := Go.Ground.chain }], guard := none } :: { dst := some 181, op := Go.Op.load 24 (Go.Operand.tmp 15), type := 24, pos := "law.go:26", after := #[{ on := 38, ground := Go.Ground.guard }], guard := some (38, true) } :: { dst := some 182, op := Go.Op.call { callee := Go.Callee.value (Go.Operand.func 16), args := #[Go.Operand.tmp 181], argTypes := #[24] }, type := 3, pos := "law.go:26", after := #[{ on := 39, ground := Go.Ground.data }, { on := 38, ground := Go.Ground.chain }, { on := 38, ground := Go.Ground.guard }], guard := some (38, true) } :: { dst := some 183, op := Go.Op.binOp Go.BinOp.eql 3 (Go.Operand.tmp 182) (Go.Operand.const (Go.Value.int Go.IntKind.i64 5)) 3, type := 4, pos := "law.go:26", after := #[{ on := 40, ground := Go.Ground.data }, { on := 38, ground := Go.Ground.guard }], guard := some (38, true) } :: { dst := some 184, op := Go.Op.pick (Go.Operand.tmp 180) (Go.Operand.tmp 183) (Go.Operand.const (Go.Value.bool false)), type := 4, pos := "law.go:26", after := #[{ on := 38, ground := Go.Ground.data }, { on := 41, ground := Go.Ground.data }], guard := none } :: { dst := some 185, op := Go.Op.move (Go.Operand.tmp 184), type := 4, pos := "law.go:26", after := #[{ on := 42, ground := Go.Ground.data }, { on := 40, ground := Go.Ground.chain }], guard := none } :: { dst := some 186, op := Go.Op.load 24 (Go.Operand.tmp 15), type := 24, pos := "law.go:26", after := #[{ on := 43, ground := Go.Ground.guard }], guard := some (43, true) } :: { dst := some 187, op := Go.Op.call { callee := Go.Callee.value (Go.Operand.func 17), args := #[Go.Operand.tmp 186], argTypes := #[24] }, type := 3, pos := "law.go:26", after := #[{ on := 44, ground := Go.Ground.data }, { on := 43, ground := Go.Ground.chain }, { on := 43, ground := Go.Ground.guard }], guard := some (43, true) } :: { dst := some 188, op := Go.Op.binOp Go.BinOp.eql 3 (Go.Operand.tmp 187) (Go.Operand.const (Go.Value.int Go.IntKind.i64 3)) 3, type := 4, pos := "law.go:26", after := #[{ on := 45, ground := Go.Ground.data }, { on := 43, ground := Go.Ground.guard }], guard := some (43, true) } :: { dst := some 189, op := Go.Op.pick (Go.Operand.tmp 185) (Go.Operand.tmp 188) (Go.Operand.const (Go.Value.bool false)), type := 4, pos := "law.go:26", after := #[{ on := 43, ground := Go.Ground.data }, { on := 46, ground := Go.Ground.data }], guard := none } :: { dst := some 190, op := Go.Op.move (Go.Operand.tmp 189), type := 4, pos := "law.go:26", after := #[{ on := 47, ground := Go.Ground.data }, { on := 45, ground := Go.Ground.chain }], guard := none } :: { dst := some 191, op := Go.Op.load 24 (Go.Operand.tmp 12), type := 24, pos := "law.go:26", after := #[{ on := 48, ground := Go.Ground.guard }], guard := some (48, true) } :: { dst := some 192, op := Go.Op.call { callee := Go.Callee.value (Go.Operand.func 18), args := #[Go.Operand.tmp 191], argTypes := #[24] }, type := 30, pos := "law.go:26", after := #[{ on := 49, ground := Go.Ground.data }, { on := 48, ground := Go.Ground.chain }, { on := 48, ground := Go.Ground.guard }], guard := some (48, true) } :: { dst := some 193, op := Go.Op.call { callee := Go.Callee.builtin Go.Builtin.len, args := #[Go.Operand.tmp 192], argTypes := #[30] }, type := 3, pos := "law.go:26", after := #[{ on := 50, ground := Go.Ground.data }, { on := 48, ground := Go.Ground.guard }], guard := some (48, true) } :: { dst := some 194, op := Go.Op.binOp Go.BinOp.eql 3 (Go.Operand.tmp 193) (Go.Operand.const (Go.Value.int Go.IntKind.i64 2)) 3, type := 4, pos := "law.go:26", after := #[{ on := 51, ground := Go.Ground.data }, { on := 48, ground := Go.Ground.guard }], guard := some (48, true) } :: { dst := some 195, op := Go.Op.pick (Go.Operand.tmp 190) (Go.Operand.tmp 194) (Go.Operand.const (Go.Value.bool false)), type := 4, pos := "law.go:26", after := #[{ on := 48, ground := Go.Ground.data }, { on := 52, ground := Go.Ground.data }], guard := none } :: { dst := some 196, op := Go.Op.move (Go.Operand.tmp 195), type := 4, pos := "law.go:26", after := #[{ on := 53, ground := Go.Ground.data }, { on := 50, ground := Go.Ground.chain }], guard := none } :: { dst := some 197, op := Go.Op.load 24 (Go.Operand.tmp 12), type := 24, pos := "law.go:26", after := #[{ on := 54, ground := Go.Ground.guard }], guard := some (54, true) } :: { dst := some 198, op := Go.Op.load 24 (Go.Operand.tmp 12), type := 24, pos := "law.go:26", after := #[{ on := 54, ground := Go.Ground.guard }], guard := some (54, true) } :: { dst := some 199, op := Go.Op.call { callee := Go.Callee.value (Go.Operand.func 19), args := #[Go.Operand.tmp 197, Go.Operand.tmp 198], argTypes := #[24, 24] }, type := 4, pos := "law.go:26", after := #[{ on := 55, ground := Go.Ground.data }, { on := 56, ground := Go.Ground.data }, { on := 54, ground := Go.Ground.chain }, { on := 54, ground := Go.Ground.guard }], guard := some (54, true) } :: { dst := some 200, op := Go.Op.pick (Go.Operand.tmp 196) (Go.Operand.tmp 199) (Go.Operand.const (Go.Value.bool false)), type := 4, pos := "law.go:26", after := #[{ on := 54, ground := Go.Ground.data }, { on := 57, ground := Go.Ground.data }], guard := none } :: { dst := some 201, op := Go.Op.move (Go.Operand.tmp 200), type := 4, pos := "law.go:26", after := #[{ on := 58, ground := Go.Ground.data }, { on := 57, ground := Go.Ground.chain }], guard := none } :: { dst := some 202, op := Go.Op.load 24 (Go.Operand.tmp 12), type := 24, pos := "law.go:26", after := #[{ on := 59, ground := Go.Ground.guard }], guard := some (59, true) } :: { dst := some 203, op := Go.Op.call { callee := Go.Callee.value (Go.Operand.func 15), args := #[Go.Operand.tmp 202], argTypes := #[24] }, type := 27, pos := "law.go:26", after := #[{ on := 60, ground := Go.Ground.data }, { on := 59, ground := Go.Ground.chain }, { on := 59, ground := Go.Ground.guard }], guard := some (59, true) } :: { dst := some 204, op := Go.Op.binOp Go.BinOp.eql 27 (Go.Operand.tmp 203) (Go.Operand.const (Go.Value.int Go.IntKind.i64 0)) 27, type := 4, pos := "law.go:26", after := #[{ on := 61, ground := Go.Ground.data }, { on := 59, ground := Go.Ground.guard }], guard := some (59, true) } :: { dst := some 205, op := Go.Op.pick (Go.Operand.tmp 201) (Go.Operand.tmp 204) (Go.Operand.const (Go.Value.bool false)), type := 4, pos := "law.go:26", after := #[{ on := 59, ground := Go.Ground.data }, { on := 62, ground := Go.Ground.data }], guard := none } :: { dst := some 206, op := Go.Op.move (Go.Operand.tmp 205), type := 4, pos := "law.go:26", after := #[{ on := 63, ground := Go.Ground.data }, { on := 61, ground := Go.Ground.chain }], guard := none } :: { dst := some 207, op := Go.Op.load 24 (Go.Operand.tmp 12), type := 24, pos := "law.go:26", after := #[{ on := 64, ground := Go.Ground.guard }], guard := some (64, true) } :: { dst := some 208, op := Go.Op.call { callee := Go.Callee.value (Go.Operand.func 48), args := #[Go.Operand.const (Go.Value.int Go.IntKind.i64 4)], argTypes := #[2] }, type := 24, pos := "law.go:26", after := #[{ on := 64, ground := Go.Ground.chain }, { on := 64, ground := Go.Ground.guard }], guard := some (64, true) } :: { dst := some 209, op := Go.Op.call { callee := Go.Callee.value (Go.Operand.func 48), args := #[Go.Operand.const (Go.Value.int Go.IntKind.i64 5)], argTypes := #[2] }, type := 24, pos := "law.go:26", after := #[{ on := 66, ground := Go.Ground.chain }, { on := 64, ground := Go.Ground.guard }], guard := some (64, true) } :: { dst := some 210, op := Go.Op.call { callee := Go.Callee.value (Go.Operand.func 48), args := #[Go.Operand.const (Go.Value.int Go.IntKind.i64 4)], argTypes := #[2] }, type := 24, pos := "law.go:26", after := #[{ on := 67, ground := Go.Ground.chain }, { on := 64, ground := Go.Ground.guard }], guard := some (64, true) } :: { dst := some 211, op := Go.Op.buildSlice 22 3 #[(0, Go.Operand.tmp 208), (1, Go.Operand.tmp 209), (2, Go.Operand.tmp 210)], type := 22, pos := "law.go:26", after := #[{ on := 66, ground := Go.Ground.data }, { on := 67, ground := Go.Ground.data }, { on := 68, ground := Go.Ground.data }, { on := 64, ground := Go.Ground.guard }], guard := some (64, true) } :: { dst := some 212, op := Go.Op.call { callee := Go.Callee.value (Go.Operand.func 47), args := #[Go.Operand.const (Go.Value.string { data := #[102] }), Go.Operand.tmp 211], argTypes := #[9, 22] }, type := 24, pos := "law.go:26", after := #[{ on := 69, ground := Go.Ground.data }, { on := 68, ground := Go.Ground.chain }, { on := 64, ground := Go.Ground.guard }], guard := some (64, true) } :: { dst := some 213, op := Go.Op.call { callee := Go.Callee.value (Go.Operand.func 21), args := #[Go.Operand.tmp 207, Go.Operand.tmp 212], argTypes := #[24, 24] }, type := 4, pos := "law.go:26", after := #[{ on := 65, ground := Go.Ground.data }, { on := 70, ground := Go.Ground.data }, { on := 70, ground := Go.Ground.chain }, { on := 64, ground := Go.Ground.guard }], guard := some (64, true) } :: { dst := some 214, op := Go.Op.pick (Go.Operand.tmp 206) (Go.Operand.tmp 213) (Go.Operand.const (Go.Value.bool false)), type := 4, pos := "law.go:26", after := #[{ on := 64, ground := Go.Ground.data }, { on := 71, ground := Go.Ground.data }], guard := none } :: { dst := some 0, op := Go.Op.assign (Go.Operand.tmp 214), type := 4, pos := "law.go:26", after := ([{ on := 72, ground := Go.Ground.data }, { on := 71, ground := Go.Ground.chain }, { on := 0, ground := Go.Ground.phase }, { on := 1, ground := Go.Ground.phase }, { on := 2, ground := Go.Ground.phase }, { on := 3, ground := Go.Ground.phase }, { on := 4, ground := Go.Ground.phase }, { on := 5, ground := Go.Ground.phase }, { on := 6, ground := Go.Ground.phase }, { on := 7, ground := Go.Ground.phase }, { on := 8, ground := Go.Ground.phase }, { on := 9, ground := Go.Ground.phase }, { on := 10, ground := Go.Ground.phase }, { on := 11, ground := Go.Ground.phase }, { on := 12, ground := Go.Ground.phase }, { on := 13, ground := Go.Ground.phase }, { on := 14, ground := Go.Ground.phase }, { on := 15, ground := Go.Ground.phase }, { on := 16, ground := Go.Ground.phase }, { on := 17, ground := Go.Ground.phase }, { on := 18, ground := Go.Ground.phase }, { on := 19, ground := Go.Ground.phase }, { on := 20, ground := Go.Ground.phase }, { on := 21, ground := Go.Ground.phase }, { on := 22, ground := Go.Ground.phase }, { on := 23, ground := Go.Ground.phase }, { on := 24, ground := Go.Ground.phase }, { on := 25, ground := Go.Ground.phase }, { on := 26, ground := Go.Ground.phase }, { on := 27, ground := Go.Ground.phase }, { on := 28, ground := Go.Ground.phase }, { on := 29, ground := Go.Ground.phase }, { on := 30, ground := Go.Ground.phase }, { on := 31, ground := Go.Ground.phase }, { on := 32, ground := Go.Ground.phase }, { on := 33, ground := Go.Ground.phase }, { on := 34, ground := Go.Ground.phase }].append [{ on := 35, ground := Go.Ground.phase }, { on := 36, ground := Go.Ground.phase }, { on := 37, ground := Go.Ground.phase }, { on := 38, ground := Go.Ground.phase }, { on := 39, ground := Go.Ground.phase }, { on := 40, ground := Go.Ground.phase }, { on := 41, ground := Go.Ground.phase }, { on := 42, ground := Go.Ground.phase }, { on := 43, ground := Go.Ground.phase }, { on := 44, ground := Go.Ground.phase }, { on := 45, ground := Go.Ground.phase }, { on := 46, ground := Go.Ground.phase }, { on := 47, ground := Go.Ground.phase }, { on := 48, ground := Go.Ground.phase }, { on := 49, ground := Go.Ground.phase }, { on := 50, ground := Go.Ground.phase }, { on := 51, ground := Go.Ground.phase }, { on := 52, ground := Go.Ground.phase }, { on := 53, ground := Go.Ground.phase }, { on := 54, ground := Go.Ground.phase }, { on := 55, ground := Go.Ground.phase }, { on := 56, ground := Go.Ground.phase }, { on := 57, ground := Go.Ground.phase }, { on := 58, ground := Go.Ground.phase }, { on := 59, ground := Go.Ground.phase }, { on := 60, ground := Go.Ground.phase }, { on := 61, ground := Go.Ground.phase }, { on := 62, ground := Go.Ground.phase }, { on := 63, ground := Go.Ground.phase }, { on := 64, ground := Go.Ground.phase }, { on := 65, ground := Go.Ground.phase }, { on := 66, ground := Go.Ground.phase }, { on := 67, ground := Go.Ground.phase }, { on := 68, ground := Go.Ground.phase }, { on := 69, ground := Go.Ground.phase }, { on := 70, ground := Go.Ground.phase }, { on := 71, ground := Go.Ground.phase }, { on := 72, ground := Go.Ground.phase }]).toArray, guard := none } :: [])) true).wp Try.prog Q { tmps := #[u0, .pointer (some ⟨ba, 0, none⟩), u2, u3, u4, u5, u6, u7, u8, u9, u10, u11, .pointer (some ⟨br, 0, none⟩), u13, u14, .pointer (some ⟨bl, 0, none⟩), .int .i64 0, .slice (some ⟨g3, 0, none⟩) 2 c3, .pointer (some ⟨be, 0, none⟩), u19, u20, u21, u22, u23, u24, u25, u26, u27, u28, u29, u30, u31, u32, u33, u34, u35, u36, u37, u38, u39, u40, u41, u42, u43, u44, u45, u46, u47, u48, u49, u50, u51, u52, u53, u54, u55, u56, u57, u58, u59, u60, u61, u62, u63, u64, u65, u66, u67, u68, u69, u70, u71, u72, u73, u74, u75, u76, u77, u78, u79, u80, u81, u82, u83, u84, u85, u86, u87, u88, u89, u90, u91, u92, u93, u94, u95, u96, u97, u98, u99, u100, u101, u102, u103, u104, u105, u106, u107, u108, u109, u110, u111, u112, u113, u114, u115, u116, u117, u118, u119, u120, u121, u122, u123, u124, u125, u126, u127, u128, u129, u130, u131, u132, u133, u134, u135, u136, u137, u138, u139, u140, u141, u142, u143, u144, u145, u146, u147, u148, u149, u150, u151, u152, u153, u154, u155, u156, u157, u158, u159, u160, u161, u162, u163, u164, u165, u166, u167, u168, u169, u170, u171, u172, u173, u174, u175, u176, u177, u178, u179, u180, u181, u182, u183, u184, u185, u186, u187, u188, u189, u190, u191, u192, u193, u194, u195, u196, u197, u198, u199, u200, u201, u202, u203, u204, u205, u206, u207, u208, u209, u210, u211, u212, u213, u214], defers := [] } W25 := by
  have KS : Hid (∀ W, Keep (fun g => g < W25.heap.size) W25 W → S10 ba br bl be ar al cr cl W) := Lib.hid hHS
  have HC : Con10 W25 ar al cr cl := {
    CX := fun n W => exX n W
    CC2 := fun p W => exC [102] [default, default] p 2 W
    CC3 := fun p W => exC [102] [default, default, default] p 3 W
    CO2 := fun W p1 p2 k b1 b2 => q_ord2 (W := W) (tm_comp (c := 1) (ts := [xA [97]]) b1 (by simp [Tm.args, Tm.k, Tm.i, Tm.nm]; decide) (by decide) rfl (by decide)) (tm_comp (c := 2) (ts := [xA [97], xA [97]]) b2 (by simp [Tm.args, Tm.k, Tm.i, Tm.nm]; decide) (by decide) rfl (by decide))
    CS := fun W k => q_size (W := W) (hLL.on k)
    CD := fun W k => q_depth (W := W) (hLL.on k)
    CV := fun W k => q_vars (W := W) (hRR.on k)
    CM := fun W k => q_sm (W := W) (hRR.on k)
    CK := fun W k => q_check (W := W) (hRR.on k)
    CT := fun W b k hb => q_vt (W := W) (hRR.on k) (tm_comp (c := 3) (ts := [xV 4, xV 5, xV 4]) hb (by simp [Tm.args, Tm.k, Tm.i, Tm.nm]; decide) (by decide) rfl (by decide))
    CN := fun n W => exN n W
    CG1 := fun p W => exC [103] [default] p 1 W
    CE := fun W b k hb => q_same (W := W) (hRR.on k) (tm_comp (c := 3) (ts := [xV 1, xV 2, xV 1]) hb (by simp [Tm.args, Tm.k, Tm.i, Tm.nm]; decide) (by decide) rfl (by decide))
    CO1 := fun W => q_ord1 (W := W) }
  have HL : Lo10 { tmps := #[u0, .pointer (some ⟨ba, 0, none⟩), u2, u3, u4, u5, u6, u7, u8, u9, u10, u11, .pointer (some ⟨br, 0, none⟩), u13, u14, .pointer (some ⟨bl, 0, none⟩), .int .i64 0, .slice (some ⟨g3, 0, none⟩) 2 c3, .pointer (some ⟨be, 0, none⟩), u19, u20, u21, u22, u23, u24, u25, u26, u27, u28, u29, u30, u31, u32, u33, u34, u35, u36, u37, u38, u39, u40, u41, u42, u43, u44, u45, u46, u47, u48, u49, u50, u51, u52, u53, u54, u55, u56, u57, u58, u59, u60, u61, u62, u63, u64, u65, u66, u67, u68, u69, u70, u71, u72, u73, u74, u75, u76, u77, u78, u79, u80, u81, u82, u83, u84, u85, u86, u87, u88, u89, u90, u91, u92, u93, u94, u95, u96, u97, u98, u99, u100, u101, u102, u103, u104, u105, u106, u107, u108, u109, u110, u111, u112, u113, u114, u115, u116, u117, u118, u119, u120, u121, u122, u123, u124, u125, u126, u127, u128, u129, u130, u131, u132, u133, u134, u135, u136, u137, u138, u139, u140, u141, u142, u143, u144, u145, u146, u147, u148, u149, u150, u151, u152, u153, u154, u155, u156, u157, u158, u159, u160, u161, u162, u163, u164, u165, u166, u167, u168, u169, u170, u171, u172, u173, u174, u175, u176, u177, u178, u179, u180, u181, u182, u183, u184, u185, u186, u187, u188, u189, u190, u191, u192, u193, u194, u195, u196, u197, u198, u199, u200, u201, u202, u203, u204, u205, u206, u207, u208, u209, u210, u211, u212, u213, u214], defers := [] } ba br bl be g3 c3 := ⟨rfl, rfl, rfl, rfl, rfl, rfl⟩
  have hq : ∀ a W, Fr10 { tmps := #[u0, .pointer (some ⟨ba, 0, none⟩), u2, u3, u4, u5, u6, u7, u8, u9, u10, u11, .pointer (some ⟨br, 0, none⟩), u13, u14, .pointer (some ⟨bl, 0, none⟩), .int .i64 0, .slice (some ⟨g3, 0, none⟩) 2 c3, .pointer (some ⟨be, 0, none⟩), u19, u20, u21, u22, u23, u24, u25, u26, u27, u28, u29, u30, u31, u32, u33, u34, u35, u36, u37, u38, u39, u40, u41, u42, u43, u44, u45, u46, u47, u48, u49, u50, u51, u52, u53, u54, u55, u56, u57, u58, u59, u60, u61, u62, u63, u64, u65, u66, u67, u68, u69, u70, u71, u72, u73, u74, u75, u76, u77, u78, u79, u80, u81, u82, u83, u84, u85, u86, u87, u88, u89, u90, u91, u92, u93, u94, u95, u96, u97, u98, u99, u100, u101, u102, u103, u104, u105, u106, u107, u108, u109, u110, u111, u112, u113, u114, u115, u116, u117, u118, u119, u120, u121, u122, u123, u124, u125, u126, u127, u128, u129, u130, u131, u132, u133, u134, u135, u136, u137, u138, u139, u140, u141, u142, u143, u144, u145, u146, u147, u148, u149, u150, u151, u152, u153, u154, u155, u156, u157, u158, u159, u160, u161, u162, u163, u164, u165, u166, u167, u168, u169, u170, u171, u172, u173, u174, u175, u176, u177, u178, u179, u180, u181, u182, u183, u184, u185, u186, u187, u188, u189, u190, u191, u192, u193, u194, u195, u196, u197, u198, u199, u200, u201, u202, u203, u204, u205, u206, u207, u208, u209, u210, u211, u212, u213, u214], defers := [] } a → a.tmps[0]? = some (.bool true) → Keep (fun g => g < W25.heap.size) W25 W → Q .normal a W := fun a W R h0 K => by
    obtain ⟨s142, s143, s144, s145, s146, s147, s148, s149, s150, s151, s152, s153, s154, s155, s156, s157, s158, s159, s160, s161, s162, s163, s164, s165, s166, s167, s168, s169, s170, s171, s172, s173, s174, s175, s176, s177, s178, s179, s180, s181, s182, s183, s184, s185, s186, s187, s188, s189, s190, s191, s192, s193, s194, s195, s196, s197, s198, s199, s200, s201, s202, s203, s204, s205, s206, s207, s208, s209, s210, s211, s212, s213, s214, rfl⟩ := last10 R h0 (p := (.pointer (some ⟨ba, 0, none⟩)) :: u2 :: u3 :: u4 :: u5 :: u6 :: u7 :: u8 :: u9 :: u10 :: u11 :: (.pointer (some ⟨br, 0, none⟩)) :: u13 :: u14 :: (.pointer (some ⟨bl, 0, none⟩)) :: (.int .i64 0) :: (.slice (some ⟨g3, 0, none⟩) 2 c3) :: (.pointer (some ⟨be, 0, none⟩)) :: u19 :: u20 :: u21 :: u22 :: u23 :: u24 :: u25 :: u26 :: u27 :: u28 :: u29 :: u30 :: u31 :: u32 :: u33 :: u34 :: u35 :: u36 :: u37 :: u38 :: u39 :: u40 :: u41 :: u42 :: u43 :: u44 :: u45 :: u46 :: u47 :: u48 :: u49 :: u50 :: u51 :: u52 :: u53 :: u54 :: u55 :: u56 :: u57 :: u58 :: u59 :: u60 :: u61 :: u62 :: u63 :: u64 :: u65 :: u66 :: u67 :: u68 :: u69 :: u70 :: u71 :: u72 :: u73 :: u74 :: u75 :: u76 :: u77 :: u78 :: u79 :: u80 :: u81 :: u82 :: u83 :: u84 :: u85 :: u86 :: u87 :: u88 :: u89 :: u90 :: u91 :: u92 :: u93 :: u94 :: u95 :: u96 :: u97 :: u98 :: u99 :: u100 :: u101 :: u102 :: u103 :: u104 :: u105 :: u106 :: u107 :: u108 :: u109 :: u110 :: u111 :: u112 :: u113 :: u114 :: u115 :: u116 :: u117 :: u118 :: u119 :: u120 :: u121 :: u122 :: u123 :: u124 :: u125 :: u126 :: u127 :: u128 :: u129 :: u130 :: u131 :: u132 :: u133 :: u134 :: u135 :: u136 :: u137 :: u138 :: u139 :: u140 :: u141 :: []) rfl (u142 :: u143 :: u144 :: u145 :: u146 :: u147 :: u148 :: u149 :: u150 :: u151 :: u152 :: u153 :: u154 :: u155 :: u156 :: u157 :: u158 :: u159 :: u160 :: u161 :: u162 :: u163 :: u164 :: u165 :: u166 :: u167 :: u168 :: u169 :: u170 :: u171 :: u172 :: u173 :: u174 :: u175 :: u176 :: u177 :: u178 :: u179 :: u180 :: u181 :: u182 :: u183 :: u184 :: u185 :: u186 :: u187 :: u188 :: u189 :: u190 :: u191 :: u192 :: u193 :: u194 :: u195 :: u196 :: u197 :: u198 :: u199 :: u200 :: u201 :: u202 :: u203 :: u204 :: u205 :: u206 :: u207 :: u208 :: u209 :: u210 :: u211 :: u212 :: u213 :: u214 :: []) rfl
    exact hQ W s142 s143 s144 s145 s146 s147 s148 s149 s150 s151 s152 s153 s154 s155 s156 s157 s158 s159 s160 s161 s162 s163 s164 s165 s166 s167 s168 s169 s170 s171 s172 s173 s174 s175 s176 s177 s178 s179 s180 s181 s182 s183 s184 s185 s186 s187 s188 s189 s190 s191 s192 s193 s194 s195 s196 s197 s198 s199 s200 s201 s202 s203 s204 s205 s206 s207 s208 s209 s210 s211 s212 s213 s214 K
  have hR : Fr10 { tmps := #[u0, .pointer (some ⟨ba, 0, none⟩), u2, u3, u4, u5, u6, u7, u8, u9, u10, u11, .pointer (some ⟨br, 0, none⟩), u13, u14, .pointer (some ⟨bl, 0, none⟩), .int .i64 0, .slice (some ⟨g3, 0, none⟩) 2 c3, .pointer (some ⟨be, 0, none⟩), u19, u20, u21, u22, u23, u24, u25, u26, u27, u28, u29, u30, u31, u32, u33, u34, u35, u36, u37, u38, u39, u40, u41, u42, u43, u44, u45, u46, u47, u48, u49, u50, u51, u52, u53, u54, u55, u56, u57, u58, u59, u60, u61, u62, u63, u64, u65, u66, u67, u68, u69, u70, u71, u72, u73, u74, u75, u76, u77, u78, u79, u80, u81, u82, u83, u84, u85, u86, u87, u88, u89, u90, u91, u92, u93, u94, u95, u96, u97, u98, u99, u100, u101, u102, u103, u104, u105, u106, u107, u108, u109, u110, u111, u112, u113, u114, u115, u116, u117, u118, u119, u120, u121, u122, u123, u124, u125, u126, u127, u128, u129, u130, u131, u132, u133, u134, u135, u136, u137, u138, u139, u140, u141, u142, u143, u144, u145, u146, u147, u148, u149, u150, u151, u152, u153, u154, u155, u156, u157, u158, u159, u160, u161, u162, u163, u164, u165, u166, u167, u168, u169, u170, u171, u172, u173, u174, u175, u176, u177, u178, u179, u180, u181, u182, u183, u184, u185, u186, u187, u188, u189, u190, u191, u192, u193, u194, u195, u196, u197, u198, u199, u200, u201, u202, u203, u204, u205, u206, u207, u208, u209, u210, u211, u212, u213, u214], defers := [] } { tmps := #[u0, .pointer (some ⟨ba, 0, none⟩), u2, u3, u4, u5, u6, u7, u8, u9, u10, u11, .pointer (some ⟨br, 0, none⟩), u13, u14, .pointer (some ⟨bl, 0, none⟩), .int .i64 0, .slice (some ⟨g3, 0, none⟩) 2 c3, .pointer (some ⟨be, 0, none⟩), u19, u20, u21, u22, u23, u24, u25, u26, u27, u28, u29, u30, u31, u32, u33, u34, u35, u36, u37, u38, u39, u40, u41, u42, u43, u44, u45, u46, u47, u48, u49, u50, u51, u52, u53, u54, u55, u56, u57, u58, u59, u60, u61, u62, u63, u64, u65, u66, u67, u68, u69, u70, u71, u72, u73, u74, u75, u76, u77, u78, u79, u80, u81, u82, u83, u84, u85, u86, u87, u88, u89, u90, u91, u92, u93, u94, u95, u96, u97, u98, u99, u100, u101, u102, u103, u104, u105, u106, u107, u108, u109, u110, u111, u112, u113, u114, u115, u116, u117, u118, u119, u120, u121, u122, u123, u124, u125, u126, u127, u128, u129, u130, u131, u132, u133, u134, u135, u136, u137, u138, u139, u140, u141, u142, u143, u144, u145, u146, u147, u148, u149, u150, u151, u152, u153, u154, u155, u156, u157, u158, u159, u160, u161, u162, u163, u164, u165, u166, u167, u168, u169, u170, u171, u172, u173, u174, u175, u176, u177, u178, u179, u180, u181, u182, u183, u184, u185, u186, u187, u188, u189, u190, u191, u192, u193, u194, u195, u196, u197, u198, u199, u200, u201, u202, u203, u204, u205, u206, u207, u208, u209, u210, u211, u212, u213, u214], defers := [] } := ⟨rfl, rfl, fun _ _ _ => rfl⟩
  generalize hF : ({ tmps := #[u0, .pointer (some ⟨ba, 0, none⟩), u2, u3, u4, u5, u6, u7, u8, u9, u10, u11, .pointer (some ⟨br, 0, none⟩), u13, u14, .pointer (some ⟨bl, 0, none⟩), .int .i64 0, .slice (some ⟨g3, 0, none⟩) 2 c3, .pointer (some ⟨be, 0, none⟩), u19, u20, u21, u22, u23, u24, u25, u26, u27, u28, u29, u30, u31, u32, u33, u34, u35, u36, u37, u38, u39, u40, u41, u42, u43, u44, u45, u46, u47, u48, u49, u50, u51, u52, u53, u54, u55, u56, u57, u58, u59, u60, u61, u62, u63, u64, u65, u66, u67, u68, u69, u70, u71, u72, u73, u74, u75, u76, u77, u78, u79, u80, u81, u82, u83, u84, u85, u86, u87, u88, u89, u90, u91, u92, u93, u94, u95, u96, u97, u98, u99, u100, u101, u102, u103, u104, u105, u106, u107, u108, u109, u110, u111, u112, u113, u114, u115, u116, u117, u118, u119, u120, u121, u122, u123, u124, u125, u126, u127, u128, u129, u130, u131, u132, u133, u134, u135, u136, u137, u138, u139, u140, u141, u142, u143, u144, u145, u146, u147, u148, u149, u150, u151, u152, u153, u154, u155, u156, u157, u158, u159, u160, u161, u162, u163, u164, u165, u166, u167, u168, u169, u170, u171, u172, u173, u174, u175, u176, u177, u178, u179, u180, u181, u182, u183, u184, u185, u186, u187, u188, u189, u190, u191, u192, u193, u194, u195, u196, u197, u198, u199, u200, u201, u202, u203, u204, u205, u206, u207, u208, u209, u210, u211, u212, u213, u214], defers := [] } : Act) = a0 at HL hq hR ⊢
  clear hF hQ hHS hRR hLL
  refine wp_region_noPanic (wp_region_held_drew (S := S10 ba br bl be ar al cr cl) (by kernel_rfl) (KS.out _ (Keep.refl _ _).drew) fun _ => ?_)
  show wpAnyH Try.prog .any ops10 (NoPanic Q) (S10 ba br bl be ar al cr cl) 74 (lst10 0) a0 W25.drew
  exact r10a HL KS HC hq hR (Keep.refl _ _).drew
end Go.Proofs.Ythbofkffklejoaa
namespace Go.Proofs.Ythbofkffklejoaa
open Go.RowKit Go.Maps
set_option linter.unusedVariables false
set_option linter.unusedSimpArgs false
set_option maxRecDepth 1000000 in
set_option maxHeartbeats 16000000 in
theorem alive_any {w : World} : Calls Try.prog 13 #[] w fun e w' => e = .returned (.bool true) ∧ Keep (fun g => g < w.heap.size) w w' := by
  have hA := exA [97]
  have hB := exA [98]
  have hE := exA [91, 93]
  have hC := fun (n : Nat) (ts : List Tm) (hn : ts.length = n) (a : Option Addr) (c : Nat) (W : World) => exC [102] ts a c W
  have hG := fun (ts : List Tm) (a : Option Addr) (c : Nat) (W : World) => exC [103] ts a c W
  rw [show str [97] = (⟨#[97]⟩ : ByteArray) from rfl] at hA
  rw [show str [98] = (⟨#[98]⟩ : ByteArray) from rfl] at hB
  rw [show str [91, 93] = (⟨#[91, 93]⟩ : ByteArray) from rfl] at hE
  rw [show str [102] = (⟨#[102]⟩ : ByteArray) from rfl] at hC
  rw [show str [103] = (⟨#[103]⟩ : ByteArray) from rfl] at hG
  have HA := Lib.hid hA
  have HB := Lib.hid hB
  have HNIL := Lib.hid hE
  have HC1 := Lib.hid (hC 1 [default] rfl)
  have HC2 := Lib.hid (hC 2 [default, default] rfl)
  have HC3 := Lib.hid (hC 3 [default, default, default] rfl)
  have HG := Lib.hid (hG [default])
  simp only [List.length_cons, List.length_nil, Nat.reduceAdd] at HC1 HC2 HC3 HG
  have HX := Lib.hid exX
  clear hA hB hE hC hG
  go_enter Try.func13, Try.ntmps13
  go_wp2_with fail
  refine (HA.out _).mono ?_
  rintro e w1 ⟨rfl, k1⟩
  have K1 := Lib.hid k1; clear k1 HA
  go_wp2_with fail
  refine (HB.out _).mono ?_
  rintro e w2 ⟨rfl, k2⟩
  have K2 := Lib.hid (K1.out.onto k2); clear k2 HB
  go_wp2_with fail
  obtain ⟨ba, hba⟩ : ∃ ba, w2.heap.size = ba := ⟨_, rfl⟩
  obtain ⟨bb, hbb⟩ : ∃ bb, w2.heap.size + 1 = bb := ⟨_, rfl⟩
  obtain ⟨W3, hW3⟩ : ∃ W3, W3 = (w2.alloc (.cells #[.int .i64 3, .string ⟨#[97]⟩, .int .i64 0, .slice none 0 0] 24)).alloc (.cells #[.int .i64 3, .string ⟨#[98]⟩, .int .i64 0, .slice none 0 0] 24) := ⟨_, rfl⟩
  have hk3 : Keep (fun g => g < w.heap.size) w W3 := by rw [hW3]; exact (K2.out.alloc _).alloc _
  have hAb : Blk W3 ba 24 #[.int .i64 3, .string ⟨#[97]⟩, .int .i64 0, .slice none 0 0] := by rw [hW3, ← hba]; exact (Blk.new w2 24 _).alloc _
  have hBb : Blk W3 bb 24 #[.int .i64 3, .string ⟨#[98]⟩, .int .i64 0, .slice none 0 0] := by
    have := Blk.new (w2.alloc (.cells #[.int .i64 3, .string ⟨#[97]⟩, .int .i64 0, .slice none 0 0] 24)) 24 #[.int .i64 3, .string ⟨#[98]⟩, .int .i64 0, .slice none 0 0]
    rw [World.size_alloc, hbb] at this
    rw [hW3]; exact this
  rw [hbb, hba, ← hW3]
  have HW3 := Lib.hid (And.intro hk3 (And.intro hAb hBb))
  have HS : Hid (∀ W, Keep (fun g => g < W3.heap.size) W3 W → W.cell? ⟨ba, 0, none⟩ = some (.int .i64 3) ∧ W.cell? ⟨ba, 1, none⟩ = some (.string ⟨#[97]⟩) ∧ W.cell? ⟨ba, 2, none⟩ = some (.int .i64 0) ∧ W.cell? ⟨ba, 3, none⟩ = some (.slice none 0 0) ∧ W.cell? ⟨bb, 0, none⟩ = some (.int .i64 3) ∧ W.cell? ⟨bb, 1, none⟩ = some (.string ⟨#[98]⟩) ∧ W.cell? ⟨bb, 2, none⟩ = some (.int .i64 0) ∧ W.cell? ⟨bb, 3, none⟩ = some (.slice none 0 0)) := Lib.hid fun W hk => ⟨(hAb.keep hk hAb.lt).cell 0, (hAb.keep hk hAb.lt).cell 1, (hAb.keep hk hAb.lt).cell 2, (hAb.keep hk hAb.lt).cell 3, (hBb.keep hk hBb.lt).cell 0, (hBb.keep hk hBb.lt).cell 1, (hBb.keep hk hBb.lt).cell 2, (hBb.keep hk hBb.lt).cell 3⟩
  have hla := hAb.lt
  have hlb := hBb.lt
  clear hW3 hba hbb hk3 hAb hBb K1 K2
  have KD := Lib.hid ((Keep.refl (fun g => g < W3.heap.size) W3).drew)
  have TOK1 : True := trivial
  go_region_held3 (fun w' => w'.cell? ⟨ba, 0, none⟩ = some (.int .i64 3) ∧ w'.cell? ⟨ba, 1, none⟩ = some (.string ⟨#[97]⟩) ∧ w'.cell? ⟨ba, 2, none⟩ = some (.int .i64 0) ∧ w'.cell? ⟨ba, 3, none⟩ = some (.slice none 0 0) ∧ w'.cell? ⟨bb, 0, none⟩ = some (.int .i64 3) ∧ w'.cell? ⟨bb, 1, none⟩ = some (.string ⟨#[98]⟩) ∧ w'.cell? ⟨bb, 2, none⟩ = some (.int .i64 0) ∧ w'.cell? ⟨bb, 3, none⟩ = some (.slice none 0 0)) (first | with_reducible exact HS.out _ KD.out | with_reducible exact HS.out _ (KD.out.alloc _) | with_reducible exact HS.out _ ((KD.out.alloc _).alloc _) | with_reducible exact HS.out _ K4.out | with_reducible exact HS.out _ (K4.out.alloc _) | with_reducible exact HS.out _ ((K4.out.alloc _).alloc _) | with_reducible exact HS.out _ K5.out | with_reducible exact HS.out _ (K5.out.alloc _) | with_reducible exact HS.out _ ((K5.out.alloc _).alloc _) | with_reducible exact HS.out _ K6.out | with_reducible exact HS.out _ (K6.out.alloc _) | with_reducible exact HS.out _ ((K6.out.alloc _).alloc _) | with_reducible exact HS.out _ K7.out | with_reducible exact HS.out _ (K7.out.alloc _) | with_reducible exact HS.out _ ((K7.out.alloc _).alloc _) | with_reducible exact HS.out _ K8.out | with_reducible exact HS.out _ (K8.out.alloc _) | with_reducible exact HS.out _ ((K8.out.alloc _).alloc _))
    (first
      | (have tok := TOK1; go_at_call 48; refine (HX.out 1 _).mono ?_; rintro e w4 ⟨rfl, k4⟩; have K4 := Lib.hid (KD.out.onto k4); clear TOK1 tok k4; have TOK2 : True := trivial)
      | (have tok := TOK2; go_at_call 47; refine (HC2.out _ _ _).mono ?_; rintro e w5 ⟨rfl, k5⟩; have K5 := Lib.hid ((K4.out.alloc _).onto k5); have HB4 := Lib.hid ((Blk.new w4 24 #[.int .i64 1, .string ⟨#[]⟩, .int .i64 1, .slice none 0 0, .int .i64 3, .string ⟨#[98]⟩, .int .i64 0, .slice none 0 0]).keep k5 (by simp)); clear TOK2 tok k5; have TOK3 : True := trivial)
      | (have tok := TOK3; go_at_call 48; refine (HX.out 2 _).mono ?_; rintro e w6 ⟨rfl, k6⟩; have K6 := Lib.hid (K5.out.onto k6); have HB4 := Lib.hid (HB4.out.keep k6 HB4.out.lt); clear TOK3 tok k6; have TOK4 : True := trivial)
      | (have tok := TOK4; go_at_call 47; refine (HC2.out _ _ _).mono ?_; rintro e w7 ⟨rfl, k7⟩; have K7 := Lib.hid ((K6.out.alloc _).onto k7); have HB6 := Lib.hid ((Blk.new w6 24 #[.int .i64 3, .string ⟨#[97]⟩, .int .i64 0, .slice none 0 0, .int .i64 1, .string ⟨#[]⟩, .int .i64 2, .slice none 0 0]).keep k7 (by simp)); have HB4 := Lib.hid ((HB4.out.alloc _).keep k7 (by have := HB4.out.lt; simp; omega)); clear TOK4 tok k7; have TOK5 : True := trivial)
      | (have tok := TOK5; go_at_call 28; refine (Solve_any (t := xC [102] [xV 1, xA [98]]) (u := xC [102] [xA [97], xV 2]) (tm_comp (ts := [xV 1, xA [98]]) HB4.out (by simp [Tm.args, Tm.k, Tm.i, Tm.nm]; decide) (by decide) rfl (by decide)) (tm_comp (ts := [xA [97], xV 2]) HB6.out (by simp [Tm.args, Tm.k, Tm.i, Tm.nm]; decide) (by decide) rfl (by decide))).mono ?_; rintro e w8 ⟨v9, bs9, ok9, er9, rfl, hbo, hfr9, k8, hs9⟩; obtain ⟨rfl, rfl, hl9⟩ := ex1_is hs9; obtain ⟨g1, c1, rfl, hg1, hg1l, hcc⟩ := hbo.at_ hl9 (by decide); have K8 := Lib.hid (K7.out.onto k8); have HS1 := Lib.hid (And.intro hg1 (And.intro hg1l hcc)); clear TOK5 tok k8 hs9 hbo hfr9 hl9 hg1 hg1l hcc; have TOK6 : True := trivial))
  clear HC2 KD TOK6 K4 K5 K6 K7
  have Q8 := Lib.hid (Keep.refl (fun g => g < w8.heap.size) w8)
  go_wp2_with fail
  refine (HX.out 2 _).mono ?_
  rintro e w9 ⟨rfl, k9⟩
  have K9 := Lib.hid (K8.out.onto k9)
  have Q9 := Lib.hid (Q8.out.onto k9)
  clear k9 K8 Q8
  go_wp2_with fail
  refine (HX.out 1 _).mono ?_
  rintro e w10 ⟨rfl, k10⟩
  have K10 := Lib.hid (K9.out.onto k10)
  have Q10 := Lib.hid (Q9.out.onto k10)
  clear k10 K9 Q9
  go_wp2_with fail
  refine (Solve_any (w := w10) (t := xV 2) (u := xV 1) (a := none) (b := none) (c := 0) (d := 0) (tm_leaf (by decide) (by decide) (by decide)) (tm_leaf (by decide) (by decide) (by decide))).mono ?_
  rintro e w11 ⟨v9, bs9, ok9, er9, rfl, hbo, hfr9, k11, hs9⟩
  obtain ⟨rfl, rfl, hl9⟩ := ex2_is hs9
  obtain ⟨g2, c2, rfl, hg2, hg2l, hcc⟩ := hbo.at_ hl9 (by decide)
  have HS2 := Lib.hid (And.intro hg2l hcc)
  clear hs9 hbo hfr9 hl9 hg2 hg2l hcc bs9
  have K11 := Lib.hid (K10.out.onto k11)
  have Q11 := Lib.hid (Q10.out.onto k11)
  clear k11 K10 Q10
  have P11 := Lib.hid (Keep.refl (fun g => g < w11.heap.size) w11)
  go_wp2_with fail
  refine (HX.out 1 _).mono ?_
  rintro e w12 ⟨rfl, k12⟩
  have K12 := Lib.hid (K11.out.onto k12)
  have Q12 := Lib.hid (Q11.out.onto k12)
  have P12 := Lib.hid (P11.out.onto k12)
  clear k12 K11 Q11
  clear P11
  go_wp2_with fail
  refine (HX.out 1 _).mono ?_
  rintro e w13 ⟨rfl, k13⟩
  have K13 := Lib.hid (K12.out.onto k13)
  have Q13 := Lib.hid (Q12.out.onto k13)
  have P13 := Lib.hid (P12.out.onto k13)
  clear k13 K12 Q12
  clear P12
  go_wp2_with fail
  refine (HC1.out _ _ _).mono ?_
  rintro e w14 ⟨rfl, k14⟩
  have HB13 := Lib.hid ((Blk.new w13 24 #[.int .i64 1, .string ⟨#[]⟩, .int .i64 1, .slice none 0 0]).keep k14 (by simp))
  have K14 := Lib.hid ((K13.out.alloc _).onto k14)
  have Q14 := Lib.hid ((Q13.out.alloc _).onto k14)
  have P14 := Lib.hid ((P13.out.alloc _).onto k14)
  clear k14 K13 Q13
  clear P13
  go_wp2_with fail
  refine (Solve_any (w := w14) (t := xV 1) (u := xC [102] [xV 1]) (a := none) (c := 0) (tm_leaf (by decide) (by decide) (by decide)) (tm_comp (ts := [xV 1]) HB13.out (by simp [Tm.args, Tm.k, Tm.i, Tm.nm]; decide) (by decide) rfl (by decide))).mono ?_
  rintro e w15 ⟨v9, bs9, ok9, er9, rfl, hbo, hfr9, k15, hs9⟩
  obtain ⟨rfl, rfl, rfl⟩ := ex3_is hs9
  clear hs9 hbo hfr9 HB13
  have K15 := Lib.hid (K14.out.onto k15)
  have Q15 := Lib.hid (Q14.out.onto k15)
  have P15 := Lib.hid (P14.out.onto k15)
  clear k15 K14 Q14
  clear P14
  go_wp2_with fail
  refine (HX.out 7 _).mono ?_
  rintro e w16 ⟨rfl, k16⟩
  have K16 := Lib.hid (K15.out.onto k16)
  have Q16 := Lib.hid (Q15.out.onto k16)
  have P16 := Lib.hid (P15.out.onto k16)
  clear k16 K15 Q15
  clear P15
  go_wp2_with fail
  refine (HX.out 3 _).mono ?_
  rintro e w17 ⟨rfl, k17⟩
  have K17 := Lib.hid (K16.out.onto k17)
  have Q17 := Lib.hid (Q16.out.onto k17)
  have P17 := Lib.hid (P16.out.onto k17)
  clear k17 K16 Q16
  clear P16
  go_wp2_with fail
  refine (HX.out 7 _).mono ?_
  rintro e w18 ⟨rfl, k18⟩
  have K18 := Lib.hid (K17.out.onto k18)
  have Q18 := Lib.hid (Q17.out.onto k18)
  have P18 := Lib.hid (P17.out.onto k18)
  clear k18 K17 Q17
  clear P17
  go_wp2_with fail
  refine (HC3.out _ _ _).mono ?_
  rintro e w19 ⟨rfl, k19⟩
  have HB18 := Lib.hid ((Blk.new w18 24 #[.int .i64 1, .string ⟨#[]⟩, .int .i64 7, .slice none 0 0, .int .i64 1, .string ⟨#[]⟩, .int .i64 3, .slice none 0 0, .int .i64 1, .string ⟨#[]⟩, .int .i64 7, .slice none 0 0]).keep k19 (by simp))
  have K19 := Lib.hid ((K18.out.alloc _).onto k19)
  have Q19 := Lib.hid ((Q18.out.alloc _).onto k19)
  have P19 := Lib.hid ((P18.out.alloc _).onto k19)
  clear k19 K18 Q18
  clear P18
  have hren : Calls Try.prog 32 #[.agg #[.int .i64 4, .string ⟨#[102]⟩, .int .i64 0, .slice (some ⟨w18.heap.size, 0, none⟩) 3 3], .int .i64 1] w19 fun e w' => ∃ a' c', e = .returned (.tuple #[.agg #[.int .i64 4, .string ⟨#[102]⟩, .int .i64 0, .slice a' 3 c'], .int .i64 3, .int .i64 0]) ∧ Fr 0 (fun _ => False) w' w19.heap.size w'.heap.size RR a' c' ∧ Keep (fun g => g < w19.heap.size) w19 w' := by
    have h := Rename_any (w := w19) (t := F7) (m := 1) (tm_comp (ts := [xV 7, xV 3, xV 7]) HB18.out (by simp [Tm.args, Tm.k, Tm.i, Tm.nm]; decide) (by decide) rfl (by decide)) (by decide)
    rw [cl_rn] at h
    exact h
  have HREN := Lib.hid hren
  clear hren HB18
  go_wp2_with fail
  refine (HREN.out).mono ?_
  rintro e w20 ⟨ar, cr, rfl, hfr, k20⟩
  have HR20 := Lib.hid (hfr.at_ (Nat.zero_le _))
  clear hfr HREN
  have K20 := Lib.hid (K19.out.onto k20)
  have Q20 := Lib.hid (Q19.out.onto k20)
  have P20 := Lib.hid (P19.out.onto k20)
  clear k20 K19 Q19
  clear P19
  obtain ⟨br, hbr⟩ : ∃ br, w20.heap.size = br := ⟨_, rfl⟩
  obtain ⟨W21, hW21⟩ : ∃ W21, W21 = w20.alloc (.cells #[.int .i64 4, .string ⟨#[102]⟩, .int .i64 0, .slice ar 3 cr] 24) := ⟨_, rfl⟩
  have kal : Keep (fun g => g < w20.heap.size) w20 W21 := by rw [hW21]; exact (Keep.refl _ w20).alloc _
  have hRb : Blk W21 br 24 #[.int .i64 4, .string ⟨#[102]⟩, .int .i64 0, .slice ar 3 cr] := by rw [hW21, ← hbr]; exact Blk.new w20 24 _
  have K21 := Lib.hid (K20.out.onto kal)
  have P21 := P20.out.onto kal
  have Q21 := Q20.out.onto kal
  have HR21 := Lib.hid (And.intro (HR20.out.on kal) hRb)
  have s10 := ((HS1.out.2.2 0 1 (xA [97]) rfl).2.2.1)
  have s11 := ((HS1.out.2.2 1 2 (xA [98]) rfl).1)
  have s20 := ((HS2.out.2 0 2 (xV 1) rfl).1)
  have s21 := ((HS2.out.2 0 2 (xV 1) rfl).2.2.2)
  have f10 : W21.cell? ⟨g1, 2, none⟩ = some (.string ⟨#[97]⟩) := (World.cell?_of_block (a := ⟨g1, 2, none⟩) (Q21.block g1 HS1.out.2.1 HS1.out.2.1)).trans s10
  have f11 : W21.cell? ⟨g1, 5, none⟩ = some (.int .i64 2) := (World.cell?_of_block (a := ⟨g1, 5, none⟩) (Q21.block g1 HS1.out.2.1 HS1.out.2.1)).trans s11
  have f20 : W21.cell? ⟨g2, 0, none⟩ = some (.int .i64 2) := (World.cell?_of_block (a := ⟨g2, 0, none⟩) (P21.block g2 HS2.out.1 HS2.out.1)).trans s20
  have f21 : W21.cell? ⟨g2, 3, none⟩ = some (.int .i64 1) := (World.cell?_of_block (a := ⟨g2, 3, none⟩) (P21.block g2 HS2.out.1 HS2.out.1)).trans s21
  have lg1 : g1 < W21.heap.size := by have := Q21.size; have := HS1.out.2.1; omega
  have lg2 : g2 < W21.heap.size := by have := P21.size; have := HS2.out.1; omega
  have HW21 := Lib.hid (And.intro hW21 hbr)
  clear kal hRb P21 Q21 s10 s11 s20 s21 HS1 HS2 K20 P20 Q20 HR20
  go_upto_region 6 with fail
  rw [← hW21]
  clear hW21 hbr
  go_upto_region 8 with fail
  clear f10 f11 f20 f21 lg1 lg2
  refine r8_any (W21 := W21) (ba := ba) (bb := bb) (fun W h => HS.out W (K21.out.onto h)) ?_
  intro bl al cl W22 s129 s130 s131 s132 s133 s134 s135 s136 hk22 hbl hLb hLL
  have hit : Calls Try.prog 41 #[.agg #[.int .i64 4, .string ⟨#[46]⟩, .int .i64 0, .slice al 2 cl]] W22 fun e w' => ∃ g3 c3 ae ce, e = .returned (.tuple #[.slice (some ⟨g3, 0, none⟩) 2 c3, .agg #[.int .i64 3, .string ⟨#[91, 93]⟩, .int .i64 0, .slice ae 0 ce]]) ∧ Keep (fun g => g < W22.heap.size) W22 w' := by
    have h := Items_any hLL
    rw [cl_it] at h
    refine Calls.mono h ?_
    rintro e w' ⟨u, ps, a', c', rfl, hr, hm, _, _, hk⟩
    have hl : ps.length = 2 := by have := congrArg List.length hm; simpa using this
    rw [hl] at hr
    obtain ⟨g3, c3, cs, rfl, _⟩ := row_some hr (by decide)
    exact ⟨g3, c3, a', c', rfl, hk⟩
  have HIT := Lib.hid hit
  have hRb := HR21.out.2.keep hk22 HR21.out.2.lt
  have H22 := Lib.hid (And.intro hk22 (And.intro hLb (And.intro hLL (And.intro hRb (HR21.out.1.on hk22)))))
  have z0 := hLb.cell 0; have z1 := hLb.cell 1; have z2 := hLb.cell 2; have z3 := hLb.cell 3
  simp at z0 z1 z2 z3
  have lbl := hLb.lt
  clear hit hk22 hLb hLL hRb hbl
  go_wp2_with fail
  refine HIT.out.mono ?_
  rintro e w24 ⟨g3, c3, ae, ce, rfl, k24⟩
  obtain ⟨be, hbe⟩ : ∃ be, w24.heap.size = be := ⟨_, rfl⟩
  obtain ⟨W25, hW25⟩ : ∃ W25, W25 = w24.alloc (.cells #[.int .i64 3, .string ⟨#[91, 93]⟩, .int .i64 0, .slice ae 0 ce] 24) := ⟨_, rfl⟩
  obtain ⟨hk22, hLb, hLL, hRb, hRR⟩ := H22.out
  have hk25 : Keep (fun g => g < W22.heap.size) W22 W25 := by rw [hW25]; exact k24.alloc _
  have hEb : Blk W25 be 24 #[.int .i64 3, .string ⟨#[91, 93]⟩, .int .i64 0, .slice ae 0 ce] := by rw [hW25, ← hbe]; exact Blk.new w24 24 _
  have hLb5 := hLb.keep hk25 hLb.lt
  have hRb5 := hRb.keep hk25 hRb.lt
  have K25 := Lib.hid (And.intro ((K21.out.onto hk22).onto hk25) (And.intro hEb (And.intro hLb5 (And.intro hRb5 (And.intro (hLL.on hk25) (hRR.on hk25))))))
  clear z0 z1 z2 z3 lbl hk22 hLb hLL hRb hRR hk25 hEb hLb5 hRb5 k24 H22 HIT HR21
  go_upto_region 10 with fail
  rw [← hW25]
  try rw [hbe]
  clear hW25 hbe
  obtain ⟨k25, hEb, hLb, hRb, hLL, hRR⟩ := K25.out
  refine r10_any (W25 := W25) (ba := ba) (br := br) (bl := bl) (be := be) (g3 := g3) (c3 := c3) (ar := ar) (al := al) (cr := cr) (cl := cl) (fun W h => ?_) hRR hLL ?_
  · obtain ⟨q0, q1, q2, q3, -⟩ := HS.out W (k25.onto h)
    have r := hRb.keep h hRb.lt
    have l := hLb.keep h hLb.lt
    have n := hEb.keep h hEb.lt
    exact ⟨q0, q1, q2, q3, r.cell 0, r.cell 1, r.cell 2, r.cell 3, l.cell 0, l.cell 1, l.cell 2, l.cell 3, n.cell 1⟩
  · intro W s142 s143 s144 s145 s146 s147 s148 s149 s150 s151 s152 s153 s154 s155 s156 s157 s158 s159 s160 s161 s162 s163 s164 s165 s166 s167 s168 s169 s170 s171 s172 s173 s174 s175 s176 s177 s178 s179 s180 s181 s182 s183 s184 s185 s186 s187 s188 s189 s190 s191 s192 s193 s194 s195 s196 s197 s198 s199 s200 s201 s202 s203 s204 s205 s206 s207 s208 s209 s210 s211 s212 s213 s214 hk
    have HE := Lib.hid ((HW3.out.1.onto k25).onto hk)
    clear hk k25 hEb hLb hRb hLL hRR
    go_wp2_with fail
    go_ret
    exact ⟨rfl, HE.out⟩
end Go.Proofs.Ythbofkffklejoaa
