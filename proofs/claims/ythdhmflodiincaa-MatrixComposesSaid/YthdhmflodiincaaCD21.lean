/- Texts of the proof: RY2. -/
import Derived.Test.YthdhmflodiincaaCD00
import Derived.Test.YthdhmflodiincaaCD20
import Derived.Deep.DeepCutAuto
set_option maxRecDepth 100000
set_option maxHeartbeats 8000000
namespace Go.Proofs.Ythdhmflodiincaa
open Lib (hid)
open Go.RowKit Go.Maps

abbrev ry2o0 : Oper := { dst := some 89, op := Op.load 30 (Operand.tmp 1), type := 30, pos := "law.go:25", after := #[], guard := none }
abbrev ry2o1 : Oper := { dst := some 90, op := Op.load 26 (Operand.tmp 4), type := 26, pos := "law.go:25", after := #[], guard := none }
abbrev ry2o2 : Oper := { dst := some 91, op := Op.call { callee := Callee.value (Operand.func 16), args := #[Operand.tmp 89, Operand.tmp 90], argTypes := #[30, 26] }, type := 4, pos := "law.go:25", after := #[{ on := 0, ground := Ground.data }, { on := 1, ground := Ground.data }], guard := none }
abbrev ry2o3 : Oper := { dst := some 92, op := Op.move (Operand.tmp 91), type := 4, pos := "law.go:25", after := #[{ on := 2, ground := Ground.data }, { on := 2, ground := Ground.chain }], guard := none }
abbrev ry2o4 : Oper := { dst := some 93, op := Op.call { callee := Callee.value (Operand.func 66), args := #[], argTypes := #[] }, type := 30, pos := "law.go:25", after := #[{ on := 3, ground := Ground.chain }, { on := 3, ground := Ground.guard }], guard := some (3, true) }
abbrev ry2o5 : Oper := { dst := some 94, op := Op.load 26 (Operand.tmp 4), type := 26, pos := "law.go:25", after := #[{ on := 3, ground := Ground.guard }], guard := some (3, true) }
abbrev ry2o6 : Oper := { dst := some 95, op := Op.call { callee := Callee.value (Operand.func 16), args := #[Operand.tmp 93, Operand.tmp 94], argTypes := #[30, 26] }, type := 4, pos := "law.go:25", after := #[{ on := 4, ground := Ground.data }, { on := 5, ground := Ground.data }, { on := 4, ground := Ground.chain }, { on := 3, ground := Ground.guard }], guard := some (3, true) }
abbrev ry2o7 : Oper := { dst := some 96, op := Op.unOp UnOp.not 4 (Operand.tmp 95), type := 4, pos := "law.go:25", after := #[{ on := 6, ground := Ground.data }, { on := 3, ground := Ground.guard }], guard := some (3, true) }
abbrev ry2o8 : Oper := { dst := some 97, op := Op.pick (Operand.tmp 92) (Operand.tmp 96) (Operand.const (Value.bool false)), type := 4, pos := "law.go:25", after := #[{ on := 3, ground := Ground.data }, { on := 7, ground := Ground.data }], guard := none }
abbrev ry2o9 : Oper := { dst := some 98, op := Op.move (Operand.tmp 97), type := 4, pos := "law.go:25", after := #[{ on := 8, ground := Ground.data }, { on := 6, ground := Ground.chain }], guard := none }
abbrev ry2o10 : Oper := { dst := some 99, op := Op.fieldAddr 30 (Operand.tmp 5) 0, type := 0, pos := "law.go:25", after := #[{ on := 9, ground := Ground.guard }], guard := some (9, true) }
abbrev ry2o11 : Oper := { dst := some 100, op := Op.load 28 (Operand.tmp 99), type := 28, pos := "law.go:25", after := #[{ on := 10, ground := Ground.data }, { on := 9, ground := Ground.guard }], guard := some (9, true) }
abbrev ry2o12 : Oper := { dst := some 101, op := Op.call { callee := Callee.builtin Builtin.len, args := #[Operand.tmp 100], argTypes := #[28] }, type := 3, pos := "law.go:25", after := #[{ on := 11, ground := Ground.data }, { on := 9, ground := Ground.guard }], guard := some (9, true) }
abbrev ry2o13 : Oper := { dst := some 102, op := Op.binOp BinOp.eql 3 (Operand.tmp 101) (Operand.const (Value.int IntKind.i64 2)) 3, type := 4, pos := "law.go:25", after := #[{ on := 12, ground := Ground.data }, { on := 9, ground := Ground.guard }], guard := some (9, true) }
abbrev ry2o14 : Oper := { dst := some 103, op := Op.pick (Operand.tmp 98) (Operand.tmp 102) (Operand.const (Value.bool false)), type := 4, pos := "law.go:25", after := #[{ on := 9, ground := Ground.data }, { on := 13, ground := Ground.data }], guard := none }
abbrev ry2o15 : Oper := { dst := some 104, op := Op.move (Operand.tmp 103), type := 4, pos := "law.go:25", after := #[{ on := 14, ground := Ground.data }, { on := 9, ground := Ground.chain }], guard := none }
abbrev ry2o16 : Oper := { dst := some 105, op := Op.load 26 (Operand.tmp 6), type := 26, pos := "law.go:25", after := #[{ on := 15, ground := Ground.guard }], guard := some (15, true) }
abbrev ry2o17 : Oper := { dst := some 106, op := Op.build 71 #[], type := 71, pos := "law.go:25", after := #[{ on := 15, ground := Ground.guard }], guard := some (15, true) }
abbrev ry2o18 : Oper := { dst := some 107, op := Op.move (Operand.tmp 2), type := 3, pos := "law.go:25", after := #[{ on := 15, ground := Ground.guard }], guard := some (15, true) }
abbrev ry2o19 : Oper := { dst := some 108, op := Op.call { callee := Callee.value (Operand.func 69), args := #[Operand.tmp 107], argTypes := #[3] }, type := 3, pos := "law.go:25", after := #[{ on := 18, ground := Ground.data }, { on := 15, ground := Ground.chain }, { on := 15, ground := Ground.guard }], guard := some (15, true) }
abbrev ry2o20 : Oper := { dst := some 109, op := Op.build 71 #[(0, Operand.const (Value.int IntKind.i64 1)), (1, Operand.tmp 108)], type := 71, pos := "law.go:25", after := #[{ on := 19, ground := Ground.data }, { on := 15, ground := Ground.guard }], guard := some (15, true) }
abbrev ry2o21 : Oper := { dst := some 110, op := Op.build 71 #[(0, Operand.const (Value.int IntKind.i64 2))], type := 71, pos := "law.go:25", after := #[{ on := 15, ground := Ground.guard }], guard := some (15, true) }
abbrev ry2o22 : Oper := { dst := some 111, op := Op.buildSlice 24 3 #[(0, Operand.tmp 106), (1, Operand.tmp 109), (2, Operand.tmp 110)], type := 24, pos := "law.go:25", after := #[{ on := 17, ground := Ground.data }, { on := 20, ground := Ground.data }, { on := 21, ground := Ground.data }, { on := 15, ground := Ground.guard }], guard := some (15, true) }
abbrev ry2o23 : Oper := { dst := some 112, op := Op.build 26 #[(0, Operand.const (Value.int IntKind.i64 1)), (1, Operand.tmp 111)], type := 26, pos := "law.go:25", after := #[{ on := 22, ground := Ground.data }, { on := 15, ground := Ground.guard }], guard := some (15, true) }
abbrev ry2o24 : Oper := { dst := some 113, op := Op.call { callee := Callee.value (Operand.func 27), args := #[Operand.tmp 105, Operand.tmp 112], argTypes := #[26, 26] }, type := 4, pos := "law.go:25", after := #[{ on := 16, ground := Ground.data }, { on := 23, ground := Ground.data }, { on := 19, ground := Ground.chain }, { on := 15, ground := Ground.guard }], guard := some (15, true) }
abbrev ry2o25 : Oper := { dst := some 114, op := Op.pick (Operand.tmp 104) (Operand.tmp 113) (Operand.const (Value.bool false)), type := 4, pos := "law.go:25", after := #[{ on := 15, ground := Ground.data }, { on := 24, ground := Ground.data }], guard := none }
abbrev ry2o26 : Oper := { dst := some 115, op := Op.move (Operand.tmp 114), type := 4, pos := "law.go:25", after := #[{ on := 25, ground := Ground.data }, { on := 24, ground := Ground.chain }], guard := none }
abbrev ry2o27 : Oper := { dst := some 116, op := Op.load 26 (Operand.tmp 8), type := 26, pos := "law.go:25", after := #[{ on := 26, ground := Ground.guard }], guard := some (26, true) }
abbrev ry2o28 : Oper := { dst := some 117, op := Op.move (Operand.tmp 2), type := 3, pos := "law.go:25", after := #[{ on := 26, ground := Ground.guard }], guard := some (26, true) }
abbrev ry2o29 : Oper := { dst := some 118, op := Op.build 71 #[(1, Operand.tmp 117)], type := 71, pos := "law.go:25", after := #[{ on := 28, ground := Ground.data }, { on := 26, ground := Ground.guard }], guard := some (26, true) }
abbrev ry2o30 : Oper := { dst := some 119, op := Op.buildSlice 24 1 #[(0, Operand.tmp 118)], type := 24, pos := "law.go:25", after := #[{ on := 29, ground := Ground.data }, { on := 26, ground := Ground.guard }], guard := some (26, true) }
abbrev ry2o31 : Oper := { dst := some 120, op := Op.build 26 #[(0, Operand.const (Value.int IntKind.i64 1)), (1, Operand.tmp 119)], type := 26, pos := "law.go:25", after := #[{ on := 30, ground := Ground.data }, { on := 26, ground := Ground.guard }], guard := some (26, true) }
abbrev ry2o32 : Oper := { dst := some 121, op := Op.call { callee := Callee.value (Operand.func 27), args := #[Operand.tmp 116, Operand.tmp 120], argTypes := #[26, 26] }, type := 4, pos := "law.go:25", after := #[{ on := 27, ground := Ground.data }, { on := 31, ground := Ground.data }, { on := 26, ground := Ground.chain }, { on := 26, ground := Ground.guard }], guard := some (26, true) }
abbrev ry2o33 : Oper := { dst := some 122, op := Op.pick (Operand.tmp 115) (Operand.tmp 121) (Operand.const (Value.bool false)), type := 4, pos := "law.go:25", after := #[{ on := 26, ground := Ground.data }, { on := 32, ground := Ground.data }], guard := none }
abbrev ry2o34 : Oper := { dst := some 123, op := Op.move (Operand.tmp 122), type := 4, pos := "law.go:25", after := #[{ on := 33, ground := Ground.data }, { on := 32, ground := Ground.chain }], guard := none }
abbrev ry2o35 : Oper := { dst := some 124, op := Op.fieldAddr 30 (Operand.tmp 7) 0, type := 0, pos := "law.go:25", after := #[{ on := 34, ground := Ground.guard }], guard := some (34, true) }
abbrev ry2o36 : Oper := { dst := some 125, op := Op.load 28 (Operand.tmp 124), type := 28, pos := "law.go:25", after := #[{ on := 35, ground := Ground.data }, { on := 34, ground := Ground.guard }], guard := some (34, true) }
abbrev ry2o37 : Oper := { dst := some 126, op := Op.call { callee := Callee.builtin Builtin.len, args := #[Operand.tmp 125], argTypes := #[28] }, type := 3, pos := "law.go:25", after := #[{ on := 36, ground := Ground.data }, { on := 34, ground := Ground.guard }], guard := some (34, true) }
abbrev ry2o38 : Oper := { dst := some 127, op := Op.binOp BinOp.eql 3 (Operand.tmp 126) (Operand.const (Value.int IntKind.i64 2)) 3, type := 4, pos := "law.go:25", after := #[{ on := 37, ground := Ground.data }, { on := 34, ground := Ground.guard }], guard := some (34, true) }
abbrev ry2o39 : Oper := { dst := some 128, op := Op.pick (Operand.tmp 123) (Operand.tmp 127) (Operand.const (Value.bool false)), type := 4, pos := "law.go:25", after := #[{ on := 34, ground := Ground.data }, { on := 38, ground := Ground.data }], guard := none }
abbrev ry2o40 : Oper := { dst := some 129, op := Op.move (Operand.tmp 128), type := 4, pos := "law.go:25", after := #[{ on := 39, ground := Ground.data }, { on := 34, ground := Ground.chain }], guard := none }
abbrev ry2o41 : Oper := { dst := some 130, op := Op.move (Operand.tmp 10), type := 3, pos := "law.go:25", after := #[{ on := 40, ground := Ground.guard }], guard := some (40, true) }
abbrev ry2o42 : Oper := { dst := some 131, op := Op.binOp BinOp.eql 3 (Operand.tmp 130) (Operand.const (Value.int IntKind.i64 0)) 3, type := 4, pos := "law.go:25", after := #[{ on := 41, ground := Ground.data }, { on := 40, ground := Ground.guard }], guard := some (40, true) }
abbrev ry2o43 : Oper := { dst := some 132, op := Op.pick (Operand.tmp 129) (Operand.tmp 131) (Operand.const (Value.bool false)), type := 4, pos := "law.go:25", after := #[{ on := 40, ground := Ground.data }, { on := 42, ground := Ground.data }], guard := none }
abbrev ry2o44 : Oper := { dst := some 133, op := Op.move (Operand.tmp 132), type := 4, pos := "law.go:25", after := #[{ on := 43, ground := Ground.data }, { on := 40, ground := Ground.chain }], guard := none }
abbrev ry2o45 : Oper := { dst := some 134, op := Op.fieldAddr 30 (Operand.tmp 9) 0, type := 0, pos := "law.go:25", after := #[{ on := 44, ground := Ground.guard }], guard := some (44, true) }
abbrev ry2o46 : Oper := { dst := some 135, op := Op.load 28 (Operand.tmp 134), type := 28, pos := "law.go:25", after := #[{ on := 45, ground := Ground.data }, { on := 44, ground := Ground.guard }], guard := some (44, true) }
abbrev ry2o47 : Oper := { dst := some 136, op := Op.call { callee := Callee.builtin Builtin.len, args := #[Operand.tmp 135], argTypes := #[28] }, type := 3, pos := "law.go:25", after := #[{ on := 46, ground := Ground.data }, { on := 44, ground := Ground.guard }], guard := some (44, true) }
abbrev ry2o48 : Oper := { dst := some 137, op := Op.binOp BinOp.eql 3 (Operand.tmp 136) (Operand.const (Value.int IntKind.i64 2)) 3, type := 4, pos := "law.go:25", after := #[{ on := 47, ground := Ground.data }, { on := 44, ground := Ground.guard }], guard := some (44, true) }
abbrev ry2o49 : Oper := { dst := some 138, op := Op.pick (Operand.tmp 133) (Operand.tmp 137) (Operand.const (Value.bool false)), type := 4, pos := "law.go:25", after := #[{ on := 44, ground := Ground.data }, { on := 48, ground := Ground.data }], guard := none }
abbrev ry2o50 : Oper := { dst := some 139, op := Op.move (Operand.tmp 138), type := 4, pos := "law.go:25", after := #[{ on := 49, ground := Ground.data }, { on := 44, ground := Ground.chain }], guard := none }
abbrev ry2o51 : Oper := { dst := some 140, op := Op.move (Operand.tmp 12), type := 3, pos := "law.go:25", after := #[{ on := 50, ground := Ground.guard }], guard := some (50, true) }
abbrev ry2o52 : Oper := { dst := some 141, op := Op.binOp BinOp.eql 3 (Operand.tmp 140) (Operand.const (Value.int IntKind.i64 1)) 3, type := 4, pos := "law.go:25", after := #[{ on := 51, ground := Ground.data }, { on := 50, ground := Ground.guard }], guard := some (50, true) }
abbrev ry2o53 : Oper := { dst := some 142, op := Op.pick (Operand.tmp 139) (Operand.tmp 141) (Operand.const (Value.bool false)), type := 4, pos := "law.go:25", after := #[{ on := 50, ground := Ground.data }, { on := 52, ground := Ground.data }], guard := none }
abbrev ry2o54 : Oper := { dst := some 143, op := Op.move (Operand.tmp 142), type := 4, pos := "law.go:25", after := #[{ on := 53, ground := Ground.data }, { on := 50, ground := Ground.chain }], guard := none }
abbrev ry2o55 : Oper := { dst := some 144, op := Op.fieldAddr 30 (Operand.tmp 11) 0, type := 0, pos := "law.go:25", after := #[{ on := 54, ground := Ground.guard }], guard := some (54, true) }
abbrev ry2o56 : Oper := { dst := some 145, op := Op.load 28 (Operand.tmp 144), type := 28, pos := "law.go:25", after := #[{ on := 55, ground := Ground.data }, { on := 54, ground := Ground.guard }], guard := some (54, true) }
abbrev ry2o57 : Oper := { dst := some 146, op := Op.call { callee := Callee.builtin Builtin.len, args := #[Operand.tmp 145], argTypes := #[28] }, type := 3, pos := "law.go:25", after := #[{ on := 56, ground := Ground.data }, { on := 54, ground := Ground.guard }], guard := some (54, true) }
abbrev ry2o58 : Oper := { dst := some 147, op := Op.binOp BinOp.eql 3 (Operand.tmp 146) (Operand.const (Value.int IntKind.i64 2)) 3, type := 4, pos := "law.go:25", after := #[{ on := 57, ground := Ground.data }, { on := 54, ground := Ground.guard }], guard := some (54, true) }
abbrev ry2o59 : Oper := { dst := some 148, op := Op.pick (Operand.tmp 143) (Operand.tmp 147) (Operand.const (Value.bool false)), type := 4, pos := "law.go:25", after := #[{ on := 54, ground := Ground.data }, { on := 58, ground := Ground.data }], guard := none }
abbrev ry2o60 : Oper := { dst := some 149, op := Op.move (Operand.tmp 148), type := 4, pos := "law.go:25", after := #[{ on := 59, ground := Ground.data }, { on := 54, ground := Ground.chain }], guard := none }
abbrev ry2o61 : Oper := { dst := some 150, op := Op.load 26 (Operand.tmp 14), type := 26, pos := "law.go:25", after := #[{ on := 60, ground := Ground.guard }], guard := some (60, true) }
abbrev ry2o62 : Oper := { dst := some 151, op := Op.buildSlice 31 1 #[(0, Operand.const (Value.int IntKind.i64 0))], type := 31, pos := "law.go:25", after := #[{ on := 60, ground := Ground.guard }], guard := some (60, true) }
abbrev ry2o63 : Oper := { dst := some 152, op := Op.build 47 #[(0, Operand.const (Value.int IntKind.i64 2)), (1, Operand.tmp 151)], type := 47, pos := "law.go:25", after := #[{ on := 62, ground := Ground.data }, { on := 60, ground := Ground.guard }], guard := some (60, true) }
abbrev ry2o64 : Oper := { dst := some 153, op := Op.call { callee := Callee.value (Operand.func 38), args := #[Operand.tmp 152], argTypes := #[47] }, type := 26, pos := "law.go:25", after := #[{ on := 63, ground := Ground.data }, { on := 60, ground := Ground.chain }, { on := 60, ground := Ground.guard }], guard := some (60, true) }
abbrev ry2o65 : Oper := { dst := some 154, op := Op.call { callee := Callee.value (Operand.func 27), args := #[Operand.tmp 150, Operand.tmp 153], argTypes := #[26, 26] }, type := 4, pos := "law.go:25", after := #[{ on := 61, ground := Ground.data }, { on := 64, ground := Ground.data }, { on := 64, ground := Ground.chain }, { on := 60, ground := Ground.guard }], guard := some (60, true) }
abbrev ry2o66 : Oper := { dst := some 155, op := Op.pick (Operand.tmp 149) (Operand.tmp 154) (Operand.const (Value.bool false)), type := 4, pos := "law.go:25", after := #[{ on := 60, ground := Ground.data }, { on := 65, ground := Ground.data }], guard := none }
abbrev ry2o67 : Oper := { dst := some 156, op := Op.move (Operand.tmp 155), type := 4, pos := "law.go:25", after := #[{ on := 66, ground := Ground.data }, { on := 65, ground := Ground.chain }], guard := none }
abbrev ry2o68 : Oper := { dst := some 157, op := Op.fieldAddr 30 (Operand.tmp 13) 0, type := 0, pos := "law.go:25", after := #[{ on := 67, ground := Ground.guard }], guard := some (67, true) }
abbrev ry2o69 : Oper := { dst := some 158, op := Op.load 28 (Operand.tmp 157), type := 28, pos := "law.go:25", after := #[{ on := 68, ground := Ground.data }, { on := 67, ground := Ground.guard }], guard := some (67, true) }
abbrev ry2o70 : Oper := { dst := some 159, op := Op.call { callee := Callee.builtin Builtin.len, args := #[Operand.tmp 158], argTypes := #[28] }, type := 3, pos := "law.go:25", after := #[{ on := 69, ground := Ground.data }, { on := 67, ground := Ground.guard }], guard := some (67, true) }
abbrev ry2o71 : Oper := { dst := some 160, op := Op.binOp BinOp.eql 3 (Operand.tmp 159) (Operand.const (Value.int IntKind.i64 2)) 3, type := 4, pos := "law.go:25", after := #[{ on := 70, ground := Ground.data }, { on := 67, ground := Ground.guard }], guard := some (67, true) }
abbrev ry2o72 : Oper := { dst := some 161, op := Op.pick (Operand.tmp 156) (Operand.tmp 160) (Operand.const (Value.bool false)), type := 4, pos := "law.go:25", after := #[{ on := 67, ground := Ground.data }, { on := 71, ground := Ground.data }], guard := none }
abbrev ry2o73 : Oper := { dst := some 162, op := Op.move (Operand.tmp 161), type := 4, pos := "law.go:25", after := #[{ on := 72, ground := Ground.data }, { on := 67, ground := Ground.chain }], guard := none }
abbrev ry2o74 : Oper := { dst := some 163, op := Op.move (Operand.tmp 16), type := 3, pos := "law.go:25", after := #[{ on := 73, ground := Ground.guard }], guard := some (73, true) }
abbrev ry2o75 : Oper := { dst := some 164, op := Op.binOp BinOp.eql 3 (Operand.tmp 163) (Operand.const (Value.int IntKind.i64 0)) 3, type := 4, pos := "law.go:25", after := #[{ on := 74, ground := Ground.data }, { on := 73, ground := Ground.guard }], guard := some (73, true) }
abbrev ry2o76 : Oper := { dst := some 165, op := Op.pick (Operand.tmp 162) (Operand.tmp 164) (Operand.const (Value.bool false)), type := 4, pos := "law.go:25", after := #[{ on := 73, ground := Ground.data }, { on := 75, ground := Ground.data }], guard := none }
abbrev ry2o77 : Oper := { dst := some 166, op := Op.move (Operand.tmp 165), type := 4, pos := "law.go:25", after := #[{ on := 76, ground := Ground.data }, { on := 73, ground := Ground.chain }], guard := none }
abbrev ry2o78 : Oper := { dst := some 167, op := Op.move (Operand.tmp 18), type := 3, pos := "law.go:25", after := #[{ on := 77, ground := Ground.guard }], guard := some (77, true) }
abbrev ry2o79 : Oper := { dst := some 168, op := Op.binOp BinOp.eql 3 (Operand.tmp 167) (Operand.const (Value.int IntKind.i64 0)) 3, type := 4, pos := "law.go:25", after := #[{ on := 78, ground := Ground.data }, { on := 77, ground := Ground.guard }], guard := some (77, true) }
abbrev ry2o80 : Oper := { dst := some 169, op := Op.pick (Operand.tmp 166) (Operand.tmp 168) (Operand.const (Value.bool false)), type := 4, pos := "law.go:25", after := #[{ on := 77, ground := Ground.data }, { on := 79, ground := Ground.data }], guard := none }
abbrev ry2o81 : Oper := { dst := some 170, op := Op.move (Operand.tmp 169), type := 4, pos := "law.go:25", after := #[{ on := 80, ground := Ground.data }, { on := 77, ground := Ground.chain }], guard := none }
abbrev ry2o82 : Oper := { dst := some 171, op := Op.load 47 (Operand.tmp 19), type := 47, pos := "law.go:25", after := #[{ on := 81, ground := Ground.guard }], guard := some (81, true) }
abbrev ry2o83 : Oper := { dst := some 172, op := Op.buildSlice 31 3 #[(0, Operand.const (Value.int IntKind.i64 0)), (1, Operand.const (Value.int IntKind.i64 1)), (2, Operand.const (Value.int IntKind.i64 2))], type := 31, pos := "law.go:25", after := #[{ on := 81, ground := Ground.guard }], guard := some (81, true) }
abbrev ry2o84 : Oper := { dst := some 173, op := Op.build 47 #[(0, Operand.const (Value.int IntKind.i64 1)), (1, Operand.tmp 172)], type := 47, pos := "law.go:25", after := #[{ on := 83, ground := Ground.data }, { on := 81, ground := Ground.guard }], guard := some (81, true) }
abbrev ry2o85 : Oper := { dst := some 174, op := Op.call { callee := Callee.value (Operand.func 37), args := #[Operand.tmp 171, Operand.tmp 173], argTypes := #[47, 47] }, type := 4, pos := "law.go:25", after := #[{ on := 82, ground := Ground.data }, { on := 84, ground := Ground.data }, { on := 81, ground := Ground.chain }, { on := 81, ground := Ground.guard }], guard := some (81, true) }
abbrev ry2o86 : Oper := { dst := some 175, op := Op.pick (Operand.tmp 170) (Operand.tmp 174) (Operand.const (Value.bool false)), type := 4, pos := "law.go:25", after := #[{ on := 81, ground := Ground.data }, { on := 85, ground := Ground.data }], guard := none }
abbrev ry2o87 : Oper := { dst := some 0, op := Op.assign (Operand.tmp 175), type := 4, pos := "law.go:25", after := ([{ on := 86, ground := Ground.data }, { on := 85, ground := Ground.chain }, { on := 0, ground := Ground.phase }, { on := 1, ground := Ground.phase }, { on := 2, ground := Ground.phase }, { on := 3, ground := Ground.phase }, { on := 4, ground := Ground.phase }, { on := 5, ground := Ground.phase }, { on := 6, ground := Ground.phase }, { on := 7, ground := Ground.phase }, { on := 8, ground := Ground.phase }, { on := 9, ground := Ground.phase }, { on := 10, ground := Ground.phase }, { on := 11, ground := Ground.phase }, { on := 12, ground := Ground.phase }, { on := 13, ground := Ground.phase }, { on := 14, ground := Ground.phase }, { on := 15, ground := Ground.phase }, { on := 16, ground := Ground.phase }, { on := 17, ground := Ground.phase }, { on := 18, ground := Ground.phase }, { on := 19, ground := Ground.phase }, { on := 20, ground := Ground.phase }, { on := 21, ground := Ground.phase }, { on := 22, ground := Ground.phase }, { on := 23, ground := Ground.phase }, { on := 24, ground := Ground.phase }, { on := 25, ground := Ground.phase }, { on := 26, ground := Ground.phase }, { on := 27, ground := Ground.phase }, { on := 28, ground := Ground.phase }, { on := 29, ground := Ground.phase }, { on := 30, ground := Ground.phase }, { on := 31, ground := Ground.phase }, { on := 32, ground := Ground.phase }, { on := 33, ground := Ground.phase }, { on := 34, ground := Ground.phase }, { on := 35, ground := Ground.phase }, { on := 36, ground := Ground.phase }, { on := 37, ground := Ground.phase }, { on := 38, ground := Ground.phase }, { on := 39, ground := Ground.phase }, { on := 40, ground := Ground.phase }, { on := 41, ground := Ground.phase }].append [{ on := 42, ground := Ground.phase }, { on := 43, ground := Ground.phase }, { on := 44, ground := Ground.phase }, { on := 45, ground := Ground.phase }, { on := 46, ground := Ground.phase }, { on := 47, ground := Ground.phase }, { on := 48, ground := Ground.phase }, { on := 49, ground := Ground.phase }, { on := 50, ground := Ground.phase }, { on := 51, ground := Ground.phase }, { on := 52, ground := Ground.phase }, { on := 53, ground := Ground.phase }, { on := 54, ground := Ground.phase }, { on := 55, ground := Ground.phase }, { on := 56, ground := Ground.phase }, { on := 57, ground := Ground.phase }, { on := 58, ground := Ground.phase }, { on := 59, ground := Ground.phase }, { on := 60, ground := Ground.phase }, { on := 61, ground := Ground.phase }, { on := 62, ground := Ground.phase }, { on := 63, ground := Ground.phase }, { on := 64, ground := Ground.phase }, { on := 65, ground := Ground.phase }, { on := 66, ground := Ground.phase }, { on := 67, ground := Ground.phase }, { on := 68, ground := Ground.phase }, { on := 69, ground := Ground.phase }, { on := 70, ground := Ground.phase }, { on := 71, ground := Ground.phase }, { on := 72, ground := Ground.phase }, { on := 73, ground := Ground.phase }, { on := 74, ground := Ground.phase }, { on := 75, ground := Ground.phase }, { on := 76, ground := Ground.phase }, { on := 77, ground := Ground.phase }, { on := 78, ground := Ground.phase }, { on := 79, ground := Ground.phase }, { on := 80, ground := Ground.phase }, { on := 81, ground := Ground.phase }, { on := 82, ground := Ground.phase }, { on := 83, ground := Ground.phase }, { on := 84, ground := Ground.phase }, { on := 85, ground := Ground.phase }, { on := 86, ground := Ground.phase }]).toArray, guard := none }
theorem h_value_at {w : World} {xa ma va : Option Addr} {xc mc vc : Nat} (h : GatesW w xa xc hC) (hm : CellsW w ma mc [(0, 0), (1, 3), (2, 0)]) (hv : BoolsW w va vc [false]) :
  Calls Try.prog 34 #[.agg #[.slice xa hC.length xc], .agg #[.int .i64 1, .slice ma 3 mc], .slice va 1 vc] w fun e w' => ∃ b d, e = .returned (.agg #[.int .i64 1, .slice b 3 d]) ∧ IntsW w' b d [0, 1, 2] ∧ w.grownBy w' none := by
 have h1 := mvalue_calls hC [(0, 0), (1, 3), (2, 0)] [false] 1 xa xc ma mc va vc w h hm hv (by decide) (by decide) (by decide) (good_bounds h_good (by decide)) (by decide)
 rw [h_value] at h1
 refine h1.mono fun e w' he => ?_
 obtain ⟨b, d, rfl, hi, hg⟩ := he
 exact ⟨b, d, rfl, hi.weak, hg⟩
theorem h_same_at {w : World} {a b : Option Addr} {c d n : Nat} {l : List Cl} (ar : Int) (e : l.length = n) (h1 : CellsW w a c l) (h2 : CellsW w b d l) (hl : n ≤ 2000) : Calls Try.prog 27 #[.agg #[.int .i64 ar, .slice a n c], .agg #[.int .i64 ar, .slice b n d]] w fun e w' => e = .returned (.bool true) ∧ w.grownBy w' none := by
 subst e
 have h := rsame_calls l l ar ar a c b d w h1 h2 hl hl
 rw [decide_eq_true rfl, decide_eq_true rfl] at h
 exact h
theorem h_eq_at {w : World} {a b : Option Addr} {c d n : Nat} {l : List Int} (ar : Int) (e : l.length = n) (h1 : IntsW w a c l) (h2 : IntsW w b d l) (hl : n ≤ 2000) : Calls Try.prog 37 #[.agg #[.int .i64 ar, .slice a n c], .agg #[.int .i64 ar, .slice b n d]] w fun e w' => e = .returned (.bool true) ∧ w.grownBy w' none := by
 subst e
 have h := relEqual_calls (ar, l) (ar, l) a b c d w h1 h2 (by show (l.length : Int) ≤ _; omega)
 rw [decide_eq_true rfl] at h
 exact h
def hd12Ops : Array Oper := #[ry2o0,
 ry2o1,
 ry2o2,
 ry2o3,
 ry2o4,
 ry2o5,
 ry2o6,
 ry2o7,
 ry2o8,
 ry2o9,
 ry2o10,
 ry2o11,
 ry2o12,
 ry2o13,
 ry2o14,
 ry2o15,
 ry2o16,
 ry2o17,
 ry2o18,
 ry2o19,
 ry2o20,
 ry2o21,
 ry2o22,
 ry2o23,
 ry2o24,
 ry2o25,
 ry2o26,
 ry2o27,
 ry2o28,
 ry2o29,
 ry2o30,
 ry2o31,
 ry2o32,
 ry2o33,
 ry2o34,
 ry2o35,
 ry2o36,
 ry2o37,
 ry2o38,
 ry2o39,
 ry2o40,
 ry2o41,
 ry2o42,
 ry2o43,
 ry2o44,
 ry2o45,
 ry2o46,
 ry2o47,
 ry2o48,
 ry2o49,
 ry2o50,
 ry2o51,
 ry2o52,
 ry2o53,
 ry2o54,
 ry2o55,
 ry2o56,
 ry2o57,
 ry2o58,
 ry2o59,
 ry2o60,
 ry2o61,
 ry2o62,
 ry2o63,
 ry2o64,
 ry2o65,
 ry2o66,
 ry2o67,
 ry2o68,
 ry2o69,
 ry2o70,
 ry2o71,
 ry2o72,
 ry2o73,
 ry2o74,
 ry2o75,
 ry2o76,
 ry2o77,
 ry2o78,
 ry2o79,
 ry2o80,
 ry2o81,
 ry2o82,
 ry2o83,
 ry2o84,
 ry2o85,
 ry2o86,
 ry2o87]
theorem hd12_b {Q : Exit → Act → World → Prop} (hp : ∀ c a d v w, Q (.panic c) (Act.put a d v) w → Q (.panic c) a w) {V wc8 : World} {p2 bc bb bd bu be bi bf bg bh bj by1 : Nat} {n3 n6 : Nat} {an : Option Addr} {cn : Nat} {a2 ad ae af ag ah au ai aj ay : Option Addr} {c2 cd ce cf cg ch cu ci cj cy : Nat} {t0 t3 t15 t17 t20 t21 t22 t23 t24 t25 t26 t27 t28 t29 t30 t31 t32 t33 t34 t35 t36 t37 t38 t39 t40 t41 t42 t43 t44 t45 t46 t47 t48 t49 t50 t51 t52 t53 t54 t55 t56 t57 t58 t59 t60 t61 t62 t63 t64 t65 t66 t67 t68 t69 t70 t71 t72 t73 t74 t75 t76 t77 t78 t79 t80 t81 t82 t83 t84 t85 t86 t87 t88 t129 t130 t131 t132 t133 t134 t135 t136 t137 t138 t139 t140 t141 t142 t143 t144 t145 t146 t147 t148 t149 t150 t151 t152 t153 t154 t155 t156 t157 t158 t159 t160 t161 t162 t163 t164 t165 t166 t167 t168 t169 t170 t171 t172 t173 t174 t175 : Value} (Hc : Hid (CB V bc a2 c2 hC)) (Hd : Hid (CB V bd ad cd hC)) (He : Hid (CB V be ae ce hC)) (Hf : Hid (CB V bf af cf hC)) (Hg : Hid (CB V bg ag cg hC)) (Hh : Hid (CB V bh ah ch hC)) (Hb : Hid (XB V bb 1 (some ⟨p2, 0, none⟩) 2 2 hB)) (Hu : Hid (XB V bu 1 au 3 cu [(0, 0), (1, 3), (2, 0)])) (Hi : Hid (XB V bi 1 ai 1 ci [(0, 2)])) (Hj : Hid (XB V bj 2 aj 1 cj [(0, 0)])) (Hy : Hid (YB V by1 1 ay 3 cy [0, 1, 2])) (hgr8 : V.grownBy wc8 none)
  (HQ : ∀ (u1 u2 u3 u4 u5 u6 u7 u8 u9 u10 u11 u12 u13 u14 u15 u16 u17 u18 u19 u20 u21 u22 u23 u24 u25 u26 u27 u28 u29 u30 u31 u32 u33 u34 u35 u36 u37 u38 u39 u40 u41 u42 u43 u44 u45 u46 u47 u48 u49 u50 u51 u52 u53 u54 u55 u56 u57 u58 u59 u60 u61 u62 u63 u64 u65 u66 u67 u68 u69 u70 u71 u72 u73 u74 u75 u76 u77 u78 u79 u80 u81 u82 u83 u84 u85 u86 u87 u88 u89 u90 u91 u92 u93 u94 u95 u96 u97 u98 u99 u100 u101 u102 u103 u104 u105 u106 u107 u108 u109 u110 u111 u112 u113 u114 u115 u116 u117 u118 u119 u120 u121 u122 u123 u124 u125 u126 u127 u128 u129 u130 u131 u132 u133 u134 u135 u136 u137 u138 u139 u140 u141 u142 u143 u144 u145 u146 u147 u148 u149 u150 u151 u152 u153 u154 u155 u156 u157 u158 u159 u160 u161 u162 u163 u164 u165 u166 u167 u168 u169 u170 u171 u172 u173 u174 u175 : Value) (W : World), V.grownBy W none → Q .normal ⟨#[.bool true, u1, u2, u3, u4, u5, u6, u7, u8, u9, u10, u11, u12, u13, u14, u15, u16, u17, u18, u19, u20, u21, u22, u23, u24, u25, u26, u27, u28, u29, u30, u31, u32, u33, u34, u35, u36, u37, u38, u39, u40, u41, u42, u43, u44, u45, u46, u47, u48, u49, u50, u51, u52, u53, u54, u55, u56, u57, u58, u59, u60, u61, u62, u63, u64, u65, u66, u67, u68, u69, u70, u71, u72, u73, u74, u75, u76, u77, u78, u79, u80, u81, u82, u83, u84, u85, u86, u87, u88, u89, u90, u91, u92, u93, u94, u95, u96, u97, u98, u99, u100, u101, u102, u103, u104, u105, u106, u107, u108, u109, u110, u111, u112, u113, u114, u115, u116, u117, u118, u119, u120, u121, u122, u123, u124, u125, u126, u127, u128, u129, u130, u131, u132, u133, u134, u135, u136, u137, u138, u139, u140, u141, u142, u143, u144, u145, u146, u147, u148, u149, u150, u151, u152, u153, u154, u155, u156, u157, u158, u159, u160, u161, u162, u163, u164, u165, u166, u167, u168, u169, u170, u171, u172, u173, u174, u175], []⟩ W) :
  wpAnyH Try.prog Region.Mode.any hd12Ops Q (fun Wh : World => V.grownBy Wh none ∧ Wh.cell? ⟨bc, 0, none⟩ = some (.slice a2 hC.length c2) ∧ Wh.cell? ⟨bd, 0, none⟩ = some (.slice ad hC.length cd) ∧ Wh.cell? ⟨be, 0, none⟩ = some (.slice ae hC.length ce) ∧ Wh.cell? ⟨bf, 0, none⟩ = some (.slice af hC.length cf) ∧ Wh.cell? ⟨bg, 0, none⟩ = some (.slice ag hC.length cg) ∧ Wh.cell? ⟨bh, 0, none⟩ = some (.slice ah hC.length ch) ∧ Wh.cell? ⟨bb, 0, none⟩ = some (.int .i64 1) ∧ Wh.cell? ⟨bb, 1, none⟩ = some (.slice (some ⟨p2, 0, none⟩) 2 2) ∧ Wh.cell? ⟨bu, 0, none⟩ = some (.int .i64 1) ∧ Wh.cell? ⟨bu, 1, none⟩ = some (.slice au 3 cu) ∧ Wh.cell? ⟨bi, 0, none⟩ = some (.int .i64 1) ∧ Wh.cell? ⟨bi, 1, none⟩ = some (.slice ai 1 ci) ∧ Wh.cell? ⟨bj, 0, none⟩ = some (.int .i64 2) ∧ Wh.cell? ⟨bj, 1, none⟩ = some (.slice aj 1 cj) ∧ Wh.cell? ⟨by1, 0, none⟩ = some (.int .i64 1) ∧ Wh.cell? ⟨by1, 1, none⟩ = some (.slice ay 3 cy)) [ry2o40, ry2o41, ry2o42, ry2o43, ry2o44, ry2o45, ry2o46, ry2o47, ry2o48, ry2o49, ry2o50, ry2o51, ry2o52, ry2o53, ry2o54, ry2o55, ry2o56, ry2o57, ry2o58, ry2o59, ry2o60, ry2o61, ry2o62, ry2o63, ry2o64, ry2o65, ry2o66, ry2o67, ry2o68, ry2o69, ry2o70, ry2o71, ry2o72, ry2o73, ry2o74, ry2o75, ry2o76, ry2o77, ry2o78, ry2o79, ry2o80, ry2o81, ry2o82, ry2o83, ry2o84, ry2o85, ry2o86, ry2o87].length (((((((((((((((((((((((((((((((((((((((((Array.replicate hd12Ops.size false).setIfInBounds 0 true).setIfInBounds 1 true).setIfInBounds 2 true).setIfInBounds 3 true).setIfInBounds 5 true).setIfInBounds 4 true).setIfInBounds 6 true).setIfInBounds 7 true).setIfInBounds 8 true).setIfInBounds 9 true).setIfInBounds 10 true).setIfInBounds 11 true).setIfInBounds 12 true).setIfInBounds 13 true).setIfInBounds 14 true).setIfInBounds 15 true).setIfInBounds 16 true).setIfInBounds 17 true).setIfInBounds 18 true).setIfInBounds 21 true).setIfInBounds 19 true).setIfInBounds 20 true).setIfInBounds 22 true).setIfInBounds 23 true).setIfInBounds 24 true).setIfInBounds 25 true).setIfInBounds 26 true).setIfInBounds 27 true).setIfInBounds 28 true).setIfInBounds 29 true).setIfInBounds 30 true).setIfInBounds 31 true).setIfInBounds 32 true).setIfInBounds 33 true).setIfInBounds 34 true).setIfInBounds 35 true).setIfInBounds 36 true).setIfInBounds 37 true).setIfInBounds 38 true).setIfInBounds 39 true) ⟨#[t0, .pointer (some (⟨bc, 0, none⟩)), .int .i64 2, t3, .pointer (some (⟨bb, 0, none⟩)), .pointer (some (⟨bd, 0, none⟩)), .pointer (some (⟨bu, 0, none⟩)), .pointer (some (⟨be, 0, none⟩)), .pointer (some (⟨bi, 0, none⟩)), .pointer (some (⟨bf, 0, none⟩)), .int .i64 0, .pointer (some (⟨bg, 0, none⟩)), .int .i64 1, .pointer (some (⟨bh, 0, none⟩)), .pointer (some (⟨bj, 0, none⟩)), t15, .int .i64 0, t17, .int .i64 0, .pointer (some (⟨by1, 0, none⟩)), t20, t21, t22, t23, t24, t25, t26, t27, t28, t29, t30, t31, t32, t33, t34, t35, t36, t37, t38, t39, t40, t41, t42, t43, t44, t45, t46, t47, t48, t49, t50, t51, t52, t53, t54, t55, t56, t57, t58, t59, t60, t61, t62, t63, t64, t65, t66, t67, t68, t69, t70, t71, t72, t73, t74, t75, t76, t77, t78, t79, t80, t81, t82, t83, t84, t85, t86, t87, t88, .agg #[.slice a2 hC.length c2], .agg #[.int .i64 1, .slice (some (⟨p2, 0, none⟩)) 2 2], .bool true, .bool true, .agg #[.slice an 1 cn], .agg #[.int .i64 1, .slice (some (⟨p2, 0, none⟩)) 2 2], .bool false, .bool true, .bool true, .bool true, .pointer (some (⟨bd, 0, none⟩)), .slice ad hC.length cd, .int .i64 (hC.length : Int), .bool true, .bool true, .bool true, .agg #[.int .i64 1, .slice au 3 cu], .agg #[.int .i64 0, .int .i64 0], .int .i64 2, .int .i64 3, .agg #[.int .i64 1, .int .i64 3], .agg #[.int .i64 2, .int .i64 0], .slice (some (⟨n3, 0, none⟩)) 3 3, .agg #[.int .i64 1, .slice (some (⟨n3, 0, none⟩)) 3 3], .bool true, .bool true, .bool true, .agg #[.int .i64 1, .slice ai 1 ci], .int .i64 2, .agg #[.int .i64 0, .int .i64 2], .slice (some (⟨n6, 0, none⟩)) 1 1, .agg #[.int .i64 1, .slice (some (⟨n6, 0, none⟩)) 1 1], .bool true, .bool true, .bool true, .pointer (some (⟨be, 0, none⟩)), .slice ae hC.length ce, .int .i64 (hC.length : Int), .bool true, .bool true, t129, t130, t131, t132, t133, t134, t135, t136, t137, t138, t139, t140, t141, t142, t143, t144, t145, t146, t147, t148, t149, t150, t151, t152, t153, t154, t155, t156, t157, t158, t159, t160, t161, t162, t163, t164, t165, t166, t167, t168, t169, t170, t171, t172, t173, t174, t175], []⟩ wc8 := by
 have HS := hid (fun (Wh : World) (hWh : V.grownBy Wh none) => (⟨hWh, hWh.cell Hc.out.1 (by simp), hWh.cell Hd.out.1 (by simp), hWh.cell He.out.1 (by simp), hWh.cell Hf.out.1 (by simp), hWh.cell Hg.out.1 (by simp), hWh.cell Hh.out.1 (by simp), hWh.cell Hb.out.1 (by simp), hWh.cell Hb.out.2.1 (by simp), hWh.cell Hu.out.1 (by simp), hWh.cell Hu.out.2.1 (by simp), hWh.cell Hi.out.1 (by simp), hWh.cell Hi.out.2.1 (by simp), hWh.cell Hj.out.1 (by simp), hWh.cell Hj.out.2.1 (by simp), hWh.cell Hy.out.1 (by simp), hWh.cell Hy.out.2.1 (by simp)⟩ : (fun Wh : World => V.grownBy Wh none ∧ Wh.cell? ⟨bc, 0, none⟩ = some (.slice a2 hC.length c2) ∧ Wh.cell? ⟨bd, 0, none⟩ = some (.slice ad hC.length cd) ∧ Wh.cell? ⟨be, 0, none⟩ = some (.slice ae hC.length ce) ∧ Wh.cell? ⟨bf, 0, none⟩ = some (.slice af hC.length cf) ∧ Wh.cell? ⟨bg, 0, none⟩ = some (.slice ag hC.length cg) ∧ Wh.cell? ⟨bh, 0, none⟩ = some (.slice ah hC.length ch) ∧ Wh.cell? ⟨bb, 0, none⟩ = some (.int .i64 1) ∧ Wh.cell? ⟨bb, 1, none⟩ = some (.slice (some ⟨p2, 0, none⟩) 2 2) ∧ Wh.cell? ⟨bu, 0, none⟩ = some (.int .i64 1) ∧ Wh.cell? ⟨bu, 1, none⟩ = some (.slice au 3 cu) ∧ Wh.cell? ⟨bi, 0, none⟩ = some (.int .i64 1) ∧ Wh.cell? ⟨bi, 1, none⟩ = some (.slice ai 1 ci) ∧ Wh.cell? ⟨bj, 0, none⟩ = some (.int .i64 2) ∧ Wh.cell? ⟨bj, 1, none⟩ = some (.slice aj 1 cj) ∧ Wh.cell? ⟨by1, 0, none⟩ = some (.int .i64 1) ∧ Wh.cell? ⟨by1, 1, none⟩ = some (.slice ay 3 cy)) Wh))
 have hH := HS.out _ hgr8
 refine tk 40 ry2o40 ?_ rfl (by kernel_rfl) (fun c a w h => hp c a _ _ w h) (by rfl) ?_ hH ?_
 rotate_left 1
 · (intro W h; (try dsimp only at h); go_simp <;> with_reducible rfl)
 try simp only [Act.put, sA, sB, sC]
 refine tk 41 ry2o41 ?_ rfl (by kernel_rfl) (fun c a w h => hp c a _ _ w h) (by rfl) ?_ hH ?_
 rotate_left 1
 · (intro W h; (try dsimp only at h); go_simp <;> with_reducible rfl)
 try simp only [Act.put, sA, sB, sC]
 refine tk 42 ry2o42 ?_ rfl (by kernel_rfl) (fun c a w h => hp c a _ _ w h) (by rfl) ?_ hH ?_
 rotate_left 1
 · (intro W h; (try dsimp only at h); go_simp <;> with_reducible rfl)
 try simp only [Act.put, sA, sB, sC]
 refine tk 43 ry2o43 ?_ rfl (by kernel_rfl) (fun c a w h => hp c a _ _ w h) (by rfl) ?_ hH ?_
 rotate_left 1
 · (intro W h; (try dsimp only at h); go_simp <;> with_reducible rfl)
 try simp only [Act.put, sA, sB, sC]
 refine tk 44 ry2o44 ?_ rfl (by kernel_rfl) (fun c a w h => hp c a _ _ w h) (by rfl) ?_ hH ?_
 rotate_left 1
 · (intro W h; (try dsimp only at h); go_simp <;> with_reducible rfl)
 try simp only [Act.put, sA, sB, sC]
 refine tk 45 ry2o45 ?_ rfl (by kernel_rfl) (fun c a w h => hp c a _ _ w h) (by rfl) ?_ hH ?_
 rotate_left 1
 · (intro W h; (try dsimp only at h); go_simp <;> with_reducible rfl)
 try simp only [Act.put, sA, sB, sC]
 refine tk 46 ry2o46 ?_ rfl (by kernel_rfl) (fun c a w h => hp c a _ _ w h) (by rfl) ?_ hH ?_
 rotate_left 1
 · (intro W h; (try dsimp only at h); go_simp <;> with_reducible rfl)
 try simp only [Act.put, sA, sB, sC]
 refine tk 47 ry2o47 ?_ rfl (by kernel_rfl) (fun c a w h => hp c a _ _ w h) (by rfl) ?_ hH ?_
 rotate_left 1
 · (intro W h; (try dsimp only at h); go_simp <;> with_reducible rfl)
 try simp only [Act.put, sA, sB, sC]
 refine tk 48 ry2o48 ?_ rfl (by kernel_rfl) (fun c a w h => hp c a _ _ w h) (by rfl) ?_ hH ?_
 rotate_left 1
 · (intro W h; (try dsimp only at h); go_simp <;> with_reducible rfl)
 try simp only [Act.put, sA, sB, sC]
 refine tk 49 ry2o49 ?_ rfl (by kernel_rfl) (fun c a w h => hp c a _ _ w h) (by rfl) ?_ hH ?_
 rotate_left 1
 · (intro W h; (try dsimp only at h); go_simp <;> with_reducible rfl)
 try simp only [Act.put, sA, sB, sC]
 refine tk 50 ry2o50 ?_ rfl (by kernel_rfl) (fun c a w h => hp c a _ _ w h) (by rfl) ?_ hH ?_
 rotate_left 1
 · (intro W h; (try dsimp only at h); go_simp <;> with_reducible rfl)
 try simp only [Act.put, sA, sB, sC]
 refine tk 51 ry2o51 ?_ rfl (by kernel_rfl) (fun c a w h => hp c a _ _ w h) (by rfl) ?_ hH ?_
 rotate_left 1
 · (intro W h; (try dsimp only at h); go_simp <;> with_reducible rfl)
 try simp only [Act.put, sA, sB, sC]
 refine tk 52 ry2o52 ?_ rfl (by kernel_rfl) (fun c a w h => hp c a _ _ w h) (by rfl) ?_ hH ?_
 rotate_left 1
 · (intro W h; (try dsimp only at h); go_simp <;> with_reducible rfl)
 try simp only [Act.put, sA, sB, sC]
 refine tk 53 ry2o53 ?_ rfl (by kernel_rfl) (fun c a w h => hp c a _ _ w h) (by rfl) ?_ hH ?_
 rotate_left 1
 · (intro W h; (try dsimp only at h); go_simp <;> with_reducible rfl)
 try simp only [Act.put, sA, sB, sC]
 refine tk 54 ry2o54 ?_ rfl (by kernel_rfl) (fun c a w h => hp c a _ _ w h) (by rfl) ?_ hH ?_
 rotate_left 1
 · (intro W h; (try dsimp only at h); go_simp <;> with_reducible rfl)
 try simp only [Act.put, sA, sB, sC]
 refine tk 55 ry2o55 ?_ rfl (by kernel_rfl) (fun c a w h => hp c a _ _ w h) (by rfl) ?_ hH ?_
 rotate_left 1
 · (intro W h; (try dsimp only at h); go_simp <;> with_reducible rfl)
 try simp only [Act.put, sA, sB, sC]
 refine tk 56 ry2o56 ?_ rfl (by kernel_rfl) (fun c a w h => hp c a _ _ w h) (by rfl) ?_ hH ?_
 rotate_left 1
 · (intro W h; (try dsimp only at h); go_simp <;> with_reducible rfl)
 try simp only [Act.put, sA, sB, sC]
 refine tk 57 ry2o57 ?_ rfl (by kernel_rfl) (fun c a w h => hp c a _ _ w h) (by rfl) ?_ hH ?_
 rotate_left 1
 · (intro W h; (try dsimp only at h); go_simp <;> with_reducible rfl)
 try simp only [Act.put, sA, sB, sC]
 refine tk 58 ry2o58 ?_ rfl (by kernel_rfl) (fun c a w h => hp c a _ _ w h) (by rfl) ?_ hH ?_
 rotate_left 1
 · (intro W h; (try dsimp only at h); go_simp <;> with_reducible rfl)
 try simp only [Act.put, sA, sB, sC]
 refine tk 59 ry2o59 ?_ rfl (by kernel_rfl) (fun c a w h => hp c a _ _ w h) (by rfl) ?_ hH ?_
 rotate_left 1
 · (intro W h; (try dsimp only at h); go_simp <;> with_reducible rfl)
 try simp only [Act.put, sA, sB, sC]
 refine tk 60 ry2o60 ?_ rfl (by kernel_rfl) (fun c a w h => hp c a _ _ w h) (by rfl) ?_ hH ?_
 rotate_left 1
 · (intro W h; (try dsimp only at h); go_simp <;> with_reducible rfl)
 try simp only [Act.put, sA, sB, sC]
 refine tk 61 ry2o61 ?_ rfl (by kernel_rfl) (fun c a w h => hp c a _ _ w h) (by rfl) ?_ hH ?_
 rotate_left 1
 · (intro W h; (try dsimp only at h); go_simp <;> with_reducible rfl)
 try simp only [Act.put, sA, sB, sC]
 refine wpAnyH_ready (rs := [62]) (by kernel_rfl) (by simp) ?_
 refine (AllReadyH.cons (o := ry2o62) rfl (fun K hK => ?_) AllReadyH.nil)
 rw [if_pos (by rfl)]
 go_simp
 have hga9 := gT hgr8 (gAl wc8 (.cells #[.int .i64 0] 3) none)
 refine hK.out _ _ (HS.out _ hga9) (fun hH => ?_)
 clear hK K
 try simp only [Act.put, sA, sB, sC]
 refine tk 63 ry2o63 ?_ rfl (by kernel_rfl) (fun c a w h => hp c a _ _ w h) (by rfl) ?_ hH ?_
 rotate_left 1
 · (intro W h; (try dsimp only at h); go_simp <;> with_reducible rfl)
 try simp only [Act.put, sA, sB, sC]
 refine wpAnyH_ready (rs := [64]) (by kernel_rfl) (by simp) ?_
 refine (AllReadyH.cons (o := ry2o64) rfl (fun K hK => ?_) AllReadyH.nil)
 rw [if_pos (by rfl)]
 go_simp
 go_at_call 38
 refine (const1_at 2 0 (ints_lit1 wc8 0)).mono ?_
 rintro e wc10 ⟨a64, c64, rfl, h64, gc10⟩
 have hgr10 := gT hga9 gc10
 go_wp2_with fail
 refine hK.out _ _ (HS.out _ hgr10) (fun hH => ?_)
 clear hK K
 try simp only [Act.put, sA, sB, sC]
 refine wpAnyH_ready (rs := [65]) (by kernel_rfl) (by simp) ?_
 refine (AllReadyH.cons (o := ry2o65) rfl (fun K hK => ?_) AllReadyH.nil)
 rw [if_pos (by rfl)]
 go_simp
 go_at_call 27
 refine (h_same_at 2 (l := [(0, 0)]) rfl (Hj.out.grown hgr10).2.2.2 h64 (by decide)).mono ?_
 rintro e wc11 ⟨rfl, gc11⟩
 have hgr11 := gT hgr10 gc11
 go_wp2_with fail
 refine hK.out _ _ (HS.out _ hgr11) (fun hH => ?_)
 clear hK K
 try simp only [Act.put, sA, sB, sC]
 refine tk 66 ry2o66 ?_ rfl (by kernel_rfl) (fun c a w h => hp c a _ _ w h) (by rfl) ?_ hH ?_
 rotate_left 1
 · (intro W h; (try dsimp only at h); go_simp <;> with_reducible rfl)
 try simp only [Act.put, sA, sB, sC]
 refine tk 67 ry2o67 ?_ rfl (by kernel_rfl) (fun c a w h => hp c a _ _ w h) (by rfl) ?_ hH ?_
 rotate_left 1
 · (intro W h; (try dsimp only at h); go_simp <;> with_reducible rfl)
 try simp only [Act.put, sA, sB, sC]
 refine tk 68 ry2o68 ?_ rfl (by kernel_rfl) (fun c a w h => hp c a _ _ w h) (by rfl) ?_ hH ?_
 rotate_left 1
 · (intro W h; (try dsimp only at h); go_simp <;> with_reducible rfl)
 try simp only [Act.put, sA, sB, sC]
 refine tk 69 ry2o69 ?_ rfl (by kernel_rfl) (fun c a w h => hp c a _ _ w h) (by rfl) ?_ hH ?_
 rotate_left 1
 · (intro W h; (try dsimp only at h); go_simp <;> with_reducible rfl)
 try simp only [Act.put, sA, sB, sC]
 refine tk 70 ry2o70 ?_ rfl (by kernel_rfl) (fun c a w h => hp c a _ _ w h) (by rfl) ?_ hH ?_
 rotate_left 1
 · (intro W h; (try dsimp only at h); go_simp <;> with_reducible rfl)
 try simp only [Act.put, sA, sB, sC]
 refine tk 71 ry2o71 ?_ rfl (by kernel_rfl) (fun c a w h => hp c a _ _ w h) (by rfl) ?_ hH ?_
 rotate_left 1
 · (intro W h; (try dsimp only at h); go_simp <;> with_reducible rfl)
 try simp only [Act.put, sA, sB, sC]
 refine tk 72 ry2o72 ?_ rfl (by kernel_rfl) (fun c a w h => hp c a _ _ w h) (by rfl) ?_ hH ?_
 rotate_left 1
 · (intro W h; (try dsimp only at h); go_simp <;> with_reducible rfl)
 try simp only [Act.put, sA, sB, sC]
 refine tk 73 ry2o73 ?_ rfl (by kernel_rfl) (fun c a w h => hp c a _ _ w h) (by rfl) ?_ hH ?_
 rotate_left 1
 · (intro W h; (try dsimp only at h); go_simp <;> with_reducible rfl)
 try simp only [Act.put, sA, sB, sC]
 refine tk 74 ry2o74 ?_ rfl (by kernel_rfl) (fun c a w h => hp c a _ _ w h) (by rfl) ?_ hH ?_
 rotate_left 1
 · (intro W h; (try dsimp only at h); go_simp <;> with_reducible rfl)
 try simp only [Act.put, sA, sB, sC]
 refine tk 75 ry2o75 ?_ rfl (by kernel_rfl) (fun c a w h => hp c a _ _ w h) (by rfl) ?_ hH ?_
 rotate_left 1
 · (intro W h; (try dsimp only at h); go_simp <;> with_reducible rfl)
 try simp only [Act.put, sA, sB, sC]
 refine tk 76 ry2o76 ?_ rfl (by kernel_rfl) (fun c a w h => hp c a _ _ w h) (by rfl) ?_ hH ?_
 rotate_left 1
 · (intro W h; (try dsimp only at h); go_simp <;> with_reducible rfl)
 try simp only [Act.put, sA, sB, sC]
 refine tk 77 ry2o77 ?_ rfl (by kernel_rfl) (fun c a w h => hp c a _ _ w h) (by rfl) ?_ hH ?_
 rotate_left 1
 · (intro W h; (try dsimp only at h); go_simp <;> with_reducible rfl)
 try simp only [Act.put, sA, sB, sC]
 refine tk 78 ry2o78 ?_ rfl (by kernel_rfl) (fun c a w h => hp c a _ _ w h) (by rfl) ?_ hH ?_
 rotate_left 1
 · (intro W h; (try dsimp only at h); go_simp <;> with_reducible rfl)
 try simp only [Act.put, sA, sB, sC]
 refine tk 79 ry2o79 ?_ rfl (by kernel_rfl) (fun c a w h => hp c a _ _ w h) (by rfl) ?_ hH ?_
 rotate_left 1
 · (intro W h; (try dsimp only at h); go_simp <;> with_reducible rfl)
 try simp only [Act.put, sA, sB, sC]
 refine tk 80 ry2o80 ?_ rfl (by kernel_rfl) (fun c a w h => hp c a _ _ w h) (by rfl) ?_ hH ?_
 rotate_left 1
 · (intro W h; (try dsimp only at h); go_simp <;> with_reducible rfl)
 try simp only [Act.put, sA, sB, sC]
 refine tk 81 ry2o81 ?_ rfl (by kernel_rfl) (fun c a w h => hp c a _ _ w h) (by rfl) ?_ hH ?_
 rotate_left 1
 · (intro W h; (try dsimp only at h); go_simp <;> with_reducible rfl)
 try simp only [Act.put, sA, sB, sC]
 refine tk 82 ry2o82 ?_ rfl (by kernel_rfl) (fun c a w h => hp c a _ _ w h) (by rfl) ?_ hH ?_
 rotate_left 1
 · (intro W h; (try dsimp only at h); go_simp <;> with_reducible rfl)
 try simp only [Act.put, sA, sB, sC]
 refine wpAnyH_ready (rs := [83]) (by kernel_rfl) (by simp) ?_
 refine (AllReadyH.cons (o := ry2o83) rfl (fun K hK => ?_) AllReadyH.nil)
 rw [if_pos (by rfl)]
 go_simp
 have hga12 := gT hgr11 (gAl wc11 (.cells #[.int .i64 0, .int .i64 1, .int .i64 2] 3) none)
 refine hK.out _ _ (HS.out _ hga12) (fun hH => ?_)
 clear hK K
 try simp only [Act.put, sA, sB, sC]
 refine tk 84 ry2o84 ?_ rfl (by kernel_rfl) (fun c a w h => hp c a _ _ w h) (by rfl) ?_ hH ?_
 rotate_left 1
 · (intro W h; (try dsimp only at h); go_simp <;> with_reducible rfl)
 try simp only [Act.put, sA, sB, sC]
 refine wpAnyH_ready (rs := [85]) (by kernel_rfl) (by simp) ?_
 refine (AllReadyH.cons (o := ry2o85) rfl (fun K hK => ?_) AllReadyH.nil)
 rw [if_pos (by rfl)]
 go_simp
 go_at_call 37
 refine (h_eq_at 1 (l := [0, 1, 2]) rfl (Hy.out.grown hga12).2.2.2 (ints_lit3 wc11 0 1 2) (by decide)).mono ?_
 rintro e wc13 ⟨rfl, gc13⟩
 have hgr13 := gT hga12 gc13
 go_wp2_with fail
 refine hK.out _ _ (HS.out _ hgr13) (fun hH => ?_)
 clear hK K
 try simp only [Act.put, sA, sB, sC]
 refine tk 86 ry2o86 ?_ rfl (by kernel_rfl) (fun c a w h => hp c a _ _ w h) (by rfl) ?_ hH ?_
 rotate_left 1
 · (intro W h; (try dsimp only at h); go_simp <;> with_reducible rfl)
 try simp only [Act.put, sA, sB, sC]
 refine tk 87 ry2o87 ?_ rfl (by kernel_rfl) (fun c a w h => hp c a _ _ w h) (by rfl) ?_ hH ?_
 rotate_left 1
 · (intro W h; (try dsimp only at h); go_simp <;> with_reducible rfl)
 try simp only [Act.put, sA, sB]
 refine wpAnyH_done (by kernel_rfl) ?_ _
 have hEND := hgr13
 clear hH
 exact HQ _ _ _ _ _ _ _ _ _ _ _ _ _ _ _ _ _ _ _ _ _ _ _ _ _ _ _ _ _ _ _ _ _ _ _ _ _ _ _ _ _ _ _ _ _ _ _ _ _ _ _ _ _ _ _ _ _ _ _ _ _ _ _ _ _ _ _ _ _ _ _ _ _ _ _ _ _ _ _ _ _ _ _ _ _ _ _ _ _ _ _ _ _ _ _ _ _ _ _ _ _ _ _ _ _ _ _ _ _ _ _ _ _ _ _ _ _ _ _ _ _ _ _ _ _ _ _ _ _ _ _ _ _ _ _ _ _ _ _ _ _ _ _ _ _ _ _ _ _ _ _ _ _ _ _ _ _ _ _ _ _ _ _ _ _ _ _ _ _ _ _ _ _ _ _ _ hEND

theorem hd12_all {Q : Exit → Act → World → Prop} (hp : ∀ c a d v w, Q (.panic c) (Act.put a d v) w → Q (.panic c) a w) {V : World} {p2 bc bb bd bu be bi bf bg bh bj by1 : Nat} {a2 ad ae af ag ah au ai aj ay : Option Addr} {c2 cd ce cf cg ch cu ci cj cy : Nat} {t0 t3 t15 t17 t20 t21 t22 t23 t24 t25 t26 t27 t28 t29 t30 t31 t32 t33 t34 t35 t36 t37 t38 t39 t40 t41 t42 t43 t44 t45 t46 t47 t48 t49 t50 t51 t52 t53 t54 t55 t56 t57 t58 t59 t60 t61 t62 t63 t64 t65 t66 t67 t68 t69 t70 t71 t72 t73 t74 t75 t76 t77 t78 t79 t80 t81 t82 t83 t84 t85 t86 t87 t88 t89 t90 t91 t92 t93 t94 t95 t96 t97 t98 t99 t100 t101 t102 t103 t104 t105 t106 t107 t108 t109 t110 t111 t112 t113 t114 t115 t116 t117 t118 t119 t120 t121 t122 t123 t124 t125 t126 t127 t128 t129 t130 t131 t132 t133 t134 t135 t136 t137 t138 t139 t140 t141 t142 t143 t144 t145 t146 t147 t148 t149 t150 t151 t152 t153 t154 t155 t156 t157 t158 t159 t160 t161 t162 t163 t164 t165 t166 t167 t168 t169 t170 t171 t172 t173 t174 t175 : Value} (Hc : Hid (CB V bc a2 c2 hC)) (Hd : Hid (CB V bd ad cd hC)) (He : Hid (CB V be ae ce hC)) (Hf : Hid (CB V bf af cf hC)) (Hg : Hid (CB V bg ag cg hC)) (Hh : Hid (CB V bh ah ch hC)) (Hb : Hid (XB V bb 1 (some ⟨p2, 0, none⟩) 2 2 hB)) (Hu : Hid (XB V bu 1 au 3 cu [(0, 0), (1, 3), (2, 0)])) (Hi : Hid (XB V bi 1 ai 1 ci [(0, 2)])) (Hj : Hid (XB V bj 2 aj 1 cj [(0, 0)])) (Hy : Hid (YB V by1 1 ay 3 cy [0, 1, 2]))
  (HQ : ∀ (u1 u2 u3 u4 u5 u6 u7 u8 u9 u10 u11 u12 u13 u14 u15 u16 u17 u18 u19 u20 u21 u22 u23 u24 u25 u26 u27 u28 u29 u30 u31 u32 u33 u34 u35 u36 u37 u38 u39 u40 u41 u42 u43 u44 u45 u46 u47 u48 u49 u50 u51 u52 u53 u54 u55 u56 u57 u58 u59 u60 u61 u62 u63 u64 u65 u66 u67 u68 u69 u70 u71 u72 u73 u74 u75 u76 u77 u78 u79 u80 u81 u82 u83 u84 u85 u86 u87 u88 u89 u90 u91 u92 u93 u94 u95 u96 u97 u98 u99 u100 u101 u102 u103 u104 u105 u106 u107 u108 u109 u110 u111 u112 u113 u114 u115 u116 u117 u118 u119 u120 u121 u122 u123 u124 u125 u126 u127 u128 u129 u130 u131 u132 u133 u134 u135 u136 u137 u138 u139 u140 u141 u142 u143 u144 u145 u146 u147 u148 u149 u150 u151 u152 u153 u154 u155 u156 u157 u158 u159 u160 u161 u162 u163 u164 u165 u166 u167 u168 u169 u170 u171 u172 u173 u174 u175 : Value) (W : World), V.grownBy W none → Q .normal ⟨#[.bool true, u1, u2, u3, u4, u5, u6, u7, u8, u9, u10, u11, u12, u13, u14, u15, u16, u17, u18, u19, u20, u21, u22, u23, u24, u25, u26, u27, u28, u29, u30, u31, u32, u33, u34, u35, u36, u37, u38, u39, u40, u41, u42, u43, u44, u45, u46, u47, u48, u49, u50, u51, u52, u53, u54, u55, u56, u57, u58, u59, u60, u61, u62, u63, u64, u65, u66, u67, u68, u69, u70, u71, u72, u73, u74, u75, u76, u77, u78, u79, u80, u81, u82, u83, u84, u85, u86, u87, u88, u89, u90, u91, u92, u93, u94, u95, u96, u97, u98, u99, u100, u101, u102, u103, u104, u105, u106, u107, u108, u109, u110, u111, u112, u113, u114, u115, u116, u117, u118, u119, u120, u121, u122, u123, u124, u125, u126, u127, u128, u129, u130, u131, u132, u133, u134, u135, u136, u137, u138, u139, u140, u141, u142, u143, u144, u145, u146, u147, u148, u149, u150, u151, u152, u153, u154, u155, u156, u157, u158, u159, u160, u161, u162, u163, u164, u165, u166, u167, u168, u169, u170, u171, u172, u173, u174, u175], []⟩ W) :
  (Code.region 12 hd12Ops true).wp Try.prog Q ⟨#[t0, .pointer (some ⟨bc, 0, none⟩), .int .i64 2, t3, .pointer (some ⟨bb, 0, none⟩), .pointer (some ⟨bd, 0, none⟩), .pointer (some ⟨bu, 0, none⟩), .pointer (some ⟨be, 0, none⟩), .pointer (some ⟨bi, 0, none⟩), .pointer (some ⟨bf, 0, none⟩), .int .i64 0, .pointer (some ⟨bg, 0, none⟩), .int .i64 1, .pointer (some ⟨bh, 0, none⟩), .pointer (some ⟨bj, 0, none⟩), t15, .int .i64 0, t17, .int .i64 0, .pointer (some ⟨by1, 0, none⟩), t20, t21, t22, t23, t24, t25, t26, t27, t28, t29, t30, t31, t32, t33, t34, t35, t36, t37, t38, t39, t40, t41, t42, t43, t44, t45, t46, t47, t48, t49, t50, t51, t52, t53, t54, t55, t56, t57, t58, t59, t60, t61, t62, t63, t64, t65, t66, t67, t68, t69, t70, t71, t72, t73, t74, t75, t76, t77, t78, t79, t80, t81, t82, t83, t84, t85, t86, t87, t88, t89, t90, t91, t92, t93, t94, t95, t96, t97, t98, t99, t100, t101, t102, t103, t104, t105, t106, t107, t108, t109, t110, t111, t112, t113, t114, t115, t116, t117, t118, t119, t120, t121, t122, t123, t124, t125, t126, t127, t128, t129, t130, t131, t132, t133, t134, t135, t136, t137, t138, t139, t140, t141, t142, t143, t144, t145, t146, t147, t148, t149, t150, t151, t152, t153, t154, t155, t156, t157, t158, t159, t160, t161, t162, t163, t164, t165, t166, t167, t168, t169, t170, t171, t172, t173, t174, t175], []⟩ V := by
 have HS := hid (fun (Wh : World) (hWh : V.grownBy Wh none) => (⟨hWh, hWh.cell Hc.out.1 (by simp), hWh.cell Hd.out.1 (by simp), hWh.cell He.out.1 (by simp), hWh.cell Hf.out.1 (by simp), hWh.cell Hg.out.1 (by simp), hWh.cell Hh.out.1 (by simp), hWh.cell Hb.out.1 (by simp), hWh.cell Hb.out.2.1 (by simp), hWh.cell Hu.out.1 (by simp), hWh.cell Hu.out.2.1 (by simp), hWh.cell Hi.out.1 (by simp), hWh.cell Hi.out.2.1 (by simp), hWh.cell Hj.out.1 (by simp), hWh.cell Hj.out.2.1 (by simp), hWh.cell Hy.out.1 (by simp), hWh.cell Hy.out.2.1 (by simp)⟩ : (fun Wh : World => V.grownBy Wh none ∧ Wh.cell? ⟨bc, 0, none⟩ = some (.slice a2 hC.length c2) ∧ Wh.cell? ⟨bd, 0, none⟩ = some (.slice ad hC.length cd) ∧ Wh.cell? ⟨be, 0, none⟩ = some (.slice ae hC.length ce) ∧ Wh.cell? ⟨bf, 0, none⟩ = some (.slice af hC.length cf) ∧ Wh.cell? ⟨bg, 0, none⟩ = some (.slice ag hC.length cg) ∧ Wh.cell? ⟨bh, 0, none⟩ = some (.slice ah hC.length ch) ∧ Wh.cell? ⟨bb, 0, none⟩ = some (.int .i64 1) ∧ Wh.cell? ⟨bb, 1, none⟩ = some (.slice (some ⟨p2, 0, none⟩) 2 2) ∧ Wh.cell? ⟨bu, 0, none⟩ = some (.int .i64 1) ∧ Wh.cell? ⟨bu, 1, none⟩ = some (.slice au 3 cu) ∧ Wh.cell? ⟨bi, 0, none⟩ = some (.int .i64 1) ∧ Wh.cell? ⟨bi, 1, none⟩ = some (.slice ai 1 ci) ∧ Wh.cell? ⟨bj, 0, none⟩ = some (.int .i64 2) ∧ Wh.cell? ⟨bj, 1, none⟩ = some (.slice aj 1 cj) ∧ Wh.cell? ⟨by1, 0, none⟩ = some (.int .i64 1) ∧ Wh.cell? ⟨by1, 1, none⟩ = some (.slice ay 3 cy)) Wh))
 have hdr : V.grownBy V.drew none := ⟨rfl, rfl, rfl, Nat.le_refl _, fun _ _ _ => rfl⟩
 refine wp_region_held_drew (S := (fun Wh : World => V.grownBy Wh none ∧ Wh.cell? ⟨bc, 0, none⟩ = some (.slice a2 hC.length c2) ∧ Wh.cell? ⟨bd, 0, none⟩ = some (.slice ad hC.length cd) ∧ Wh.cell? ⟨be, 0, none⟩ = some (.slice ae hC.length ce) ∧ Wh.cell? ⟨bf, 0, none⟩ = some (.slice af hC.length cf) ∧ Wh.cell? ⟨bg, 0, none⟩ = some (.slice ag hC.length cg) ∧ Wh.cell? ⟨bh, 0, none⟩ = some (.slice ah hC.length ch) ∧ Wh.cell? ⟨bb, 0, none⟩ = some (.int .i64 1) ∧ Wh.cell? ⟨bb, 1, none⟩ = some (.slice (some ⟨p2, 0, none⟩) 2 2) ∧ Wh.cell? ⟨bu, 0, none⟩ = some (.int .i64 1) ∧ Wh.cell? ⟨bu, 1, none⟩ = some (.slice au 3 cu) ∧ Wh.cell? ⟨bi, 0, none⟩ = some (.int .i64 1) ∧ Wh.cell? ⟨bi, 1, none⟩ = some (.slice ai 1 ci) ∧ Wh.cell? ⟨bj, 0, none⟩ = some (.int .i64 2) ∧ Wh.cell? ⟨bj, 1, none⟩ = some (.slice aj 1 cj) ∧ Wh.cell? ⟨by1, 0, none⟩ = some (.int .i64 1) ∧ Wh.cell? ⟨by1, 1, none⟩ = some (.slice ay 3 cy))) (by kernel_rfl) (HS.out _ hdr) (fun hH => ?_)
 refine tk 0 ry2o0 ?_ rfl (by kernel_rfl) (fun c a w h => hp c a _ _ w h) (by rfl) ?_ hH ?_
 rotate_left 1
 · (intro W h; (try dsimp only at h); go_simp <;> with_reducible rfl)
 try simp only [Act.put, sA, sB, sC]
 refine tk 1 ry2o1 ?_ rfl (by kernel_rfl) (fun c a w h => hp c a _ _ w h) (by rfl) ?_ hH ?_
 rotate_left 1
 · (intro W h; (try dsimp only at h); go_simp <;> with_reducible rfl)
 try simp only [Act.put, sA, sB, sC]
 refine wpAnyH_ready (rs := [2]) (by kernel_rfl) (by simp) ?_
 refine (AllReadyH.cons (o := ry2o2) rfl (fun K hK => ?_) AllReadyH.nil)
 rw [if_pos (by rfl)]
 go_simp
 go_at_call 16
 refine (h_valid_at (Hb.out.grown hdr).2.2.2).mono ?_
 rintro e wc1 ⟨rfl, gc1⟩
 have hgr1 := gT hdr gc1
 go_wp2_with fail
 refine hK.out _ _ (HS.out _ hgr1) (fun hH => ?_)
 clear hK K
 try simp only [Act.put, sA, sB, sC]
 refine tk 3 ry2o3 ?_ rfl (by kernel_rfl) (fun c a w h => hp c a _ _ w h) (by rfl) ?_ hH ?_
 rotate_left 1
 · (intro W h; (try dsimp only at h); go_simp <;> with_reducible rfl)
 try simp only [Act.put, sA, sB, sC]
 refine tk 5 ry2o5 ?_ rfl (by kernel_rfl) (fun c a w h => hp c a _ _ w h) (by rfl) ?_ hH ?_
 rotate_left 1
 · (intro W h; (try dsimp only at h); go_simp <;> with_reducible rfl)
 try simp only [Act.put, sA, sB, sC]
 refine wpAnyH_ready (rs := [4]) (by kernel_rfl) (by simp) ?_
 refine (AllReadyH.cons (o := ry2o4) rfl (fun K hK => ?_) AllReadyH.nil)
 rw [if_pos (by rfl)]
 go_simp
 go_at_call 66
 refine (rnew_calls _).mono ?_
 rintro e wc2 ⟨yy, rfl, ⟨an, cn, rfl, hrn⟩, gc2⟩
 have hgr2 := gT hgr1 gc2
 go_wp2_with fail
 refine hK.out _ _ (HS.out _ hgr2) (fun hH => ?_)
 clear hK K
 try simp only [Act.put, sA, sB, sC]
 refine wpAnyH_ready (rs := [6]) (by kernel_rfl) (by simp) ?_
 refine (AllReadyH.cons (o := ry2o6) rfl (fun K hK => ?_) AllReadyH.nil)
 rw [if_pos (by rfl)]
 go_simp
 go_at_call 16
 refine (h_valid0_at (g := [(0, 0, 0)]) rfl (Hb.out.grown hgr2).2.2.2).mono ?_
 rintro e wc3 ⟨rfl, gc3⟩
 have hgr3 := gT hgr2 gc3
 go_wp2_with fail
 refine hK.out _ _ (HS.out _ hgr3) (fun hH => ?_)
 clear hK K
 try simp only [Act.put, sA, sB, sC]
 refine tk 7 ry2o7 ?_ rfl (by kernel_rfl) (fun c a w h => hp c a _ _ w h) (by rfl) ?_ hH ?_
 rotate_left 1
 · (intro W h; (try dsimp only at h); go_simp <;> with_reducible rfl)
 try simp only [Act.put, sA, sB, sC]
 refine tk 8 ry2o8 ?_ rfl (by kernel_rfl) (fun c a w h => hp c a _ _ w h) (by rfl) ?_ hH ?_
 rotate_left 1
 · (intro W h; (try dsimp only at h); go_simp <;> with_reducible rfl)
 try simp only [Act.put, sA, sB, sC]
 refine tk 9 ry2o9 ?_ rfl (by kernel_rfl) (fun c a w h => hp c a _ _ w h) (by rfl) ?_ hH ?_
 rotate_left 1
 · (intro W h; (try dsimp only at h); go_simp <;> with_reducible rfl)
 try simp only [Act.put, sA, sB, sC]
 refine tk 10 ry2o10 ?_ rfl (by kernel_rfl) (fun c a w h => hp c a _ _ w h) (by rfl) ?_ hH ?_
 rotate_left 1
 · (intro W h; (try dsimp only at h); go_simp <;> with_reducible rfl)
 try simp only [Act.put, sA, sB, sC]
 refine tk 11 ry2o11 ?_ rfl (by kernel_rfl) (fun c a w h => hp c a _ _ w h) (by rfl) ?_ hH ?_
 rotate_left 1
 · (intro W h; (try dsimp only at h); go_simp <;> with_reducible rfl)
 try simp only [Act.put, sA, sB, sC]
 refine tk 12 ry2o12 ?_ rfl (by kernel_rfl) (fun c a w h => hp c a _ _ w h) (by rfl) ?_ hH ?_
 rotate_left 1
 · (intro W h; (try dsimp only at h); go_simp <;> with_reducible rfl)
 try simp only [Act.put, sA, sB, sC]
 refine tk 13 ry2o13 ?_ rfl (by kernel_rfl) (fun c a w h => hp c a _ _ w h) (by rfl) ?_ hH ?_
 rotate_left 1
 · (intro W h; (try dsimp only at h); go_simp <;> with_reducible rfl)
 try simp only [Act.put, sA, sB, sC]
 refine tk 14 ry2o14 ?_ rfl (by kernel_rfl) (fun c a w h => hp c a _ _ w h) (by rfl) ?_ hH ?_
 rotate_left 1
 · (intro W h; (try dsimp only at h); go_simp <;> with_reducible rfl)
 try simp only [Act.put, sA, sB, sC]
 refine tk 15 ry2o15 ?_ rfl (by kernel_rfl) (fun c a w h => hp c a _ _ w h) (by rfl) ?_ hH ?_
 rotate_left 1
 · (intro W h; (try dsimp only at h); go_simp <;> with_reducible rfl)
 try simp only [Act.put, sA, sB, sC]
 refine tk 16 ry2o16 ?_ rfl (by kernel_rfl) (fun c a w h => hp c a _ _ w h) (by rfl) ?_ hH ?_
 rotate_left 1
 · (intro W h; (try dsimp only at h); go_simp <;> with_reducible rfl)
 try simp only [Act.put, sA, sB, sC]
 refine tk 17 ry2o17 ?_ rfl (by kernel_rfl) (fun c a w h => hp c a _ _ w h) (by rfl) ?_ hH ?_
 rotate_left 1
 · (intro W h; (try dsimp only at h); go_simp <;> with_reducible rfl)
 try simp only [Act.put, sA, sB, sC]
 refine tk 18 ry2o18 ?_ rfl (by kernel_rfl) (fun c a w h => hp c a _ _ w h) (by rfl) ?_ hH ?_
 rotate_left 1
 · (intro W h; (try dsimp only at h); go_simp <;> with_reducible rfl)
 try simp only [Act.put, sA, sB, sC]
 refine tk 21 ry2o21 ?_ rfl (by kernel_rfl) (fun c a w h => hp c a _ _ w h) (by rfl) ?_ hH ?_
 rotate_left 1
 · (intro W h; (try dsimp only at h); go_simp <;> with_reducible rfl)
 try simp only [Act.put, sA, sB, sC]
 refine wpAnyH_ready (rs := [19]) (by kernel_rfl) (by simp) ?_
 refine (AllReadyH.cons (o := ry2o19) rfl (fun K hK => ?_) AllReadyH.nil)
 rw [if_pos (by rfl)]
 go_simp
 have hn5 := rnot_at (w := wc3) 2 (by decide)
 rw [show notR 2 = 3 from rfl] at hn5
 go_at_call 69
 refine hn5.mono ?_
 rintro e w9 ⟨rfl, hw9⟩
 rw [hw9]
 clear hw9 w9
 go_wp2_with fail
 refine hK.out _ _ (HS.out _ hgr3) (fun hH => ?_)
 clear hK K
 try simp only [Act.put, sA, sB, sC]
 refine tk 20 ry2o20 ?_ rfl (by kernel_rfl) (fun c a w h => hp c a _ _ w h) (by rfl) ?_ hH ?_
 rotate_left 1
 · (intro W h; (try dsimp only at h); go_simp <;> with_reducible rfl)
 try simp only [Act.put, sA, sB, sC]
 refine wpAnyH_ready (rs := [22]) (by kernel_rfl) (by simp) ?_
 refine (AllReadyH.cons (o := ry2o22) rfl (fun K hK => ?_) AllReadyH.nil)
 rw [if_pos (by rfl)]
 go_simp
 have hga5 := gT hgr3 (gAl wc3 (.cells #[.int .i64 0, .int .i64 0, .int .i64 1, .int .i64 3, .int .i64 2, .int .i64 0] 71) none)
 refine hK.out _ _ (HS.out _ hga5) (fun hH => ?_)
 clear hK K
 try simp only [Act.put, sA, sB, sC]
 refine tk 23 ry2o23 ?_ rfl (by kernel_rfl) (fun c a w h => hp c a _ _ w h) (by rfl) ?_ hH ?_
 rotate_left 1
 · (intro W h; (try dsimp only at h); go_simp <;> with_reducible rfl)
 try simp only [Act.put, sA, sB, sC]
 refine wpAnyH_ready (rs := [24]) (by kernel_rfl) (by simp) ?_
 refine (AllReadyH.cons (o := ry2o24) rfl (fun K hK => ?_) AllReadyH.nil)
 rw [if_pos (by rfl)]
 go_simp
 go_at_call 27
 refine (h_same_at 1 (l := [(0, 0), (1, 3), (2, 0)]) rfl (Hu.out.grown hga5).2.2.2 (cells_lit3 wc3 (0, 0) (1, 3) (2, 0)) (by decide)).mono ?_
 rintro e wc6 ⟨rfl, gc6⟩
 have hgr6 := gT hga5 gc6
 go_wp2_with fail
 refine hK.out _ _ (HS.out _ hgr6) (fun hH => ?_)
 clear hK K
 try simp only [Act.put, sA, sB, sC]
 refine tk 25 ry2o25 ?_ rfl (by kernel_rfl) (fun c a w h => hp c a _ _ w h) (by rfl) ?_ hH ?_
 rotate_left 1
 · (intro W h; (try dsimp only at h); go_simp <;> with_reducible rfl)
 try simp only [Act.put, sA, sB, sC]
 refine tk 26 ry2o26 ?_ rfl (by kernel_rfl) (fun c a w h => hp c a _ _ w h) (by rfl) ?_ hH ?_
 rotate_left 1
 · (intro W h; (try dsimp only at h); go_simp <;> with_reducible rfl)
 try simp only [Act.put, sA, sB, sC]
 refine tk 27 ry2o27 ?_ rfl (by kernel_rfl) (fun c a w h => hp c a _ _ w h) (by rfl) ?_ hH ?_
 rotate_left 1
 · (intro W h; (try dsimp only at h); go_simp <;> with_reducible rfl)
 try simp only [Act.put, sA, sB, sC]
 refine tk 28 ry2o28 ?_ rfl (by kernel_rfl) (fun c a w h => hp c a _ _ w h) (by rfl) ?_ hH ?_
 rotate_left 1
 · (intro W h; (try dsimp only at h); go_simp <;> with_reducible rfl)
 try simp only [Act.put, sA, sB, sC]
 refine tk 29 ry2o29 ?_ rfl (by kernel_rfl) (fun c a w h => hp c a _ _ w h) (by rfl) ?_ hH ?_
 rotate_left 1
 · (intro W h; (try dsimp only at h); go_simp <;> with_reducible rfl)
 try simp only [Act.put, sA, sB, sC]
 refine wpAnyH_ready (rs := [30]) (by kernel_rfl) (by simp) ?_
 refine (AllReadyH.cons (o := ry2o30) rfl (fun K hK => ?_) AllReadyH.nil)
 rw [if_pos (by rfl)]
 go_simp
 have hga7 := gT hgr6 (gAl wc6 (.cells #[.int .i64 0, .int .i64 2] 71) none)
 refine hK.out _ _ (HS.out _ hga7) (fun hH => ?_)
 clear hK K
 try simp only [Act.put, sA, sB, sC]
 refine tk 31 ry2o31 ?_ rfl (by kernel_rfl) (fun c a w h => hp c a _ _ w h) (by rfl) ?_ hH ?_
 rotate_left 1
 · (intro W h; (try dsimp only at h); go_simp <;> with_reducible rfl)
 try simp only [Act.put, sA, sB, sC]
 refine wpAnyH_ready (rs := [32]) (by kernel_rfl) (by simp) ?_
 refine (AllReadyH.cons (o := ry2o32) rfl (fun K hK => ?_) AllReadyH.nil)
 rw [if_pos (by rfl)]
 go_simp
 go_at_call 27
 refine (h_same_at 1 (l := [(0, 2)]) rfl (Hi.out.grown hga7).2.2.2 (cells_lit1 wc6 (0, 2)) (by decide)).mono ?_
 rintro e wc8 ⟨rfl, gc8⟩
 have hgr8 := gT hga7 gc8
 go_wp2_with fail
 refine hK.out _ _ (HS.out _ hgr8) (fun hH => ?_)
 clear hK K
 try simp only [Act.put, sA, sB, sC]
 refine tk 33 ry2o33 ?_ rfl (by kernel_rfl) (fun c a w h => hp c a _ _ w h) (by rfl) ?_ hH ?_
 rotate_left 1
 · (intro W h; (try dsimp only at h); go_simp <;> with_reducible rfl)
 try simp only [Act.put, sA, sB, sC]
 refine tk 34 ry2o34 ?_ rfl (by kernel_rfl) (fun c a w h => hp c a _ _ w h) (by rfl) ?_ hH ?_
 rotate_left 1
 · (intro W h; (try dsimp only at h); go_simp <;> with_reducible rfl)
 try simp only [Act.put, sA, sB, sC]
 refine tk 35 ry2o35 ?_ rfl (by kernel_rfl) (fun c a w h => hp c a _ _ w h) (by rfl) ?_ hH ?_
 rotate_left 1
 · (intro W h; (try dsimp only at h); go_simp <;> with_reducible rfl)
 try simp only [Act.put, sA, sB, sC]
 refine tk 36 ry2o36 ?_ rfl (by kernel_rfl) (fun c a w h => hp c a _ _ w h) (by rfl) ?_ hH ?_
 rotate_left 1
 · (intro W h; (try dsimp only at h); go_simp <;> with_reducible rfl)
 try simp only [Act.put, sA, sB, sC]
 refine tk 37 ry2o37 ?_ rfl (by kernel_rfl) (fun c a w h => hp c a _ _ w h) (by rfl) ?_ hH ?_
 rotate_left 1
 · (intro W h; (try dsimp only at h); go_simp <;> with_reducible rfl)
 try simp only [Act.put, sA, sB, sC]
 refine tk 38 ry2o38 ?_ rfl (by kernel_rfl) (fun c a w h => hp c a _ _ w h) (by rfl) ?_ hH ?_
 rotate_left 1
 · (intro W h; (try dsimp only at h); go_simp <;> with_reducible rfl)
 try simp only [Act.put, sA, sB, sC]
 refine tk 39 ry2o39 ?_ rfl (by kernel_rfl) (fun c a w h => hp c a _ _ w h) (by rfl) ?_ hH ?_
 rotate_left 1
 · (intro W h; (try dsimp only at h); go_simp <;> with_reducible rfl)
 try simp only [Act.put, sA, sB, sC]
 have e : ((hC.length : Int) == 2) = true := by rfl
 simp only [e]
 exact hd12_b (wc8 := _) hp Hc Hd He Hf Hg Hh Hb Hu Hi Hj Hy hgr8 HQ

end Go.Proofs.Ythdhmflodiincaa
