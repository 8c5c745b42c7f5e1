/- Texts of the proof: UJ2 UJ. -/
import Derived.Test.YthdhmflodiincaaGreatCA22
import Derived.Deep.DeepCutAuto
set_option maxRecDepth 100000
set_option maxHeartbeats 8000000
namespace Go.Proofs.YthdhmflodiincaaGreat
open Go.RowKit Go.Maps

def hd9Ops : Array Oper := #[{ dst := some 53, op := Op.load 27 (Operand.tmp 2), type := 27, pos := "law.go:26", after := #[], guard := none },
  { dst := some 54, op := Op.load 35 (Operand.tmp 3), type := 35, pos := "law.go:26", after := #[], guard := none },
  { dst := some 55, op := Op.call { callee := Callee.value (Operand.func 12), args := #[Operand.tmp 53, Operand.tmp 54, Operand.const (Value.slice none 0 0)], argTypes := #[27, 35, 37] }, type := 40, pos := "law.go:26", after := #[{ on := 0, ground := Ground.data }, { on := 1, ground := Ground.data }], guard := none },
  { dst := some 56, op := Op.load 40 (Operand.tmp 13), type := 40, pos := "law.go:26", after := #[], guard := none },
  { dst := some 57, op := Op.call { callee := Callee.value (Operand.func 16), args := #[Operand.tmp 55, Operand.tmp 56], argTypes := #[40, 40] }, type := 4, pos := "law.go:26", after := #[{ on := 2, ground := Ground.data }, { on := 3, ground := Ground.data }, { on := 2, ground := Ground.chain }], guard := none },
  { dst := some 58, op := Op.move (Operand.tmp 57), type := 4, pos := "law.go:26", after := #[{ on := 4, ground := Ground.data }, { on := 4, ground := Ground.chain }], guard := none },
  { dst := some 59, op := Op.load 27 (Operand.tmp 4), type := 27, pos := "law.go:26", after := #[{ on := 5, ground := Ground.guard }], guard := some (5, true) },
  { dst := some 60, op := Op.load 35 (Operand.tmp 5), type := 35, pos := "law.go:26", after := #[{ on := 5, ground := Ground.guard }], guard := some (5, true) },
  { dst := some 61, op := Op.call { callee := Callee.value (Operand.func 12), args := #[Operand.tmp 59, Operand.tmp 60, Operand.const (Value.slice none 0 0)], argTypes := #[27, 35, 37] }, type := 40, pos := "law.go:26", after := #[{ on := 6, ground := Ground.data }, { on := 7, ground := Ground.data }, { on := 5, ground := Ground.chain }, { on := 5, ground := Ground.guard }], guard := some (5, true) },
  { dst := some 62, op := Op.load 40 (Operand.tmp 13), type := 40, pos := "law.go:26", after := #[{ on := 5, ground := Ground.guard }], guard := some (5, true) },
  { dst := some 63, op := Op.call { callee := Callee.value (Operand.func 16), args := #[Operand.tmp 61, Operand.tmp 62], argTypes := #[40, 40] }, type := 4, pos := "law.go:26", after := #[{ on := 8, ground := Ground.data }, { on := 9, ground := Ground.data }, { on := 8, ground := Ground.chain }, { on := 5, ground := Ground.guard }], guard := some (5, true) },
  { dst := some 64, op := Op.pick (Operand.tmp 58) (Operand.tmp 63) (Operand.const (Value.bool false)), type := 4, pos := "law.go:26", after := #[{ on := 5, ground := Ground.data }, { on := 10, ground := Ground.data }], guard := none },
  { dst := some 65, op := Op.move (Operand.tmp 64), type := 4, pos := "law.go:26", after := #[{ on := 11, ground := Ground.data }, { on := 10, ground := Ground.chain }], guard := none },
  { dst := some 66, op := Op.fieldAddr 27 (Operand.tmp 2) 0, type := 0, pos := "law.go:26", after := #[{ on := 12, ground := Ground.guard }], guard := some (12, true) },
  { dst := some 67, op := Op.load 25 (Operand.tmp 66), type := 25, pos := "law.go:26", after := #[{ on := 13, ground := Ground.data }, { on := 12, ground := Ground.guard }], guard := some (12, true) },
  { dst := some 68, op := Op.call { callee := Callee.builtin Builtin.len, args := #[Operand.tmp 67], argTypes := #[25] }, type := 3, pos := "law.go:26", after := #[{ on := 14, ground := Ground.data }, { on := 12, ground := Ground.guard }], guard := some (12, true) },
  { dst := some 69, op := Op.binOp BinOp.eql 3 (Operand.tmp 68) (Operand.const (Value.int IntKind.i64 1)) 3, type := 4, pos := "law.go:26", after := #[{ on := 15, ground := Ground.data }, { on := 12, ground := Ground.guard }], guard := some (12, true) },
  { dst := some 70, op := Op.pick (Operand.tmp 65) (Operand.tmp 69) (Operand.const (Value.bool false)), type := 4, pos := "law.go:26", after := #[{ on := 12, ground := Ground.data }, { on := 16, ground := Ground.data }], guard := none },
  { dst := some 71, op := Op.move (Operand.tmp 70), type := 4, pos := "law.go:26", after := #[{ on := 17, ground := Ground.data }, { on := 12, ground := Ground.chain }], guard := none },
  { dst := some 72, op := Op.fieldAddr 27 (Operand.tmp 4) 0, type := 0, pos := "law.go:26", after := #[{ on := 18, ground := Ground.guard }], guard := some (18, true) },
  { dst := some 73, op := Op.load 25 (Operand.tmp 72), type := 25, pos := "law.go:26", after := #[{ on := 19, ground := Ground.data }, { on := 18, ground := Ground.guard }], guard := some (18, true) },
  { dst := some 74, op := Op.call { callee := Callee.builtin Builtin.len, args := #[Operand.tmp 73], argTypes := #[25] }, type := 3, pos := "law.go:26", after := #[{ on := 20, ground := Ground.data }, { on := 18, ground := Ground.guard }], guard := some (18, true) },
  { dst := some 75, op := Op.binOp BinOp.eql 3 (Operand.tmp 74) (Operand.const (Value.int IntKind.i64 1)) 3, type := 4, pos := "law.go:26", after := #[{ on := 21, ground := Ground.data }, { on := 18, ground := Ground.guard }], guard := some (18, true) },
  { dst := some 76, op := Op.pick (Operand.tmp 71) (Operand.tmp 75) (Operand.const (Value.bool false)), type := 4, pos := "law.go:26", after := #[{ on := 18, ground := Ground.data }, { on := 22, ground := Ground.data }], guard := none },
  { dst := some 77, op := Op.move (Operand.tmp 76), type := 4, pos := "law.go:26", after := #[{ on := 23, ground := Ground.data }, { on := 18, ground := Ground.chain }], guard := none },
  { dst := some 78, op := Op.move (Operand.tmp 7), type := 3, pos := "law.go:26", after := #[{ on := 24, ground := Ground.guard }], guard := some (24, true) },
  { dst := some 79, op := Op.binOp BinOp.eql 3 (Operand.tmp 78) (Operand.const (Value.int IntKind.i64 0)) 3, type := 4, pos := "law.go:26", after := #[{ on := 25, ground := Ground.data }, { on := 24, ground := Ground.guard }], guard := some (24, true) },
  { dst := some 80, op := Op.pick (Operand.tmp 77) (Operand.tmp 79) (Operand.const (Value.bool false)), type := 4, pos := "law.go:26", after := #[{ on := 24, ground := Ground.data }, { on := 26, ground := Ground.data }], guard := none },
  { dst := some 81, op := Op.move (Operand.tmp 80), type := 4, pos := "law.go:26", after := #[{ on := 27, ground := Ground.data }, { on := 24, ground := Ground.chain }], guard := none },
  { dst := some 82, op := Op.load 27 (Operand.tmp 11), type := 27, pos := "law.go:26", after := #[{ on := 28, ground := Ground.guard }], guard := some (28, true) },
  { dst := some 83, op := Op.buildSlice 37 1 #[(0, Operand.const (Value.bool false))], type := 37, pos := "law.go:26", after := #[{ on := 28, ground := Ground.guard }], guard := some (28, true) },
  { dst := some 84, op := Op.move (Operand.tmp 12), type := 3, pos := "law.go:26", after := #[{ on := 28, ground := Ground.guard }], guard := some (28, true) },
  { dst := some 85, op := Op.call { callee := Callee.value (Operand.func 38), args := #[Operand.tmp 82, Operand.tmp 83, Operand.tmp 84], argTypes := #[27, 37, 3] }, type := 4, pos := "law.go:26", after := #[{ on := 29, ground := Ground.data }, { on := 30, ground := Ground.data }, { on := 31, ground := Ground.data }, { on := 28, ground := Ground.chain }, { on := 28, ground := Ground.guard }], guard := some (28, true) },
  { dst := some 86, op := Op.pick (Operand.tmp 81) (Operand.tmp 85) (Operand.const (Value.bool false)), type := 4, pos := "law.go:26", after := #[{ on := 28, ground := Ground.data }, { on := 32, ground := Ground.data }], guard := none },
  { dst := some 87, op := Op.move (Operand.tmp 86), type := 4, pos := "law.go:26", after := #[{ on := 33, ground := Ground.data }, { on := 32, ground := Ground.chain }], guard := none },
  { dst := some 88, op := Op.load 27 (Operand.tmp 11), type := 27, pos := "law.go:26", after := #[{ on := 34, ground := Ground.guard }], guard := some (34, true) },
  { dst := some 89, op := Op.buildSlice 37 1 #[(0, Operand.const (Value.bool true))], type := 37, pos := "law.go:26", after := #[{ on := 34, ground := Ground.guard }], guard := some (34, true) },
  { dst := some 90, op := Op.move (Operand.tmp 12), type := 3, pos := "law.go:26", after := #[{ on := 34, ground := Ground.guard }], guard := some (34, true) },
  { dst := some 91, op := Op.call { callee := Callee.value (Operand.func 38), args := #[Operand.tmp 88, Operand.tmp 89, Operand.tmp 90], argTypes := #[27, 37, 3] }, type := 4, pos := "law.go:26", after := #[{ on := 35, ground := Ground.data }, { on := 36, ground := Ground.data }, { on := 37, ground := Ground.data }, { on := 34, ground := Ground.chain }, { on := 34, ground := Ground.guard }], guard := some (34, true) },
  { dst := some 92, op := Op.unOp UnOp.not 4 (Operand.tmp 91), type := 4, pos := "law.go:26", after := #[{ on := 38, ground := Ground.data }, { on := 34, ground := Ground.guard }], guard := some (34, true) },
  { dst := some 93, op := Op.pick (Operand.tmp 87) (Operand.tmp 92) (Operand.const (Value.bool false)), type := 4, pos := "law.go:26", after := #[{ on := 34, ground := Ground.data }, { on := 39, ground := Ground.data }], guard := none },
  { dst := some 0, op := Op.assign (Operand.tmp 93), type := 4, pos := "law.go:26", after := #[{ on := 40, ground := Ground.data }, { on := 38, ground := Ground.chain }, { on := 0, ground := Ground.phase }, { on := 1, ground := Ground.phase }, { on := 2, ground := Ground.phase }, { on := 3, ground := Ground.phase }, { on := 4, ground := Ground.phase }, { on := 5, ground := Ground.phase }, { on := 6, ground := Ground.phase }, { on := 7, ground := Ground.phase }, { on := 8, ground := Ground.phase }, { on := 9, ground := Ground.phase }, { on := 10, ground := Ground.phase }, { on := 11, ground := Ground.phase }, { on := 12, ground := Ground.phase }, { on := 13, ground := Ground.phase }, { on := 14, ground := Ground.phase }, { on := 15, ground := Ground.phase }, { on := 16, ground := Ground.phase }, { on := 17, ground := Ground.phase }, { on := 18, ground := Ground.phase }, { on := 19, ground := Ground.phase }, { on := 20, ground := Ground.phase }, { on := 21, ground := Ground.phase }, { on := 22, ground := Ground.phase }, { on := 23, ground := Ground.phase }, { on := 24, ground := Ground.phase }, { on := 25, ground := Ground.phase }, { on := 26, ground := Ground.phase }, { on := 27, ground := Ground.phase }, { on := 28, ground := Ground.phase }, { on := 29, ground := Ground.phase }, { on := 30, ground := Ground.phase }, { on := 31, ground := Ground.phase }, { on := 32, ground := Ground.phase }, { on := 33, ground := Ground.phase }, { on := 34, ground := Ground.phase }, { on := 35, ground := Ground.phase }, { on := 36, ground := Ground.phase }, { on := 37, ground := Ground.phase }, { on := 38, ground := Ground.phase }, { on := 39, ground := Ground.phase }, { on := 40, ground := Ground.phase }], guard := none }]
theorem hd9_all {Q : Exit → Act → World → Prop} (hp : ∀ c a d v w, Q (.panic c) (Act.put a d v) w → Q (.panic c) a w) {V : World} {p3 b1 b2 b3 b4 b5 b6 b8 b10 b11 b13 : Nat} {a2 a3 a4 a5 a11 : Option Addr} {c2 c3 c4 c5 c11 : Nat} {t0 t14 t15 t16 t17 t18 t19 t20 t21 t22 t23 t24 t25 t26 t27 t28 t29 t30 t31 t32 t33 t34 t35 t36 t37 t38 t39 t40 t41 t42 t43 t44 t45 t46 t47 t48 t49 t50 t51 t52 t53 t54 t55 t56 t57 t58 t59 t60 t61 t62 t63 t64 t65 t66 t67 t68 t69 t70 t71 t72 t73 t74 t75 t76 t77 t78 t79 t80 t81 t82 t83 t84 t85 t86 t87 t88 t89 t90 t91 t92 t93 : Value} (Hc : Hid (CB V b2 a2 c2 hN)) (He : Hid (CB V b4 a4 c4 hN)) (Hi : Hid (CB V b11 a11 c11 hC)) (Hd : Hid (XB V b3 2 a3 3 c3 hT)) (Hf : Hid (XB V b5 2 a5 3 c5 hT)) (Hy : Hid (YB V b13 2 (some ⟨p3, 0, none⟩) 3 3 [1, 2, 5]))
    (HQ : ∀ (u1 u2 u3 u4 u5 u6 u7 u8 u9 u10 u11 u12 u13 u14 u15 u16 u17 u18 u19 u20 u21 u22 u23 u24 u25 u26 u27 u28 u29 u30 u31 u32 u33 u34 u35 u36 u37 u38 u39 u40 u41 u42 u43 u44 u45 u46 u47 u48 u49 u50 u51 u52 u53 u54 u55 u56 u57 u58 u59 u60 u61 u62 u63 u64 u65 u66 u67 u68 u69 u70 u71 u72 u73 u74 u75 u76 u77 u78 u79 u80 u81 u82 u83 u84 u85 u86 u87 u88 u89 u90 u91 u92 u93 : Value) (W : World), V.grownBy W none → Q .normal ⟨#[.bool true, u1, u2, u3, u4, u5, u6, u7, u8, u9, u10, u11, u12, u13, u14, u15, u16, u17, u18, u19, u20, u21, u22, u23, u24, u25, u26, u27, u28, u29, u30, u31, u32, u33, u34, u35, u36, u37, u38, u39, u40, u41, u42, u43, u44, u45, u46, u47, u48, u49, u50, u51, u52, u53, u54, u55, u56, u57, u58, u59, u60, u61, u62, u63, u64, u65, u66, u67, u68, u69, u70, u71, u72, u73, u74, u75, u76, u77, u78, u79, u80, u81, u82, u83, u84, u85, u86, u87, u88, u89, u90, u91, u92, u93], []⟩ W) :
    (Code.region 9 hd9Ops true).wp Tryz.prog Q ⟨#[t0, .pointer (some ⟨b1, 0, none⟩), .pointer (some ⟨b2, 0, none⟩), .pointer (some ⟨b3, 0, none⟩), .pointer (some ⟨b4, 0, none⟩), .pointer (some ⟨b5, 0, none⟩), .pointer (some ⟨b6, 0, none⟩), .int .i64 0, .pointer (some ⟨b8, 0, none⟩), .int .i64 2, .pointer (some ⟨b10, 0, none⟩), .pointer (some ⟨b11, 0, none⟩), .int .i64 3, .pointer (some ⟨b13, 0, none⟩), t14, t15, t16, t17, t18, t19, t20, t21, t22, t23, t24, t25, t26, t27, t28, t29, t30, t31, t32, t33, t34, t35, t36, t37, t38, t39, t40, t41, t42, t43, t44, t45, t46, t47, t48, t49, t50, t51, t52, t53, t54, t55, t56, t57, t58, t59, t60, t61, t62, t63, t64, t65, t66, t67, t68, t69, t70, t71, t72, t73, t74, t75, t76, t77, t78, t79, t80, t81, t82, t83, t84, t85, t86, t87, t88, t89, t90, t91, t92, t93], []⟩ V := by
  have HS := Lib.hid (fun (Wh : World) (hWh : V.grownBy Wh none) => (⟨hWh, hWh.cell Hc.out.1 (by simp), hWh.cell He.out.1 (by simp), hWh.cell Hi.out.1 (by simp), hWh.cell Hd.out.1 (by simp), hWh.cell Hd.out.2.1 (by simp), hWh.cell Hf.out.1 (by simp), hWh.cell Hf.out.2.1 (by simp), hWh.cell Hy.out.1 (by simp), hWh.cell Hy.out.2.1 (by simp)⟩ : (fun Wh : World => V.grownBy Wh none ∧ Wh.cell? ⟨b2, 0, none⟩ = some (.slice a2 1 c2) ∧ Wh.cell? ⟨b4, 0, none⟩ = some (.slice a4 1 c4) ∧ Wh.cell? ⟨b11, 0, none⟩ = some (.slice a11 2 c11) ∧ Wh.cell? ⟨b3, 0, none⟩ = some (.int .i64 2) ∧ Wh.cell? ⟨b3, 1, none⟩ = some (.slice a3 3 c3) ∧ Wh.cell? ⟨b5, 0, none⟩ = some (.int .i64 2) ∧ Wh.cell? ⟨b5, 1, none⟩ = some (.slice a5 3 c5) ∧ Wh.cell? ⟨b13, 0, none⟩ = some (.int .i64 2) ∧ Wh.cell? ⟨b13, 1, none⟩ = some (.slice (some ⟨p3, 0, none⟩) 3 3)) Wh))
  have hdr : V.grownBy V.drew none := ⟨rfl, rfl, rfl, Nat.le_refl _, fun _ _ _ => rfl⟩
  refine wp_region_held_drew (S := (fun Wh : World => V.grownBy Wh none ∧ Wh.cell? ⟨b2, 0, none⟩ = some (.slice a2 1 c2) ∧ Wh.cell? ⟨b4, 0, none⟩ = some (.slice a4 1 c4) ∧ Wh.cell? ⟨b11, 0, none⟩ = some (.slice a11 2 c11) ∧ Wh.cell? ⟨b3, 0, none⟩ = some (.int .i64 2) ∧ Wh.cell? ⟨b3, 1, none⟩ = some (.slice a3 3 c3) ∧ Wh.cell? ⟨b5, 0, none⟩ = some (.int .i64 2) ∧ Wh.cell? ⟨b5, 1, none⟩ = some (.slice a5 3 c5) ∧ Wh.cell? ⟨b13, 0, none⟩ = some (.int .i64 2) ∧ Wh.cell? ⟨b13, 1, none⟩ = some (.slice (some ⟨p3, 0, none⟩) 3 3))) (by kernel_rfl) (HS.out _ hdr) (fun hHeld => ?_)
  refine wpAnyH_take (i := 0) (oi := { dst := some 53, op := Op.load 27 (Operand.tmp 2), type := 27, pos := "law.go:26", after := #[], guard := none }) (v := ?_) rfl (by kernel_rfl) (by kernel_rfl) (by kernel_rfl) (fun c a w h => hp c a _ _ w h) (Or.inl ⟨by rfl, ?_⟩) (by assumption) ?_
  rotate_left 1
  · (intro W h; (try dsimp only at h); go_simp <;> with_reducible rfl)
  try simp only [Act.put, sA, sB, sC]
  refine wpAnyH_take (i := 1) (oi := { dst := some 54, op := Op.load 35 (Operand.tmp 3), type := 35, pos := "law.go:26", after := #[], guard := none }) (v := ?_) rfl (by kernel_rfl) (by kernel_rfl) (by kernel_rfl) (fun c a w h => hp c a _ _ w h) (Or.inl ⟨by rfl, ?_⟩) (by assumption) ?_
  rotate_left 1
  · (intro W h; (try dsimp only at h); go_simp <;> with_reducible rfl)
  try simp only [Act.put, sA, sB, sC]
  refine wpAnyH_take (i := 3) (oi := { dst := some 56, op := Op.load 40 (Operand.tmp 13), type := 40, pos := "law.go:26", after := #[], guard := none }) (v := ?_) rfl (by kernel_rfl) (by kernel_rfl) (by kernel_rfl) (fun c a w h => hp c a _ _ w h) (Or.inl ⟨by rfl, ?_⟩) (by assumption) ?_
  rotate_left 1
  · (intro W h; (try dsimp only at h); go_simp <;> with_reducible rfl)
  try simp only [Act.put, sA, sB, sC]
  refine wpAnyH_ready (rs := [2]) (by kernel_rfl) (by simp) ?_
  refine (AllReadyH.cons (o := { dst := some 55, op := Op.call { callee := Callee.value (Operand.func 12), args := #[Operand.tmp 53, Operand.tmp 54, Operand.const (Value.slice none 0 0)], argTypes := #[27, 35, 37] }, type := 40, pos := "law.go:26", after := #[{ on := 0, ground := Ground.data }, { on := 1, ground := Ground.data }], guard := none }) rfl (fun K hK => ?_) AllReadyH.nil)
  rw [if_pos (by rfl)]
  go_simp
  go_at_call 12
  refine (h15_val_at (Hc.out.grown hdr).2.2 (Hd.out.grown hdr).2.2.2).mono ?_
  rintro e wc1 ⟨bv, dv, rfl, hv, gc1⟩
  have hgr1 := World.grownBy.trans hdr gc1
  go_wp2_with fail
  refine hK.out _ _ (HS.out _ hgr1) (fun hHeld => ?_)
  clear hK K
  try simp only [Act.put, sA, sB, sC]
  refine wpAnyH_ready (rs := [4]) (by kernel_rfl) (by simp) ?_
  refine (AllReadyH.cons (o := { dst := some 57, op := Op.call { callee := Callee.value (Operand.func 16), args := #[Operand.tmp 55, Operand.tmp 56], argTypes := #[40, 40] }, type := 4, pos := "law.go:26", after := #[{ on := 2, ground := Ground.data }, { on := 3, ground := Ground.data }, { on := 2, ground := Ground.chain }], guard := none }) rfl (fun K hK => ?_) AllReadyH.nil)
  rw [if_pos (by rfl)]
  go_simp
  go_at_call 16
  refine (h_eq_at 2 (l := [1, 2, 5]) rfl (hv) (Hy.out.grown hgr1).2.2.2 (by decide)).mono ?_
  rintro e wc2 ⟨rfl, gc2⟩
  have hgr2 := World.grownBy.trans hgr1 gc2
  go_wp2_with fail
  refine hK.out _ _ (HS.out _ hgr2) (fun hHeld => ?_)
  clear hK K
  try simp only [Act.put, sA, sB, sC]
  refine wpAnyH_take (i := 5) (oi := { dst := some 58, op := Op.move (Operand.tmp 57), type := 4, pos := "law.go:26", after := #[{ on := 4, ground := Ground.data }, { on := 4, ground := Ground.chain }], guard := none }) (v := ?_) rfl (by kernel_rfl) (by kernel_rfl) (by kernel_rfl) (fun c a w h => hp c a _ _ w h) (Or.inl ⟨by rfl, ?_⟩) (by assumption) ?_
  rotate_left 1
  · (intro W h; (try dsimp only at h); go_simp <;> with_reducible rfl)
  try simp only [Act.put, sA, sB, sC]
  refine wpAnyH_take (i := 6) (oi := { dst := some 59, op := Op.load 27 (Operand.tmp 4), type := 27, pos := "law.go:26", after := #[{ on := 5, ground := Ground.guard }], guard := some (5, true) }) (v := ?_) rfl (by kernel_rfl) (by kernel_rfl) (by kernel_rfl) (fun c a w h => hp c a _ _ w h) (Or.inl ⟨by rfl, ?_⟩) (by assumption) ?_
  rotate_left 1
  · (intro W h; (try dsimp only at h); go_simp <;> with_reducible rfl)
  try simp only [Act.put, sA, sB, sC]
  refine wpAnyH_take (i := 7) (oi := { dst := some 60, op := Op.load 35 (Operand.tmp 5), type := 35, pos := "law.go:26", after := #[{ on := 5, ground := Ground.guard }], guard := some (5, true) }) (v := ?_) rfl (by kernel_rfl) (by kernel_rfl) (by kernel_rfl) (fun c a w h => hp c a _ _ w h) (Or.inl ⟨by rfl, ?_⟩) (by assumption) ?_
  rotate_left 1
  · (intro W h; (try dsimp only at h); go_simp <;> with_reducible rfl)
  try simp only [Act.put, sA, sB, sC]
  refine wpAnyH_take (i := 9) (oi := { dst := some 62, op := Op.load 40 (Operand.tmp 13), type := 40, pos := "law.go:26", after := #[{ on := 5, ground := Ground.guard }], guard := some (5, true) }) (v := ?_) rfl (by kernel_rfl) (by kernel_rfl) (by kernel_rfl) (fun c a w h => hp c a _ _ w h) (Or.inl ⟨by rfl, ?_⟩) (by assumption) ?_
  rotate_left 1
  · (intro W h; (try dsimp only at h); go_simp <;> with_reducible rfl)
  try simp only [Act.put, sA, sB, sC]
  refine wpAnyH_ready (rs := [8]) (by kernel_rfl) (by simp) ?_
  refine (AllReadyH.cons (o := { dst := some 61, op := Op.call { callee := Callee.value (Operand.func 12), args := #[Operand.tmp 59, Operand.tmp 60, Operand.const (Value.slice none 0 0)], argTypes := #[27, 35, 37] }, type := 40, pos := "law.go:26", after := #[{ on := 6, ground := Ground.data }, { on := 7, ground := Ground.data }, { on := 5, ground := Ground.chain }, { on := 5, ground := Ground.guard }], guard := some (5, true) }) rfl (fun K hK => ?_) AllReadyH.nil)
  rw [if_pos (by rfl)]
  go_simp
  go_at_call 12
  refine (h15_val_at (He.out.grown hgr2).2.2 (Hf.out.grown hgr2).2.2.2).mono ?_
  rintro e wc3 ⟨bz, dz, rfl, hz, gc3⟩
  have hgr3 := World.grownBy.trans hgr2 gc3
  go_wp2_with fail
  refine hK.out _ _ (HS.out _ hgr3) (fun hHeld => ?_)
  clear hK K
  try simp only [Act.put, sA, sB, sC]
  refine wpAnyH_ready (rs := [10]) (by kernel_rfl) (by simp) ?_
  refine (AllReadyH.cons (o := { dst := some 63, op := Op.call { callee := Callee.value (Operand.func 16), args := #[Operand.tmp 61, Operand.tmp 62], argTypes := #[40, 40] }, type := 4, pos := "law.go:26", after := #[{ on := 8, ground := Ground.data }, { on := 9, ground := Ground.data }, { on := 8, ground := Ground.chain }, { on := 5, ground := Ground.guard }], guard := some (5, true) }) rfl (fun K hK => ?_) AllReadyH.nil)
  rw [if_pos (by rfl)]
  go_simp
  go_at_call 16
  refine (h_eq_at 2 (l := [1, 2, 5]) rfl (hz) (Hy.out.grown hgr3).2.2.2 (by decide)).mono ?_
  rintro e wc4 ⟨rfl, gc4⟩
  have hgr4 := World.grownBy.trans hgr3 gc4
  go_wp2_with fail
  refine hK.out _ _ (HS.out _ hgr4) (fun hHeld => ?_)
  clear hK K
  try simp only [Act.put, sA, sB, sC]
  refine wpAnyH_take (i := 11) (oi := { dst := some 64, op := Op.pick (Operand.tmp 58) (Operand.tmp 63) (Operand.const (Value.bool false)), type := 4, pos := "law.go:26", after := #[{ on := 5, ground := Ground.data }, { on := 10, ground := Ground.data }], guard := none }) (v := ?_) rfl (by kernel_rfl) (by kernel_rfl) (by kernel_rfl) (fun c a w h => hp c a _ _ w h) (Or.inl ⟨by rfl, ?_⟩) (by assumption) ?_
  rotate_left 1
  · (intro W h; (try dsimp only at h); go_simp <;> with_reducible rfl)
  try simp only [Act.put, sA, sB, sC]
  refine wpAnyH_take (i := 12) (oi := { dst := some 65, op := Op.move (Operand.tmp 64), type := 4, pos := "law.go:26", after := #[{ on := 11, ground := Ground.data }, { on := 10, ground := Ground.chain }], guard := none }) (v := ?_) rfl (by kernel_rfl) (by kernel_rfl) (by kernel_rfl) (fun c a w h => hp c a _ _ w h) (Or.inl ⟨by rfl, ?_⟩) (by assumption) ?_
  rotate_left 1
  · (intro W h; (try dsimp only at h); go_simp <;> with_reducible rfl)
  try simp only [Act.put, sA, sB, sC]
  refine wpAnyH_take (i := 13) (oi := { dst := some 66, op := Op.fieldAddr 27 (Operand.tmp 2) 0, type := 0, pos := "law.go:26", after := #[{ on := 12, ground := Ground.guard }], guard := some (12, true) }) (v := ?_) rfl (by kernel_rfl) (by kernel_rfl) (by kernel_rfl) (fun c a w h => hp c a _ _ w h) (Or.inl ⟨by rfl, ?_⟩) (by assumption) ?_
  rotate_left 1
  · (intro W h; (try dsimp only at h); go_simp <;> with_reducible rfl)
  try simp only [Act.put, sA, sB, sC]
  refine wpAnyH_take (i := 14) (oi := { dst := some 67, op := Op.load 25 (Operand.tmp 66), type := 25, pos := "law.go:26", after := #[{ on := 13, ground := Ground.data }, { on := 12, ground := Ground.guard }], guard := some (12, true) }) (v := ?_) rfl (by kernel_rfl) (by kernel_rfl) (by kernel_rfl) (fun c a w h => hp c a _ _ w h) (Or.inl ⟨by rfl, ?_⟩) (by assumption) ?_
  rotate_left 1
  · (intro W h; (try dsimp only at h); go_simp <;> with_reducible rfl)
  try simp only [Act.put, sA, sB, sC]
  refine wpAnyH_take (i := 15) (oi := { dst := some 68, op := Op.call { callee := Callee.builtin Builtin.len, args := #[Operand.tmp 67], argTypes := #[25] }, type := 3, pos := "law.go:26", after := #[{ on := 14, ground := Ground.data }, { on := 12, ground := Ground.guard }], guard := some (12, true) }) (v := ?_) rfl (by kernel_rfl) (by kernel_rfl) (by kernel_rfl) (fun c a w h => hp c a _ _ w h) (Or.inl ⟨by rfl, ?_⟩) (by assumption) ?_
  rotate_left 1
  · (intro W h; (try dsimp only at h); go_simp <;> with_reducible rfl)
  try simp only [Act.put, sA, sB, sC]
  refine wpAnyH_take (i := 16) (oi := { dst := some 69, op := Op.binOp BinOp.eql 3 (Operand.tmp 68) (Operand.const (Value.int IntKind.i64 1)) 3, type := 4, pos := "law.go:26", after := #[{ on := 15, ground := Ground.data }, { on := 12, ground := Ground.guard }], guard := some (12, true) }) (v := ?_) rfl (by kernel_rfl) (by kernel_rfl) (by kernel_rfl) (fun c a w h => hp c a _ _ w h) (Or.inl ⟨by rfl, ?_⟩) (by assumption) ?_
  rotate_left 1
  · (intro W h; (try dsimp only at h); go_simp <;> with_reducible rfl)
  try simp only [Act.put, sA, sB, sC]
  refine wpAnyH_take (i := 17) (oi := { dst := some 70, op := Op.pick (Operand.tmp 65) (Operand.tmp 69) (Operand.const (Value.bool false)), type := 4, pos := "law.go:26", after := #[{ on := 12, ground := Ground.data }, { on := 16, ground := Ground.data }], guard := none }) (v := ?_) rfl (by kernel_rfl) (by kernel_rfl) (by kernel_rfl) (fun c a w h => hp c a _ _ w h) (Or.inl ⟨by rfl, ?_⟩) (by assumption) ?_
  rotate_left 1
  · (intro W h; (try dsimp only at h); go_simp <;> with_reducible rfl)
  try simp only [Act.put, sA, sB, sC]
  refine wpAnyH_take (i := 18) (oi := { dst := some 71, op := Op.move (Operand.tmp 70), type := 4, pos := "law.go:26", after := #[{ on := 17, ground := Ground.data }, { on := 12, ground := Ground.chain }], guard := none }) (v := ?_) rfl (by kernel_rfl) (by kernel_rfl) (by kernel_rfl) (fun c a w h => hp c a _ _ w h) (Or.inl ⟨by rfl, ?_⟩) (by assumption) ?_
  rotate_left 1
  · (intro W h; (try dsimp only at h); go_simp <;> with_reducible rfl)
  try simp only [Act.put, sA, sB, sC]
  refine wpAnyH_take (i := 19) (oi := { dst := some 72, op := Op.fieldAddr 27 (Operand.tmp 4) 0, type := 0, pos := "law.go:26", after := #[{ on := 18, ground := Ground.guard }], guard := some (18, true) }) (v := ?_) rfl (by kernel_rfl) (by kernel_rfl) (by kernel_rfl) (fun c a w h => hp c a _ _ w h) (Or.inl ⟨by rfl, ?_⟩) (by assumption) ?_
  rotate_left 1
  · (intro W h; (try dsimp only at h); go_simp <;> with_reducible rfl)
  try simp only [Act.put, sA, sB, sC]
  refine wpAnyH_take (i := 20) (oi := { dst := some 73, op := Op.load 25 (Operand.tmp 72), type := 25, pos := "law.go:26", after := #[{ on := 19, ground := Ground.data }, { on := 18, ground := Ground.guard }], guard := some (18, true) }) (v := ?_) rfl (by kernel_rfl) (by kernel_rfl) (by kernel_rfl) (fun c a w h => hp c a _ _ w h) (Or.inl ⟨by rfl, ?_⟩) (by assumption) ?_
  rotate_left 1
  · (intro W h; (try dsimp only at h); go_simp <;> with_reducible rfl)
  try simp only [Act.put, sA, sB, sC]
  refine wpAnyH_take (i := 21) (oi := { dst := some 74, op := Op.call { callee := Callee.builtin Builtin.len, args := #[Operand.tmp 73], argTypes := #[25] }, type := 3, pos := "law.go:26", after := #[{ on := 20, ground := Ground.data }, { on := 18, ground := Ground.guard }], guard := some (18, true) }) (v := ?_) rfl (by kernel_rfl) (by kernel_rfl) (by kernel_rfl) (fun c a w h => hp c a _ _ w h) (Or.inl ⟨by rfl, ?_⟩) (by assumption) ?_
  rotate_left 1
  · (intro W h; (try dsimp only at h); go_simp <;> with_reducible rfl)
  try simp only [Act.put, sA, sB, sC]
  refine wpAnyH_take (i := 22) (oi := { dst := some 75, op := Op.binOp BinOp.eql 3 (Operand.tmp 74) (Operand.const (Value.int IntKind.i64 1)) 3, type := 4, pos := "law.go:26", after := #[{ on := 21, ground := Ground.data }, { on := 18, ground := Ground.guard }], guard := some (18, true) }) (v := ?_) rfl (by kernel_rfl) (by kernel_rfl) (by kernel_rfl) (fun c a w h => hp c a _ _ w h) (Or.inl ⟨by rfl, ?_⟩) (by assumption) ?_
  rotate_left 1
  · (intro W h; (try dsimp only at h); go_simp <;> with_reducible rfl)
  try simp only [Act.put, sA, sB, sC]
  refine wpAnyH_take (i := 23) (oi := { dst := some 76, op := Op.pick (Operand.tmp 71) (Operand.tmp 75) (Operand.const (Value.bool false)), type := 4, pos := "law.go:26", after := #[{ on := 18, ground := Ground.data }, { on := 22, ground := Ground.data }], guard := none }) (v := ?_) rfl (by kernel_rfl) (by kernel_rfl) (by kernel_rfl) (fun c a w h => hp c a _ _ w h) (Or.inl ⟨by rfl, ?_⟩) (by assumption) ?_
  rotate_left 1
  · (intro W h; (try dsimp only at h); go_simp <;> with_reducible rfl)
  try simp only [Act.put, sA, sB, sC]
  refine wpAnyH_take (i := 24) (oi := { dst := some 77, op := Op.move (Operand.tmp 76), type := 4, pos := "law.go:26", after := #[{ on := 23, ground := Ground.data }, { on := 18, ground := Ground.chain }], guard := none }) (v := ?_) rfl (by kernel_rfl) (by kernel_rfl) (by kernel_rfl) (fun c a w h => hp c a _ _ w h) (Or.inl ⟨by rfl, ?_⟩) (by assumption) ?_
  rotate_left 1
  · (intro W h; (try dsimp only at h); go_simp <;> with_reducible rfl)
  try simp only [Act.put, sA, sB, sC]
  refine wpAnyH_take (i := 25) (oi := { dst := some 78, op := Op.move (Operand.tmp 7), type := 3, pos := "law.go:26", after := #[{ on := 24, ground := Ground.guard }], guard := some (24, true) }) (v := ?_) rfl (by kernel_rfl) (by kernel_rfl) (by kernel_rfl) (fun c a w h => hp c a _ _ w h) (Or.inl ⟨by rfl, ?_⟩) (by assumption) ?_
  rotate_left 1
  · (intro W h; (try dsimp only at h); go_simp <;> with_reducible rfl)
  try simp only [Act.put, sA, sB, sC]
  refine wpAnyH_take (i := 26) (oi := { dst := some 79, op := Op.binOp BinOp.eql 3 (Operand.tmp 78) (Operand.const (Value.int IntKind.i64 0)) 3, type := 4, pos := "law.go:26", after := #[{ on := 25, ground := Ground.data }, { on := 24, ground := Ground.guard }], guard := some (24, true) }) (v := ?_) rfl (by kernel_rfl) (by kernel_rfl) (by kernel_rfl) (fun c a w h => hp c a _ _ w h) (Or.inl ⟨by rfl, ?_⟩) (by assumption) ?_
  rotate_left 1
  · (intro W h; (try dsimp only at h); go_simp <;> with_reducible rfl)
  try simp only [Act.put, sA, sB, sC]
  refine wpAnyH_take (i := 27) (oi := { dst := some 80, op := Op.pick (Operand.tmp 77) (Operand.tmp 79) (Operand.const (Value.bool false)), type := 4, pos := "law.go:26", after := #[{ on := 24, ground := Ground.data }, { on := 26, ground := Ground.data }], guard := none }) (v := ?_) rfl (by kernel_rfl) (by kernel_rfl) (by kernel_rfl) (fun c a w h => hp c a _ _ w h) (Or.inl ⟨by rfl, ?_⟩) (by assumption) ?_
  rotate_left 1
  · (intro W h; (try dsimp only at h); go_simp <;> with_reducible rfl)
  try simp only [Act.put, sA, sB, sC]
  refine wpAnyH_take (i := 28) (oi := { dst := some 81, op := Op.move (Operand.tmp 80), type := 4, pos := "law.go:26", after := #[{ on := 27, ground := Ground.data }, { on := 24, ground := Ground.chain }], guard := none }) (v := ?_) rfl (by kernel_rfl) (by kernel_rfl) (by kernel_rfl) (fun c a w h => hp c a _ _ w h) (Or.inl ⟨by rfl, ?_⟩) (by assumption) ?_
  rotate_left 1
  · (intro W h; (try dsimp only at h); go_simp <;> with_reducible rfl)
  try simp only [Act.put, sA, sB, sC]
  refine wpAnyH_take (i := 29) (oi := { dst := some 82, op := Op.load 27 (Operand.tmp 11), type := 27, pos := "law.go:26", after := #[{ on := 28, ground := Ground.guard }], guard := some (28, true) }) (v := ?_) rfl (by kernel_rfl) (by kernel_rfl) (by kernel_rfl) (fun c a w h => hp c a _ _ w h) (Or.inl ⟨by rfl, ?_⟩) (by assumption) ?_
  rotate_left 1
  · (intro W h; (try dsimp only at h); go_simp <;> with_reducible rfl)
  try simp only [Act.put, sA, sB, sC]
  refine wpAnyH_take (i := 31) (oi := { dst := some 84, op := Op.move (Operand.tmp 12), type := 3, pos := "law.go:26", after := #[{ on := 28, ground := Ground.guard }], guard := some (28, true) }) (v := ?_) rfl (by kernel_rfl) (by kernel_rfl) (by kernel_rfl) (fun c a w h => hp c a _ _ w h) (Or.inl ⟨by rfl, ?_⟩) (by assumption) ?_
  rotate_left 1
  · (intro W h; (try dsimp only at h); go_simp <;> with_reducible rfl)
  try simp only [Act.put, sA, sB, sC]
  refine wpAnyH_ready (rs := [30]) (by kernel_rfl) (by simp) ?_
  refine (AllReadyH.cons (o := { dst := some 83, op := Op.buildSlice 37 1 #[(0, Operand.const (Value.bool false))], type := 37, pos := "law.go:26", after := #[{ on := 28, ground := Ground.guard }], guard := some (28, true) }) rfl (fun K hK => ?_) AllReadyH.nil)
  rw [if_pos (by rfl)]
  go_simp
  have hga5 := World.grownBy.trans hgr4 (World.grownBy_alloc wc4 (.cells #[.bool false] 4) none)
  refine hK.out _ _ (HS.out _ hga5) (fun hHeld => ?_)
  clear hK K
  try simp only [Act.put, sA, sB, sC]
  refine wpAnyH_ready (rs := [32]) (by kernel_rfl) (by simp) ?_
  refine (AllReadyH.cons (o := { dst := some 85, op := Op.call { callee := Callee.value (Operand.func 38), args := #[Operand.tmp 82, Operand.tmp 83, Operand.tmp 84], argTypes := #[27, 37, 3] }, type := 4, pos := "law.go:26", after := #[{ on := 29, ground := Ground.data }, { on := 30, ground := Ground.data }, { on := 31, ground := Ground.data }, { on := 28, ground := Ground.chain }, { on := 28, ground := Ground.guard }], guard := some (28, true) }) rfl (fun K hK => ?_) AllReadyH.nil)
  rw [if_pos (by rfl)]
  go_simp
  go_at_call 38
  refine (h15_ev_at false (Hi.out.grown hga5).2.2 (bools_lit1 wc4 false)).mono ?_
  rintro e wc6 ⟨rfl, gc6⟩
  have hgr6 := World.grownBy.trans hga5 gc6
  go_wp2_with fail
  refine hK.out _ _ (HS.out _ hgr6) (fun hHeld => ?_)
  clear hK K
  try simp only [Act.put, sA, sB, sC]
  refine wpAnyH_take (i := 33) (oi := { dst := some 86, op := Op.pick (Operand.tmp 81) (Operand.tmp 85) (Operand.const (Value.bool false)), type := 4, pos := "law.go:26", after := #[{ on := 28, ground := Ground.data }, { on := 32, ground := Ground.data }], guard := none }) (v := ?_) rfl (by kernel_rfl) (by kernel_rfl) (by kernel_rfl) (fun c a w h => hp c a _ _ w h) (Or.inl ⟨by rfl, ?_⟩) (by assumption) ?_
  rotate_left 1
  · (intro W h; (try dsimp only at h); go_simp <;> with_reducible rfl)
  try simp only [Act.put, sA, sB, sC]
  refine wpAnyH_take (i := 34) (oi := { dst := some 87, op := Op.move (Operand.tmp 86), type := 4, pos := "law.go:26", after := #[{ on := 33, ground := Ground.data }, { on := 32, ground := Ground.chain }], guard := none }) (v := ?_) rfl (by kernel_rfl) (by kernel_rfl) (by kernel_rfl) (fun c a w h => hp c a _ _ w h) (Or.inl ⟨by rfl, ?_⟩) (by assumption) ?_
  rotate_left 1
  · (intro W h; (try dsimp only at h); go_simp <;> with_reducible rfl)
  try simp only [Act.put, sA, sB, sC]
  refine wpAnyH_take (i := 35) (oi := { dst := some 88, op := Op.load 27 (Operand.tmp 11), type := 27, pos := "law.go:26", after := #[{ on := 34, ground := Ground.guard }], guard := some (34, true) }) (v := ?_) rfl (by kernel_rfl) (by kernel_rfl) (by kernel_rfl) (fun c a w h => hp c a _ _ w h) (Or.inl ⟨by rfl, ?_⟩) (by assumption) ?_
  rotate_left 1
  · (intro W h; (try dsimp only at h); go_simp <;> with_reducible rfl)
  try simp only [Act.put, sA, sB, sC]
  refine wpAnyH_take (i := 37) (oi := { dst := some 90, op := Op.move (Operand.tmp 12), type := 3, pos := "law.go:26", after := #[{ on := 34, ground := Ground.guard }], guard := some (34, true) }) (v := ?_) rfl (by kernel_rfl) (by kernel_rfl) (by kernel_rfl) (fun c a w h => hp c a _ _ w h) (Or.inl ⟨by rfl, ?_⟩) (by assumption) ?_
  rotate_left 1
  · (intro W h; (try dsimp only at h); go_simp <;> with_reducible rfl)
  try simp only [Act.put, sA, sB, sC]
  refine wpAnyH_ready (rs := [36]) (by kernel_rfl) (by simp) ?_
  refine (AllReadyH.cons (o := { dst := some 89, op := Op.buildSlice 37 1 #[(0, Operand.const (Value.bool true))], type := 37, pos := "law.go:26", after := #[{ on := 34, ground := Ground.guard }], guard := some (34, true) }) rfl (fun K hK => ?_) AllReadyH.nil)
  rw [if_pos (by rfl)]
  go_simp
  have hga7 := World.grownBy.trans hgr6 (World.grownBy_alloc wc6 (.cells #[.bool true] 4) none)
  refine hK.out _ _ (HS.out _ hga7) (fun hHeld => ?_)
  clear hK K
  try simp only [Act.put, sA, sB, sC]
  refine wpAnyH_ready (rs := [38]) (by kernel_rfl) (by simp) ?_
  refine (AllReadyH.cons (o := { dst := some 91, op := Op.call { callee := Callee.value (Operand.func 38), args := #[Operand.tmp 88, Operand.tmp 89, Operand.tmp 90], argTypes := #[27, 37, 3] }, type := 4, pos := "law.go:26", after := #[{ on := 35, ground := Ground.data }, { on := 36, ground := Ground.data }, { on := 37, ground := Ground.data }, { on := 34, ground := Ground.chain }, { on := 34, ground := Ground.guard }], guard := some (34, true) }) rfl (fun K hK => ?_) AllReadyH.nil)
  rw [if_pos (by rfl)]
  go_simp
  go_at_call 38
  refine (h15_ev_at true (Hi.out.grown hga7).2.2 (bools_lit1 wc6 true)).mono ?_
  rintro e wc8 ⟨rfl, gc8⟩
  have hgr8 := World.grownBy.trans hga7 gc8
  go_wp2_with fail
  refine hK.out _ _ (HS.out _ hgr8) (fun hHeld => ?_)
  clear hK K
  try simp only [Act.put, sA, sB, sC]
  refine wpAnyH_take (i := 39) (oi := { dst := some 92, op := Op.unOp UnOp.not 4 (Operand.tmp 91), type := 4, pos := "law.go:26", after := #[{ on := 38, ground := Ground.data }, { on := 34, ground := Ground.guard }], guard := some (34, true) }) (v := ?_) rfl (by kernel_rfl) (by kernel_rfl) (by kernel_rfl) (fun c a w h => hp c a _ _ w h) (Or.inl ⟨by rfl, ?_⟩) (by assumption) ?_
  rotate_left 1
  · (intro W h; (try dsimp only at h); go_simp <;> with_reducible rfl)
  try simp only [Act.put, sA, sB, sC]
  refine wpAnyH_take (i := 40) (oi := { dst := some 93, op := Op.pick (Operand.tmp 87) (Operand.tmp 92) (Operand.const (Value.bool false)), type := 4, pos := "law.go:26", after := #[{ on := 34, ground := Ground.data }, { on := 39, ground := Ground.data }], guard := none }) (v := ?_) rfl (by kernel_rfl) (by kernel_rfl) (by kernel_rfl) (fun c a w h => hp c a _ _ w h) (Or.inl ⟨by rfl, ?_⟩) (by assumption) ?_
  rotate_left 1
  · (intro W h; (try dsimp only at h); go_simp <;> with_reducible rfl)
  try simp only [Act.put, sA, sB, sC]
  refine wpAnyH_take (i := 41) (oi := { dst := some 0, op := Op.assign (Operand.tmp 93), type := 4, pos := "law.go:26", after := #[{ on := 40, ground := Ground.data }, { on := 38, ground := Ground.chain }, { on := 0, ground := Ground.phase }, { on := 1, ground := Ground.phase }, { on := 2, ground := Ground.phase }, { on := 3, ground := Ground.phase }, { on := 4, ground := Ground.phase }, { on := 5, ground := Ground.phase }, { on := 6, ground := Ground.phase }, { on := 7, ground := Ground.phase }, { on := 8, ground := Ground.phase }, { on := 9, ground := Ground.phase }, { on := 10, ground := Ground.phase }, { on := 11, ground := Ground.phase }, { on := 12, ground := Ground.phase }, { on := 13, ground := Ground.phase }, { on := 14, ground := Ground.phase }, { on := 15, ground := Ground.phase }, { on := 16, ground := Ground.phase }, { on := 17, ground := Ground.phase }, { on := 18, ground := Ground.phase }, { on := 19, ground := Ground.phase }, { on := 20, ground := Ground.phase }, { on := 21, ground := Ground.phase }, { on := 22, ground := Ground.phase }, { on := 23, ground := Ground.phase }, { on := 24, ground := Ground.phase }, { on := 25, ground := Ground.phase }, { on := 26, ground := Ground.phase }, { on := 27, ground := Ground.phase }, { on := 28, ground := Ground.phase }, { on := 29, ground := Ground.phase }, { on := 30, ground := Ground.phase }, { on := 31, ground := Ground.phase }, { on := 32, ground := Ground.phase }, { on := 33, ground := Ground.phase }, { on := 34, ground := Ground.phase }, { on := 35, ground := Ground.phase }, { on := 36, ground := Ground.phase }, { on := 37, ground := Ground.phase }, { on := 38, ground := Ground.phase }, { on := 39, ground := Ground.phase }, { on := 40, ground := Ground.phase }], guard := none }) (v := ?_) rfl (by kernel_rfl) (by kernel_rfl) (by kernel_rfl) (fun c a w h => hp c a _ _ w h) (Or.inl ⟨by rfl, ?_⟩) (by assumption) ?_
  rotate_left 1
  · (intro W h; (try dsimp only at h); go_simp <;> with_reducible rfl)
  try simp only [Act.put, sA, sB]
  refine wpAnyH_done (by kernel_rfl) ?_ _
  have hEND := hgr8
  clear hHeld
  exact HQ _ _ _ _ _ _ _ _ _ _ _ _ _ _ _ _ _ _ _ _ _ _ _ _ _ _ _ _ _ _ _ _ _ _ _ _ _ _ _ _ _ _ _ _ _ _ _ _ _ _ _ _ _ _ _ _ _ _ _ _ _ _ _ _ _ _ _ _ _ _ _ _ _ _ _ _ _ _ _ _ _ _ _ _ _ _ _ _ _ _ _ _ _ _ hEND
end Go.Proofs.YthdhmflodiincaaGreat

namespace Go.Proofs.YthdhmflodiincaaGreat
open Go.RowKit Go.Maps

theorem head15_calls (w : World) : Calls Tryz.prog 32 #[] w fun e w' => e = .returned (.bool true) ∧ w.grownBy w' none := by
  have HG := Lib.hid (grown_refl w none)
  go_enter Tryz.func32, Tryz.ntmps32
  go_wp2_with fail
  have hb := ints_lit2 w 1 5
  have gw := World.grownBy_alloc w (.cells #[.int .i64 1, .int .i64 5] 3) none
  obtain ⟨V1, hV1⟩ : ∃ z, World.alloc w (.cells #[.int .i64 1, .int .i64 5] 3) = z := ⟨_, rfl⟩
  have hsV1 : V1.heap.size = w.heap.size + 1 := by rw [← hV1]; simp
  rw [hV1] at gw hb ⊢
  clear hV1
  obtain ⟨p1, hbb⟩ : ∃ b, w.heap.size = b := ⟨_, rfl⟩
  rw [hbb] at hb hsV1 ⊢
  clear hbb
  replace HG := Lib.hid (World.grownBy.trans HG.out gw)
  clear gw
  have Hr1 := Lib.hid hb
  clear hb
  clear hsV1
  have hr1 := Hr1.out
  clear Hr1
  refine (const2_at 2 1 5 hr1).mono ?_
  rintro e V2 ⟨a1, c1, rfl, hm, g⟩
  clear hr1
  replace HG := Lib.hid (World.grownBy.trans HG.out g)
  clear g
  go_upto_region 2 with fail
  have hb := XB.new (n := 2) 2 (show CellsW V2 a1 c1 hM from hm) rfl
  have gw := World.grownBy_alloc V2 (.cells #[.int .i64 2, .slice a1 2 c1] 35) none
  obtain ⟨V3, hV3⟩ : ∃ z, World.alloc V2 (.cells #[.int .i64 2, .slice a1 2 c1] 35) = z := ⟨_, rfl⟩
  have hsV3 : V3.heap.size = V2.heap.size + 1 := by rw [← hV3]; simp
  rw [hV3] at gw hb ⊢
  clear hV3
  obtain ⟨b1, hbb⟩ : ∃ b, V2.heap.size = b := ⟨_, rfl⟩
  rw [hbb] at hb hsV3 ⊢
  clear hbb
  replace HG := Lib.hid (World.grownBy.trans HG.out gw)
  clear gw
  have Ha := Lib.hid hb
  clear hb
  clear hm hsV3
  refine hq2_all (fun c a d v w h => by cases d <;> exact h) Ha (Lib.hid ?_)
  intro a2 c2 a3 c3 b2 b3 _ _ _ _ _ _ _ _ _ _ _ _ _ _ _ _ _ _ _ _ _ _ _ _ _ _ _ _ _ _ _ _ _ _ _ _ _ _ _ _ _ _ _ _ _ _ _ _ _ _ _ _ _ _ _ _ _ _ _ _ _ _ _ _ _ _ _ _ _ _ _ _ _ _ _ _ _ _ _ _ _ _ _ _ _ _ _ _ _ _ _ V4 g _ _ hcb hxb
  replace Ha := Lib.hid (Ha.out.grown g)
  replace HG := Lib.hid (World.grownBy.trans HG.out g)
  clear g
  have Hc := Lib.hid hcb
  have Hd := Lib.hid hxb
  clear hcb hxb
  have qa := Ha.out.1
  have ra := Ha.out.2.1
  have qc := Hc.out.1
  have qd := Hd.out.1
  have rd := Hd.out.2.1
  go_upto_region 3 with fail
  clear qa ra qc qd rd
  refine hq3_all (fun c a d v w h => by cases d <;> exact h) Ha (Lib.hid ?_)
  intro a4 c4 a5 c5 b4 b5 _ _ _ _ _ _ _ _ _ _ _ _ _ _ _ _ _ _ _ _ _ _ _ _ _ _ _ _ _ _ _ _ _ _ _ _ _ _ _ _ _ _ _ _ _ _ _ _ _ _ _ _ _ _ _ _ _ _ _ _ _ _ _ _ _ _ _ _ _ _ _ _ _ _ _ _ _ _ _ _ _ _ _ _ _ _ _ _ _ V5 g _ _ hcb hxb
  replace Ha := Lib.hid (Ha.out.grown g)
  replace Hc := Lib.hid (Hc.out.grown g)
  replace Hd := Lib.hid (Hd.out.grown g)
  replace HG := Lib.hid (World.grownBy.trans HG.out g)
  clear g
  have He := Lib.hid hcb
  have Hf := Lib.hid hxb
  clear hcb hxb
  have qa := Ha.out.1
  have ra := Ha.out.2.1
  have qc := Hc.out.1
  have qd := Hd.out.1
  have rd := Hd.out.2.1
  have qe := He.out.1
  have qf := Hf.out.1
  have rf := Hf.out.2.1
  go_upto_region 4 with fail
  clear qa ra qc qd rd qe qf rf
  refine hq4_all (fun c a d v w h => by cases d <;> exact h) Ha (Lib.hid ?_)
  intro a6 c6 b6 _ _ _ _ _ _ _ _ _ _ _ _ _ _ _ _ _ _ _ _ _ _ _ _ _ _ _ _ _ _ _ _ _ _ _ _ _ _ _ _ _ _ _ _ _ _ _ _ _ _ _ _ _ _ _ _ _ _ _ _ _ _ _ _ _ _ _ _ _ _ _ _ _ _ _ _ _ _ _ _ _ _ _ _ _ _ _ V6 g _ hcb
  replace Ha := Lib.hid (Ha.out.grown g)
  replace Hc := Lib.hid (Hc.out.grown g)
  replace Hd := Lib.hid (Hd.out.grown g)
  replace He := Lib.hid (He.out.grown g)
  replace Hf := Lib.hid (Hf.out.grown g)
  replace HG := Lib.hid (World.grownBy.trans HG.out g)
  clear g
  have Hg := Lib.hid hcb
  clear hcb
  have qa := Ha.out.1
  have ra := Ha.out.2.1
  have qc := Hc.out.1
  have qd := Hd.out.1
  have rd := Hd.out.2.1
  have qe := He.out.1
  have qf := Hf.out.1
  have rf := Hf.out.2.1
  have qg := Hg.out.1
  go_wp2_with fail
  clear qa ra qc qd rd qe qf rf qg
  refine (h15_new_at V6).mono ?_
  rintro e V7 ⟨a7, c7, rfl, hr1, g⟩
  replace Ha := Lib.hid (Ha.out.grown g)
  replace Hc := Lib.hid (Hc.out.grown g)
  replace Hd := Lib.hid (Hd.out.grown g)
  replace He := Lib.hid (He.out.grown g)
  replace Hf := Lib.hid (Hf.out.grown g)
  replace Hg := Lib.hid (Hg.out.grown g)
  replace HG := Lib.hid (World.grownBy.trans HG.out g)
  clear g
  have qa := Ha.out.1
  have ra := Ha.out.2.1
  have qc := Hc.out.1
  have qd := Hd.out.1
  have rd := Hd.out.2.1
  have qe := He.out.1
  have qf := Hf.out.1
  have rf := Hf.out.2.1
  have qg := Hg.out.1
  go_wp2_with fail
  clear qa ra qc qd rd qe qf rf qg
  refine (h15_in_at hr1).mono ?_
  rintro e V8 ⟨a8, c8, rfl, hr, g⟩
  clear hr1
  replace Ha := Lib.hid (Ha.out.grown g)
  replace Hc := Lib.hid (Hc.out.grown g)
  replace Hd := Lib.hid (Hd.out.grown g)
  replace He := Lib.hid (He.out.grown g)
  replace Hf := Lib.hid (Hf.out.grown g)
  replace Hg := Lib.hid (Hg.out.grown g)
  replace HG := Lib.hid (World.grownBy.trans HG.out g)
  clear g
  have qa := Ha.out.1
  have ra := Ha.out.2.1
  have qc := Hc.out.1
  have qd := Hd.out.1
  have rd := Hd.out.2.1
  have qe := He.out.1
  have qf := Hf.out.1
  have rf := Hf.out.2.1
  have qg := Hg.out.1
  go_upto_region 6 with fail
  clear qa ra qc qd rd qe qf rf qg
  have hb := (show CB (V8.alloc (.cells #[.slice a8 2 c8] 27)) V8.heap.size a8 c8 hC from CB.new hr)
  have gw := World.grownBy_alloc V8 (.cells #[.slice a8 2 c8] 27) none
  obtain ⟨V9, hV9⟩ : ∃ z, World.alloc V8 (.cells #[.slice a8 2 c8] 27) = z := ⟨_, rfl⟩
  have hsV9 : V9.heap.size = V8.heap.size + 1 := by rw [← hV9]; simp
  rw [hV9] at gw hb ⊢
  clear hV9
  obtain ⟨b8, hbb⟩ : ∃ b, V8.heap.size = b := ⟨_, rfl⟩
  rw [hbb] at hb hsV9 ⊢
  clear hbb
  replace Ha := Lib.hid (Ha.out.grown gw)
  replace Hc := Lib.hid (Hc.out.grown gw)
  replace Hd := Lib.hid (Hd.out.grown gw)
  replace He := Lib.hid (He.out.grown gw)
  replace Hf := Lib.hid (Hf.out.grown gw)
  replace Hg := Lib.hid (Hg.out.grown gw)
  replace HG := Lib.hid (World.grownBy.trans HG.out gw)
  clear gw
  have Hh := Lib.hid hb
  clear hb
  clear hr hsV9
  have qa := Ha.out.1
  have ra := Ha.out.2.1
  have qc := Hc.out.1
  have qd := Hd.out.1
  have rd := Hd.out.2.1
  have qe := He.out.1
  have qf := Hf.out.1
  have rf := Hf.out.2.1
  have qg := Hg.out.1
  have qh := Hh.out.1
  go_upto_region 7 with fail
  clear qa ra qc qd rd qe qf rf qg qh
  have h1 := cells_lit2 V9 (1, 0) (2, 2)
  have gw := World.grownBy_alloc V9 (.cells #[.int .i64 1, .int .i64 0, .int .i64 2, .int .i64 2] 70) none
  obtain ⟨V10, hU⟩ : ∃ z, World.alloc V9 (.cells #[.int .i64 1, .int .i64 0, .int .i64 2, .int .i64 2] 70) = z := ⟨_, rfl⟩
  have hsU : V10.heap.size = V9.heap.size + 1 := by rw [← hU]; simp
  rw [hU] at gw h1 ⊢
  clear hU
  obtain ⟨p2, hbb⟩ : ∃ b, V9.heap.size = b := ⟨_, rfl⟩
  rw [hbb] at h1 hsU ⊢
  clear hbb
  replace Ha := Lib.hid (Ha.out.grown gw)
  replace Hc := Lib.hid (Hc.out.grown gw)
  replace Hd := Lib.hid (Hd.out.grown gw)
  replace He := Lib.hid (He.out.grown gw)
  replace Hf := Lib.hid (Hf.out.grown gw)
  replace Hg := Lib.hid (Hg.out.grown gw)
  replace Hh := Lib.hid (Hh.out.grown gw)
  replace HG := Lib.hid (World.grownBy.trans HG.out gw)
  clear gw
  have hb := XB.new (n := 2) 2 (show CellsW V10 (some ⟨p2, 0, none⟩) 2 hU from h1) rfl
  have gw := World.grownBy_alloc V10 (.cells #[.int .i64 2, .slice (some ⟨p2, 0, none⟩) 2 2] 35) none
  obtain ⟨V11, hU⟩ : ∃ z, World.alloc V10 (.cells #[.int .i64 2, .slice (some ⟨p2, 0, none⟩) 2 2] 35) = z := ⟨_, rfl⟩
  rw [hU] at gw hb ⊢
  clear hU
  rw [hsU] at hb
  clear hsU
  obtain ⟨b10, hbb⟩ : ∃ b, p2 + 1 = b := ⟨_, rfl⟩
  rw [hbb] at hb ⊢
  clear hbb
  replace Ha := Lib.hid (Ha.out.grown gw)
  replace Hc := Lib.hid (Hc.out.grown gw)
  replace Hd := Lib.hid (Hd.out.grown gw)
  replace He := Lib.hid (He.out.grown gw)
  replace Hf := Lib.hid (Hf.out.grown gw)
  replace Hg := Lib.hid (Hg.out.grown gw)
  replace Hh := Lib.hid (Hh.out.grown gw)
  replace HG := Lib.hid (World.grownBy.trans HG.out gw)
  clear gw
  clear h1
  have Hb := Lib.hid hb
  clear hb
  have qa := Ha.out.1
  have ra := Ha.out.2.1
  have qc := Hc.out.1
  have qd := Hd.out.1
  have rd := Hd.out.2.1
  have qe := He.out.1
  have qf := Hf.out.1
  have rf := Hf.out.2.1
  have qg := Hg.out.1
  have qh := Hh.out.1
  have qb := Hb.out.1
  have rb := Hb.out.2.1
  go_wp2_with fail
  clear qa ra qc qd rd qe qf rf qg qh qb rb
  refine (h15_bc_at Hh.out.2.2 Hb.out.2.2.2).mono ?_
  rintro e V12 ⟨a11, c11, rfl, hr, g⟩
  replace Ha := Lib.hid (Ha.out.grown g)
  replace Hc := Lib.hid (Hc.out.grown g)
  replace Hd := Lib.hid (Hd.out.grown g)
  replace He := Lib.hid (He.out.grown g)
  replace Hf := Lib.hid (Hf.out.grown g)
  replace Hg := Lib.hid (Hg.out.grown g)
  replace Hh := Lib.hid (Hh.out.grown g)
  replace Hb := Lib.hid (Hb.out.grown g)
  replace HG := Lib.hid (World.grownBy.trans HG.out g)
  clear g
  have qa := Ha.out.1
  have ra := Ha.out.2.1
  have qc := Hc.out.1
  have qd := Hd.out.1
  have rd := Hd.out.2.1
  have qe := He.out.1
  have qf := Hf.out.1
  have rf := Hf.out.2.1
  have qg := Hg.out.1
  have qh := Hh.out.1
  have qb := Hb.out.1
  have rb := Hb.out.2.1
  go_upto_region 8 with fail
  clear qa ra qc qd rd qe qf rf qg qh qb rb
  have hb := (show CB (V12.alloc (.cells #[.slice a11 2 c11] 27)) V12.heap.size a11 c11 hC from CB.new hr)
  have gw := World.grownBy_alloc V12 (.cells #[.slice a11 2 c11] 27) none
  obtain ⟨V13, hV13⟩ : ∃ z, World.alloc V12 (.cells #[.slice a11 2 c11] 27) = z := ⟨_, rfl⟩
  have hsV13 : V13.heap.size = V12.heap.size + 1 := by rw [← hV13]; simp
  rw [hV13] at gw hb ⊢
  clear hV13
  obtain ⟨b11, hbb⟩ : ∃ b, V12.heap.size = b := ⟨_, rfl⟩
  rw [hbb] at hb hsV13 ⊢
  clear hbb
  replace Ha := Lib.hid (Ha.out.grown gw)
  replace Hc := Lib.hid (Hc.out.grown gw)
  replace Hd := Lib.hid (Hd.out.grown gw)
  replace He := Lib.hid (He.out.grown gw)
  replace Hf := Lib.hid (Hf.out.grown gw)
  replace Hg := Lib.hid (Hg.out.grown gw)
  replace Hh := Lib.hid (Hh.out.grown gw)
  replace Hb := Lib.hid (Hb.out.grown gw)
  replace HG := Lib.hid (World.grownBy.trans HG.out gw)
  clear gw
  have Hi := Lib.hid hb
  clear hb
  clear hr hsV13
  have qa := Ha.out.1
  have ra := Ha.out.2.1
  have qc := Hc.out.1
  have qd := Hd.out.1
  have rd := Hd.out.2.1
  have qe := He.out.1
  have qf := Hf.out.1
  have rf := Hf.out.2.1
  have qg := Hg.out.1
  have qh := Hh.out.1
  have qb := Hb.out.1
  have rb := Hb.out.2.1
  have qi := Hi.out.1
  go_upto_region 9 with fail
  clear qa ra qc qd rd qe qf rf qg qh qb rb qi
  have h1 := ints_lit3 V13 1 2 5
  have gw := World.grownBy_alloc V13 (.cells #[.int .i64 1, .int .i64 2, .int .i64 5] 3) none
  obtain ⟨V14, hU⟩ : ∃ z, World.alloc V13 (.cells #[.int .i64 1, .int .i64 2, .int .i64 5] 3) = z := ⟨_, rfl⟩
  have hsU : V14.heap.size = V13.heap.size + 1 := by rw [← hU]; simp
  rw [hU] at gw h1 ⊢
  clear hU
  obtain ⟨p3, hbb⟩ : ∃ b, V13.heap.size = b := ⟨_, rfl⟩
  rw [hbb] at h1 hsU ⊢
  clear hbb
  replace Ha := Lib.hid (Ha.out.grown gw)
  replace Hc := Lib.hid (Hc.out.grown gw)
  replace Hd := Lib.hid (Hd.out.grown gw)
  replace He := Lib.hid (He.out.grown gw)
  replace Hf := Lib.hid (Hf.out.grown gw)
  replace Hg := Lib.hid (Hg.out.grown gw)
  replace Hh := Lib.hid (Hh.out.grown gw)
  replace Hb := Lib.hid (Hb.out.grown gw)
  replace Hi := Lib.hid (Hi.out.grown gw)
  replace HG := Lib.hid (World.grownBy.trans HG.out gw)
  clear gw
  have hb := YB.new (n := 3) (l := [1, 2, 5]) 2 h1 rfl
  have gw := World.grownBy_alloc V14 (.cells #[.int .i64 2, .slice (some ⟨p3, 0, none⟩) 3 3] 40) none
  obtain ⟨V15, hU⟩ : ∃ z, World.alloc V14 (.cells #[.int .i64 2, .slice (some ⟨p3, 0, none⟩) 3 3] 40) = z := ⟨_, rfl⟩
  rw [hU] at gw hb ⊢
  clear hU
  rw [hsU] at hb
  clear hsU
  obtain ⟨b13, hbb⟩ : ∃ b, p3 + 1 = b := ⟨_, rfl⟩
  rw [hbb] at hb ⊢
  clear hbb
  replace Ha := Lib.hid (Ha.out.grown gw)
  replace Hc := Lib.hid (Hc.out.grown gw)
  replace Hd := Lib.hid (Hd.out.grown gw)
  replace He := Lib.hid (He.out.grown gw)
  replace Hf := Lib.hid (Hf.out.grown gw)
  replace Hg := Lib.hid (Hg.out.grown gw)
  replace Hh := Lib.hid (Hh.out.grown gw)
  replace Hb := Lib.hid (Hb.out.grown gw)
  replace Hi := Lib.hid (Hi.out.grown gw)
  replace HG := Lib.hid (World.grownBy.trans HG.out gw)
  clear gw
  clear h1
  have Hy := Lib.hid hb
  clear hb
  refine hd9_all (fun c a d v w h => by cases d <;> exact h) Hc He Hi Hd Hf Hy ?_
  intro _ _ _ _ _ _ _ _ _ _ _ _ _ _ _ _ _ _ _ _ _ _ _ _ _ _ _ _ _ _ _ _ _ _ _ _ _ _ _ _ _ _ _ _ _ _ _ _ _ _ _ _ _ _ _ _ _ _ _ _ _ _ _ _ _ _ _ _ _ _ _ _ _ _ _ _ _ _ _ _ _ _ _ _ _ _ _ _ _ _ _ _ _ W hEND
  go_wp2_with fail
  go_ret
  exact ⟨rfl, World.grownBy.trans HG.out hEND⟩
end Go.Proofs.YthdhmflodiincaaGreat
