/- Common texts of the laws of stage 9, joined: VF. -/
import Derived.Test.YtbddpjofhddilaaN16
/- The check of the examples of bounds: its last statement, conjunct by conjunct (more). -/
namespace Go.Proofs.Ytbddpjofhddilaa
open Go.RowKit

set_option maxRecDepth 100000 in
set_option maxHeartbeats 8000000 in
theorem head9Seg5 {Q : Exit → Act → World → Prop} (hp : ∀ c a d v w, Q (.panic c) (Act.put a d v) w → Q (.panic c) a w) {V : World} {g1 g2 g3 xb mb mo : Nat} {q1 q2 q3 q4 ad ay ma1 ma2 : Option Addr} {cd cy c4 mc mc1 mc2 : Nat} (c42 : ∀ (z : Option Addr) (u : Nat) (W' : World), V.grownBy W' none → IntsW W' z u [0, 1] → Calls Try.prog 59 #[.agg #[.int .i64 1, .slice ma1 2 mc1], .agg #[.int .i64 1, .slice z 2 u]] W' (fun e w' => e = .returned (.bool true) ∧ W'.grownBy w' none)) (hnext : ∀ (t0 t6 t9 t11 t14 t15 t16 t17 t18 t19 t20 t21 t22 t23 t24 t25 t26 t27 t28 t29 t30 t31 t32 t33 t34 t35 t36 t37 t38 t39 t40 t41 t42 t43 t44 t45 t46 t47 t48 t49 t50 t51 t52 t53 t54 t55 t56 t57 t58 t59 t60 t61 t62 t63 t64 t65 t66 t67 t68 t69 t70 t71 t72 t73 t74 t75 t76 t77 t78 t79 t80 t81 t82 t83 t84 t85 t86 t87 t88 t89 t90 t91 t92 t93 t94 t95 t96 t97 t98 t99 t100 t101 t102 t103 t104 t105 t106 t107 t108 t109 t110 t111 t112 t113 t114 t115 t116 t117 t118 t119 t120 t121 t122 t123 t124 t125 t126 t127 t129 t130 t131 t132 t133 t134 t135 t136 t137 t138 t139 t140 t141 t142 t143 t144 t145 t146 t147 t148 t149 t150 t151 t152 t153 t154 t155 t156 t157 t158 t159 t160 t161 t162 t163 t164 : Value) (w' : World), (HeadT V g1 g2 g3 xb mb mo q1 q2 q3 q4 ad ay ma1 ma2 cd cy c4 mc mc1 mc2) w' → wpAnyH Try.prog .any headOps9 Q (HeadT V g1 g2 g3 xb mb mo q1 q2 q3 q4 ad ay ma1 ma2 cd cy c4 mc mc1 mc2) 37 (lst9 45) ⟨#[t0, .pointer (some ⟨g1, 0, none⟩), .pointer (some ⟨g2, 0, none⟩), .slice ad 2 cd, .slice (some ⟨xb, 0, none⟩) 2 2, .slice ay 2 cy, t6, .slice (some ⟨mb, mo, none⟩) 2 mc, .int .i64 0, t9, .int .i64 100, t11, .int .i64 1, .pointer (some ⟨g3, 0, none⟩), t14, t15, t16, t17, t18, t19, t20, t21, t22, t23, t24, t25, t26, t27, t28, t29, t30, t31, t32, t33, t34, t35, t36, t37, t38, t39, t40, t41, t42, t43, t44, t45, t46, t47, t48, t49, t50, t51, t52, t53, t54, t55, t56, t57, t58, t59, t60, t61, t62, t63, t64, t65, t66, t67, t68, t69, t70, t71, t72, t73, t74, t75, t76, t77, t78, t79, t80, t81, t82, t83, t84, t85, t86, t87, t88, t89, t90, t91, t92, t93, t94, t95, t96, t97, t98, t99, t100, t101, t102, t103, t104, t105, t106, t107, t108, t109, t110, t111, t112, t113, t114, t115, t116, t117, t118, t119, t120, t121, t122, t123, t124, t125, t126, t127, .bool true, t129, t130, t131, t132, t133, t134, t135, t136, t137, t138, t139, t140, t141, t142, t143, t144, t145, t146, t147, t148, t149, t150, t151, t152, t153, t154, t155, t156, t157, t158, t159, t160, t161, t162, t163, t164], []⟩ w')
    (t0 t6 t9 t11 t14 t15 t16 t17 t18 t19 t20 t21 t22 t23 t24 t25 t26 t27 t28 t29 t30 t31 t32 t33 t34 t35 t36 t37 t38 t39 t40 t41 t42 t43 t44 t45 t46 t47 t48 t49 t50 t51 t52 t53 t54 t55 t56 t57 t58 t59 t60 t61 t62 t63 t64 t65 t66 t67 t68 t69 t70 t71 t72 t73 t74 t75 t76 t77 t78 t79 t80 t81 t82 t83 t84 t85 t86 t87 t88 t89 t90 t91 t92 t93 t94 t95 t96 t97 t98 t99 t100 t101 t102 t103 t104 t105 t106 t107 t108 t109 t110 t111 t112 t113 t114 t115 t116 t117 t118 t120 t121 t122 t123 t124 t125 t126 t127 t128 t129 t130 t131 t132 t133 t134 t135 t136 t137 t138 t139 t140 t141 t142 t143 t144 t145 t146 t147 t148 t149 t150 t151 t152 t153 t154 t155 t156 t157 t158 t159 t160 t161 t162 t163 t164 : Value) (w : World) (hHeld : (HeadT V g1 g2 g3 xb mb mo q1 q2 q3 q4 ad ay ma1 ma2 cd cy c4 mc mc1 mc2) w) : wpAnyH Try.prog .any headOps9 Q (HeadT V g1 g2 g3 xb mb mo q1 q2 q3 q4 ad ay ma1 ma2 cd cy c4 mc mc1 mc2) 46 (lst9 36) ⟨#[t0, .pointer (some ⟨g1, 0, none⟩), .pointer (some ⟨g2, 0, none⟩), .slice ad 2 cd, .slice (some ⟨xb, 0, none⟩) 2 2, .slice ay 2 cy, t6, .slice (some ⟨mb, mo, none⟩) 2 mc, .int .i64 0, t9, .int .i64 100, t11, .int .i64 1, .pointer (some ⟨g3, 0, none⟩), t14, t15, t16, t17, t18, t19, t20, t21, t22, t23, t24, t25, t26, t27, t28, t29, t30, t31, t32, t33, t34, t35, t36, t37, t38, t39, t40, t41, t42, t43, t44, t45, t46, t47, t48, t49, t50, t51, t52, t53, t54, t55, t56, t57, t58, t59, t60, t61, t62, t63, t64, t65, t66, t67, t68, t69, t70, t71, t72, t73, t74, t75, t76, t77, t78, t79, t80, t81, t82, t83, t84, t85, t86, t87, t88, t89, t90, t91, t92, t93, t94, t95, t96, t97, t98, t99, t100, t101, t102, t103, t104, t105, t106, t107, t108, t109, t110, t111, t112, t113, t114, t115, t116, t117, t118, .bool true, t120, t121, t122, t123, t124, t125, t126, t127, t128, t129, t130, t131, t132, t133, t134, t135, t136, t137, t138, t139, t140, t141, t142, t143, t144, t145, t146, t147, t148, t149, t150, t151, t152, t153, t154, t155, t156, t157, t158, t159, t160, t161, t162, t163, t164], []⟩ w := by
  have h0 := hHeld
  have HS := Lib.hid (fun (W : World) (g : w.grownBy W none) => headT_grown h0 g)
  have hg0 := grown_refl w none
  refine wpAnyH_take (i := 36) (oi := { dst := some 120, op := Op.move (Operand.tmp 7), type := 57, pos := "law.go:35", after := #[{ on := 35, ground := Ground.guard }], guard := some (35, true) }) (v := ?_) rfl (by kernel_rfl) (by kernel_rfl) (by kernel_rfl) (fun c a w h => hp c a _ _ w h) (Or.inl ⟨by rfl, ?_⟩) (by assumption) ?_
  rotate_left 1
  · (intro W hSW; unfold HeadT at hSW; first | (go_simp; done) | (go_simp; with_reducible rfl))
  try simp only [Act.put, List.setIfInBounds_toArray, List.set_cons_zero, List.set_cons_succ]
  refine wpAnyH_take (i := 37) (oi := { dst := some 121, op := Op.indexAddr 57 (Operand.tmp 120) (Operand.const (Value.int IntKind.i64 0)), type := 0, pos := "law.go:35", after := #[{ on := 36, ground := Ground.data }, { on := 35, ground := Ground.guard }], guard := some (35, true) }) (v := ?_) rfl (by kernel_rfl) (by kernel_rfl) (by kernel_rfl) (fun c a w h => hp c a _ _ w h) (Or.inl ⟨by rfl, ?_⟩) (by assumption) ?_
  rotate_left 1
  · (intro W hSW; unfold HeadT at hSW; first | (go_simp; done) | (go_simp; with_reducible rfl))
  try simp only [Act.put, List.setIfInBounds_toArray, List.set_cons_zero, List.set_cons_succ]
  refine wpAnyH_take (i := 38) (oi := { dst := some 122, op := Op.fieldAddr 74 (Operand.tmp 121) 0, type := 0, pos := "law.go:35", after := #[{ on := 37, ground := Ground.data }, { on := 35, ground := Ground.guard }], guard := some (35, true) }) (v := ?_) rfl (by kernel_rfl) (by kernel_rfl) (by kernel_rfl) (fun c a w h => hp c a _ _ w h) (Or.inl ⟨by rfl, ?_⟩) (by assumption) ?_
  rotate_left 1
  · (intro W hSW; unfold HeadT at hSW; first | (go_simp; done) | (go_simp; with_reducible rfl))
  try simp only [Act.put, List.setIfInBounds_toArray, List.set_cons_zero, List.set_cons_succ]
  refine wpAnyH_take (i := 39) (oi := { dst := some 123, op := Op.load 53 (Operand.tmp 122), type := 53, pos := "law.go:35", after := #[{ on := 38, ground := Ground.data }, { on := 35, ground := Ground.guard }], guard := some (35, true) }) (v := ?_) rfl (by kernel_rfl) (by kernel_rfl) (by kernel_rfl) (fun c a w h => hp c a _ _ w h) (Or.inl ⟨by rfl, ?_⟩) (by assumption) ?_
  rotate_left 1
  · (intro W hSW; unfold HeadT at hSW; first | (go_simp; done) | (go_simp; with_reducible rfl))
  try simp only [Act.put, List.setIfInBounds_toArray, List.set_cons_zero, List.set_cons_succ]
  refine wpAnyH_ready (rs := [40]) (by kernel_rfl) (by simp) ?_
  refine (AllReadyH.cons (o := { dst := some 124, op := Op.buildSlice 28 2 #[(0, Operand.const (Value.int IntKind.i64 0)), (1, Operand.const (Value.int IntKind.i64 1))], type := 28, pos := "law.go:35", after := #[{ on := 35, ground := Ground.guard }], guard := some (35, true) }) rfl (fun K hK => ?_) AllReadyH.nil)
  rw [if_pos (by rfl)]
  go_simp
  have hga1 := World.grownBy_alloc w (.cells #[.int .i64 0, .int .i64 1] 3) none
  have hr40 : IntsW (World.alloc w (.cells #[.int .i64 0, .int .i64 1] 3)) (some ⟨w.heap.size, 0, none⟩) 2 [0, 1] := ints_new9 w [0, 1]
  obtain ⟨WA1, hWA1⟩ : ∃ W, World.alloc w (.cells #[.int .i64 0, .int .i64 1] 3) = W := ⟨_, rfl⟩
  rw [hWA1] at hga1 hr40  ⊢
  clear hWA1
  have hg1 := World.grownBy.trans hg0 hga1
  refine hK.out _ _ (HS.out _ hg1) (fun hHeld => ?_)
  clear hK K
  try simp only [Act.put, List.setIfInBounds_toArray, List.set_cons_zero, List.set_cons_succ]
  refine wpAnyH_ready (rs := [41]) (by kernel_rfl) (by simp) ?_
  refine (AllReadyH.cons (o := { dst := some 125, op := Op.call { callee := Callee.value (Operand.func 91), args := #[Operand.tmp 124], argTypes := #[28] }, type := 53, pos := "law.go:35", after := #[{ on := 40, ground := Ground.data }, { on := 35, ground := Ground.chain }, { on := 35, ground := Ground.guard }], guard := some (35, true) }) rfl (fun K hK => ?_) AllReadyH.nil)
  rw [if_pos (by rfl)]
  go_simp
  go_at_call 91
  refine (set9_calls _ _ _ _).mono ?_
  rintro e wc2 ⟨rfl, gc2⟩
  replace hr40 := hr40.grown gc2
  go_wp2_with fail
  have hg2 := World.grownBy.trans hg1 gc2
  refine hK.out _ _ (HS.out _ hg2) (fun hHeld => ?_)
  clear hK K
  try simp only [Act.put, List.setIfInBounds_toArray, List.set_cons_zero, List.set_cons_succ]
  refine wpAnyH_ready (rs := [42]) (by kernel_rfl) (by simp) ?_
  refine (AllReadyH.cons (o := { dst := some 126, op := Op.call { callee := Callee.value (Operand.func 59), args := #[Operand.tmp 123, Operand.tmp 125], argTypes := #[53, 53] }, type := 4, pos := "law.go:35", after := #[{ on := 39, ground := Ground.data }, { on := 41, ground := Ground.data }, { on := 41, ground := Ground.chain }, { on := 35, ground := Ground.guard }], guard := some (35, true) }) rfl (fun K hK => ?_) AllReadyH.nil)
  rw [if_pos (by rfl)]
  go_simp
  go_at_call 59
  refine (c42 _ _ _ (h0.1.trans hg2) hr40).mono ?_
  rintro e wc3 ⟨rfl, gc3⟩
  replace hr40 := hr40.grown gc3
  go_wp2_with fail
  have hg3 := World.grownBy.trans hg2 gc3
  refine hK.out _ _ (HS.out _ hg3) (fun hHeld => ?_)
  clear hK K
  try simp only [Act.put, List.setIfInBounds_toArray, List.set_cons_zero, List.set_cons_succ]
  refine wpAnyH_take (i := 43) (oi := { dst := some 127, op := Op.pick (Operand.tmp 119) (Operand.tmp 126) (Operand.const (Value.bool false)), type := 4, pos := "law.go:35", after := #[{ on := 35, ground := Ground.data }, { on := 42, ground := Ground.data }], guard := none }) (v := ?_) rfl (by kernel_rfl) (by kernel_rfl) (by kernel_rfl) (fun c a w h => hp c a _ _ w h) (Or.inl ⟨by rfl, ?_⟩) (by assumption) ?_
  rotate_left 1
  · (intro W hSW; unfold HeadT at hSW; first | (go_simp; done) | (go_simp; with_reducible rfl))
  try simp only [Act.put, List.setIfInBounds_toArray, List.set_cons_zero, List.set_cons_succ]
  refine wpAnyH_take (i := 44) (oi := { dst := some 128, op := Op.move (Operand.tmp 127), type := 4, pos := "law.go:35", after := #[{ on := 43, ground := Ground.data }, { on := 42, ground := Ground.chain }], guard := none }) (v := ?_) rfl (by kernel_rfl) (by kernel_rfl) (by kernel_rfl) (fun c a w h => hp c a _ _ w h) (Or.inl ⟨by rfl, ?_⟩) (by assumption) ?_
  rotate_left 1
  · (intro W hSW; unfold HeadT at hSW; first | (go_simp; done) | (go_simp; with_reducible rfl))
  try simp only [Act.put, List.setIfInBounds_toArray, List.set_cons_zero, List.set_cons_succ]
  rw [show ((((((((((lst9 36).setIfInBounds 36 true).setIfInBounds 37 true).setIfInBounds 38 true).setIfInBounds 39 true).setIfInBounds 40 true).setIfInBounds 41 true).setIfInBounds 42 true).setIfInBounds 43 true).setIfInBounds 44 true) = (lst9 45) from by kernel_rfl]
  exact hnext _ _ _ _ _ _ _ _ _ _ _ _ _ _ _ _ _ _ _ _ _ _ _ _ _ _ _ _ _ _ _ _ _ _ _ _ _ _ _ _ _ _ _ _ _ _ _ _ _ _ _ _ _ _ _ _ _ _ _ _ _ _ _ _ _ _ _ _ _ _ _ _ _ _ _ _ _ _ _ _ _ _ _ _ _ _ _ _ _ _ _ _ _ _ _ _ _ _ _ _ _ _ _ _ _ _ _ _ _ _ _ _ _ _ _ _ _ _ _ _ _ _ _ _ _ _ _ _ _ _ _ _ _ _ _ _ _ _ _ _ _ _ _ _ _ _ _ _ _ _ _ _ _ _ _ hHeld

set_option maxRecDepth 100000 in
set_option maxHeartbeats 8000000 in
theorem head9Seg6 {Q : Exit → Act → World → Prop} (hp : ∀ c a d v w, Q (.panic c) (Act.put a d v) w → Q (.panic c) a w) {V : World} {g1 g2 g3 xb mb mo : Nat} {q1 q2 q3 q4 ad ay ma1 ma2 : Option Addr} {cd cy c4 mc mc1 mc2 : Nat} (c51 : ∀ (z : Option Addr) (u : Nat) (W' : World), V.grownBy W' none → IntsW W' z u [5] → Calls Try.prog 59 #[.agg #[.int .i64 2, .slice ma2 1 mc2], .agg #[.int .i64 2, .slice z 1 u]] W' (fun e w' => e = .returned (.bool true) ∧ W'.grownBy w' none)) (hnext : ∀ (t0 t6 t9 t11 t14 t15 t16 t17 t18 t19 t20 t21 t22 t23 t24 t25 t26 t27 t28 t29 t30 t31 t32 t33 t34 t35 t36 t37 t38 t39 t40 t41 t42 t43 t44 t45 t46 t47 t48 t49 t50 t51 t52 t53 t54 t55 t56 t57 t58 t59 t60 t61 t62 t63 t64 t65 t66 t67 t68 t69 t70 t71 t72 t73 t74 t75 t76 t77 t78 t79 t80 t81 t82 t83 t84 t85 t86 t87 t88 t89 t90 t91 t92 t93 t94 t95 t96 t97 t98 t99 t100 t101 t102 t103 t104 t105 t106 t107 t108 t109 t110 t111 t112 t113 t114 t115 t116 t117 t118 t119 t120 t121 t122 t123 t124 t125 t126 t127 t128 t129 t130 t131 t132 t133 t134 t135 t136 t138 t139 t140 t141 t142 t143 t144 t145 t146 t147 t148 t149 t150 t151 t152 t153 t154 t155 t156 t157 t158 t159 t160 t161 t162 t163 t164 : Value) (w' : World), (HeadT V g1 g2 g3 xb mb mo q1 q2 q3 q4 ad ay ma1 ma2 cd cy c4 mc mc1 mc2) w' → wpAnyH Try.prog .any headOps9 Q (HeadT V g1 g2 g3 xb mb mo q1 q2 q3 q4 ad ay ma1 ma2 cd cy c4 mc mc1 mc2) 28 (lst9 54) ⟨#[t0, .pointer (some ⟨g1, 0, none⟩), .pointer (some ⟨g2, 0, none⟩), .slice ad 2 cd, .slice (some ⟨xb, 0, none⟩) 2 2, .slice ay 2 cy, t6, .slice (some ⟨mb, mo, none⟩) 2 mc, .int .i64 0, t9, .int .i64 100, t11, .int .i64 1, .pointer (some ⟨g3, 0, none⟩), t14, t15, t16, t17, t18, t19, t20, t21, t22, t23, t24, t25, t26, t27, t28, t29, t30, t31, t32, t33, t34, t35, t36, t37, t38, t39, t40, t41, t42, t43, t44, t45, t46, t47, t48, t49, t50, t51, t52, t53, t54, t55, t56, t57, t58, t59, t60, t61, t62, t63, t64, t65, t66, t67, t68, t69, t70, t71, t72, t73, t74, t75, t76, t77, t78, t79, t80, t81, t82, t83, t84, t85, t86, t87, t88, t89, t90, t91, t92, t93, t94, t95, t96, t97, t98, t99, t100, t101, t102, t103, t104, t105, t106, t107, t108, t109, t110, t111, t112, t113, t114, t115, t116, t117, t118, t119, t120, t121, t122, t123, t124, t125, t126, t127, t128, t129, t130, t131, t132, t133, t134, t135, t136, .bool true, t138, t139, t140, t141, t142, t143, t144, t145, t146, t147, t148, t149, t150, t151, t152, t153, t154, t155, t156, t157, t158, t159, t160, t161, t162, t163, t164], []⟩ w')
    (t0 t6 t9 t11 t14 t15 t16 t17 t18 t19 t20 t21 t22 t23 t24 t25 t26 t27 t28 t29 t30 t31 t32 t33 t34 t35 t36 t37 t38 t39 t40 t41 t42 t43 t44 t45 t46 t47 t48 t49 t50 t51 t52 t53 t54 t55 t56 t57 t58 t59 t60 t61 t62 t63 t64 t65 t66 t67 t68 t69 t70 t71 t72 t73 t74 t75 t76 t77 t78 t79 t80 t81 t82 t83 t84 t85 t86 t87 t88 t89 t90 t91 t92 t93 t94 t95 t96 t97 t98 t99 t100 t101 t102 t103 t104 t105 t106 t107 t108 t109 t110 t111 t112 t113 t114 t115 t116 t117 t118 t119 t120 t121 t122 t123 t124 t125 t126 t127 t129 t130 t131 t132 t133 t134 t135 t136 t137 t138 t139 t140 t141 t142 t143 t144 t145 t146 t147 t148 t149 t150 t151 t152 t153 t154 t155 t156 t157 t158 t159 t160 t161 t162 t163 t164 : Value) (w : World) (hHeld : (HeadT V g1 g2 g3 xb mb mo q1 q2 q3 q4 ad ay ma1 ma2 cd cy c4 mc mc1 mc2) w) : wpAnyH Try.prog .any headOps9 Q (HeadT V g1 g2 g3 xb mb mo q1 q2 q3 q4 ad ay ma1 ma2 cd cy c4 mc mc1 mc2) 37 (lst9 45) ⟨#[t0, .pointer (some ⟨g1, 0, none⟩), .pointer (some ⟨g2, 0, none⟩), .slice ad 2 cd, .slice (some ⟨xb, 0, none⟩) 2 2, .slice ay 2 cy, t6, .slice (some ⟨mb, mo, none⟩) 2 mc, .int .i64 0, t9, .int .i64 100, t11, .int .i64 1, .pointer (some ⟨g3, 0, none⟩), t14, t15, t16, t17, t18, t19, t20, t21, t22, t23, t24, t25, t26, t27, t28, t29, t30, t31, t32, t33, t34, t35, t36, t37, t38, t39, t40, t41, t42, t43, t44, t45, t46, t47, t48, t49, t50, t51, t52, t53, t54, t55, t56, t57, t58, t59, t60, t61, t62, t63, t64, t65, t66, t67, t68, t69, t70, t71, t72, t73, t74, t75, t76, t77, t78, t79, t80, t81, t82, t83, t84, t85, t86, t87, t88, t89, t90, t91, t92, t93, t94, t95, t96, t97, t98, t99, t100, t101, t102, t103, t104, t105, t106, t107, t108, t109, t110, t111, t112, t113, t114, t115, t116, t117, t118, t119, t120, t121, t122, t123, t124, t125, t126, t127, .bool true, t129, t130, t131, t132, t133, t134, t135, t136, t137, t138, t139, t140, t141, t142, t143, t144, t145, t146, t147, t148, t149, t150, t151, t152, t153, t154, t155, t156, t157, t158, t159, t160, t161, t162, t163, t164], []⟩ w := by
  have h0 := hHeld
  have HS := Lib.hid (fun (W : World) (g : w.grownBy W none) => headT_grown h0 g)
  have hg0 := grown_refl w none
  refine wpAnyH_take (i := 45) (oi := { dst := some 129, op := Op.move (Operand.tmp 7), type := 57, pos := "law.go:35", after := #[{ on := 44, ground := Ground.guard }], guard := some (44, true) }) (v := ?_) rfl (by kernel_rfl) (by kernel_rfl) (by kernel_rfl) (fun c a w h => hp c a _ _ w h) (Or.inl ⟨by rfl, ?_⟩) (by assumption) ?_
  rotate_left 1
  · (intro W hSW; unfold HeadT at hSW; first | (go_simp; done) | (go_simp; with_reducible rfl))
  try simp only [Act.put, List.setIfInBounds_toArray, List.set_cons_zero, List.set_cons_succ]
  refine wpAnyH_take (i := 46) (oi := { dst := some 130, op := Op.indexAddr 57 (Operand.tmp 129) (Operand.const (Value.int IntKind.i64 1)), type := 0, pos := "law.go:35", after := #[{ on := 45, ground := Ground.data }, { on := 44, ground := Ground.guard }], guard := some (44, true) }) (v := ?_) rfl (by kernel_rfl) (by kernel_rfl) (by kernel_rfl) (fun c a w h => hp c a _ _ w h) (Or.inl ⟨by rfl, ?_⟩) (by assumption) ?_
  rotate_left 1
  · (intro W hSW; unfold HeadT at hSW; first | (go_simp; done) | (go_simp; with_reducible rfl))
  try simp only [Act.put, List.setIfInBounds_toArray, List.set_cons_zero, List.set_cons_succ]
  refine wpAnyH_take (i := 47) (oi := { dst := some 131, op := Op.fieldAddr 74 (Operand.tmp 130) 1, type := 0, pos := "law.go:35", after := #[{ on := 46, ground := Ground.data }, { on := 44, ground := Ground.guard }], guard := some (44, true) }) (v := ?_) rfl (by kernel_rfl) (by kernel_rfl) (by kernel_rfl) (fun c a w h => hp c a _ _ w h) (Or.inl ⟨by rfl, ?_⟩) (by assumption) ?_
  rotate_left 1
  · (intro W hSW; unfold HeadT at hSW; first | (go_simp; done) | (go_simp; with_reducible rfl))
  try simp only [Act.put, List.setIfInBounds_toArray, List.set_cons_zero, List.set_cons_succ]
  refine wpAnyH_take (i := 48) (oi := { dst := some 132, op := Op.load 53 (Operand.tmp 131), type := 53, pos := "law.go:35", after := #[{ on := 47, ground := Ground.data }, { on := 44, ground := Ground.guard }], guard := some (44, true) }) (v := ?_) rfl (by kernel_rfl) (by kernel_rfl) (by kernel_rfl) (fun c a w h => hp c a _ _ w h) (Or.inl ⟨by rfl, ?_⟩) (by assumption) ?_
  rotate_left 1
  · (intro W hSW; unfold HeadT at hSW; first | (go_simp; done) | (go_simp; with_reducible rfl))
  try simp only [Act.put, List.setIfInBounds_toArray, List.set_cons_zero, List.set_cons_succ]
  refine wpAnyH_ready (rs := [49]) (by kernel_rfl) (by simp) ?_
  refine (AllReadyH.cons (o := { dst := some 133, op := Op.buildSlice 28 1 #[(0, Operand.const (Value.int IntKind.i64 5))], type := 28, pos := "law.go:35", after := #[{ on := 44, ground := Ground.guard }], guard := some (44, true) }) rfl (fun K hK => ?_) AllReadyH.nil)
  rw [if_pos (by rfl)]
  go_simp
  have hga1 := World.grownBy_alloc w (.cells #[.int .i64 5] 3) none
  have hr49 : IntsW (World.alloc w (.cells #[.int .i64 5] 3)) (some ⟨w.heap.size, 0, none⟩) 1 [5] := ints_new9 w [5]
  obtain ⟨WA1, hWA1⟩ : ∃ W, World.alloc w (.cells #[.int .i64 5] 3) = W := ⟨_, rfl⟩
  rw [hWA1] at hga1 hr49  ⊢
  clear hWA1
  have hg1 := World.grownBy.trans hg0 hga1
  refine hK.out _ _ (HS.out _ hg1) (fun hHeld => ?_)
  clear hK K
  try simp only [Act.put, List.setIfInBounds_toArray, List.set_cons_zero, List.set_cons_succ]
  refine wpAnyH_take (i := 50) (oi := { dst := some 134, op := Op.build 53 #[(0, Operand.const (Value.int IntKind.i64 2)), (1, Operand.tmp 133)], type := 53, pos := "law.go:35", after := #[{ on := 49, ground := Ground.data }, { on := 44, ground := Ground.guard }], guard := some (44, true) }) (v := ?_) rfl (by kernel_rfl) (by kernel_rfl) (by kernel_rfl) (fun c a w h => hp c a _ _ w h) (Or.inl ⟨by rfl, ?_⟩) (by assumption) ?_
  rotate_left 1
  · (intro W hSW; unfold HeadT at hSW; first | (go_simp; done) | (go_simp; with_reducible rfl))
  try simp only [Act.put, List.setIfInBounds_toArray, List.set_cons_zero, List.set_cons_succ]
  refine wpAnyH_ready (rs := [51]) (by kernel_rfl) (by simp) ?_
  refine (AllReadyH.cons (o := { dst := some 135, op := Op.call { callee := Callee.value (Operand.func 59), args := #[Operand.tmp 132, Operand.tmp 134], argTypes := #[53, 53] }, type := 4, pos := "law.go:35", after := #[{ on := 48, ground := Ground.data }, { on := 50, ground := Ground.data }, { on := 44, ground := Ground.chain }, { on := 44, ground := Ground.guard }], guard := some (44, true) }) rfl (fun K hK => ?_) AllReadyH.nil)
  rw [if_pos (by rfl)]
  go_simp
  go_at_call 59
  refine (c51 _ _ _ (h0.1.trans hg1) hr49).mono ?_
  rintro e wc2 ⟨rfl, gc2⟩
  replace hr49 := hr49.grown gc2
  go_wp2_with fail
  have hg2 := World.grownBy.trans hg1 gc2
  refine hK.out _ _ (HS.out _ hg2) (fun hHeld => ?_)
  clear hK K
  try simp only [Act.put, List.setIfInBounds_toArray, List.set_cons_zero, List.set_cons_succ]
  refine wpAnyH_take (i := 52) (oi := { dst := some 136, op := Op.pick (Operand.tmp 128) (Operand.tmp 135) (Operand.const (Value.bool false)), type := 4, pos := "law.go:35", after := #[{ on := 44, ground := Ground.data }, { on := 51, ground := Ground.data }], guard := none }) (v := ?_) rfl (by kernel_rfl) (by kernel_rfl) (by kernel_rfl) (fun c a w h => hp c a _ _ w h) (Or.inl ⟨by rfl, ?_⟩) (by assumption) ?_
  rotate_left 1
  · (intro W hSW; unfold HeadT at hSW; first | (go_simp; done) | (go_simp; with_reducible rfl))
  try simp only [Act.put, List.setIfInBounds_toArray, List.set_cons_zero, List.set_cons_succ]
  refine wpAnyH_take (i := 53) (oi := { dst := some 137, op := Op.move (Operand.tmp 136), type := 4, pos := "law.go:35", after := #[{ on := 52, ground := Ground.data }, { on := 51, ground := Ground.chain }], guard := none }) (v := ?_) rfl (by kernel_rfl) (by kernel_rfl) (by kernel_rfl) (fun c a w h => hp c a _ _ w h) (Or.inl ⟨by rfl, ?_⟩) (by assumption) ?_
  rotate_left 1
  · (intro W hSW; unfold HeadT at hSW; first | (go_simp; done) | (go_simp; with_reducible rfl))
  try simp only [Act.put, List.setIfInBounds_toArray, List.set_cons_zero, List.set_cons_succ]
  rw [show ((((((((((lst9 45).setIfInBounds 45 true).setIfInBounds 46 true).setIfInBounds 47 true).setIfInBounds 48 true).setIfInBounds 49 true).setIfInBounds 50 true).setIfInBounds 51 true).setIfInBounds 52 true).setIfInBounds 53 true) = (lst9 54) from by kernel_rfl]
  exact hnext _ _ _ _ _ _ _ _ _ _ _ _ _ _ _ _ _ _ _ _ _ _ _ _ _ _ _ _ _ _ _ _ _ _ _ _ _ _ _ _ _ _ _ _ _ _ _ _ _ _ _ _ _ _ _ _ _ _ _ _ _ _ _ _ _ _ _ _ _ _ _ _ _ _ _ _ _ _ _ _ _ _ _ _ _ _ _ _ _ _ _ _ _ _ _ _ _ _ _ _ _ _ _ _ _ _ _ _ _ _ _ _ _ _ _ _ _ _ _ _ _ _ _ _ _ _ _ _ _ _ _ _ _ _ _ _ _ _ _ _ _ _ _ _ _ _ _ _ _ _ _ _ _ _ _ hHeld

set_option maxRecDepth 100000 in
set_option maxHeartbeats 8000000 in
theorem head9Seg7 {Q : Exit → Act → World → Prop} (hp : ∀ c a d v w, Q (.panic c) (Act.put a d v) w → Q (.panic c) a w) {V : World} {g1 g2 g3 xb mb mo : Nat} {q1 q2 q3 q4 ad ay ma1 ma2 : Option Addr} {cd cy c4 mc mc1 mc2 : Nat}  (hnext : ∀ (t0 t6 t9 t11 t14 t15 t16 t17 t18 t19 t20 t21 t22 t23 t24 t25 t26 t27 t28 t29 t30 t31 t32 t33 t34 t35 t36 t37 t38 t39 t40 t41 t42 t43 t44 t45 t46 t47 t48 t49 t50 t51 t52 t53 t54 t55 t56 t57 t58 t59 t60 t61 t62 t63 t64 t65 t66 t67 t68 t69 t70 t71 t72 t73 t74 t75 t76 t77 t78 t79 t80 t81 t82 t83 t84 t85 t86 t87 t88 t89 t90 t91 t92 t93 t94 t95 t96 t97 t98 t99 t100 t101 t102 t103 t104 t105 t106 t107 t108 t109 t110 t111 t112 t113 t114 t115 t116 t117 t118 t119 t120 t121 t122 t123 t124 t125 t126 t127 t128 t129 t130 t131 t132 t133 t134 t135 t136 t137 t138 t139 t140 t142 t143 t144 t145 t146 t147 t148 t149 t150 t151 t152 t153 t154 t155 t156 t157 t158 t159 t160 t161 t162 t163 t164 : Value) (w' : World), (HeadT V g1 g2 g3 xb mb mo q1 q2 q3 q4 ad ay ma1 ma2 cd cy c4 mc mc1 mc2) w' → wpAnyH Try.prog .any headOps9 Q (HeadT V g1 g2 g3 xb mb mo q1 q2 q3 q4 ad ay ma1 ma2 cd cy c4 mc mc1 mc2) 24 (lst9 58) ⟨#[t0, .pointer (some ⟨g1, 0, none⟩), .pointer (some ⟨g2, 0, none⟩), .slice ad 2 cd, .slice (some ⟨xb, 0, none⟩) 2 2, .slice ay 2 cy, t6, .slice (some ⟨mb, mo, none⟩) 2 mc, .int .i64 0, t9, .int .i64 100, t11, .int .i64 1, .pointer (some ⟨g3, 0, none⟩), t14, t15, t16, t17, t18, t19, t20, t21, t22, t23, t24, t25, t26, t27, t28, t29, t30, t31, t32, t33, t34, t35, t36, t37, t38, t39, t40, t41, t42, t43, t44, t45, t46, t47, t48, t49, t50, t51, t52, t53, t54, t55, t56, t57, t58, t59, t60, t61, t62, t63, t64, t65, t66, t67, t68, t69, t70, t71, t72, t73, t74, t75, t76, t77, t78, t79, t80, t81, t82, t83, t84, t85, t86, t87, t88, t89, t90, t91, t92, t93, t94, t95, t96, t97, t98, t99, t100, t101, t102, t103, t104, t105, t106, t107, t108, t109, t110, t111, t112, t113, t114, t115, t116, t117, t118, t119, t120, t121, t122, t123, t124, t125, t126, t127, t128, t129, t130, t131, t132, t133, t134, t135, t136, t137, t138, t139, t140, .bool true, t142, t143, t144, t145, t146, t147, t148, t149, t150, t151, t152, t153, t154, t155, t156, t157, t158, t159, t160, t161, t162, t163, t164], []⟩ w')
    (t0 t6 t9 t11 t14 t15 t16 t17 t18 t19 t20 t21 t22 t23 t24 t25 t26 t27 t28 t29 t30 t31 t32 t33 t34 t35 t36 t37 t38 t39 t40 t41 t42 t43 t44 t45 t46 t47 t48 t49 t50 t51 t52 t53 t54 t55 t56 t57 t58 t59 t60 t61 t62 t63 t64 t65 t66 t67 t68 t69 t70 t71 t72 t73 t74 t75 t76 t77 t78 t79 t80 t81 t82 t83 t84 t85 t86 t87 t88 t89 t90 t91 t92 t93 t94 t95 t96 t97 t98 t99 t100 t101 t102 t103 t104 t105 t106 t107 t108 t109 t110 t111 t112 t113 t114 t115 t116 t117 t118 t119 t120 t121 t122 t123 t124 t125 t126 t127 t128 t129 t130 t131 t132 t133 t134 t135 t136 t138 t139 t140 t141 t142 t143 t144 t145 t146 t147 t148 t149 t150 t151 t152 t153 t154 t155 t156 t157 t158 t159 t160 t161 t162 t163 t164 : Value) (w : World) (hHeld : (HeadT V g1 g2 g3 xb mb mo q1 q2 q3 q4 ad ay ma1 ma2 cd cy c4 mc mc1 mc2) w) : wpAnyH Try.prog .any headOps9 Q (HeadT V g1 g2 g3 xb mb mo q1 q2 q3 q4 ad ay ma1 ma2 cd cy c4 mc mc1 mc2) 28 (lst9 54) ⟨#[t0, .pointer (some ⟨g1, 0, none⟩), .pointer (some ⟨g2, 0, none⟩), .slice ad 2 cd, .slice (some ⟨xb, 0, none⟩) 2 2, .slice ay 2 cy, t6, .slice (some ⟨mb, mo, none⟩) 2 mc, .int .i64 0, t9, .int .i64 100, t11, .int .i64 1, .pointer (some ⟨g3, 0, none⟩), t14, t15, t16, t17, t18, t19, t20, t21, t22, t23, t24, t25, t26, t27, t28, t29, t30, t31, t32, t33, t34, t35, t36, t37, t38, t39, t40, t41, t42, t43, t44, t45, t46, t47, t48, t49, t50, t51, t52, t53, t54, t55, t56, t57, t58, t59, t60, t61, t62, t63, t64, t65, t66, t67, t68, t69, t70, t71, t72, t73, t74, t75, t76, t77, t78, t79, t80, t81, t82, t83, t84, t85, t86, t87, t88, t89, t90, t91, t92, t93, t94, t95, t96, t97, t98, t99, t100, t101, t102, t103, t104, t105, t106, t107, t108, t109, t110, t111, t112, t113, t114, t115, t116, t117, t118, t119, t120, t121, t122, t123, t124, t125, t126, t127, t128, t129, t130, t131, t132, t133, t134, t135, t136, .bool true, t138, t139, t140, t141, t142, t143, t144, t145, t146, t147, t148, t149, t150, t151, t152, t153, t154, t155, t156, t157, t158, t159, t160, t161, t162, t163, t164], []⟩ w := by
  have h0 := hHeld
  have HS := Lib.hid (fun (W : World) (g : w.grownBy W none) => headT_grown h0 g)
  have hg0 := grown_refl w none
  refine wpAnyH_take (i := 54) (oi := { dst := some 138, op := Op.move (Operand.tmp 10), type := 63, pos := "law.go:35", after := #[{ on := 53, ground := Ground.guard }], guard := some (53, true) }) (v := ?_) rfl (by kernel_rfl) (by kernel_rfl) (by kernel_rfl) (fun c a w h => hp c a _ _ w h) (Or.inl ⟨by rfl, ?_⟩) (by assumption) ?_
  rotate_left 1
  · (intro W hSW; unfold HeadT at hSW; first | (go_simp; done) | (go_simp; with_reducible rfl))
  try simp only [Act.put, List.setIfInBounds_toArray, List.set_cons_zero, List.set_cons_succ]
  refine wpAnyH_take (i := 55) (oi := { dst := some 139, op := Op.binOp BinOp.eql 63 (Operand.tmp 138) (Operand.const (Value.int IntKind.i64 100)) 63, type := 4, pos := "law.go:35", after := #[{ on := 54, ground := Ground.data }, { on := 53, ground := Ground.guard }], guard := some (53, true) }) (v := ?_) rfl (by kernel_rfl) (by kernel_rfl) (by kernel_rfl) (fun c a w h => hp c a _ _ w h) (Or.inl ⟨by rfl, ?_⟩) (by assumption) ?_
  rotate_left 1
  · (intro W hSW; unfold HeadT at hSW; first | (go_simp; done) | (go_simp; with_reducible rfl))
  try simp only [Act.put, List.setIfInBounds_toArray, List.set_cons_zero, List.set_cons_succ]
  refine wpAnyH_take (i := 56) (oi := { dst := some 140, op := Op.pick (Operand.tmp 137) (Operand.tmp 139) (Operand.const (Value.bool false)), type := 4, pos := "law.go:35", after := #[{ on := 53, ground := Ground.data }, { on := 55, ground := Ground.data }], guard := none }) (v := ?_) rfl (by kernel_rfl) (by kernel_rfl) (by kernel_rfl) (fun c a w h => hp c a _ _ w h) (Or.inl ⟨by rfl, ?_⟩) (by assumption) ?_
  rotate_left 1
  · (intro W hSW; unfold HeadT at hSW; first | (go_simp; done) | (go_simp; with_reducible rfl))
  try simp only [Act.put, List.setIfInBounds_toArray, List.set_cons_zero, List.set_cons_succ]
  refine wpAnyH_take (i := 57) (oi := { dst := some 141, op := Op.move (Operand.tmp 140), type := 4, pos := "law.go:35", after := #[{ on := 56, ground := Ground.data }, { on := 53, ground := Ground.chain }], guard := none }) (v := ?_) rfl (by kernel_rfl) (by kernel_rfl) (by kernel_rfl) (fun c a w h => hp c a _ _ w h) (Or.inl ⟨by rfl, ?_⟩) (by assumption) ?_
  rotate_left 1
  · (intro W hSW; unfold HeadT at hSW; first | (go_simp; done) | (go_simp; with_reducible rfl))
  try simp only [Act.put, List.setIfInBounds_toArray, List.set_cons_zero, List.set_cons_succ]
  rw [show (((((lst9 54).setIfInBounds 54 true).setIfInBounds 55 true).setIfInBounds 56 true).setIfInBounds 57 true) = (lst9 58) from by kernel_rfl]
  exact hnext _ _ _ _ _ _ _ _ _ _ _ _ _ _ _ _ _ _ _ _ _ _ _ _ _ _ _ _ _ _ _ _ _ _ _ _ _ _ _ _ _ _ _ _ _ _ _ _ _ _ _ _ _ _ _ _ _ _ _ _ _ _ _ _ _ _ _ _ _ _ _ _ _ _ _ _ _ _ _ _ _ _ _ _ _ _ _ _ _ _ _ _ _ _ _ _ _ _ _ _ _ _ _ _ _ _ _ _ _ _ _ _ _ _ _ _ _ _ _ _ _ _ _ _ _ _ _ _ _ _ _ _ _ _ _ _ _ _ _ _ _ _ _ _ _ _ _ _ _ _ _ _ _ _ _ hHeld

set_option maxRecDepth 100000 in
set_option maxHeartbeats 8000000 in
theorem head9Seg8 {Q : Exit → Act → World → Prop} (hp : ∀ c a d v w, Q (.panic c) (Act.put a d v) w → Q (.panic c) a w) {V : World} {g1 g2 g3 xb mb mo : Nat} {q1 q2 q3 q4 ad ay ma1 ma2 : Option Addr} {cd cy c4 mc mc1 mc2 : Nat}  (hnext : ∀ (t0 t6 t9 t11 t14 t15 t16 t17 t18 t19 t20 t21 t22 t23 t24 t25 t26 t27 t28 t29 t30 t31 t32 t33 t34 t35 t36 t37 t38 t39 t40 t41 t42 t43 t44 t45 t46 t47 t48 t49 t50 t51 t52 t53 t54 t55 t56 t57 t58 t59 t60 t61 t62 t63 t64 t65 t66 t67 t68 t69 t70 t71 t72 t73 t74 t75 t76 t77 t78 t79 t80 t81 t82 t83 t84 t85 t86 t87 t88 t89 t90 t91 t92 t93 t94 t95 t96 t97 t98 t99 t100 t101 t102 t103 t104 t105 t106 t107 t108 t109 t110 t111 t112 t113 t114 t115 t116 t117 t118 t119 t120 t121 t122 t123 t124 t125 t126 t127 t128 t129 t130 t131 t132 t133 t134 t135 t136 t137 t138 t139 t140 t141 t142 t143 t144 t146 t147 t148 t149 t150 t151 t152 t153 t154 t155 t156 t157 t158 t159 t160 t161 t162 t163 t164 : Value) (w' : World), (HeadT V g1 g2 g3 xb mb mo q1 q2 q3 q4 ad ay ma1 ma2 cd cy c4 mc mc1 mc2) w' → wpAnyH Try.prog .any headOps9 Q (HeadT V g1 g2 g3 xb mb mo q1 q2 q3 q4 ad ay ma1 ma2 cd cy c4 mc mc1 mc2) 20 (lst9 62) ⟨#[t0, .pointer (some ⟨g1, 0, none⟩), .pointer (some ⟨g2, 0, none⟩), .slice ad 2 cd, .slice (some ⟨xb, 0, none⟩) 2 2, .slice ay 2 cy, t6, .slice (some ⟨mb, mo, none⟩) 2 mc, .int .i64 0, t9, .int .i64 100, t11, .int .i64 1, .pointer (some ⟨g3, 0, none⟩), t14, t15, t16, t17, t18, t19, t20, t21, t22, t23, t24, t25, t26, t27, t28, t29, t30, t31, t32, t33, t34, t35, t36, t37, t38, t39, t40, t41, t42, t43, t44, t45, t46, t47, t48, t49, t50, t51, t52, t53, t54, t55, t56, t57, t58, t59, t60, t61, t62, t63, t64, t65, t66, t67, t68, t69, t70, t71, t72, t73, t74, t75, t76, t77, t78, t79, t80, t81, t82, t83, t84, t85, t86, t87, t88, t89, t90, t91, t92, t93, t94, t95, t96, t97, t98, t99, t100, t101, t102, t103, t104, t105, t106, t107, t108, t109, t110, t111, t112, t113, t114, t115, t116, t117, t118, t119, t120, t121, t122, t123, t124, t125, t126, t127, t128, t129, t130, t131, t132, t133, t134, t135, t136, t137, t138, t139, t140, t141, t142, t143, t144, .bool true, t146, t147, t148, t149, t150, t151, t152, t153, t154, t155, t156, t157, t158, t159, t160, t161, t162, t163, t164], []⟩ w')
    (t0 t6 t9 t11 t14 t15 t16 t17 t18 t19 t20 t21 t22 t23 t24 t25 t26 t27 t28 t29 t30 t31 t32 t33 t34 t35 t36 t37 t38 t39 t40 t41 t42 t43 t44 t45 t46 t47 t48 t49 t50 t51 t52 t53 t54 t55 t56 t57 t58 t59 t60 t61 t62 t63 t64 t65 t66 t67 t68 t69 t70 t71 t72 t73 t74 t75 t76 t77 t78 t79 t80 t81 t82 t83 t84 t85 t86 t87 t88 t89 t90 t91 t92 t93 t94 t95 t96 t97 t98 t99 t100 t101 t102 t103 t104 t105 t106 t107 t108 t109 t110 t111 t112 t113 t114 t115 t116 t117 t118 t119 t120 t121 t122 t123 t124 t125 t126 t127 t128 t129 t130 t131 t132 t133 t134 t135 t136 t137 t138 t139 t140 t142 t143 t144 t145 t146 t147 t148 t149 t150 t151 t152 t153 t154 t155 t156 t157 t158 t159 t160 t161 t162 t163 t164 : Value) (w : World) (hHeld : (HeadT V g1 g2 g3 xb mb mo q1 q2 q3 q4 ad ay ma1 ma2 cd cy c4 mc mc1 mc2) w) : wpAnyH Try.prog .any headOps9 Q (HeadT V g1 g2 g3 xb mb mo q1 q2 q3 q4 ad ay ma1 ma2 cd cy c4 mc mc1 mc2) 24 (lst9 58) ⟨#[t0, .pointer (some ⟨g1, 0, none⟩), .pointer (some ⟨g2, 0, none⟩), .slice ad 2 cd, .slice (some ⟨xb, 0, none⟩) 2 2, .slice ay 2 cy, t6, .slice (some ⟨mb, mo, none⟩) 2 mc, .int .i64 0, t9, .int .i64 100, t11, .int .i64 1, .pointer (some ⟨g3, 0, none⟩), t14, t15, t16, t17, t18, t19, t20, t21, t22, t23, t24, t25, t26, t27, t28, t29, t30, t31, t32, t33, t34, t35, t36, t37, t38, t39, t40, t41, t42, t43, t44, t45, t46, t47, t48, t49, t50, t51, t52, t53, t54, t55, t56, t57, t58, t59, t60, t61, t62, t63, t64, t65, t66, t67, t68, t69, t70, t71, t72, t73, t74, t75, t76, t77, t78, t79, t80, t81, t82, t83, t84, t85, t86, t87, t88, t89, t90, t91, t92, t93, t94, t95, t96, t97, t98, t99, t100, t101, t102, t103, t104, t105, t106, t107, t108, t109, t110, t111, t112, t113, t114, t115, t116, t117, t118, t119, t120, t121, t122, t123, t124, t125, t126, t127, t128, t129, t130, t131, t132, t133, t134, t135, t136, t137, t138, t139, t140, .bool true, t142, t143, t144, t145, t146, t147, t148, t149, t150, t151, t152, t153, t154, t155, t156, t157, t158, t159, t160, t161, t162, t163, t164], []⟩ w := by
  have h0 := hHeld
  have HS := Lib.hid (fun (W : World) (g : w.grownBy W none) => headT_grown h0 g)
  have hg0 := grown_refl w none
  refine wpAnyH_take (i := 58) (oi := { dst := some 142, op := Op.move (Operand.tmp 12), type := 63, pos := "law.go:35", after := #[{ on := 57, ground := Ground.guard }], guard := some (57, true) }) (v := ?_) rfl (by kernel_rfl) (by kernel_rfl) (by kernel_rfl) (fun c a w h => hp c a _ _ w h) (Or.inl ⟨by rfl, ?_⟩) (by assumption) ?_
  rotate_left 1
  · (intro W hSW; unfold HeadT at hSW; first | (go_simp; done) | (go_simp; with_reducible rfl))
  try simp only [Act.put, List.setIfInBounds_toArray, List.set_cons_zero, List.set_cons_succ]
  refine wpAnyH_take (i := 59) (oi := { dst := some 143, op := Op.binOp BinOp.eql 63 (Operand.tmp 142) (Operand.const (Value.int IntKind.i64 1)) 63, type := 4, pos := "law.go:35", after := #[{ on := 58, ground := Ground.data }, { on := 57, ground := Ground.guard }], guard := some (57, true) }) (v := ?_) rfl (by kernel_rfl) (by kernel_rfl) (by kernel_rfl) (fun c a w h => hp c a _ _ w h) (Or.inl ⟨by rfl, ?_⟩) (by assumption) ?_
  rotate_left 1
  · (intro W hSW; unfold HeadT at hSW; first | (go_simp; done) | (go_simp; with_reducible rfl))
  try simp only [Act.put, List.setIfInBounds_toArray, List.set_cons_zero, List.set_cons_succ]
  refine wpAnyH_take (i := 60) (oi := { dst := some 144, op := Op.pick (Operand.tmp 141) (Operand.tmp 143) (Operand.const (Value.bool false)), type := 4, pos := "law.go:35", after := #[{ on := 57, ground := Ground.data }, { on := 59, ground := Ground.data }], guard := none }) (v := ?_) rfl (by kernel_rfl) (by kernel_rfl) (by kernel_rfl) (fun c a w h => hp c a _ _ w h) (Or.inl ⟨by rfl, ?_⟩) (by assumption) ?_
  rotate_left 1
  · (intro W hSW; unfold HeadT at hSW; first | (go_simp; done) | (go_simp; with_reducible rfl))
  try simp only [Act.put, List.setIfInBounds_toArray, List.set_cons_zero, List.set_cons_succ]
  refine wpAnyH_take (i := 61) (oi := { dst := some 145, op := Op.move (Operand.tmp 144), type := 4, pos := "law.go:35", after := #[{ on := 60, ground := Ground.data }, { on := 57, ground := Ground.chain }], guard := none }) (v := ?_) rfl (by kernel_rfl) (by kernel_rfl) (by kernel_rfl) (fun c a w h => hp c a _ _ w h) (Or.inl ⟨by rfl, ?_⟩) (by assumption) ?_
  rotate_left 1
  · (intro W hSW; unfold HeadT at hSW; first | (go_simp; done) | (go_simp; with_reducible rfl))
  try simp only [Act.put, List.setIfInBounds_toArray, List.set_cons_zero, List.set_cons_succ]
  rw [show (((((lst9 58).setIfInBounds 58 true).setIfInBounds 59 true).setIfInBounds 60 true).setIfInBounds 61 true) = (lst9 62) from by kernel_rfl]
  exact hnext _ _ _ _ _ _ _ _ _ _ _ _ _ _ _ _ _ _ _ _ _ _ _ _ _ _ _ _ _ _ _ _ _ _ _ _ _ _ _ _ _ _ _ _ _ _ _ _ _ _ _ _ _ _ _ _ _ _ _ _ _ _ _ _ _ _ _ _ _ _ _ _ _ _ _ _ _ _ _ _ _ _ _ _ _ _ _ _ _ _ _ _ _ _ _ _ _ _ _ _ _ _ _ _ _ _ _ _ _ _ _ _ _ _ _ _ _ _ _ _ _ _ _ _ _ _ _ _ _ _ _ _ _ _ _ _ _ _ _ _ _ _ _ _ _ _ _ _ _ _ _ _ _ _ _ hHeld

set_option maxRecDepth 100000 in
set_option maxHeartbeats 8000000 in
theorem head9Seg9 {Q : Exit → Act → World → Prop} (hp : ∀ c a d v w, Q (.panic c) (Act.put a d v) w → Q (.panic c) a w) {V : World} {g1 g2 g3 xb mb mo : Nat} {q1 q2 q3 q4 ad ay ma1 ma2 : Option Addr} {cd cy c4 mc mc1 mc2 : Nat} (c64 : ∀ W' : World, V.grownBy W' none → Calls Try.prog 51 #[.slice (some ⟨xb, 0, none⟩) 2 2, .agg #[.slice none 0 0, .int .i64 0, .slice q4 1 c4, .int .i64 0]] W' (fun e w' => e = .returned (.bool true) ∧ W'.grownBy w' none)) (hnext : ∀ (t0 t6 t9 t11 t14 t15 t16 t17 t18 t19 t20 t21 t22 t23 t24 t25 t26 t27 t28 t29 t30 t31 t32 t33 t34 t35 t36 t37 t38 t39 t40 t41 t42 t43 t44 t45 t46 t47 t48 t49 t50 t51 t52 t53 t54 t55 t56 t57 t58 t59 t60 t61 t62 t63 t64 t65 t66 t67 t68 t69 t70 t71 t72 t73 t74 t75 t76 t77 t78 t79 t80 t81 t82 t83 t84 t85 t86 t87 t88 t89 t90 t91 t92 t93 t94 t95 t96 t97 t98 t99 t100 t101 t102 t103 t104 t105 t106 t107 t108 t109 t110 t111 t112 t113 t114 t115 t116 t117 t118 t119 t120 t121 t122 t123 t124 t125 t126 t127 t128 t129 t130 t131 t132 t133 t134 t135 t136 t137 t138 t139 t140 t141 t142 t143 t144 t145 t146 t147 t148 t149 t151 t152 t153 t154 t155 t156 t157 t158 t159 t160 t161 t162 t163 t164 : Value) (w' : World), (HeadT V g1 g2 g3 xb mb mo q1 q2 q3 q4 ad ay ma1 ma2 cd cy c4 mc mc1 mc2) w' → wpAnyH Try.prog .any headOps9 Q (HeadT V g1 g2 g3 xb mb mo q1 q2 q3 q4 ad ay ma1 ma2 cd cy c4 mc mc1 mc2) 15 (lst9 67) ⟨#[t0, .pointer (some ⟨g1, 0, none⟩), .pointer (some ⟨g2, 0, none⟩), .slice ad 2 cd, .slice (some ⟨xb, 0, none⟩) 2 2, .slice ay 2 cy, t6, .slice (some ⟨mb, mo, none⟩) 2 mc, .int .i64 0, t9, .int .i64 100, t11, .int .i64 1, .pointer (some ⟨g3, 0, none⟩), t14, t15, t16, t17, t18, t19, t20, t21, t22, t23, t24, t25, t26, t27, t28, t29, t30, t31, t32, t33, t34, t35, t36, t37, t38, t39, t40, t41, t42, t43, t44, t45, t46, t47, t48, t49, t50, t51, t52, t53, t54, t55, t56, t57, t58, t59, t60, t61, t62, t63, t64, t65, t66, t67, t68, t69, t70, t71, t72, t73, t74, t75, t76, t77, t78, t79, t80, t81, t82, t83, t84, t85, t86, t87, t88, t89, t90, t91, t92, t93, t94, t95, t96, t97, t98, t99, t100, t101, t102, t103, t104, t105, t106, t107, t108, t109, t110, t111, t112, t113, t114, t115, t116, t117, t118, t119, t120, t121, t122, t123, t124, t125, t126, t127, t128, t129, t130, t131, t132, t133, t134, t135, t136, t137, t138, t139, t140, t141, t142, t143, t144, t145, t146, t147, t148, t149, .bool true, t151, t152, t153, t154, t155, t156, t157, t158, t159, t160, t161, t162, t163, t164], []⟩ w')
    (t0 t6 t9 t11 t14 t15 t16 t17 t18 t19 t20 t21 t22 t23 t24 t25 t26 t27 t28 t29 t30 t31 t32 t33 t34 t35 t36 t37 t38 t39 t40 t41 t42 t43 t44 t45 t46 t47 t48 t49 t50 t51 t52 t53 t54 t55 t56 t57 t58 t59 t60 t61 t62 t63 t64 t65 t66 t67 t68 t69 t70 t71 t72 t73 t74 t75 t76 t77 t78 t79 t80 t81 t82 t83 t84 t85 t86 t87 t88 t89 t90 t91 t92 t93 t94 t95 t96 t97 t98 t99 t100 t101 t102 t103 t104 t105 t106 t107 t108 t109 t110 t111 t112 t113 t114 t115 t116 t117 t118 t119 t120 t121 t122 t123 t124 t125 t126 t127 t128 t129 t130 t131 t132 t133 t134 t135 t136 t137 t138 t139 t140 t141 t142 t143 t144 t146 t147 t148 t149 t150 t151 t152 t153 t154 t155 t156 t157 t158 t159 t160 t161 t162 t163 t164 : Value) (w : World) (hHeld : (HeadT V g1 g2 g3 xb mb mo q1 q2 q3 q4 ad ay ma1 ma2 cd cy c4 mc mc1 mc2) w) : wpAnyH Try.prog .any headOps9 Q (HeadT V g1 g2 g3 xb mb mo q1 q2 q3 q4 ad ay ma1 ma2 cd cy c4 mc mc1 mc2) 20 (lst9 62) ⟨#[t0, .pointer (some ⟨g1, 0, none⟩), .pointer (some ⟨g2, 0, none⟩), .slice ad 2 cd, .slice (some ⟨xb, 0, none⟩) 2 2, .slice ay 2 cy, t6, .slice (some ⟨mb, mo, none⟩) 2 mc, .int .i64 0, t9, .int .i64 100, t11, .int .i64 1, .pointer (some ⟨g3, 0, none⟩), t14, t15, t16, t17, t18, t19, t20, t21, t22, t23, t24, t25, t26, t27, t28, t29, t30, t31, t32, t33, t34, t35, t36, t37, t38, t39, t40, t41, t42, t43, t44, t45, t46, t47, t48, t49, t50, t51, t52, t53, t54, t55, t56, t57, t58, t59, t60, t61, t62, t63, t64, t65, t66, t67, t68, t69, t70, t71, t72, t73, t74, t75, t76, t77, t78, t79, t80, t81, t82, t83, t84, t85, t86, t87, t88, t89, t90, t91, t92, t93, t94, t95, t96, t97, t98, t99, t100, t101, t102, t103, t104, t105, t106, t107, t108, t109, t110, t111, t112, t113, t114, t115, t116, t117, t118, t119, t120, t121, t122, t123, t124, t125, t126, t127, t128, t129, t130, t131, t132, t133, t134, t135, t136, t137, t138, t139, t140, t141, t142, t143, t144, .bool true, t146, t147, t148, t149, t150, t151, t152, t153, t154, t155, t156, t157, t158, t159, t160, t161, t162, t163, t164], []⟩ w := by
  have h0 := hHeld
  have HS := Lib.hid (fun (W : World) (g : w.grownBy W none) => headT_grown h0 g)
  have hg0 := grown_refl w none
  refine wpAnyH_take (i := 62) (oi := { dst := some 146, op := Op.move (Operand.tmp 4), type := 57, pos := "law.go:35", after := #[{ on := 61, ground := Ground.guard }], guard := some (61, true) }) (v := ?_) rfl (by kernel_rfl) (by kernel_rfl) (by kernel_rfl) (fun c a w h => hp c a _ _ w h) (Or.inl ⟨by rfl, ?_⟩) (by assumption) ?_
  rotate_left 1
  · (intro W hSW; unfold HeadT at hSW; first | (go_simp; done) | (go_simp; with_reducible rfl))
  try simp only [Act.put, List.setIfInBounds_toArray, List.set_cons_zero, List.set_cons_succ]
  refine wpAnyH_take (i := 63) (oi := { dst := some 147, op := Op.load 33 (Operand.tmp 13), type := 33, pos := "law.go:35", after := #[{ on := 61, ground := Ground.guard }], guard := some (61, true) }) (v := ?_) rfl (by kernel_rfl) (by kernel_rfl) (by kernel_rfl) (fun c a w h => hp c a _ _ w h) (Or.inl ⟨by rfl, ?_⟩) (by assumption) ?_
  rotate_left 1
  · (intro W hSW; unfold HeadT at hSW; first | (go_simp; done) | (go_simp; with_reducible rfl))
  try simp only [Act.put, List.setIfInBounds_toArray, List.set_cons_zero, List.set_cons_succ]
  refine wpAnyH_ready (rs := [64]) (by kernel_rfl) (by simp) ?_
  refine (AllReadyH.cons (o := { dst := some 148, op := Op.call { callee := Callee.value (Operand.func 51), args := #[Operand.tmp 146, Operand.tmp 147], argTypes := #[57, 33] }, type := 4, pos := "law.go:35", after := #[{ on := 62, ground := Ground.data }, { on := 63, ground := Ground.data }, { on := 61, ground := Ground.chain }, { on := 61, ground := Ground.guard }], guard := some (61, true) }) rfl (fun K hK => ?_) AllReadyH.nil)
  rw [if_pos (by rfl)]
  go_simp
  go_at_call 51
  refine (c64 _ (h0.1.trans hg0)).mono ?_
  rintro e wc1 ⟨rfl, gc1⟩
  go_wp2_with fail
  have hg1 := World.grownBy.trans hg0 gc1
  refine hK.out _ _ (HS.out _ hg1) (fun hHeld => ?_)
  clear hK K
  try simp only [Act.put, List.setIfInBounds_toArray, List.set_cons_zero, List.set_cons_succ]
  refine wpAnyH_take (i := 65) (oi := { dst := some 149, op := Op.pick (Operand.tmp 145) (Operand.tmp 148) (Operand.const (Value.bool false)), type := 4, pos := "law.go:35", after := #[{ on := 61, ground := Ground.data }, { on := 64, ground := Ground.data }], guard := none }) (v := ?_) rfl (by kernel_rfl) (by kernel_rfl) (by kernel_rfl) (fun c a w h => hp c a _ _ w h) (Or.inl ⟨by rfl, ?_⟩) (by assumption) ?_
  rotate_left 1
  · (intro W hSW; unfold HeadT at hSW; first | (go_simp; done) | (go_simp; with_reducible rfl))
  try simp only [Act.put, List.setIfInBounds_toArray, List.set_cons_zero, List.set_cons_succ]
  refine wpAnyH_take (i := 66) (oi := { dst := some 150, op := Op.move (Operand.tmp 149), type := 4, pos := "law.go:35", after := #[{ on := 65, ground := Ground.data }, { on := 64, ground := Ground.chain }], guard := none }) (v := ?_) rfl (by kernel_rfl) (by kernel_rfl) (by kernel_rfl) (fun c a w h => hp c a _ _ w h) (Or.inl ⟨by rfl, ?_⟩) (by assumption) ?_
  rotate_left 1
  · (intro W hSW; unfold HeadT at hSW; first | (go_simp; done) | (go_simp; with_reducible rfl))
  try simp only [Act.put, List.setIfInBounds_toArray, List.set_cons_zero, List.set_cons_succ]
  rw [show ((((((lst9 62).setIfInBounds 62 true).setIfInBounds 63 true).setIfInBounds 64 true).setIfInBounds 65 true).setIfInBounds 66 true) = (lst9 67) from by kernel_rfl]
  exact hnext _ _ _ _ _ _ _ _ _ _ _ _ _ _ _ _ _ _ _ _ _ _ _ _ _ _ _ _ _ _ _ _ _ _ _ _ _ _ _ _ _ _ _ _ _ _ _ _ _ _ _ _ _ _ _ _ _ _ _ _ _ _ _ _ _ _ _ _ _ _ _ _ _ _ _ _ _ _ _ _ _ _ _ _ _ _ _ _ _ _ _ _ _ _ _ _ _ _ _ _ _ _ _ _ _ _ _ _ _ _ _ _ _ _ _ _ _ _ _ _ _ _ _ _ _ _ _ _ _ _ _ _ _ _ _ _ _ _ _ _ _ _ _ _ _ _ _ _ _ _ _ _ _ _ _ hHeld

set_option maxRecDepth 100000 in
set_option maxHeartbeats 8000000 in
theorem head9Seg10 {Q : Exit → Act → World → Prop} (hp : ∀ c a d v w, Q (.panic c) (Act.put a d v) w → Q (.panic c) a w) {V : World} {g1 g2 g3 xb mb mo : Nat} {q1 q2 q3 q4 ad ay ma1 ma2 : Option Addr} {cd cy c4 mc mc1 mc2 : Nat} (c69 : ∀ W' : World, V.grownBy W' none → Calls Try.prog 51 #[.slice ay 2 cy, .agg #[.slice none 0 0, .int .i64 0, .slice q4 1 c4, .int .i64 0]] W' (fun e w' => e = .returned (.bool false) ∧ W'.grownBy w' none)) (hnext : ∀ (t0 t6 t9 t11 t14 t15 t16 t17 t18 t19 t20 t21 t22 t23 t24 t25 t26 t27 t28 t29 t30 t31 t32 t33 t34 t35 t36 t37 t38 t39 t40 t41 t42 t43 t44 t45 t46 t47 t48 t49 t50 t51 t52 t53 t54 t55 t56 t57 t58 t59 t60 t61 t62 t63 t64 t65 t66 t67 t68 t69 t70 t71 t72 t73 t74 t75 t76 t77 t78 t79 t80 t81 t82 t83 t84 t85 t86 t87 t88 t89 t90 t91 t92 t93 t94 t95 t96 t97 t98 t99 t100 t101 t102 t103 t104 t105 t106 t107 t108 t109 t110 t111 t112 t113 t114 t115 t116 t117 t118 t119 t120 t121 t122 t123 t124 t125 t126 t127 t128 t129 t130 t131 t132 t133 t134 t135 t136 t137 t138 t139 t140 t141 t142 t143 t144 t145 t146 t147 t148 t149 t150 t151 t152 t153 t154 t155 t157 t158 t159 t160 t161 t162 t163 t164 : Value) (w' : World), (HeadT V g1 g2 g3 xb mb mo q1 q2 q3 q4 ad ay ma1 ma2 cd cy c4 mc mc1 mc2) w' → wpAnyH Try.prog .any headOps9 Q (HeadT V g1 g2 g3 xb mb mo q1 q2 q3 q4 ad ay ma1 ma2 cd cy c4 mc mc1 mc2) 9 (lst9 73) ⟨#[t0, .pointer (some ⟨g1, 0, none⟩), .pointer (some ⟨g2, 0, none⟩), .slice ad 2 cd, .slice (some ⟨xb, 0, none⟩) 2 2, .slice ay 2 cy, t6, .slice (some ⟨mb, mo, none⟩) 2 mc, .int .i64 0, t9, .int .i64 100, t11, .int .i64 1, .pointer (some ⟨g3, 0, none⟩), t14, t15, t16, t17, t18, t19, t20, t21, t22, t23, t24, t25, t26, t27, t28, t29, t30, t31, t32, t33, t34, t35, t36, t37, t38, t39, t40, t41, t42, t43, t44, t45, t46, t47, t48, t49, t50, t51, t52, t53, t54, t55, t56, t57, t58, t59, t60, t61, t62, t63, t64, t65, t66, t67, t68, t69, t70, t71, t72, t73, t74, t75, t76, t77, t78, t79, t80, t81, t82, t83, t84, t85, t86, t87, t88, t89, t90, t91, t92, t93, t94, t95, t96, t97, t98, t99, t100, t101, t102, t103, t104, t105, t106, t107, t108, t109, t110, t111, t112, t113, t114, t115, t116, t117, t118, t119, t120, t121, t122, t123, t124, t125, t126, t127, t128, t129, t130, t131, t132, t133, t134, t135, t136, t137, t138, t139, t140, t141, t142, t143, t144, t145, t146, t147, t148, t149, t150, t151, t152, t153, t154, t155, .bool true, t157, t158, t159, t160, t161, t162, t163, t164], []⟩ w')
    (t0 t6 t9 t11 t14 t15 t16 t17 t18 t19 t20 t21 t22 t23 t24 t25 t26 t27 t28 t29 t30 t31 t32 t33 t34 t35 t36 t37 t38 t39 t40 t41 t42 t43 t44 t45 t46 t47 t48 t49 t50 t51 t52 t53 t54 t55 t56 t57 t58 t59 t60 t61 t62 t63 t64 t65 t66 t67 t68 t69 t70 t71 t72 t73 t74 t75 t76 t77 t78 t79 t80 t81 t82 t83 t84 t85 t86 t87 t88 t89 t90 t91 t92 t93 t94 t95 t96 t97 t98 t99 t100 t101 t102 t103 t104 t105 t106 t107 t108 t109 t110 t111 t112 t113 t114 t115 t116 t117 t118 t119 t120 t121 t122 t123 t124 t125 t126 t127 t128 t129 t130 t131 t132 t133 t134 t135 t136 t137 t138 t139 t140 t141 t142 t143 t144 t145 t146 t147 t148 t149 t151 t152 t153 t154 t155 t156 t157 t158 t159 t160 t161 t162 t163 t164 : Value) (w : World) (hHeld : (HeadT V g1 g2 g3 xb mb mo q1 q2 q3 q4 ad ay ma1 ma2 cd cy c4 mc mc1 mc2) w) : wpAnyH Try.prog .any headOps9 Q (HeadT V g1 g2 g3 xb mb mo q1 q2 q3 q4 ad ay ma1 ma2 cd cy c4 mc mc1 mc2) 15 (lst9 67) ⟨#[t0, .pointer (some ⟨g1, 0, none⟩), .pointer (some ⟨g2, 0, none⟩), .slice ad 2 cd, .slice (some ⟨xb, 0, none⟩) 2 2, .slice ay 2 cy, t6, .slice (some ⟨mb, mo, none⟩) 2 mc, .int .i64 0, t9, .int .i64 100, t11, .int .i64 1, .pointer (some ⟨g3, 0, none⟩), t14, t15, t16, t17, t18, t19, t20, t21, t22, t23, t24, t25, t26, t27, t28, t29, t30, t31, t32, t33, t34, t35, t36, t37, t38, t39, t40, t41, t42, t43, t44, t45, t46, t47, t48, t49, t50, t51, t52, t53, t54, t55, t56, t57, t58, t59, t60, t61, t62, t63, t64, t65, t66, t67, t68, t69, t70, t71, t72, t73, t74, t75, t76, t77, t78, t79, t80, t81, t82, t83, t84, t85, t86, t87, t88, t89, t90, t91, t92, t93, t94, t95, t96, t97, t98, t99, t100, t101, t102, t103, t104, t105, t106, t107, t108, t109, t110, t111, t112, t113, t114, t115, t116, t117, t118, t119, t120, t121, t122, t123, t124, t125, t126, t127, t128, t129, t130, t131, t132, t133, t134, t135, t136, t137, t138, t139, t140, t141, t142, t143, t144, t145, t146, t147, t148, t149, .bool true, t151, t152, t153, t154, t155, t156, t157, t158, t159, t160, t161, t162, t163, t164], []⟩ w := by
  have h0 := hHeld
  have HS := Lib.hid (fun (W : World) (g : w.grownBy W none) => headT_grown h0 g)
  have hg0 := grown_refl w none
  refine wpAnyH_take (i := 67) (oi := { dst := some 151, op := Op.move (Operand.tmp 5), type := 57, pos := "law.go:35", after := #[{ on := 66, ground := Ground.guard }], guard := some (66, true) }) (v := ?_) rfl (by kernel_rfl) (by kernel_rfl) (by kernel_rfl) (fun c a w h => hp c a _ _ w h) (Or.inl ⟨by rfl, ?_⟩) (by assumption) ?_
  rotate_left 1
  · (intro W hSW; unfold HeadT at hSW; first | (go_simp; done) | (go_simp; with_reducible rfl))
  try simp only [Act.put, List.setIfInBounds_toArray, List.set_cons_zero, List.set_cons_succ]
  refine wpAnyH_take (i := 68) (oi := { dst := some 152, op := Op.load 33 (Operand.tmp 13), type := 33, pos := "law.go:35", after := #[{ on := 66, ground := Ground.guard }], guard := some (66, true) }) (v := ?_) rfl (by kernel_rfl) (by kernel_rfl) (by kernel_rfl) (fun c a w h => hp c a _ _ w h) (Or.inl ⟨by rfl, ?_⟩) (by assumption) ?_
  rotate_left 1
  · (intro W hSW; unfold HeadT at hSW; first | (go_simp; done) | (go_simp; with_reducible rfl))
  try simp only [Act.put, List.setIfInBounds_toArray, List.set_cons_zero, List.set_cons_succ]
  refine wpAnyH_ready (rs := [69]) (by kernel_rfl) (by simp) ?_
  refine (AllReadyH.cons (o := { dst := some 153, op := Op.call { callee := Callee.value (Operand.func 51), args := #[Operand.tmp 151, Operand.tmp 152], argTypes := #[57, 33] }, type := 4, pos := "law.go:35", after := #[{ on := 67, ground := Ground.data }, { on := 68, ground := Ground.data }, { on := 66, ground := Ground.chain }, { on := 66, ground := Ground.guard }], guard := some (66, true) }) rfl (fun K hK => ?_) AllReadyH.nil)
  rw [if_pos (by rfl)]
  go_simp
  go_at_call 51
  refine (c69 _ (h0.1.trans hg0)).mono ?_
  rintro e wc1 ⟨rfl, gc1⟩
  go_wp2_with fail
  have hg1 := World.grownBy.trans hg0 gc1
  refine hK.out _ _ (HS.out _ hg1) (fun hHeld => ?_)
  clear hK K
  try simp only [Act.put, List.setIfInBounds_toArray, List.set_cons_zero, List.set_cons_succ]
  refine wpAnyH_take (i := 70) (oi := { dst := some 154, op := Op.unOp UnOp.not 4 (Operand.tmp 153), type := 4, pos := "law.go:35", after := #[{ on := 69, ground := Ground.data }, { on := 66, ground := Ground.guard }], guard := some (66, true) }) (v := ?_) rfl (by kernel_rfl) (by kernel_rfl) (by kernel_rfl) (fun c a w h => hp c a _ _ w h) (Or.inl ⟨by rfl, ?_⟩) (by assumption) ?_
  rotate_left 1
  · (intro W hSW; unfold HeadT at hSW; first | (go_simp; done) | (go_simp; with_reducible rfl))
  try simp only [Act.put, List.setIfInBounds_toArray, List.set_cons_zero, List.set_cons_succ]
  refine wpAnyH_take (i := 71) (oi := { dst := some 155, op := Op.pick (Operand.tmp 150) (Operand.tmp 154) (Operand.const (Value.bool false)), type := 4, pos := "law.go:35", after := #[{ on := 66, ground := Ground.data }, { on := 70, ground := Ground.data }], guard := none }) (v := ?_) rfl (by kernel_rfl) (by kernel_rfl) (by kernel_rfl) (fun c a w h => hp c a _ _ w h) (Or.inl ⟨by rfl, ?_⟩) (by assumption) ?_
  rotate_left 1
  · (intro W hSW; unfold HeadT at hSW; first | (go_simp; done) | (go_simp; with_reducible rfl))
  try simp only [Act.put, List.setIfInBounds_toArray, List.set_cons_zero, List.set_cons_succ]
  refine wpAnyH_take (i := 72) (oi := { dst := some 156, op := Op.move (Operand.tmp 155), type := 4, pos := "law.go:35", after := #[{ on := 71, ground := Ground.data }, { on := 69, ground := Ground.chain }], guard := none }) (v := ?_) rfl (by kernel_rfl) (by kernel_rfl) (by kernel_rfl) (fun c a w h => hp c a _ _ w h) (Or.inl ⟨by rfl, ?_⟩) (by assumption) ?_
  rotate_left 1
  · (intro W hSW; unfold HeadT at hSW; first | (go_simp; done) | (go_simp; with_reducible rfl))
  try simp only [Act.put, List.setIfInBounds_toArray, List.set_cons_zero, List.set_cons_succ]
  rw [show (((((((lst9 67).setIfInBounds 67 true).setIfInBounds 68 true).setIfInBounds 69 true).setIfInBounds 70 true).setIfInBounds 71 true).setIfInBounds 72 true) = (lst9 73) from by kernel_rfl]
  exact hnext _ _ _ _ _ _ _ _ _ _ _ _ _ _ _ _ _ _ _ _ _ _ _ _ _ _ _ _ _ _ _ _ _ _ _ _ _ _ _ _ _ _ _ _ _ _ _ _ _ _ _ _ _ _ _ _ _ _ _ _ _ _ _ _ _ _ _ _ _ _ _ _ _ _ _ _ _ _ _ _ _ _ _ _ _ _ _ _ _ _ _ _ _ _ _ _ _ _ _ _ _ _ _ _ _ _ _ _ _ _ _ _ _ _ _ _ _ _ _ _ _ _ _ _ _ _ _ _ _ _ _ _ _ _ _ _ _ _ _ _ _ _ _ _ _ _ _ _ _ _ _ _ _ _ _ hHeld
end Go.Proofs.Ytbddpjofhddilaa
