/- Common texts of the laws of stage 9, joined: VE. -/
import Derived.Test.YtbddpjofhddilaaN16
/- The check of the examples of bounds: its last statement, conjunct by conjunct (more). -/
namespace Go.Proofs.Ytbddpjofhddilaa
open Go.RowKit

set_option maxRecDepth 100000 in
set_option maxHeartbeats 8000000 in
theorem head9Seg3 {Q : Exit → Act → World → Prop} (hp : ∀ c a d v w, Q (.panic c) (Act.put a d v) w → Q (.panic c) a w) {V : World} {g1 g2 g3 xb mb mo : Nat} {q1 q2 q3 q4 ad ay ma1 ma2 : Option Addr} {cd cy c4 mc mc1 mc2 : Nat} (c29 : ∀ (z : Option Addr) (u : Nat) (W' : World), V.grownBy W' none → Bds W' z u [((1, []), (1, [0, 1])), ((2, []), (2, [2, 5]))] → Calls Try.prog 42 #[.slice ad 2 cd, .slice z 2 u] W' (fun e w' => e = .returned (.bool true) ∧ W'.grownBy w' none)) (hnext : ∀ (t0 t6 t9 t11 t14 t15 t16 t17 t18 t19 t20 t21 t22 t23 t24 t25 t26 t27 t28 t29 t30 t31 t32 t33 t34 t35 t36 t37 t38 t39 t40 t41 t42 t43 t44 t45 t46 t47 t48 t49 t50 t51 t52 t53 t54 t55 t56 t57 t58 t59 t60 t61 t62 t63 t64 t65 t66 t67 t68 t69 t70 t71 t72 t73 t74 t75 t76 t77 t78 t79 t80 t81 t82 t83 t84 t85 t86 t87 t88 t89 t90 t91 t92 t93 t94 t95 t96 t97 t98 t99 t100 t101 t102 t103 t104 t105 t106 t107 t108 t109 t110 t111 t112 t113 t114 t116 t117 t118 t119 t120 t121 t122 t123 t124 t125 t126 t127 t128 t129 t130 t131 t132 t133 t134 t135 t136 t137 t138 t139 t140 t141 t142 t143 t144 t145 t146 t147 t148 t149 t150 t151 t152 t153 t154 t155 t156 t157 t158 t159 t160 t161 t162 t163 t164 : Value) (w' : World), (HeadT V g1 g2 g3 xb mb mo q1 q2 q3 q4 ad ay ma1 ma2 cd cy c4 mc mc1 mc2) w' → wpAnyH Try.prog .any headOps9 Q (HeadT V g1 g2 g3 xb mb mo q1 q2 q3 q4 ad ay ma1 ma2 cd cy c4 mc mc1 mc2) 50 (lst9 32) ⟨#[t0, .pointer (some ⟨g1, 0, none⟩), .pointer (some ⟨g2, 0, none⟩), .slice ad 2 cd, .slice (some ⟨xb, 0, none⟩) 2 2, .slice ay 2 cy, t6, .slice (some ⟨mb, mo, none⟩) 2 mc, .int .i64 0, t9, .int .i64 100, t11, .int .i64 1, .pointer (some ⟨g3, 0, none⟩), t14, t15, t16, t17, t18, t19, t20, t21, t22, t23, t24, t25, t26, t27, t28, t29, t30, t31, t32, t33, t34, t35, t36, t37, t38, t39, t40, t41, t42, t43, t44, t45, t46, t47, t48, t49, t50, t51, t52, t53, t54, t55, t56, t57, t58, t59, t60, t61, t62, t63, t64, t65, t66, t67, t68, t69, t70, t71, t72, t73, t74, t75, t76, t77, t78, t79, t80, t81, t82, t83, t84, t85, t86, t87, t88, t89, t90, t91, t92, t93, t94, t95, t96, t97, t98, t99, t100, t101, t102, t103, t104, t105, t106, t107, t108, t109, t110, t111, t112, t113, t114, .bool true, t116, t117, t118, t119, t120, t121, t122, t123, t124, t125, t126, t127, t128, t129, t130, t131, t132, t133, t134, t135, t136, t137, t138, t139, t140, t141, t142, t143, t144, t145, t146, t147, t148, t149, t150, t151, t152, t153, t154, t155, t156, t157, t158, t159, t160, t161, t162, t163, t164], []⟩ w')
    (t0 t6 t9 t11 t14 t15 t16 t17 t18 t19 t20 t21 t22 t23 t24 t25 t26 t27 t28 t29 t30 t31 t32 t33 t34 t35 t36 t37 t38 t39 t40 t41 t42 t43 t44 t45 t46 t47 t48 t49 t50 t51 t52 t53 t54 t55 t56 t57 t58 t59 t60 t61 t62 t63 t64 t65 t66 t67 t68 t69 t70 t71 t72 t73 t74 t75 t76 t77 t78 t79 t80 t81 t82 t83 t84 t85 t86 t87 t88 t89 t90 t91 t92 t93 t94 t95 t96 t97 t98 t99 t100 t101 t103 t104 t105 t106 t107 t108 t109 t110 t111 t112 t113 t114 t115 t116 t117 t118 t119 t120 t121 t122 t123 t124 t125 t126 t127 t128 t129 t130 t131 t132 t133 t134 t135 t136 t137 t138 t139 t140 t141 t142 t143 t144 t145 t146 t147 t148 t149 t150 t151 t152 t153 t154 t155 t156 t157 t158 t159 t160 t161 t162 t163 t164 : Value) (w : World) (hHeld : (HeadT V g1 g2 g3 xb mb mo q1 q2 q3 q4 ad ay ma1 ma2 cd cy c4 mc mc1 mc2) w) : wpAnyH Try.prog .any headOps9 Q (HeadT V g1 g2 g3 xb mb mo q1 q2 q3 q4 ad ay ma1 ma2 cd cy c4 mc mc1 mc2) 63 (lst9 19) ⟨#[t0, .pointer (some ⟨g1, 0, none⟩), .pointer (some ⟨g2, 0, none⟩), .slice ad 2 cd, .slice (some ⟨xb, 0, none⟩) 2 2, .slice ay 2 cy, t6, .slice (some ⟨mb, mo, none⟩) 2 mc, .int .i64 0, t9, .int .i64 100, t11, .int .i64 1, .pointer (some ⟨g3, 0, none⟩), t14, t15, t16, t17, t18, t19, t20, t21, t22, t23, t24, t25, t26, t27, t28, t29, t30, t31, t32, t33, t34, t35, t36, t37, t38, t39, t40, t41, t42, t43, t44, t45, t46, t47, t48, t49, t50, t51, t52, t53, t54, t55, t56, t57, t58, t59, t60, t61, t62, t63, t64, t65, t66, t67, t68, t69, t70, t71, t72, t73, t74, t75, t76, t77, t78, t79, t80, t81, t82, t83, t84, t85, t86, t87, t88, t89, t90, t91, t92, t93, t94, t95, t96, t97, t98, t99, t100, t101, .bool true, t103, t104, t105, t106, t107, t108, t109, t110, t111, t112, t113, t114, t115, t116, t117, t118, t119, t120, t121, t122, t123, t124, t125, t126, t127, t128, t129, t130, t131, t132, t133, t134, t135, t136, t137, t138, t139, t140, t141, t142, t143, t144, t145, t146, t147, t148, t149, t150, t151, t152, t153, t154, t155, t156, t157, t158, t159, t160, t161, t162, t163, t164], []⟩ w := by
  have h0 := hHeld
  have HS := Lib.hid (fun (W : World) (g : w.grownBy W none) => headT_grown h0 g)
  have hg0 := grown_refl w none
  refine wpAnyH_take (i := 19) (oi := { dst := some 103, op := Op.move (Operand.tmp 3), type := 57, pos := "law.go:35", after := #[{ on := 18, ground := Ground.guard }], guard := some (18, true) }) (v := ?_) rfl (by kernel_rfl) (by kernel_rfl) (by kernel_rfl) (fun c a w h => hp c a _ _ w h) (Or.inl ⟨by rfl, ?_⟩) (by assumption) ?_
  rotate_left 1
  · (intro W hSW; unfold HeadT at hSW; first | (go_simp; done) | (go_simp; with_reducible rfl))
  try simp only [Act.put, List.setIfInBounds_toArray, List.set_cons_zero, List.set_cons_succ]
  refine wpAnyH_take (i := 24) (oi := { dst := some 108, op := Op.build 53 #[(0, Operand.const (Value.int IntKind.i64 2))], type := 53, pos := "law.go:35", after := #[{ on := 18, ground := Ground.guard }], guard := some (18, true) }) (v := ?_) rfl (by kernel_rfl) (by kernel_rfl) (by kernel_rfl) (fun c a w h => hp c a _ _ w h) (Or.inl ⟨by rfl, ?_⟩) (by assumption) ?_
  rotate_left 1
  · (intro W hSW; unfold HeadT at hSW; first | (go_simp; done) | (go_simp; with_reducible rfl))
  try simp only [Act.put, List.setIfInBounds_toArray, List.set_cons_zero, List.set_cons_succ]
  refine wpAnyH_ready (rs := [20, 21, 25]) (by kernel_rfl) (by simp) ?_
  refine (AllReadyH.cons (o := { dst := some 104, op := Op.call { callee := Callee.value (Operand.func 91), args := #[Operand.const (Value.slice none 0 0)], argTypes := #[28] }, type := 53, pos := "law.go:35", after := #[{ on := 18, ground := Ground.chain }, { on := 18, ground := Ground.guard }], guard := some (18, true) }) rfl (fun K hK => ?_) (AllReadyH.cons (o := { dst := some 105, op := Op.buildSlice 28 2 #[(0, Operand.const (Value.int IntKind.i64 0)), (1, Operand.const (Value.int IntKind.i64 1))], type := 28, pos := "law.go:35", after := #[{ on := 18, ground := Ground.guard }], guard := some (18, true) }) rfl (fun K hK => ?_) (AllReadyH.cons (o := { dst := some 109, op := Op.buildSlice 28 2 #[(0, Operand.const (Value.int IntKind.i64 2)), (1, Operand.const (Value.int IntKind.i64 5))], type := 28, pos := "law.go:35", after := #[{ on := 18, ground := Ground.guard }], guard := some (18, true) }) rfl (fun K hK => ?_) AllReadyH.nil)))
  · rw [if_pos (by rfl)]
    go_simp
    go_at_call 91
    refine (set9_calls _ _ _ _).mono ?_
    rintro e wc1 ⟨rfl, gc1⟩
    go_wp2_with fail
    have hg1 := World.grownBy.trans hg0 gc1
    refine hK.out _ _ (HS.out _ hg1) (fun hHeld => ?_)
    clear hK K
    try simp only [Act.put, List.setIfInBounds_toArray, List.set_cons_zero, List.set_cons_succ]
    refine wpAnyH_ready (rs := [21, 25]) (by kernel_rfl) (by simp) ?_
    refine (AllReadyH.cons (o := { dst := some 105, op := Op.buildSlice 28 2 #[(0, Operand.const (Value.int IntKind.i64 0)), (1, Operand.const (Value.int IntKind.i64 1))], type := 28, pos := "law.go:35", after := #[{ on := 18, ground := Ground.guard }], guard := some (18, true) }) rfl (fun K hK => ?_) (AllReadyH.cons (o := { dst := some 109, op := Op.buildSlice 28 2 #[(0, Operand.const (Value.int IntKind.i64 2)), (1, Operand.const (Value.int IntKind.i64 5))], type := 28, pos := "law.go:35", after := #[{ on := 18, ground := Ground.guard }], guard := some (18, true) }) rfl (fun K hK => ?_) AllReadyH.nil))
    · rw [if_pos (by rfl)]
      go_simp
      have hga2 := World.grownBy_alloc wc1 (.cells #[.int .i64 0, .int .i64 1] 3) none
      have hr21 : IntsW (World.alloc wc1 (.cells #[.int .i64 0, .int .i64 1] 3)) (some ⟨wc1.heap.size, 0, none⟩) 2 [0, 1] := ints_new9 wc1 [0, 1]
      obtain ⟨WA2, hWA2⟩ : ∃ W, World.alloc wc1 (.cells #[.int .i64 0, .int .i64 1] 3) = W := ⟨_, rfl⟩
      rw [hWA2] at hga2 hr21  ⊢
      clear hWA2
      have hg2 := World.grownBy.trans hg1 hga2
      refine hK.out _ _ (HS.out _ hg2) (fun hHeld => ?_)
      clear hK K
      try simp only [Act.put, List.setIfInBounds_toArray, List.set_cons_zero, List.set_cons_succ]
      refine wpAnyH_ready (rs := [22, 25]) (by kernel_rfl) (by simp) ?_
      refine (AllReadyH.cons (o := { dst := some 106, op := Op.call { callee := Callee.value (Operand.func 91), args := #[Operand.tmp 105], argTypes := #[28] }, type := 53, pos := "law.go:35", after := #[{ on := 21, ground := Ground.data }, { on := 20, ground := Ground.chain }, { on := 18, ground := Ground.guard }], guard := some (18, true) }) rfl (fun K hK => ?_) (AllReadyH.cons (o := { dst := some 109, op := Op.buildSlice 28 2 #[(0, Operand.const (Value.int IntKind.i64 2)), (1, Operand.const (Value.int IntKind.i64 5))], type := 28, pos := "law.go:35", after := #[{ on := 18, ground := Ground.guard }], guard := some (18, true) }) rfl (fun K hK => ?_) AllReadyH.nil))
      · rw [if_pos (by rfl)]
        go_simp
        go_at_call 91
        refine (set9_calls _ _ _ _).mono ?_
        rintro e wc3 ⟨rfl, gc3⟩
        replace hr21 := hr21.grown gc3
        go_wp2_with fail
        have hg3 := World.grownBy.trans hg2 gc3
        refine hK.out _ _ (HS.out _ hg3) (fun hHeld => ?_)
        clear hK K
        try simp only [Act.put, List.setIfInBounds_toArray, List.set_cons_zero, List.set_cons_succ]
        refine wpAnyH_take (i := 23) (oi := { dst := some 107, op := Op.build 74 #[(0, Operand.tmp 104), (1, Operand.tmp 106)], type := 74, pos := "law.go:35", after := #[{ on := 20, ground := Ground.data }, { on := 22, ground := Ground.data }, { on := 18, ground := Ground.guard }], guard := some (18, true) }) (v := ?_) rfl (by kernel_rfl) (by kernel_rfl) (by kernel_rfl) (fun c a w h => hp c a _ _ w h) (Or.inl ⟨by rfl, ?_⟩) (by assumption) ?_
        rotate_left 1
        · (intro W hSW; unfold HeadT at hSW; first | (go_simp; done) | (go_simp; with_reducible rfl))
        try simp only [Act.put, List.setIfInBounds_toArray, List.set_cons_zero, List.set_cons_succ]
        refine wpAnyH_ready (rs := [25]) (by kernel_rfl) (by simp) ?_
        refine (AllReadyH.cons (o := { dst := some 109, op := Op.buildSlice 28 2 #[(0, Operand.const (Value.int IntKind.i64 2)), (1, Operand.const (Value.int IntKind.i64 5))], type := 28, pos := "law.go:35", after := #[{ on := 18, ground := Ground.guard }], guard := some (18, true) }) rfl (fun K hK => ?_) AllReadyH.nil)
        rw [if_pos (by rfl)]
        go_simp
        have hga4 := World.grownBy_alloc wc3 (.cells #[.int .i64 2, .int .i64 5] 3) none
        have hr25 : IntsW (World.alloc wc3 (.cells #[.int .i64 2, .int .i64 5] 3)) (some ⟨wc3.heap.size, 0, none⟩) 2 [2, 5] := ints_new9 wc3 [2, 5]
        replace hr21 := hr21.grown hga4
        obtain ⟨WA4, hWA4⟩ : ∃ W, World.alloc wc3 (.cells #[.int .i64 2, .int .i64 5] 3) = W := ⟨_, rfl⟩
        rw [hWA4] at hga4 hr25 hr21 ⊢
        clear hWA4
        have hg4 := World.grownBy.trans hg3 hga4
        refine hK.out _ _ (HS.out _ hg4) (fun hHeld => ?_)
        clear hK K
        try simp only [Act.put, List.setIfInBounds_toArray, List.set_cons_zero, List.set_cons_succ]
        refine wpAnyH_take (i := 26) (oi := { dst := some 110, op := Op.build 53 #[(0, Operand.const (Value.int IntKind.i64 2)), (1, Operand.tmp 109)], type := 53, pos := "law.go:35", after := #[{ on := 25, ground := Ground.data }, { on := 18, ground := Ground.guard }], guard := some (18, true) }) (v := ?_) rfl (by kernel_rfl) (by kernel_rfl) (by kernel_rfl) (fun c a w h => hp c a _ _ w h) (Or.inl ⟨by rfl, ?_⟩) (by assumption) ?_
        rotate_left 1
        · (intro W hSW; unfold HeadT at hSW; first | (go_simp; done) | (go_simp; with_reducible rfl))
        try simp only [Act.put, List.setIfInBounds_toArray, List.set_cons_zero, List.set_cons_succ]
        refine wpAnyH_take (i := 27) (oi := { dst := some 111, op := Op.build 74 #[(0, Operand.tmp 108), (1, Operand.tmp 110)], type := 74, pos := "law.go:35", after := #[{ on := 24, ground := Ground.data }, { on := 26, ground := Ground.data }, { on := 18, ground := Ground.guard }], guard := some (18, true) }) (v := ?_) rfl (by kernel_rfl) (by kernel_rfl) (by kernel_rfl) (fun c a w h => hp c a _ _ w h) (Or.inl ⟨by rfl, ?_⟩) (by assumption) ?_
        rotate_left 1
        · (intro W hSW; unfold HeadT at hSW; first | (go_simp; done) | (go_simp; with_reducible rfl))
        try simp only [Act.put, List.setIfInBounds_toArray, List.set_cons_zero, List.set_cons_succ]
        refine wpAnyH_ready (rs := [28]) (by kernel_rfl) (by simp) ?_
        refine (AllReadyH.cons (o := { dst := some 112, op := Op.buildSlice 57 2 #[(0, Operand.tmp 107), (1, Operand.tmp 111)], type := 57, pos := "law.go:35", after := #[{ on := 23, ground := Ground.data }, { on := 27, ground := Ground.data }, { on := 18, ground := Ground.guard }], guard := some (18, true) }) rfl (fun K hK => ?_) AllReadyH.nil)
        rw [if_pos (by rfl)]
        go_simp
        have hga5 := World.grownBy_alloc WA4 (.cells #[.int .i64 1, .slice none 0 0, .int .i64 1, .slice (some ⟨wc1.heap.size, 0, none⟩) 2 2, .int .i64 2, .slice none 0 0, .int .i64 2, .slice (some ⟨wc3.heap.size, 0, none⟩) 2 2] 74) none
        have hr28 : Bds (World.alloc WA4 (.cells #[.int .i64 1, .slice none 0 0, .int .i64 1, .slice (some ⟨wc1.heap.size, 0, none⟩) 2 2, .int .i64 2, .slice none 0 0, .int .i64 2, .slice (some ⟨wc3.heap.size, 0, none⟩) 2 2] 74)) (some ⟨WA4.heap.size, 0, none⟩) 2 [((1, []), (1, [0, 1])), ((2, []), (2, [2, 5]))] := bds_lit2 WA4 ((1, []), (1, [0, 1])) ((2, []), (2, [2, 5])) none (some ⟨wc1.heap.size, 0, none⟩) none (some ⟨wc3.heap.size, 0, none⟩) 0 2 0 2 (intsW_nil _ _ _) hr21 (intsW_nil _ _ _) hr25
        replace hr21 := hr21.grown hga5
        replace hr25 := hr25.grown hga5
        obtain ⟨WA5, hWA5⟩ : ∃ W, World.alloc WA4 (.cells #[.int .i64 1, .slice none 0 0, .int .i64 1, .slice (some ⟨wc1.heap.size, 0, none⟩) 2 2, .int .i64 2, .slice none 0 0, .int .i64 2, .slice (some ⟨wc3.heap.size, 0, none⟩) 2 2] 74) = W := ⟨_, rfl⟩
        rw [hWA5] at hga5 hr28 hr21 hr25 ⊢
        clear hWA5
        have hg5 := World.grownBy.trans hg4 hga5
        refine hK.out _ _ (HS.out _ hg5) (fun hHeld => ?_)
        clear hK K
        try simp only [Act.put, List.setIfInBounds_toArray, List.set_cons_zero, List.set_cons_succ]
        refine wpAnyH_ready (rs := [29]) (by kernel_rfl) (by simp) ?_
        refine (AllReadyH.cons (o := { dst := some 113, op := Op.call { callee := Callee.value (Operand.func 42), args := #[Operand.tmp 103, Operand.tmp 112], argTypes := #[57, 57] }, type := 4, pos := "law.go:35", after := #[{ on := 19, ground := Ground.data }, { on := 28, ground := Ground.data }, { on := 22, ground := Ground.chain }, { on := 18, ground := Ground.guard }], guard := some (18, true) }) rfl (fun K hK => ?_) AllReadyH.nil)
        rw [if_pos (by rfl)]
        go_simp
        go_at_call 42
        refine (c29 _ _ _ (h0.1.trans hg5) hr28).mono ?_
        rintro e wc6 ⟨rfl, gc6⟩
        replace hr21 := hr21.grown gc6
        replace hr25 := hr25.grown gc6
        replace hr28 := hr28.grown gc6
        go_wp2_with fail
        have hg6 := World.grownBy.trans hg5 gc6
        refine hK.out _ _ (HS.out _ hg6) (fun hHeld => ?_)
        clear hK K
        try simp only [Act.put, List.setIfInBounds_toArray, List.set_cons_zero, List.set_cons_succ]
        refine wpAnyH_take (i := 30) (oi := { dst := some 114, op := Op.pick (Operand.tmp 102) (Operand.tmp 113) (Operand.const (Value.bool false)), type := 4, pos := "law.go:35", after := #[{ on := 18, ground := Ground.data }, { on := 29, ground := Ground.data }], guard := none }) (v := ?_) rfl (by kernel_rfl) (by kernel_rfl) (by kernel_rfl) (fun c a w h => hp c a _ _ w h) (Or.inl ⟨by rfl, ?_⟩) (by assumption) ?_
        rotate_left 1
        · (intro W hSW; unfold HeadT at hSW; first | (go_simp; done) | (go_simp; with_reducible rfl))
        try simp only [Act.put, List.setIfInBounds_toArray, List.set_cons_zero, List.set_cons_succ]
        refine wpAnyH_take (i := 31) (oi := { dst := some 115, op := Op.move (Operand.tmp 114), type := 4, pos := "law.go:35", after := #[{ on := 30, ground := Ground.data }, { on := 29, ground := Ground.chain }], guard := none }) (v := ?_) rfl (by kernel_rfl) (by kernel_rfl) (by kernel_rfl) (fun c a w h => hp c a _ _ w h) (Or.inl ⟨by rfl, ?_⟩) (by assumption) ?_
        rotate_left 1
        · (intro W hSW; unfold HeadT at hSW; first | (go_simp; done) | (go_simp; with_reducible rfl))
        try simp only [Act.put, List.setIfInBounds_toArray, List.set_cons_zero, List.set_cons_succ]
        rw [show ((((((((((((((lst9 19).setIfInBounds 19 true).setIfInBounds 24 true).setIfInBounds 20 true).setIfInBounds 21 true).setIfInBounds 22 true).setIfInBounds 23 true).setIfInBounds 25 true).setIfInBounds 26 true).setIfInBounds 27 true).setIfInBounds 28 true).setIfInBounds 29 true).setIfInBounds 30 true).setIfInBounds 31 true) = (lst9 32) from by kernel_rfl]
        exact hnext _ _ _ _ _ _ _ _ _ _ _ _ _ _ _ _ _ _ _ _ _ _ _ _ _ _ _ _ _ _ _ _ _ _ _ _ _ _ _ _ _ _ _ _ _ _ _ _ _ _ _ _ _ _ _ _ _ _ _ _ _ _ _ _ _ _ _ _ _ _ _ _ _ _ _ _ _ _ _ _ _ _ _ _ _ _ _ _ _ _ _ _ _ _ _ _ _ _ _ _ _ _ _ _ _ _ _ _ _ _ _ _ _ _ _ _ _ _ _ _ _ _ _ _ _ _ _ _ _ _ _ _ _ _ _ _ _ _ _ _ _ _ _ _ _ _ _ _ _ _ _ _ _ _ _ hHeld
      · rw [if_pos (by rfl)]
        go_simp
        have hga3 := World.grownBy_alloc WA2 (.cells #[.int .i64 2, .int .i64 5] 3) none
        have hr25 : IntsW (World.alloc WA2 (.cells #[.int .i64 2, .int .i64 5] 3)) (some ⟨WA2.heap.size, 0, none⟩) 2 [2, 5] := ints_new9 WA2 [2, 5]
        replace hr21 := hr21.grown hga3
        obtain ⟨WA3, hWA3⟩ : ∃ W, World.alloc WA2 (.cells #[.int .i64 2, .int .i64 5] 3) = W := ⟨_, rfl⟩
        rw [hWA3] at hga3 hr25 hr21 ⊢
        clear hWA3
        have hg3 := World.grownBy.trans hg2 hga3
        refine hK.out _ _ (HS.out _ hg3) (fun hHeld => ?_)
        clear hK K
        try simp only [Act.put, List.setIfInBounds_toArray, List.set_cons_zero, List.set_cons_succ]
        refine wpAnyH_take (i := 26) (oi := { dst := some 110, op := Op.build 53 #[(0, Operand.const (Value.int IntKind.i64 2)), (1, Operand.tmp 109)], type := 53, pos := "law.go:35", after := #[{ on := 25, ground := Ground.data }, { on := 18, ground := Ground.guard }], guard := some (18, true) }) (v := ?_) rfl (by kernel_rfl) (by kernel_rfl) (by kernel_rfl) (fun c a w h => hp c a _ _ w h) (Or.inl ⟨by rfl, ?_⟩) (by assumption) ?_
        rotate_left 1
        · (intro W hSW; unfold HeadT at hSW; first | (go_simp; done) | (go_simp; with_reducible rfl))
        try simp only [Act.put, List.setIfInBounds_toArray, List.set_cons_zero, List.set_cons_succ]
        refine wpAnyH_take (i := 27) (oi := { dst := some 111, op := Op.build 74 #[(0, Operand.tmp 108), (1, Operand.tmp 110)], type := 74, pos := "law.go:35", after := #[{ on := 24, ground := Ground.data }, { on := 26, ground := Ground.data }, { on := 18, ground := Ground.guard }], guard := some (18, true) }) (v := ?_) rfl (by kernel_rfl) (by kernel_rfl) (by kernel_rfl) (fun c a w h => hp c a _ _ w h) (Or.inl ⟨by rfl, ?_⟩) (by assumption) ?_
        rotate_left 1
        · (intro W hSW; unfold HeadT at hSW; first | (go_simp; done) | (go_simp; with_reducible rfl))
        try simp only [Act.put, List.setIfInBounds_toArray, List.set_cons_zero, List.set_cons_succ]
        refine wpAnyH_ready (rs := [22]) (by kernel_rfl) (by simp) ?_
        refine (AllReadyH.cons (o := { dst := some 106, op := Op.call { callee := Callee.value (Operand.func 91), args := #[Operand.tmp 105], argTypes := #[28] }, type := 53, pos := "law.go:35", after := #[{ on := 21, ground := Ground.data }, { on := 20, ground := Ground.chain }, { on := 18, ground := Ground.guard }], guard := some (18, true) }) rfl (fun K hK => ?_) AllReadyH.nil)
        rw [if_pos (by rfl)]
        go_simp
        go_at_call 91
        refine (set9_calls _ _ _ _).mono ?_
        rintro e wc4 ⟨rfl, gc4⟩
        replace hr21 := hr21.grown gc4
        replace hr25 := hr25.grown gc4
        go_wp2_with fail
        have hg4 := World.grownBy.trans hg3 gc4
        refine hK.out _ _ (HS.out _ hg4) (fun hHeld => ?_)
        clear hK K
        try simp only [Act.put, List.setIfInBounds_toArray, List.set_cons_zero, List.set_cons_succ]
        refine wpAnyH_take (i := 23) (oi := { dst := some 107, op := Op.build 74 #[(0, Operand.tmp 104), (1, Operand.tmp 106)], type := 74, pos := "law.go:35", after := #[{ on := 20, ground := Ground.data }, { on := 22, ground := Ground.data }, { on := 18, ground := Ground.guard }], guard := some (18, true) }) (v := ?_) rfl (by kernel_rfl) (by kernel_rfl) (by kernel_rfl) (fun c a w h => hp c a _ _ w h) (Or.inl ⟨by rfl, ?_⟩) (by assumption) ?_
        rotate_left 1
        · (intro W hSW; unfold HeadT at hSW; first | (go_simp; done) | (go_simp; with_reducible rfl))
        try simp only [Act.put, List.setIfInBounds_toArray, List.set_cons_zero, List.set_cons_succ]
        refine wpAnyH_ready (rs := [28]) (by kernel_rfl) (by simp) ?_
        refine (AllReadyH.cons (o := { dst := some 112, op := Op.buildSlice 57 2 #[(0, Operand.tmp 107), (1, Operand.tmp 111)], type := 57, pos := "law.go:35", after := #[{ on := 23, ground := Ground.data }, { on := 27, ground := Ground.data }, { on := 18, ground := Ground.guard }], guard := some (18, true) }) rfl (fun K hK => ?_) AllReadyH.nil)
        rw [if_pos (by rfl)]
        go_simp
        have hga5 := World.grownBy_alloc wc4 (.cells #[.int .i64 1, .slice none 0 0, .int .i64 1, .slice (some ⟨wc1.heap.size, 0, none⟩) 2 2, .int .i64 2, .slice none 0 0, .int .i64 2, .slice (some ⟨WA2.heap.size, 0, none⟩) 2 2] 74) none
        have hr28 : Bds (World.alloc wc4 (.cells #[.int .i64 1, .slice none 0 0, .int .i64 1, .slice (some ⟨wc1.heap.size, 0, none⟩) 2 2, .int .i64 2, .slice none 0 0, .int .i64 2, .slice (some ⟨WA2.heap.size, 0, none⟩) 2 2] 74)) (some ⟨wc4.heap.size, 0, none⟩) 2 [((1, []), (1, [0, 1])), ((2, []), (2, [2, 5]))] := bds_lit2 wc4 ((1, []), (1, [0, 1])) ((2, []), (2, [2, 5])) none (some ⟨wc1.heap.size, 0, none⟩) none (some ⟨WA2.heap.size, 0, none⟩) 0 2 0 2 (intsW_nil _ _ _) hr21 (intsW_nil _ _ _) hr25
        replace hr21 := hr21.grown hga5
        replace hr25 := hr25.grown hga5
        obtain ⟨WA5, hWA5⟩ : ∃ W, World.alloc wc4 (.cells #[.int .i64 1, .slice none 0 0, .int .i64 1, .slice (some ⟨wc1.heap.size, 0, none⟩) 2 2, .int .i64 2, .slice none 0 0, .int .i64 2, .slice (some ⟨WA2.heap.size, 0, none⟩) 2 2] 74) = W := ⟨_, rfl⟩
        rw [hWA5] at hga5 hr28 hr21 hr25 ⊢
        clear hWA5
        have hg5 := World.grownBy.trans hg4 hga5
        refine hK.out _ _ (HS.out _ hg5) (fun hHeld => ?_)
        clear hK K
        try simp only [Act.put, List.setIfInBounds_toArray, List.set_cons_zero, List.set_cons_succ]
        refine wpAnyH_ready (rs := [29]) (by kernel_rfl) (by simp) ?_
        refine (AllReadyH.cons (o := { dst := some 113, op := Op.call { callee := Callee.value (Operand.func 42), args := #[Operand.tmp 103, Operand.tmp 112], argTypes := #[57, 57] }, type := 4, pos := "law.go:35", after := #[{ on := 19, ground := Ground.data }, { on := 28, ground := Ground.data }, { on := 22, ground := Ground.chain }, { on := 18, ground := Ground.guard }], guard := some (18, true) }) rfl (fun K hK => ?_) AllReadyH.nil)
        rw [if_pos (by rfl)]
        go_simp
        go_at_call 42
        refine (c29 _ _ _ (h0.1.trans hg5) hr28).mono ?_
        rintro e wc6 ⟨rfl, gc6⟩
        replace hr21 := hr21.grown gc6
        replace hr25 := hr25.grown gc6
        replace hr28 := hr28.grown gc6
        go_wp2_with fail
        have hg6 := World.grownBy.trans hg5 gc6
        refine hK.out _ _ (HS.out _ hg6) (fun hHeld => ?_)
        clear hK K
        try simp only [Act.put, List.setIfInBounds_toArray, List.set_cons_zero, List.set_cons_succ]
        refine wpAnyH_take (i := 30) (oi := { dst := some 114, op := Op.pick (Operand.tmp 102) (Operand.tmp 113) (Operand.const (Value.bool false)), type := 4, pos := "law.go:35", after := #[{ on := 18, ground := Ground.data }, { on := 29, ground := Ground.data }], guard := none }) (v := ?_) rfl (by kernel_rfl) (by kernel_rfl) (by kernel_rfl) (fun c a w h => hp c a _ _ w h) (Or.inl ⟨by rfl, ?_⟩) (by assumption) ?_
        rotate_left 1
        · (intro W hSW; unfold HeadT at hSW; first | (go_simp; done) | (go_simp; with_reducible rfl))
        try simp only [Act.put, List.setIfInBounds_toArray, List.set_cons_zero, List.set_cons_succ]
        refine wpAnyH_take (i := 31) (oi := { dst := some 115, op := Op.move (Operand.tmp 114), type := 4, pos := "law.go:35", after := #[{ on := 30, ground := Ground.data }, { on := 29, ground := Ground.chain }], guard := none }) (v := ?_) rfl (by kernel_rfl) (by kernel_rfl) (by kernel_rfl) (fun c a w h => hp c a _ _ w h) (Or.inl ⟨by rfl, ?_⟩) (by assumption) ?_
        rotate_left 1
        · (intro W hSW; unfold HeadT at hSW; first | (go_simp; done) | (go_simp; with_reducible rfl))
        try simp only [Act.put, List.setIfInBounds_toArray, List.set_cons_zero, List.set_cons_succ]
        rw [show ((((((((((((((lst9 19).setIfInBounds 19 true).setIfInBounds 24 true).setIfInBounds 20 true).setIfInBounds 21 true).setIfInBounds 25 true).setIfInBounds 26 true).setIfInBounds 27 true).setIfInBounds 22 true).setIfInBounds 23 true).setIfInBounds 28 true).setIfInBounds 29 true).setIfInBounds 30 true).setIfInBounds 31 true) = (lst9 32) from by kernel_rfl]
        exact hnext _ _ _ _ _ _ _ _ _ _ _ _ _ _ _ _ _ _ _ _ _ _ _ _ _ _ _ _ _ _ _ _ _ _ _ _ _ _ _ _ _ _ _ _ _ _ _ _ _ _ _ _ _ _ _ _ _ _ _ _ _ _ _ _ _ _ _ _ _ _ _ _ _ _ _ _ _ _ _ _ _ _ _ _ _ _ _ _ _ _ _ _ _ _ _ _ _ _ _ _ _ _ _ _ _ _ _ _ _ _ _ _ _ _ _ _ _ _ _ _ _ _ _ _ _ _ _ _ _ _ _ _ _ _ _ _ _ _ _ _ _ _ _ _ _ _ _ _ _ _ _ _ _ _ _ hHeld
    · rw [if_pos (by rfl)]
      go_simp
      have hga2 := World.grownBy_alloc wc1 (.cells #[.int .i64 2, .int .i64 5] 3) none
      have hr25 : IntsW (World.alloc wc1 (.cells #[.int .i64 2, .int .i64 5] 3)) (some ⟨wc1.heap.size, 0, none⟩) 2 [2, 5] := ints_new9 wc1 [2, 5]
      obtain ⟨WA2, hWA2⟩ : ∃ W, World.alloc wc1 (.cells #[.int .i64 2, .int .i64 5] 3) = W := ⟨_, rfl⟩
      rw [hWA2] at hga2 hr25  ⊢
      clear hWA2
      have hg2 := World.grownBy.trans hg1 hga2
      refine hK.out _ _ (HS.out _ hg2) (fun hHeld => ?_)
      clear hK K
      try simp only [Act.put, List.setIfInBounds_toArray, List.set_cons_zero, List.set_cons_succ]
      refine wpAnyH_take (i := 26) (oi := { dst := some 110, op := Op.build 53 #[(0, Operand.const (Value.int IntKind.i64 2)), (1, Operand.tmp 109)], type := 53, pos := "law.go:35", after := #[{ on := 25, ground := Ground.data }, { on := 18, ground := Ground.guard }], guard := some (18, true) }) (v := ?_) rfl (by kernel_rfl) (by kernel_rfl) (by kernel_rfl) (fun c a w h => hp c a _ _ w h) (Or.inl ⟨by rfl, ?_⟩) (by assumption) ?_
      rotate_left 1
      · (intro W hSW; unfold HeadT at hSW; first | (go_simp; done) | (go_simp; with_reducible rfl))
      try simp only [Act.put, List.setIfInBounds_toArray, List.set_cons_zero, List.set_cons_succ]
      refine wpAnyH_take (i := 27) (oi := { dst := some 111, op := Op.build 74 #[(0, Operand.tmp 108), (1, Operand.tmp 110)], type := 74, pos := "law.go:35", after := #[{ on := 24, ground := Ground.data }, { on := 26, ground := Ground.data }, { on := 18, ground := Ground.guard }], guard := some (18, true) }) (v := ?_) rfl (by kernel_rfl) (by kernel_rfl) (by kernel_rfl) (fun c a w h => hp c a _ _ w h) (Or.inl ⟨by rfl, ?_⟩) (by assumption) ?_
      rotate_left 1
      · (intro W hSW; unfold HeadT at hSW; first | (go_simp; done) | (go_simp; with_reducible rfl))
      try simp only [Act.put, List.setIfInBounds_toArray, List.set_cons_zero, List.set_cons_succ]
      refine wpAnyH_ready (rs := [21]) (by kernel_rfl) (by simp) ?_
      refine (AllReadyH.cons (o := { dst := some 105, op := Op.buildSlice 28 2 #[(0, Operand.const (Value.int IntKind.i64 0)), (1, Operand.const (Value.int IntKind.i64 1))], type := 28, pos := "law.go:35", after := #[{ on := 18, ground := Ground.guard }], guard := some (18, true) }) rfl (fun K hK => ?_) AllReadyH.nil)
      rw [if_pos (by rfl)]
      go_simp
      have hga3 := World.grownBy_alloc WA2 (.cells #[.int .i64 0, .int .i64 1] 3) none
      have hr21 : IntsW (World.alloc WA2 (.cells #[.int .i64 0, .int .i64 1] 3)) (some ⟨WA2.heap.size, 0, none⟩) 2 [0, 1] := ints_new9 WA2 [0, 1]
      replace hr25 := hr25.grown hga3
      obtain ⟨WA3, hWA3⟩ : ∃ W, World.alloc WA2 (.cells #[.int .i64 0, .int .i64 1] 3) = W := ⟨_, rfl⟩
      rw [hWA3] at hga3 hr21 hr25 ⊢
      clear hWA3
      have hg3 := World.grownBy.trans hg2 hga3
      refine hK.out _ _ (HS.out _ hg3) (fun hHeld => ?_)
      clear hK K
      try simp only [Act.put, List.setIfInBounds_toArray, List.set_cons_zero, List.set_cons_succ]
      refine wpAnyH_ready (rs := [22]) (by kernel_rfl) (by simp) ?_
      refine (AllReadyH.cons (o := { dst := some 106, op := Op.call { callee := Callee.value (Operand.func 91), args := #[Operand.tmp 105], argTypes := #[28] }, type := 53, pos := "law.go:35", after := #[{ on := 21, ground := Ground.data }, { on := 20, ground := Ground.chain }, { on := 18, ground := Ground.guard }], guard := some (18, true) }) rfl (fun K hK => ?_) AllReadyH.nil)
      rw [if_pos (by rfl)]
      go_simp
      go_at_call 91
      refine (set9_calls _ _ _ _).mono ?_
      rintro e wc4 ⟨rfl, gc4⟩
      replace hr25 := hr25.grown gc4
      replace hr21 := hr21.grown gc4
      go_wp2_with fail
      have hg4 := World.grownBy.trans hg3 gc4
      refine hK.out _ _ (HS.out _ hg4) (fun hHeld => ?_)
      clear hK K
      try simp only [Act.put, List.setIfInBounds_toArray, List.set_cons_zero, List.set_cons_succ]
      refine wpAnyH_take (i := 23) (oi := { dst := some 107, op := Op.build 74 #[(0, Operand.tmp 104), (1, Operand.tmp 106)], type := 74, pos := "law.go:35", after := #[{ on := 20, ground := Ground.data }, { on := 22, ground := Ground.data }, { on := 18, ground := Ground.guard }], guard := some (18, true) }) (v := ?_) rfl (by kernel_rfl) (by kernel_rfl) (by kernel_rfl) (fun c a w h => hp c a _ _ w h) (Or.inl ⟨by rfl, ?_⟩) (by assumption) ?_
      rotate_left 1
      · (intro W hSW; unfold HeadT at hSW; first | (go_simp; done) | (go_simp; with_reducible rfl))
      try simp only [Act.put, List.setIfInBounds_toArray, List.set_cons_zero, List.set_cons_succ]
      refine wpAnyH_ready (rs := [28]) (by kernel_rfl) (by simp) ?_
      refine (AllReadyH.cons (o := { dst := some 112, op := Op.buildSlice 57 2 #[(0, Operand.tmp 107), (1, Operand.tmp 111)], type := 57, pos := "law.go:35", after := #[{ on := 23, ground := Ground.data }, { on := 27, ground := Ground.data }, { on := 18, ground := Ground.guard }], guard := some (18, true) }) rfl (fun K hK => ?_) AllReadyH.nil)
      rw [if_pos (by rfl)]
      go_simp
      have hga5 := World.grownBy_alloc wc4 (.cells #[.int .i64 1, .slice none 0 0, .int .i64 1, .slice (some ⟨WA2.heap.size, 0, none⟩) 2 2, .int .i64 2, .slice none 0 0, .int .i64 2, .slice (some ⟨wc1.heap.size, 0, none⟩) 2 2] 74) none
      have hr28 : Bds (World.alloc wc4 (.cells #[.int .i64 1, .slice none 0 0, .int .i64 1, .slice (some ⟨WA2.heap.size, 0, none⟩) 2 2, .int .i64 2, .slice none 0 0, .int .i64 2, .slice (some ⟨wc1.heap.size, 0, none⟩) 2 2] 74)) (some ⟨wc4.heap.size, 0, none⟩) 2 [((1, []), (1, [0, 1])), ((2, []), (2, [2, 5]))] := bds_lit2 wc4 ((1, []), (1, [0, 1])) ((2, []), (2, [2, 5])) none (some ⟨WA2.heap.size, 0, none⟩) none (some ⟨wc1.heap.size, 0, none⟩) 0 2 0 2 (intsW_nil _ _ _) hr21 (intsW_nil _ _ _) hr25
      replace hr25 := hr25.grown hga5
      replace hr21 := hr21.grown hga5
      obtain ⟨WA5, hWA5⟩ : ∃ W, World.alloc wc4 (.cells #[.int .i64 1, .slice none 0 0, .int .i64 1, .slice (some ⟨WA2.heap.size, 0, none⟩) 2 2, .int .i64 2, .slice none 0 0, .int .i64 2, .slice (some ⟨wc1.heap.size, 0, none⟩) 2 2] 74) = W := ⟨_, rfl⟩
      rw [hWA5] at hga5 hr28 hr25 hr21 ⊢
      clear hWA5
      have hg5 := World.grownBy.trans hg4 hga5
      refine hK.out _ _ (HS.out _ hg5) (fun hHeld => ?_)
      clear hK K
      try simp only [Act.put, List.setIfInBounds_toArray, List.set_cons_zero, List.set_cons_succ]
      refine wpAnyH_ready (rs := [29]) (by kernel_rfl) (by simp) ?_
      refine (AllReadyH.cons (o := { dst := some 113, op := Op.call { callee := Callee.value (Operand.func 42), args := #[Operand.tmp 103, Operand.tmp 112], argTypes := #[57, 57] }, type := 4, pos := "law.go:35", after := #[{ on := 19, ground := Ground.data }, { on := 28, ground := Ground.data }, { on := 22, ground := Ground.chain }, { on := 18, ground := Ground.guard }], guard := some (18, true) }) rfl (fun K hK => ?_) AllReadyH.nil)
      rw [if_pos (by rfl)]
      go_simp
      go_at_call 42
      refine (c29 _ _ _ (h0.1.trans hg5) hr28).mono ?_
      rintro e wc6 ⟨rfl, gc6⟩
      replace hr25 := hr25.grown gc6
      replace hr21 := hr21.grown gc6
      replace hr28 := hr28.grown gc6
      go_wp2_with fail
      have hg6 := World.grownBy.trans hg5 gc6
      refine hK.out _ _ (HS.out _ hg6) (fun hHeld => ?_)
      clear hK K
      try simp only [Act.put, List.setIfInBounds_toArray, List.set_cons_zero, List.set_cons_succ]
      refine wpAnyH_take (i := 30) (oi := { dst := some 114, op := Op.pick (Operand.tmp 102) (Operand.tmp 113) (Operand.const (Value.bool false)), type := 4, pos := "law.go:35", after := #[{ on := 18, ground := Ground.data }, { on := 29, ground := Ground.data }], guard := none }) (v := ?_) rfl (by kernel_rfl) (by kernel_rfl) (by kernel_rfl) (fun c a w h => hp c a _ _ w h) (Or.inl ⟨by rfl, ?_⟩) (by assumption) ?_
      rotate_left 1
      · (intro W hSW; unfold HeadT at hSW; first | (go_simp; done) | (go_simp; with_reducible rfl))
      try simp only [Act.put, List.setIfInBounds_toArray, List.set_cons_zero, List.set_cons_succ]
      refine wpAnyH_take (i := 31) (oi := { dst := some 115, op := Op.move (Operand.tmp 114), type := 4, pos := "law.go:35", after := #[{ on := 30, ground := Ground.data }, { on := 29, ground := Ground.chain }], guard := none }) (v := ?_) rfl (by kernel_rfl) (by kernel_rfl) (by kernel_rfl) (fun c a w h => hp c a _ _ w h) (Or.inl ⟨by rfl, ?_⟩) (by assumption) ?_
      rotate_left 1
      · (intro W hSW; unfold HeadT at hSW; first | (go_simp; done) | (go_simp; with_reducible rfl))
      try simp only [Act.put, List.setIfInBounds_toArray, List.set_cons_zero, List.set_cons_succ]
      rw [show ((((((((((((((lst9 19).setIfInBounds 19 true).setIfInBounds 24 true).setIfInBounds 20 true).setIfInBounds 25 true).setIfInBounds 26 true).setIfInBounds 27 true).setIfInBounds 21 true).setIfInBounds 22 true).setIfInBounds 23 true).setIfInBounds 28 true).setIfInBounds 29 true).setIfInBounds 30 true).setIfInBounds 31 true) = (lst9 32) from by kernel_rfl]
      exact hnext _ _ _ _ _ _ _ _ _ _ _ _ _ _ _ _ _ _ _ _ _ _ _ _ _ _ _ _ _ _ _ _ _ _ _ _ _ _ _ _ _ _ _ _ _ _ _ _ _ _ _ _ _ _ _ _ _ _ _ _ _ _ _ _ _ _ _ _ _ _ _ _ _ _ _ _ _ _ _ _ _ _ _ _ _ _ _ _ _ _ _ _ _ _ _ _ _ _ _ _ _ _ _ _ _ _ _ _ _ _ _ _ _ _ _ _ _ _ _ _ _ _ _ _ _ _ _ _ _ _ _ _ _ _ _ _ _ _ _ _ _ _ _ _ _ _ _ _ _ _ _ _ _ _ _ hHeld
  · rw [if_pos (by rfl)]
    go_simp
    have hga1 := World.grownBy_alloc w (.cells #[.int .i64 0, .int .i64 1] 3) none
    have hr21 : IntsW (World.alloc w (.cells #[.int .i64 0, .int .i64 1] 3)) (some ⟨w.heap.size, 0, none⟩) 2 [0, 1] := ints_new9 w [0, 1]
    obtain ⟨WA1, hWA1⟩ : ∃ W, World.alloc w (.cells #[.int .i64 0, .int .i64 1] 3) = W := ⟨_, rfl⟩
    rw [hWA1] at hga1 hr21  ⊢
    clear hWA1
    have hg1 := World.grownBy.trans hg0 hga1
    refine hK.out _ _ (HS.out _ hg1) (fun hHeld => ?_)
    clear hK K
    try simp only [Act.put, List.setIfInBounds_toArray, List.set_cons_zero, List.set_cons_succ]
    refine wpAnyH_ready (rs := [20, 25]) (by kernel_rfl) (by simp) ?_
    refine (AllReadyH.cons (o := { dst := some 104, op := Op.call { callee := Callee.value (Operand.func 91), args := #[Operand.const (Value.slice none 0 0)], argTypes := #[28] }, type := 53, pos := "law.go:35", after := #[{ on := 18, ground := Ground.chain }, { on := 18, ground := Ground.guard }], guard := some (18, true) }) rfl (fun K hK => ?_) (AllReadyH.cons (o := { dst := some 109, op := Op.buildSlice 28 2 #[(0, Operand.const (Value.int IntKind.i64 2)), (1, Operand.const (Value.int IntKind.i64 5))], type := 28, pos := "law.go:35", after := #[{ on := 18, ground := Ground.guard }], guard := some (18, true) }) rfl (fun K hK => ?_) AllReadyH.nil))
    · rw [if_pos (by rfl)]
      go_simp
      go_at_call 91
      refine (set9_calls _ _ _ _).mono ?_
      rintro e wc2 ⟨rfl, gc2⟩
      replace hr21 := hr21.grown gc2
      go_wp2_with fail
      have hg2 := World.grownBy.trans hg1 gc2
      refine hK.out _ _ (HS.out _ hg2) (fun hHeld => ?_)
      clear hK K
      try simp only [Act.put, List.setIfInBounds_toArray, List.set_cons_zero, List.set_cons_succ]
      refine wpAnyH_ready (rs := [22, 25]) (by kernel_rfl) (by simp) ?_
      refine (AllReadyH.cons (o := { dst := some 106, op := Op.call { callee := Callee.value (Operand.func 91), args := #[Operand.tmp 105], argTypes := #[28] }, type := 53, pos := "law.go:35", after := #[{ on := 21, ground := Ground.data }, { on := 20, ground := Ground.chain }, { on := 18, ground := Ground.guard }], guard := some (18, true) }) rfl (fun K hK => ?_) (AllReadyH.cons (o := { dst := some 109, op := Op.buildSlice 28 2 #[(0, Operand.const (Value.int IntKind.i64 2)), (1, Operand.const (Value.int IntKind.i64 5))], type := 28, pos := "law.go:35", after := #[{ on := 18, ground := Ground.guard }], guard := some (18, true) }) rfl (fun K hK => ?_) AllReadyH.nil))
      · rw [if_pos (by rfl)]
        go_simp
        go_at_call 91
        refine (set9_calls _ _ _ _).mono ?_
        rintro e wc3 ⟨rfl, gc3⟩
        replace hr21 := hr21.grown gc3
        go_wp2_with fail
        have hg3 := World.grownBy.trans hg2 gc3
        refine hK.out _ _ (HS.out _ hg3) (fun hHeld => ?_)
        clear hK K
        try simp only [Act.put, List.setIfInBounds_toArray, List.set_cons_zero, List.set_cons_succ]
        refine wpAnyH_take (i := 23) (oi := { dst := some 107, op := Op.build 74 #[(0, Operand.tmp 104), (1, Operand.tmp 106)], type := 74, pos := "law.go:35", after := #[{ on := 20, ground := Ground.data }, { on := 22, ground := Ground.data }, { on := 18, ground := Ground.guard }], guard := some (18, true) }) (v := ?_) rfl (by kernel_rfl) (by kernel_rfl) (by kernel_rfl) (fun c a w h => hp c a _ _ w h) (Or.inl ⟨by rfl, ?_⟩) (by assumption) ?_
        rotate_left 1
        · (intro W hSW; unfold HeadT at hSW; first | (go_simp; done) | (go_simp; with_reducible rfl))
        try simp only [Act.put, List.setIfInBounds_toArray, List.set_cons_zero, List.set_cons_succ]
        refine wpAnyH_ready (rs := [25]) (by kernel_rfl) (by simp) ?_
        refine (AllReadyH.cons (o := { dst := some 109, op := Op.buildSlice 28 2 #[(0, Operand.const (Value.int IntKind.i64 2)), (1, Operand.const (Value.int IntKind.i64 5))], type := 28, pos := "law.go:35", after := #[{ on := 18, ground := Ground.guard }], guard := some (18, true) }) rfl (fun K hK => ?_) AllReadyH.nil)
        rw [if_pos (by rfl)]
        go_simp
        have hga4 := World.grownBy_alloc wc3 (.cells #[.int .i64 2, .int .i64 5] 3) none
        have hr25 : IntsW (World.alloc wc3 (.cells #[.int .i64 2, .int .i64 5] 3)) (some ⟨wc3.heap.size, 0, none⟩) 2 [2, 5] := ints_new9 wc3 [2, 5]
        replace hr21 := hr21.grown hga4
        obtain ⟨WA4, hWA4⟩ : ∃ W, World.alloc wc3 (.cells #[.int .i64 2, .int .i64 5] 3) = W := ⟨_, rfl⟩
        rw [hWA4] at hga4 hr25 hr21 ⊢
        clear hWA4
        have hg4 := World.grownBy.trans hg3 hga4
        refine hK.out _ _ (HS.out _ hg4) (fun hHeld => ?_)
        clear hK K
        try simp only [Act.put, List.setIfInBounds_toArray, List.set_cons_zero, List.set_cons_succ]
        refine wpAnyH_take (i := 26) (oi := { dst := some 110, op := Op.build 53 #[(0, Operand.const (Value.int IntKind.i64 2)), (1, Operand.tmp 109)], type := 53, pos := "law.go:35", after := #[{ on := 25, ground := Ground.data }, { on := 18, ground := Ground.guard }], guard := some (18, true) }) (v := ?_) rfl (by kernel_rfl) (by kernel_rfl) (by kernel_rfl) (fun c a w h => hp c a _ _ w h) (Or.inl ⟨by rfl, ?_⟩) (by assumption) ?_
        rotate_left 1
        · (intro W hSW; unfold HeadT at hSW; first | (go_simp; done) | (go_simp; with_reducible rfl))
        try simp only [Act.put, List.setIfInBounds_toArray, List.set_cons_zero, List.set_cons_succ]
        refine wpAnyH_take (i := 27) (oi := { dst := some 111, op := Op.build 74 #[(0, Operand.tmp 108), (1, Operand.tmp 110)], type := 74, pos := "law.go:35", after := #[{ on := 24, ground := Ground.data }, { on := 26, ground := Ground.data }, { on := 18, ground := Ground.guard }], guard := some (18, true) }) (v := ?_) rfl (by kernel_rfl) (by kernel_rfl) (by kernel_rfl) (fun c a w h => hp c a _ _ w h) (Or.inl ⟨by rfl, ?_⟩) (by assumption) ?_
        rotate_left 1
        · (intro W hSW; unfold HeadT at hSW; first | (go_simp; done) | (go_simp; with_reducible rfl))
        try simp only [Act.put, List.setIfInBounds_toArray, List.set_cons_zero, List.set_cons_succ]
        refine wpAnyH_ready (rs := [28]) (by kernel_rfl) (by simp) ?_
        refine (AllReadyH.cons (o := { dst := some 112, op := Op.buildSlice 57 2 #[(0, Operand.tmp 107), (1, Operand.tmp 111)], type := 57, pos := "law.go:35", after := #[{ on := 23, ground := Ground.data }, { on := 27, ground := Ground.data }, { on := 18, ground := Ground.guard }], guard := some (18, true) }) rfl (fun K hK => ?_) AllReadyH.nil)
        rw [if_pos (by rfl)]
        go_simp
        have hga5 := World.grownBy_alloc WA4 (.cells #[.int .i64 1, .slice none 0 0, .int .i64 1, .slice (some ⟨w.heap.size, 0, none⟩) 2 2, .int .i64 2, .slice none 0 0, .int .i64 2, .slice (some ⟨wc3.heap.size, 0, none⟩) 2 2] 74) none
        have hr28 : Bds (World.alloc WA4 (.cells #[.int .i64 1, .slice none 0 0, .int .i64 1, .slice (some ⟨w.heap.size, 0, none⟩) 2 2, .int .i64 2, .slice none 0 0, .int .i64 2, .slice (some ⟨wc3.heap.size, 0, none⟩) 2 2] 74)) (some ⟨WA4.heap.size, 0, none⟩) 2 [((1, []), (1, [0, 1])), ((2, []), (2, [2, 5]))] := bds_lit2 WA4 ((1, []), (1, [0, 1])) ((2, []), (2, [2, 5])) none (some ⟨w.heap.size, 0, none⟩) none (some ⟨wc3.heap.size, 0, none⟩) 0 2 0 2 (intsW_nil _ _ _) hr21 (intsW_nil _ _ _) hr25
        replace hr21 := hr21.grown hga5
        replace hr25 := hr25.grown hga5
        obtain ⟨WA5, hWA5⟩ : ∃ W, World.alloc WA4 (.cells #[.int .i64 1, .slice none 0 0, .int .i64 1, .slice (some ⟨w.heap.size, 0, none⟩) 2 2, .int .i64 2, .slice none 0 0, .int .i64 2, .slice (some ⟨wc3.heap.size, 0, none⟩) 2 2] 74) = W := ⟨_, rfl⟩
        rw [hWA5] at hga5 hr28 hr21 hr25 ⊢
        clear hWA5
        have hg5 := World.grownBy.trans hg4 hga5
        refine hK.out _ _ (HS.out _ hg5) (fun hHeld => ?_)
        clear hK K
        try simp only [Act.put, List.setIfInBounds_toArray, List.set_cons_zero, List.set_cons_succ]
        refine wpAnyH_ready (rs := [29]) (by kernel_rfl) (by simp) ?_
        refine (AllReadyH.cons (o := { dst := some 113, op := Op.call { callee := Callee.value (Operand.func 42), args := #[Operand.tmp 103, Operand.tmp 112], argTypes := #[57, 57] }, type := 4, pos := "law.go:35", after := #[{ on := 19, ground := Ground.data }, { on := 28, ground := Ground.data }, { on := 22, ground := Ground.chain }, { on := 18, ground := Ground.guard }], guard := some (18, true) }) rfl (fun K hK => ?_) AllReadyH.nil)
        rw [if_pos (by rfl)]
        go_simp
        go_at_call 42
        refine (c29 _ _ _ (h0.1.trans hg5) hr28).mono ?_
        rintro e wc6 ⟨rfl, gc6⟩
        replace hr21 := hr21.grown gc6
        replace hr25 := hr25.grown gc6
        replace hr28 := hr28.grown gc6
        go_wp2_with fail
        have hg6 := World.grownBy.trans hg5 gc6
        refine hK.out _ _ (HS.out _ hg6) (fun hHeld => ?_)
        clear hK K
        try simp only [Act.put, List.setIfInBounds_toArray, List.set_cons_zero, List.set_cons_succ]
        refine wpAnyH_take (i := 30) (oi := { dst := some 114, op := Op.pick (Operand.tmp 102) (Operand.tmp 113) (Operand.const (Value.bool false)), type := 4, pos := "law.go:35", after := #[{ on := 18, ground := Ground.data }, { on := 29, ground := Ground.data }], guard := none }) (v := ?_) rfl (by kernel_rfl) (by kernel_rfl) (by kernel_rfl) (fun c a w h => hp c a _ _ w h) (Or.inl ⟨by rfl, ?_⟩) (by assumption) ?_
        rotate_left 1
        · (intro W hSW; unfold HeadT at hSW; first | (go_simp; done) | (go_simp; with_reducible rfl))
        try simp only [Act.put, List.setIfInBounds_toArray, List.set_cons_zero, List.set_cons_succ]
        refine wpAnyH_take (i := 31) (oi := { dst := some 115, op := Op.move (Operand.tmp 114), type := 4, pos := "law.go:35", after := #[{ on := 30, ground := Ground.data }, { on := 29, ground := Ground.chain }], guard := none }) (v := ?_) rfl (by kernel_rfl) (by kernel_rfl) (by kernel_rfl) (fun c a w h => hp c a _ _ w h) (Or.inl ⟨by rfl, ?_⟩) (by assumption) ?_
        rotate_left 1
        · (intro W hSW; unfold HeadT at hSW; first | (go_simp; done) | (go_simp; with_reducible rfl))
        try simp only [Act.put, List.setIfInBounds_toArray, List.set_cons_zero, List.set_cons_succ]
        rw [show ((((((((((((((lst9 19).setIfInBounds 19 true).setIfInBounds 24 true).setIfInBounds 21 true).setIfInBounds 20 true).setIfInBounds 22 true).setIfInBounds 23 true).setIfInBounds 25 true).setIfInBounds 26 true).setIfInBounds 27 true).setIfInBounds 28 true).setIfInBounds 29 true).setIfInBounds 30 true).setIfInBounds 31 true) = (lst9 32) from by kernel_rfl]
        exact hnext _ _ _ _ _ _ _ _ _ _ _ _ _ _ _ _ _ _ _ _ _ _ _ _ _ _ _ _ _ _ _ _ _ _ _ _ _ _ _ _ _ _ _ _ _ _ _ _ _ _ _ _ _ _ _ _ _ _ _ _ _ _ _ _ _ _ _ _ _ _ _ _ _ _ _ _ _ _ _ _ _ _ _ _ _ _ _ _ _ _ _ _ _ _ _ _ _ _ _ _ _ _ _ _ _ _ _ _ _ _ _ _ _ _ _ _ _ _ _ _ _ _ _ _ _ _ _ _ _ _ _ _ _ _ _ _ _ _ _ _ _ _ _ _ _ _ _ _ _ _ _ _ _ _ _ hHeld
      · rw [if_pos (by rfl)]
        go_simp
        have hga3 := World.grownBy_alloc wc2 (.cells #[.int .i64 2, .int .i64 5] 3) none
        have hr25 : IntsW (World.alloc wc2 (.cells #[.int .i64 2, .int .i64 5] 3)) (some ⟨wc2.heap.size, 0, none⟩) 2 [2, 5] := ints_new9 wc2 [2, 5]
        replace hr21 := hr21.grown hga3
        obtain ⟨WA3, hWA3⟩ : ∃ W, World.alloc wc2 (.cells #[.int .i64 2, .int .i64 5] 3) = W := ⟨_, rfl⟩
        rw [hWA3] at hga3 hr25 hr21 ⊢
        clear hWA3
        have hg3 := World.grownBy.trans hg2 hga3
        refine hK.out _ _ (HS.out _ hg3) (fun hHeld => ?_)
        clear hK K
        try simp only [Act.put, List.setIfInBounds_toArray, List.set_cons_zero, List.set_cons_succ]
        refine wpAnyH_take (i := 26) (oi := { dst := some 110, op := Op.build 53 #[(0, Operand.const (Value.int IntKind.i64 2)), (1, Operand.tmp 109)], type := 53, pos := "law.go:35", after := #[{ on := 25, ground := Ground.data }, { on := 18, ground := Ground.guard }], guard := some (18, true) }) (v := ?_) rfl (by kernel_rfl) (by kernel_rfl) (by kernel_rfl) (fun c a w h => hp c a _ _ w h) (Or.inl ⟨by rfl, ?_⟩) (by assumption) ?_
        rotate_left 1
        · (intro W hSW; unfold HeadT at hSW; first | (go_simp; done) | (go_simp; with_reducible rfl))
        try simp only [Act.put, List.setIfInBounds_toArray, List.set_cons_zero, List.set_cons_succ]
        refine wpAnyH_take (i := 27) (oi := { dst := some 111, op := Op.build 74 #[(0, Operand.tmp 108), (1, Operand.tmp 110)], type := 74, pos := "law.go:35", after := #[{ on := 24, ground := Ground.data }, { on := 26, ground := Ground.data }, { on := 18, ground := Ground.guard }], guard := some (18, true) }) (v := ?_) rfl (by kernel_rfl) (by kernel_rfl) (by kernel_rfl) (fun c a w h => hp c a _ _ w h) (Or.inl ⟨by rfl, ?_⟩) (by assumption) ?_
        rotate_left 1
        · (intro W hSW; unfold HeadT at hSW; first | (go_simp; done) | (go_simp; with_reducible rfl))
        try simp only [Act.put, List.setIfInBounds_toArray, List.set_cons_zero, List.set_cons_succ]
        refine wpAnyH_ready (rs := [22]) (by kernel_rfl) (by simp) ?_
        refine (AllReadyH.cons (o := { dst := some 106, op := Op.call { callee := Callee.value (Operand.func 91), args := #[Operand.tmp 105], argTypes := #[28] }, type := 53, pos := "law.go:35", after := #[{ on := 21, ground := Ground.data }, { on := 20, ground := Ground.chain }, { on := 18, ground := Ground.guard }], guard := some (18, true) }) rfl (fun K hK => ?_) AllReadyH.nil)
        rw [if_pos (by rfl)]
        go_simp
        go_at_call 91
        refine (set9_calls _ _ _ _).mono ?_
        rintro e wc4 ⟨rfl, gc4⟩
        replace hr21 := hr21.grown gc4
        replace hr25 := hr25.grown gc4
        go_wp2_with fail
        have hg4 := World.grownBy.trans hg3 gc4
        refine hK.out _ _ (HS.out _ hg4) (fun hHeld => ?_)
        clear hK K
        try simp only [Act.put, List.setIfInBounds_toArray, List.set_cons_zero, List.set_cons_succ]
        refine wpAnyH_take (i := 23) (oi := { dst := some 107, op := Op.build 74 #[(0, Operand.tmp 104), (1, Operand.tmp 106)], type := 74, pos := "law.go:35", after := #[{ on := 20, ground := Ground.data }, { on := 22, ground := Ground.data }, { on := 18, ground := Ground.guard }], guard := some (18, true) }) (v := ?_) rfl (by kernel_rfl) (by kernel_rfl) (by kernel_rfl) (fun c a w h => hp c a _ _ w h) (Or.inl ⟨by rfl, ?_⟩) (by assumption) ?_
        rotate_left 1
        · (intro W hSW; unfold HeadT at hSW; first | (go_simp; done) | (go_simp; with_reducible rfl))
        try simp only [Act.put, List.setIfInBounds_toArray, List.set_cons_zero, List.set_cons_succ]
        refine wpAnyH_ready (rs := [28]) (by kernel_rfl) (by simp) ?_
        refine (AllReadyH.cons (o := { dst := some 112, op := Op.buildSlice 57 2 #[(0, Operand.tmp 107), (1, Operand.tmp 111)], type := 57, pos := "law.go:35", after := #[{ on := 23, ground := Ground.data }, { on := 27, ground := Ground.data }, { on := 18, ground := Ground.guard }], guard := some (18, true) }) rfl (fun K hK => ?_) AllReadyH.nil)
        rw [if_pos (by rfl)]
        go_simp
        have hga5 := World.grownBy_alloc wc4 (.cells #[.int .i64 1, .slice none 0 0, .int .i64 1, .slice (some ⟨w.heap.size, 0, none⟩) 2 2, .int .i64 2, .slice none 0 0, .int .i64 2, .slice (some ⟨wc2.heap.size, 0, none⟩) 2 2] 74) none
        have hr28 : Bds (World.alloc wc4 (.cells #[.int .i64 1, .slice none 0 0, .int .i64 1, .slice (some ⟨w.heap.size, 0, none⟩) 2 2, .int .i64 2, .slice none 0 0, .int .i64 2, .slice (some ⟨wc2.heap.size, 0, none⟩) 2 2] 74)) (some ⟨wc4.heap.size, 0, none⟩) 2 [((1, []), (1, [0, 1])), ((2, []), (2, [2, 5]))] := bds_lit2 wc4 ((1, []), (1, [0, 1])) ((2, []), (2, [2, 5])) none (some ⟨w.heap.size, 0, none⟩) none (some ⟨wc2.heap.size, 0, none⟩) 0 2 0 2 (intsW_nil _ _ _) hr21 (intsW_nil _ _ _) hr25
        replace hr21 := hr21.grown hga5
        replace hr25 := hr25.grown hga5
        obtain ⟨WA5, hWA5⟩ : ∃ W, World.alloc wc4 (.cells #[.int .i64 1, .slice none 0 0, .int .i64 1, .slice (some ⟨w.heap.size, 0, none⟩) 2 2, .int .i64 2, .slice none 0 0, .int .i64 2, .slice (some ⟨wc2.heap.size, 0, none⟩) 2 2] 74) = W := ⟨_, rfl⟩
        rw [hWA5] at hga5 hr28 hr21 hr25 ⊢
        clear hWA5
        have hg5 := World.grownBy.trans hg4 hga5
        refine hK.out _ _ (HS.out _ hg5) (fun hHeld => ?_)
        clear hK K
        try simp only [Act.put, List.setIfInBounds_toArray, List.set_cons_zero, List.set_cons_succ]
        refine wpAnyH_ready (rs := [29]) (by kernel_rfl) (by simp) ?_
        refine (AllReadyH.cons (o := { dst := some 113, op := Op.call { callee := Callee.value (Operand.func 42), args := #[Operand.tmp 103, Operand.tmp 112], argTypes := #[57, 57] }, type := 4, pos := "law.go:35", after := #[{ on := 19, ground := Ground.data }, { on := 28, ground := Ground.data }, { on := 22, ground := Ground.chain }, { on := 18, ground := Ground.guard }], guard := some (18, true) }) rfl (fun K hK => ?_) AllReadyH.nil)
        rw [if_pos (by rfl)]
        go_simp
        go_at_call 42
        refine (c29 _ _ _ (h0.1.trans hg5) hr28).mono ?_
        rintro e wc6 ⟨rfl, gc6⟩
        replace hr21 := hr21.grown gc6
        replace hr25 := hr25.grown gc6
        replace hr28 := hr28.grown gc6
        go_wp2_with fail
        have hg6 := World.grownBy.trans hg5 gc6
        refine hK.out _ _ (HS.out _ hg6) (fun hHeld => ?_)
        clear hK K
        try simp only [Act.put, List.setIfInBounds_toArray, List.set_cons_zero, List.set_cons_succ]
        refine wpAnyH_take (i := 30) (oi := { dst := some 114, op := Op.pick (Operand.tmp 102) (Operand.tmp 113) (Operand.const (Value.bool false)), type := 4, pos := "law.go:35", after := #[{ on := 18, ground := Ground.data }, { on := 29, ground := Ground.data }], guard := none }) (v := ?_) rfl (by kernel_rfl) (by kernel_rfl) (by kernel_rfl) (fun c a w h => hp c a _ _ w h) (Or.inl ⟨by rfl, ?_⟩) (by assumption) ?_
        rotate_left 1
        · (intro W hSW; unfold HeadT at hSW; first | (go_simp; done) | (go_simp; with_reducible rfl))
        try simp only [Act.put, List.setIfInBounds_toArray, List.set_cons_zero, List.set_cons_succ]
        refine wpAnyH_take (i := 31) (oi := { dst := some 115, op := Op.move (Operand.tmp 114), type := 4, pos := "law.go:35", after := #[{ on := 30, ground := Ground.data }, { on := 29, ground := Ground.chain }], guard := none }) (v := ?_) rfl (by kernel_rfl) (by kernel_rfl) (by kernel_rfl) (fun c a w h => hp c a _ _ w h) (Or.inl ⟨by rfl, ?_⟩) (by assumption) ?_
        rotate_left 1
        · (intro W hSW; unfold HeadT at hSW; first | (go_simp; done) | (go_simp; with_reducible rfl))
        try simp only [Act.put, List.setIfInBounds_toArray, List.set_cons_zero, List.set_cons_succ]
        rw [show ((((((((((((((lst9 19).setIfInBounds 19 true).setIfInBounds 24 true).setIfInBounds 21 true).setIfInBounds 20 true).setIfInBounds 25 true).setIfInBounds 26 true).setIfInBounds 27 true).setIfInBounds 22 true).setIfInBounds 23 true).setIfInBounds 28 true).setIfInBounds 29 true).setIfInBounds 30 true).setIfInBounds 31 true) = (lst9 32) from by kernel_rfl]
        exact hnext _ _ _ _ _ _ _ _ _ _ _ _ _ _ _ _ _ _ _ _ _ _ _ _ _ _ _ _ _ _ _ _ _ _ _ _ _ _ _ _ _ _ _ _ _ _ _ _ _ _ _ _ _ _ _ _ _ _ _ _ _ _ _ _ _ _ _ _ _ _ _ _ _ _ _ _ _ _ _ _ _ _ _ _ _ _ _ _ _ _ _ _ _ _ _ _ _ _ _ _ _ _ _ _ _ _ _ _ _ _ _ _ _ _ _ _ _ _ _ _ _ _ _ _ _ _ _ _ _ _ _ _ _ _ _ _ _ _ _ _ _ _ _ _ _ _ _ _ _ _ _ _ _ _ _ hHeld
    · rw [if_pos (by rfl)]
      go_simp
      have hga2 := World.grownBy_alloc WA1 (.cells #[.int .i64 2, .int .i64 5] 3) none
      have hr25 : IntsW (World.alloc WA1 (.cells #[.int .i64 2, .int .i64 5] 3)) (some ⟨WA1.heap.size, 0, none⟩) 2 [2, 5] := ints_new9 WA1 [2, 5]
      replace hr21 := hr21.grown hga2
      obtain ⟨WA2, hWA2⟩ : ∃ W, World.alloc WA1 (.cells #[.int .i64 2, .int .i64 5] 3) = W := ⟨_, rfl⟩
      rw [hWA2] at hga2 hr25 hr21 ⊢
      clear hWA2
      have hg2 := World.grownBy.trans hg1 hga2
      refine hK.out _ _ (HS.out _ hg2) (fun hHeld => ?_)
      clear hK K
      try simp only [Act.put, List.setIfInBounds_toArray, List.set_cons_zero, List.set_cons_succ]
      refine wpAnyH_take (i := 26) (oi := { dst := some 110, op := Op.build 53 #[(0, Operand.const (Value.int IntKind.i64 2)), (1, Operand.tmp 109)], type := 53, pos := "law.go:35", after := #[{ on := 25, ground := Ground.data }, { on := 18, ground := Ground.guard }], guard := some (18, true) }) (v := ?_) rfl (by kernel_rfl) (by kernel_rfl) (by kernel_rfl) (fun c a w h => hp c a _ _ w h) (Or.inl ⟨by rfl, ?_⟩) (by assumption) ?_
      rotate_left 1
      · (intro W hSW; unfold HeadT at hSW; first | (go_simp; done) | (go_simp; with_reducible rfl))
      try simp only [Act.put, List.setIfInBounds_toArray, List.set_cons_zero, List.set_cons_succ]
      refine wpAnyH_take (i := 27) (oi := { dst := some 111, op := Op.build 74 #[(0, Operand.tmp 108), (1, Operand.tmp 110)], type := 74, pos := "law.go:35", after := #[{ on := 24, ground := Ground.data }, { on := 26, ground := Ground.data }, { on := 18, ground := Ground.guard }], guard := some (18, true) }) (v := ?_) rfl (by kernel_rfl) (by kernel_rfl) (by kernel_rfl) (fun c a w h => hp c a _ _ w h) (Or.inl ⟨by rfl, ?_⟩) (by assumption) ?_
      rotate_left 1
      · (intro W hSW; unfold HeadT at hSW; first | (go_simp; done) | (go_simp; with_reducible rfl))
      try simp only [Act.put, List.setIfInBounds_toArray, List.set_cons_zero, List.set_cons_succ]
      refine wpAnyH_ready (rs := [20]) (by kernel_rfl) (by simp) ?_
      refine (AllReadyH.cons (o := { dst := some 104, op := Op.call { callee := Callee.value (Operand.func 91), args := #[Operand.const (Value.slice none 0 0)], argTypes := #[28] }, type := 53, pos := "law.go:35", after := #[{ on := 18, ground := Ground.chain }, { on := 18, ground := Ground.guard }], guard := some (18, true) }) rfl (fun K hK => ?_) AllReadyH.nil)
      rw [if_pos (by rfl)]
      go_simp
      go_at_call 91
      refine (set9_calls _ _ _ _).mono ?_
      rintro e wc3 ⟨rfl, gc3⟩
      replace hr21 := hr21.grown gc3
      replace hr25 := hr25.grown gc3
      go_wp2_with fail
      have hg3 := World.grownBy.trans hg2 gc3
      refine hK.out _ _ (HS.out _ hg3) (fun hHeld => ?_)
      clear hK K
      try simp only [Act.put, List.setIfInBounds_toArray, List.set_cons_zero, List.set_cons_succ]
      refine wpAnyH_ready (rs := [22]) (by kernel_rfl) (by simp) ?_
      refine (AllReadyH.cons (o := { dst := some 106, op := Op.call { callee := Callee.value (Operand.func 91), args := #[Operand.tmp 105], argTypes := #[28] }, type := 53, pos := "law.go:35", after := #[{ on := 21, ground := Ground.data }, { on := 20, ground := Ground.chain }, { on := 18, ground := Ground.guard }], guard := some (18, true) }) rfl (fun K hK => ?_) AllReadyH.nil)
      rw [if_pos (by rfl)]
      go_simp
      go_at_call 91
      refine (set9_calls _ _ _ _).mono ?_
      rintro e wc4 ⟨rfl, gc4⟩
      replace hr21 := hr21.grown gc4
      replace hr25 := hr25.grown gc4
      go_wp2_with fail
      have hg4 := World.grownBy.trans hg3 gc4
      refine hK.out _ _ (HS.out _ hg4) (fun hHeld => ?_)
      clear hK K
      try simp only [Act.put, List.setIfInBounds_toArray, List.set_cons_zero, List.set_cons_succ]
      refine wpAnyH_take (i := 23) (oi := { dst := some 107, op := Op.build 74 #[(0, Operand.tmp 104), (1, Operand.tmp 106)], type := 74, pos := "law.go:35", after := #[{ on := 20, ground := Ground.data }, { on := 22, ground := Ground.data }, { on := 18, ground := Ground.guard }], guard := some (18, true) }) (v := ?_) rfl (by kernel_rfl) (by kernel_rfl) (by kernel_rfl) (fun c a w h => hp c a _ _ w h) (Or.inl ⟨by rfl, ?_⟩) (by assumption) ?_
      rotate_left 1
      · (intro W hSW; unfold HeadT at hSW; first | (go_simp; done) | (go_simp; with_reducible rfl))
      try simp only [Act.put, List.setIfInBounds_toArray, List.set_cons_zero, List.set_cons_succ]
      refine wpAnyH_ready (rs := [28]) (by kernel_rfl) (by simp) ?_
      refine (AllReadyH.cons (o := { dst := some 112, op := Op.buildSlice 57 2 #[(0, Operand.tmp 107), (1, Operand.tmp 111)], type := 57, pos := "law.go:35", after := #[{ on := 23, ground := Ground.data }, { on := 27, ground := Ground.data }, { on := 18, ground := Ground.guard }], guard := some (18, true) }) rfl (fun K hK => ?_) AllReadyH.nil)
      rw [if_pos (by rfl)]
      go_simp
      have hga5 := World.grownBy_alloc wc4 (.cells #[.int .i64 1, .slice none 0 0, .int .i64 1, .slice (some ⟨w.heap.size, 0, none⟩) 2 2, .int .i64 2, .slice none 0 0, .int .i64 2, .slice (some ⟨WA1.heap.size, 0, none⟩) 2 2] 74) none
      have hr28 : Bds (World.alloc wc4 (.cells #[.int .i64 1, .slice none 0 0, .int .i64 1, .slice (some ⟨w.heap.size, 0, none⟩) 2 2, .int .i64 2, .slice none 0 0, .int .i64 2, .slice (some ⟨WA1.heap.size, 0, none⟩) 2 2] 74)) (some ⟨wc4.heap.size, 0, none⟩) 2 [((1, []), (1, [0, 1])), ((2, []), (2, [2, 5]))] := bds_lit2 wc4 ((1, []), (1, [0, 1])) ((2, []), (2, [2, 5])) none (some ⟨w.heap.size, 0, none⟩) none (some ⟨WA1.heap.size, 0, none⟩) 0 2 0 2 (intsW_nil _ _ _) hr21 (intsW_nil _ _ _) hr25
      replace hr21 := hr21.grown hga5
      replace hr25 := hr25.grown hga5
      obtain ⟨WA5, hWA5⟩ : ∃ W, World.alloc wc4 (.cells #[.int .i64 1, .slice none 0 0, .int .i64 1, .slice (some ⟨w.heap.size, 0, none⟩) 2 2, .int .i64 2, .slice none 0 0, .int .i64 2, .slice (some ⟨WA1.heap.size, 0, none⟩) 2 2] 74) = W := ⟨_, rfl⟩
      rw [hWA5] at hga5 hr28 hr21 hr25 ⊢
      clear hWA5
      have hg5 := World.grownBy.trans hg4 hga5
      refine hK.out _ _ (HS.out _ hg5) (fun hHeld => ?_)
      clear hK K
      try simp only [Act.put, List.setIfInBounds_toArray, List.set_cons_zero, List.set_cons_succ]
      refine wpAnyH_ready (rs := [29]) (by kernel_rfl) (by simp) ?_
      refine (AllReadyH.cons (o := { dst := some 113, op := Op.call { callee := Callee.value (Operand.func 42), args := #[Operand.tmp 103, Operand.tmp 112], argTypes := #[57, 57] }, type := 4, pos := "law.go:35", after := #[{ on := 19, ground := Ground.data }, { on := 28, ground := Ground.data }, { on := 22, ground := Ground.chain }, { on := 18, ground := Ground.guard }], guard := some (18, true) }) rfl (fun K hK => ?_) AllReadyH.nil)
      rw [if_pos (by rfl)]
      go_simp
      go_at_call 42
      refine (c29 _ _ _ (h0.1.trans hg5) hr28).mono ?_
      rintro e wc6 ⟨rfl, gc6⟩
      replace hr21 := hr21.grown gc6
      replace hr25 := hr25.grown gc6
      replace hr28 := hr28.grown gc6
      go_wp2_with fail
      have hg6 := World.grownBy.trans hg5 gc6
      refine hK.out _ _ (HS.out _ hg6) (fun hHeld => ?_)
      clear hK K
      try simp only [Act.put, List.setIfInBounds_toArray, List.set_cons_zero, List.set_cons_succ]
      refine wpAnyH_take (i := 30) (oi := { dst := some 114, op := Op.pick (Operand.tmp 102) (Operand.tmp 113) (Operand.const (Value.bool false)), type := 4, pos := "law.go:35", after := #[{ on := 18, ground := Ground.data }, { on := 29, ground := Ground.data }], guard := none }) (v := ?_) rfl (by kernel_rfl) (by kernel_rfl) (by kernel_rfl) (fun c a w h => hp c a _ _ w h) (Or.inl ⟨by rfl, ?_⟩) (by assumption) ?_
      rotate_left 1
      · (intro W hSW; unfold HeadT at hSW; first | (go_simp; done) | (go_simp; with_reducible rfl))
      try simp only [Act.put, List.setIfInBounds_toArray, List.set_cons_zero, List.set_cons_succ]
      refine wpAnyH_take (i := 31) (oi := { dst := some 115, op := Op.move (Operand.tmp 114), type := 4, pos := "law.go:35", after := #[{ on := 30, ground := Ground.data }, { on := 29, ground := Ground.chain }], guard := none }) (v := ?_) rfl (by kernel_rfl) (by kernel_rfl) (by kernel_rfl) (fun c a w h => hp c a _ _ w h) (Or.inl ⟨by rfl, ?_⟩) (by assumption) ?_
      rotate_left 1
      · (intro W hSW; unfold HeadT at hSW; first | (go_simp; done) | (go_simp; with_reducible rfl))
      try simp only [Act.put, List.setIfInBounds_toArray, List.set_cons_zero, List.set_cons_succ]
      rw [show ((((((((((((((lst9 19).setIfInBounds 19 true).setIfInBounds 24 true).setIfInBounds 21 true).setIfInBounds 25 true).setIfInBounds 26 true).setIfInBounds 27 true).setIfInBounds 20 true).setIfInBounds 22 true).setIfInBounds 23 true).setIfInBounds 28 true).setIfInBounds 29 true).setIfInBounds 30 true).setIfInBounds 31 true) = (lst9 32) from by kernel_rfl]
      exact hnext _ _ _ _ _ _ _ _ _ _ _ _ _ _ _ _ _ _ _ _ _ _ _ _ _ _ _ _ _ _ _ _ _ _ _ _ _ _ _ _ _ _ _ _ _ _ _ _ _ _ _ _ _ _ _ _ _ _ _ _ _ _ _ _ _ _ _ _ _ _ _ _ _ _ _ _ _ _ _ _ _ _ _ _ _ _ _ _ _ _ _ _ _ _ _ _ _ _ _ _ _ _ _ _ _ _ _ _ _ _ _ _ _ _ _ _ _ _ _ _ _ _ _ _ _ _ _ _ _ _ _ _ _ _ _ _ _ _ _ _ _ _ _ _ _ _ _ _ _ _ _ _ _ _ _ hHeld
  · rw [if_pos (by rfl)]
    go_simp
    have hga1 := World.grownBy_alloc w (.cells #[.int .i64 2, .int .i64 5] 3) none
    have hr25 : IntsW (World.alloc w (.cells #[.int .i64 2, .int .i64 5] 3)) (some ⟨w.heap.size, 0, none⟩) 2 [2, 5] := ints_new9 w [2, 5]
    obtain ⟨WA1, hWA1⟩ : ∃ W, World.alloc w (.cells #[.int .i64 2, .int .i64 5] 3) = W := ⟨_, rfl⟩
    rw [hWA1] at hga1 hr25  ⊢
    clear hWA1
    have hg1 := World.grownBy.trans hg0 hga1
    refine hK.out _ _ (HS.out _ hg1) (fun hHeld => ?_)
    clear hK K
    try simp only [Act.put, List.setIfInBounds_toArray, List.set_cons_zero, List.set_cons_succ]
    refine wpAnyH_take (i := 26) (oi := { dst := some 110, op := Op.build 53 #[(0, Operand.const (Value.int IntKind.i64 2)), (1, Operand.tmp 109)], type := 53, pos := "law.go:35", after := #[{ on := 25, ground := Ground.data }, { on := 18, ground := Ground.guard }], guard := some (18, true) }) (v := ?_) rfl (by kernel_rfl) (by kernel_rfl) (by kernel_rfl) (fun c a w h => hp c a _ _ w h) (Or.inl ⟨by rfl, ?_⟩) (by assumption) ?_
    rotate_left 1
    · (intro W hSW; unfold HeadT at hSW; first | (go_simp; done) | (go_simp; with_reducible rfl))
    try simp only [Act.put, List.setIfInBounds_toArray, List.set_cons_zero, List.set_cons_succ]
    refine wpAnyH_take (i := 27) (oi := { dst := some 111, op := Op.build 74 #[(0, Operand.tmp 108), (1, Operand.tmp 110)], type := 74, pos := "law.go:35", after := #[{ on := 24, ground := Ground.data }, { on := 26, ground := Ground.data }, { on := 18, ground := Ground.guard }], guard := some (18, true) }) (v := ?_) rfl (by kernel_rfl) (by kernel_rfl) (by kernel_rfl) (fun c a w h => hp c a _ _ w h) (Or.inl ⟨by rfl, ?_⟩) (by assumption) ?_
    rotate_left 1
    · (intro W hSW; unfold HeadT at hSW; first | (go_simp; done) | (go_simp; with_reducible rfl))
    try simp only [Act.put, List.setIfInBounds_toArray, List.set_cons_zero, List.set_cons_succ]
    refine wpAnyH_ready (rs := [20, 21]) (by kernel_rfl) (by simp) ?_
    refine (AllReadyH.cons (o := { dst := some 104, op := Op.call { callee := Callee.value (Operand.func 91), args := #[Operand.const (Value.slice none 0 0)], argTypes := #[28] }, type := 53, pos := "law.go:35", after := #[{ on := 18, ground := Ground.chain }, { on := 18, ground := Ground.guard }], guard := some (18, true) }) rfl (fun K hK => ?_) (AllReadyH.cons (o := { dst := some 105, op := Op.buildSlice 28 2 #[(0, Operand.const (Value.int IntKind.i64 0)), (1, Operand.const (Value.int IntKind.i64 1))], type := 28, pos := "law.go:35", after := #[{ on := 18, ground := Ground.guard }], guard := some (18, true) }) rfl (fun K hK => ?_) AllReadyH.nil))
    · rw [if_pos (by rfl)]
      go_simp
      go_at_call 91
      refine (set9_calls _ _ _ _).mono ?_
      rintro e wc2 ⟨rfl, gc2⟩
      replace hr25 := hr25.grown gc2
      go_wp2_with fail
      have hg2 := World.grownBy.trans hg1 gc2
      refine hK.out _ _ (HS.out _ hg2) (fun hHeld => ?_)
      clear hK K
      try simp only [Act.put, List.setIfInBounds_toArray, List.set_cons_zero, List.set_cons_succ]
      refine wpAnyH_ready (rs := [21]) (by kernel_rfl) (by simp) ?_
      refine (AllReadyH.cons (o := { dst := some 105, op := Op.buildSlice 28 2 #[(0, Operand.const (Value.int IntKind.i64 0)), (1, Operand.const (Value.int IntKind.i64 1))], type := 28, pos := "law.go:35", after := #[{ on := 18, ground := Ground.guard }], guard := some (18, true) }) rfl (fun K hK => ?_) AllReadyH.nil)
      rw [if_pos (by rfl)]
      go_simp
      have hga3 := World.grownBy_alloc wc2 (.cells #[.int .i64 0, .int .i64 1] 3) none
      have hr21 : IntsW (World.alloc wc2 (.cells #[.int .i64 0, .int .i64 1] 3)) (some ⟨wc2.heap.size, 0, none⟩) 2 [0, 1] := ints_new9 wc2 [0, 1]
      replace hr25 := hr25.grown hga3
      obtain ⟨WA3, hWA3⟩ : ∃ W, World.alloc wc2 (.cells #[.int .i64 0, .int .i64 1] 3) = W := ⟨_, rfl⟩
      rw [hWA3] at hga3 hr21 hr25 ⊢
      clear hWA3
      have hg3 := World.grownBy.trans hg2 hga3
      refine hK.out _ _ (HS.out _ hg3) (fun hHeld => ?_)
      clear hK K
      try simp only [Act.put, List.setIfInBounds_toArray, List.set_cons_zero, List.set_cons_succ]
      refine wpAnyH_ready (rs := [22]) (by kernel_rfl) (by simp) ?_
      refine (AllReadyH.cons (o := { dst := some 106, op := Op.call { callee := Callee.value (Operand.func 91), args := #[Operand.tmp 105], argTypes := #[28] }, type := 53, pos := "law.go:35", after := #[{ on := 21, ground := Ground.data }, { on := 20, ground := Ground.chain }, { on := 18, ground := Ground.guard }], guard := some (18, true) }) rfl (fun K hK => ?_) AllReadyH.nil)
      rw [if_pos (by rfl)]
      go_simp
      go_at_call 91
      refine (set9_calls _ _ _ _).mono ?_
      rintro e wc4 ⟨rfl, gc4⟩
      replace hr25 := hr25.grown gc4
      replace hr21 := hr21.grown gc4
      go_wp2_with fail
      have hg4 := World.grownBy.trans hg3 gc4
      refine hK.out _ _ (HS.out _ hg4) (fun hHeld => ?_)
      clear hK K
      try simp only [Act.put, List.setIfInBounds_toArray, List.set_cons_zero, List.set_cons_succ]
      refine wpAnyH_take (i := 23) (oi := { dst := some 107, op := Op.build 74 #[(0, Operand.tmp 104), (1, Operand.tmp 106)], type := 74, pos := "law.go:35", after := #[{ on := 20, ground := Ground.data }, { on := 22, ground := Ground.data }, { on := 18, ground := Ground.guard }], guard := some (18, true) }) (v := ?_) rfl (by kernel_rfl) (by kernel_rfl) (by kernel_rfl) (fun c a w h => hp c a _ _ w h) (Or.inl ⟨by rfl, ?_⟩) (by assumption) ?_
      rotate_left 1
      · (intro W hSW; unfold HeadT at hSW; first | (go_simp; done) | (go_simp; with_reducible rfl))
      try simp only [Act.put, List.setIfInBounds_toArray, List.set_cons_zero, List.set_cons_succ]
      refine wpAnyH_ready (rs := [28]) (by kernel_rfl) (by simp) ?_
      refine (AllReadyH.cons (o := { dst := some 112, op := Op.buildSlice 57 2 #[(0, Operand.tmp 107), (1, Operand.tmp 111)], type := 57, pos := "law.go:35", after := #[{ on := 23, ground := Ground.data }, { on := 27, ground := Ground.data }, { on := 18, ground := Ground.guard }], guard := some (18, true) }) rfl (fun K hK => ?_) AllReadyH.nil)
      rw [if_pos (by rfl)]
      go_simp
      have hga5 := World.grownBy_alloc wc4 (.cells #[.int .i64 1, .slice none 0 0, .int .i64 1, .slice (some ⟨wc2.heap.size, 0, none⟩) 2 2, .int .i64 2, .slice none 0 0, .int .i64 2, .slice (some ⟨w.heap.size, 0, none⟩) 2 2] 74) none
      have hr28 : Bds (World.alloc wc4 (.cells #[.int .i64 1, .slice none 0 0, .int .i64 1, .slice (some ⟨wc2.heap.size, 0, none⟩) 2 2, .int .i64 2, .slice none 0 0, .int .i64 2, .slice (some ⟨w.heap.size, 0, none⟩) 2 2] 74)) (some ⟨wc4.heap.size, 0, none⟩) 2 [((1, []), (1, [0, 1])), ((2, []), (2, [2, 5]))] := bds_lit2 wc4 ((1, []), (1, [0, 1])) ((2, []), (2, [2, 5])) none (some ⟨wc2.heap.size, 0, none⟩) none (some ⟨w.heap.size, 0, none⟩) 0 2 0 2 (intsW_nil _ _ _) hr21 (intsW_nil _ _ _) hr25
      replace hr25 := hr25.grown hga5
      replace hr21 := hr21.grown hga5
      obtain ⟨WA5, hWA5⟩ : ∃ W, World.alloc wc4 (.cells #[.int .i64 1, .slice none 0 0, .int .i64 1, .slice (some ⟨wc2.heap.size, 0, none⟩) 2 2, .int .i64 2, .slice none 0 0, .int .i64 2, .slice (some ⟨w.heap.size, 0, none⟩) 2 2] 74) = W := ⟨_, rfl⟩
      rw [hWA5] at hga5 hr28 hr25 hr21 ⊢
      clear hWA5
      have hg5 := World.grownBy.trans hg4 hga5
      refine hK.out _ _ (HS.out _ hg5) (fun hHeld => ?_)
      clear hK K
      try simp only [Act.put, List.setIfInBounds_toArray, List.set_cons_zero, List.set_cons_succ]
      refine wpAnyH_ready (rs := [29]) (by kernel_rfl) (by simp) ?_
      refine (AllReadyH.cons (o := { dst := some 113, op := Op.call { callee := Callee.value (Operand.func 42), args := #[Operand.tmp 103, Operand.tmp 112], argTypes := #[57, 57] }, type := 4, pos := "law.go:35", after := #[{ on := 19, ground := Ground.data }, { on := 28, ground := Ground.data }, { on := 22, ground := Ground.chain }, { on := 18, ground := Ground.guard }], guard := some (18, true) }) rfl (fun K hK => ?_) AllReadyH.nil)
      rw [if_pos (by rfl)]
      go_simp
      go_at_call 42
      refine (c29 _ _ _ (h0.1.trans hg5) hr28).mono ?_
      rintro e wc6 ⟨rfl, gc6⟩
      replace hr25 := hr25.grown gc6
      replace hr21 := hr21.grown gc6
      replace hr28 := hr28.grown gc6
      go_wp2_with fail
      have hg6 := World.grownBy.trans hg5 gc6
      refine hK.out _ _ (HS.out _ hg6) (fun hHeld => ?_)
      clear hK K
      try simp only [Act.put, List.setIfInBounds_toArray, List.set_cons_zero, List.set_cons_succ]
      refine wpAnyH_take (i := 30) (oi := { dst := some 114, op := Op.pick (Operand.tmp 102) (Operand.tmp 113) (Operand.const (Value.bool false)), type := 4, pos := "law.go:35", after := #[{ on := 18, ground := Ground.data }, { on := 29, ground := Ground.data }], guard := none }) (v := ?_) rfl (by kernel_rfl) (by kernel_rfl) (by kernel_rfl) (fun c a w h => hp c a _ _ w h) (Or.inl ⟨by rfl, ?_⟩) (by assumption) ?_
      rotate_left 1
      · (intro W hSW; unfold HeadT at hSW; first | (go_simp; done) | (go_simp; with_reducible rfl))
      try simp only [Act.put, List.setIfInBounds_toArray, List.set_cons_zero, List.set_cons_succ]
      refine wpAnyH_take (i := 31) (oi := { dst := some 115, op := Op.move (Operand.tmp 114), type := 4, pos := "law.go:35", after := #[{ on := 30, ground := Ground.data }, { on := 29, ground := Ground.chain }], guard := none }) (v := ?_) rfl (by kernel_rfl) (by kernel_rfl) (by kernel_rfl) (fun c a w h => hp c a _ _ w h) (Or.inl ⟨by rfl, ?_⟩) (by assumption) ?_
      rotate_left 1
      · (intro W hSW; unfold HeadT at hSW; first | (go_simp; done) | (go_simp; with_reducible rfl))
      try simp only [Act.put, List.setIfInBounds_toArray, List.set_cons_zero, List.set_cons_succ]
      rw [show ((((((((((((((lst9 19).setIfInBounds 19 true).setIfInBounds 24 true).setIfInBounds 25 true).setIfInBounds 26 true).setIfInBounds 27 true).setIfInBounds 20 true).setIfInBounds 21 true).setIfInBounds 22 true).setIfInBounds 23 true).setIfInBounds 28 true).setIfInBounds 29 true).setIfInBounds 30 true).setIfInBounds 31 true) = (lst9 32) from by kernel_rfl]
      exact hnext _ _ _ _ _ _ _ _ _ _ _ _ _ _ _ _ _ _ _ _ _ _ _ _ _ _ _ _ _ _ _ _ _ _ _ _ _ _ _ _ _ _ _ _ _ _ _ _ _ _ _ _ _ _ _ _ _ _ _ _ _ _ _ _ _ _ _ _ _ _ _ _ _ _ _ _ _ _ _ _ _ _ _ _ _ _ _ _ _ _ _ _ _ _ _ _ _ _ _ _ _ _ _ _ _ _ _ _ _ _ _ _ _ _ _ _ _ _ _ _ _ _ _ _ _ _ _ _ _ _ _ _ _ _ _ _ _ _ _ _ _ _ _ _ _ _ _ _ _ _ _ _ _ _ _ hHeld
    · rw [if_pos (by rfl)]
      go_simp
      have hga2 := World.grownBy_alloc WA1 (.cells #[.int .i64 0, .int .i64 1] 3) none
      have hr21 : IntsW (World.alloc WA1 (.cells #[.int .i64 0, .int .i64 1] 3)) (some ⟨WA1.heap.size, 0, none⟩) 2 [0, 1] := ints_new9 WA1 [0, 1]
      replace hr25 := hr25.grown hga2
      obtain ⟨WA2, hWA2⟩ : ∃ W, World.alloc WA1 (.cells #[.int .i64 0, .int .i64 1] 3) = W := ⟨_, rfl⟩
      rw [hWA2] at hga2 hr21 hr25 ⊢
      clear hWA2
      have hg2 := World.grownBy.trans hg1 hga2
      refine hK.out _ _ (HS.out _ hg2) (fun hHeld => ?_)
      clear hK K
      try simp only [Act.put, List.setIfInBounds_toArray, List.set_cons_zero, List.set_cons_succ]
      refine wpAnyH_ready (rs := [20]) (by kernel_rfl) (by simp) ?_
      refine (AllReadyH.cons (o := { dst := some 104, op := Op.call { callee := Callee.value (Operand.func 91), args := #[Operand.const (Value.slice none 0 0)], argTypes := #[28] }, type := 53, pos := "law.go:35", after := #[{ on := 18, ground := Ground.chain }, { on := 18, ground := Ground.guard }], guard := some (18, true) }) rfl (fun K hK => ?_) AllReadyH.nil)
      rw [if_pos (by rfl)]
      go_simp
      go_at_call 91
      refine (set9_calls _ _ _ _).mono ?_
      rintro e wc3 ⟨rfl, gc3⟩
      replace hr25 := hr25.grown gc3
      replace hr21 := hr21.grown gc3
      go_wp2_with fail
      have hg3 := World.grownBy.trans hg2 gc3
      refine hK.out _ _ (HS.out _ hg3) (fun hHeld => ?_)
      clear hK K
      try simp only [Act.put, List.setIfInBounds_toArray, List.set_cons_zero, List.set_cons_succ]
      refine wpAnyH_ready (rs := [22]) (by kernel_rfl) (by simp) ?_
      refine (AllReadyH.cons (o := { dst := some 106, op := Op.call { callee := Callee.value (Operand.func 91), args := #[Operand.tmp 105], argTypes := #[28] }, type := 53, pos := "law.go:35", after := #[{ on := 21, ground := Ground.data }, { on := 20, ground := Ground.chain }, { on := 18, ground := Ground.guard }], guard := some (18, true) }) rfl (fun K hK => ?_) AllReadyH.nil)
      rw [if_pos (by rfl)]
      go_simp
      go_at_call 91
      refine (set9_calls _ _ _ _).mono ?_
      rintro e wc4 ⟨rfl, gc4⟩
      replace hr25 := hr25.grown gc4
      replace hr21 := hr21.grown gc4
      go_wp2_with fail
      have hg4 := World.grownBy.trans hg3 gc4
      refine hK.out _ _ (HS.out _ hg4) (fun hHeld => ?_)
      clear hK K
      try simp only [Act.put, List.setIfInBounds_toArray, List.set_cons_zero, List.set_cons_succ]
      refine wpAnyH_take (i := 23) (oi := { dst := some 107, op := Op.build 74 #[(0, Operand.tmp 104), (1, Operand.tmp 106)], type := 74, pos := "law.go:35", after := #[{ on := 20, ground := Ground.data }, { on := 22, ground := Ground.data }, { on := 18, ground := Ground.guard }], guard := some (18, true) }) (v := ?_) rfl (by kernel_rfl) (by kernel_rfl) (by kernel_rfl) (fun c a w h => hp c a _ _ w h) (Or.inl ⟨by rfl, ?_⟩) (by assumption) ?_
      rotate_left 1
      · (intro W hSW; unfold HeadT at hSW; first | (go_simp; done) | (go_simp; with_reducible rfl))
      try simp only [Act.put, List.setIfInBounds_toArray, List.set_cons_zero, List.set_cons_succ]
      refine wpAnyH_ready (rs := [28]) (by kernel_rfl) (by simp) ?_
      refine (AllReadyH.cons (o := { dst := some 112, op := Op.buildSlice 57 2 #[(0, Operand.tmp 107), (1, Operand.tmp 111)], type := 57, pos := "law.go:35", after := #[{ on := 23, ground := Ground.data }, { on := 27, ground := Ground.data }, { on := 18, ground := Ground.guard }], guard := some (18, true) }) rfl (fun K hK => ?_) AllReadyH.nil)
      rw [if_pos (by rfl)]
      go_simp
      have hga5 := World.grownBy_alloc wc4 (.cells #[.int .i64 1, .slice none 0 0, .int .i64 1, .slice (some ⟨WA1.heap.size, 0, none⟩) 2 2, .int .i64 2, .slice none 0 0, .int .i64 2, .slice (some ⟨w.heap.size, 0, none⟩) 2 2] 74) none
      have hr28 : Bds (World.alloc wc4 (.cells #[.int .i64 1, .slice none 0 0, .int .i64 1, .slice (some ⟨WA1.heap.size, 0, none⟩) 2 2, .int .i64 2, .slice none 0 0, .int .i64 2, .slice (some ⟨w.heap.size, 0, none⟩) 2 2] 74)) (some ⟨wc4.heap.size, 0, none⟩) 2 [((1, []), (1, [0, 1])), ((2, []), (2, [2, 5]))] := bds_lit2 wc4 ((1, []), (1, [0, 1])) ((2, []), (2, [2, 5])) none (some ⟨WA1.heap.size, 0, none⟩) none (some ⟨w.heap.size, 0, none⟩) 0 2 0 2 (intsW_nil _ _ _) hr21 (intsW_nil _ _ _) hr25
      replace hr25 := hr25.grown hga5
      replace hr21 := hr21.grown hga5
      obtain ⟨WA5, hWA5⟩ : ∃ W, World.alloc wc4 (.cells #[.int .i64 1, .slice none 0 0, .int .i64 1, .slice (some ⟨WA1.heap.size, 0, none⟩) 2 2, .int .i64 2, .slice none 0 0, .int .i64 2, .slice (some ⟨w.heap.size, 0, none⟩) 2 2] 74) = W := ⟨_, rfl⟩
      rw [hWA5] at hga5 hr28 hr25 hr21 ⊢
      clear hWA5
      have hg5 := World.grownBy.trans hg4 hga5
      refine hK.out _ _ (HS.out _ hg5) (fun hHeld => ?_)
      clear hK K
      try simp only [Act.put, List.setIfInBounds_toArray, List.set_cons_zero, List.set_cons_succ]
      refine wpAnyH_ready (rs := [29]) (by kernel_rfl) (by simp) ?_
      refine (AllReadyH.cons (o := { dst := some 113, op := Op.call { callee := Callee.value (Operand.func 42), args := #[Operand.tmp 103, Operand.tmp 112], argTypes := #[57, 57] }, type := 4, pos := "law.go:35", after := #[{ on := 19, ground := Ground.data }, { on := 28, ground := Ground.data }, { on := 22, ground := Ground.chain }, { on := 18, ground := Ground.guard }], guard := some (18, true) }) rfl (fun K hK => ?_) AllReadyH.nil)
      rw [if_pos (by rfl)]
      go_simp
      go_at_call 42
      refine (c29 _ _ _ (h0.1.trans hg5) hr28).mono ?_
      rintro e wc6 ⟨rfl, gc6⟩
      replace hr25 := hr25.grown gc6
      replace hr21 := hr21.grown gc6
      replace hr28 := hr28.grown gc6
      go_wp2_with fail
      have hg6 := World.grownBy.trans hg5 gc6
      refine hK.out _ _ (HS.out _ hg6) (fun hHeld => ?_)
      clear hK K
      try simp only [Act.put, List.setIfInBounds_toArray, List.set_cons_zero, List.set_cons_succ]
      refine wpAnyH_take (i := 30) (oi := { dst := some 114, op := Op.pick (Operand.tmp 102) (Operand.tmp 113) (Operand.const (Value.bool false)), type := 4, pos := "law.go:35", after := #[{ on := 18, ground := Ground.data }, { on := 29, ground := Ground.data }], guard := none }) (v := ?_) rfl (by kernel_rfl) (by kernel_rfl) (by kernel_rfl) (fun c a w h => hp c a _ _ w h) (Or.inl ⟨by rfl, ?_⟩) (by assumption) ?_
      rotate_left 1
      · (intro W hSW; unfold HeadT at hSW; first | (go_simp; done) | (go_simp; with_reducible rfl))
      try simp only [Act.put, List.setIfInBounds_toArray, List.set_cons_zero, List.set_cons_succ]
      refine wpAnyH_take (i := 31) (oi := { dst := some 115, op := Op.move (Operand.tmp 114), type := 4, pos := "law.go:35", after := #[{ on := 30, ground := Ground.data }, { on := 29, ground := Ground.chain }], guard := none }) (v := ?_) rfl (by kernel_rfl) (by kernel_rfl) (by kernel_rfl) (fun c a w h => hp c a _ _ w h) (Or.inl ⟨by rfl, ?_⟩) (by assumption) ?_
      rotate_left 1
      · (intro W hSW; unfold HeadT at hSW; first | (go_simp; done) | (go_simp; with_reducible rfl))
      try simp only [Act.put, List.setIfInBounds_toArray, List.set_cons_zero, List.set_cons_succ]
      rw [show ((((((((((((((lst9 19).setIfInBounds 19 true).setIfInBounds 24 true).setIfInBounds 25 true).setIfInBounds 26 true).setIfInBounds 27 true).setIfInBounds 21 true).setIfInBounds 20 true).setIfInBounds 22 true).setIfInBounds 23 true).setIfInBounds 28 true).setIfInBounds 29 true).setIfInBounds 30 true).setIfInBounds 31 true) = (lst9 32) from by kernel_rfl]
      exact hnext _ _ _ _ _ _ _ _ _ _ _ _ _ _ _ _ _ _ _ _ _ _ _ _ _ _ _ _ _ _ _ _ _ _ _ _ _ _ _ _ _ _ _ _ _ _ _ _ _ _ _ _ _ _ _ _ _ _ _ _ _ _ _ _ _ _ _ _ _ _ _ _ _ _ _ _ _ _ _ _ _ _ _ _ _ _ _ _ _ _ _ _ _ _ _ _ _ _ _ _ _ _ _ _ _ _ _ _ _ _ _ _ _ _ _ _ _ _ _ _ _ _ _ _ _ _ _ _ _ _ _ _ _ _ _ _ _ _ _ _ _ _ _ _ _ _ _ _ _ _ _ _ _ _ _ hHeld
end Go.Proofs.Ytbddpjofhddilaa
