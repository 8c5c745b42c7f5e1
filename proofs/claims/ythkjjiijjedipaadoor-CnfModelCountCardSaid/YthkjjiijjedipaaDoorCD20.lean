/- Texts of the proof: R3. -/
import Derived.Test.YthkjjiijjedipaaDoorCD19
namespace Go.Proofs.YthkjjiijjedipaaDoor
open Go.RowKit


set_option maxRecDepth 100000 in
set_option maxHeartbeats 4000000 in
theorem rinput_calls (gs : List Gt) (v : Int) (a : Option Addr) (c : Nat) (w : World) (h : GatesW w a c gs) (hl : gs.length ≤ 1000) :
    Calls Tryd.prog 24 #[.agg #[.slice a gs.length c], .int .i64 v] w (Ans w (inputC gs v).1 (inputC gs v).2) := by
  obtain ⟨n, hn⟩ : ∃ n, gs.length = n := ⟨_, rfl⟩
  have hg1 := World.grownBy_alloc w (.cells #[.slice a n c] 27) none
  have e1 := one_cell w (.slice a n c) 27
  obtain ⟨W1, hW1⟩ : ∃ W, w.alloc (.cells #[.slice a n c] 27) = W := ⟨_, rfl⟩
  rw [hW1] at hg1 e1
  have hg2 := World.grownBy_alloc W1 (.cells #[.slice none 0 0] 27) none
  have e2 := one_cell W1 (.slice none 0 0) 27
  obtain ⟨W2, hW2⟩ : ∃ W, W1.alloc (.cells #[.slice none 0 0] 27) = W := ⟨_, rfl⟩
  rw [hW2] at hg2 e2
  have q1 := hg2.cell e1.2.1 (by simp)
  have HQ := Lib.hid q1
  have HR := Lib.hid e2
  have r1 := e2.2.1
  have rf := e2.2.2
  have HW := Lib.hid (World.grownBy.trans hg1 hg2)
  have HGA := Lib.hid ((h.grown hg1).grown hg2)
  have HN := Lib.hid hn
  have HL := Lib.hid hl
  have HS1 := Lib.hid (show w.heap.size ≤ W1.heap.size from hg1.size)
  rw [hn] at hl ⊢
  clear h hg1 hg2 e1 e2 hn
  by_cases h1 : v < 1
  · have f1 : decide (v < 1) = true := decide_eq_true h1
    have HE := Lib.hid (show inputC gs v = (gs, -1) by unfold inputC; rw [if_pos (.inl h1)])
    clear h1
    go_enter Tryd.func24, Tryd.ntmps24
    go_wp2_with fail
    refine bodyPost_ret (results13 _ _ W1.heap.size a n c _ rfl rfl (World.cell?_setCell_same _ _ _ r1)) rfl ⟨a, c, by rw [HE.out, HN.out], ?_, grown_own HW.out (grown_set W2 W1.heap.size 0 _) (fun k e => by cases e; exact HS1.out)⟩
    rw [HE.out]
    exact HGA.out.set r1 _
  · have f1 : decide (v < 1) = false := decide_eq_false h1
    by_cases h2 : 20000 < v
    · have f2 : decide (20000 < v) = true := decide_eq_true h2
      have HE := Lib.hid (show inputC gs v = (gs, -1) by unfold inputC; rw [if_pos (.inr h2)])
      clear h1 h2
      go_enter Tryd.func24, Tryd.ntmps24
      go_wp2_with fail
      refine bodyPost_ret (results13 _ _ W1.heap.size a n c _ rfl rfl (World.cell?_setCell_same _ _ _ r1)) rfl ⟨a, c, by rw [HE.out, HN.out], ?_, grown_own HW.out (grown_set W2 W1.heap.size 0 _) (fun k e => by cases e; exact HS1.out)⟩
      rw [HE.out]
      exact HGA.out.set r1 _
    · have f2 : decide (20000 < v) = false := decide_eq_false h2
      have HE := Lib.hid (show inputC gs v = addG gs (1, v, 0) by unfold inputC; rw [if_neg (by omega)])
      clear h1 h2
      have HSH := share_calls gs (1, v, 0) a c W2 HGA.out HL.out
      rw [HN.out] at HSH
      have HSH2 := Lib.hid HSH
      clear HSH
      go_enter Tryd.func24, Tryd.ntmps24
      go_wp2_with fail
      refine (HSH2.out).mono ?_
      rintro e w3 ⟨a', c', rfl, hr, g⟩
      have HX := Lib.hid hr
      have HG3 := Lib.hid g
      have r3 := g.cell HR.out.2.1 (by simp)
      have rf3 : w3.frozen? ⟨W1.heap.size, 0, none⟩ = false := (grown_frozen g HR.out.1 0).trans HR.out.2.2
      clear hr g r1 rf
      go_wp2_with fail
      refine bodyPost_ret (results13 _ _ W1.heap.size a' _ c' _ rfl rfl (World.cell?_setCell_same _ _ _ r3)) rfl ⟨a', c', by rw [HE.out], ?_, grown_own (World.grownBy.trans HW.out HG3.out) (grown_set w3 W1.heap.size 0 _) (fun k e => by cases e; exact HS1.out)⟩
      rw [HE.out]
      exact HX.out.set r3 _

set_option maxRecDepth 100000 in
set_option maxHeartbeats 4000000 in
theorem rand_calls (gs : List Gt) (x y : Int) (a : Option Addr) (c : Nat) (w : World) (h : GatesW w a c gs) (hl : gs.length ≤ 1000) (hG : Good gs) (hx : x ≤ 9223372036854775807) (hy : y ≤ 9223372036854775807) :
    Calls Tryd.prog 26 #[.agg #[.slice a gs.length c], .int .i64 x, .int .i64 y] w (Ans w (andC gs x y).1 (andC gs x y).2) := by
  obtain ⟨n, hn⟩ : ∃ n, gs.length = n := ⟨_, rfl⟩
  have hg1 := World.grownBy_alloc w (.cells #[.slice a n c] 27) none
  have e1 := one_cell w (.slice a n c) 27
  obtain ⟨W1, hW1⟩ : ∃ W, w.alloc (.cells #[.slice a n c] 27) = W := ⟨_, rfl⟩
  rw [hW1] at hg1 e1
  have hg2 := World.grownBy_alloc W1 (.cells #[.slice none 0 0] 27) none
  have e2 := one_cell W1 (.slice none 0 0) 27
  obtain ⟨W2, hW2⟩ : ∃ W, W1.alloc (.cells #[.slice none 0 0] 27) = W := ⟨_, rfl⟩
  rw [hW2] at hg2 e2
  have q1 := hg2.cell e1.2.1 (by simp)
  have HQ := Lib.hid q1
  have HR := Lib.hid e2
  have r1 := e2.2.1
  have rf := e2.2.2
  have HW := Lib.hid (World.grownBy.trans hg1 hg2)
  have HGA := Lib.hid ((h.grown hg1).grown hg2)
  have HN := Lib.hid hn
  have HL := Lib.hid hl
  have HS1 := Lib.hid (show w.heap.size ≤ W1.heap.size from hg1.size)
  rw [hn] at hl ⊢
  clear h hg1 hg2 e1 e2 hn
  have hw2 : IntKind.i64.wrap (2 * (n : Int)) = 2 * (n : Int) := IntWalk.i64_in _ (by omega)
  have hN : 1 ≤ n := by have := hG.pos; have := HN.out; omega
  have HB := Lib.hid (And.intro hx hy)
  by_cases c1 : x < 0
  · have HE := Lib.hid (show andC gs x y = (gs, -1) by unfold andC; rw [HN.out]; rw [if_pos (by omega)])
    have f0 : decide (x < 0) = true := decide_eq_true (by omega)
    clear c1
    go_enter Tryd.func26, Tryd.ntmps26
    go_wp2_with (go_at_call 18; refine (not26_calls _ _ HB.out.1).mono ?_; rintro e w9 ⟨rfl, hw9⟩; rw [hw9]; clear hw9 w9)
    refine bodyPost_ret (results15 _ _ W1.heap.size a n c _ rfl rfl (World.cell?_setCell_same _ _ _ r1)) rfl ⟨a, c, by rw [HE.out, HN.out], ?_, grown_own HW.out (grown_set W2 W1.heap.size 0 _) (fun k e => by cases e; exact HS1.out)⟩
    rw [HE.out]
    exact HGA.out.set r1 _
  by_cases c2 : y < 0
  · have HE := Lib.hid (show andC gs x y = (gs, -1) by unfold andC; rw [HN.out]; rw [if_pos (by omega)])
    have f0 : decide (x < 0) = false := decide_eq_false (by omega)
    have f1 : decide (y < 0) = true := decide_eq_true (by omega)
    clear c1 c2
    go_enter Tryd.func26, Tryd.ntmps26
    go_wp2_with (go_at_call 18; refine (not26_calls _ _ HB.out.1).mono ?_; rintro e w9 ⟨rfl, hw9⟩; rw [hw9]; clear hw9 w9)
    refine bodyPost_ret (results15 _ _ W1.heap.size a n c _ rfl rfl (World.cell?_setCell_same _ _ _ r1)) rfl ⟨a, c, by rw [HE.out, HN.out], ?_, grown_own HW.out (grown_set W2 W1.heap.size 0 _) (fun k e => by cases e; exact HS1.out)⟩
    rw [HE.out]
    exact HGA.out.set r1 _
  by_cases c3 : 2 * (n : Int) ≤ x
  · have HE := Lib.hid (show andC gs x y = (gs, -1) by unfold andC; rw [HN.out]; rw [if_pos (by omega)])
    have f0 : decide (x < 0) = false := decide_eq_false (by omega)
    have f1 : decide (y < 0) = false := decide_eq_false (by omega)
    have f2 : decide (2 * (n : Int) ≤ x) = true := decide_eq_true (by omega)
    clear c1 c2 c3
    go_enter Tryd.func26, Tryd.ntmps26
    go_wp2_with (go_at_call 18; refine (not26_calls _ _ HB.out.1).mono ?_; rintro e w9 ⟨rfl, hw9⟩; rw [hw9]; clear hw9 w9)
    refine bodyPost_ret (results15 _ _ W1.heap.size a n c _ rfl rfl (World.cell?_setCell_same _ _ _ r1)) rfl ⟨a, c, by rw [HE.out, HN.out], ?_, grown_own HW.out (grown_set W2 W1.heap.size 0 _) (fun k e => by cases e; exact HS1.out)⟩
    rw [HE.out]
    exact HGA.out.set r1 _
  by_cases c4 : 2 * (n : Int) ≤ y
  · have HE := Lib.hid (show andC gs x y = (gs, -1) by unfold andC; rw [HN.out]; rw [if_pos (by omega)])
    have f0 : decide (x < 0) = false := decide_eq_false (by omega)
    have f1 : decide (y < 0) = false := decide_eq_false (by omega)
    have f2 : decide (2 * (n : Int) ≤ x) = false := decide_eq_false (by omega)
    have f3 : decide (2 * (n : Int) ≤ y) = true := decide_eq_true (by omega)
    clear c1 c2 c3 c4
    go_enter Tryd.func26, Tryd.ntmps26
    go_wp2_with (go_at_call 18; refine (not26_calls _ _ HB.out.1).mono ?_; rintro e w9 ⟨rfl, hw9⟩; rw [hw9]; clear hw9 w9)
    refine bodyPost_ret (results15 _ _ W1.heap.size a n c _ rfl rfl (World.cell?_setCell_same _ _ _ r1)) rfl ⟨a, c, by rw [HE.out, HN.out], ?_, grown_own HW.out (grown_set W2 W1.heap.size 0 _) (fun k e => by cases e; exact HS1.out)⟩
    rw [HE.out]
    exact HGA.out.set r1 _
  have HNN := Lib.hid (show ¬ (x < 0 ∨ y < 0 ∨ 2 * (n : Int) ≤ x ∨ 2 * (n : Int) ≤ y) by omega)
  have e0 : decide (x < 0) = false := decide_eq_false (by omega)
  have e1 : decide (y < 0) = false := decide_eq_false (by omega)
  have e2 : decide (2 * (n : Int) ≤ x) = false := decide_eq_false (by omega)
  have e3 : decide (2 * (n : Int) ≤ y) = false := decide_eq_false (by omega)
  by_cases c5 : x = 1
  · have HE := Lib.hid (show andC gs x y = (gs, 1) by unfold andC; rw [HN.out]; rw [if_neg HNN.out, if_pos (.inl c5)])
    have f5 := beqT c5
    clear c1 c2 c3 c4 c5
    go_enter Tryd.func26, Tryd.ntmps26
    go_wp2_with (go_at_call 18; refine (not26_calls _ _ HB.out.1).mono ?_; rintro e w9 ⟨rfl, hw9⟩; rw [hw9]; clear hw9 w9)
    refine bodyPost_ret (results15 _ _ W1.heap.size a n c _ rfl rfl (World.cell?_setCell_same _ _ _ r1)) rfl ⟨a, c, by rw [HE.out, HN.out], ?_, grown_own HW.out (grown_set W2 W1.heap.size 0 _) (fun k e => by cases e; exact HS1.out)⟩
    rw [HE.out]
    exact HGA.out.set r1 _
  have e5 := beqF c5
  by_cases c6 : y = 1
  · have HE := Lib.hid (show andC gs x y = (gs, 1) by unfold andC; rw [HN.out]; rw [if_neg HNN.out, if_pos (.inr (.inl c6))])
    have f6 := beqT c6
    clear c1 c2 c3 c4 c5 c6
    go_enter Tryd.func26, Tryd.ntmps26
    go_wp2_with (go_at_call 18; refine (not26_calls _ _ HB.out.1).mono ?_; rintro e w9 ⟨rfl, hw9⟩; rw [hw9]; clear hw9 w9)
    refine bodyPost_ret (results15 _ _ W1.heap.size a n c _ rfl rfl (World.cell?_setCell_same _ _ _ r1)) rfl ⟨a, c, by rw [HE.out, HN.out], ?_, grown_own HW.out (grown_set W2 W1.heap.size 0 _) (fun k e => by cases e; exact HS1.out)⟩
    rw [HE.out]
    exact HGA.out.set r1 _
  have e6 := beqF c6
  by_cases c7 : y = notR x
  · have HE := Lib.hid (show andC gs x y = (gs, 1) by unfold andC; rw [HN.out]; rw [if_neg HNN.out, if_pos (.inr (.inr c7))])
    have f7 := beqT c7
    clear c1 c2 c3 c4 c5 c6 c7
    go_enter Tryd.func26, Tryd.ntmps26
    go_wp2_with (go_at_call 18; refine (not26_calls _ _ HB.out.1).mono ?_; rintro e w9 ⟨rfl, hw9⟩; rw [hw9]; clear hw9 w9)
    refine bodyPost_ret (results15 _ _ W1.heap.size a n c _ rfl rfl (World.cell?_setCell_same _ _ _ r1)) rfl ⟨a, c, by rw [HE.out, HN.out], ?_, grown_own HW.out (grown_set W2 W1.heap.size 0 _) (fun k e => by cases e; exact HS1.out)⟩
    rw [HE.out]
    exact HGA.out.set r1 _
  have e7 := beqF c7
  have HN2 := Lib.hid (show ¬ (x = 1 ∨ y = 1 ∨ y = notR x) by simp only [not_or]; exact ⟨c5, c6, c7⟩)
  clear c5 c6 c7
  by_cases c8 : x = 0
  · have HE := Lib.hid (show andC gs x y = (gs, y) by unfold andC; rw [HN.out]; rw [if_neg HNN.out, if_neg HN2.out, if_pos c8])
    have f8 := beqT c8
    clear c1 c2 c3 c4 c8
    go_enter Tryd.func26, Tryd.ntmps26
    go_wp2_with (go_at_call 18; refine (not26_calls _ _ HB.out.1).mono ?_; rintro e w9 ⟨rfl, hw9⟩; rw [hw9]; clear hw9 w9)
    refine bodyPost_ret (results15 _ _ W1.heap.size a n c _ rfl rfl (World.cell?_setCell_same _ _ _ r1)) rfl ⟨a, c, by rw [HE.out, HN.out], ?_, grown_own HW.out (grown_set W2 W1.heap.size 0 _) (fun k e => by cases e; exact HS1.out)⟩
    rw [HE.out]
    exact HGA.out.set r1 _
  have e8 := beqF c8
  by_cases c9 : y = 0
  · have HE := Lib.hid (show andC gs x y = (gs, x) by unfold andC; rw [HN.out]; rw [if_neg HNN.out, if_neg HN2.out, if_neg c8, if_pos (.inl c9)])
    have f9 := beqT c9
    clear c1 c2 c3 c4 c8 c9
    go_enter Tryd.func26, Tryd.ntmps26
    go_wp2_with (go_at_call 18; refine (not26_calls _ _ HB.out.1).mono ?_; rintro e w9 ⟨rfl, hw9⟩; rw [hw9]; clear hw9 w9)
    refine bodyPost_ret (results15 _ _ W1.heap.size a n c _ rfl rfl (World.cell?_setCell_same _ _ _ r1)) rfl ⟨a, c, by rw [HE.out, HN.out], ?_, grown_own HW.out (grown_set W2 W1.heap.size 0 _) (fun k e => by cases e; exact HS1.out)⟩
    rw [HE.out]
    exact HGA.out.set r1 _
  have e9 := beqF c9
  by_cases c10 : x = y
  · have HE := Lib.hid (show andC gs x y = (gs, x) by unfold andC; rw [HN.out]; rw [if_neg HNN.out, if_neg HN2.out, if_neg c8, if_pos (.inr c10)])
    have f10 := beqT c10
    clear c1 c2 c3 c4 c8 c9 c10
    go_enter Tryd.func26, Tryd.ntmps26
    go_wp2_with (go_at_call 18; refine (not26_calls _ _ HB.out.1).mono ?_; rintro e w9 ⟨rfl, hw9⟩; rw [hw9]; clear hw9 w9)
    refine bodyPost_ret (results15 _ _ W1.heap.size a n c _ rfl rfl (World.cell?_setCell_same _ _ _ r1)) rfl ⟨a, c, by rw [HE.out, HN.out], ?_, grown_own HW.out (grown_set W2 W1.heap.size 0 _) (fun k e => by cases e; exact HS1.out)⟩
    rw [HE.out]
    exact HGA.out.set r1 _
  have e10 := beqF c10
  by_cases hab : x < y
  · have HE := Lib.hid (show andC gs x y = addG gs (2, x, y) by unfold andC; rw [HN.out, if_neg HNN.out, if_neg HN2.out, if_neg c8, if_neg (show ¬ (y = 0 ∨ x = y) by omega), Int.min_eq_left (by omega), Int.max_eq_right (by omega)])
    have HSH := share_calls gs (2, x, y) a c W2 HGA.out HL.out
    rw [HN.out] at HSH
    have HSH2 := Lib.hid HSH
    clear HSH
    have m1 : min x y = x := Int.min_eq_left (by omega)
    have m2 : max x y = y := Int.max_eq_right (by omega)
    have o2 : decide (x ≤ y) = true := decide_eq_true (by omega)
    have o3 : decide (y ≤ x) = false := decide_eq_false (by omega)
    have o4 : x ≤ y := by omega
    have o5 : ¬ y ≤ x := by omega
    clear c1 c2 c3 c4 c8 c9 c10 hab
    go_enter Tryd.func26, Tryd.ntmps26
    go_wp2_with (go_at_call 18; refine (not26_calls _ _ HB.out.1).mono ?_; rintro e w9 ⟨rfl, hw9⟩; rw [hw9]; clear hw9 w9)
    refine (HSH2.out).mono ?_
    rintro e w3 ⟨a', c', rfl, hr, g⟩
    have HX := Lib.hid hr
    have HG3 := Lib.hid g
    have r3 := g.cell HR.out.2.1 (by simp)
    have rf3 : w3.frozen? ⟨W1.heap.size, 0, none⟩ = false := (grown_frozen g HR.out.1 0).trans HR.out.2.2
    clear hr g r1 rf
    go_wp2_with fail
    refine bodyPost_ret (results15 _ _ W1.heap.size a' _ c' _ rfl rfl (World.cell?_setCell_same _ _ _ r3)) rfl ⟨a', c', by rw [HE.out], ?_, grown_own (World.grownBy.trans HW.out HG3.out) (grown_set w3 W1.heap.size 0 _) (fun k e => by cases e; exact HS1.out)⟩
    rw [HE.out]
    exact HX.out.set r3 _
  · have HE := Lib.hid (show andC gs x y = addG gs (2, y, x) by unfold andC; rw [HN.out, if_neg HNN.out, if_neg HN2.out, if_neg c8, if_neg (show ¬ (y = 0 ∨ x = y) by omega), Int.min_eq_right (by omega), Int.max_eq_left (by omega)])
    have HSH := share_calls gs (2, y, x) a c W2 HGA.out HL.out
    rw [HN.out] at HSH
    have HSH2 := Lib.hid HSH
    clear HSH
    have m1 : min x y = y := Int.min_eq_right (by omega)
    have m2 : max x y = x := Int.max_eq_left (by omega)
    have o2 : decide (x ≤ y) = false := decide_eq_false (by omega)
    have o3 : decide (y ≤ x) = true := decide_eq_true (by omega)
    have o4 : y ≤ x := by omega
    have o5 : ¬ x ≤ y := by omega
    clear c1 c2 c3 c4 c8 c9 c10 hab
    go_enter Tryd.func26, Tryd.ntmps26
    go_wp2_with (go_at_call 18; refine (not26_calls _ _ HB.out.1).mono ?_; rintro e w9 ⟨rfl, hw9⟩; rw [hw9]; clear hw9 w9)
    refine (HSH2.out).mono ?_
    rintro e w3 ⟨a', c', rfl, hr, g⟩
    have HX := Lib.hid hr
    have HG3 := Lib.hid g
    have r3 := g.cell HR.out.2.1 (by simp)
    have rf3 : w3.frozen? ⟨W1.heap.size, 0, none⟩ = false := (grown_frozen g HR.out.1 0).trans HR.out.2.2
    clear hr g r1 rf
    go_wp2_with fail
    refine bodyPost_ret (results15 _ _ W1.heap.size a' _ c' _ rfl rfl (World.cell?_setCell_same _ _ _ r3)) rfl ⟨a', c', by rw [HE.out], ?_, grown_own (World.grownBy.trans HW.out HG3.out) (grown_set w3 W1.heap.size 0 _) (fun k e => by cases e; exact HS1.out)⟩
    rw [HE.out]
    exact HX.out.set r3 _
end Go.Proofs.YthkjjiijjedipaaDoor
