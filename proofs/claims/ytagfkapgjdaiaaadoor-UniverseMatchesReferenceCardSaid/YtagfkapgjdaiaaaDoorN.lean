/- The examples that each law begins with (Full at its example: the parameter). -/
import Derived.Test.YtagfkapgjdaiaaaDoorH
import Derived.Test.YtagfkapgjdaiaaaDoorI
import Derived.Test.YtagfkapgjdaiaaaDoorK
namespace Go.Proofs.YtagfkapgjdaiaaaDoor
open Go.RowKit

/-- What Full answers at the example. -/
def FullSays : Prop := ∀ (w : World) (a ta : Option Addr) (c tc : Nat), Nums w a c [2, 3] → Ints w ta tc [1, 0] →
  Calls Tryd.prog 28 #[.agg #[.slice a 2 c, .int .i64 1], .slice ta 2 tc] w fun e w' => ∃ ra rc, e = .returned (.agg #[.int .i64 2, .slice ra 6 rc]) ∧ Ints w' ra rc [10, 11, 15, 16, 20, 21] ∧ w.grownBy w' none

theorem ints_one (w : World) (x : Int) : Ints (w.alloc (.cells #[.int .i64 x] 3)) (some ⟨w.heap.size, 0, none⟩) 1 [x] := by
  refine ⟨Nat.le_refl _, .inr ⟨_, 0, rfl, by simp, fun j z hj => ?_⟩⟩
  match j, hj with
  | 0, hj => simp at hj; subst hj; go_simp
theorem ints_two (w : World) (x y : Int) : Ints (w.alloc (.cells #[.int .i64 x, .int .i64 y] 3)) (some ⟨w.heap.size, 0, none⟩) 2 [x, y] := by
  refine ⟨Nat.le_refl _, .inr ⟨_, 0, rfl, by simp, fun j z hj => ?_⟩⟩
  match j, hj with
  | 0, hj => simp at hj; subst hj; go_simp
  | 1, hj => simp at hj; subst hj; go_simp

theorem ints_six (w : World) : Ints (w.alloc (.cells #[.int .i64 10, .int .i64 11, .int .i64 15, .int .i64 16, .int .i64 20, .int .i64 21] 3)) (some ⟨w.heap.size, 0, none⟩) 6 [10, 11, 15, 16, 20, 21] := by
  refine ⟨Nat.le_refl _, .inr ⟨_, 0, rfl, by simp, fun j z hj => ?_⟩⟩
  match j, hj with
  | 0, hj => simp at hj; subst hj; go_simp
  | 1, hj => simp at hj; subst hj; go_simp
  | 2, hj => simp at hj; subst hj; go_simp
  | 3, hj => simp at hj; subst hj; go_simp
  | 4, hj => simp at hj; subst hj; go_simp
  | 5, hj => simp at hj; subst hj; go_simp
def sp1 : ByteArray := ⟨#[78, 111, 100, 101]⟩
def sp2 : ByteArray := ⟨#[67, 111, 108, 111, 114]⟩
theorem name_is : (sp2 ++ ⟨#[36]⟩) ++ ⟨(Lib.decDigits ((3 : Int).toNat - sum (List.take 1 [2, 3]))).toArray⟩ = (⟨#[67, 111, 108, 111, 114, 36, 49]⟩ : ByteArray) := by
  rw [show (3 : Int).toNat - sum (List.take 1 [2, 3]) = 1 by decide, Lib.decDigits_one (by omega)]
  rfl
/-- The example in memory: the specification's box is block b + 1, the scope's block b + 3. -/
structure HdV (w wr : World) (b : Nat) : Prop where
  p0 : wr.cell? ⟨b + 1, 0, none⟩ = some (.slice (some ⟨b, 0, none⟩) 2 2)
  p1 : wr.cell? ⟨b + 1, 1, none⟩ = some (.slice none 0 0)
  p2 : wr.cell? ⟨b + 1, 2, none⟩ = some (.slice none 0 0)
  p3 : wr.cell? ⟨b + 1, 3, none⟩ = some (.slice none 0 0)
  s0 : wr.cell? ⟨b + 3, 0, none⟩ = some (.slice (some ⟨b + 2, 0, none⟩) 2 2)
  s1 : wr.cell? ⟨b + 3, 1, none⟩ = some (.int .i64 1)
  row : Nums wr (some ⟨b + 2, 0, none⟩) 2 [2, 3]
  named : Named wr (some ⟨b, 0, none⟩) [sp1, sp2]
  grown : w.grownBy wr none
theorem HdV.go {w wr w' : World} {b : Nat} (h : HdV w wr b) (g : wr.grownBy w' none) : HdV w w' b :=
  ⟨g.cell h.p0 (by simp), g.cell h.p1 (by simp), g.cell h.p2 (by simp), g.cell h.p3 (by simp), g.cell h.s0 (by simp), g.cell h.s1 (by simp), h.row.grown g, h.named.grown g, h.grown.trans g⟩
theorem HdV.start (w : World) : HdV w ((((w.alloc (.cells #[.string ⟨#[78, 111, 100, 101]⟩, .bool false, .string ⟨#[67, 111, 108, 111, 114]⟩, .bool false] 53)).alloc (.cells #[.slice (some ⟨w.heap.size, 0, none⟩) 2 2, .slice none 0 0, .slice none 0 0, .slice none 0 0] 27)).alloc (.cells #[.int .i64 2, .int .i64 3] 3)).alloc (.cells #[.slice (some ⟨w.heap.size + 1 + 1, 0, none⟩) 2 2, .int .i64 1] 30)) w.heap.size := by
  refine ⟨by go_simp, by go_simp, by go_simp, by go_simp, by go_simp, by go_simp, ⟨Nat.le_refl _, .inr ⟨_, 0, rfl, by simp, fun j z hj => ?_⟩⟩, fun j s hj => ?_, ?_⟩
  · match j, hj with
    | 0, hj => simp at hj; subst hj; go_simp
    | 1, hj => simp at hj; subst hj; go_simp
  · match j, hj with
    | 0, hj => simp at hj; subst hj; exact ⟨_, 0, rfl, by go_simp; rfl⟩
    | 1, hj => simp at hj; subst hj; exact ⟨_, 0, rfl, by go_simp; rfl⟩
  · exact (((World.grownBy_alloc _ _ none).trans (World.grownBy_alloc _ _ none)).trans (World.grownBy_alloc _ _ none)).trans (World.grownBy_alloc _ _ none)

set_option maxRecDepth 100000 in
set_option maxHeartbeats 4000000 in
theorem head_calls (hf : FullSays) (w : World) : Calls Tryd.prog 9 #[] w fun e w' => e = .returned (.bool true) ∧ w.grownBy w' none := by
  have HD0 := Lib.hid (HdV.start w)
  go_enter Tryd.func9, Tryd.ntmps9
  go_wp2_with fail
  obtain ⟨b, hb⟩ : ∃ b, w.heap.size = b := ⟨_, rfl⟩
  rw [hb] at HD0 ⊢
  obtain ⟨w0, hw0⟩ : ∃ w0, (((w.alloc (.cells #[.string ⟨#[78, 111, 100, 101]⟩, .bool false, .string ⟨#[67, 111, 108, 111, 114]⟩, .bool false] 53)).alloc (.cells #[.slice (some ⟨b, 0, none⟩) 2 2, .slice none 0 0, .slice none 0 0, .slice none 0 0] 27)).alloc (.cells #[.int .i64 2, .int .i64 3] 3)).alloc (.cells #[.slice (some ⟨b + 1 + 1, 0, none⟩) 2 2, .int .i64 1] 30) = w0 := ⟨_, rfl⟩
  rw [hw0] at HD0 ⊢
  clear hw0 hb
  refine (valid_calls (some ⟨b, 0, none⟩) 2 2 none none none 0 0 0 0 0 0 [2, 3] (some ⟨b + 2, 0, none⟩) 2 1 w0 HD0.out.row.ints (by omega) (by decide)).mono ?_
  rintro e w1 ⟨rfl, g1⟩
  rw [show validI 2 [2, 3] 1 = true by decide]
  have HD1 := Lib.hid (HD0.out.go g1); clear g1 HD0
  obtain ⟨p0, p1, p2, p3, s0, s1, _, _, _⟩ := HD1.out
  have s0' : w1.cell? ⟨b + 1 + 1 + 1, 0, none⟩ = some (.slice (some ⟨b + 1 + 1, 0, none⟩) 2 2) := s0
  have s1' : w1.cell? ⟨b + 1 + 1 + 1, 1, none⟩ = some (.int .i64 1) := s1
  go_wp2_with fail
  clear p0 p1 p2 p3 s0 s1 s0' s1'
  have HD1a := Lib.hid (HD1.out.go (World.grownBy_alloc w1 (.cells #[.int .i64 2] 3) none))
  refine (valid_calls (some ⟨b, 0, none⟩) 2 2 none none none 0 0 0 0 0 0 [2] (some ⟨w1.heap.size, 0, none⟩) 1 1 _ (ints_one w1 2) (by omega) (by decide)).mono ?_
  rintro e w2 ⟨rfl, g2⟩
  rw [show validI 2 [2] 1 = false by decide]
  have HD2 := Lib.hid (HD1a.out.go g2); clear g2 HD1 HD1a
  obtain ⟨p0, p1, p2, p3, s0, s1, _, _, _⟩ := HD2.out
  have s0' : w2.cell? ⟨b + 1 + 1 + 1, 0, none⟩ = some (.slice (some ⟨b + 1 + 1, 0, none⟩) 2 2) := s0
  have s1' : w2.cell? ⟨b + 1 + 1 + 1, 1, none⟩ = some (.int .i64 1) := s1
  go_wp2_with fail
  clear p0 p1 p2 p3 s0 s1 s0' s1'
  have HD2a := Lib.hid (HD2.out.go (World.grownBy_alloc w2 (.cells #[.int .i64 2, .int .i64 6] 3) none))
  refine (valid_calls (some ⟨b, 0, none⟩) 2 2 none none none 0 0 0 0 0 0 [2, 6] (some ⟨w2.heap.size, 0, none⟩) 2 1 _ (ints_two w2 2 6) (by omega) (by decide)).mono ?_
  rintro e w3 ⟨rfl, g3⟩
  rw [show validI 2 [2, 6] 1 = false by decide]
  have HD3 := Lib.hid (HD2a.out.go g3); clear g3 HD2 HD2a
  obtain ⟨p0, p1, p2, p3, s0, s1, _, _, _⟩ := HD3.out
  have s0' : w3.cell? ⟨b + 1 + 1 + 1, 0, none⟩ = some (.slice (some ⟨b + 1 + 1, 0, none⟩) 2 2) := s0
  have s1' : w3.cell? ⟨b + 1 + 1 + 1, 1, none⟩ = some (.int .i64 1) := s1
  go_wp2_with fail
  clear p0 p1 p2 p3 s0 s1 s0' s1'
  refine (atoms_calls [2, 3] (some ⟨b + 2, 0, none⟩) 2 1 w3 HD3.out.row (by decide) (by decide)).mono ?_
  rintro e w4 ⟨rfl, g4⟩
  rw [show ((sum [2, 3] : Nat) : Int) = 5 by decide]
  have HD4 := Lib.hid (HD3.out.go g4); clear g4 HD3
  obtain ⟨p0, p1, p2, p3, s0, s1, _, _, _⟩ := HD4.out
  have s0' : w4.cell? ⟨b + 1 + 1 + 1, 0, none⟩ = some (.slice (some ⟨b + 1 + 1, 0, none⟩) 2 2) := s0
  have s1' : w4.cell? ⟨b + 1 + 1 + 1, 1, none⟩ = some (.int .i64 1) := s1
  go_wp2_with fail
  clear p0 p1 p2 p3 s0 s1 s0' s1'
  refine (first_calls [2, 3] (some ⟨b + 2, 0, none⟩) 2 1 w4 HD4.out.row (by decide) (by decide) 1 (by decide)).mono ?_
  rintro e w5 ⟨rfl, g5⟩
  rw [show ((sum (List.take 1 [2, 3]) : Nat) : Int) = 2 by decide]
  have HD5 := Lib.hid (HD4.out.go g5); clear g5 HD4
  obtain ⟨p0, p1, p2, p3, s0, s1, _, _, _⟩ := HD5.out
  have s0' : w5.cell? ⟨b + 1 + 1 + 1, 0, none⟩ = some (.slice (some ⟨b + 1 + 1, 0, none⟩) 2 2) := s0
  have s1' : w5.cell? ⟨b + 1 + 1 + 1, 1, none⟩ = some (.int .i64 1) := s1
  go_wp2_with fail
  clear p0 p1 p2 p3 s0 s1 s0' s1'
  refine (sort_calls [2, 3] (some ⟨b + 2, 0, none⟩) 2 1 1 w5 HD5.out.row (by decide) (by decide)).mono ?_
  rintro e w6 ⟨rfl, g6⟩
  rw [show sortI [2, 3] 1 = 0 by decide]
  have HD6 := Lib.hid (HD5.out.go g6); clear g6 HD5
  obtain ⟨p0, p1, p2, p3, s0, s1, _, _, _⟩ := HD6.out
  have s0' : w6.cell? ⟨b + 1 + 1 + 1, 0, none⟩ = some (.slice (some ⟨b + 1 + 1, 0, none⟩) 2 2) := s0
  have s1' : w6.cell? ⟨b + 1 + 1 + 1, 1, none⟩ = some (.int .i64 1) := s1
  go_wp2_with fail
  clear p0 p1 p2 p3 s0 s1 s0' s1'
  refine (sort_calls [2, 3] (some ⟨b + 2, 0, none⟩) 2 1 2 w6 HD6.out.row (by decide) (by decide)).mono ?_
  rintro e w7 ⟨rfl, g7⟩
  rw [show sortI [2, 3] 2 = 1 by decide]
  have HD7 := Lib.hid (HD6.out.go g7); clear g7 HD6
  obtain ⟨p0, p1, p2, p3, s0, s1, _, _, _⟩ := HD7.out
  have s0' : w7.cell? ⟨b + 1 + 1 + 1, 0, none⟩ = some (.slice (some ⟨b + 1 + 1, 0, none⟩) 2 2) := s0
  have s1' : w7.cell? ⟨b + 1 + 1 + 1, 1, none⟩ = some (.int .i64 1) := s1
  go_wp2_with fail
  clear p0 p1 p2 p3 s0 s1 s0' s1'
  refine (sort_calls [2, 3] (some ⟨b + 2, 0, none⟩) 2 1 5 w7 HD7.out.row (by decide) (by decide)).mono ?_
  rintro e w8 ⟨rfl, g8⟩
  rw [show sortI [2, 3] 5 = -1 by decide]
  have HD8 := Lib.hid (HD7.out.go g8); clear g8 HD7
  obtain ⟨p0, p1, p2, p3, s0, s1, _, _, _⟩ := HD8.out
  have s0' : w8.cell? ⟨b + 1 + 1 + 1, 0, none⟩ = some (.slice (some ⟨b + 1 + 1, 0, none⟩) 2 2) := s0
  have s1' : w8.cell? ⟨b + 1 + 1 + 1, 1, none⟩ = some (.int .i64 1) := s1
  go_wp2_with fail
  clear p0 p1 p2 p3 s0 s1 s0' s1'
  have HD8a := Lib.hid (HD8.out.go (World.grownBy_alloc w8 (.cells #[.int .i64 1, .int .i64 4] 3) none))
  refine (rank_calls [2, 3] (some ⟨b + 2, 0, none⟩) 2 1 [1, 4] (some ⟨w8.heap.size, 0, none⟩) 2 _ HD8a.out.row (by decide) (by decide) (ints_two w8 1 4) (by decide)).mono ?_
  rintro e w9 ⟨rfl, g9⟩
  rw [show rankI (sum [2, 3]) [1, 4] = 9 by decide]
  have HD9 := Lib.hid (HD8a.out.go g9); clear g9 HD8 HD8a
  obtain ⟨p0, p1, p2, p3, s0, s1, _, _, _⟩ := HD9.out
  have s0' : w9.cell? ⟨b + 1 + 1 + 1, 0, none⟩ = some (.slice (some ⟨b + 1 + 1, 0, none⟩) 2 2) := s0
  have s1' : w9.cell? ⟨b + 1 + 1 + 1, 1, none⟩ = some (.int .i64 1) := s1
  go_wp2_with fail
  clear p0 p1 p2 p3 s0 s1 s0' s1'
  have HD9a := Lib.hid (HD9.out.go (World.grownBy_alloc w9 (.cells #[.int .i64 5] 3) none))
  refine (rank_calls [2, 3] (some ⟨b + 2, 0, none⟩) 2 1 [5] (some ⟨w9.heap.size, 0, none⟩) 1 _ HD9a.out.row (by decide) (by decide) (ints_one w9 5) (by decide)).mono ?_
  rintro e w10 ⟨rfl, g10⟩
  rw [show rankI (sum [2, 3]) [5] = -1 by decide]
  have HD10 := Lib.hid (HD9a.out.go g10); clear g10 HD9 HD9a
  obtain ⟨p0, p1, p2, p3, s0, s1, _, _, _⟩ := HD10.out
  have s0' : w10.cell? ⟨b + 1 + 1 + 1, 0, none⟩ = some (.slice (some ⟨b + 1 + 1, 0, none⟩) 2 2) := s0
  have s1' : w10.cell? ⟨b + 1 + 1 + 1, 1, none⟩ = some (.int .i64 1) := s1
  go_wp2_with fail
  clear p0 p1 p2 p3 s0 s1 s0' s1'
  refine (tuple_calls [2, 3] (some ⟨b + 2, 0, none⟩) 2 1 2 9 w10 HD10.out.row (by decide) (by decide) (by omega)).mono ?_
  rintro e w11 ⟨ta, tc, rfl, ti, g11⟩
  rw [show tupI (sum [2, 3]) 2 9 = [1, 4] by kernel_rfl] at ti ⊢
  have HTI := Lib.hid ti; clear ti
  have HD11 := Lib.hid (HD10.out.go g11); clear g11 HD10
  obtain ⟨p0, p1, p2, p3, s0, s1, _, _, _⟩ := HD11.out
  have s0' : w11.cell? ⟨b + 1 + 1 + 1, 0, none⟩ = some (.slice (some ⟨b + 1 + 1, 0, none⟩) 2 2) := s0
  have s1' : w11.cell? ⟨b + 1 + 1 + 1, 1, none⟩ = some (.int .i64 1) := s1
  go_wp2_with fail
  clear p0 p1 p2 p3 s0 s1 s0' s1'
  have HD11a := Lib.hid (HD11.out.go (World.grownBy_alloc w11 (.cells #[.int .i64 1, .int .i64 4] 3) none))
  refine (sameTuple_calls [1, 4] [1, 4] ta (some ⟨w11.heap.size, 0, none⟩) tc 2 _ (HTI.out.grown (World.grownBy_alloc _ _ none)) (ints_two w11 1 4) (by decide) (by decide)).mono ?_
  rintro e w12 ⟨rfl, q, hq⟩
  have g12 : (w11.alloc (.cells #[.int .i64 1, .int .i64 4] 3)).grownBy w12 none := by rw [hq]; exact grown_drewN _ _ _
  clear hq HTI
  rw [show decide (([1, 4] : List Int) = [1, 4]) = true by decide]
  have HD12 := Lib.hid (HD11a.out.go g12); clear g12 HD11 HD11a
  obtain ⟨p0, p1, p2, p3, s0, s1, _, _, _⟩ := HD12.out
  have s0' : w12.cell? ⟨b + 1 + 1 + 1, 0, none⟩ = some (.slice (some ⟨b + 1 + 1, 0, none⟩) 2 2) := s0
  have s1' : w12.cell? ⟨b + 1 + 1 + 1, 1, none⟩ = some (.int .i64 1) := s1
  go_wp2_with fail
  clear p0 p1 p2 p3 s0 s1 s0' s1'
  refine (tuple_calls [2, 3] (some ⟨b + 2, 0, none⟩) 2 1 2 25 w12 HD12.out.row (by decide) (by decide) (by omega)).mono ?_
  rintro e w13 ⟨ub, uc, rfl, _, g13⟩
  rw [show tupI (sum [2, 3]) 2 25 = [] by kernel_rfl]
  have HD13 := Lib.hid (HD12.out.go g13); clear g13 HD12
  obtain ⟨p0, p1, p2, p3, s0, s1, _, _, _⟩ := HD13.out
  have s0' : w13.cell? ⟨b + 1 + 1 + 1, 0, none⟩ = some (.slice (some ⟨b + 1 + 1, 0, none⟩) 2 2) := s0
  have s1' : w13.cell? ⟨b + 1 + 1 + 1, 1, none⟩ = some (.int .i64 1) := s1
  go_wp2_with fail
  clear p0 p1 p2 p3 s0 s1 s0' s1'
  have HD13a := Lib.hid (HD13.out.go (World.grownBy_alloc w13 (.cells #[.int .i64 1, .int .i64 0] 3) none))
  refine (hf _ (some ⟨b + 2, 0, none⟩) (some ⟨w13.heap.size, 0, none⟩) 2 2 HD13a.out.row (ints_two w13 1 0)).mono ?_
  rintro e w14 ⟨ra, rc, rfl, ri, g14⟩
  have HRI := Lib.hid ri; clear ri
  have HD14 := Lib.hid (HD13a.out.go g14); clear g14 HD13 HD13a
  obtain ⟨p0, p1, p2, p3, s0, s1, _, _, _⟩ := HD14.out
  have s0' : w14.cell? ⟨b + 1 + 1 + 1, 0, none⟩ = some (.slice (some ⟨b + 1 + 1, 0, none⟩) 2 2) := s0
  have s1' : w14.cell? ⟨b + 1 + 1 + 1, 1, none⟩ = some (.int .i64 1) := s1
  go_wp2_with fail
  clear p0 p1 p2 p3 s0 s1 s0' s1'
  have HD14a := Lib.hid (HD14.out.go (World.grownBy_alloc w14 (.cells #[.int .i64 10, .int .i64 11, .int .i64 15, .int .i64 16, .int .i64 20, .int .i64 21] 3) none))
  refine (same_calls 2 2 [10, 11, 15, 16, 20, 21] [10, 11, 15, 16, 20, 21] ra (some ⟨w14.heap.size, 0, none⟩) rc 6 _ (HRI.out.grown (World.grownBy_alloc _ _ none)) (ints_six w14) (by decide) (by decide)).mono ?_
  rintro e w15 ⟨rfl, g15⟩
  rw [show decide ((2 : Int) = 2 ∧ ([10, 11, 15, 16, 20, 21] : List Int) = [10, 11, 15, 16, 20, 21]) = true by decide]
  have HD15 := Lib.hid (HD14a.out.go g15); clear g15 HD14 HD14a
  obtain ⟨p0, p1, p2, p3, s0, s1, _, _, _⟩ := HD15.out
  have s0' : w15.cell? ⟨b + 1 + 1 + 1, 0, none⟩ = some (.slice (some ⟨b + 1 + 1, 0, none⟩) 2 2) := s0
  have s1' : w15.cell? ⟨b + 1 + 1 + 1, 1, none⟩ = some (.int .i64 1) := s1
  go_wp2_with fail
  clear p0 p1 p2 p3 s0 s1 s0' s1'
  refine (name_calls [sp1, sp2] (some ⟨b, 0, none⟩) 2 none none none 0 0 0 0 0 0 [2, 3] (some ⟨b + 2, 0, none⟩) 2 1 3 w15 HD15.out.named (by decide) (by decide) HD15.out.row (by decide) (by decide)).mono ?_
  rintro e w16 ⟨⟨s, rfl, _, hs⟩, g16⟩
  have hs1 := hs 1 sp2 (by decide) rfl
  rw [name_is] at hs1
  subst hs1
  clear hs
  have HD16 := Lib.hid (HD15.out.go g16); clear g16 HD15
  obtain ⟨p0, p1, p2, p3, s0, s1, _, _, _⟩ := HD16.out
  have s0' : w16.cell? ⟨b + 1 + 1 + 1, 0, none⟩ = some (.slice (some ⟨b + 1 + 1, 0, none⟩) 2 2) := s0
  have s1' : w16.cell? ⟨b + 1 + 1 + 1, 1, none⟩ = some (.int .i64 1) := s1
  go_wp2_with fail
  clear p0 p1 p2 p3 s0 s1 s0' s1'
  go_ret
  exact ⟨rfl, HD16.out.grown⟩
end Go.Proofs.YtagfkapgjdaiaaaDoor
