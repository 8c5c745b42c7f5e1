/- The examples of the chapter hold. -/
import Derived.Test.YtkoigonbncpbaaaB10
import Derived.Deep.DeepCutAuto
namespace Go.Proofs.Ytkoigonbncpbaaa
open Go.RowKit Go.Shelf

theorem intsW_lit1 (w : World) (x : Int) : IntsW (w.alloc (.cells #[.int .i64 x] 3)) (some ⟨w.heap.size, 0, none⟩) 1 [x] := ⟨Nat.le_refl _, .inr ⟨_, _, rfl, fun j u hj => by
  match j, hj with
  | 0, hj => simp at hj; subst hj; go_simp⟩⟩
theorem intsW_lit2 (w : World) (x y : Int) : IntsW (w.alloc (.cells #[.int .i64 x, .int .i64 y] 3)) (some ⟨w.heap.size, 0, none⟩) 2 [x, y] := ⟨Nat.le_refl _, .inr ⟨_, _, rfl, fun j u hj => by
  match j, hj with
  | 0, hj => simp at hj; subst hj; go_simp
  | 1, hj => simp at hj; subst hj; go_simp⟩⟩
theorem intsW_lit3 (w : World) (x y z : Int) : IntsW (w.alloc (.cells #[.int .i64 x, .int .i64 y, .int .i64 z] 3)) (some ⟨w.heap.size, 0, none⟩) 3 [x, y, z] := ⟨Nat.le_refl _, .inr ⟨_, _, rfl, fun j u hj => by
  match j, hj with
  | 0, hj => simp at hj; subst hj; go_simp
  | 1, hj => simp at hj; subst hj; go_simp
  | 2, hj => simp at hj; subst hj; go_simp⟩⟩
theorem badValid (U : World) (a : Option Addr) (c : Nat) (h : IntsW U a c [9]) : Calls Try.prog 17 #[.int .i64 3, .agg #[.int .i64 2, .slice a 1 c]] U fun e w' => e = .returned (.bool false) ∧ U.grownBy w' none := by
  have h := relValid_calls 3 2 [9] a c U h (by simp)
  have e : relValid 3 2 [9] = false := by decide
  rw [e] at h
  exact h

set_option maxRecDepth 100000 in
set_option maxHeartbeats 8000000 in
theorem head_calls (V0 : World) : Calls Try.prog 10 #[] V0 fun e w' => e = .returned (.bool true) ∧ V0.grownBy w' none := by
  have v1 : VR 3 1 [1] := ⟨by decide, by decide⟩
  have v2 : VR 3 1 [0, 2] := ⟨by decide, by decide⟩
  have v3 : VR 3 2 [1, 5] := ⟨by decide, by decide⟩
  have v4 : VR 3 2 [0, 4] := ⟨by decide, by decide⟩
  have v5 : VR 3 2 [2] := ⟨by decide, by decide⟩
  have v6 : VR 3 1 [0, 1] := ⟨by decide, by decide⟩
  have w1 : VR 3 2 [3, 5] := ⟨by decide, by decide⟩
  have w2 : VR 3 2 [2] := ⟨by decide, by decide⟩
  have w3 : VR 3 2 [1, 2, 5] := ⟨by decide, by decide⟩
  have w4 : VR 3 2 [2, 4] := ⟨by decide, by decide⟩
  have p1 : prodL (3 ^ 1) [1] [0, 2] = [3, 5] := by decide
  have p2 : uniq (joinP 3 (3 ^ (2 - 1)) [1, 5] [1, 5]) = [2] := up_ext (uniq_up _) (by decide) (fun x => by rw [mem_uniq, show joinP 3 (3 ^ (2 - 1)) [1, 5] [1, 5] = [2] by decide])
  have p3 : uniq (closS 3 [1, 5]) = [1, 2, 5] := up_ext (uniq_up _) (by decide) (fun x => by rw [mem_uniq, show closS 3 [1, 5] = [1, 5, 2] by decide]; simp; omega)
  have p4 : overL (3 ^ (2 - 1)) [0, 4] [2] = [2, 4] := up_ext (VR.over v4 v5).up (by decide) (fun x => by rw [mem_union (VR.keep v4).up v5.up, show keepL (3 ^ (2 - 1)) [0, 4] [2] = [4] by decide]; simp; omega)
  have HG := Lib.hid (grown_refl V0 none)
  go_enter Try.func10, Try.ntmps10
  go_upto_region 1 with fail
  go_wp2_with fail
  have g := World.grownBy_alloc V0 (.cells #[.int .i64 1] 3) none
  have hi := intsW_lit1 V0 1
  obtain ⟨V1, hV1⟩ : ∃ z, World.alloc V0 (.cells #[.int .i64 1] 3) = z := ⟨_, rfl⟩
  rw [hV1] at g hi ⊢
  clear hV1
  obtain ⟨br1, hb⟩ : ∃ b, V0.heap.size = b := ⟨_, rfl⟩
  rw [hb] at hi ⊢
  clear hb
  replace HG := Lib.hid (World.grownBy.trans HG.out g)
  clear g
  have Hr1 := Lib.hid hi
  clear hi
  refine (rel_calls 1 1 _ _ _).mono ?_
  rintro e V2 ⟨rfl, g⟩
  replace Hr1 := Lib.hid (Hr1.out.grown g)
  replace HG := Lib.hid (World.grownBy.trans HG.out g)
  clear g
  go_wp2_with fail
  have g := World.grownBy_alloc V2 (.cells #[.int .i64 0, .int .i64 2] 3) none
  have hi := intsW_lit2 V2 0 2
  obtain ⟨V3, hV3⟩ : ∃ z, World.alloc V2 (.cells #[.int .i64 0, .int .i64 2] 3) = z := ⟨_, rfl⟩
  rw [hV3] at g hi ⊢
  clear hV3
  obtain ⟨br2, hb⟩ : ∃ b, V2.heap.size = b := ⟨_, rfl⟩
  rw [hb] at hi ⊢
  clear hb
  replace Hr1 := Lib.hid (Hr1.out.grown g)
  replace HG := Lib.hid (World.grownBy.trans HG.out g)
  clear g
  have Hr2 := Lib.hid hi
  clear hi
  refine (rel_calls 1 2 _ _ _).mono ?_
  rintro e V4 ⟨rfl, g⟩
  replace Hr1 := Lib.hid (Hr1.out.grown g)
  replace Hr2 := Lib.hid (Hr2.out.grown g)
  replace HG := Lib.hid (World.grownBy.trans HG.out g)
  clear g
  go_wp2_with fail
  refine (prodV (n := 3) (k := 1) (j := 1) 2 rfl v1 v2 (by omega) (by omega) p1 rfl rfl rfl V4 _ _ _ _ Hr1.out Hr2.out).mono ?_
  rintro e V5 ⟨xp1, yp1, rfl, hr, g⟩
  replace Hr1 := Lib.hid (Hr1.out.grown g)
  replace Hr2 := Lib.hid (Hr2.out.grown g)
  replace HG := Lib.hid (World.grownBy.trans HG.out g)
  clear g
  have Hp1 := Lib.hid hr
  clear hr
  go_upto_region 2 with fail
  have hbx := one_cells V5 (.int .i64 2) (.slice xp1 2 yp1) 27
  have g := World.grownBy_alloc V5 (.cells #[.int .i64 2, .slice xp1 2 yp1] 27) none
  obtain ⟨V6, hV6⟩ : ∃ z, World.alloc V5 (.cells #[.int .i64 2, .slice xp1 2 yp1] 27) = z := ⟨_, rfl⟩
  rw [hV6] at g hbx ⊢
  clear hV6
  obtain ⟨bA, hb⟩ : ∃ b, V5.heap.size = b := ⟨_, rfl⟩
  rw [hb] at hbx ⊢
  clear hb
  replace Hr1 := Lib.hid (Hr1.out.grown g)
  replace Hr2 := Lib.hid (Hr2.out.grown g)
  replace Hp1 := Lib.hid (Hp1.out.grown g)
  replace HG := Lib.hid (World.grownBy.trans HG.out g)
  clear g
  have HA := Lib.hid (And.intro hbx.2.1 hbx.2.2.1)
  clear hbx
  have qA0 := HA.out.1
  have qA1 := HA.out.2
  go_wp2_with fail
  clear qA0 qA1
  have g := World.grownBy_alloc V6 (.cells #[.int .i64 1, .int .i64 5] 3) none
  have hi := intsW_lit2 V6 1 5
  obtain ⟨V7, hV7⟩ : ∃ z, World.alloc V6 (.cells #[.int .i64 1, .int .i64 5] 3) = z := ⟨_, rfl⟩
  rw [hV7] at g hi ⊢
  clear hV7
  obtain ⟨br3, hb⟩ : ∃ b, V6.heap.size = b := ⟨_, rfl⟩
  rw [hb] at hi ⊢
  clear hb
  replace Hr1 := Lib.hid (Hr1.out.grown g)
  replace Hr2 := Lib.hid (Hr2.out.grown g)
  replace Hp1 := Lib.hid (Hp1.out.grown g)
  replace HA := Lib.hid (And.intro (World.grownBy.cell g HA.out.1 (by simp)) (World.grownBy.cell g HA.out.2 (by simp)))
  replace HG := Lib.hid (World.grownBy.trans HG.out g)
  clear g
  have Hr3 := Lib.hid hi
  clear hi
  refine (rel_calls 2 2 _ _ _).mono ?_
  rintro e V8 ⟨rfl, g⟩
  replace Hr1 := Lib.hid (Hr1.out.grown g)
  replace Hr2 := Lib.hid (Hr2.out.grown g)
  replace Hp1 := Lib.hid (Hp1.out.grown g)
  replace Hr3 := Lib.hid (Hr3.out.grown g)
  replace HA := Lib.hid (And.intro (World.grownBy.cell g HA.out.1 (by simp)) (World.grownBy.cell g HA.out.2 (by simp)))
  replace HG := Lib.hid (World.grownBy.trans HG.out g)
  clear g
  have qA0 := HA.out.1
  have qA1 := HA.out.2
  go_wp2_with fail
  clear qA0 qA1
  have g := World.grownBy_alloc V8 (.cells #[.int .i64 1, .int .i64 5] 3) none
  have hi := intsW_lit2 V8 1 5
  obtain ⟨V9, hV9⟩ : ∃ z, World.alloc V8 (.cells #[.int .i64 1, .int .i64 5] 3) = z := ⟨_, rfl⟩
  rw [hV9] at g hi ⊢
  clear hV9
  obtain ⟨br4, hb⟩ : ∃ b, V8.heap.size = b := ⟨_, rfl⟩
  rw [hb] at hi ⊢
  clear hb
  replace Hr1 := Lib.hid (Hr1.out.grown g)
  replace Hr2 := Lib.hid (Hr2.out.grown g)
  replace Hp1 := Lib.hid (Hp1.out.grown g)
  replace Hr3 := Lib.hid (Hr3.out.grown g)
  replace HA := Lib.hid (And.intro (World.grownBy.cell g HA.out.1 (by simp)) (World.grownBy.cell g HA.out.2 (by simp)))
  replace HG := Lib.hid (World.grownBy.trans HG.out g)
  clear g
  have Hr4 := Lib.hid hi
  clear hi
  refine (rel_calls 2 2 _ _ _).mono ?_
  rintro e V10 ⟨rfl, g⟩
  replace Hr1 := Lib.hid (Hr1.out.grown g)
  replace Hr2 := Lib.hid (Hr2.out.grown g)
  replace Hp1 := Lib.hid (Hp1.out.grown g)
  replace Hr3 := Lib.hid (Hr3.out.grown g)
  replace Hr4 := Lib.hid (Hr4.out.grown g)
  replace HA := Lib.hid (And.intro (World.grownBy.cell g HA.out.1 (by simp)) (World.grownBy.cell g HA.out.2 (by simp)))
  replace HG := Lib.hid (World.grownBy.trans HG.out g)
  clear g
  have qA0 := HA.out.1
  have qA1 := HA.out.2
  go_wp2_with fail
  clear qA0 qA1
  refine (joinV (n := 3) (k := 2) (j := 2) 2 rfl v3 v3 (by omega) (by omega) (by omega) (by omega) (by omega) (by omega) (by omega) (by omega) p2 rfl rfl rfl V10 _ _ _ _ Hr3.out Hr4.out).mono ?_
  rintro e V11 ⟨xp2, yp2, rfl, hr, g⟩
  replace Hr1 := Lib.hid (Hr1.out.grown g)
  replace Hr2 := Lib.hid (Hr2.out.grown g)
  replace Hp1 := Lib.hid (Hp1.out.grown g)
  replace Hr3 := Lib.hid (Hr3.out.grown g)
  replace Hr4 := Lib.hid (Hr4.out.grown g)
  replace HA := Lib.hid (And.intro (World.grownBy.cell g HA.out.1 (by simp)) (World.grownBy.cell g HA.out.2 (by simp)))
  replace HG := Lib.hid (World.grownBy.trans HG.out g)
  clear g
  have Hp2 := Lib.hid hr
  clear hr
  have qA0 := HA.out.1
  have qA1 := HA.out.2
  go_upto_region 3 with fail
  clear qA0 qA1
  have hbx := one_cells V11 (.int .i64 2) (.slice xp2 1 yp2) 27
  have g := World.grownBy_alloc V11 (.cells #[.int .i64 2, .slice xp2 1 yp2] 27) none
  obtain ⟨V12, hV12⟩ : ∃ z, World.alloc V11 (.cells #[.int .i64 2, .slice xp2 1 yp2] 27) = z := ⟨_, rfl⟩
  rw [hV12] at g hbx ⊢
  clear hV12
  obtain ⟨bB, hb⟩ : ∃ b, V11.heap.size = b := ⟨_, rfl⟩
  rw [hb] at hbx ⊢
  clear hb
  replace Hr1 := Lib.hid (Hr1.out.grown g)
  replace Hr2 := Lib.hid (Hr2.out.grown g)
  replace Hp1 := Lib.hid (Hp1.out.grown g)
  replace Hr3 := Lib.hid (Hr3.out.grown g)
  replace Hr4 := Lib.hid (Hr4.out.grown g)
  replace Hp2 := Lib.hid (Hp2.out.grown g)
  replace HA := Lib.hid (And.intro (World.grownBy.cell g HA.out.1 (by simp)) (World.grownBy.cell g HA.out.2 (by simp)))
  replace HG := Lib.hid (World.grownBy.trans HG.out g)
  clear g
  have HB := Lib.hid (And.intro hbx.2.1 hbx.2.2.1)
  clear hbx
  have qA0 := HA.out.1
  have qA1 := HA.out.2
  have qB0 := HB.out.1
  have qB1 := HB.out.2
  go_wp2_with fail
  clear qA0 qA1 qB0 qB1
  refine (rel_calls 2 0 none 0 _).mono ?_
  rintro e V13 ⟨rfl, g⟩
  replace Hr1 := Lib.hid (Hr1.out.grown g)
  replace Hr2 := Lib.hid (Hr2.out.grown g)
  replace Hp1 := Lib.hid (Hp1.out.grown g)
  replace Hr3 := Lib.hid (Hr3.out.grown g)
  replace Hr4 := Lib.hid (Hr4.out.grown g)
  replace Hp2 := Lib.hid (Hp2.out.grown g)
  replace HA := Lib.hid (And.intro (World.grownBy.cell g HA.out.1 (by simp)) (World.grownBy.cell g HA.out.2 (by simp)))
  replace HB := Lib.hid (And.intro (World.grownBy.cell g HB.out.1 (by simp)) (World.grownBy.cell g HB.out.2 (by simp)))
  replace HG := Lib.hid (World.grownBy.trans HG.out g)
  clear g
  have qA0 := HA.out.1
  have qA1 := HA.out.2
  have qB0 := HB.out.1
  have qB1 := HB.out.2
  go_wp2_with fail
  clear qA0 qA1 qB0 qB1
  refine (rel_calls 2 0 none 0 _).mono ?_
  rintro e V14 ⟨rfl, g⟩
  replace Hr1 := Lib.hid (Hr1.out.grown g)
  replace Hr2 := Lib.hid (Hr2.out.grown g)
  replace Hp1 := Lib.hid (Hp1.out.grown g)
  replace Hr3 := Lib.hid (Hr3.out.grown g)
  replace Hr4 := Lib.hid (Hr4.out.grown g)
  replace Hp2 := Lib.hid (Hp2.out.grown g)
  replace HA := Lib.hid (And.intro (World.grownBy.cell g HA.out.1 (by simp)) (World.grownBy.cell g HA.out.2 (by simp)))
  replace HB := Lib.hid (And.intro (World.grownBy.cell g HB.out.1 (by simp)) (World.grownBy.cell g HB.out.2 (by simp)))
  replace HG := Lib.hid (World.grownBy.trans HG.out g)
  clear g
  have qA0 := HA.out.1
  have qA1 := HA.out.2
  have qB0 := HB.out.1
  have qB1 := HB.out.2
  go_wp2_with fail
  clear qA0 qA1 qB0 qB1
  refine (prodOdd (n := 3) (k := 2) (j := 2) (A := []) (B := []) (by omega) (by omega) (by omega) rfl rfl V14 _ _ _ _).mono ?_
  rintro e V15 ⟨rfl, g⟩
  replace Hr1 := Lib.hid (Hr1.out.grown g)
  replace Hr2 := Lib.hid (Hr2.out.grown g)
  replace Hp1 := Lib.hid (Hp1.out.grown g)
  replace Hr3 := Lib.hid (Hr3.out.grown g)
  replace Hr4 := Lib.hid (Hr4.out.grown g)
  replace Hp2 := Lib.hid (Hp2.out.grown g)
  replace HA := Lib.hid (And.intro (World.grownBy.cell g HA.out.1 (by simp)) (World.grownBy.cell g HA.out.2 (by simp)))
  replace HB := Lib.hid (And.intro (World.grownBy.cell g HB.out.1 (by simp)) (World.grownBy.cell g HB.out.2 (by simp)))
  replace HG := Lib.hid (World.grownBy.trans HG.out g)
  clear g
  have qA0 := HA.out.1
  have qA1 := HA.out.2
  have qB0 := HB.out.1
  have qB1 := HB.out.2
  go_upto_region 4 with fail
  clear qA0 qA1 qB0 qB1
  have hbx := one_cells V15 (.int .i64 0) (.slice none 0 0) 27
  have g := World.grownBy_alloc V15 (.cells #[.int .i64 0, .slice none 0 0] 27) none
  obtain ⟨V16, hV16⟩ : ∃ z, World.alloc V15 (.cells #[.int .i64 0, .slice none 0 0] 27) = z := ⟨_, rfl⟩
  rw [hV16] at g hbx ⊢
  clear hV16
  obtain ⟨bC, hb⟩ : ∃ b, V15.heap.size = b := ⟨_, rfl⟩
  rw [hb] at hbx ⊢
  clear hb
  replace Hr1 := Lib.hid (Hr1.out.grown g)
  replace Hr2 := Lib.hid (Hr2.out.grown g)
  replace Hp1 := Lib.hid (Hp1.out.grown g)
  replace Hr3 := Lib.hid (Hr3.out.grown g)
  replace Hr4 := Lib.hid (Hr4.out.grown g)
  replace Hp2 := Lib.hid (Hp2.out.grown g)
  replace HA := Lib.hid (And.intro (World.grownBy.cell g HA.out.1 (by simp)) (World.grownBy.cell g HA.out.2 (by simp)))
  replace HB := Lib.hid (And.intro (World.grownBy.cell g HB.out.1 (by simp)) (World.grownBy.cell g HB.out.2 (by simp)))
  replace HG := Lib.hid (World.grownBy.trans HG.out g)
  clear g
  have HC := Lib.hid (And.intro hbx.2.1 hbx.2.2.1)
  clear hbx
  have qA0 := HA.out.1
  have qA1 := HA.out.2
  have qB0 := HB.out.1
  have qB1 := HB.out.2
  have qC0 := HC.out.1
  have qC1 := HC.out.2
  go_wp2_with fail
  clear qA0 qA1 qB0 qB1 qC0 qC1
  have g := World.grownBy_alloc V16 (.cells #[.int .i64 0] 3) none
  have hi := intsW_lit1 V16 0
  obtain ⟨V17, hV17⟩ : ∃ z, World.alloc V16 (.cells #[.int .i64 0] 3) = z := ⟨_, rfl⟩
  rw [hV17] at g hi ⊢
  clear hV17
  obtain ⟨br5, hb⟩ : ∃ b, V16.heap.size = b := ⟨_, rfl⟩
  rw [hb] at hi ⊢
  clear hb
  replace Hr1 := Lib.hid (Hr1.out.grown g)
  replace Hr2 := Lib.hid (Hr2.out.grown g)
  replace Hp1 := Lib.hid (Hp1.out.grown g)
  replace Hr3 := Lib.hid (Hr3.out.grown g)
  replace Hr4 := Lib.hid (Hr4.out.grown g)
  replace Hp2 := Lib.hid (Hp2.out.grown g)
  replace HA := Lib.hid (And.intro (World.grownBy.cell g HA.out.1 (by simp)) (World.grownBy.cell g HA.out.2 (by simp)))
  replace HB := Lib.hid (And.intro (World.grownBy.cell g HB.out.1 (by simp)) (World.grownBy.cell g HB.out.2 (by simp)))
  replace HC := Lib.hid (And.intro (World.grownBy.cell g HC.out.1 (by simp)) (World.grownBy.cell g HC.out.2 (by simp)))
  replace HG := Lib.hid (World.grownBy.trans HG.out g)
  clear g
  have Hr5 := Lib.hid hi
  clear hi
  refine (rel_calls 1 1 _ _ _).mono ?_
  rintro e V18 ⟨rfl, g⟩
  replace Hr1 := Lib.hid (Hr1.out.grown g)
  replace Hr2 := Lib.hid (Hr2.out.grown g)
  replace Hp1 := Lib.hid (Hp1.out.grown g)
  replace Hr3 := Lib.hid (Hr3.out.grown g)
  replace Hr4 := Lib.hid (Hr4.out.grown g)
  replace Hp2 := Lib.hid (Hp2.out.grown g)
  replace Hr5 := Lib.hid (Hr5.out.grown g)
  replace HA := Lib.hid (And.intro (World.grownBy.cell g HA.out.1 (by simp)) (World.grownBy.cell g HA.out.2 (by simp)))
  replace HB := Lib.hid (And.intro (World.grownBy.cell g HB.out.1 (by simp)) (World.grownBy.cell g HB.out.2 (by simp)))
  replace HC := Lib.hid (And.intro (World.grownBy.cell g HC.out.1 (by simp)) (World.grownBy.cell g HC.out.2 (by simp)))
  replace HG := Lib.hid (World.grownBy.trans HG.out g)
  clear g
  have qA0 := HA.out.1
  have qA1 := HA.out.2
  have qB0 := HB.out.1
  have qB1 := HB.out.2
  have qC0 := HC.out.1
  have qC1 := HC.out.2
  go_wp2_with fail
  clear qA0 qA1 qB0 qB1 qC0 qC1
  have g := World.grownBy_alloc V18 (.cells #[.int .i64 0] 3) none
  have hi := intsW_lit1 V18 0
  obtain ⟨V19, hV19⟩ : ∃ z, World.alloc V18 (.cells #[.int .i64 0] 3) = z := ⟨_, rfl⟩
  rw [hV19] at g hi ⊢
  clear hV19
  obtain ⟨br6, hb⟩ : ∃ b, V18.heap.size = b := ⟨_, rfl⟩
  rw [hb] at hi ⊢
  clear hb
  replace Hr1 := Lib.hid (Hr1.out.grown g)
  replace Hr2 := Lib.hid (Hr2.out.grown g)
  replace Hp1 := Lib.hid (Hp1.out.grown g)
  replace Hr3 := Lib.hid (Hr3.out.grown g)
  replace Hr4 := Lib.hid (Hr4.out.grown g)
  replace Hp2 := Lib.hid (Hp2.out.grown g)
  replace Hr5 := Lib.hid (Hr5.out.grown g)
  replace HA := Lib.hid (And.intro (World.grownBy.cell g HA.out.1 (by simp)) (World.grownBy.cell g HA.out.2 (by simp)))
  replace HB := Lib.hid (And.intro (World.grownBy.cell g HB.out.1 (by simp)) (World.grownBy.cell g HB.out.2 (by simp)))
  replace HC := Lib.hid (And.intro (World.grownBy.cell g HC.out.1 (by simp)) (World.grownBy.cell g HC.out.2 (by simp)))
  replace HG := Lib.hid (World.grownBy.trans HG.out g)
  clear g
  have Hr6 := Lib.hid hi
  clear hi
  refine (rel_calls 1 1 _ _ _).mono ?_
  rintro e V20 ⟨rfl, g⟩
  replace Hr1 := Lib.hid (Hr1.out.grown g)
  replace Hr2 := Lib.hid (Hr2.out.grown g)
  replace Hp1 := Lib.hid (Hp1.out.grown g)
  replace Hr3 := Lib.hid (Hr3.out.grown g)
  replace Hr4 := Lib.hid (Hr4.out.grown g)
  replace Hp2 := Lib.hid (Hp2.out.grown g)
  replace Hr5 := Lib.hid (Hr5.out.grown g)
  replace Hr6 := Lib.hid (Hr6.out.grown g)
  replace HA := Lib.hid (And.intro (World.grownBy.cell g HA.out.1 (by simp)) (World.grownBy.cell g HA.out.2 (by simp)))
  replace HB := Lib.hid (And.intro (World.grownBy.cell g HB.out.1 (by simp)) (World.grownBy.cell g HB.out.2 (by simp)))
  replace HC := Lib.hid (And.intro (World.grownBy.cell g HC.out.1 (by simp)) (World.grownBy.cell g HC.out.2 (by simp)))
  replace HG := Lib.hid (World.grownBy.trans HG.out g)
  clear g
  have qA0 := HA.out.1
  have qA1 := HA.out.2
  have qB0 := HB.out.1
  have qB1 := HB.out.2
  have qC0 := HC.out.1
  have qC1 := HC.out.2
  go_wp2_with fail
  clear qA0 qA1 qB0 qB1 qC0 qC1
  refine (joinOdd (n := 3) (k := 1) (j := 1) (A := [0]) (B := [0]) (by omega) (by omega) (by omega) rfl rfl V20 _ _ _ _).mono ?_
  rintro e V21 ⟨rfl, g⟩
  replace Hr1 := Lib.hid (Hr1.out.grown g)
  replace Hr2 := Lib.hid (Hr2.out.grown g)
  replace Hp1 := Lib.hid (Hp1.out.grown g)
  replace Hr3 := Lib.hid (Hr3.out.grown g)
  replace Hr4 := Lib.hid (Hr4.out.grown g)
  replace Hp2 := Lib.hid (Hp2.out.grown g)
  replace Hr5 := Lib.hid (Hr5.out.grown g)
  replace Hr6 := Lib.hid (Hr6.out.grown g)
  replace HA := Lib.hid (And.intro (World.grownBy.cell g HA.out.1 (by simp)) (World.grownBy.cell g HA.out.2 (by simp)))
  replace HB := Lib.hid (And.intro (World.grownBy.cell g HB.out.1 (by simp)) (World.grownBy.cell g HB.out.2 (by simp)))
  replace HC := Lib.hid (And.intro (World.grownBy.cell g HC.out.1 (by simp)) (World.grownBy.cell g HC.out.2 (by simp)))
  replace HG := Lib.hid (World.grownBy.trans HG.out g)
  clear g
  have qA0 := HA.out.1
  have qA1 := HA.out.2
  have qB0 := HB.out.1
  have qB1 := HB.out.2
  have qC0 := HC.out.1
  have qC1 := HC.out.2
  go_upto_region 5 with fail
  clear qA0 qA1 qB0 qB1 qC0 qC1
  have hbx := one_cells V21 (.int .i64 0) (.slice none 0 0) 27
  have g := World.grownBy_alloc V21 (.cells #[.int .i64 0, .slice none 0 0] 27) none
  obtain ⟨V22, hV22⟩ : ∃ z, World.alloc V21 (.cells #[.int .i64 0, .slice none 0 0] 27) = z := ⟨_, rfl⟩
  rw [hV22] at g hbx ⊢
  clear hV22
  obtain ⟨bD, hb⟩ : ∃ b, V21.heap.size = b := ⟨_, rfl⟩
  rw [hb] at hbx ⊢
  clear hb
  replace Hr1 := Lib.hid (Hr1.out.grown g)
  replace Hr2 := Lib.hid (Hr2.out.grown g)
  replace Hp1 := Lib.hid (Hp1.out.grown g)
  replace Hr3 := Lib.hid (Hr3.out.grown g)
  replace Hr4 := Lib.hid (Hr4.out.grown g)
  replace Hp2 := Lib.hid (Hp2.out.grown g)
  replace Hr5 := Lib.hid (Hr5.out.grown g)
  replace Hr6 := Lib.hid (Hr6.out.grown g)
  replace HA := Lib.hid (And.intro (World.grownBy.cell g HA.out.1 (by simp)) (World.grownBy.cell g HA.out.2 (by simp)))
  replace HB := Lib.hid (And.intro (World.grownBy.cell g HB.out.1 (by simp)) (World.grownBy.cell g HB.out.2 (by simp)))
  replace HC := Lib.hid (And.intro (World.grownBy.cell g HC.out.1 (by simp)) (World.grownBy.cell g HC.out.2 (by simp)))
  replace HG := Lib.hid (World.grownBy.trans HG.out g)
  clear g
  have HD := Lib.hid (And.intro hbx.2.1 hbx.2.2.1)
  clear hbx
  have qA0 := HA.out.1
  have qA1 := HA.out.2
  have qB0 := HB.out.1
  have qB1 := HB.out.2
  have qC0 := HC.out.1
  have qC1 := HC.out.2
  have qD0 := HD.out.1
  have qD1 := HD.out.2
  go_wp2_with fail
  clear qA0 qA1 qB0 qB1 qC0 qC1 qD0 qD1
  have g := World.grownBy_alloc V22 (.cells #[.int .i64 1, .int .i64 5] 3) none
  have hi := intsW_lit2 V22 1 5
  obtain ⟨V23, hV23⟩ : ∃ z, World.alloc V22 (.cells #[.int .i64 1, .int .i64 5] 3) = z := ⟨_, rfl⟩
  rw [hV23] at g hi ⊢
  clear hV23
  obtain ⟨br7, hb⟩ : ∃ b, V22.heap.size = b := ⟨_, rfl⟩
  rw [hb] at hi ⊢
  clear hb
  replace Hr1 := Lib.hid (Hr1.out.grown g)
  replace Hr2 := Lib.hid (Hr2.out.grown g)
  replace Hp1 := Lib.hid (Hp1.out.grown g)
  replace Hr3 := Lib.hid (Hr3.out.grown g)
  replace Hr4 := Lib.hid (Hr4.out.grown g)
  replace Hp2 := Lib.hid (Hp2.out.grown g)
  replace Hr5 := Lib.hid (Hr5.out.grown g)
  replace Hr6 := Lib.hid (Hr6.out.grown g)
  replace HA := Lib.hid (And.intro (World.grownBy.cell g HA.out.1 (by simp)) (World.grownBy.cell g HA.out.2 (by simp)))
  replace HB := Lib.hid (And.intro (World.grownBy.cell g HB.out.1 (by simp)) (World.grownBy.cell g HB.out.2 (by simp)))
  replace HC := Lib.hid (And.intro (World.grownBy.cell g HC.out.1 (by simp)) (World.grownBy.cell g HC.out.2 (by simp)))
  replace HD := Lib.hid (And.intro (World.grownBy.cell g HD.out.1 (by simp)) (World.grownBy.cell g HD.out.2 (by simp)))
  replace HG := Lib.hid (World.grownBy.trans HG.out g)
  clear g
  have Hr7 := Lib.hid hi
  clear hi
  refine (rel_calls 2 2 _ _ _).mono ?_
  rintro e V24 ⟨rfl, g⟩
  replace Hr1 := Lib.hid (Hr1.out.grown g)
  replace Hr2 := Lib.hid (Hr2.out.grown g)
  replace Hp1 := Lib.hid (Hp1.out.grown g)
  replace Hr3 := Lib.hid (Hr3.out.grown g)
  replace Hr4 := Lib.hid (Hr4.out.grown g)
  replace Hp2 := Lib.hid (Hp2.out.grown g)
  replace Hr5 := Lib.hid (Hr5.out.grown g)
  replace Hr6 := Lib.hid (Hr6.out.grown g)
  replace Hr7 := Lib.hid (Hr7.out.grown g)
  replace HA := Lib.hid (And.intro (World.grownBy.cell g HA.out.1 (by simp)) (World.grownBy.cell g HA.out.2 (by simp)))
  replace HB := Lib.hid (And.intro (World.grownBy.cell g HB.out.1 (by simp)) (World.grownBy.cell g HB.out.2 (by simp)))
  replace HC := Lib.hid (And.intro (World.grownBy.cell g HC.out.1 (by simp)) (World.grownBy.cell g HC.out.2 (by simp)))
  replace HD := Lib.hid (And.intro (World.grownBy.cell g HD.out.1 (by simp)) (World.grownBy.cell g HD.out.2 (by simp)))
  replace HG := Lib.hid (World.grownBy.trans HG.out g)
  clear g
  have qA0 := HA.out.1
  have qA1 := HA.out.2
  have qB0 := HB.out.1
  have qB1 := HB.out.2
  have qC0 := HC.out.1
  have qC1 := HC.out.2
  have qD0 := HD.out.1
  have qD1 := HD.out.2
  go_wp2_with fail
  clear qA0 qA1 qB0 qB1 qC0 qC1 qD0 qD1
  refine (closV (n := 3) v3 (by omega) p3 rfl rfl V24 _ _ Hr7.out).mono ?_
  rintro e V25 ⟨xp3, yp3, rfl, hr, g⟩
  replace Hr1 := Lib.hid (Hr1.out.grown g)
  replace Hr2 := Lib.hid (Hr2.out.grown g)
  replace Hp1 := Lib.hid (Hp1.out.grown g)
  replace Hr3 := Lib.hid (Hr3.out.grown g)
  replace Hr4 := Lib.hid (Hr4.out.grown g)
  replace Hp2 := Lib.hid (Hp2.out.grown g)
  replace Hr5 := Lib.hid (Hr5.out.grown g)
  replace Hr6 := Lib.hid (Hr6.out.grown g)
  replace Hr7 := Lib.hid (Hr7.out.grown g)
  replace HA := Lib.hid (And.intro (World.grownBy.cell g HA.out.1 (by simp)) (World.grownBy.cell g HA.out.2 (by simp)))
  replace HB := Lib.hid (And.intro (World.grownBy.cell g HB.out.1 (by simp)) (World.grownBy.cell g HB.out.2 (by simp)))
  replace HC := Lib.hid (And.intro (World.grownBy.cell g HC.out.1 (by simp)) (World.grownBy.cell g HC.out.2 (by simp)))
  replace HD := Lib.hid (And.intro (World.grownBy.cell g HD.out.1 (by simp)) (World.grownBy.cell g HD.out.2 (by simp)))
  replace HG := Lib.hid (World.grownBy.trans HG.out g)
  clear g
  have Hp3 := Lib.hid hr
  clear hr
  have qA0 := HA.out.1
  have qA1 := HA.out.2
  have qB0 := HB.out.1
  have qB1 := HB.out.2
  have qC0 := HC.out.1
  have qC1 := HC.out.2
  have qD0 := HD.out.1
  have qD1 := HD.out.2
  go_upto_region 6 with fail
  clear qA0 qA1 qB0 qB1 qC0 qC1 qD0 qD1
  have hbx := one_cells V25 (.int .i64 2) (.slice xp3 3 yp3) 27
  have g := World.grownBy_alloc V25 (.cells #[.int .i64 2, .slice xp3 3 yp3] 27) none
  obtain ⟨V26, hV26⟩ : ∃ z, World.alloc V25 (.cells #[.int .i64 2, .slice xp3 3 yp3] 27) = z := ⟨_, rfl⟩
  rw [hV26] at g hbx ⊢
  clear hV26
  obtain ⟨bE, hb⟩ : ∃ b, V25.heap.size = b := ⟨_, rfl⟩
  rw [hb] at hbx ⊢
  clear hb
  replace Hr1 := Lib.hid (Hr1.out.grown g)
  replace Hr2 := Lib.hid (Hr2.out.grown g)
  replace Hp1 := Lib.hid (Hp1.out.grown g)
  replace Hr3 := Lib.hid (Hr3.out.grown g)
  replace Hr4 := Lib.hid (Hr4.out.grown g)
  replace Hp2 := Lib.hid (Hp2.out.grown g)
  replace Hr5 := Lib.hid (Hr5.out.grown g)
  replace Hr6 := Lib.hid (Hr6.out.grown g)
  replace Hr7 := Lib.hid (Hr7.out.grown g)
  replace Hp3 := Lib.hid (Hp3.out.grown g)
  replace HA := Lib.hid (And.intro (World.grownBy.cell g HA.out.1 (by simp)) (World.grownBy.cell g HA.out.2 (by simp)))
  replace HB := Lib.hid (And.intro (World.grownBy.cell g HB.out.1 (by simp)) (World.grownBy.cell g HB.out.2 (by simp)))
  replace HC := Lib.hid (And.intro (World.grownBy.cell g HC.out.1 (by simp)) (World.grownBy.cell g HC.out.2 (by simp)))
  replace HD := Lib.hid (And.intro (World.grownBy.cell g HD.out.1 (by simp)) (World.grownBy.cell g HD.out.2 (by simp)))
  replace HG := Lib.hid (World.grownBy.trans HG.out g)
  clear g
  have HE := Lib.hid (And.intro hbx.2.1 hbx.2.2.1)
  clear hbx
  have qA0 := HA.out.1
  have qA1 := HA.out.2
  have qB0 := HB.out.1
  have qB1 := HB.out.2
  have qC0 := HC.out.1
  have qC1 := HC.out.2
  have qD0 := HD.out.1
  have qD1 := HD.out.2
  have qE0 := HE.out.1
  have qE1 := HE.out.2
  go_wp2_with fail
  clear qA0 qA1 qB0 qB1 qC0 qC1 qD0 qD1 qE0 qE1
  have g := World.grownBy_alloc V26 (.cells #[.int .i64 0, .int .i64 4] 3) none
  have hi := intsW_lit2 V26 0 4
  obtain ⟨V27, hV27⟩ : ∃ z, World.alloc V26 (.cells #[.int .i64 0, .int .i64 4] 3) = z := ⟨_, rfl⟩
  rw [hV27] at g hi ⊢
  clear hV27
  obtain ⟨br8, hb⟩ : ∃ b, V26.heap.size = b := ⟨_, rfl⟩
  rw [hb] at hi ⊢
  clear hb
  replace Hr1 := Lib.hid (Hr1.out.grown g)
  replace Hr2 := Lib.hid (Hr2.out.grown g)
  replace Hp1 := Lib.hid (Hp1.out.grown g)
  replace Hr3 := Lib.hid (Hr3.out.grown g)
  replace Hr4 := Lib.hid (Hr4.out.grown g)
  replace Hp2 := Lib.hid (Hp2.out.grown g)
  replace Hr5 := Lib.hid (Hr5.out.grown g)
  replace Hr6 := Lib.hid (Hr6.out.grown g)
  replace Hr7 := Lib.hid (Hr7.out.grown g)
  replace Hp3 := Lib.hid (Hp3.out.grown g)
  replace HA := Lib.hid (And.intro (World.grownBy.cell g HA.out.1 (by simp)) (World.grownBy.cell g HA.out.2 (by simp)))
  replace HB := Lib.hid (And.intro (World.grownBy.cell g HB.out.1 (by simp)) (World.grownBy.cell g HB.out.2 (by simp)))
  replace HC := Lib.hid (And.intro (World.grownBy.cell g HC.out.1 (by simp)) (World.grownBy.cell g HC.out.2 (by simp)))
  replace HD := Lib.hid (And.intro (World.grownBy.cell g HD.out.1 (by simp)) (World.grownBy.cell g HD.out.2 (by simp)))
  replace HE := Lib.hid (And.intro (World.grownBy.cell g HE.out.1 (by simp)) (World.grownBy.cell g HE.out.2 (by simp)))
  replace HG := Lib.hid (World.grownBy.trans HG.out g)
  clear g
  have Hr8 := Lib.hid hi
  clear hi
  refine (rel_calls 2 2 _ _ _).mono ?_
  rintro e V28 ⟨rfl, g⟩
  replace Hr1 := Lib.hid (Hr1.out.grown g)
  replace Hr2 := Lib.hid (Hr2.out.grown g)
  replace Hp1 := Lib.hid (Hp1.out.grown g)
  replace Hr3 := Lib.hid (Hr3.out.grown g)
  replace Hr4 := Lib.hid (Hr4.out.grown g)
  replace Hp2 := Lib.hid (Hp2.out.grown g)
  replace Hr5 := Lib.hid (Hr5.out.grown g)
  replace Hr6 := Lib.hid (Hr6.out.grown g)
  replace Hr7 := Lib.hid (Hr7.out.grown g)
  replace Hp3 := Lib.hid (Hp3.out.grown g)
  replace Hr8 := Lib.hid (Hr8.out.grown g)
  replace HA := Lib.hid (And.intro (World.grownBy.cell g HA.out.1 (by simp)) (World.grownBy.cell g HA.out.2 (by simp)))
  replace HB := Lib.hid (And.intro (World.grownBy.cell g HB.out.1 (by simp)) (World.grownBy.cell g HB.out.2 (by simp)))
  replace HC := Lib.hid (And.intro (World.grownBy.cell g HC.out.1 (by simp)) (World.grownBy.cell g HC.out.2 (by simp)))
  replace HD := Lib.hid (And.intro (World.grownBy.cell g HD.out.1 (by simp)) (World.grownBy.cell g HD.out.2 (by simp)))
  replace HE := Lib.hid (And.intro (World.grownBy.cell g HE.out.1 (by simp)) (World.grownBy.cell g HE.out.2 (by simp)))
  replace HG := Lib.hid (World.grownBy.trans HG.out g)
  clear g
  have qA0 := HA.out.1
  have qA1 := HA.out.2
  have qB0 := HB.out.1
  have qB1 := HB.out.2
  have qC0 := HC.out.1
  have qC1 := HC.out.2
  have qD0 := HD.out.1
  have qD1 := HD.out.2
  have qE0 := HE.out.1
  have qE1 := HE.out.2
  go_wp2_with fail
  clear qA0 qA1 qB0 qB1 qC0 qC1 qD0 qD1 qE0 qE1
  have g := World.grownBy_alloc V28 (.cells #[.int .i64 2] 3) none
  have hi := intsW_lit1 V28 2
  obtain ⟨V29, hV29⟩ : ∃ z, World.alloc V28 (.cells #[.int .i64 2] 3) = z := ⟨_, rfl⟩
  rw [hV29] at g hi ⊢
  clear hV29
  obtain ⟨br9, hb⟩ : ∃ b, V28.heap.size = b := ⟨_, rfl⟩
  rw [hb] at hi ⊢
  clear hb
  replace Hr1 := Lib.hid (Hr1.out.grown g)
  replace Hr2 := Lib.hid (Hr2.out.grown g)
  replace Hp1 := Lib.hid (Hp1.out.grown g)
  replace Hr3 := Lib.hid (Hr3.out.grown g)
  replace Hr4 := Lib.hid (Hr4.out.grown g)
  replace Hp2 := Lib.hid (Hp2.out.grown g)
  replace Hr5 := Lib.hid (Hr5.out.grown g)
  replace Hr6 := Lib.hid (Hr6.out.grown g)
  replace Hr7 := Lib.hid (Hr7.out.grown g)
  replace Hp3 := Lib.hid (Hp3.out.grown g)
  replace Hr8 := Lib.hid (Hr8.out.grown g)
  replace HA := Lib.hid (And.intro (World.grownBy.cell g HA.out.1 (by simp)) (World.grownBy.cell g HA.out.2 (by simp)))
  replace HB := Lib.hid (And.intro (World.grownBy.cell g HB.out.1 (by simp)) (World.grownBy.cell g HB.out.2 (by simp)))
  replace HC := Lib.hid (And.intro (World.grownBy.cell g HC.out.1 (by simp)) (World.grownBy.cell g HC.out.2 (by simp)))
  replace HD := Lib.hid (And.intro (World.grownBy.cell g HD.out.1 (by simp)) (World.grownBy.cell g HD.out.2 (by simp)))
  replace HE := Lib.hid (And.intro (World.grownBy.cell g HE.out.1 (by simp)) (World.grownBy.cell g HE.out.2 (by simp)))
  replace HG := Lib.hid (World.grownBy.trans HG.out g)
  clear g
  have Hr9 := Lib.hid hi
  clear hi
  refine (rel_calls 2 1 _ _ _).mono ?_
  rintro e V30 ⟨rfl, g⟩
  replace Hr1 := Lib.hid (Hr1.out.grown g)
  replace Hr2 := Lib.hid (Hr2.out.grown g)
  replace Hp1 := Lib.hid (Hp1.out.grown g)
  replace Hr3 := Lib.hid (Hr3.out.grown g)
  replace Hr4 := Lib.hid (Hr4.out.grown g)
  replace Hp2 := Lib.hid (Hp2.out.grown g)
  replace Hr5 := Lib.hid (Hr5.out.grown g)
  replace Hr6 := Lib.hid (Hr6.out.grown g)
  replace Hr7 := Lib.hid (Hr7.out.grown g)
  replace Hp3 := Lib.hid (Hp3.out.grown g)
  replace Hr8 := Lib.hid (Hr8.out.grown g)
  replace Hr9 := Lib.hid (Hr9.out.grown g)
  replace HA := Lib.hid (And.intro (World.grownBy.cell g HA.out.1 (by simp)) (World.grownBy.cell g HA.out.2 (by simp)))
  replace HB := Lib.hid (And.intro (World.grownBy.cell g HB.out.1 (by simp)) (World.grownBy.cell g HB.out.2 (by simp)))
  replace HC := Lib.hid (And.intro (World.grownBy.cell g HC.out.1 (by simp)) (World.grownBy.cell g HC.out.2 (by simp)))
  replace HD := Lib.hid (And.intro (World.grownBy.cell g HD.out.1 (by simp)) (World.grownBy.cell g HD.out.2 (by simp)))
  replace HE := Lib.hid (And.intro (World.grownBy.cell g HE.out.1 (by simp)) (World.grownBy.cell g HE.out.2 (by simp)))
  replace HG := Lib.hid (World.grownBy.trans HG.out g)
  clear g
  have qA0 := HA.out.1
  have qA1 := HA.out.2
  have qB0 := HB.out.1
  have qB1 := HB.out.2
  have qC0 := HC.out.1
  have qC1 := HC.out.2
  have qD0 := HD.out.1
  have qD1 := HD.out.2
  have qE0 := HE.out.1
  have qE1 := HE.out.2
  go_wp2_with fail
  clear qA0 qA1 qB0 qB1 qC0 qC1 qD0 qD1 qE0 qE1
  refine (overV (n := 3) (k := 2) (j := 2) v4 v5 (by omega) (by omega) (by omega) (by omega) (by omega) p4 rfl rfl rfl V30 _ _ _ _ Hr8.out Hr9.out).mono ?_
  rintro e V31 ⟨xp4, yp4, rfl, hr, g⟩
  replace Hr1 := Lib.hid (Hr1.out.grown g)
  replace Hr2 := Lib.hid (Hr2.out.grown g)
  replace Hp1 := Lib.hid (Hp1.out.grown g)
  replace Hr3 := Lib.hid (Hr3.out.grown g)
  replace Hr4 := Lib.hid (Hr4.out.grown g)
  replace Hp2 := Lib.hid (Hp2.out.grown g)
  replace Hr5 := Lib.hid (Hr5.out.grown g)
  replace Hr6 := Lib.hid (Hr6.out.grown g)
  replace Hr7 := Lib.hid (Hr7.out.grown g)
  replace Hp3 := Lib.hid (Hp3.out.grown g)
  replace Hr8 := Lib.hid (Hr8.out.grown g)
  replace Hr9 := Lib.hid (Hr9.out.grown g)
  replace HA := Lib.hid (And.intro (World.grownBy.cell g HA.out.1 (by simp)) (World.grownBy.cell g HA.out.2 (by simp)))
  replace HB := Lib.hid (And.intro (World.grownBy.cell g HB.out.1 (by simp)) (World.grownBy.cell g HB.out.2 (by simp)))
  replace HC := Lib.hid (And.intro (World.grownBy.cell g HC.out.1 (by simp)) (World.grownBy.cell g HC.out.2 (by simp)))
  replace HD := Lib.hid (And.intro (World.grownBy.cell g HD.out.1 (by simp)) (World.grownBy.cell g HD.out.2 (by simp)))
  replace HE := Lib.hid (And.intro (World.grownBy.cell g HE.out.1 (by simp)) (World.grownBy.cell g HE.out.2 (by simp)))
  replace HG := Lib.hid (World.grownBy.trans HG.out g)
  clear g
  have Hp4 := Lib.hid hr
  clear hr
  have qA0 := HA.out.1
  have qA1 := HA.out.2
  have qB0 := HB.out.1
  have qB1 := HB.out.2
  have qC0 := HC.out.1
  have qC1 := HC.out.2
  have qD0 := HD.out.1
  have qD1 := HD.out.2
  have qE0 := HE.out.1
  have qE1 := HE.out.2
  go_upto_region 7 with fail
  clear qA0 qA1 qB0 qB1 qC0 qC1 qD0 qD1 qE0 qE1
  have hbx := one_cells V31 (.int .i64 2) (.slice xp4 2 yp4) 27
  have g := World.grownBy_alloc V31 (.cells #[.int .i64 2, .slice xp4 2 yp4] 27) none
  obtain ⟨V32, hV32⟩ : ∃ z, World.alloc V31 (.cells #[.int .i64 2, .slice xp4 2 yp4] 27) = z := ⟨_, rfl⟩
  rw [hV32] at g hbx ⊢
  clear hV32
  obtain ⟨bF, hb⟩ : ∃ b, V31.heap.size = b := ⟨_, rfl⟩
  rw [hb] at hbx ⊢
  clear hb
  replace Hr1 := Lib.hid (Hr1.out.grown g)
  replace Hr2 := Lib.hid (Hr2.out.grown g)
  replace Hp1 := Lib.hid (Hp1.out.grown g)
  replace Hr3 := Lib.hid (Hr3.out.grown g)
  replace Hr4 := Lib.hid (Hr4.out.grown g)
  replace Hp2 := Lib.hid (Hp2.out.grown g)
  replace Hr5 := Lib.hid (Hr5.out.grown g)
  replace Hr6 := Lib.hid (Hr6.out.grown g)
  replace Hr7 := Lib.hid (Hr7.out.grown g)
  replace Hp3 := Lib.hid (Hp3.out.grown g)
  replace Hr8 := Lib.hid (Hr8.out.grown g)
  replace Hr9 := Lib.hid (Hr9.out.grown g)
  replace Hp4 := Lib.hid (Hp4.out.grown g)
  replace HA := Lib.hid (And.intro (World.grownBy.cell g HA.out.1 (by simp)) (World.grownBy.cell g HA.out.2 (by simp)))
  replace HB := Lib.hid (And.intro (World.grownBy.cell g HB.out.1 (by simp)) (World.grownBy.cell g HB.out.2 (by simp)))
  replace HC := Lib.hid (And.intro (World.grownBy.cell g HC.out.1 (by simp)) (World.grownBy.cell g HC.out.2 (by simp)))
  replace HD := Lib.hid (And.intro (World.grownBy.cell g HD.out.1 (by simp)) (World.grownBy.cell g HD.out.2 (by simp)))
  replace HE := Lib.hid (And.intro (World.grownBy.cell g HE.out.1 (by simp)) (World.grownBy.cell g HE.out.2 (by simp)))
  replace HG := Lib.hid (World.grownBy.trans HG.out g)
  clear g
  have HF := Lib.hid (And.intro hbx.2.1 hbx.2.2.1)
  clear hbx
  skip
  have HS := Lib.hid (fun (Wh : World) (hWh : V32.grownBy Wh none) => (⟨hWh, hWh.cell HA.out.1 (by simp), hWh.cell HA.out.2 (by simp), hWh.cell HB.out.1 (by simp), hWh.cell HB.out.2 (by simp), hWh.cell HC.out.1 (by simp), hWh.cell HC.out.2 (by simp), hWh.cell HD.out.1 (by simp), hWh.cell HD.out.2 (by simp), hWh.cell HE.out.1 (by simp), hWh.cell HE.out.2 (by simp), hWh.cell HF.out.1 (by simp), hWh.cell HF.out.2 (by simp)⟩ : (fun Wh : World => V32.grownBy Wh none ∧ Wh.cell? ⟨bA, 0, none⟩ = some (.int .i64 2) ∧ Wh.cell? ⟨bA, 1, none⟩ = some (.slice xp1 2 yp1) ∧ Wh.cell? ⟨bB, 0, none⟩ = some (.int .i64 2) ∧ Wh.cell? ⟨bB, 1, none⟩ = some (.slice xp2 1 yp2) ∧ Wh.cell? ⟨bC, 0, none⟩ = some (.int .i64 0) ∧ Wh.cell? ⟨bC, 1, none⟩ = some (.slice none 0 0) ∧ Wh.cell? ⟨bD, 0, none⟩ = some (.int .i64 0) ∧ Wh.cell? ⟨bD, 1, none⟩ = some (.slice none 0 0) ∧ Wh.cell? ⟨bE, 0, none⟩ = some (.int .i64 2) ∧ Wh.cell? ⟨bE, 1, none⟩ = some (.slice xp3 3 yp3) ∧ Wh.cell? ⟨bF, 0, none⟩ = some (.int .i64 2) ∧ Wh.cell? ⟨bF, 1, none⟩ = some (.slice xp4 2 yp4)) Wh))
  have hdr : V32.grownBy V32.drew none := ⟨rfl, rfl, rfl, Nat.le_refl _, fun _ _ _ => rfl⟩
  refine wp_region_held_drew (S := (fun Wh : World => V32.grownBy Wh none ∧ Wh.cell? ⟨bA, 0, none⟩ = some (.int .i64 2) ∧ Wh.cell? ⟨bA, 1, none⟩ = some (.slice xp1 2 yp1) ∧ Wh.cell? ⟨bB, 0, none⟩ = some (.int .i64 2) ∧ Wh.cell? ⟨bB, 1, none⟩ = some (.slice xp2 1 yp2) ∧ Wh.cell? ⟨bC, 0, none⟩ = some (.int .i64 0) ∧ Wh.cell? ⟨bC, 1, none⟩ = some (.slice none 0 0) ∧ Wh.cell? ⟨bD, 0, none⟩ = some (.int .i64 0) ∧ Wh.cell? ⟨bD, 1, none⟩ = some (.slice none 0 0) ∧ Wh.cell? ⟨bE, 0, none⟩ = some (.int .i64 2) ∧ Wh.cell? ⟨bE, 1, none⟩ = some (.slice xp3 3 yp3) ∧ Wh.cell? ⟨bF, 0, none⟩ = some (.int .i64 2) ∧ Wh.cell? ⟨bF, 1, none⟩ = some (.slice xp4 2 yp4))) (by kernel_rfl) (HS.out _ hdr) (fun hHeld => ?_)
  refine wpAnyH_take (i := 0) (oi := { dst := some 49, op := Op.move (Operand.tmp 2), type := 33, pos := "law.go:21", after := #[], guard := none }) (v := ?_) rfl (by kernel_rfl) (by kernel_rfl) (by kernel_rfl) (fun _ _ _ h => h) (Or.inl ⟨by rfl, ?_⟩) (by assumption) ?_
  rotate_left 1
  · (intro W hSW; (try dsimp only at hSW); first | (go_simp; done) | (go_simp; with_reducible rfl))
  try simp only [Act.put, List.setIfInBounds_toArray, List.set_cons_zero, List.set_cons_succ]
  refine wpAnyH_take (i := 1) (oi := { dst := some 50, op := Op.binOp BinOp.eql 33 (Operand.tmp 49) (Operand.const (Value.int IntKind.i64 0)) 33, type := 4, pos := "law.go:21", after := #[{ on := 0, ground := Ground.data }], guard := none }) (v := ?_) rfl (by kernel_rfl) (by kernel_rfl) (by kernel_rfl) (fun _ _ _ h => h) (Or.inl ⟨by rfl, ?_⟩) (by assumption) ?_
  rotate_left 1
  · (intro W hSW; (try dsimp only at hSW); first | (go_simp; done) | (go_simp; with_reducible rfl))
  try simp only [Act.put, List.setIfInBounds_toArray, List.set_cons_zero, List.set_cons_succ]
  refine wpAnyH_take (i := 2) (oi := { dst := some 51, op := Op.move (Operand.tmp 50), type := 4, pos := "law.go:21", after := #[{ on := 1, ground := Ground.data }], guard := none }) (v := ?_) rfl (by kernel_rfl) (by kernel_rfl) (by kernel_rfl) (fun _ _ _ h => h) (Or.inl ⟨by rfl, ?_⟩) (by assumption) ?_
  rotate_left 1
  · (intro W hSW; (try dsimp only at hSW); first | (go_simp; done) | (go_simp; with_reducible rfl))
  try simp only [Act.put, List.setIfInBounds_toArray, List.set_cons_zero, List.set_cons_succ]
  refine wpAnyH_take (i := 3) (oi := { dst := some 52, op := Op.load 27 (Operand.tmp 1), type := 27, pos := "law.go:21", after := #[{ on := 2, ground := Ground.guard }], guard := some (2, true) }) (v := ?_) rfl (by kernel_rfl) (by kernel_rfl) (by kernel_rfl) (fun _ _ _ h => h) (Or.inl ⟨by rfl, ?_⟩) (by assumption) ?_
  rotate_left 1
  · (intro W hSW; (try dsimp only at hSW); first | (go_simp; done) | (go_simp; with_reducible rfl))
  try simp only [Act.put, List.setIfInBounds_toArray, List.set_cons_zero, List.set_cons_succ]
  refine wpAnyH_ready (rs := [4]) (by kernel_rfl) (by simp) ?_
  refine (AllReadyH.cons (o := { dst := some 53, op := Op.buildSlice 25 2 #[(0, Operand.const (Value.int IntKind.i64 3)), (1, Operand.const (Value.int IntKind.i64 5))], type := 25, pos := "law.go:21", after := #[{ on := 2, ground := Ground.guard }], guard := some (2, true) }) rfl (fun K hK => ?_) AllReadyH.nil)
  rw [if_pos (by rfl)]
  go_simp
  have hal4 : V32.drew.grownBy ((World.alloc V32 (.cells #[.int .i64 3, .int .i64 5] 3)).drew) none := World.grownBy_alloc V32.drew (.cells #[.int .i64 3, .int .i64 5] 3) none
  have hrm1 : IntsW ((World.alloc V32 (.cells #[.int .i64 3, .int .i64 5] 3)).drew) (some ⟨V32.heap.size, 0, none⟩) 2 [3, 5] := intsW_lit2 V32.drew 3 5
  have hgA4 := World.grownBy.trans hdr hal4
  obtain ⟨WA4, hWA4⟩ : ∃ z, (World.alloc V32 (.cells #[.int .i64 3, .int .i64 5] 3)).drew = z := ⟨_, rfl⟩
  rw [hWA4] at hal4 hrm1 hgA4 ⊢
  clear hWA4
  refine hK.out _ _ (HS.out _ hgA4) (fun hHeld => ?_)
  clear hK K
  try simp only [Act.put, List.setIfInBounds_toArray, List.set_cons_zero, List.set_cons_succ]
  refine wpAnyH_ready (rs := [5]) (by kernel_rfl) (by simp) ?_
  refine (AllReadyH.cons (o := { dst := some 54, op := Op.call { callee := Callee.value (Operand.func 41), args := #[Operand.const (Value.int IntKind.i64 2), Operand.tmp 53], argTypes := #[3, 25] }, type := 27, pos := "law.go:21", after := #[{ on := 4, ground := Ground.data }, { on := 2, ground := Ground.chain }, { on := 2, ground := Ground.guard }], guard := some (2, true) }) rfl (fun K hK => ?_) AllReadyH.nil)
  rw [if_pos (by rfl)]
  go_simp
  go_at_call 41
  refine (rel_calls 2 2 _ _ _).mono ?_
  rintro e wc5 ⟨rfl, gc5⟩
  have hgr5 := World.grownBy.trans hgA4 gc5
  go_wp2_with fail
  refine hK.out _ _ (HS.out _ hgr5) (fun hHeld => ?_)
  clear hK K
  try simp only [Act.put, List.setIfInBounds_toArray, List.set_cons_zero, List.set_cons_succ]
  refine wpAnyH_ready (rs := [6]) (by kernel_rfl) (by simp) ?_
  refine (AllReadyH.cons (o := { dst := some 55, op := Op.call { callee := Callee.value (Operand.func 20), args := #[Operand.tmp 52, Operand.tmp 54], argTypes := #[27, 27] }, type := 4, pos := "law.go:21", after := #[{ on := 3, ground := Ground.data }, { on := 5, ground := Ground.data }, { on := 5, ground := Ground.chain }, { on := 2, ground := Ground.guard }], guard := some (2, true) }) rfl (fun K hK => ?_) AllReadyH.nil)
  rw [if_pos (by rfl)]
  go_simp
  go_at_call 20
  refine (requalV (n := 3) (k := 2) (Q := true) 2 2 w1 (by omega) (by omega) (by decide) rfl rfl _ _ _ _ _ (Hp1.out.grown hgr5) (hrm1.grown gc5)).mono ?_
  rintro e wc6 ⟨rfl, gc6⟩
  have hgr6 := World.grownBy.trans hgr5 gc6
  go_wp2_with fail
  refine hK.out _ _ (HS.out _ hgr6) (fun hHeld => ?_)
  clear hK K
  try simp only [Act.put, List.setIfInBounds_toArray, List.set_cons_zero, List.set_cons_succ]
  refine wpAnyH_take (i := 7) (oi := { dst := some 56, op := Op.pick (Operand.tmp 51) (Operand.tmp 55) (Operand.const (Value.bool false)), type := 4, pos := "law.go:21", after := #[{ on := 2, ground := Ground.data }, { on := 6, ground := Ground.data }], guard := none }) (v := ?_) rfl (by kernel_rfl) (by kernel_rfl) (by kernel_rfl) (fun _ _ _ h => h) (Or.inl ⟨by rfl, ?_⟩) (by assumption) ?_
  rotate_left 1
  · (intro W hSW; (try dsimp only at hSW); first | (go_simp; done) | (go_simp; with_reducible rfl))
  try simp only [Act.put, List.setIfInBounds_toArray, List.set_cons_zero, List.set_cons_succ]
  refine wpAnyH_take (i := 8) (oi := { dst := some 57, op := Op.move (Operand.tmp 56), type := 4, pos := "law.go:21", after := #[{ on := 7, ground := Ground.data }, { on := 6, ground := Ground.chain }], guard := none }) (v := ?_) rfl (by kernel_rfl) (by kernel_rfl) (by kernel_rfl) (fun _ _ _ h => h) (Or.inl ⟨by rfl, ?_⟩) (by assumption) ?_
  rotate_left 1
  · (intro W hSW; (try dsimp only at hSW); first | (go_simp; done) | (go_simp; with_reducible rfl))
  try simp only [Act.put, List.setIfInBounds_toArray, List.set_cons_zero, List.set_cons_succ]
  refine wpAnyH_take (i := 9) (oi := { dst := some 58, op := Op.move (Operand.tmp 4), type := 33, pos := "law.go:21", after := #[{ on := 8, ground := Ground.guard }], guard := some (8, true) }) (v := ?_) rfl (by kernel_rfl) (by kernel_rfl) (by kernel_rfl) (fun _ _ _ h => h) (Or.inl ⟨by rfl, ?_⟩) (by assumption) ?_
  rotate_left 1
  · (intro W hSW; (try dsimp only at hSW); first | (go_simp; done) | (go_simp; with_reducible rfl))
  try simp only [Act.put, List.setIfInBounds_toArray, List.set_cons_zero, List.set_cons_succ]
  refine wpAnyH_take (i := 10) (oi := { dst := some 59, op := Op.binOp BinOp.eql 33 (Operand.tmp 58) (Operand.const (Value.int IntKind.i64 0)) 33, type := 4, pos := "law.go:21", after := #[{ on := 9, ground := Ground.data }, { on := 8, ground := Ground.guard }], guard := some (8, true) }) (v := ?_) rfl (by kernel_rfl) (by kernel_rfl) (by kernel_rfl) (fun _ _ _ h => h) (Or.inl ⟨by rfl, ?_⟩) (by assumption) ?_
  rotate_left 1
  · (intro W hSW; (try dsimp only at hSW); first | (go_simp; done) | (go_simp; with_reducible rfl))
  try simp only [Act.put, List.setIfInBounds_toArray, List.set_cons_zero, List.set_cons_succ]
  refine wpAnyH_take (i := 11) (oi := { dst := some 60, op := Op.pick (Operand.tmp 57) (Operand.tmp 59) (Operand.const (Value.bool false)), type := 4, pos := "law.go:21", after := #[{ on := 8, ground := Ground.data }, { on := 10, ground := Ground.data }], guard := none }) (v := ?_) rfl (by kernel_rfl) (by kernel_rfl) (by kernel_rfl) (fun _ _ _ h => h) (Or.inl ⟨by rfl, ?_⟩) (by assumption) ?_
  rotate_left 1
  · (intro W hSW; (try dsimp only at hSW); first | (go_simp; done) | (go_simp; with_reducible rfl))
  try simp only [Act.put, List.setIfInBounds_toArray, List.set_cons_zero, List.set_cons_succ]
  refine wpAnyH_take (i := 12) (oi := { dst := some 61, op := Op.move (Operand.tmp 60), type := 4, pos := "law.go:21", after := #[{ on := 11, ground := Ground.data }, { on := 8, ground := Ground.chain }], guard := none }) (v := ?_) rfl (by kernel_rfl) (by kernel_rfl) (by kernel_rfl) (fun _ _ _ h => h) (Or.inl ⟨by rfl, ?_⟩) (by assumption) ?_
  rotate_left 1
  · (intro W hSW; (try dsimp only at hSW); first | (go_simp; done) | (go_simp; with_reducible rfl))
  try simp only [Act.put, List.setIfInBounds_toArray, List.set_cons_zero, List.set_cons_succ]
  refine wpAnyH_take (i := 13) (oi := { dst := some 62, op := Op.load 27 (Operand.tmp 3), type := 27, pos := "law.go:21", after := #[{ on := 12, ground := Ground.guard }], guard := some (12, true) }) (v := ?_) rfl (by kernel_rfl) (by kernel_rfl) (by kernel_rfl) (fun _ _ _ h => h) (Or.inl ⟨by rfl, ?_⟩) (by assumption) ?_
  rotate_left 1
  · (intro W hSW; (try dsimp only at hSW); first | (go_simp; done) | (go_simp; with_reducible rfl))
  try simp only [Act.put, List.setIfInBounds_toArray, List.set_cons_zero, List.set_cons_succ]
  refine wpAnyH_ready (rs := [14]) (by kernel_rfl) (by simp) ?_
  refine (AllReadyH.cons (o := { dst := some 63, op := Op.buildSlice 25 1 #[(0, Operand.const (Value.int IntKind.i64 2))], type := 25, pos := "law.go:21", after := #[{ on := 12, ground := Ground.guard }], guard := some (12, true) }) rfl (fun K hK => ?_) AllReadyH.nil)
  rw [if_pos (by rfl)]
  go_simp
  have hal14 := World.grownBy_alloc wc6 (.cells #[.int .i64 2] 3) none
  have hrm2 := intsW_lit1 wc6 2
  have hgA14 := World.grownBy.trans hgr6 hal14
  obtain ⟨WA14, hWA14⟩ : ∃ z, World.alloc wc6 (.cells #[.int .i64 2] 3) = z := ⟨_, rfl⟩
  rw [hWA14] at hal14 hrm2 hgA14 ⊢
  clear hWA14
  refine hK.out _ _ (HS.out _ hgA14) (fun hHeld => ?_)
  clear hK K
  try simp only [Act.put, List.setIfInBounds_toArray, List.set_cons_zero, List.set_cons_succ]
  refine wpAnyH_ready (rs := [15]) (by kernel_rfl) (by simp) ?_
  refine (AllReadyH.cons (o := { dst := some 64, op := Op.call { callee := Callee.value (Operand.func 41), args := #[Operand.const (Value.int IntKind.i64 2), Operand.tmp 63], argTypes := #[3, 25] }, type := 27, pos := "law.go:21", after := #[{ on := 14, ground := Ground.data }, { on := 12, ground := Ground.chain }, { on := 12, ground := Ground.guard }], guard := some (12, true) }) rfl (fun K hK => ?_) AllReadyH.nil)
  rw [if_pos (by rfl)]
  go_simp
  go_at_call 41
  refine (rel_calls 2 1 _ _ _).mono ?_
  rintro e wc15 ⟨rfl, gc15⟩
  have hgr15 := World.grownBy.trans hgA14 gc15
  go_wp2_with fail
  refine hK.out _ _ (HS.out _ hgr15) (fun hHeld => ?_)
  clear hK K
  try simp only [Act.put, List.setIfInBounds_toArray, List.set_cons_zero, List.set_cons_succ]
  refine wpAnyH_ready (rs := [16]) (by kernel_rfl) (by simp) ?_
  refine (AllReadyH.cons (o := { dst := some 65, op := Op.call { callee := Callee.value (Operand.func 20), args := #[Operand.tmp 62, Operand.tmp 64], argTypes := #[27, 27] }, type := 4, pos := "law.go:21", after := #[{ on := 13, ground := Ground.data }, { on := 15, ground := Ground.data }, { on := 15, ground := Ground.chain }, { on := 12, ground := Ground.guard }], guard := some (12, true) }) rfl (fun K hK => ?_) AllReadyH.nil)
  rw [if_pos (by rfl)]
  go_simp
  go_at_call 20
  refine (requalV (n := 3) (k := 2) (Q := true) 2 2 w2 (by omega) (by omega) (by decide) rfl rfl _ _ _ _ _ (Hp2.out.grown hgr15) (hrm2.grown gc15)).mono ?_
  rintro e wc16 ⟨rfl, gc16⟩
  have hgr16 := World.grownBy.trans hgr15 gc16
  go_wp2_with fail
  refine hK.out _ _ (HS.out _ hgr16) (fun hHeld => ?_)
  clear hK K
  try simp only [Act.put, List.setIfInBounds_toArray, List.set_cons_zero, List.set_cons_succ]
  refine wpAnyH_take (i := 17) (oi := { dst := some 66, op := Op.pick (Operand.tmp 61) (Operand.tmp 65) (Operand.const (Value.bool false)), type := 4, pos := "law.go:21", after := #[{ on := 12, ground := Ground.data }, { on := 16, ground := Ground.data }], guard := none }) (v := ?_) rfl (by kernel_rfl) (by kernel_rfl) (by kernel_rfl) (fun _ _ _ h => h) (Or.inl ⟨by rfl, ?_⟩) (by assumption) ?_
  rotate_left 1
  · (intro W hSW; (try dsimp only at hSW); first | (go_simp; done) | (go_simp; with_reducible rfl))
  try simp only [Act.put, List.setIfInBounds_toArray, List.set_cons_zero, List.set_cons_succ]
  refine wpAnyH_take (i := 18) (oi := { dst := some 67, op := Op.move (Operand.tmp 66), type := 4, pos := "law.go:21", after := #[{ on := 17, ground := Ground.data }, { on := 16, ground := Ground.chain }], guard := none }) (v := ?_) rfl (by kernel_rfl) (by kernel_rfl) (by kernel_rfl) (fun _ _ _ h => h) (Or.inl ⟨by rfl, ?_⟩) (by assumption) ?_
  rotate_left 1
  · (intro W hSW; (try dsimp only at hSW); first | (go_simp; done) | (go_simp; with_reducible rfl))
  try simp only [Act.put, List.setIfInBounds_toArray, List.set_cons_zero, List.set_cons_succ]
  refine wpAnyH_take (i := 19) (oi := { dst := some 68, op := Op.move (Operand.tmp 6), type := 33, pos := "law.go:21", after := #[{ on := 18, ground := Ground.guard }], guard := some (18, true) }) (v := ?_) rfl (by kernel_rfl) (by kernel_rfl) (by kernel_rfl) (fun _ _ _ h => h) (Or.inl ⟨by rfl, ?_⟩) (by assumption) ?_
  rotate_left 1
  · (intro W hSW; (try dsimp only at hSW); first | (go_simp; done) | (go_simp; with_reducible rfl))
  try simp only [Act.put, List.setIfInBounds_toArray, List.set_cons_zero, List.set_cons_succ]
  refine wpAnyH_take (i := 20) (oi := { dst := some 69, op := Op.binOp BinOp.eql 33 (Operand.tmp 68) (Operand.const (Value.int IntKind.i64 42)) 33, type := 4, pos := "law.go:21", after := #[{ on := 19, ground := Ground.data }, { on := 18, ground := Ground.guard }], guard := some (18, true) }) (v := ?_) rfl (by kernel_rfl) (by kernel_rfl) (by kernel_rfl) (fun _ _ _ h => h) (Or.inl ⟨by rfl, ?_⟩) (by assumption) ?_
  rotate_left 1
  · (intro W hSW; (try dsimp only at hSW); first | (go_simp; done) | (go_simp; with_reducible rfl))
  try simp only [Act.put, List.setIfInBounds_toArray, List.set_cons_zero, List.set_cons_succ]
  refine wpAnyH_take (i := 21) (oi := { dst := some 70, op := Op.pick (Operand.tmp 67) (Operand.tmp 69) (Operand.const (Value.bool false)), type := 4, pos := "law.go:21", after := #[{ on := 18, ground := Ground.data }, { on := 20, ground := Ground.data }], guard := none }) (v := ?_) rfl (by kernel_rfl) (by kernel_rfl) (by kernel_rfl) (fun _ _ _ h => h) (Or.inl ⟨by rfl, ?_⟩) (by assumption) ?_
  rotate_left 1
  · (intro W hSW; (try dsimp only at hSW); first | (go_simp; done) | (go_simp; with_reducible rfl))
  try simp only [Act.put, List.setIfInBounds_toArray, List.set_cons_zero, List.set_cons_succ]
  refine wpAnyH_take (i := 22) (oi := { dst := some 71, op := Op.move (Operand.tmp 70), type := 4, pos := "law.go:21", after := #[{ on := 21, ground := Ground.data }, { on := 18, ground := Ground.chain }], guard := none }) (v := ?_) rfl (by kernel_rfl) (by kernel_rfl) (by kernel_rfl) (fun _ _ _ h => h) (Or.inl ⟨by rfl, ?_⟩) (by assumption) ?_
  rotate_left 1
  · (intro W hSW; (try dsimp only at hSW); first | (go_simp; done) | (go_simp; with_reducible rfl))
  try simp only [Act.put, List.setIfInBounds_toArray, List.set_cons_zero, List.set_cons_succ]
  refine wpAnyH_take (i := 23) (oi := { dst := some 72, op := Op.move (Operand.tmp 8), type := 33, pos := "law.go:21", after := #[{ on := 22, ground := Ground.guard }], guard := some (22, true) }) (v := ?_) rfl (by kernel_rfl) (by kernel_rfl) (by kernel_rfl) (fun _ _ _ h => h) (Or.inl ⟨by rfl, ?_⟩) (by assumption) ?_
  rotate_left 1
  · (intro W hSW; (try dsimp only at hSW); first | (go_simp; done) | (go_simp; with_reducible rfl))
  try simp only [Act.put, List.setIfInBounds_toArray, List.set_cons_zero, List.set_cons_succ]
  refine wpAnyH_take (i := 24) (oi := { dst := some 73, op := Op.binOp BinOp.eql 33 (Operand.tmp 72) (Operand.const (Value.int IntKind.i64 42)) 33, type := 4, pos := "law.go:21", after := #[{ on := 23, ground := Ground.data }, { on := 22, ground := Ground.guard }], guard := some (22, true) }) (v := ?_) rfl (by kernel_rfl) (by kernel_rfl) (by kernel_rfl) (fun _ _ _ h => h) (Or.inl ⟨by rfl, ?_⟩) (by assumption) ?_
  rotate_left 1
  · (intro W hSW; (try dsimp only at hSW); first | (go_simp; done) | (go_simp; with_reducible rfl))
  try simp only [Act.put, List.setIfInBounds_toArray, List.set_cons_zero, List.set_cons_succ]
  refine wpAnyH_take (i := 25) (oi := { dst := some 74, op := Op.pick (Operand.tmp 71) (Operand.tmp 73) (Operand.const (Value.bool false)), type := 4, pos := "law.go:21", after := #[{ on := 22, ground := Ground.data }, { on := 24, ground := Ground.data }], guard := none }) (v := ?_) rfl (by kernel_rfl) (by kernel_rfl) (by kernel_rfl) (fun _ _ _ h => h) (Or.inl ⟨by rfl, ?_⟩) (by assumption) ?_
  rotate_left 1
  · (intro W hSW; (try dsimp only at hSW); first | (go_simp; done) | (go_simp; with_reducible rfl))
  try simp only [Act.put, List.setIfInBounds_toArray, List.set_cons_zero, List.set_cons_succ]
  refine wpAnyH_take (i := 26) (oi := { dst := some 75, op := Op.move (Operand.tmp 74), type := 4, pos := "law.go:21", after := #[{ on := 25, ground := Ground.data }, { on := 22, ground := Ground.chain }], guard := none }) (v := ?_) rfl (by kernel_rfl) (by kernel_rfl) (by kernel_rfl) (fun _ _ _ h => h) (Or.inl ⟨by rfl, ?_⟩) (by assumption) ?_
  rotate_left 1
  · (intro W hSW; (try dsimp only at hSW); first | (go_simp; done) | (go_simp; with_reducible rfl))
  try simp only [Act.put, List.setIfInBounds_toArray, List.set_cons_zero, List.set_cons_succ]
  refine wpAnyH_take (i := 27) (oi := { dst := some 76, op := Op.load 27 (Operand.tmp 9), type := 27, pos := "law.go:21", after := #[{ on := 26, ground := Ground.guard }], guard := some (26, true) }) (v := ?_) rfl (by kernel_rfl) (by kernel_rfl) (by kernel_rfl) (fun _ _ _ h => h) (Or.inl ⟨by rfl, ?_⟩) (by assumption) ?_
  rotate_left 1
  · (intro W hSW; (try dsimp only at hSW); first | (go_simp; done) | (go_simp; with_reducible rfl))
  try simp only [Act.put, List.setIfInBounds_toArray, List.set_cons_zero, List.set_cons_succ]
  refine wpAnyH_ready (rs := [28]) (by kernel_rfl) (by simp) ?_
  refine (AllReadyH.cons (o := { dst := some 77, op := Op.buildSlice 25 3 #[(0, Operand.const (Value.int IntKind.i64 1)), (1, Operand.const (Value.int IntKind.i64 2)), (2, Operand.const (Value.int IntKind.i64 5))], type := 25, pos := "law.go:21", after := #[{ on := 26, ground := Ground.guard }], guard := some (26, true) }) rfl (fun K hK => ?_) AllReadyH.nil)
  rw [if_pos (by rfl)]
  go_simp
  have hal28 := World.grownBy_alloc wc16 (.cells #[.int .i64 1, .int .i64 2, .int .i64 5] 3) none
  have hrm3 := intsW_lit3 wc16 1 2 5
  have hgA28 := World.grownBy.trans hgr16 hal28
  obtain ⟨WA28, hWA28⟩ : ∃ z, World.alloc wc16 (.cells #[.int .i64 1, .int .i64 2, .int .i64 5] 3) = z := ⟨_, rfl⟩
  rw [hWA28] at hal28 hrm3 hgA28 ⊢
  clear hWA28
  refine hK.out _ _ (HS.out _ hgA28) (fun hHeld => ?_)
  clear hK K
  try simp only [Act.put, List.setIfInBounds_toArray, List.set_cons_zero, List.set_cons_succ]
  refine wpAnyH_ready (rs := [29]) (by kernel_rfl) (by simp) ?_
  refine (AllReadyH.cons (o := { dst := some 78, op := Op.call { callee := Callee.value (Operand.func 41), args := #[Operand.const (Value.int IntKind.i64 2), Operand.tmp 77], argTypes := #[3, 25] }, type := 27, pos := "law.go:21", after := #[{ on := 28, ground := Ground.data }, { on := 26, ground := Ground.chain }, { on := 26, ground := Ground.guard }], guard := some (26, true) }) rfl (fun K hK => ?_) AllReadyH.nil)
  rw [if_pos (by rfl)]
  go_simp
  go_at_call 41
  refine (rel_calls 2 3 _ _ _).mono ?_
  rintro e wc29 ⟨rfl, gc29⟩
  have hgr29 := World.grownBy.trans hgA28 gc29
  go_wp2_with fail
  refine hK.out _ _ (HS.out _ hgr29) (fun hHeld => ?_)
  clear hK K
  try simp only [Act.put, List.setIfInBounds_toArray, List.set_cons_zero, List.set_cons_succ]
  refine wpAnyH_ready (rs := [30]) (by kernel_rfl) (by simp) ?_
  refine (AllReadyH.cons (o := { dst := some 79, op := Op.call { callee := Callee.value (Operand.func 20), args := #[Operand.tmp 76, Operand.tmp 78], argTypes := #[27, 27] }, type := 4, pos := "law.go:21", after := #[{ on := 27, ground := Ground.data }, { on := 29, ground := Ground.data }, { on := 29, ground := Ground.chain }, { on := 26, ground := Ground.guard }], guard := some (26, true) }) rfl (fun K hK => ?_) AllReadyH.nil)
  rw [if_pos (by rfl)]
  go_simp
  go_at_call 20
  refine (requalV (n := 3) (k := 2) (Q := true) 2 2 w3 (by omega) (by omega) (by decide) rfl rfl _ _ _ _ _ (Hp3.out.grown hgr29) (hrm3.grown gc29)).mono ?_
  rintro e wc30 ⟨rfl, gc30⟩
  have hgr30 := World.grownBy.trans hgr29 gc30
  go_wp2_with fail
  refine hK.out _ _ (HS.out _ hgr30) (fun hHeld => ?_)
  clear hK K
  try simp only [Act.put, List.setIfInBounds_toArray, List.set_cons_zero, List.set_cons_succ]
  refine wpAnyH_take (i := 31) (oi := { dst := some 80, op := Op.pick (Operand.tmp 75) (Operand.tmp 79) (Operand.const (Value.bool false)), type := 4, pos := "law.go:21", after := #[{ on := 26, ground := Ground.data }, { on := 30, ground := Ground.data }], guard := none }) (v := ?_) rfl (by kernel_rfl) (by kernel_rfl) (by kernel_rfl) (fun _ _ _ h => h) (Or.inl ⟨by rfl, ?_⟩) (by assumption) ?_
  rotate_left 1
  · (intro W hSW; (try dsimp only at hSW); first | (go_simp; done) | (go_simp; with_reducible rfl))
  try simp only [Act.put, List.setIfInBounds_toArray, List.set_cons_zero, List.set_cons_succ]
  refine wpAnyH_take (i := 32) (oi := { dst := some 81, op := Op.move (Operand.tmp 80), type := 4, pos := "law.go:21", after := #[{ on := 31, ground := Ground.data }, { on := 30, ground := Ground.chain }], guard := none }) (v := ?_) rfl (by kernel_rfl) (by kernel_rfl) (by kernel_rfl) (fun _ _ _ h => h) (Or.inl ⟨by rfl, ?_⟩) (by assumption) ?_
  rotate_left 1
  · (intro W hSW; (try dsimp only at hSW); first | (go_simp; done) | (go_simp; with_reducible rfl))
  try simp only [Act.put, List.setIfInBounds_toArray, List.set_cons_zero, List.set_cons_succ]
  refine wpAnyH_take (i := 33) (oi := { dst := some 82, op := Op.load 27 (Operand.tmp 10), type := 27, pos := "law.go:21", after := #[{ on := 32, ground := Ground.guard }], guard := some (32, true) }) (v := ?_) rfl (by kernel_rfl) (by kernel_rfl) (by kernel_rfl) (fun _ _ _ h => h) (Or.inl ⟨by rfl, ?_⟩) (by assumption) ?_
  rotate_left 1
  · (intro W hSW; (try dsimp only at hSW); first | (go_simp; done) | (go_simp; with_reducible rfl))
  try simp only [Act.put, List.setIfInBounds_toArray, List.set_cons_zero, List.set_cons_succ]
  refine wpAnyH_ready (rs := [34]) (by kernel_rfl) (by simp) ?_
  refine (AllReadyH.cons (o := { dst := some 83, op := Op.buildSlice 25 2 #[(0, Operand.const (Value.int IntKind.i64 2)), (1, Operand.const (Value.int IntKind.i64 4))], type := 25, pos := "law.go:21", after := #[{ on := 32, ground := Ground.guard }], guard := some (32, true) }) rfl (fun K hK => ?_) AllReadyH.nil)
  rw [if_pos (by rfl)]
  go_simp
  have hal34 := World.grownBy_alloc wc30 (.cells #[.int .i64 2, .int .i64 4] 3) none
  have hrm4 := intsW_lit2 wc30 2 4
  have hgA34 := World.grownBy.trans hgr30 hal34
  obtain ⟨WA34, hWA34⟩ : ∃ z, World.alloc wc30 (.cells #[.int .i64 2, .int .i64 4] 3) = z := ⟨_, rfl⟩
  rw [hWA34] at hal34 hrm4 hgA34 ⊢
  clear hWA34
  refine hK.out _ _ (HS.out _ hgA34) (fun hHeld => ?_)
  clear hK K
  try simp only [Act.put, List.setIfInBounds_toArray, List.set_cons_zero, List.set_cons_succ]
  refine wpAnyH_ready (rs := [35]) (by kernel_rfl) (by simp) ?_
  refine (AllReadyH.cons (o := { dst := some 84, op := Op.call { callee := Callee.value (Operand.func 41), args := #[Operand.const (Value.int IntKind.i64 2), Operand.tmp 83], argTypes := #[3, 25] }, type := 27, pos := "law.go:21", after := #[{ on := 34, ground := Ground.data }, { on := 32, ground := Ground.chain }, { on := 32, ground := Ground.guard }], guard := some (32, true) }) rfl (fun K hK => ?_) AllReadyH.nil)
  rw [if_pos (by rfl)]
  go_simp
  go_at_call 41
  refine (rel_calls 2 2 _ _ _).mono ?_
  rintro e wc35 ⟨rfl, gc35⟩
  have hgr35 := World.grownBy.trans hgA34 gc35
  go_wp2_with fail
  refine hK.out _ _ (HS.out _ hgr35) (fun hHeld => ?_)
  clear hK K
  try simp only [Act.put, List.setIfInBounds_toArray, List.set_cons_zero, List.set_cons_succ]
  refine wpAnyH_ready (rs := [36]) (by kernel_rfl) (by simp) ?_
  refine (AllReadyH.cons (o := { dst := some 85, op := Op.call { callee := Callee.value (Operand.func 20), args := #[Operand.tmp 82, Operand.tmp 84], argTypes := #[27, 27] }, type := 4, pos := "law.go:21", after := #[{ on := 33, ground := Ground.data }, { on := 35, ground := Ground.data }, { on := 35, ground := Ground.chain }, { on := 32, ground := Ground.guard }], guard := some (32, true) }) rfl (fun K hK => ?_) AllReadyH.nil)
  rw [if_pos (by rfl)]
  go_simp
  go_at_call 20
  refine (requalV (n := 3) (k := 2) (Q := true) 2 2 w4 (by omega) (by omega) (by decide) rfl rfl _ _ _ _ _ (Hp4.out.grown hgr35) (hrm4.grown gc35)).mono ?_
  rintro e wc36 ⟨rfl, gc36⟩
  have hgr36 := World.grownBy.trans hgr35 gc36
  go_wp2_with fail
  refine hK.out _ _ (HS.out _ hgr36) (fun hHeld => ?_)
  clear hK K
  try simp only [Act.put, List.setIfInBounds_toArray, List.set_cons_zero, List.set_cons_succ]
  refine wpAnyH_take (i := 37) (oi := { dst := some 86, op := Op.pick (Operand.tmp 81) (Operand.tmp 85) (Operand.const (Value.bool false)), type := 4, pos := "law.go:21", after := #[{ on := 32, ground := Ground.data }, { on := 36, ground := Ground.data }], guard := none }) (v := ?_) rfl (by kernel_rfl) (by kernel_rfl) (by kernel_rfl) (fun _ _ _ h => h) (Or.inl ⟨by rfl, ?_⟩) (by assumption) ?_
  rotate_left 1
  · (intro W hSW; (try dsimp only at hSW); first | (go_simp; done) | (go_simp; with_reducible rfl))
  try simp only [Act.put, List.setIfInBounds_toArray, List.set_cons_zero, List.set_cons_succ]
  refine wpAnyH_take (i := 38) (oi := { dst := some 87, op := Op.move (Operand.tmp 86), type := 4, pos := "law.go:21", after := #[{ on := 37, ground := Ground.data }, { on := 36, ground := Ground.chain }], guard := none }) (v := ?_) rfl (by kernel_rfl) (by kernel_rfl) (by kernel_rfl) (fun _ _ _ h => h) (Or.inl ⟨by rfl, ?_⟩) (by assumption) ?_
  rotate_left 1
  · (intro W hSW; (try dsimp only at hSW); first | (go_simp; done) | (go_simp; with_reducible rfl))
  try simp only [Act.put, List.setIfInBounds_toArray, List.set_cons_zero, List.set_cons_succ]
  refine wpAnyH_take (i := 39) (oi := { dst := some 88, op := Op.load 27 (Operand.tmp 9), type := 27, pos := "law.go:21", after := #[{ on := 38, ground := Ground.guard }], guard := some (38, true) }) (v := ?_) rfl (by kernel_rfl) (by kernel_rfl) (by kernel_rfl) (fun _ _ _ h => h) (Or.inl ⟨by rfl, ?_⟩) (by assumption) ?_
  rotate_left 1
  · (intro W hSW; (try dsimp only at hSW); first | (go_simp; done) | (go_simp; with_reducible rfl))
  try simp only [Act.put, List.setIfInBounds_toArray, List.set_cons_zero, List.set_cons_succ]
  refine wpAnyH_ready (rs := [40]) (by kernel_rfl) (by simp) ?_
  refine (AllReadyH.cons (o := { dst := some 89, op := Op.call { callee := Callee.value (Operand.func 17), args := #[Operand.const (Value.int IntKind.i64 3), Operand.tmp 88], argTypes := #[3, 27] }, type := 4, pos := "law.go:21", after := #[{ on := 39, ground := Ground.data }, { on := 38, ground := Ground.chain }, { on := 38, ground := Ground.guard }], guard := some (38, true) }) rfl (fun K hK => ?_) AllReadyH.nil)
  rw [if_pos (by rfl)]
  go_simp
  go_at_call 17
  refine (validV (n := 3) (k := 2) w3 (by omega) (by omega) (by omega) rfl _ _ _ (Hp3.out.grown hgr36)).mono ?_
  rintro e wc40 ⟨rfl, gc40⟩
  have hgr40 := World.grownBy.trans hgr36 gc40
  go_wp2_with fail
  refine hK.out _ _ (HS.out _ hgr40) (fun hHeld => ?_)
  clear hK K
  try simp only [Act.put, List.setIfInBounds_toArray, List.set_cons_zero, List.set_cons_succ]
  refine wpAnyH_take (i := 41) (oi := { dst := some 90, op := Op.pick (Operand.tmp 87) (Operand.tmp 89) (Operand.const (Value.bool false)), type := 4, pos := "law.go:21", after := #[{ on := 38, ground := Ground.data }, { on := 40, ground := Ground.data }], guard := none }) (v := ?_) rfl (by kernel_rfl) (by kernel_rfl) (by kernel_rfl) (fun _ _ _ h => h) (Or.inl ⟨by rfl, ?_⟩) (by assumption) ?_
  rotate_left 1
  · (intro W hSW; (try dsimp only at hSW); first | (go_simp; done) | (go_simp; with_reducible rfl))
  try simp only [Act.put, List.setIfInBounds_toArray, List.set_cons_zero, List.set_cons_succ]
  refine wpAnyH_take (i := 42) (oi := { dst := some 91, op := Op.move (Operand.tmp 90), type := 4, pos := "law.go:21", after := #[{ on := 41, ground := Ground.data }, { on := 40, ground := Ground.chain }], guard := none }) (v := ?_) rfl (by kernel_rfl) (by kernel_rfl) (by kernel_rfl) (fun _ _ _ h => h) (Or.inl ⟨by rfl, ?_⟩) (by assumption) ?_
  rotate_left 1
  · (intro W hSW; (try dsimp only at hSW); first | (go_simp; done) | (go_simp; with_reducible rfl))
  try simp only [Act.put, List.setIfInBounds_toArray, List.set_cons_zero, List.set_cons_succ]
  refine wpAnyH_ready (rs := [43]) (by kernel_rfl) (by simp) ?_
  refine (AllReadyH.cons (o := { dst := some 92, op := Op.buildSlice 25 1 #[(0, Operand.const (Value.int IntKind.i64 9))], type := 25, pos := "law.go:21", after := #[{ on := 42, ground := Ground.guard }], guard := some (42, true) }) rfl (fun K hK => ?_) AllReadyH.nil)
  rw [if_pos (by rfl)]
  go_simp
  have hal43 := World.grownBy_alloc wc40 (.cells #[.int .i64 9] 3) none
  have hrm5 := intsW_lit1 wc40 9
  have hgA43 := World.grownBy.trans hgr40 hal43
  obtain ⟨WA43, hWA43⟩ : ∃ z, World.alloc wc40 (.cells #[.int .i64 9] 3) = z := ⟨_, rfl⟩
  rw [hWA43] at hal43 hrm5 hgA43 ⊢
  clear hWA43
  refine hK.out _ _ (HS.out _ hgA43) (fun hHeld => ?_)
  clear hK K
  try simp only [Act.put, List.setIfInBounds_toArray, List.set_cons_zero, List.set_cons_succ]
  refine wpAnyH_ready (rs := [44]) (by kernel_rfl) (by simp) ?_
  refine (AllReadyH.cons (o := { dst := some 93, op := Op.call { callee := Callee.value (Operand.func 41), args := #[Operand.const (Value.int IntKind.i64 2), Operand.tmp 92], argTypes := #[3, 25] }, type := 27, pos := "law.go:21", after := #[{ on := 43, ground := Ground.data }, { on := 42, ground := Ground.chain }, { on := 42, ground := Ground.guard }], guard := some (42, true) }) rfl (fun K hK => ?_) AllReadyH.nil)
  rw [if_pos (by rfl)]
  go_simp
  go_at_call 41
  refine (rel_calls 2 1 _ _ _).mono ?_
  rintro e wc44 ⟨rfl, gc44⟩
  have hgr44 := World.grownBy.trans hgA43 gc44
  go_wp2_with fail
  refine hK.out _ _ (HS.out _ hgr44) (fun hHeld => ?_)
  clear hK K
  try simp only [Act.put, List.setIfInBounds_toArray, List.set_cons_zero, List.set_cons_succ]
  refine wpAnyH_ready (rs := [45]) (by kernel_rfl) (by simp) ?_
  refine (AllReadyH.cons (o := { dst := some 94, op := Op.call { callee := Callee.value (Operand.func 17), args := #[Operand.const (Value.int IntKind.i64 3), Operand.tmp 93], argTypes := #[3, 27] }, type := 4, pos := "law.go:21", after := #[{ on := 44, ground := Ground.data }, { on := 44, ground := Ground.chain }, { on := 42, ground := Ground.guard }], guard := some (42, true) }) rfl (fun K hK => ?_) AllReadyH.nil)
  rw [if_pos (by rfl)]
  go_simp
  go_at_call 17
  refine (badValid _ _ _ (hrm5.grown gc44)).mono ?_
  rintro e wc45 ⟨rfl, gc45⟩
  have hgr45 := World.grownBy.trans hgr44 gc45
  go_wp2_with fail
  refine hK.out _ _ (HS.out _ hgr45) (fun hHeld => ?_)
  clear hK K
  try simp only [Act.put, List.setIfInBounds_toArray, List.set_cons_zero, List.set_cons_succ]
  refine wpAnyH_take (i := 46) (oi := { dst := some 95, op := Op.unOp UnOp.not 4 (Operand.tmp 94), type := 4, pos := "law.go:21", after := #[{ on := 45, ground := Ground.data }, { on := 42, ground := Ground.guard }], guard := some (42, true) }) (v := ?_) rfl (by kernel_rfl) (by kernel_rfl) (by kernel_rfl) (fun _ _ _ h => h) (Or.inl ⟨by rfl, ?_⟩) (by assumption) ?_
  rotate_left 1
  · (intro W hSW; (try dsimp only at hSW); first | (go_simp; done) | (go_simp; with_reducible rfl))
  try simp only [Act.put, List.setIfInBounds_toArray, List.set_cons_zero, List.set_cons_succ]
  refine wpAnyH_take (i := 47) (oi := { dst := some 96, op := Op.pick (Operand.tmp 91) (Operand.tmp 95) (Operand.const (Value.bool false)), type := 4, pos := "law.go:21", after := #[{ on := 42, ground := Ground.data }, { on := 46, ground := Ground.data }], guard := none }) (v := ?_) rfl (by kernel_rfl) (by kernel_rfl) (by kernel_rfl) (fun _ _ _ h => h) (Or.inl ⟨by rfl, ?_⟩) (by assumption) ?_
  rotate_left 1
  · (intro W hSW; (try dsimp only at hSW); first | (go_simp; done) | (go_simp; with_reducible rfl))
  try simp only [Act.put, List.setIfInBounds_toArray, List.set_cons_zero, List.set_cons_succ]
  refine wpAnyH_take (i := 48) (oi := { dst := some 97, op := Op.move (Operand.tmp 96), type := 4, pos := "law.go:21", after := #[{ on := 47, ground := Ground.data }, { on := 45, ground := Ground.chain }], guard := none }) (v := ?_) rfl (by kernel_rfl) (by kernel_rfl) (by kernel_rfl) (fun _ _ _ h => h) (Or.inl ⟨by rfl, ?_⟩) (by assumption) ?_
  rotate_left 1
  · (intro W hSW; (try dsimp only at hSW); first | (go_simp; done) | (go_simp; with_reducible rfl))
  try simp only [Act.put, List.setIfInBounds_toArray, List.set_cons_zero, List.set_cons_succ]
  refine wpAnyH_ready (rs := [49, 51]) (by kernel_rfl) (by simp) ?_
  refine (AllReadyH.cons (o := { dst := some 98, op := Op.buildSlice 25 1 #[(0, Operand.const (Value.int IntKind.i64 1))], type := 25, pos := "law.go:21", after := #[{ on := 48, ground := Ground.guard }], guard := some (48, true) }) rfl (fun K hK => ?_) (AllReadyH.cons (o := { dst := some 100, op := Op.buildSlice 25 2 #[(0, Operand.const (Value.int IntKind.i64 0)), (1, Operand.const (Value.int IntKind.i64 1))], type := 25, pos := "law.go:21", after := #[{ on := 48, ground := Ground.guard }], guard := some (48, true) }) rfl (fun K hK => ?_) AllReadyH.nil))
  · rw [if_pos (by rfl)]
    go_simp
    have hal49 := World.grownBy_alloc wc45 (.cells #[.int .i64 1] 3) none
    have hrm6 := intsW_lit1 wc45 1
    have hgA49 := World.grownBy.trans hgr45 hal49
    obtain ⟨WA49, hWA49⟩ : ∃ z, World.alloc wc45 (.cells #[.int .i64 1] 3) = z := ⟨_, rfl⟩
    rw [hWA49] at hal49 hrm6 hgA49 ⊢
    clear hWA49
    refine hK.out _ _ (HS.out _ hgA49) (fun hHeld => ?_)
    clear hK K
    try simp only [Act.put, List.setIfInBounds_toArray, List.set_cons_zero, List.set_cons_succ]
    refine wpAnyH_ready (rs := [50, 51]) (by kernel_rfl) (by simp) ?_
    refine (AllReadyH.cons (o := { dst := some 99, op := Op.call { callee := Callee.value (Operand.func 41), args := #[Operand.const (Value.int IntKind.i64 1), Operand.tmp 98], argTypes := #[3, 25] }, type := 27, pos := "law.go:21", after := #[{ on := 49, ground := Ground.data }, { on := 48, ground := Ground.chain }, { on := 48, ground := Ground.guard }], guard := some (48, true) }) rfl (fun K hK => ?_) (AllReadyH.cons (o := { dst := some 100, op := Op.buildSlice 25 2 #[(0, Operand.const (Value.int IntKind.i64 0)), (1, Operand.const (Value.int IntKind.i64 1))], type := 25, pos := "law.go:21", after := #[{ on := 48, ground := Ground.guard }], guard := some (48, true) }) rfl (fun K hK => ?_) AllReadyH.nil))
    · rw [if_pos (by rfl)]
      go_simp
      go_at_call 41
      refine (rel_calls 1 1 _ _ _).mono ?_
      rintro e wc50 ⟨rfl, gc50⟩
      have hgr50 := World.grownBy.trans hgA49 gc50
      go_wp2_with fail
      refine hK.out _ _ (HS.out _ hgr50) (fun hHeld => ?_)
      clear hK K
      try simp only [Act.put, List.setIfInBounds_toArray, List.set_cons_zero, List.set_cons_succ]
      refine wpAnyH_ready (rs := [51]) (by kernel_rfl) (by simp) ?_
      refine (AllReadyH.cons (o := { dst := some 100, op := Op.buildSlice 25 2 #[(0, Operand.const (Value.int IntKind.i64 0)), (1, Operand.const (Value.int IntKind.i64 1))], type := 25, pos := "law.go:21", after := #[{ on := 48, ground := Ground.guard }], guard := some (48, true) }) rfl (fun K hK => ?_) AllReadyH.nil)
      rw [if_pos (by rfl)]
      go_simp
      have hal51 := World.grownBy_alloc wc50 (.cells #[.int .i64 0, .int .i64 1] 3) none
      have hrm7 := intsW_lit2 wc50 0 1
      have hgA51 := World.grownBy.trans hgr50 hal51
      obtain ⟨WA51, hWA51⟩ : ∃ z, World.alloc wc50 (.cells #[.int .i64 0, .int .i64 1] 3) = z := ⟨_, rfl⟩
      rw [hWA51] at hal51 hrm7 hgA51 ⊢
      clear hWA51
      refine hK.out _ _ (HS.out _ hgA51) (fun hHeld => ?_)
      clear hK K
      try simp only [Act.put, List.setIfInBounds_toArray, List.set_cons_zero, List.set_cons_succ]
      refine wpAnyH_ready (rs := [52]) (by kernel_rfl) (by simp) ?_
      refine (AllReadyH.cons (o := { dst := some 101, op := Op.call { callee := Callee.value (Operand.func 41), args := #[Operand.const (Value.int IntKind.i64 1), Operand.tmp 100], argTypes := #[3, 25] }, type := 27, pos := "law.go:21", after := #[{ on := 51, ground := Ground.data }, { on := 50, ground := Ground.chain }, { on := 48, ground := Ground.guard }], guard := some (48, true) }) rfl (fun K hK => ?_) AllReadyH.nil)
      rw [if_pos (by rfl)]
      go_simp
      go_at_call 41
      refine (rel_calls 1 2 _ _ _).mono ?_
      rintro e wc52 ⟨rfl, gc52⟩
      have hgr52 := World.grownBy.trans hgA51 gc52
      go_wp2_with fail
      refine hK.out _ _ (HS.out _ hgr52) (fun hHeld => ?_)
      clear hK K
      try simp only [Act.put, List.setIfInBounds_toArray, List.set_cons_zero, List.set_cons_succ]
      refine wpAnyH_ready (rs := [53]) (by kernel_rfl) (by simp) ?_
      refine (AllReadyH.cons (o := { dst := some 102, op := Op.call { callee := Callee.value (Operand.func 35), args := #[Operand.tmp 99, Operand.tmp 101], argTypes := #[27, 27] }, type := 4, pos := "law.go:21", after := #[{ on := 50, ground := Ground.data }, { on := 52, ground := Ground.data }, { on := 52, ground := Ground.chain }, { on := 48, ground := Ground.guard }], guard := some (48, true) }) rfl (fun K hK => ?_) AllReadyH.nil)
      rw [if_pos (by rfl)]
      go_simp
      go_at_call 35
      refine (inV (n := 3) (k := 1) (Q := true) 1 1 v1 v6 (by omega) (by omega) (by decide) rfl rfl _ _ _ _ _ (hrm6.grown (World.grownBy.trans (World.grownBy.trans gc50 hal51) gc52)) (hrm7.grown gc52)).mono ?_
      rintro e wc53 ⟨rfl, gc53⟩
      have hgr53 := World.grownBy.trans hgr52 gc53
      go_wp2_with fail
      refine hK.out _ _ (HS.out _ hgr53) (fun hHeld => ?_)
      clear hK K
      try simp only [Act.put, List.setIfInBounds_toArray, List.set_cons_zero, List.set_cons_succ]
      refine wpAnyH_take (i := 54) (oi := { dst := some 103, op := Op.pick (Operand.tmp 97) (Operand.tmp 102) (Operand.const (Value.bool false)), type := 4, pos := "law.go:21", after := #[{ on := 48, ground := Ground.data }, { on := 53, ground := Ground.data }], guard := none }) (v := ?_) rfl (by kernel_rfl) (by kernel_rfl) (by kernel_rfl) (fun _ _ _ h => h) (Or.inl ⟨by rfl, ?_⟩) (by assumption) ?_
      rotate_left 1
      · (intro W hSW; (try dsimp only at hSW); first | (go_simp; done) | (go_simp; with_reducible rfl))
      try simp only [Act.put, List.setIfInBounds_toArray, List.set_cons_zero, List.set_cons_succ]
      refine wpAnyH_take (i := 55) (oi := { dst := some 104, op := Op.move (Operand.tmp 103), type := 4, pos := "law.go:21", after := #[{ on := 54, ground := Ground.data }, { on := 53, ground := Ground.chain }], guard := none }) (v := ?_) rfl (by kernel_rfl) (by kernel_rfl) (by kernel_rfl) (fun _ _ _ h => h) (Or.inl ⟨by rfl, ?_⟩) (by assumption) ?_
      rotate_left 1
      · (intro W hSW; (try dsimp only at hSW); first | (go_simp; done) | (go_simp; with_reducible rfl))
      try simp only [Act.put, List.setIfInBounds_toArray, List.set_cons_zero, List.set_cons_succ]
      refine wpAnyH_take (i := 56) (oi := { dst := some 105, op := Op.load 27 (Operand.tmp 1), type := 27, pos := "law.go:21", after := #[{ on := 55, ground := Ground.guard }], guard := some (55, true) }) (v := ?_) rfl (by kernel_rfl) (by kernel_rfl) (by kernel_rfl) (fun _ _ _ h => h) (Or.inl ⟨by rfl, ?_⟩) (by assumption) ?_
      rotate_left 1
      · (intro W hSW; (try dsimp only at hSW); first | (go_simp; done) | (go_simp; with_reducible rfl))
      try simp only [Act.put, List.setIfInBounds_toArray, List.set_cons_zero, List.set_cons_succ]
      refine wpAnyH_take (i := 57) (oi := { dst := some 106, op := Op.load 27 (Operand.tmp 3), type := 27, pos := "law.go:21", after := #[{ on := 55, ground := Ground.guard }], guard := some (55, true) }) (v := ?_) rfl (by kernel_rfl) (by kernel_rfl) (by kernel_rfl) (fun _ _ _ h => h) (Or.inl ⟨by rfl, ?_⟩) (by assumption) ?_
      rotate_left 1
      · (intro W hSW; (try dsimp only at hSW); first | (go_simp; done) | (go_simp; with_reducible rfl))
      try simp only [Act.put, List.setIfInBounds_toArray, List.set_cons_zero, List.set_cons_succ]
      refine wpAnyH_ready (rs := [58]) (by kernel_rfl) (by simp) ?_
      refine (AllReadyH.cons (o := { dst := some 107, op := Op.call { callee := Callee.value (Operand.func 19), args := #[Operand.tmp 105, Operand.tmp 106], argTypes := #[27, 27] }, type := 4, pos := "law.go:21", after := #[{ on := 56, ground := Ground.data }, { on := 57, ground := Ground.data }, { on := 55, ground := Ground.chain }, { on := 55, ground := Ground.guard }], guard := some (55, true) }) rfl (fun K hK => ?_) AllReadyH.nil)
      rw [if_pos (by rfl)]
      go_simp
      go_at_call 19
      refine (equalV (n := 3) (k := 2) (Q := false) 2 2 w1 (by omega) (by omega) (by decide) rfl rfl _ _ _ _ _ (Hp1.out.grown hgr53) (Hp2.out.grown hgr53)).mono ?_
      rintro e wc58 ⟨rfl, gc58⟩
      have hgr58 := World.grownBy.trans hgr53 gc58
      go_wp2_with fail
      refine hK.out _ _ (HS.out _ hgr58) (fun hHeld => ?_)
      clear hK K
      try simp only [Act.put, List.setIfInBounds_toArray, List.set_cons_zero, List.set_cons_succ]
      refine wpAnyH_take (i := 59) (oi := { dst := some 108, op := Op.unOp UnOp.not 4 (Operand.tmp 107), type := 4, pos := "law.go:21", after := #[{ on := 58, ground := Ground.data }, { on := 55, ground := Ground.guard }], guard := some (55, true) }) (v := ?_) rfl (by kernel_rfl) (by kernel_rfl) (by kernel_rfl) (fun _ _ _ h => h) (Or.inl ⟨by rfl, ?_⟩) (by assumption) ?_
      rotate_left 1
      · (intro W hSW; (try dsimp only at hSW); first | (go_simp; done) | (go_simp; with_reducible rfl))
      try simp only [Act.put, List.setIfInBounds_toArray, List.set_cons_zero, List.set_cons_succ]
      refine wpAnyH_take (i := 60) (oi := { dst := some 109, op := Op.pick (Operand.tmp 104) (Operand.tmp 108) (Operand.const (Value.bool false)), type := 4, pos := "law.go:21", after := #[{ on := 55, ground := Ground.data }, { on := 59, ground := Ground.data }], guard := none }) (v := ?_) rfl (by kernel_rfl) (by kernel_rfl) (by kernel_rfl) (fun _ _ _ h => h) (Or.inl ⟨by rfl, ?_⟩) (by assumption) ?_
      rotate_left 1
      · (intro W hSW; (try dsimp only at hSW); first | (go_simp; done) | (go_simp; with_reducible rfl))
      try simp only [Act.put, List.setIfInBounds_toArray, List.set_cons_zero, List.set_cons_succ]
      refine wpAnyH_take (i := 61) (oi := { dst := some 0, op := Op.assign (Operand.tmp 109), type := 4, pos := "law.go:21", after := #[{ on := 60, ground := Ground.data }, { on := 58, ground := Ground.chain }, { on := 0, ground := Ground.phase }, { on := 1, ground := Ground.phase }, { on := 2, ground := Ground.phase }, { on := 3, ground := Ground.phase }, { on := 4, ground := Ground.phase }, { on := 5, ground := Ground.phase }, { on := 6, ground := Ground.phase }, { on := 7, ground := Ground.phase }, { on := 8, ground := Ground.phase }, { on := 9, ground := Ground.phase }, { on := 10, ground := Ground.phase }, { on := 11, ground := Ground.phase }, { on := 12, ground := Ground.phase }, { on := 13, ground := Ground.phase }, { on := 14, ground := Ground.phase }, { on := 15, ground := Ground.phase }, { on := 16, ground := Ground.phase }, { on := 17, ground := Ground.phase }, { on := 18, ground := Ground.phase }, { on := 19, ground := Ground.phase }, { on := 20, ground := Ground.phase }, { on := 21, ground := Ground.phase }, { on := 22, ground := Ground.phase }, { on := 23, ground := Ground.phase }, { on := 24, ground := Ground.phase }, { on := 25, ground := Ground.phase }, { on := 26, ground := Ground.phase }, { on := 27, ground := Ground.phase }, { on := 28, ground := Ground.phase }, { on := 29, ground := Ground.phase }, { on := 30, ground := Ground.phase }, { on := 31, ground := Ground.phase }, { on := 32, ground := Ground.phase }, { on := 33, ground := Ground.phase }, { on := 34, ground := Ground.phase }, { on := 35, ground := Ground.phase }, { on := 36, ground := Ground.phase }, { on := 37, ground := Ground.phase }, { on := 38, ground := Ground.phase }, { on := 39, ground := Ground.phase }, { on := 40, ground := Ground.phase }, { on := 41, ground := Ground.phase }, { on := 42, ground := Ground.phase }, { on := 43, ground := Ground.phase }, { on := 44, ground := Ground.phase }, { on := 45, ground := Ground.phase }, { on := 46, ground := Ground.phase }, { on := 47, ground := Ground.phase }, { on := 48, ground := Ground.phase }, { on := 49, ground := Ground.phase }, { on := 50, ground := Ground.phase }, { on := 51, ground := Ground.phase }, { on := 52, ground := Ground.phase }, { on := 53, ground := Ground.phase }, { on := 54, ground := Ground.phase }, { on := 55, ground := Ground.phase }, { on := 56, ground := Ground.phase }, { on := 57, ground := Ground.phase }, { on := 58, ground := Ground.phase }, { on := 59, ground := Ground.phase }, { on := 60, ground := Ground.phase }], guard := none }) (v := ?_) rfl (by kernel_rfl) (by kernel_rfl) (by kernel_rfl) (fun _ _ _ h => h) (Or.inl ⟨by rfl, ?_⟩) (by assumption) ?_
      rotate_left 1
      · (intro W hSW; (try dsimp only at hSW); first | (go_simp; done) | (go_simp; with_reducible rfl))
      try simp only [Act.put, List.setIfInBounds_toArray, List.set_cons_zero]
      refine wpAnyH_done (by kernel_rfl) ?_ _
      have hEND := hgr58
      clear hHeld
      have HE := Lib.hid (World.grownBy.trans HG.out hEND)
      clear hEND
      go_wp2_with fail
      go_ret
      exact ⟨rfl, HE.out⟩
    · rw [if_pos (by rfl)]
      go_simp
      have hal51 := World.grownBy_alloc WA49 (.cells #[.int .i64 0, .int .i64 1] 3) none
      have hrm7 := intsW_lit2 WA49 0 1
      have hgA51 := World.grownBy.trans hgA49 hal51
      obtain ⟨WA51, hWA51⟩ : ∃ z, World.alloc WA49 (.cells #[.int .i64 0, .int .i64 1] 3) = z := ⟨_, rfl⟩
      rw [hWA51] at hal51 hrm7 hgA51 ⊢
      clear hWA51
      refine hK.out _ _ (HS.out _ hgA51) (fun hHeld => ?_)
      clear hK K
      try simp only [Act.put, List.setIfInBounds_toArray, List.set_cons_zero, List.set_cons_succ]
      refine wpAnyH_ready (rs := [50]) (by kernel_rfl) (by simp) ?_
      refine (AllReadyH.cons (o := { dst := some 99, op := Op.call { callee := Callee.value (Operand.func 41), args := #[Operand.const (Value.int IntKind.i64 1), Operand.tmp 98], argTypes := #[3, 25] }, type := 27, pos := "law.go:21", after := #[{ on := 49, ground := Ground.data }, { on := 48, ground := Ground.chain }, { on := 48, ground := Ground.guard }], guard := some (48, true) }) rfl (fun K hK => ?_) AllReadyH.nil)
      rw [if_pos (by rfl)]
      go_simp
      go_at_call 41
      refine (rel_calls 1 1 _ _ _).mono ?_
      rintro e wc50 ⟨rfl, gc50⟩
      have hgr50 := World.grownBy.trans hgA51 gc50
      go_wp2_with fail
      refine hK.out _ _ (HS.out _ hgr50) (fun hHeld => ?_)
      clear hK K
      try simp only [Act.put, List.setIfInBounds_toArray, List.set_cons_zero, List.set_cons_succ]
      refine wpAnyH_ready (rs := [52]) (by kernel_rfl) (by simp) ?_
      refine (AllReadyH.cons (o := { dst := some 101, op := Op.call { callee := Callee.value (Operand.func 41), args := #[Operand.const (Value.int IntKind.i64 1), Operand.tmp 100], argTypes := #[3, 25] }, type := 27, pos := "law.go:21", after := #[{ on := 51, ground := Ground.data }, { on := 50, ground := Ground.chain }, { on := 48, ground := Ground.guard }], guard := some (48, true) }) rfl (fun K hK => ?_) AllReadyH.nil)
      rw [if_pos (by rfl)]
      go_simp
      go_at_call 41
      refine (rel_calls 1 2 _ _ _).mono ?_
      rintro e wc52 ⟨rfl, gc52⟩
      have hgr52 := World.grownBy.trans hgr50 gc52
      go_wp2_with fail
      refine hK.out _ _ (HS.out _ hgr52) (fun hHeld => ?_)
      clear hK K
      try simp only [Act.put, List.setIfInBounds_toArray, List.set_cons_zero, List.set_cons_succ]
      refine wpAnyH_ready (rs := [53]) (by kernel_rfl) (by simp) ?_
      refine (AllReadyH.cons (o := { dst := some 102, op := Op.call { callee := Callee.value (Operand.func 35), args := #[Operand.tmp 99, Operand.tmp 101], argTypes := #[27, 27] }, type := 4, pos := "law.go:21", after := #[{ on := 50, ground := Ground.data }, { on := 52, ground := Ground.data }, { on := 52, ground := Ground.chain }, { on := 48, ground := Ground.guard }], guard := some (48, true) }) rfl (fun K hK => ?_) AllReadyH.nil)
      rw [if_pos (by rfl)]
      go_simp
      go_at_call 35
      refine (inV (n := 3) (k := 1) (Q := true) 1 1 v1 v6 (by omega) (by omega) (by decide) rfl rfl _ _ _ _ _ (hrm6.grown (World.grownBy.trans (World.grownBy.trans hal51 gc50) gc52)) (hrm7.grown (World.grownBy.trans gc50 gc52))).mono ?_
      rintro e wc53 ⟨rfl, gc53⟩
      have hgr53 := World.grownBy.trans hgr52 gc53
      go_wp2_with fail
      refine hK.out _ _ (HS.out _ hgr53) (fun hHeld => ?_)
      clear hK K
      try simp only [Act.put, List.setIfInBounds_toArray, List.set_cons_zero, List.set_cons_succ]
      refine wpAnyH_take (i := 54) (oi := { dst := some 103, op := Op.pick (Operand.tmp 97) (Operand.tmp 102) (Operand.const (Value.bool false)), type := 4, pos := "law.go:21", after := #[{ on := 48, ground := Ground.data }, { on := 53, ground := Ground.data }], guard := none }) (v := ?_) rfl (by kernel_rfl) (by kernel_rfl) (by kernel_rfl) (fun _ _ _ h => h) (Or.inl ⟨by rfl, ?_⟩) (by assumption) ?_
      rotate_left 1
      · (intro W hSW; (try dsimp only at hSW); first | (go_simp; done) | (go_simp; with_reducible rfl))
      try simp only [Act.put, List.setIfInBounds_toArray, List.set_cons_zero, List.set_cons_succ]
      refine wpAnyH_take (i := 55) (oi := { dst := some 104, op := Op.move (Operand.tmp 103), type := 4, pos := "law.go:21", after := #[{ on := 54, ground := Ground.data }, { on := 53, ground := Ground.chain }], guard := none }) (v := ?_) rfl (by kernel_rfl) (by kernel_rfl) (by kernel_rfl) (fun _ _ _ h => h) (Or.inl ⟨by rfl, ?_⟩) (by assumption) ?_
      rotate_left 1
      · (intro W hSW; (try dsimp only at hSW); first | (go_simp; done) | (go_simp; with_reducible rfl))
      try simp only [Act.put, List.setIfInBounds_toArray, List.set_cons_zero, List.set_cons_succ]
      refine wpAnyH_take (i := 56) (oi := { dst := some 105, op := Op.load 27 (Operand.tmp 1), type := 27, pos := "law.go:21", after := #[{ on := 55, ground := Ground.guard }], guard := some (55, true) }) (v := ?_) rfl (by kernel_rfl) (by kernel_rfl) (by kernel_rfl) (fun _ _ _ h => h) (Or.inl ⟨by rfl, ?_⟩) (by assumption) ?_
      rotate_left 1
      · (intro W hSW; (try dsimp only at hSW); first | (go_simp; done) | (go_simp; with_reducible rfl))
      try simp only [Act.put, List.setIfInBounds_toArray, List.set_cons_zero, List.set_cons_succ]
      refine wpAnyH_take (i := 57) (oi := { dst := some 106, op := Op.load 27 (Operand.tmp 3), type := 27, pos := "law.go:21", after := #[{ on := 55, ground := Ground.guard }], guard := some (55, true) }) (v := ?_) rfl (by kernel_rfl) (by kernel_rfl) (by kernel_rfl) (fun _ _ _ h => h) (Or.inl ⟨by rfl, ?_⟩) (by assumption) ?_
      rotate_left 1
      · (intro W hSW; (try dsimp only at hSW); first | (go_simp; done) | (go_simp; with_reducible rfl))
      try simp only [Act.put, List.setIfInBounds_toArray, List.set_cons_zero, List.set_cons_succ]
      refine wpAnyH_ready (rs := [58]) (by kernel_rfl) (by simp) ?_
      refine (AllReadyH.cons (o := { dst := some 107, op := Op.call { callee := Callee.value (Operand.func 19), args := #[Operand.tmp 105, Operand.tmp 106], argTypes := #[27, 27] }, type := 4, pos := "law.go:21", after := #[{ on := 56, ground := Ground.data }, { on := 57, ground := Ground.data }, { on := 55, ground := Ground.chain }, { on := 55, ground := Ground.guard }], guard := some (55, true) }) rfl (fun K hK => ?_) AllReadyH.nil)
      rw [if_pos (by rfl)]
      go_simp
      go_at_call 19
      refine (equalV (n := 3) (k := 2) (Q := false) 2 2 w1 (by omega) (by omega) (by decide) rfl rfl _ _ _ _ _ (Hp1.out.grown hgr53) (Hp2.out.grown hgr53)).mono ?_
      rintro e wc58 ⟨rfl, gc58⟩
      have hgr58 := World.grownBy.trans hgr53 gc58
      go_wp2_with fail
      refine hK.out _ _ (HS.out _ hgr58) (fun hHeld => ?_)
      clear hK K
      try simp only [Act.put, List.setIfInBounds_toArray, List.set_cons_zero, List.set_cons_succ]
      refine wpAnyH_take (i := 59) (oi := { dst := some 108, op := Op.unOp UnOp.not 4 (Operand.tmp 107), type := 4, pos := "law.go:21", after := #[{ on := 58, ground := Ground.data }, { on := 55, ground := Ground.guard }], guard := some (55, true) }) (v := ?_) rfl (by kernel_rfl) (by kernel_rfl) (by kernel_rfl) (fun _ _ _ h => h) (Or.inl ⟨by rfl, ?_⟩) (by assumption) ?_
      rotate_left 1
      · (intro W hSW; (try dsimp only at hSW); first | (go_simp; done) | (go_simp; with_reducible rfl))
      try simp only [Act.put, List.setIfInBounds_toArray, List.set_cons_zero, List.set_cons_succ]
      refine wpAnyH_take (i := 60) (oi := { dst := some 109, op := Op.pick (Operand.tmp 104) (Operand.tmp 108) (Operand.const (Value.bool false)), type := 4, pos := "law.go:21", after := #[{ on := 55, ground := Ground.data }, { on := 59, ground := Ground.data }], guard := none }) (v := ?_) rfl (by kernel_rfl) (by kernel_rfl) (by kernel_rfl) (fun _ _ _ h => h) (Or.inl ⟨by rfl, ?_⟩) (by assumption) ?_
      rotate_left 1
      · (intro W hSW; (try dsimp only at hSW); first | (go_simp; done) | (go_simp; with_reducible rfl))
      try simp only [Act.put, List.setIfInBounds_toArray, List.set_cons_zero, List.set_cons_succ]
      refine wpAnyH_take (i := 61) (oi := { dst := some 0, op := Op.assign (Operand.tmp 109), type := 4, pos := "law.go:21", after := #[{ on := 60, ground := Ground.data }, { on := 58, ground := Ground.chain }, { on := 0, ground := Ground.phase }, { on := 1, ground := Ground.phase }, { on := 2, ground := Ground.phase }, { on := 3, ground := Ground.phase }, { on := 4, ground := Ground.phase }, { on := 5, ground := Ground.phase }, { on := 6, ground := Ground.phase }, { on := 7, ground := Ground.phase }, { on := 8, ground := Ground.phase }, { on := 9, ground := Ground.phase }, { on := 10, ground := Ground.phase }, { on := 11, ground := Ground.phase }, { on := 12, ground := Ground.phase }, { on := 13, ground := Ground.phase }, { on := 14, ground := Ground.phase }, { on := 15, ground := Ground.phase }, { on := 16, ground := Ground.phase }, { on := 17, ground := Ground.phase }, { on := 18, ground := Ground.phase }, { on := 19, ground := Ground.phase }, { on := 20, ground := Ground.phase }, { on := 21, ground := Ground.phase }, { on := 22, ground := Ground.phase }, { on := 23, ground := Ground.phase }, { on := 24, ground := Ground.phase }, { on := 25, ground := Ground.phase }, { on := 26, ground := Ground.phase }, { on := 27, ground := Ground.phase }, { on := 28, ground := Ground.phase }, { on := 29, ground := Ground.phase }, { on := 30, ground := Ground.phase }, { on := 31, ground := Ground.phase }, { on := 32, ground := Ground.phase }, { on := 33, ground := Ground.phase }, { on := 34, ground := Ground.phase }, { on := 35, ground := Ground.phase }, { on := 36, ground := Ground.phase }, { on := 37, ground := Ground.phase }, { on := 38, ground := Ground.phase }, { on := 39, ground := Ground.phase }, { on := 40, ground := Ground.phase }, { on := 41, ground := Ground.phase }, { on := 42, ground := Ground.phase }, { on := 43, ground := Ground.phase }, { on := 44, ground := Ground.phase }, { on := 45, ground := Ground.phase }, { on := 46, ground := Ground.phase }, { on := 47, ground := Ground.phase }, { on := 48, ground := Ground.phase }, { on := 49, ground := Ground.phase }, { on := 50, ground := Ground.phase }, { on := 51, ground := Ground.phase }, { on := 52, ground := Ground.phase }, { on := 53, ground := Ground.phase }, { on := 54, ground := Ground.phase }, { on := 55, ground := Ground.phase }, { on := 56, ground := Ground.phase }, { on := 57, ground := Ground.phase }, { on := 58, ground := Ground.phase }, { on := 59, ground := Ground.phase }, { on := 60, ground := Ground.phase }], guard := none }) (v := ?_) rfl (by kernel_rfl) (by kernel_rfl) (by kernel_rfl) (fun _ _ _ h => h) (Or.inl ⟨by rfl, ?_⟩) (by assumption) ?_
      rotate_left 1
      · (intro W hSW; (try dsimp only at hSW); first | (go_simp; done) | (go_simp; with_reducible rfl))
      try simp only [Act.put, List.setIfInBounds_toArray, List.set_cons_zero]
      refine wpAnyH_done (by kernel_rfl) ?_ _
      have hEND := hgr58
      clear hHeld
      have HE := Lib.hid (World.grownBy.trans HG.out hEND)
      clear hEND
      go_wp2_with fail
      go_ret
      exact ⟨rfl, HE.out⟩
  · rw [if_pos (by rfl)]
    go_simp
    have hal51 := World.grownBy_alloc wc45 (.cells #[.int .i64 0, .int .i64 1] 3) none
    have hrm7 := intsW_lit2 wc45 0 1
    have hgA51 := World.grownBy.trans hgr45 hal51
    obtain ⟨WA51, hWA51⟩ : ∃ z, World.alloc wc45 (.cells #[.int .i64 0, .int .i64 1] 3) = z := ⟨_, rfl⟩
    rw [hWA51] at hal51 hrm7 hgA51 ⊢
    clear hWA51
    refine hK.out _ _ (HS.out _ hgA51) (fun hHeld => ?_)
    clear hK K
    try simp only [Act.put, List.setIfInBounds_toArray, List.set_cons_zero, List.set_cons_succ]
    refine wpAnyH_ready (rs := [49]) (by kernel_rfl) (by simp) ?_
    refine (AllReadyH.cons (o := { dst := some 98, op := Op.buildSlice 25 1 #[(0, Operand.const (Value.int IntKind.i64 1))], type := 25, pos := "law.go:21", after := #[{ on := 48, ground := Ground.guard }], guard := some (48, true) }) rfl (fun K hK => ?_) AllReadyH.nil)
    rw [if_pos (by rfl)]
    go_simp
    have hal49 := World.grownBy_alloc WA51 (.cells #[.int .i64 1] 3) none
    have hrm6 := intsW_lit1 WA51 1
    have hgA49 := World.grownBy.trans hgA51 hal49
    obtain ⟨WA49, hWA49⟩ : ∃ z, World.alloc WA51 (.cells #[.int .i64 1] 3) = z := ⟨_, rfl⟩
    rw [hWA49] at hal49 hrm6 hgA49 ⊢
    clear hWA49
    refine hK.out _ _ (HS.out _ hgA49) (fun hHeld => ?_)
    clear hK K
    try simp only [Act.put, List.setIfInBounds_toArray, List.set_cons_zero, List.set_cons_succ]
    refine wpAnyH_ready (rs := [50]) (by kernel_rfl) (by simp) ?_
    refine (AllReadyH.cons (o := { dst := some 99, op := Op.call { callee := Callee.value (Operand.func 41), args := #[Operand.const (Value.int IntKind.i64 1), Operand.tmp 98], argTypes := #[3, 25] }, type := 27, pos := "law.go:21", after := #[{ on := 49, ground := Ground.data }, { on := 48, ground := Ground.chain }, { on := 48, ground := Ground.guard }], guard := some (48, true) }) rfl (fun K hK => ?_) AllReadyH.nil)
    rw [if_pos (by rfl)]
    go_simp
    go_at_call 41
    refine (rel_calls 1 1 _ _ _).mono ?_
    rintro e wc50 ⟨rfl, gc50⟩
    have hgr50 := World.grownBy.trans hgA49 gc50
    go_wp2_with fail
    refine hK.out _ _ (HS.out _ hgr50) (fun hHeld => ?_)
    clear hK K
    try simp only [Act.put, List.setIfInBounds_toArray, List.set_cons_zero, List.set_cons_succ]
    refine wpAnyH_ready (rs := [52]) (by kernel_rfl) (by simp) ?_
    refine (AllReadyH.cons (o := { dst := some 101, op := Op.call { callee := Callee.value (Operand.func 41), args := #[Operand.const (Value.int IntKind.i64 1), Operand.tmp 100], argTypes := #[3, 25] }, type := 27, pos := "law.go:21", after := #[{ on := 51, ground := Ground.data }, { on := 50, ground := Ground.chain }, { on := 48, ground := Ground.guard }], guard := some (48, true) }) rfl (fun K hK => ?_) AllReadyH.nil)
    rw [if_pos (by rfl)]
    go_simp
    go_at_call 41
    refine (rel_calls 1 2 _ _ _).mono ?_
    rintro e wc52 ⟨rfl, gc52⟩
    have hgr52 := World.grownBy.trans hgr50 gc52
    go_wp2_with fail
    refine hK.out _ _ (HS.out _ hgr52) (fun hHeld => ?_)
    clear hK K
    try simp only [Act.put, List.setIfInBounds_toArray, List.set_cons_zero, List.set_cons_succ]
    refine wpAnyH_ready (rs := [53]) (by kernel_rfl) (by simp) ?_
    refine (AllReadyH.cons (o := { dst := some 102, op := Op.call { callee := Callee.value (Operand.func 35), args := #[Operand.tmp 99, Operand.tmp 101], argTypes := #[27, 27] }, type := 4, pos := "law.go:21", after := #[{ on := 50, ground := Ground.data }, { on := 52, ground := Ground.data }, { on := 52, ground := Ground.chain }, { on := 48, ground := Ground.guard }], guard := some (48, true) }) rfl (fun K hK => ?_) AllReadyH.nil)
    rw [if_pos (by rfl)]
    go_simp
    go_at_call 35
    refine (inV (n := 3) (k := 1) (Q := true) 1 1 v1 v6 (by omega) (by omega) (by decide) rfl rfl _ _ _ _ _ (hrm6.grown (World.grownBy.trans gc50 gc52)) (hrm7.grown (World.grownBy.trans (World.grownBy.trans hal49 gc50) gc52))).mono ?_
    rintro e wc53 ⟨rfl, gc53⟩
    have hgr53 := World.grownBy.trans hgr52 gc53
    go_wp2_with fail
    refine hK.out _ _ (HS.out _ hgr53) (fun hHeld => ?_)
    clear hK K
    try simp only [Act.put, List.setIfInBounds_toArray, List.set_cons_zero, List.set_cons_succ]
    refine wpAnyH_take (i := 54) (oi := { dst := some 103, op := Op.pick (Operand.tmp 97) (Operand.tmp 102) (Operand.const (Value.bool false)), type := 4, pos := "law.go:21", after := #[{ on := 48, ground := Ground.data }, { on := 53, ground := Ground.data }], guard := none }) (v := ?_) rfl (by kernel_rfl) (by kernel_rfl) (by kernel_rfl) (fun _ _ _ h => h) (Or.inl ⟨by rfl, ?_⟩) (by assumption) ?_
    rotate_left 1
    · (intro W hSW; (try dsimp only at hSW); first | (go_simp; done) | (go_simp; with_reducible rfl))
    try simp only [Act.put, List.setIfInBounds_toArray, List.set_cons_zero, List.set_cons_succ]
    refine wpAnyH_take (i := 55) (oi := { dst := some 104, op := Op.move (Operand.tmp 103), type := 4, pos := "law.go:21", after := #[{ on := 54, ground := Ground.data }, { on := 53, ground := Ground.chain }], guard := none }) (v := ?_) rfl (by kernel_rfl) (by kernel_rfl) (by kernel_rfl) (fun _ _ _ h => h) (Or.inl ⟨by rfl, ?_⟩) (by assumption) ?_
    rotate_left 1
    · (intro W hSW; (try dsimp only at hSW); first | (go_simp; done) | (go_simp; with_reducible rfl))
    try simp only [Act.put, List.setIfInBounds_toArray, List.set_cons_zero, List.set_cons_succ]
    refine wpAnyH_take (i := 56) (oi := { dst := some 105, op := Op.load 27 (Operand.tmp 1), type := 27, pos := "law.go:21", after := #[{ on := 55, ground := Ground.guard }], guard := some (55, true) }) (v := ?_) rfl (by kernel_rfl) (by kernel_rfl) (by kernel_rfl) (fun _ _ _ h => h) (Or.inl ⟨by rfl, ?_⟩) (by assumption) ?_
    rotate_left 1
    · (intro W hSW; (try dsimp only at hSW); first | (go_simp; done) | (go_simp; with_reducible rfl))
    try simp only [Act.put, List.setIfInBounds_toArray, List.set_cons_zero, List.set_cons_succ]
    refine wpAnyH_take (i := 57) (oi := { dst := some 106, op := Op.load 27 (Operand.tmp 3), type := 27, pos := "law.go:21", after := #[{ on := 55, ground := Ground.guard }], guard := some (55, true) }) (v := ?_) rfl (by kernel_rfl) (by kernel_rfl) (by kernel_rfl) (fun _ _ _ h => h) (Or.inl ⟨by rfl, ?_⟩) (by assumption) ?_
    rotate_left 1
    · (intro W hSW; (try dsimp only at hSW); first | (go_simp; done) | (go_simp; with_reducible rfl))
    try simp only [Act.put, List.setIfInBounds_toArray, List.set_cons_zero, List.set_cons_succ]
    refine wpAnyH_ready (rs := [58]) (by kernel_rfl) (by simp) ?_
    refine (AllReadyH.cons (o := { dst := some 107, op := Op.call { callee := Callee.value (Operand.func 19), args := #[Operand.tmp 105, Operand.tmp 106], argTypes := #[27, 27] }, type := 4, pos := "law.go:21", after := #[{ on := 56, ground := Ground.data }, { on := 57, ground := Ground.data }, { on := 55, ground := Ground.chain }, { on := 55, ground := Ground.guard }], guard := some (55, true) }) rfl (fun K hK => ?_) AllReadyH.nil)
    rw [if_pos (by rfl)]
    go_simp
    go_at_call 19
    refine (equalV (n := 3) (k := 2) (Q := false) 2 2 w1 (by omega) (by omega) (by decide) rfl rfl _ _ _ _ _ (Hp1.out.grown hgr53) (Hp2.out.grown hgr53)).mono ?_
    rintro e wc58 ⟨rfl, gc58⟩
    have hgr58 := World.grownBy.trans hgr53 gc58
    go_wp2_with fail
    refine hK.out _ _ (HS.out _ hgr58) (fun hHeld => ?_)
    clear hK K
    try simp only [Act.put, List.setIfInBounds_toArray, List.set_cons_zero, List.set_cons_succ]
    refine wpAnyH_take (i := 59) (oi := { dst := some 108, op := Op.unOp UnOp.not 4 (Operand.tmp 107), type := 4, pos := "law.go:21", after := #[{ on := 58, ground := Ground.data }, { on := 55, ground := Ground.guard }], guard := some (55, true) }) (v := ?_) rfl (by kernel_rfl) (by kernel_rfl) (by kernel_rfl) (fun _ _ _ h => h) (Or.inl ⟨by rfl, ?_⟩) (by assumption) ?_
    rotate_left 1
    · (intro W hSW; (try dsimp only at hSW); first | (go_simp; done) | (go_simp; with_reducible rfl))
    try simp only [Act.put, List.setIfInBounds_toArray, List.set_cons_zero, List.set_cons_succ]
    refine wpAnyH_take (i := 60) (oi := { dst := some 109, op := Op.pick (Operand.tmp 104) (Operand.tmp 108) (Operand.const (Value.bool false)), type := 4, pos := "law.go:21", after := #[{ on := 55, ground := Ground.data }, { on := 59, ground := Ground.data }], guard := none }) (v := ?_) rfl (by kernel_rfl) (by kernel_rfl) (by kernel_rfl) (fun _ _ _ h => h) (Or.inl ⟨by rfl, ?_⟩) (by assumption) ?_
    rotate_left 1
    · (intro W hSW; (try dsimp only at hSW); first | (go_simp; done) | (go_simp; with_reducible rfl))
    try simp only [Act.put, List.setIfInBounds_toArray, List.set_cons_zero, List.set_cons_succ]
    refine wpAnyH_take (i := 61) (oi := { dst := some 0, op := Op.assign (Operand.tmp 109), type := 4, pos := "law.go:21", after := #[{ on := 60, ground := Ground.data }, { on := 58, ground := Ground.chain }, { on := 0, ground := Ground.phase }, { on := 1, ground := Ground.phase }, { on := 2, ground := Ground.phase }, { on := 3, ground := Ground.phase }, { on := 4, ground := Ground.phase }, { on := 5, ground := Ground.phase }, { on := 6, ground := Ground.phase }, { on := 7, ground := Ground.phase }, { on := 8, ground := Ground.phase }, { on := 9, ground := Ground.phase }, { on := 10, ground := Ground.phase }, { on := 11, ground := Ground.phase }, { on := 12, ground := Ground.phase }, { on := 13, ground := Ground.phase }, { on := 14, ground := Ground.phase }, { on := 15, ground := Ground.phase }, { on := 16, ground := Ground.phase }, { on := 17, ground := Ground.phase }, { on := 18, ground := Ground.phase }, { on := 19, ground := Ground.phase }, { on := 20, ground := Ground.phase }, { on := 21, ground := Ground.phase }, { on := 22, ground := Ground.phase }, { on := 23, ground := Ground.phase }, { on := 24, ground := Ground.phase }, { on := 25, ground := Ground.phase }, { on := 26, ground := Ground.phase }, { on := 27, ground := Ground.phase }, { on := 28, ground := Ground.phase }, { on := 29, ground := Ground.phase }, { on := 30, ground := Ground.phase }, { on := 31, ground := Ground.phase }, { on := 32, ground := Ground.phase }, { on := 33, ground := Ground.phase }, { on := 34, ground := Ground.phase }, { on := 35, ground := Ground.phase }, { on := 36, ground := Ground.phase }, { on := 37, ground := Ground.phase }, { on := 38, ground := Ground.phase }, { on := 39, ground := Ground.phase }, { on := 40, ground := Ground.phase }, { on := 41, ground := Ground.phase }, { on := 42, ground := Ground.phase }, { on := 43, ground := Ground.phase }, { on := 44, ground := Ground.phase }, { on := 45, ground := Ground.phase }, { on := 46, ground := Ground.phase }, { on := 47, ground := Ground.phase }, { on := 48, ground := Ground.phase }, { on := 49, ground := Ground.phase }, { on := 50, ground := Ground.phase }, { on := 51, ground := Ground.phase }, { on := 52, ground := Ground.phase }, { on := 53, ground := Ground.phase }, { on := 54, ground := Ground.phase }, { on := 55, ground := Ground.phase }, { on := 56, ground := Ground.phase }, { on := 57, ground := Ground.phase }, { on := 58, ground := Ground.phase }, { on := 59, ground := Ground.phase }, { on := 60, ground := Ground.phase }], guard := none }) (v := ?_) rfl (by kernel_rfl) (by kernel_rfl) (by kernel_rfl) (fun _ _ _ h => h) (Or.inl ⟨by rfl, ?_⟩) (by assumption) ?_
    rotate_left 1
    · (intro W hSW; (try dsimp only at hSW); first | (go_simp; done) | (go_simp; with_reducible rfl))
    try simp only [Act.put, List.setIfInBounds_toArray, List.set_cons_zero]
    refine wpAnyH_done (by kernel_rfl) ?_ _
    have hEND := hgr58
    clear hHeld
    have HE := Lib.hid (World.grownBy.trans HG.out hEND)
    clear hEND
    go_wp2_with fail
    go_ret
    exact ⟨rfl, HE.out⟩
end Go.Proofs.Ytkoigonbncpbaaa
