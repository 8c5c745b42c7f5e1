/- Common texts of the laws of stage 9, joined: VJ. -/
import Derived.Test.YtbddpjofhddilaaN19
import Derived.Test.YtbddpjofhddilaaN11
import Derived.Test.YtbddpjofhddilaaN08
import Derived.Test.YtbddpjofhddilaaN10
import Derived.Test.YtbddpjofhddilaaN05
/- The check of the examples of bounds. -/
namespace Go.Proofs.Ytbddpjofhddilaa
open Go.RowKit

/-- What the check of examples answers. -/
def HeadSays9 : Prop := ∀ w : World, Calls Try.prog 39 #[] w fun e w' => e = .returned (.bool true) ∧ w.grownBy w' none
abbrev dd9 : List Bd := [((1, []), (1, [0, 1])), ((2, []), (2, [2, 5]))]
abbrev xx9 : List Bd := [((1, [1]), (1, [0, 1])), ((2, []), (2, [2, 5]))]
abbrev yy9 : List Bd := [((1, [0]), (1, [0, 1])), ((2, [5]), (2, [5]))]
abbrev zz9 : List Bd := [((1, []), (1, [0])), ((2, []), (2, [2, 5]))]
abbrev mm9 : List Bd := [((1, [0, 1]), (1, [0, 1])), ((2, [5]), (2, [5]))]
theorem default9 {w : World} {b2 b3 : Nat} {s1 : Option Addr} (hF : Fields w (some ⟨b2, 0, none⟩) 2 [fdF, fdG]) (hI : Ints w (some ⟨b3, 0, none⟩) 2 [2, 1]) :
    Calls Try.prog 43 #[.agg #[.slice s1 2 2, .slice (some ⟨b2, 0, none⟩) 2 2, .slice none 0 0, .slice none 0 0], .agg #[.slice (some ⟨b3, 0, none⟩) 2 2, .int .i64 1]] w fun e w' => ∃ a c, e = .returned (.slice a 2 c) ∧ Bds w' a c dd9 ∧ w.grownBy w' none := by
  have h := default_calls s1 (some ⟨b2, 0, none⟩) none none 2 2 2 0 0 0 0 [fdF, fdG] [2, 1] (some ⟨b3, 0, none⟩) 2 1 w hF (hI.nums (by simp)) (by simp) (by simp) (by simp) (by decide)
  rw [show [fdF, fdG].map (defX [2, 1]) = dd9 by decide +kernel] at h
  exact h.mono fun e w' ⟨a, c, he, hs, hg⟩ => ⟨a, c, he, hs.here, hg⟩
theorem valid9 {w : World} {b2 b3 : Nat} {s1 a : Option Addr} {c n : Nat} {B : List Bd} {Q : Bool} (hF : Fields w (some ⟨b2, 0, none⟩) 2 [fdF, fdG]) (hI : Ints w (some ⟨b3, 0, none⟩) 2 [2, 1]) (hB : Bds w a c B) (hn : B.length = n) (hl : ∀ x ∈ B, x.1.2.length ≤ 100000 ∧ x.2.2.length ≤ 100000) (hQ : allB (validF [2, 1]) [fdF, fdG] B = Q) :
    Calls Try.prog 45 #[.agg #[.slice s1 2 2, .slice (some ⟨b2, 0, none⟩) 2 2, .slice none 0 0, .slice none 0 0], .agg #[.slice (some ⟨b3, 0, none⟩) 2 2, .int .i64 1], .slice a n c] w fun e w' => e = .returned (.bool Q) ∧ w.grownBy w' none := by
  have h := bValid_calls s1 (some ⟨b2, 0, none⟩) none none 2 2 2 0 0 0 0 [fdF, fdG] [2, 1] (some ⟨b3, 0, none⟩) 2 1 B a c w hF (hI.nums (by simp)) (by simp) (by simp) hB (by simp) (by decide) hl
  rw [hn, hQ] at h
  exact h
theorem meet9 {w : World} {a a' : Option Addr} {c c' n n' : Nat} {A B : List Bd} {M : List Bd} {E : Nat} (hA : Bds w a c A) (hB : Bds w a' c' B) (hn : A.length = n) (hn' : B.length = n') (hl : n ≤ 2) (h1 : ∀ x ∈ A, x.1.2.length ≤ 10000 ∧ x.2.2.length ≤ 10000) (h2 : ∀ x ∈ B, x.1.2.length ≤ 10000 ∧ x.2.2.length ≤ 10000) (hM : meetR A B = (M, E)) {k : Nat} (hk : M.length = k) :
    Calls Try.prog 48 #[.slice a n c, .slice a' n' c'] w fun e w' => ∃ r q, e = .returned (.tuple #[.slice r k q, .int .i64 (E : Int)]) ∧ Bds w' r q M ∧ w.grownBy w' none := by
  have h := meet_calls A B a a' c c' w hA hB (by omega) h1 h2
  rw [hn, hn'] at h
  refine h.mono fun e w' ⟨r, q, he, hs, hg⟩ => ?_
  rw [hM] at he hs
  rw [hk] at he
  exact ⟨r, q, he, hs.here, hg⟩
theorem mm9_eq : meetR xx9 yy9 = (mm9, 0) ∧ meetR xx9 zz9 = ([], 100) ∧ meetR xx9 (xx9.take 1) = ([], 1) := by
  refine ⟨?_, ?_, ?_⟩ <;> simp [meetR, allB, meetB, arityB, okX, meetX, unionL, interL, inB, diffL, mergeL, putIf]
theorem v9_eq : allB (validF [2, 1]) [fdF, fdG] dd9 = true ∧ allB (validF [2, 1]) [fdF, fdG] xx9 = true ∧ allB (validF [2, 1]) [fdF, fdG] (xx9.take 1) = false := by
  have f1 : fullL [2, 1] [0] = [0, 1] := by decide +kernel
  have f2 : fullL [2, 1] [0, 1] = [2, 5] := by decide +kernel
  refine ⟨?_, ?_, ?_⟩ <;> simp [allB, validF, validX, fdF, fdG, f1, f2, arityB, relValid, rising, sum, inB, diffL, mergeL, putIf]
theorem c9_eq : containsB xx9 [[(1, [1]), (2, [5])]] = true ∧ containsB yy9 [[(1, [1]), (2, [5])]] = false := by
  refine ⟨?_, ?_⟩ <;> simp [containsB, allB, withinB, inB, diffL, mergeL, putIf]
theorem f9_eq : freeTo xx9 2 = [(0, 0), (1, 2), (1, 5)] := by
  simp [freeTo, freeX, diffL, mergeL, putIf]
theorem equal9 {w : World} {a a' : Option Addr} {c c' : Nat} (h : Bds w a c dd9) (h' : Bds w a' c' dd9) : Calls Try.prog 42 #[.slice a 2 c, .slice a' 2 c'] w fun e w' => e = .returned (.bool true) ∧ w.grownBy w' none := by
  have h := bEqual_calls dd9 dd9 a a' c c' w h h' ⟨by decide, by decide⟩ ⟨by decide, by decide⟩
  rw [decide_eq_true (rfl : dd9 = dd9)] at h
  exact h
theorem req9a {w : World} {a a' : Option Addr} {c c' : Nat} (h : IntsW w a c [0, 1]) (h' : IntsW w a' c' [0, 1]) : Calls Try.prog 59 #[.agg #[.int .i64 1, .slice a 2 c], .agg #[.int .i64 1, .slice a' 2 c']] w fun e w' => e = .returned (.bool true) ∧ w.grownBy w' none := by
  have h := rRelEqual_calls (1, [0, 1]) (1, [0, 1]) a a' c c' w h h' (by simp)
  rw [decide_eq_true rfl] at h
  exact h
theorem req9b {w : World} {a a' : Option Addr} {c c' : Nat} (h : IntsW w a c [5]) (h' : IntsW w a' c' [5]) : Calls Try.prog 59 #[.agg #[.int .i64 2, .slice a 1 c], .agg #[.int .i64 2, .slice a' 1 c']] w fun e w' => e = .returned (.bool true) ∧ w.grownBy w' none := by
  have h := rRelEqual_calls (2, [5]) (2, [5]) a a' c c' w h h' (by simp)
  rw [decide_eq_true rfl] at h
  exact h
theorem contains9 {w : World} {a ta : Option Addr} {c tc : Nat} {B : List Bd} {Q : Bool} (h : Bds w a c B) (hT : Sts w ta tc [[(1, [1]), (2, [5])]]) (hB : B.length = 2) (hl : ∀ x ∈ B, x.1.2.length ≤ 100000 ∧ x.2.2.length ≤ 100000) (hQ : containsB B [[(1, [1]), (2, [5])]] = Q) :
    Calls Try.prog 51 #[.slice a 2 c, .agg #[.slice none 0 0, .int .i64 0, .slice ta 1 tc, .int .i64 0]] w fun e w' => e = .returned (.bool Q) ∧ w.grownBy w' none := by
  have h := contains_calls B [[(1, [1]), (2, [5])]] a ta none c tc 0 0 0 0 w h hT ⟨by omega, hl⟩ (by simp) (by intro l hl r hr; simp at hl; subst hl; simp at hr; rcases hr with rfl | rfl <;> simp)
  rw [hB, hQ] at h
  exact h
theorem free9 {w : World} {a : Option Addr} {c : Nat} (h : Bds w a c xx9) : Calls Try.prog 54 #[.slice a 2 c] w fun e w' => ∃ a c, e = .returned (.slice a 3 c) ∧ Prs w' a c [(0, 0), (1, 2), (1, 5)] ∧ w.grownBy w' none := by
  have hf : freeTo xx9 xx9.length = [(0, 0), (1, 2), (1, 5)] := f9_eq
  refine (free_calls xx9 a c w h (by simp) (by decide) (by rw [hf]; simp)).mono ?_
  rintro e w' ⟨a', c', he, hs, hg⟩
  rw [hf] at he hs
  exact ⟨a', c', he, hs.here, hg⟩
theorem sameFree9 {w : World} {a a' : Option Addr} {c c' : Nat} (h : Prs w a c [(0, 0), (1, 2), (1, 5)]) (h' : Prs w a' c' [(0, 0), (1, 2), (1, 5)]) : Calls Try.prog 53 #[.slice a 3 c, .slice a' 3 c'] w fun e w' => e = .returned (.bool true) ∧ w.grownBy w' none := by
  have h := sameFree_calls [(0, 0), (1, 2), (1, 5)] [(0, 0), (1, 2), (1, 5)] a a' c c' w h h' (by simp)
  rw [decide_eq_true rfl] at h
  exact h
/-- What stands beside the examples' walk: the specification's and the scope's box. -/
structure Ctx9 (w : World) (g1 b1 b2 b3 : Nat) (U : World) : Prop where
  gr : w.grownBy U none
  c0 : U.cell? ⟨g1, 0, none⟩ = some (.slice (some ⟨b1, 0, none⟩) 2 2)
  c1 : U.cell? ⟨g1, 1, none⟩ = some (.slice (some ⟨b2, 0, none⟩) 2 2)
  c2 : U.cell? ⟨g1, 2, none⟩ = some (.slice none 0 0)
  c3 : U.cell? ⟨g1, 3, none⟩ = some (.slice none 0 0)
  d0 : U.cell? ⟨g1 + 1, 0, none⟩ = some (.slice (some ⟨b3, 0, none⟩) 2 2)
  d1 : U.cell? ⟨g1 + 1, 1, none⟩ = some (.int .i64 1)
  F : Fields U (some ⟨b2, 0, none⟩) 2 [fdF, fdG]
  I : Ints U (some ⟨b3, 0, none⟩) 2 [2, 1]
theorem Ctx9.grown {w U U' : World} {g1 b1 b2 b3 : Nat} (h : Ctx9 w g1 b1 b2 b3 U) (g : U.grownBy U' none) : Ctx9 w g1 b1 b2 b3 U' :=
  ⟨h.gr.trans g, g.cell h.c0 (by simp), g.cell h.c1 (by simp), g.cell h.c2 (by simp), g.cell h.c3 (by simp), g.cell h.d0 (by simp), g.cell h.d1 (by simp), h.F.grown g, h.I.grown g⟩

set_option maxRecDepth 100000 in
set_option maxHeartbeats 32000000 in
theorem head9_says : HeadSays9 := by
  intro w
  go_enter Try.func39, Try.ntmps39
  go_wp2_with fail
  refine (small9_calls w).mono ?_
  rintro e w1 ⟨b1, b2, b3, rfl, hF, hI, g1⟩
  have HS1 := Lib.hid (And.intro hF (And.intro hI g1))
  clear hF hI g1
  go_wp2_with fail
  have HC : Hid (Ctx9 w w1.heap.size b1 b2 b3 ((w1.alloc (.cells #[.slice (some ⟨b1, 0, none⟩) 2 2, .slice (some ⟨b2, 0, none⟩) 2 2, .slice none 0 0, .slice none 0 0] 27)).alloc (.cells #[.slice (some ⟨b3, 0, none⟩) 2 2, .int .i64 1] 30))) := Lib.hid (by
    have ga := (World.grownBy_alloc w1 (.cells #[.slice (some ⟨b1, 0, none⟩) 2 2, .slice (some ⟨b2, 0, none⟩) 2 2, .slice none 0 0, .slice none 0 0] 27) none).trans (World.grownBy_alloc _ (.cells #[.slice (some ⟨b3, 0, none⟩) 2 2, .int .i64 1] 30) none)
    exact ⟨HS1.out.2.2.trans ga, by go_simp, by go_simp, by go_simp, by go_simp, by go_simp, by go_simp, HS1.out.1.grown ga, HS1.out.2.1.grown ga⟩)
  obtain ⟨W1, hW1⟩ : ∃ W, (w1.alloc (.cells #[.slice (some ⟨b1, 0, none⟩) 2 2, .slice (some ⟨b2, 0, none⟩) 2 2, .slice none 0 0, .slice none 0 0] 27)).alloc (.cells #[.slice (some ⟨b3, 0, none⟩) 2 2, .int .i64 1] 30) = W := ⟨_, rfl⟩
  obtain ⟨g1, hg1⟩ : ∃ g, w1.heap.size = g := ⟨_, rfl⟩
  rw [hW1, hg1] at HC
  rw [hW1, hg1]
  clear hW1 hg1 HS1
  refine (default9 HC.out.F HC.out.I).mono ?_
  rintro e w2 ⟨ad, cd, rfl, hbd, gd⟩
  have HD := Lib.hid hbd
  replace HC := Lib.hid (HC.out.grown gd)
  clear hbd gd
  go_wp2_with fail
  have ga3 := World.grownBy_alloc w2 (.cells #[.int .i64 1] 3) none
  replace HC := Lib.hid (HC.out.grown ga3)
  replace HD := Lib.hid (HD.out.grown ga3)
  have HR1 : Hid (IntsW (World.alloc w2 (.cells #[.int .i64 1] 3)) (some ⟨w2.heap.size, 0, none⟩) 1 [1]) := Lib.hid (ints_new9 w2 [1])
  refine (set9_calls _ _ _ _).mono ?_
  rintro e w3 ⟨rfl, gc3⟩
  replace HC := Lib.hid (HC.out.grown gc3)
  replace HD := Lib.hid (HD.out.grown gc3)
  replace HR1 := Lib.hid (HR1.out.grown gc3)
  clear ga3 gc3
  go_wp2_with fail
  have ga4 := World.grownBy_alloc w3 (.cells #[.int .i64 0, .int .i64 1] 3) none
  replace HC := Lib.hid (HC.out.grown ga4)
  replace HD := Lib.hid (HD.out.grown ga4)
  replace HR1 := Lib.hid (HR1.out.grown ga4)
  have HR2 : Hid (IntsW (World.alloc w3 (.cells #[.int .i64 0, .int .i64 1] 3)) (some ⟨w3.heap.size, 0, none⟩) 2 [0, 1]) := Lib.hid (ints_new9 w3 [0, 1])
  refine (set9_calls _ _ _ _).mono ?_
  rintro e w4 ⟨rfl, gc4⟩
  replace HC := Lib.hid (HC.out.grown gc4)
  replace HD := Lib.hid (HD.out.grown gc4)
  replace HR1 := Lib.hid (HR1.out.grown gc4)
  replace HR2 := Lib.hid (HR2.out.grown gc4)
  clear ga4 gc4
  go_wp2_with fail
  have ga5a := World.grownBy_alloc w4 (.cells #[.int .i64 2, .int .i64 5] 3) none
  have HR3 : Hid (IntsW (World.alloc w4 (.cells #[.int .i64 2, .int .i64 5] 3)) (some ⟨w4.heap.size, 0, none⟩) 2 [2, 5]) := Lib.hid (ints_new9 w4 [2, 5])
  replace HC := Lib.hid (HC.out.grown ga5a)
  replace HD := Lib.hid (HD.out.grown ga5a)
  replace HR1 := Lib.hid (HR1.out.grown ga5a)
  replace HR2 := Lib.hid (HR2.out.grown ga5a)
  have HZW4 : Hid ((World.alloc w4 (.cells #[.int .i64 2, .int .i64 5] 3)).heap.size = w4.heap.size + 1) := Lib.hid (by rw [World.size_alloc])
  obtain ⟨W4, hW4⟩ : ∃ U, World.alloc w4 (.cells #[.int .i64 2, .int .i64 5] 3) = U := ⟨_, rfl⟩
  rw [hW4] at HZW4 HC HD HR1 HR2 HR3 ⊢
  clear hW4 ga5a
  have ga5b := World.grownBy_alloc W4 (.cells #[.int .i64 1, .slice (some ⟨w2.heap.size, 0, none⟩) 1 1, .int .i64 1, .slice (some ⟨w3.heap.size, 0, none⟩) 2 2, .int .i64 2, .slice none 0 0, .int .i64 2, .slice (some ⟨w4.heap.size, 0, none⟩) 2 2] 74) none
  have HX : Hid (Bds (World.alloc W4 (.cells #[.int .i64 1, .slice (some ⟨w2.heap.size, 0, none⟩) 1 1, .int .i64 1, .slice (some ⟨w3.heap.size, 0, none⟩) 2 2, .int .i64 2, .slice none 0 0, .int .i64 2, .slice (some ⟨w4.heap.size, 0, none⟩) 2 2] 74)) (some ⟨W4.heap.size, 0, none⟩) 2 xx9) := Lib.hid (bds_lit2 W4 ((1, [1]), (1, [0, 1])) ((2, []), (2, [2, 5])) _ _ none _ _ _ 0 _ HR1.out HR2.out (intsW_nil _ _ _) HR3.out)
  rw [HZW4.out] at HX
  replace HC := Lib.hid (HC.out.grown ga5b)
  replace HD := Lib.hid (HD.out.grown ga5b)
  replace HR1 := Lib.hid (HR1.out.grown ga5b)
  replace HR2 := Lib.hid (HR2.out.grown ga5b)
  replace HR3 := Lib.hid (HR3.out.grown ga5b)
  have HZWx : Hid ((World.alloc W4 (.cells #[.int .i64 1, .slice (some ⟨w2.heap.size, 0, none⟩) 1 1, .int .i64 1, .slice (some ⟨w3.heap.size, 0, none⟩) 2 2, .int .i64 2, .slice none 0 0, .int .i64 2, .slice (some ⟨w4.heap.size, 0, none⟩) 2 2] 74)).heap.size = w4.heap.size + 1 + 1) := Lib.hid (by rw [World.size_alloc, HZW4.out])
  obtain ⟨Wx, hWx⟩ : ∃ U, World.alloc W4 (.cells #[.int .i64 1, .slice (some ⟨w2.heap.size, 0, none⟩) 1 1, .int .i64 1, .slice (some ⟨w3.heap.size, 0, none⟩) 2 2, .int .i64 2, .slice none 0 0, .int .i64 2, .slice (some ⟨w4.heap.size, 0, none⟩) 2 2] 74) = U := ⟨_, rfl⟩
  rw [hWx] at HZWx HC HD HR1 HR2 HR3 HX ⊢
  clear hWx ga5b
  have ga6 := World.grownBy_alloc Wx (.cells #[.int .i64 0] 3) none
  replace HC := Lib.hid (HC.out.grown ga6)
  replace HD := Lib.hid (HD.out.grown ga6)
  replace HR1 := Lib.hid (HR1.out.grown ga6)
  replace HR2 := Lib.hid (HR2.out.grown ga6)
  replace HR3 := Lib.hid (HR3.out.grown ga6)
  replace HX := Lib.hid (HX.out.grown ga6)
  have HR4 : Hid (IntsW (World.alloc Wx (.cells #[.int .i64 0] 3)) (some ⟨Wx.heap.size, 0, none⟩) 1 [0]) := Lib.hid (ints_new9 Wx [0])
  rw [HZWx.out] at HR4
  refine (set9_calls _ _ _ _).mono ?_
  rintro e w6 ⟨rfl, gc6⟩
  replace HC := Lib.hid (HC.out.grown gc6)
  replace HD := Lib.hid (HD.out.grown gc6)
  replace HR1 := Lib.hid (HR1.out.grown gc6)
  replace HR2 := Lib.hid (HR2.out.grown gc6)
  replace HR3 := Lib.hid (HR3.out.grown gc6)
  replace HX := Lib.hid (HX.out.grown gc6)
  replace HR4 := Lib.hid (HR4.out.grown gc6)
  clear ga6 gc6
  go_wp2_with fail
  have ga7 := World.grownBy_alloc w6 (.cells #[.int .i64 0, .int .i64 1] 3) none
  replace HC := Lib.hid (HC.out.grown ga7)
  replace HD := Lib.hid (HD.out.grown ga7)
  replace HR1 := Lib.hid (HR1.out.grown ga7)
  replace HR2 := Lib.hid (HR2.out.grown ga7)
  replace HR3 := Lib.hid (HR3.out.grown ga7)
  replace HX := Lib.hid (HX.out.grown ga7)
  replace HR4 := Lib.hid (HR4.out.grown ga7)
  have HR5 : Hid (IntsW (World.alloc w6 (.cells #[.int .i64 0, .int .i64 1] 3)) (some ⟨w6.heap.size, 0, none⟩) 2 [0, 1]) := Lib.hid (ints_new9 w6 [0, 1])
  refine (set9_calls _ _ _ _).mono ?_
  rintro e w7 ⟨rfl, gc7⟩
  replace HC := Lib.hid (HC.out.grown gc7)
  replace HD := Lib.hid (HD.out.grown gc7)
  replace HR1 := Lib.hid (HR1.out.grown gc7)
  replace HR2 := Lib.hid (HR2.out.grown gc7)
  replace HR3 := Lib.hid (HR3.out.grown gc7)
  replace HX := Lib.hid (HX.out.grown gc7)
  replace HR4 := Lib.hid (HR4.out.grown gc7)
  replace HR5 := Lib.hid (HR5.out.grown gc7)
  clear ga7 gc7
  go_wp2_with fail
  have ga8a := World.grownBy_alloc w7 (.cells #[.int .i64 5] 3) none
  have HR6 : Hid (IntsW (World.alloc w7 (.cells #[.int .i64 5] 3)) (some ⟨w7.heap.size, 0, none⟩) 1 [5]) := Lib.hid (ints_new9 w7 [5])
  replace HC := Lib.hid (HC.out.grown ga8a)
  replace HD := Lib.hid (HD.out.grown ga8a)
  replace HR1 := Lib.hid (HR1.out.grown ga8a)
  replace HR2 := Lib.hid (HR2.out.grown ga8a)
  replace HR3 := Lib.hid (HR3.out.grown ga8a)
  replace HX := Lib.hid (HX.out.grown ga8a)
  replace HR4 := Lib.hid (HR4.out.grown ga8a)
  replace HR5 := Lib.hid (HR5.out.grown ga8a)
  have HZW7 : Hid ((World.alloc w7 (.cells #[.int .i64 5] 3)).heap.size = w7.heap.size + 1) := Lib.hid (by rw [World.size_alloc])
  obtain ⟨W7, hW7⟩ : ∃ U, World.alloc w7 (.cells #[.int .i64 5] 3) = U := ⟨_, rfl⟩
  rw [hW7] at HZW7 HC HD HR1 HR2 HR3 HX HR4 HR5 HR6 ⊢
  clear hW7 ga8a
  have ga8b := World.grownBy_alloc W7 (.cells #[.int .i64 5] 3) none
  have HR7 : Hid (IntsW (World.alloc W7 (.cells #[.int .i64 5] 3)) (some ⟨W7.heap.size, 0, none⟩) 1 [5]) := Lib.hid (ints_new9 W7 [5])
  rw [HZW7.out] at HR7
  replace HC := Lib.hid (HC.out.grown ga8b)
  replace HD := Lib.hid (HD.out.grown ga8b)
  replace HR1 := Lib.hid (HR1.out.grown ga8b)
  replace HR2 := Lib.hid (HR2.out.grown ga8b)
  replace HR3 := Lib.hid (HR3.out.grown ga8b)
  replace HX := Lib.hid (HX.out.grown ga8b)
  replace HR4 := Lib.hid (HR4.out.grown ga8b)
  replace HR5 := Lib.hid (HR5.out.grown ga8b)
  replace HR6 := Lib.hid (HR6.out.grown ga8b)
  have HZW8 : Hid ((World.alloc W7 (.cells #[.int .i64 5] 3)).heap.size = w7.heap.size + 1 + 1) := Lib.hid (by rw [World.size_alloc, HZW7.out])
  obtain ⟨W8, hW8⟩ : ∃ U, World.alloc W7 (.cells #[.int .i64 5] 3) = U := ⟨_, rfl⟩
  rw [hW8] at HZW8 HC HD HR1 HR2 HR3 HX HR4 HR5 HR6 HR7 ⊢
  clear hW8 ga8b
  have ga8c := World.grownBy_alloc W8 (.cells #[.int .i64 1, .slice (some ⟨w4.heap.size + 1 + 1, 0, none⟩) 1 1, .int .i64 1, .slice (some ⟨w6.heap.size, 0, none⟩) 2 2, .int .i64 2, .slice (some ⟨w7.heap.size, 0, none⟩) 1 1, .int .i64 2, .slice (some ⟨w7.heap.size + 1, 0, none⟩) 1 1] 74) none
  have HY : Hid (Bds (World.alloc W8 (.cells #[.int .i64 1, .slice (some ⟨w4.heap.size + 1 + 1, 0, none⟩) 1 1, .int .i64 1, .slice (some ⟨w6.heap.size, 0, none⟩) 2 2, .int .i64 2, .slice (some ⟨w7.heap.size, 0, none⟩) 1 1, .int .i64 2, .slice (some ⟨w7.heap.size + 1, 0, none⟩) 1 1] 74)) (some ⟨W8.heap.size, 0, none⟩) 2 yy9) := Lib.hid (bds_lit2 W8 ((1, [0]), (1, [0, 1])) ((2, [5]), (2, [5])) _ _ _ _ _ _ _ _ HR4.out HR5.out HR6.out HR7.out)
  rw [HZW8.out] at HY
  replace HC := Lib.hid (HC.out.grown ga8c)
  replace HD := Lib.hid (HD.out.grown ga8c)
  replace HR1 := Lib.hid (HR1.out.grown ga8c)
  replace HR2 := Lib.hid (HR2.out.grown ga8c)
  replace HR3 := Lib.hid (HR3.out.grown ga8c)
  replace HX := Lib.hid (HX.out.grown ga8c)
  replace HR4 := Lib.hid (HR4.out.grown ga8c)
  replace HR5 := Lib.hid (HR5.out.grown ga8c)
  replace HR6 := Lib.hid (HR6.out.grown ga8c)
  replace HR7 := Lib.hid (HR7.out.grown ga8c)
  have HZWy : Hid ((World.alloc W8 (.cells #[.int .i64 1, .slice (some ⟨w4.heap.size + 1 + 1, 0, none⟩) 1 1, .int .i64 1, .slice (some ⟨w6.heap.size, 0, none⟩) 2 2, .int .i64 2, .slice (some ⟨w7.heap.size, 0, none⟩) 1 1, .int .i64 2, .slice (some ⟨w7.heap.size + 1, 0, none⟩) 1 1] 74)).heap.size = w7.heap.size + 1 + 1 + 1) := Lib.hid (by rw [World.size_alloc, HZW8.out])
  obtain ⟨Wy, hWy⟩ : ∃ U, World.alloc W8 (.cells #[.int .i64 1, .slice (some ⟨w4.heap.size + 1 + 1, 0, none⟩) 1 1, .int .i64 1, .slice (some ⟨w6.heap.size, 0, none⟩) 2 2, .int .i64 2, .slice (some ⟨w7.heap.size, 0, none⟩) 1 1, .int .i64 2, .slice (some ⟨w7.heap.size + 1, 0, none⟩) 1 1] 74) = U := ⟨_, rfl⟩
  rw [hWy] at HZWy HC HD HR1 HR2 HR3 HX HR4 HR5 HR6 HR7 HY ⊢
  clear hWy ga8c
  obtain ⟨xb', xo', hxe, hxx⟩ := HX.out.2 1 ((2, []), (2, [2, 5])) rfl
  cases hxe
  obtain ⟨xa1, xk1, xa2, xk2, x0, x1, x2, x3, xi1, xi2⟩ := hxx.parts
  have HXI := Lib.hid (And.intro xi1 xi2)
  clear hxx xi1 xi2
  rw [Nat.zero_add] at x0 x1 x2 x3
  simp only [List.length_cons, List.length_nil, Nat.zero_add, Nat.reduceAdd] at x0 x1 x2 x3
  clear HR1 HR2 HR3 HR4 HR5 HR6 HR7
  have HS := Lib.hid (fun (Wh : World) (hWh : Wy.grownBy Wh none) => (⟨hWh, hWh.cell x0 (by simp), hWh.cell x1 (by simp), hWh.cell x2 (by simp), hWh.cell x3 (by simp)⟩ : (fun Wh : World => Wy.grownBy Wh none ∧ Wh.cell? ⟨w4.heap.size + 1, 1 * 4, none⟩ = some (.int .i64 2) ∧ Wh.cell? ⟨w4.heap.size + 1, 1 * 4 + 1, none⟩ = some (.slice xa1 0 xk1) ∧ Wh.cell? ⟨w4.heap.size + 1, 1 * 4 + 2, none⟩ = some (.int .i64 2) ∧ Wh.cell? ⟨w4.heap.size + 1, 1 * 4 + 3, none⟩ = some (.slice xa2 2 xk2)) Wh))
  have hdr : Wy.grownBy Wy.drew none := ⟨rfl, rfl, rfl, Nat.le_refl _, fun _ _ _ => rfl⟩
  refine wp_region_held_drew (S := (fun Wh : World => Wy.grownBy Wh none ∧ Wh.cell? ⟨w4.heap.size + 1, 1 * 4, none⟩ = some (.int .i64 2) ∧ Wh.cell? ⟨w4.heap.size + 1, 1 * 4 + 1, none⟩ = some (.slice xa1 0 xk1) ∧ Wh.cell? ⟨w4.heap.size + 1, 1 * 4 + 2, none⟩ = some (.int .i64 2) ∧ Wh.cell? ⟨w4.heap.size + 1, 1 * 4 + 3, none⟩ = some (.slice xa2 2 xk2))) (by kernel_rfl) (HS.out _ hdr) (fun hHeld => ?_)
  refine wpAnyH_take (i := 4) (oi := { dst := some 46, op := Op.move (Operand.tmp 4), type := 57, pos := "law.go:27", after := #[], guard := none }) (v := ?_) rfl (by kernel_rfl) (by kernel_rfl) (by kernel_rfl) (fun _ _ _ h => h) (Or.inl ⟨by rfl, ?_⟩) (by assumption) ?_
  rotate_left 1
  · (intro W hSW; (try dsimp only at hSW); first | (go_simp; done) | (go_simp; with_reducible rfl))
  try simp only [Act.put, List.setIfInBounds_toArray, List.set_cons_zero, List.set_cons_succ]
  refine wpAnyH_take (i := 5) (oi := { dst := some 47, op := Op.indexAddr 57 (Operand.tmp 46) (Operand.const (Value.int IntKind.i64 1)), type := 0, pos := "law.go:27", after := #[{ on := 4, ground := Ground.data }], guard := none }) (v := ?_) rfl (by kernel_rfl) (by kernel_rfl) (by kernel_rfl) (fun _ _ _ h => h) (Or.inl ⟨by rfl, ?_⟩) (by assumption) ?_
  rotate_left 1
  · (intro W hSW; (try dsimp only at hSW); first | (go_simp; done) | (go_simp; with_reducible rfl))
  try simp only [Act.put, List.setIfInBounds_toArray, List.set_cons_zero, List.set_cons_succ]
  refine wpAnyH_take (i := 6) (oi := { dst := some 48, op := Op.load 74 (Operand.tmp 47), type := 74, pos := "law.go:27", after := #[{ on := 5, ground := Ground.data }], guard := none }) (v := ?_) rfl (by kernel_rfl) (by kernel_rfl) (by kernel_rfl) (fun _ _ _ h => h) (Or.inl ⟨by rfl, ?_⟩) (by assumption) ?_
  rotate_left 1
  · (intro W hSW; (try dsimp only at hSW); first | (go_simp; done) | (go_simp; with_reducible rfl))
  try simp only [Act.put, List.setIfInBounds_toArray, List.set_cons_zero, List.set_cons_succ]
  refine wpAnyH_ready (rs := [0, 1]) (by kernel_rfl) (by simp) ?_
  refine (AllReadyH.cons (o := { dst := some 42, op := Op.call { callee := Callee.value (Operand.func 91), args := #[Operand.const (Value.slice none 0 0)], argTypes := #[28] }, type := 53, pos := "law.go:27", after := #[], guard := none }) rfl (fun K hK => ?_) (AllReadyH.cons (o := { dst := some 43, op := Op.buildSlice 28 1 #[(0, Operand.const (Value.int IntKind.i64 0))], type := 28, pos := "law.go:27", after := #[], guard := none }) rfl (fun K hK => ?_) AllReadyH.nil))
  · rw [if_pos (by rfl)]
    go_simp
    go_at_call 91
    refine (set9_calls _ _ _ _).mono ?_
    rintro e wc1 ⟨rfl, gc1⟩
    have hgr1 := World.grownBy.trans hdr gc1
    try (replace hr := hr.grown gc1)
    go_wp2_with fail
    refine hK.out _ _ (HS.out _ hgr1) (fun hHeld => ?_)
    clear hK K
    try simp only [Act.put, List.setIfInBounds_toArray, List.set_cons_zero, List.set_cons_succ]
    refine wpAnyH_ready (rs := [1]) (by kernel_rfl) (by simp) ?_
    refine (AllReadyH.cons (o := { dst := some 43, op := Op.buildSlice 28 1 #[(0, Operand.const (Value.int IntKind.i64 0))], type := 28, pos := "law.go:27", after := #[], guard := none }) rfl (fun K hK => ?_) AllReadyH.nil)
    rw [if_pos (by rfl)]
    go_simp
    have hgZ : Wy.grownBy (World.alloc wc1 (.cells #[.int .i64 0] 3)) none := World.grownBy.trans hgr1 (World.grownBy_alloc wc1 (.cells #[.int .i64 0] 3) none)
    have hr : IntsW (World.alloc wc1 (.cells #[.int .i64 0] 3)) (some ⟨wc1.heap.size, 0, none⟩) 1 [0] := ints_new9 wc1 [0]
    obtain ⟨WA, hWA⟩ : ∃ U, World.alloc wc1 (.cells #[.int .i64 0] 3) = U := ⟨_, rfl⟩
    rw [hWA] at hgZ hr ⊢
    clear hWA
    refine hK.out _ _ (HS.out _ hgZ) (fun hHeld => ?_)
    clear hK K
    try simp only [Act.put, List.setIfInBounds_toArray, List.set_cons_zero, List.set_cons_succ]
    refine wpAnyH_ready (rs := [2]) (by kernel_rfl) (by simp) ?_
    refine (AllReadyH.cons (o := { dst := some 44, op := Op.call { callee := Callee.value (Operand.func 91), args := #[Operand.tmp 43], argTypes := #[28] }, type := 53, pos := "law.go:27", after := #[{ on := 1, ground := Ground.data }, { on := 0, ground := Ground.chain }], guard := none }) rfl (fun K hK => ?_) AllReadyH.nil)
    rw [if_pos (by rfl)]
    go_simp
    go_at_call 91
    refine (set9_calls _ _ _ _).mono ?_
    rintro e wc3 ⟨rfl, gc3⟩
    have hgr3 := World.grownBy.trans hgZ gc3
    replace hr := hr.grown gc3
    go_wp2_with fail
    refine hK.out _ _ (HS.out _ hgr3) (fun hHeld => ?_)
    clear hK K
    try simp only [Act.put, List.setIfInBounds_toArray, List.set_cons_zero, List.set_cons_succ]
    refine wpAnyH_take (i := 3) (oi := { dst := some 45, op := Op.build 74 #[(0, Operand.tmp 42), (1, Operand.tmp 44)], type := 74, pos := "law.go:27", after := #[{ on := 0, ground := Ground.data }, { on := 2, ground := Ground.data }], guard := none }) (v := ?_) rfl (by kernel_rfl) (by kernel_rfl) (by kernel_rfl) (fun _ _ _ h => h) (Or.inl ⟨by rfl, ?_⟩) (by assumption) ?_
    rotate_left 1
    · (intro W hSW; (try dsimp only at hSW); first | (go_simp; done) | (go_simp; with_reducible rfl))
    try simp only [Act.put, List.setIfInBounds_toArray, List.set_cons_zero, List.set_cons_succ]
    refine wpAnyH_ready (rs := [7]) (by kernel_rfl) (by simp) ?_
    refine (AllReadyH.cons (o := { dst := some 49, op := Op.buildSlice 57 2 #[(0, Operand.tmp 45), (1, Operand.tmp 48)], type := 57, pos := "law.go:27", after := #[{ on := 3, ground := Ground.data }, { on := 6, ground := Ground.data }], guard := none }) rfl (fun K hK => ?_) AllReadyH.nil)
    rw [if_pos (by rfl)]
    go_simp
    have hgY := World.grownBy.trans hgr3 (World.grownBy_alloc wc3 (.cells #[.int .i64 1, .slice none 0 0, .int .i64 1, .slice (some ⟨wc1.heap.size, 0, none⟩) 1 1, .int .i64 2, .slice xa1 0 xk1, .int .i64 2, .slice xa2 2 xk2] 74) none)
    have hz : Bds (World.alloc wc3 (.cells #[.int .i64 1, .slice none 0 0, .int .i64 1, .slice (some ⟨wc1.heap.size, 0, none⟩) 1 1, .int .i64 2, .slice xa1 0 xk1, .int .i64 2, .slice xa2 2 xk2] 74)) (some ⟨wc3.heap.size, 0, none⟩) 2 zz9 := bds_lit2 wc3 ((1, []), (1, [0])) ((2, []), (2, [2, 5])) none (some ⟨wc1.heap.size, 0, none⟩) xa1 xa2 0 1 xk1 xk2 (intsW_nil _ _ _) hr (HXI.out.1.grown hgr3) (HXI.out.2.grown hgr3)
    obtain ⟨WZ, hWZ⟩ : ∃ U, World.alloc wc3 (.cells #[.int .i64 1, .slice none 0 0, .int .i64 1, .slice (some ⟨wc1.heap.size, 0, none⟩) 1 1, .int .i64 2, .slice xa1 0 xk1, .int .i64 2, .slice xa2 2 xk2] 74) = U := ⟨_, rfl⟩
    rw [hWZ] at hgY hz ⊢
    clear hWZ
    refine hK.out _ _ (HS.out _ hgY) (fun hHeld => ?_)
    clear hK K
    try simp only [Act.put, List.setIfInBounds_toArray, List.set_cons_zero, List.set_cons_succ]
    refine wpAnyH_take (i := 8) (oi := { dst := some 6, op := Op.assign (Operand.tmp 49), type := 57, pos := "law.go:27", after := #[{ on := 7, ground := Ground.data }, { on := 2, ground := Ground.chain }, { on := 0, ground := Ground.phase }, { on := 1, ground := Ground.phase }, { on := 2, ground := Ground.phase }, { on := 3, ground := Ground.phase }, { on := 4, ground := Ground.phase }, { on := 5, ground := Ground.phase }, { on := 6, ground := Ground.phase }, { on := 7, ground := Ground.phase }], guard := none }) (v := ?_) rfl (by kernel_rfl) (by kernel_rfl) (by kernel_rfl) (fun _ _ _ h => h) (Or.inl ⟨by rfl, ?_⟩) (by assumption) ?_
    rotate_left 1
    · (intro W hSW; (try dsimp only at hSW); first | (go_simp; done) | (go_simp; with_reducible rfl))
    try simp only [Act.put, List.setIfInBounds_toArray, List.set_cons_zero, List.set_cons_succ]
    refine wpAnyH_done (by kernel_rfl) ?_ _
    have hEND := hgY
    clear hHeld
    have HZZ := Lib.hid hz
    obtain ⟨zb, hzb⟩ : ∃ z, wc3.heap.size = z := ⟨_, rfl⟩
    rw [hzb] at HZZ ⊢
    clear hzb hz hr HXI HS x0 x1 x2 x3
    replace HC := Lib.hid (HC.out.grown hEND)
    replace HD := Lib.hid (HD.out.grown hEND)
    replace HX := Lib.hid (HX.out.grown hEND)
    replace HY := Lib.hid (HY.out.grown hEND)
    try (clear hgZ)
    try (clear hgY)
    clear hEND
    go_wp2_with fail
    refine (meet9 HX.out HY.out rfl rfl (by decide) (by decide) (by decide) mm9_eq.1 rfl).mono ?_
    rintro e u1 ⟨ma, mc, rfl, hm, gm1⟩
    have HM := Lib.hid hm
    clear hm
    replace HC := Lib.hid (HC.out.grown gm1)
    replace HD := Lib.hid (HD.out.grown gm1)
    replace HX := Lib.hid (HX.out.grown gm1)
    replace HY := Lib.hid (HY.out.grown gm1)
    replace HZZ := Lib.hid (HZZ.out.grown gm1)
    clear gm1
    go_wp2_with fail
    refine (meet9 HX.out HZZ.out rfl rfl (by decide) (by decide) (by decide) mm9_eq.2.1 rfl).mono ?_
    rintro e u2 ⟨za2, zc2, rfl, hm, gm1⟩
    clear hm
    replace HC := Lib.hid (HC.out.grown gm1)
    replace HD := Lib.hid (HD.out.grown gm1)
    replace HX := Lib.hid (HX.out.grown gm1)
    replace HY := Lib.hid (HY.out.grown gm1)
    replace HZZ := Lib.hid (HZZ.out.grown gm1)
    replace HM := Lib.hid (HM.out.grown gm1)
    clear gm1
    go_wp2_with fail
    refine (meet9 HX.out (HX.out.take 1) rfl rfl (by decide) (by decide) (by decide) mm9_eq.2.2 rfl).mono ?_
    rintro e u3 ⟨za3, zc3, rfl, hm, gm1⟩
    clear hm
    replace HC := Lib.hid (HC.out.grown gm1)
    replace HD := Lib.hid (HD.out.grown gm1)
    replace HX := Lib.hid (HX.out.grown gm1)
    replace HY := Lib.hid (HY.out.grown gm1)
    replace HZZ := Lib.hid (HZZ.out.grown gm1)
    replace HM := Lib.hid (HM.out.grown gm1)
    clear gm1
    go_wp2_with fail
    have ga := World.grownBy_alloc u3 (.cells #[.int .i64 1] 3) none
    have hq1 : IntsW (World.alloc u3 (.cells #[.int .i64 1] 3)) (some ⟨u3.heap.size, 0, none⟩) 1 [1] := ints_new9 u3 [1]
    refine (set9_calls _ _ _ _).mono ?_
    rintro e u4 ⟨rfl, gm1⟩
    replace HC := Lib.hid (HC.out.grown (ga.trans gm1))
    replace HD := Lib.hid (HD.out.grown (ga.trans gm1))
    replace HX := Lib.hid (HX.out.grown (ga.trans gm1))
    replace HY := Lib.hid (HY.out.grown (ga.trans gm1))
    replace HZZ := Lib.hid (HZZ.out.grown (ga.trans gm1))
    replace HM := Lib.hid (HM.out.grown (ga.trans gm1))
    have HQ1 := Lib.hid (hq1.grown gm1)
    obtain ⟨s1, hs1⟩ : ∃ s, u3.heap.size = s := ⟨_, rfl⟩
    rw [hs1] at HQ1 ⊢
    clear hs1 ga hq1 gm1
    go_wp2_with fail
    have ga1 := World.grownBy_alloc u4 (.cells #[.int .i64 5] 3) none
    have ga2 := World.grownBy_alloc (World.alloc u4 (.cells #[.int .i64 5] 3)) (.cells #[.int .i64 1, .slice (some ⟨s1, 0, none⟩) 1 1, .int .i64 2, .slice (some ⟨u4.heap.size, 0, none⟩) 1 1] 53) none
    have ga3 := World.grownBy_alloc (World.alloc (World.alloc u4 (.cells #[.int .i64 5] 3)) (.cells #[.int .i64 1, .slice (some ⟨s1, 0, none⟩) 1 1, .int .i64 2, .slice (some ⟨u4.heap.size, 0, none⟩) 1 1] 53)) (.cells #[.slice (some ⟨u4.heap.size + 1, 0, none⟩) 2 2] 40) none
    have ga4 := World.grownBy_alloc (World.alloc (World.alloc (World.alloc u4 (.cells #[.int .i64 5] 3)) (.cells #[.int .i64 1, .slice (some ⟨s1, 0, none⟩) 1 1, .int .i64 2, .slice (some ⟨u4.heap.size, 0, none⟩) 1 1] 53)) (.cells #[.slice (some ⟨u4.heap.size + 1, 0, none⟩) 2 2] 40)) (.cells #[.slice none 0 0, .int .i64 0, .slice (some ⟨u4.heap.size + 1 + 1, 0, none⟩) 1 1, .int .i64 0] 33) none
    have hfive : IntsW (World.alloc u4 (.cells #[.int .i64 5] 3)) (some ⟨u4.heap.size, 0, none⟩) 1 [5] := ints_new9 u4 [5]
    have hrels : Rels (World.alloc (World.alloc u4 (.cells #[.int .i64 5] 3)) (.cells #[.int .i64 1, .slice (some ⟨s1, 0, none⟩) 1 1, .int .i64 2, .slice (some ⟨u4.heap.size, 0, none⟩) 1 1] 53)) (some ⟨u4.heap.size + 1, 0, none⟩) 2 [(1, [1]), (2, [5])] := by
      have h := rels_new2 (w := (World.alloc u4 (.cells #[.int .i64 5] 3))) (x := (1, [1])) (y := (2, [5])) (HQ1.out.grown ga1) hfive
      rw [World.size_alloc] at h
      exact h
    have hsts : Sts (World.alloc (World.alloc (World.alloc u4 (.cells #[.int .i64 5] 3)) (.cells #[.int .i64 1, .slice (some ⟨s1, 0, none⟩) 1 1, .int .i64 2, .slice (some ⟨u4.heap.size, 0, none⟩) 1 1] 53)) (.cells #[.slice (some ⟨u4.heap.size + 1, 0, none⟩) 2 2] 40)) (some ⟨u4.heap.size + 1 + 1, 0, none⟩) 1 [[(1, [1]), (2, [5])]] := by
      refine ⟨Nat.le_refl _, fun j l hj => ?_⟩
      match j, hj with
      | 0, hj => simp at hj; subst hj; exact ⟨_, 0, rfl, some ⟨u4.heap.size + 1, 0, none⟩, 2, by go_simp, hrels.grown ga3⟩
    have e0 : (World.alloc (World.alloc (World.alloc (World.alloc u4 (.cells #[.int .i64 5] 3)) (.cells #[.int .i64 1, .slice (some ⟨s1, 0, none⟩) 1 1, .int .i64 2, .slice (some ⟨u4.heap.size, 0, none⟩) 1 1] 53)) (.cells #[.slice (some ⟨u4.heap.size + 1, 0, none⟩) 2 2] 40)) (.cells #[.slice none 0 0, .int .i64 0, .slice (some ⟨u4.heap.size + 1 + 1, 0, none⟩) 1 1, .int .i64 0] 33)).cell? ⟨u4.heap.size + 1 + 1 + 1, 0, none⟩ = some (.slice none 0 0) := by go_simp
    have e1 : (World.alloc (World.alloc (World.alloc (World.alloc u4 (.cells #[.int .i64 5] 3)) (.cells #[.int .i64 1, .slice (some ⟨s1, 0, none⟩) 1 1, .int .i64 2, .slice (some ⟨u4.heap.size, 0, none⟩) 1 1] 53)) (.cells #[.slice (some ⟨u4.heap.size + 1, 0, none⟩) 2 2] 40)) (.cells #[.slice none 0 0, .int .i64 0, .slice (some ⟨u4.heap.size + 1 + 1, 0, none⟩) 1 1, .int .i64 0] 33)).cell? ⟨u4.heap.size + 1 + 1 + 1, 1, none⟩ = some (.int .i64 0) := by go_simp
    have e2 : (World.alloc (World.alloc (World.alloc (World.alloc u4 (.cells #[.int .i64 5] 3)) (.cells #[.int .i64 1, .slice (some ⟨s1, 0, none⟩) 1 1, .int .i64 2, .slice (some ⟨u4.heap.size, 0, none⟩) 1 1] 53)) (.cells #[.slice (some ⟨u4.heap.size + 1, 0, none⟩) 2 2] 40)) (.cells #[.slice none 0 0, .int .i64 0, .slice (some ⟨u4.heap.size + 1 + 1, 0, none⟩) 1 1, .int .i64 0] 33)).cell? ⟨u4.heap.size + 1 + 1 + 1, 2, none⟩ = some (.slice (some ⟨u4.heap.size + 1 + 1, 0, none⟩) 1 1) := by go_simp
    have e3 : (World.alloc (World.alloc (World.alloc (World.alloc u4 (.cells #[.int .i64 5] 3)) (.cells #[.int .i64 1, .slice (some ⟨s1, 0, none⟩) 1 1, .int .i64 2, .slice (some ⟨u4.heap.size, 0, none⟩) 1 1] 53)) (.cells #[.slice (some ⟨u4.heap.size + 1, 0, none⟩) 2 2] 40)) (.cells #[.slice none 0 0, .int .i64 0, .slice (some ⟨u4.heap.size + 1 + 1, 0, none⟩) 1 1, .int .i64 0] 33)).cell? ⟨u4.heap.size + 1 + 1 + 1, 3, none⟩ = some (.int .i64 0) := by go_simp
    have hst2 := hsts.grown ga4
    have gV := ((ga1.trans ga2).trans ga3).trans ga4
    obtain ⟨V, hV⟩ : ∃ V, (World.alloc (World.alloc (World.alloc (World.alloc u4 (.cells #[.int .i64 5] 3)) (.cells #[.int .i64 1, .slice (some ⟨s1, 0, none⟩) 1 1, .int .i64 2, .slice (some ⟨u4.heap.size, 0, none⟩) 1 1] 53)) (.cells #[.slice (some ⟨u4.heap.size + 1, 0, none⟩) 2 2] 40)) (.cells #[.slice none 0 0, .int .i64 0, .slice (some ⟨u4.heap.size + 1 + 1, 0, none⟩) 1 1, .int .i64 0] 33)) = V := ⟨_, rfl⟩
    rw [hV] at e0 e1 e2 e3 hst2 gV ⊢
    clear hV ga1 ga2 ga3 ga4 hfive hrels hsts
    replace HC := Lib.hid (HC.out.grown gV)
    replace HD := Lib.hid (HD.out.grown gV)
    replace HX := Lib.hid (HX.out.grown gV)
    replace HY := Lib.hid (HY.out.grown gV)
    replace HZZ := Lib.hid (HZZ.out.grown gV)
    replace HM := Lib.hid (HM.out.grown gV)
    clear gV
    have HT := Lib.hid hst2
    clear hst2
    obtain ⟨g3, hg3⟩ : ∃ g, u4.heap.size + 1 + 1 = g := ⟨_, rfl⟩
    rw [hg3] at e0 e1 e2 e3 HT ⊢
    clear hg3
    obtain ⟨mb, mo, rfl, hm0⟩ := HM.out.2 0 ((1, [0, 1]), (1, [0, 1])) rfl
    obtain ⟨mb', mo', hme, hm1⟩ := HM.out.2 1 ((2, [5]), (2, [5])) rfl
    cases hme
    obtain ⟨ma1, mc1, pa2, pc2, m0, m1, m2, m3, mi1, mi2⟩ := hm0.parts
    obtain ⟨qa1, qc1, ma2, mc2, n0, n1, n2, n3, ni1, ni2⟩ := hm1.parts
    rw [Nat.zero_mul, Nat.add_zero] at m0 m1
    rw [Nat.one_mul] at n2 n3
    simp only [List.length_cons, List.length_nil, Nat.zero_add, Nat.reduceAdd] at m1 n3
    have HMI := Lib.hid (And.intro mi1 ni2)
    clear hm0 hm1 m2 m3 n0 n1 mi1 mi2 ni1 ni2
    have C3 := Lib.hid (fun (U : World) (g : V.grownBy U none) => valid9 (s1 := some ⟨b1, 0, none⟩) (HC.out.F.grown g) (HC.out.I.grown g) (HD.out.grown g) rfl (by decide) v9_eq.1)
    have C8 := Lib.hid (fun (U : World) (g : V.grownBy U none) => valid9 (s1 := some ⟨b1, 0, none⟩) (HC.out.F.grown g) (HC.out.I.grown g) (HX.out.grown g) rfl (by decide) v9_eq.2.1)
    have C15 := Lib.hid (fun (U : World) (g : V.grownBy U none) => valid9 (s1 := some ⟨b1, 0, none⟩) (n := 1) (HC.out.F.grown g) (HC.out.I.grown g) ((HX.out.take 1).grown g) rfl (by decide) v9_eq.2.2)
    have C29 := Lib.hid (fun (z : Option Addr) (u : Nat) (U : World) (g : V.grownBy U none) (hb : Bds U z u dd9) => equal9 (HD.out.grown g) hb)
    have C42 := Lib.hid (fun (z : Option Addr) (u : Nat) (U : World) (g : V.grownBy U none) (hb : IntsW U z u [0, 1]) => req9a (HMI.out.1.grown g) hb)
    have C51 := Lib.hid (fun (z : Option Addr) (u : Nat) (U : World) (g : V.grownBy U none) (hb : IntsW U z u [5]) => req9b (HMI.out.2.grown g) hb)
    have C64 := Lib.hid (fun (U : World) (g : V.grownBy U none) => contains9 (HX.out.grown g) (HT.out.grown g) (by decide) (by decide) c9_eq.1)
    have C69 := Lib.hid (fun (U : World) (g : V.grownBy U none) => contains9 (HY.out.grown g) (HT.out.grown g) (by decide) (by decide) c9_eq.2)
    have C74 := Lib.hid (fun (U : World) (g : V.grownBy U none) => free9 (HX.out.grown g))
    have C79 := Lib.hid (fun (a a' : Option Addr) (c c' : Nat) (U : World) (h : Prs U a c [(0, 0), (1, 2), (1, 5)]) (h' : Prs U a' c' [(0, 0), (1, 2), (1, 5)]) => sameFree9 h h')
    have hcx := HC.out
    have hS : HeadT V g1 (g1 + 1) (g3 + 1) (w4.heap.size + 1) mb mo (some ⟨b1, 0, none⟩) (some ⟨b2, 0, none⟩) (some ⟨b3, 0, none⟩) (some ⟨g3, 0, none⟩) ad (some ⟨w7.heap.size + 1 + 1, 0, none⟩) ma1 ma2 cd 2 1 mc mc1 mc2 V.drew :=
      ⟨⟨rfl, rfl, rfl, Nat.le_refl _, fun _ _ _ => rfl⟩, hcx.c0, hcx.c1, hcx.c2, hcx.c3, hcx.d0, hcx.d1, e0, e1, e2, e3, m0, m1, n2, n3⟩
    clear hcx e0 e1 e2 e3 m0 m1 n2 n3
    simp only [List.append_eq, List.cons_append, List.nil_append]
    refine wp_region_held_drew (by kernel_rfl) hS (fun hHeld => ?_)
    refine head9All (fun _ _ d _ _ h => by cases d <;> exact h) C3.out C8.out C15.out C29.out C42.out C51.out C64.out C69.out C74.out C79.out ?_ _ _ _ _ _ _ _ _ _ _ _ _ _ _ _ _ _ _ _ _ _ _ _ _ _ _ _ _ _ _ _ _ _ _ _ _ _ _ _ _ _ _ _ _ _ _ _ _ _ _ _ _ _ _ _ _ _ _ _ _ _ _ _ _ _ _ _ _ _ _ _ _ _ _ _ _ _ _ _ _ _ _ _ _ _ _ _ _ _ _ _ _ _ _ _ _ _ _ _ _ _ _ _ _ _ _ _ _ _ _ _ _ _ _ _ _ _ _ _ _ _ _ _ _ _ _ _ _ _ _ _ _ _ _ _ _ _ _ _ _ _ _ _ _ _ _ _ _ _ _ _ _ _ _ _ _ hHeld
    clear hHeld hS
    intro t6 t9 t11 t14 t15 t16 t17 t18 t19 t20 t21 t22 t23 t24 t25 t26 t27 t28 t29 t30 t31 t32 t33 t34 t35 t36 t37 t38 t39 t40 t41 t42 t43 t44 t45 t46 t47 t48 t49 t50 t51 t52 t53 t54 t55 t56 t57 t58 t59 t60 t61 t62 t63 t64 t65 t66 t67 t68 t69 t70 t71 t72 t73 t74 t75 t76 t77 t78 t79 t80 t81 t82 t83 t84 t85 t86 t87 t88 t89 t90 t91 t92 t93 t94 t95 t96 t97 t98 t99 t100 t101 t102 t103 t104 t105 t106 t107 t108 t109 t110 t111 t112 t113 t114 t115 t116 t117 t118 t119 t120 t121 t122 t123 t124 t125 t126 t127 t128 t129 t130 t131 t132 t133 t134 t135 t136 t137 t138 t139 t140 t141 t142 t143 t144 t145 t146 t147 t148 t149 t150 t151 t152 t153 t154 t155 t156 t157 t158 t159 t160 t161 t162 t163 t164 w9 hv
    have HEND := Lib.hid (HC.out.gr.trans hv.1)
    clear hv
    go_wp2_with fail
    go_ret
    exact ⟨rfl, HEND.out⟩
  · rw [if_pos (by rfl)]
    go_simp
    have hgZ : Wy.grownBy ((World.alloc Wy (.cells #[.int .i64 0] 3)).drew) none := World.grownBy.trans (World.grownBy_alloc Wy (.cells #[.int .i64 0] 3) none) (⟨rfl, rfl, rfl, Nat.le_refl _, fun _ _ _ => rfl⟩ : (World.alloc Wy (.cells #[.int .i64 0] 3)).grownBy (World.alloc Wy (.cells #[.int .i64 0] 3)).drew none)
    have hr : IntsW ((World.alloc Wy (.cells #[.int .i64 0] 3)).drew) (some ⟨Wy.heap.size, 0, none⟩) 1 [0] := IntsW.grown (ints_new9 Wy [0]) (⟨rfl, rfl, rfl, Nat.le_refl _, fun _ _ _ => rfl⟩ : (World.alloc Wy (.cells (intCells [0]).toArray 3)).grownBy (World.alloc Wy (.cells (intCells [0]).toArray 3)).drew none)
    obtain ⟨WA, hWA⟩ : ∃ U, (World.alloc Wy (.cells #[.int .i64 0] 3)).drew = U := ⟨_, rfl⟩
    rw [hWA] at hgZ hr ⊢
    clear hWA
    refine hK.out _ _ (HS.out _ hgZ) (fun hHeld => ?_)
    clear hK K
    try simp only [Act.put, List.setIfInBounds_toArray, List.set_cons_zero, List.set_cons_succ]
    refine wpAnyH_ready (rs := [0]) (by kernel_rfl) (by simp) ?_
    refine (AllReadyH.cons (o := { dst := some 42, op := Op.call { callee := Callee.value (Operand.func 91), args := #[Operand.const (Value.slice none 0 0)], argTypes := #[28] }, type := 53, pos := "law.go:27", after := #[], guard := none }) rfl (fun K hK => ?_) AllReadyH.nil)
    rw [if_pos (by rfl)]
    go_simp
    go_at_call 91
    refine (set9_calls _ _ _ _).mono ?_
    rintro e wc2 ⟨rfl, gc2⟩
    have hgr2 := World.grownBy.trans hgZ gc2
    try (replace hr := hr.grown gc2)
    go_wp2_with fail
    refine hK.out _ _ (HS.out _ hgr2) (fun hHeld => ?_)
    clear hK K
    try simp only [Act.put, List.setIfInBounds_toArray, List.set_cons_zero, List.set_cons_succ]
    refine wpAnyH_ready (rs := [2]) (by kernel_rfl) (by simp) ?_
    refine (AllReadyH.cons (o := { dst := some 44, op := Op.call { callee := Callee.value (Operand.func 91), args := #[Operand.tmp 43], argTypes := #[28] }, type := 53, pos := "law.go:27", after := #[{ on := 1, ground := Ground.data }, { on := 0, ground := Ground.chain }], guard := none }) rfl (fun K hK => ?_) AllReadyH.nil)
    rw [if_pos (by rfl)]
    go_simp
    go_at_call 91
    refine (set9_calls _ _ _ _).mono ?_
    rintro e wc3 ⟨rfl, gc3⟩
    have hgr3 := World.grownBy.trans hgr2 gc3
    replace hr := hr.grown gc3
    go_wp2_with fail
    refine hK.out _ _ (HS.out _ hgr3) (fun hHeld => ?_)
    clear hK K
    try simp only [Act.put, List.setIfInBounds_toArray, List.set_cons_zero, List.set_cons_succ]
    refine wpAnyH_take (i := 3) (oi := { dst := some 45, op := Op.build 74 #[(0, Operand.tmp 42), (1, Operand.tmp 44)], type := 74, pos := "law.go:27", after := #[{ on := 0, ground := Ground.data }, { on := 2, ground := Ground.data }], guard := none }) (v := ?_) rfl (by kernel_rfl) (by kernel_rfl) (by kernel_rfl) (fun _ _ _ h => h) (Or.inl ⟨by rfl, ?_⟩) (by assumption) ?_
    rotate_left 1
    · (intro W hSW; (try dsimp only at hSW); first | (go_simp; done) | (go_simp; with_reducible rfl))
    try simp only [Act.put, List.setIfInBounds_toArray, List.set_cons_zero, List.set_cons_succ]
    refine wpAnyH_ready (rs := [7]) (by kernel_rfl) (by simp) ?_
    refine (AllReadyH.cons (o := { dst := some 49, op := Op.buildSlice 57 2 #[(0, Operand.tmp 45), (1, Operand.tmp 48)], type := 57, pos := "law.go:27", after := #[{ on := 3, ground := Ground.data }, { on := 6, ground := Ground.data }], guard := none }) rfl (fun K hK => ?_) AllReadyH.nil)
    rw [if_pos (by rfl)]
    go_simp
    have hgY := World.grownBy.trans hgr3 (World.grownBy_alloc wc3 (.cells #[.int .i64 1, .slice none 0 0, .int .i64 1, .slice (some ⟨Wy.heap.size, 0, none⟩) 1 1, .int .i64 2, .slice xa1 0 xk1, .int .i64 2, .slice xa2 2 xk2] 74) none)
    have hz : Bds (World.alloc wc3 (.cells #[.int .i64 1, .slice none 0 0, .int .i64 1, .slice (some ⟨Wy.heap.size, 0, none⟩) 1 1, .int .i64 2, .slice xa1 0 xk1, .int .i64 2, .slice xa2 2 xk2] 74)) (some ⟨wc3.heap.size, 0, none⟩) 2 zz9 := bds_lit2 wc3 ((1, []), (1, [0])) ((2, []), (2, [2, 5])) none (some ⟨Wy.heap.size, 0, none⟩) xa1 xa2 0 1 xk1 xk2 (intsW_nil _ _ _) hr (HXI.out.1.grown hgr3) (HXI.out.2.grown hgr3)
    obtain ⟨WZ, hWZ⟩ : ∃ U, World.alloc wc3 (.cells #[.int .i64 1, .slice none 0 0, .int .i64 1, .slice (some ⟨Wy.heap.size, 0, none⟩) 1 1, .int .i64 2, .slice xa1 0 xk1, .int .i64 2, .slice xa2 2 xk2] 74) = U := ⟨_, rfl⟩
    rw [hWZ] at hgY hz ⊢
    clear hWZ
    refine hK.out _ _ (HS.out _ hgY) (fun hHeld => ?_)
    clear hK K
    try simp only [Act.put, List.setIfInBounds_toArray, List.set_cons_zero, List.set_cons_succ]
    refine wpAnyH_take (i := 8) (oi := { dst := some 6, op := Op.assign (Operand.tmp 49), type := 57, pos := "law.go:27", after := #[{ on := 7, ground := Ground.data }, { on := 2, ground := Ground.chain }, { on := 0, ground := Ground.phase }, { on := 1, ground := Ground.phase }, { on := 2, ground := Ground.phase }, { on := 3, ground := Ground.phase }, { on := 4, ground := Ground.phase }, { on := 5, ground := Ground.phase }, { on := 6, ground := Ground.phase }, { on := 7, ground := Ground.phase }], guard := none }) (v := ?_) rfl (by kernel_rfl) (by kernel_rfl) (by kernel_rfl) (fun _ _ _ h => h) (Or.inl ⟨by rfl, ?_⟩) (by assumption) ?_
    rotate_left 1
    · (intro W hSW; (try dsimp only at hSW); first | (go_simp; done) | (go_simp; with_reducible rfl))
    try simp only [Act.put, List.setIfInBounds_toArray, List.set_cons_zero, List.set_cons_succ]
    refine wpAnyH_done (by kernel_rfl) ?_ _
    have hEND := hgY
    clear hHeld
    have HZZ := Lib.hid hz
    obtain ⟨zb, hzb⟩ : ∃ z, wc3.heap.size = z := ⟨_, rfl⟩
    rw [hzb] at HZZ ⊢
    clear hzb hz hr HXI HS x0 x1 x2 x3
    replace HC := Lib.hid (HC.out.grown hEND)
    replace HD := Lib.hid (HD.out.grown hEND)
    replace HX := Lib.hid (HX.out.grown hEND)
    replace HY := Lib.hid (HY.out.grown hEND)
    try (clear hgZ)
    try (clear hgY)
    clear hEND
    go_wp2_with fail
    refine (meet9 HX.out HY.out rfl rfl (by decide) (by decide) (by decide) mm9_eq.1 rfl).mono ?_
    rintro e u1 ⟨ma, mc, rfl, hm, gm1⟩
    have HM := Lib.hid hm
    clear hm
    replace HC := Lib.hid (HC.out.grown gm1)
    replace HD := Lib.hid (HD.out.grown gm1)
    replace HX := Lib.hid (HX.out.grown gm1)
    replace HY := Lib.hid (HY.out.grown gm1)
    replace HZZ := Lib.hid (HZZ.out.grown gm1)
    clear gm1
    go_wp2_with fail
    refine (meet9 HX.out HZZ.out rfl rfl (by decide) (by decide) (by decide) mm9_eq.2.1 rfl).mono ?_
    rintro e u2 ⟨za2, zc2, rfl, hm, gm1⟩
    clear hm
    replace HC := Lib.hid (HC.out.grown gm1)
    replace HD := Lib.hid (HD.out.grown gm1)
    replace HX := Lib.hid (HX.out.grown gm1)
    replace HY := Lib.hid (HY.out.grown gm1)
    replace HZZ := Lib.hid (HZZ.out.grown gm1)
    replace HM := Lib.hid (HM.out.grown gm1)
    clear gm1
    go_wp2_with fail
    refine (meet9 HX.out (HX.out.take 1) rfl rfl (by decide) (by decide) (by decide) mm9_eq.2.2 rfl).mono ?_
    rintro e u3 ⟨za3, zc3, rfl, hm, gm1⟩
    clear hm
    replace HC := Lib.hid (HC.out.grown gm1)
    replace HD := Lib.hid (HD.out.grown gm1)
    replace HX := Lib.hid (HX.out.grown gm1)
    replace HY := Lib.hid (HY.out.grown gm1)
    replace HZZ := Lib.hid (HZZ.out.grown gm1)
    replace HM := Lib.hid (HM.out.grown gm1)
    clear gm1
    go_wp2_with fail
    have ga := World.grownBy_alloc u3 (.cells #[.int .i64 1] 3) none
    have hq1 : IntsW (World.alloc u3 (.cells #[.int .i64 1] 3)) (some ⟨u3.heap.size, 0, none⟩) 1 [1] := ints_new9 u3 [1]
    refine (set9_calls _ _ _ _).mono ?_
    rintro e u4 ⟨rfl, gm1⟩
    replace HC := Lib.hid (HC.out.grown (ga.trans gm1))
    replace HD := Lib.hid (HD.out.grown (ga.trans gm1))
    replace HX := Lib.hid (HX.out.grown (ga.trans gm1))
    replace HY := Lib.hid (HY.out.grown (ga.trans gm1))
    replace HZZ := Lib.hid (HZZ.out.grown (ga.trans gm1))
    replace HM := Lib.hid (HM.out.grown (ga.trans gm1))
    have HQ1 := Lib.hid (hq1.grown gm1)
    obtain ⟨s1, hs1⟩ : ∃ s, u3.heap.size = s := ⟨_, rfl⟩
    rw [hs1] at HQ1 ⊢
    clear hs1 ga hq1 gm1
    go_wp2_with fail
    have ga1 := World.grownBy_alloc u4 (.cells #[.int .i64 5] 3) none
    have ga2 := World.grownBy_alloc (World.alloc u4 (.cells #[.int .i64 5] 3)) (.cells #[.int .i64 1, .slice (some ⟨s1, 0, none⟩) 1 1, .int .i64 2, .slice (some ⟨u4.heap.size, 0, none⟩) 1 1] 53) none
    have ga3 := World.grownBy_alloc (World.alloc (World.alloc u4 (.cells #[.int .i64 5] 3)) (.cells #[.int .i64 1, .slice (some ⟨s1, 0, none⟩) 1 1, .int .i64 2, .slice (some ⟨u4.heap.size, 0, none⟩) 1 1] 53)) (.cells #[.slice (some ⟨u4.heap.size + 1, 0, none⟩) 2 2] 40) none
    have ga4 := World.grownBy_alloc (World.alloc (World.alloc (World.alloc u4 (.cells #[.int .i64 5] 3)) (.cells #[.int .i64 1, .slice (some ⟨s1, 0, none⟩) 1 1, .int .i64 2, .slice (some ⟨u4.heap.size, 0, none⟩) 1 1] 53)) (.cells #[.slice (some ⟨u4.heap.size + 1, 0, none⟩) 2 2] 40)) (.cells #[.slice none 0 0, .int .i64 0, .slice (some ⟨u4.heap.size + 1 + 1, 0, none⟩) 1 1, .int .i64 0] 33) none
    have hfive : IntsW (World.alloc u4 (.cells #[.int .i64 5] 3)) (some ⟨u4.heap.size, 0, none⟩) 1 [5] := ints_new9 u4 [5]
    have hrels : Rels (World.alloc (World.alloc u4 (.cells #[.int .i64 5] 3)) (.cells #[.int .i64 1, .slice (some ⟨s1, 0, none⟩) 1 1, .int .i64 2, .slice (some ⟨u4.heap.size, 0, none⟩) 1 1] 53)) (some ⟨u4.heap.size + 1, 0, none⟩) 2 [(1, [1]), (2, [5])] := by
      have h := rels_new2 (w := (World.alloc u4 (.cells #[.int .i64 5] 3))) (x := (1, [1])) (y := (2, [5])) (HQ1.out.grown ga1) hfive
      rw [World.size_alloc] at h
      exact h
    have hsts : Sts (World.alloc (World.alloc (World.alloc u4 (.cells #[.int .i64 5] 3)) (.cells #[.int .i64 1, .slice (some ⟨s1, 0, none⟩) 1 1, .int .i64 2, .slice (some ⟨u4.heap.size, 0, none⟩) 1 1] 53)) (.cells #[.slice (some ⟨u4.heap.size + 1, 0, none⟩) 2 2] 40)) (some ⟨u4.heap.size + 1 + 1, 0, none⟩) 1 [[(1, [1]), (2, [5])]] := by
      refine ⟨Nat.le_refl _, fun j l hj => ?_⟩
      match j, hj with
      | 0, hj => simp at hj; subst hj; exact ⟨_, 0, rfl, some ⟨u4.heap.size + 1, 0, none⟩, 2, by go_simp, hrels.grown ga3⟩
    have e0 : (World.alloc (World.alloc (World.alloc (World.alloc u4 (.cells #[.int .i64 5] 3)) (.cells #[.int .i64 1, .slice (some ⟨s1, 0, none⟩) 1 1, .int .i64 2, .slice (some ⟨u4.heap.size, 0, none⟩) 1 1] 53)) (.cells #[.slice (some ⟨u4.heap.size + 1, 0, none⟩) 2 2] 40)) (.cells #[.slice none 0 0, .int .i64 0, .slice (some ⟨u4.heap.size + 1 + 1, 0, none⟩) 1 1, .int .i64 0] 33)).cell? ⟨u4.heap.size + 1 + 1 + 1, 0, none⟩ = some (.slice none 0 0) := by go_simp
    have e1 : (World.alloc (World.alloc (World.alloc (World.alloc u4 (.cells #[.int .i64 5] 3)) (.cells #[.int .i64 1, .slice (some ⟨s1, 0, none⟩) 1 1, .int .i64 2, .slice (some ⟨u4.heap.size, 0, none⟩) 1 1] 53)) (.cells #[.slice (some ⟨u4.heap.size + 1, 0, none⟩) 2 2] 40)) (.cells #[.slice none 0 0, .int .i64 0, .slice (some ⟨u4.heap.size + 1 + 1, 0, none⟩) 1 1, .int .i64 0] 33)).cell? ⟨u4.heap.size + 1 + 1 + 1, 1, none⟩ = some (.int .i64 0) := by go_simp
    have e2 : (World.alloc (World.alloc (World.alloc (World.alloc u4 (.cells #[.int .i64 5] 3)) (.cells #[.int .i64 1, .slice (some ⟨s1, 0, none⟩) 1 1, .int .i64 2, .slice (some ⟨u4.heap.size, 0, none⟩) 1 1] 53)) (.cells #[.slice (some ⟨u4.heap.size + 1, 0, none⟩) 2 2] 40)) (.cells #[.slice none 0 0, .int .i64 0, .slice (some ⟨u4.heap.size + 1 + 1, 0, none⟩) 1 1, .int .i64 0] 33)).cell? ⟨u4.heap.size + 1 + 1 + 1, 2, none⟩ = some (.slice (some ⟨u4.heap.size + 1 + 1, 0, none⟩) 1 1) := by go_simp
    have e3 : (World.alloc (World.alloc (World.alloc (World.alloc u4 (.cells #[.int .i64 5] 3)) (.cells #[.int .i64 1, .slice (some ⟨s1, 0, none⟩) 1 1, .int .i64 2, .slice (some ⟨u4.heap.size, 0, none⟩) 1 1] 53)) (.cells #[.slice (some ⟨u4.heap.size + 1, 0, none⟩) 2 2] 40)) (.cells #[.slice none 0 0, .int .i64 0, .slice (some ⟨u4.heap.size + 1 + 1, 0, none⟩) 1 1, .int .i64 0] 33)).cell? ⟨u4.heap.size + 1 + 1 + 1, 3, none⟩ = some (.int .i64 0) := by go_simp
    have hst2 := hsts.grown ga4
    have gV := ((ga1.trans ga2).trans ga3).trans ga4
    obtain ⟨V, hV⟩ : ∃ V, (World.alloc (World.alloc (World.alloc (World.alloc u4 (.cells #[.int .i64 5] 3)) (.cells #[.int .i64 1, .slice (some ⟨s1, 0, none⟩) 1 1, .int .i64 2, .slice (some ⟨u4.heap.size, 0, none⟩) 1 1] 53)) (.cells #[.slice (some ⟨u4.heap.size + 1, 0, none⟩) 2 2] 40)) (.cells #[.slice none 0 0, .int .i64 0, .slice (some ⟨u4.heap.size + 1 + 1, 0, none⟩) 1 1, .int .i64 0] 33)) = V := ⟨_, rfl⟩
    rw [hV] at e0 e1 e2 e3 hst2 gV ⊢
    clear hV ga1 ga2 ga3 ga4 hfive hrels hsts
    replace HC := Lib.hid (HC.out.grown gV)
    replace HD := Lib.hid (HD.out.grown gV)
    replace HX := Lib.hid (HX.out.grown gV)
    replace HY := Lib.hid (HY.out.grown gV)
    replace HZZ := Lib.hid (HZZ.out.grown gV)
    replace HM := Lib.hid (HM.out.grown gV)
    clear gV
    have HT := Lib.hid hst2
    clear hst2
    obtain ⟨g3, hg3⟩ : ∃ g, u4.heap.size + 1 + 1 = g := ⟨_, rfl⟩
    rw [hg3] at e0 e1 e2 e3 HT ⊢
    clear hg3
    obtain ⟨mb, mo, rfl, hm0⟩ := HM.out.2 0 ((1, [0, 1]), (1, [0, 1])) rfl
    obtain ⟨mb', mo', hme, hm1⟩ := HM.out.2 1 ((2, [5]), (2, [5])) rfl
    cases hme
    obtain ⟨ma1, mc1, pa2, pc2, m0, m1, m2, m3, mi1, mi2⟩ := hm0.parts
    obtain ⟨qa1, qc1, ma2, mc2, n0, n1, n2, n3, ni1, ni2⟩ := hm1.parts
    rw [Nat.zero_mul, Nat.add_zero] at m0 m1
    rw [Nat.one_mul] at n2 n3
    simp only [List.length_cons, List.length_nil, Nat.zero_add, Nat.reduceAdd] at m1 n3
    have HMI := Lib.hid (And.intro mi1 ni2)
    clear hm0 hm1 m2 m3 n0 n1 mi1 mi2 ni1 ni2
    have C3 := Lib.hid (fun (U : World) (g : V.grownBy U none) => valid9 (s1 := some ⟨b1, 0, none⟩) (HC.out.F.grown g) (HC.out.I.grown g) (HD.out.grown g) rfl (by decide) v9_eq.1)
    have C8 := Lib.hid (fun (U : World) (g : V.grownBy U none) => valid9 (s1 := some ⟨b1, 0, none⟩) (HC.out.F.grown g) (HC.out.I.grown g) (HX.out.grown g) rfl (by decide) v9_eq.2.1)
    have C15 := Lib.hid (fun (U : World) (g : V.grownBy U none) => valid9 (s1 := some ⟨b1, 0, none⟩) (n := 1) (HC.out.F.grown g) (HC.out.I.grown g) ((HX.out.take 1).grown g) rfl (by decide) v9_eq.2.2)
    have C29 := Lib.hid (fun (z : Option Addr) (u : Nat) (U : World) (g : V.grownBy U none) (hb : Bds U z u dd9) => equal9 (HD.out.grown g) hb)
    have C42 := Lib.hid (fun (z : Option Addr) (u : Nat) (U : World) (g : V.grownBy U none) (hb : IntsW U z u [0, 1]) => req9a (HMI.out.1.grown g) hb)
    have C51 := Lib.hid (fun (z : Option Addr) (u : Nat) (U : World) (g : V.grownBy U none) (hb : IntsW U z u [5]) => req9b (HMI.out.2.grown g) hb)
    have C64 := Lib.hid (fun (U : World) (g : V.grownBy U none) => contains9 (HX.out.grown g) (HT.out.grown g) (by decide) (by decide) c9_eq.1)
    have C69 := Lib.hid (fun (U : World) (g : V.grownBy U none) => contains9 (HY.out.grown g) (HT.out.grown g) (by decide) (by decide) c9_eq.2)
    have C74 := Lib.hid (fun (U : World) (g : V.grownBy U none) => free9 (HX.out.grown g))
    have C79 := Lib.hid (fun (a a' : Option Addr) (c c' : Nat) (U : World) (h : Prs U a c [(0, 0), (1, 2), (1, 5)]) (h' : Prs U a' c' [(0, 0), (1, 2), (1, 5)]) => sameFree9 h h')
    have hcx := HC.out
    have hS : HeadT V g1 (g1 + 1) (g3 + 1) (w4.heap.size + 1) mb mo (some ⟨b1, 0, none⟩) (some ⟨b2, 0, none⟩) (some ⟨b3, 0, none⟩) (some ⟨g3, 0, none⟩) ad (some ⟨w7.heap.size + 1 + 1, 0, none⟩) ma1 ma2 cd 2 1 mc mc1 mc2 V.drew :=
      ⟨⟨rfl, rfl, rfl, Nat.le_refl _, fun _ _ _ => rfl⟩, hcx.c0, hcx.c1, hcx.c2, hcx.c3, hcx.d0, hcx.d1, e0, e1, e2, e3, m0, m1, n2, n3⟩
    clear hcx e0 e1 e2 e3 m0 m1 n2 n3
    simp only [List.append_eq, List.cons_append, List.nil_append]
    refine wp_region_held_drew (by kernel_rfl) hS (fun hHeld => ?_)
    refine head9All (fun _ _ d _ _ h => by cases d <;> exact h) C3.out C8.out C15.out C29.out C42.out C51.out C64.out C69.out C74.out C79.out ?_ _ _ _ _ _ _ _ _ _ _ _ _ _ _ _ _ _ _ _ _ _ _ _ _ _ _ _ _ _ _ _ _ _ _ _ _ _ _ _ _ _ _ _ _ _ _ _ _ _ _ _ _ _ _ _ _ _ _ _ _ _ _ _ _ _ _ _ _ _ _ _ _ _ _ _ _ _ _ _ _ _ _ _ _ _ _ _ _ _ _ _ _ _ _ _ _ _ _ _ _ _ _ _ _ _ _ _ _ _ _ _ _ _ _ _ _ _ _ _ _ _ _ _ _ _ _ _ _ _ _ _ _ _ _ _ _ _ _ _ _ _ _ _ _ _ _ _ _ _ _ _ _ _ _ _ _ hHeld
    clear hHeld hS
    intro t6 t9 t11 t14 t15 t16 t17 t18 t19 t20 t21 t22 t23 t24 t25 t26 t27 t28 t29 t30 t31 t32 t33 t34 t35 t36 t37 t38 t39 t40 t41 t42 t43 t44 t45 t46 t47 t48 t49 t50 t51 t52 t53 t54 t55 t56 t57 t58 t59 t60 t61 t62 t63 t64 t65 t66 t67 t68 t69 t70 t71 t72 t73 t74 t75 t76 t77 t78 t79 t80 t81 t82 t83 t84 t85 t86 t87 t88 t89 t90 t91 t92 t93 t94 t95 t96 t97 t98 t99 t100 t101 t102 t103 t104 t105 t106 t107 t108 t109 t110 t111 t112 t113 t114 t115 t116 t117 t118 t119 t120 t121 t122 t123 t124 t125 t126 t127 t128 t129 t130 t131 t132 t133 t134 t135 t136 t137 t138 t139 t140 t141 t142 t143 t144 t145 t146 t147 t148 t149 t150 t151 t152 t153 t154 t155 t156 t157 t158 t159 t160 t161 t162 t163 t164 w9 hv
    have HEND := Lib.hid (HC.out.gr.trans hv.1)
    clear hv
    go_wp2_with fail
    go_ret
    exact ⟨rfl, HEND.out⟩
end Go.Proofs.Ytbddpjofhddilaa
