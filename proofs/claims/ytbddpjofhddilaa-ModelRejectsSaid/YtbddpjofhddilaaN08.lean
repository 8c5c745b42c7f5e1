/- Common texts of the laws of stage 9, joined: TH TI TJ TK. -/
import Derived.Test.YtbddpjofhddilaaN06
import Derived.Test.YtbddpjofhddilaaN07
import Derived.Deep.RegionHeld3
/- Two increasing rows are merged, for the union and for the intersection. -/
namespace Go.Proofs.Ytbddpjofhddilaa
open Go.RowKit

theorem union1_calls (x y : Bool) (w : World) : Calls Try.prog 88 #[.bool x, .bool y] w fun e w' => e = .returned (.bool (x || y)) ∧ w' = w := by
  cases x <;> cases y
  all_goals
    go_enter Try.func88, Try.ntmps88
    go_wp2
    go_ret
    exact ⟨rfl, rfl⟩
theorem inter1_calls (x y : Bool) (w : World) : Calls Try.prog 126 #[.bool x, .bool y] w fun e w' => e = .returned (.bool (x && y)) ∧ w' = w := by
  cases x <;> cases y
  all_goals
    go_enter Try.func126, Try.ntmps126
    go_wp2
    go_ret
    exact ⟨rfl, rfl⟩
set_option maxRecDepth 100000 in
set_option maxHeartbeats 8000000 in
theorem mergeUnion_calls (xs ys : List Int) (xa ya : Option Addr) (xc yc : Nat) (w : World) (h : IntsW w xa xc xs) (h' : IntsW w ya yc ys) (hl : xs.length ≤ 100000) (hl' : ys.length ≤ 100000) :
    Calls Try.prog 87 #[.slice xa xs.length xc, .slice ya ys.length yc, .func (.func 88) #[] #[]] w fun e w' =>
      ∃ a' c', e = .returned (.slice a' (mergeL (fun x y => x || y) xs ys).length c') ∧ Span w.heap.size w'.heap.size w' (fun W => IntsW W a' c' (mergeL (fun x y => x || y) xs ys)) ∧ w.grownBy w' none := by
  obtain ⟨i0, hi0, hz0, hz1, hz2⟩ := info_parts info3
  obtain ⟨R, hR⟩ : ∃ R, mergeL (fun x y => x || y) xs ys = R := ⟨_, rfl⟩
  rw [hR]
  have HR := Lib.hid hR; clear hR
  have HL := Lib.hid (And.intro hl hl'); clear hl hl'
  have HI := Lib.hid (And.intro h h'); clear h h'
  obtain ⟨n, hn⟩ : ∃ n, xs.length = n := ⟨_, rfl⟩
  obtain ⟨m, hm⟩ : ∃ m, ys.length = m := ⟨_, rfl⟩
  rw [hn, hm]
  have HN := Lib.hid (And.intro hn hm); clear hn hm
  go_enter Try.func87, Try.ntmps87
  go_wp2_with fail
  go_loopg [0, 1, 7] (n + m) (fun g s0 s1 s7 wr => ∃ (A B D : List Int) (aa ba : Option Addr) (ac bc : Nat), (s0 = .slice aa A.length ac ∧ s1 = .slice ba B.length bc ∧ g = A.length + B.length) ∧ (IntsW w aa ac A ∧ IntsW w ba bc B ∧ D.length + A.length + B.length ≤ 200000) ∧
    wr.ownsRow w.heap.size 3 1 s7 D.length (intCells D) ∧ R = D ++ mergeL (fun x y => x || y) A B ∧ w.grownBy wr none)
  case atStart => exact ⟨xs, ys, [], xa, ya, xc, yc, ⟨by rw [HN.out.1], by rw [HN.out.2], by rw [HN.out.1, HN.out.2]⟩, ⟨HI.out.1, HI.out.2, by have := HL.out; simp; omega⟩, World.ownsRow_nil _ _ _ _, by rw [← HR.out]; rfl, grown_refl _ _⟩
  case round =>
    obtain ⟨A, B, D, aa, ba, ac, bc, ⟨rfl, rfl, hg⟩, ⟨hA, hB, hlen⟩, hown, hRD, hgr⟩ := hrel
    obtain ⟨da, dc, hs7⟩ := own_shape hown
    subst hs7
    have HGI := Lib.hid (And.intro hg (And.intro hRD hgr)); clear hg hRD hgr
    have HD := Lib.hid hown; clear hown
    obtain ⟨d, hd⟩ : ∃ d, D.length = d := ⟨_, rfl⟩
    rw [hd] at HD hlen ⊢
    have HDL := Lib.hid hd; clear hd
    have hdl : d ≤ 200000 := by omega
    have hsz := HGI.out.2.2.size
    have HLEN := Lib.hid hlen; clear hlen
    cases A with
    | nil =>
      have HA := Lib.hid hA; clear hA
      simp only [List.length_nil]
      cases B with
      | nil =>
        clear hB
        simp only [List.length_nil]
        obtain ⟨a', c', hv, hsp⟩ := ints_span (show wr.ownsRow w.heap.size 3 1 (.slice da d dc) D.length (intCells D) by rw [HDL.out]; exact HD.out)
        replace hsp := hsp.map fun _ h => h.weak
        injection hv with hv1 hv2 hv3
        subst hv1 hv3
        have hRe : R = D := by rw [HGI.out.2.1, mergeL, List.append_nil]
        subst hRe
        have HSP := Lib.hid hsp; clear hsp hv2 hsz
        go_wp2_with fail
        go_ret
        exact ⟨_, _, by rw [HDL.out]; rfl, HSP.out.wide (Nat.le_refl _) (Nat.le_refl _) (Nat.le_refl _), HGI.out.2.2⟩
      | cons y B =>
        obtain ⟨b2, o2, rfl, cy⟩ := (hB.grown HGI.out.2.2).at (i := 0) (z := y) rfl
        rw [Nat.add_zero] at cy
        have hbc : B.length + 1 ≤ bc := hB.1
        obtain ⟨sb2, hsy, htx⟩ := ints_tail (b := b2) (o := o2) hbc
        have HBT := Lib.hid (And.intro hB (htx w y B rfl hB)); clear hB htx
        simp only [List.length_cons]
        obtain ⟨q, hp⟩ : ∃ q, B.length = q := ⟨_, rfl⟩
        rw [hp] at hsy hbc ⊢
        have HQ := Lib.hid hp; clear hp
        have ay0 : ((q : Int) + 1 == 0) = false := by simp; omega
        have ay1 : decide (0 < (q : Int) + 1) = true := decide_eq_true (by omega)
        have ay2 : (0 : Int) < (q : Int) + 1 := by omega
        have HST : Hid (mergeL (fun x y => x || y) [] (y :: B) = y :: mergeL (fun x y => x || y) [] B) := Lib.hid (by rw [mergeL]; rfl)
        go_wp2_with fail
        go_quiet (fail)
        go_wp2_with fail
        go_quiet (fail)
        go_wp2_with fail
        go_quiet (fail)
        go_wp2_with fail
        refine (union1_calls false true _).mono ?_
        rintro e w6 ⟨rfl, hw6⟩
        have g6 : wr.grownBy w6 none := by rw [hw6]; exact grown_drewN _ _ _
        clear hw6
        have HD6 := Lib.hid (own_grown HD.out g6)
        have hsz6 : w.heap.size ≤ w6.heap.size := Nat.le_trans hsz g6.size
        have HG6 := Lib.hid (HGI.out.2.2.trans g6); clear g6 hsz
        go_wp2_with (at_builtin; refine wpList_append_own _ rfl _ _ 28 rfl w.heap.size 3 i0 (.int .i64 0) 1 8 Try.underlying28 hi0 hz0 hz1 hz2 rfl (by decide) _ _ _ rfl (HD6.out.alloc _) ⟨w6.heap.size, 0, none⟩ 1 1 [.int .i64 y] rfl rfl (cell_one_new _ _ _) (fun u hu => by simp at hu; subst hu; rfl) (by unfold maxLen; omega) (by omega) (by simp only [World.size_alloc]; omega) ?_; intro v' w7 hown' hgrow7 _; obtain ⟨ga', gc', rfl⟩ := own_shape hown')
        go_roundg (0 + (q))
        case measure => rw [HGI.out.1]; have hq2 := HQ.out; (first | omega | (simp only [List.length_cons, List.length_nil]; omega))
        case rel =>
          refine ⟨[], B, D ++ [y], aa, sb2, ac, (bc - 1), ⟨rfl, by rw [HQ.out], by have hq2 := HQ.out; (first | omega | (simp only [List.length_nil]; omega))⟩, ⟨HA.out, HBT.out.2, ?_⟩, ?_, ?_, ?_⟩
          · have hq0 := HLEN.out; have hq3 := HDL.out; have hq2 := HQ.out; simp only [List.length_append, List.length_cons, List.length_nil] at hq0 ⊢; omega
          · rw [List.length_append, HDL.out]; simpa [intCells] using hown'
          · rw [HGI.out.2.1, HST.out, List.append_assoc]; rfl
          · exact grown_own (HG6.out.trans (World.grownBy_alloc _ _ none)) hgrow7 (fun k hk => (HD6.out.lt k hk).1)
    | cons x A =>
      obtain ⟨b1, o1, rfl, cx⟩ := (hA.grown HGI.out.2.2).at (i := 0) (z := x) rfl
      rw [Nat.add_zero] at cx
      have hac : A.length + 1 ≤ ac := hA.1
      obtain ⟨sa2, hsx, htx⟩ := ints_tail (b := b1) (o := o1) hac
      have HAT := Lib.hid (And.intro hA (htx w x A rfl hA)); clear hA htx
      simp only [List.length_cons]
      obtain ⟨p, hp⟩ : ∃ p, A.length = p := ⟨_, rfl⟩
      rw [hp] at hsx hac ⊢
      have HP := Lib.hid hp; clear hp
      have ax0 : ((p : Int) + 1 == 0) = false := by simp; omega
      have ax1 : decide (0 < (p : Int) + 1) = true := decide_eq_true (by omega)
      have ax2 : (0 : Int) < (p : Int) + 1 := by omega
      cases B with
      | nil =>
        have HBN := Lib.hid hB; clear hB
        simp only [List.length_nil]
        have HST : Hid (mergeL (fun x y => x || y) (x :: A) [] = x :: mergeL (fun x y => x || y) A []) := Lib.hid (by rw [mergeL]; rfl)
        go_wp2_with fail
        go_quiet (fail)
        go_wp2_with fail
        go_quiet (fail)
        go_wp2_with fail
        go_quiet (fail)
        go_wp2_with fail
        refine (union1_calls true false _).mono ?_
        rintro e w6 ⟨rfl, hw6⟩
        have g6 : wr.grownBy w6 none := by rw [hw6]; exact grown_drewN _ _ _
        clear hw6
        have HD6 := Lib.hid (own_grown HD.out g6)
        have hsz6 : w.heap.size ≤ w6.heap.size := Nat.le_trans hsz g6.size
        have HG6 := Lib.hid (HGI.out.2.2.trans g6); clear g6 hsz
        go_wp2_with (at_builtin; refine wpList_append_own _ rfl _ _ 28 rfl w.heap.size 3 i0 (.int .i64 0) 1 8 Try.underlying28 hi0 hz0 hz1 hz2 rfl (by decide) _ _ _ rfl (HD6.out.alloc _) ⟨w6.heap.size, 0, none⟩ 1 1 [.int .i64 x] rfl rfl (cell_one_new _ _ _) (fun u hu => by simp at hu; subst hu; rfl) (by unfold maxLen; omega) (by omega) (by simp only [World.size_alloc]; omega) ?_; intro v' w7 hown' hgrow7 _; obtain ⟨ga', gc', rfl⟩ := own_shape hown')
        go_roundg (p + (0))
        case measure => rw [HGI.out.1]; have hq1 := HP.out; (first | omega | (simp only [List.length_cons, List.length_nil]; omega))
        case rel =>
          refine ⟨A, [], D ++ [x], sa2, ba, (ac - 1), bc, ⟨by rw [HP.out], rfl, by have hq1 := HP.out; (first | omega | (simp only [List.length_nil]; omega))⟩, ⟨HAT.out.2, HBN.out, ?_⟩, ?_, ?_, ?_⟩
          · have hq0 := HLEN.out; have hq3 := HDL.out; have hq1 := HP.out; simp only [List.length_append, List.length_cons, List.length_nil] at hq0 ⊢; omega
          · rw [List.length_append, HDL.out]; simpa [intCells] using hown'
          · rw [HGI.out.2.1, HST.out, List.append_assoc]; rfl
          · exact grown_own (HG6.out.trans (World.grownBy_alloc _ _ none)) hgrow7 (fun k hk => (HD6.out.lt k hk).1)
      | cons y B =>
        obtain ⟨b2, o2, rfl, cy⟩ := (hB.grown HGI.out.2.2).at (i := 0) (z := y) rfl
        rw [Nat.add_zero] at cy
        have hbc : B.length + 1 ≤ bc := hB.1
        obtain ⟨sb2, hsy, htx⟩ := ints_tail (b := b2) (o := o2) hbc
        have HBT := Lib.hid (And.intro hB (htx w y B rfl hB)); clear hB htx
        simp only [List.length_cons]
        obtain ⟨q, hp⟩ : ∃ q, B.length = q := ⟨_, rfl⟩
        rw [hp] at hsy hbc ⊢
        have HQ := Lib.hid hp; clear hp
        have ay0 : ((q : Int) + 1 == 0) = false := by simp; omega
        have ay1 : decide (0 < (q : Int) + 1) = true := decide_eq_true (by omega)
        have ay2 : (0 : Int) < (q : Int) + 1 := by omega
        by_cases hcase : x < y
        · have q1 : decide (x ≤ y) = true := decide_eq_true (by omega)
          have q2 : decide (y ≤ x) = false := decide_eq_false (by omega)
          have HST : Hid (mergeL (fun x y => x || y) (x :: A) (y :: B) = x :: mergeL (fun x y => x || y) A (y :: B)) := Lib.hid (by rw [mergeL, if_pos (by omega)]; rfl)
          clear hcase
          go_wp2_with fail
          go_quiet (fail)
          go_wp2_with fail
          go_quiet (fail)
          go_wp2_with fail
          go_quiet (fail)
          go_wp2_with fail
          refine (union1_calls true false _).mono ?_
          rintro e w6 ⟨rfl, hw6⟩
          have g6 : wr.grownBy w6 none := by rw [hw6]; exact grown_drewN _ _ _
          clear hw6
          have HD6 := Lib.hid (own_grown HD.out g6)
          have hsz6 : w.heap.size ≤ w6.heap.size := Nat.le_trans hsz g6.size
          have HG6 := Lib.hid (HGI.out.2.2.trans g6); clear g6 hsz
          go_wp2_with (at_builtin; refine wpList_append_own _ rfl _ _ 28 rfl w.heap.size 3 i0 (.int .i64 0) 1 8 Try.underlying28 hi0 hz0 hz1 hz2 rfl (by decide) _ _ _ rfl (HD6.out.alloc _) ⟨w6.heap.size, 0, none⟩ 1 1 [.int .i64 x] rfl rfl (cell_one_new _ _ _) (fun u hu => by simp at hu; subst hu; rfl) (by unfold maxLen; omega) (by omega) (by simp only [World.size_alloc]; omega) ?_; intro v' w7 hown' hgrow7 _; obtain ⟨ga', gc', rfl⟩ := own_shape hown')
          go_roundg (p + (q + 1))
          case measure => rw [HGI.out.1]; have hq1 := HP.out; have hq2 := HQ.out; (first | omega | (simp only [List.length_cons]; omega))
          case rel =>
            refine ⟨A, (y :: B), D ++ [x], sa2, (some ⟨b2, o2, none⟩), (ac - 1), bc, ⟨by rw [HP.out], by rw [List.length_cons, HQ.out], by have hq1 := HP.out; have hq2 := HQ.out; (first | omega | (simp only [List.length_cons]; omega))⟩, ⟨HAT.out.2, HBT.out.1, ?_⟩, ?_, ?_, ?_⟩
            · have hq0 := HLEN.out; have hq3 := HDL.out; have hq1 := HP.out; have hq2 := HQ.out; simp only [List.length_append, List.length_cons, List.length_nil] at hq0 ⊢; omega
            · rw [List.length_append, HDL.out]; simpa [intCells] using hown'
            · rw [HGI.out.2.1, HST.out, List.append_assoc]; rfl
            · exact grown_own (HG6.out.trans (World.grownBy_alloc _ _ none)) hgrow7 (fun k hk => (HD6.out.lt k hk).1)
        have hlt := hcase; clear hcase
        by_cases hcase : y < x
        · have q1 : decide (x ≤ y) = false := decide_eq_false (by omega)
          have q2 : decide (y ≤ x) = true := decide_eq_true (by omega)
          have HST : Hid (mergeL (fun x y => x || y) (x :: A) (y :: B) = y :: mergeL (fun x y => x || y) (x :: A) B) := Lib.hid (by rw [mergeL, if_neg (by omega), if_pos (by omega)]; rfl)
          clear hcase
          go_wp2_with fail
          go_quiet (fail)
          go_wp2_with fail
          go_quiet (fail)
          go_wp2_with fail
          go_quiet (fail)
          go_wp2_with fail
          refine (union1_calls false true _).mono ?_
          rintro e w6 ⟨rfl, hw6⟩
          have g6 : wr.grownBy w6 none := by rw [hw6]; exact grown_drewN _ _ _
          clear hw6
          have HD6 := Lib.hid (own_grown HD.out g6)
          have hsz6 : w.heap.size ≤ w6.heap.size := Nat.le_trans hsz g6.size
          have HG6 := Lib.hid (HGI.out.2.2.trans g6); clear g6 hsz
          go_wp2_with (at_builtin; refine wpList_append_own _ rfl _ _ 28 rfl w.heap.size 3 i0 (.int .i64 0) 1 8 Try.underlying28 hi0 hz0 hz1 hz2 rfl (by decide) _ _ _ rfl (HD6.out.alloc _) ⟨w6.heap.size, 0, none⟩ 1 1 [.int .i64 y] rfl rfl (cell_one_new _ _ _) (fun u hu => by simp at hu; subst hu; rfl) (by unfold maxLen; omega) (by omega) (by simp only [World.size_alloc]; omega) ?_; intro v' w7 hown' hgrow7 _; obtain ⟨ga', gc', rfl⟩ := own_shape hown')
          go_roundg (p + 1 + (q))
          case measure => rw [HGI.out.1]; have hq1 := HP.out; have hq2 := HQ.out; (first | omega | (simp only [List.length_cons]; omega))
          case rel =>
            refine ⟨(x :: A), B, D ++ [y], (some ⟨b1, o1, none⟩), sb2, ac, (bc - 1), ⟨by rw [List.length_cons, HP.out], by rw [HQ.out], by have hq1 := HP.out; have hq2 := HQ.out; (first | omega | (simp only [List.length_cons]; omega))⟩, ⟨HAT.out.1, HBT.out.2, ?_⟩, ?_, ?_, ?_⟩
            · have hq0 := HLEN.out; have hq3 := HDL.out; have hq1 := HP.out; have hq2 := HQ.out; simp only [List.length_append, List.length_cons, List.length_nil] at hq0 ⊢; omega
            · rw [List.length_append, HDL.out]; simpa [intCells] using hown'
            · rw [HGI.out.2.1, HST.out, List.append_assoc]; rfl
            · exact grown_own (HG6.out.trans (World.grownBy_alloc _ _ none)) hgrow7 (fun k hk => (HD6.out.lt k hk).1)
        have hyx : y = x := by omega
        rw [hyx] at cy
        clear hyx
        have hcase := 0
        have q1 : decide (x ≤ x) = true := decide_eq_true (by omega)
        have HST : Hid (mergeL (fun x y => x || y) (x :: A) (y :: B) = x :: mergeL (fun x y => x || y) A B) := Lib.hid (by rw [mergeL, if_neg (by omega), if_neg (by omega)]; rfl)
        clear hcase
        go_wp2_with fail
        go_quiet (fail)
        go_wp2_with fail
        go_quiet (fail)
        go_wp2_with fail
        go_quiet (fail)
        go_wp2_with fail
        go_quiet (fail)
        go_wp2_with fail
        refine (union1_calls true true _).mono ?_
        rintro e w6 ⟨rfl, hw6⟩
        have g6 : wr.grownBy w6 none := by rw [hw6]; exact grown_drewN _ _ _
        clear hw6
        have HD6 := Lib.hid (own_grown HD.out g6)
        have hsz6 : w.heap.size ≤ w6.heap.size := Nat.le_trans hsz g6.size
        have HG6 := Lib.hid (HGI.out.2.2.trans g6); clear g6 hsz
        go_wp2_with (at_builtin; refine wpList_append_own _ rfl _ _ 28 rfl w.heap.size 3 i0 (.int .i64 0) 1 8 Try.underlying28 hi0 hz0 hz1 hz2 rfl (by decide) _ _ _ rfl (HD6.out.alloc _) ⟨w6.heap.size, 0, none⟩ 1 1 [.int .i64 x] rfl rfl (cell_one_new _ _ _) (fun u hu => by simp at hu; subst hu; rfl) (by unfold maxLen; omega) (by omega) (by simp only [World.size_alloc]; omega) ?_; intro v' w7 hown' hgrow7 _; obtain ⟨ga', gc', rfl⟩ := own_shape hown')
        go_roundg (p + (q))
        case measure => rw [HGI.out.1]; have hq1 := HP.out; have hq2 := HQ.out; (first | omega | (simp only [List.length_cons]; omega))
        case rel =>
          refine ⟨A, B, D ++ [x], sa2, sb2, (ac - 1), (bc - 1), ⟨by rw [HP.out], by rw [HQ.out], by have hq1 := HP.out; have hq2 := HQ.out; (first | omega | (simp only [List.length_cons, List.length_nil]; omega))⟩, ⟨HAT.out.2, HBT.out.2, ?_⟩, ?_, ?_, ?_⟩
          · have hq0 := HLEN.out; have hq3 := HDL.out; have hq1 := HP.out; have hq2 := HQ.out; simp only [List.length_append, List.length_cons, List.length_nil] at hq0 ⊢; omega
          · rw [List.length_append, HDL.out]; simpa [intCells] using hown'
          · rw [HGI.out.2.1, HST.out, List.append_assoc]; rfl
          · exact grown_own (HG6.out.trans (World.grownBy_alloc _ _ none)) hgrow7 (fun k hk => (HD6.out.lt k hk).1)
set_option maxRecDepth 100000 in
set_option maxHeartbeats 8000000 in
theorem mergeInter_calls (xs ys : List Int) (xa ya : Option Addr) (xc yc : Nat) (w : World) (h : IntsW w xa xc xs) (h' : IntsW w ya yc ys) (hl : xs.length ≤ 100000) (hl' : ys.length ≤ 100000) :
    Calls Try.prog 87 #[.slice xa xs.length xc, .slice ya ys.length yc, .func (.func 126) #[] #[]] w fun e w' =>
      ∃ a' c', e = .returned (.slice a' (mergeL (fun x y => x && y) xs ys).length c') ∧ Span w.heap.size w'.heap.size w' (fun W => IntsW W a' c' (mergeL (fun x y => x && y) xs ys)) ∧ w.grownBy w' none := by
  obtain ⟨i0, hi0, hz0, hz1, hz2⟩ := info_parts info3
  obtain ⟨R, hR⟩ : ∃ R, mergeL (fun x y => x && y) xs ys = R := ⟨_, rfl⟩
  rw [hR]
  have HR := Lib.hid hR; clear hR
  have HL := Lib.hid (And.intro hl hl'); clear hl hl'
  have HI := Lib.hid (And.intro h h'); clear h h'
  obtain ⟨n, hn⟩ : ∃ n, xs.length = n := ⟨_, rfl⟩
  obtain ⟨m, hm⟩ : ∃ m, ys.length = m := ⟨_, rfl⟩
  rw [hn, hm]
  have HN := Lib.hid (And.intro hn hm); clear hn hm
  go_enter Try.func87, Try.ntmps87
  go_wp2_with fail
  go_loopg [0, 1, 7] (n + m) (fun g s0 s1 s7 wr => ∃ (A B D : List Int) (aa ba : Option Addr) (ac bc : Nat), (s0 = .slice aa A.length ac ∧ s1 = .slice ba B.length bc ∧ g = A.length + B.length) ∧ (IntsW w aa ac A ∧ IntsW w ba bc B ∧ D.length + A.length + B.length ≤ 200000) ∧
    wr.ownsRow w.heap.size 3 1 s7 D.length (intCells D) ∧ R = D ++ mergeL (fun x y => x && y) A B ∧ w.grownBy wr none)
  case atStart => exact ⟨xs, ys, [], xa, ya, xc, yc, ⟨by rw [HN.out.1], by rw [HN.out.2], by rw [HN.out.1, HN.out.2]⟩, ⟨HI.out.1, HI.out.2, by have := HL.out; simp; omega⟩, World.ownsRow_nil _ _ _ _, by rw [← HR.out]; rfl, grown_refl _ _⟩
  case round =>
    obtain ⟨A, B, D, aa, ba, ac, bc, ⟨rfl, rfl, hg⟩, ⟨hA, hB, hlen⟩, hown, hRD, hgr⟩ := hrel
    obtain ⟨da, dc, hs7⟩ := own_shape hown
    subst hs7
    have HGI := Lib.hid (And.intro hg (And.intro hRD hgr)); clear hg hRD hgr
    have HD := Lib.hid hown; clear hown
    obtain ⟨d, hd⟩ : ∃ d, D.length = d := ⟨_, rfl⟩
    rw [hd] at HD hlen ⊢
    have HDL := Lib.hid hd; clear hd
    have hdl : d ≤ 200000 := by omega
    have hsz := HGI.out.2.2.size
    have HLEN := Lib.hid hlen; clear hlen
    cases A with
    | nil =>
      have HA := Lib.hid hA; clear hA
      simp only [List.length_nil]
      cases B with
      | nil =>
        clear hB
        simp only [List.length_nil]
        obtain ⟨a', c', hv, hsp⟩ := ints_span (show wr.ownsRow w.heap.size 3 1 (.slice da d dc) D.length (intCells D) by rw [HDL.out]; exact HD.out)
        replace hsp := hsp.map fun _ h => h.weak
        injection hv with hv1 hv2 hv3
        subst hv1 hv3
        have hRe : R = D := by rw [HGI.out.2.1, mergeL, List.append_nil]
        subst hRe
        have HSP := Lib.hid hsp; clear hsp hv2 hsz
        go_wp2_with fail
        go_ret
        exact ⟨_, _, by rw [HDL.out]; rfl, HSP.out.wide (Nat.le_refl _) (Nat.le_refl _) (Nat.le_refl _), HGI.out.2.2⟩
      | cons y B =>
        obtain ⟨b2, o2, rfl, cy⟩ := (hB.grown HGI.out.2.2).at (i := 0) (z := y) rfl
        rw [Nat.add_zero] at cy
        have hbc : B.length + 1 ≤ bc := hB.1
        obtain ⟨sb2, hsy, htx⟩ := ints_tail (b := b2) (o := o2) hbc
        have HBT := Lib.hid (And.intro hB (htx w y B rfl hB)); clear hB htx
        simp only [List.length_cons]
        obtain ⟨q, hp⟩ : ∃ q, B.length = q := ⟨_, rfl⟩
        rw [hp] at hsy hbc ⊢
        have HQ := Lib.hid hp; clear hp
        have ay0 : ((q : Int) + 1 == 0) = false := by simp; omega
        have ay1 : decide (0 < (q : Int) + 1) = true := decide_eq_true (by omega)
        have ay2 : (0 : Int) < (q : Int) + 1 := by omega
        have HST : Hid (mergeL (fun x y => x && y) [] (y :: B) = mergeL (fun x y => x && y) [] B) := Lib.hid (by rw [mergeL]; rfl)
        go_wp2_with fail
        go_quiet (fail)
        go_wp2_with fail
        go_quiet (fail)
        go_wp2_with fail
        go_quiet (fail)
        go_wp2_with fail
        refine (inter1_calls false true _).mono ?_
        rintro e w6 ⟨rfl, hw6⟩
        have g6 : wr.grownBy w6 none := by rw [hw6]; exact grown_drewN _ _ _
        clear hw6
        have HD6 := Lib.hid (own_grown HD.out g6)
        have hsz6 : w.heap.size ≤ w6.heap.size := Nat.le_trans hsz g6.size
        have HG6 := Lib.hid (HGI.out.2.2.trans g6); clear g6 hsz
        go_wp2_with fail
        go_roundg (0 + (q))
        case measure => rw [HGI.out.1]; have hq2 := HQ.out; (first | omega | (simp only [List.length_cons, List.length_nil]; omega))
        case rel =>
          refine ⟨[], B, D, aa, sb2, ac, (bc - 1), ⟨rfl, by rw [HQ.out], by have hq2 := HQ.out; (first | omega | (simp only [List.length_nil]; omega))⟩, ⟨HA.out, HBT.out.2, ?_⟩, ?_, ?_, ?_⟩
          · have hq0 := HLEN.out; have hq3 := HDL.out; have hq2 := HQ.out; simp only [List.length_cons, List.length_nil] at hq0 ⊢; omega
          · rw [HDL.out]; exact HD6.out
          · rw [HGI.out.2.1, HST.out]
          · exact HG6.out
    | cons x A =>
      obtain ⟨b1, o1, rfl, cx⟩ := (hA.grown HGI.out.2.2).at (i := 0) (z := x) rfl
      rw [Nat.add_zero] at cx
      have hac : A.length + 1 ≤ ac := hA.1
      obtain ⟨sa2, hsx, htx⟩ := ints_tail (b := b1) (o := o1) hac
      have HAT := Lib.hid (And.intro hA (htx w x A rfl hA)); clear hA htx
      simp only [List.length_cons]
      obtain ⟨p, hp⟩ : ∃ p, A.length = p := ⟨_, rfl⟩
      rw [hp] at hsx hac ⊢
      have HP := Lib.hid hp; clear hp
      have ax0 : ((p : Int) + 1 == 0) = false := by simp; omega
      have ax1 : decide (0 < (p : Int) + 1) = true := decide_eq_true (by omega)
      have ax2 : (0 : Int) < (p : Int) + 1 := by omega
      cases B with
      | nil =>
        have HBN := Lib.hid hB; clear hB
        simp only [List.length_nil]
        have HST : Hid (mergeL (fun x y => x && y) (x :: A) [] = mergeL (fun x y => x && y) A []) := Lib.hid (by rw [mergeL]; rfl)
        go_wp2_with fail
        go_quiet (fail)
        go_wp2_with fail
        go_quiet (fail)
        go_wp2_with fail
        go_quiet (fail)
        go_wp2_with fail
        refine (inter1_calls true false _).mono ?_
        rintro e w6 ⟨rfl, hw6⟩
        have g6 : wr.grownBy w6 none := by rw [hw6]; exact grown_drewN _ _ _
        clear hw6
        have HD6 := Lib.hid (own_grown HD.out g6)
        have hsz6 : w.heap.size ≤ w6.heap.size := Nat.le_trans hsz g6.size
        have HG6 := Lib.hid (HGI.out.2.2.trans g6); clear g6 hsz
        go_wp2_with fail
        go_roundg (p + (0))
        case measure => rw [HGI.out.1]; have hq1 := HP.out; (first | omega | (simp only [List.length_cons, List.length_nil]; omega))
        case rel =>
          refine ⟨A, [], D, sa2, ba, (ac - 1), bc, ⟨by rw [HP.out], rfl, by have hq1 := HP.out; (first | omega | (simp only [List.length_nil]; omega))⟩, ⟨HAT.out.2, HBN.out, ?_⟩, ?_, ?_, ?_⟩
          · have hq0 := HLEN.out; have hq3 := HDL.out; have hq1 := HP.out; simp only [List.length_cons, List.length_nil] at hq0 ⊢; omega
          · rw [HDL.out]; exact HD6.out
          · rw [HGI.out.2.1, HST.out]
          · exact HG6.out
      | cons y B =>
        obtain ⟨b2, o2, rfl, cy⟩ := (hB.grown HGI.out.2.2).at (i := 0) (z := y) rfl
        rw [Nat.add_zero] at cy
        have hbc : B.length + 1 ≤ bc := hB.1
        obtain ⟨sb2, hsy, htx⟩ := ints_tail (b := b2) (o := o2) hbc
        have HBT := Lib.hid (And.intro hB (htx w y B rfl hB)); clear hB htx
        simp only [List.length_cons]
        obtain ⟨q, hp⟩ : ∃ q, B.length = q := ⟨_, rfl⟩
        rw [hp] at hsy hbc ⊢
        have HQ := Lib.hid hp; clear hp
        have ay0 : ((q : Int) + 1 == 0) = false := by simp; omega
        have ay1 : decide (0 < (q : Int) + 1) = true := decide_eq_true (by omega)
        have ay2 : (0 : Int) < (q : Int) + 1 := by omega
        by_cases hcase : x < y
        · have q1 : decide (x ≤ y) = true := decide_eq_true (by omega)
          have q2 : decide (y ≤ x) = false := decide_eq_false (by omega)
          have HST : Hid (mergeL (fun x y => x && y) (x :: A) (y :: B) = mergeL (fun x y => x && y) A (y :: B)) := Lib.hid (by rw [mergeL, if_pos (by omega)]; rfl)
          clear hcase
          go_wp2_with fail
          go_quiet (fail)
          go_wp2_with fail
          go_quiet (fail)
          go_wp2_with fail
          go_quiet (fail)
          go_wp2_with fail
          refine (inter1_calls true false _).mono ?_
          rintro e w6 ⟨rfl, hw6⟩
          have g6 : wr.grownBy w6 none := by rw [hw6]; exact grown_drewN _ _ _
          clear hw6
          have HD6 := Lib.hid (own_grown HD.out g6)
          have hsz6 : w.heap.size ≤ w6.heap.size := Nat.le_trans hsz g6.size
          have HG6 := Lib.hid (HGI.out.2.2.trans g6); clear g6 hsz
          go_wp2_with fail
          go_roundg (p + (q + 1))
          case measure => rw [HGI.out.1]; have hq1 := HP.out; have hq2 := HQ.out; (first | omega | (simp only [List.length_cons]; omega))
          case rel =>
            refine ⟨A, (y :: B), D, sa2, (some ⟨b2, o2, none⟩), (ac - 1), bc, ⟨by rw [HP.out], by rw [List.length_cons, HQ.out], by have hq1 := HP.out; have hq2 := HQ.out; (first | omega | (simp only [List.length_cons]; omega))⟩, ⟨HAT.out.2, HBT.out.1, ?_⟩, ?_, ?_, ?_⟩
            · have hq0 := HLEN.out; have hq3 := HDL.out; have hq1 := HP.out; have hq2 := HQ.out; simp only [List.length_cons] at hq0 ⊢; omega
            · rw [HDL.out]; exact HD6.out
            · rw [HGI.out.2.1, HST.out]
            · exact HG6.out
        have hlt := hcase; clear hcase
        by_cases hcase : y < x
        · have q1 : decide (x ≤ y) = false := decide_eq_false (by omega)
          have q2 : decide (y ≤ x) = true := decide_eq_true (by omega)
          have HST : Hid (mergeL (fun x y => x && y) (x :: A) (y :: B) = mergeL (fun x y => x && y) (x :: A) B) := Lib.hid (by rw [mergeL, if_neg (by omega), if_pos (by omega)]; rfl)
          clear hcase
          go_wp2_with fail
          go_quiet (fail)
          go_wp2_with fail
          go_quiet (fail)
          go_wp2_with fail
          go_quiet (fail)
          go_wp2_with fail
          refine (inter1_calls false true _).mono ?_
          rintro e w6 ⟨rfl, hw6⟩
          have g6 : wr.grownBy w6 none := by rw [hw6]; exact grown_drewN _ _ _
          clear hw6
          have HD6 := Lib.hid (own_grown HD.out g6)
          have hsz6 : w.heap.size ≤ w6.heap.size := Nat.le_trans hsz g6.size
          have HG6 := Lib.hid (HGI.out.2.2.trans g6); clear g6 hsz
          go_wp2_with fail
          go_roundg (p + 1 + (q))
          case measure => rw [HGI.out.1]; have hq1 := HP.out; have hq2 := HQ.out; (first | omega | (simp only [List.length_cons]; omega))
          case rel =>
            refine ⟨(x :: A), B, D, (some ⟨b1, o1, none⟩), sb2, ac, (bc - 1), ⟨by rw [List.length_cons, HP.out], by rw [HQ.out], by have hq1 := HP.out; have hq2 := HQ.out; (first | omega | (simp only [List.length_cons]; omega))⟩, ⟨HAT.out.1, HBT.out.2, ?_⟩, ?_, ?_, ?_⟩
            · have hq0 := HLEN.out; have hq3 := HDL.out; have hq1 := HP.out; have hq2 := HQ.out; simp only [List.length_cons] at hq0 ⊢; omega
            · rw [HDL.out]; exact HD6.out
            · rw [HGI.out.2.1, HST.out]
            · exact HG6.out
        have hyx : y = x := by omega
        rw [hyx] at cy
        clear hyx
        have hcase := 0
        have q1 : decide (x ≤ x) = true := decide_eq_true (by omega)
        have HST : Hid (mergeL (fun x y => x && y) (x :: A) (y :: B) = x :: mergeL (fun x y => x && y) A B) := Lib.hid (by rw [mergeL, if_neg (by omega), if_neg (by omega)]; rfl)
        clear hcase
        go_wp2_with fail
        go_quiet (fail)
        go_wp2_with fail
        go_quiet (fail)
        go_wp2_with fail
        go_quiet (fail)
        go_wp2_with fail
        go_quiet (fail)
        go_wp2_with fail
        refine (inter1_calls true true _).mono ?_
        rintro e w6 ⟨rfl, hw6⟩
        have g6 : wr.grownBy w6 none := by rw [hw6]; exact grown_drewN _ _ _
        clear hw6
        have HD6 := Lib.hid (own_grown HD.out g6)
        have hsz6 : w.heap.size ≤ w6.heap.size := Nat.le_trans hsz g6.size
        have HG6 := Lib.hid (HGI.out.2.2.trans g6); clear g6 hsz
        go_wp2_with (at_builtin; refine wpList_append_own _ rfl _ _ 28 rfl w.heap.size 3 i0 (.int .i64 0) 1 8 Try.underlying28 hi0 hz0 hz1 hz2 rfl (by decide) _ _ _ rfl (HD6.out.alloc _) ⟨w6.heap.size, 0, none⟩ 1 1 [.int .i64 x] rfl rfl (cell_one_new _ _ _) (fun u hu => by simp at hu; subst hu; rfl) (by unfold maxLen; omega) (by omega) (by simp only [World.size_alloc]; omega) ?_; intro v' w7 hown' hgrow7 _; obtain ⟨ga', gc', rfl⟩ := own_shape hown')
        go_roundg (p + (q))
        case measure => rw [HGI.out.1]; have hq1 := HP.out; have hq2 := HQ.out; (first | omega | (simp only [List.length_cons]; omega))
        case rel =>
          refine ⟨A, B, D ++ [x], sa2, sb2, (ac - 1), (bc - 1), ⟨by rw [HP.out], by rw [HQ.out], by have hq1 := HP.out; have hq2 := HQ.out; (first | omega | (simp only [List.length_cons, List.length_nil]; omega))⟩, ⟨HAT.out.2, HBT.out.2, ?_⟩, ?_, ?_, ?_⟩
          · have hq0 := HLEN.out; have hq3 := HDL.out; have hq1 := HP.out; have hq2 := HQ.out; simp only [List.length_append, List.length_cons, List.length_nil] at hq0 ⊢; omega
          · rw [List.length_append, HDL.out]; simpa [intCells] using hown'
          · rw [HGI.out.2.1, HST.out, List.append_assoc]; rfl
          · exact grown_own (HG6.out.trans (World.grownBy_alloc _ _ none)) hgrow7 (fun k hk => (HD6.out.lt k hk).1)
end Go.Proofs.Ytbddpjofhddilaa
/- The union, the intersection. -/
namespace Go.Proofs.Ytbddpjofhddilaa
open Go.RowKit

theorem results37 (tmps : Array Value) (w : World) (b : Nat) (a : Option Addr) (n c : Nat) (x : Int) (ht : tmps.getD 4 undef = .pointer (some ⟨b, 0, none⟩)) (h0 : w.cell? ⟨b, 0, none⟩ = some (.int .i64 x)) (h1 : w.cell? ⟨b, 1, none⟩ = some (.slice a n c)) :
    (results Try.f37 tmps).run Try.prog w = .ok (.agg #[.int .i64 x, .slice a n c]) w := by
  have ht' : tmps[4]?.getD undef = .pointer (some ⟨b, 0, none⟩) := by simpa using ht
  simp [results, ht', go_sem, h0, h1, Result.andThen]

set_option maxRecDepth 100000 in
set_option maxHeartbeats 2000000 in
theorem union_calls (x y : Int) (xs ys : List Int) (xa ya : Option Addr) (xc yc : Nat) (w : World) (h : IntsW w xa xc xs) (h' : IntsW w ya yc ys) (hl : xs.length ≤ 100000) (hl' : ys.length ≤ 100000) :
    Calls Try.prog 37 #[.agg #[.int .i64 x, .slice xa xs.length xc], .agg #[.int .i64 y, .slice ya ys.length yc]] w fun e w' =>
      ∃ a' c', e = .returned (.agg #[.int .i64 x, .slice a' (unionL xs ys).length c']) ∧ Span w.heap.size w'.heap.size w' (fun W => IntsW W a' c' (unionL xs ys)) ∧ w.grownBy w' none := by
  obtain ⟨n, hn⟩ : ∃ n, xs.length = n := ⟨_, rfl⟩
  obtain ⟨m, hm⟩ : ∃ m, ys.length = m := ⟨_, rfl⟩
  obtain ⟨R, hR⟩ : ∃ R, unionL xs ys = R := ⟨_, rfl⟩
  obtain ⟨p, hp⟩ : ∃ p, R.length = p := ⟨_, rfl⟩
  rw [hR, hp]
  have hg1 := World.grownBy_alloc w (.cells #[.int .i64 x, .slice xa n xc] 53) none
  have hg2 := World.grownBy_alloc (w.alloc (.cells #[.int .i64 x, .slice xa n xc] 53)) (.cells #[.int .i64 y, .slice ya m yc] 53) none
  have hg3 := World.grownBy_alloc ((w.alloc (.cells #[.int .i64 x, .slice xa n xc] 53)).alloc (.cells #[.int .i64 y, .slice ya m yc] 53)) (.cells #[.int .i64 0, .slice none 0 0] 53) none
  have hg := (hg1.trans hg2).trans hg3
  have hc := six_cells w (.int .i64 x) (.slice xa n xc) (.int .i64 y) (.slice ya m yc) (.int .i64 0) (.slice none 0 0) 53 53 53
  obtain ⟨W, hW⟩ : ∃ W, ((w.alloc (.cells #[.int .i64 x, .slice xa n xc] 53)).alloc (.cells #[.int .i64 y, .slice ya m yc] 53)).alloc (.cells #[.int .i64 0, .slice none 0 0] 53) = W := ⟨_, rfl⟩
  rw [hW] at hg hc
  have HC := Lib.hid (fun (W' : World) (hW' : W.grownBy W' none) => mergeUnion_calls xs ys xa ya xc yc W' ((h.grown hg).grown hW') ((h'.grown hg).grown hW') hl hl')
  have hR' : mergeL (fun x y => x || y) xs ys = R := hR
  rw [hR', hn, hm, hp] at HC
  rw [hn, hm]
  have HG := Lib.hid hg
  clear hg hg1 hg2 hg3 h h' hl hl' hn hm hR hR' hp
  obtain ⟨hlt, c0, c1, d0, d1, e0, e1, ef0, ef1⟩ := hc
  go_enter Try.func37, Try.ntmps37
  go_wp2_with fail
  clear hW
  go_region_with (go_at_call 87; refine (HC.out W.drew (grown_drewN W 1 _)).mono ?_; rintro e w3 ⟨a', c', rfl, hi, g3⟩; have HI := Lib.hid hi; clear hi; replace g3 := World.grownBy.trans (b := W.drew) (grown_drewN W 1 _) g3; have k0 := g3.cell c0 (by simp); have k1 := g3.cell c1 (by simp); have l0 := g3.cell d0 (by simp); have l1 := g3.cell d1 (by simp); have m0 := g3.cell e0 (by simp); have m1 := g3.cell e1 (by simp); have f0 := (grown_frozen g3 hlt 0).trans ef0; have f1 := (grown_frozen g3 hlt 1).trans ef1; have HG3 := Lib.hid g3; clear g3)
  all_goals
    go_wp2_with fail
    refine bodyPost_ret (results37 _ _ (w.heap.size + 2) a' p c' x rfl (by rw [World.cell?_setCell_other _ _ _ _ (by intro e; injection e with _ e; cases e)]; exact World.cell?_setCell_same _ _ _ m0) (World.cell?_setCell_same _ _ _ (by rw [World.cell?_setCell_other _ _ _ _ (by intro e; injection e with _ e; cases e)]; exact m1))) rfl ⟨a', c', rfl, ?_, ?_⟩
    · have hs := HI.out
      have hs2 := (hs.off (grown_set w3 (w.heap.size + 2) 0 (.int .i64 x)) (fun y hy => by cases hy; exact .inl (by simpa using hlt))).off (grown_set _ (w.heap.size + 2) 1 (.slice a' p c')) (fun y hy => by cases hy; exact .inl (by simpa using hlt))
      exact hs2.wide (Nat.le_trans HG.out.size (Nat.le_refl _)) (by simp [World.setCell]) (Nat.le_refl _)
    · have hg := HG.out.trans HG3.out
      have hg1 := grown_own hg (grown_set w3 (w.heap.size + 2) 0 (.int .i64 x)) (fun k hk => by cases hk; omega)
      exact grown_own hg1 (grown_set _ (w.heap.size + 2) 1 (.slice a' p c')) (fun k hk => by cases hk; omega)


theorem results103 (tmps : Array Value) (w : World) (b : Nat) (a : Option Addr) (n c : Nat) (x : Int) (ht : tmps.getD 4 undef = .pointer (some ⟨b, 0, none⟩)) (h0 : w.cell? ⟨b, 0, none⟩ = some (.int .i64 x)) (h1 : w.cell? ⟨b, 1, none⟩ = some (.slice a n c)) :
    (results Try.f103 tmps).run Try.prog w = .ok (.agg #[.int .i64 x, .slice a n c]) w := by
  have ht' : tmps[4]?.getD undef = .pointer (some ⟨b, 0, none⟩) := by simpa using ht
  simp [results, ht', go_sem, h0, h1, Result.andThen]

set_option maxRecDepth 100000 in
set_option maxHeartbeats 2000000 in
theorem inter_calls (x y : Int) (xs ys : List Int) (xa ya : Option Addr) (xc yc : Nat) (w : World) (h : IntsW w xa xc xs) (h' : IntsW w ya yc ys) (hl : xs.length ≤ 100000) (hl' : ys.length ≤ 100000) :
    Calls Try.prog 103 #[.agg #[.int .i64 x, .slice xa xs.length xc], .agg #[.int .i64 y, .slice ya ys.length yc]] w fun e w' =>
      ∃ a' c', e = .returned (.agg #[.int .i64 x, .slice a' (interL xs ys).length c']) ∧ Span w.heap.size w'.heap.size w' (fun W => IntsW W a' c' (interL xs ys)) ∧ w.grownBy w' none := by
  obtain ⟨n, hn⟩ : ∃ n, xs.length = n := ⟨_, rfl⟩
  obtain ⟨m, hm⟩ : ∃ m, ys.length = m := ⟨_, rfl⟩
  obtain ⟨R, hR⟩ : ∃ R, interL xs ys = R := ⟨_, rfl⟩
  obtain ⟨p, hp⟩ : ∃ p, R.length = p := ⟨_, rfl⟩
  rw [hR, hp]
  have hg1 := World.grownBy_alloc w (.cells #[.int .i64 x, .slice xa n xc] 53) none
  have hg2 := World.grownBy_alloc (w.alloc (.cells #[.int .i64 x, .slice xa n xc] 53)) (.cells #[.int .i64 y, .slice ya m yc] 53) none
  have hg3 := World.grownBy_alloc ((w.alloc (.cells #[.int .i64 x, .slice xa n xc] 53)).alloc (.cells #[.int .i64 y, .slice ya m yc] 53)) (.cells #[.int .i64 0, .slice none 0 0] 53) none
  have hg := (hg1.trans hg2).trans hg3
  have hc := six_cells w (.int .i64 x) (.slice xa n xc) (.int .i64 y) (.slice ya m yc) (.int .i64 0) (.slice none 0 0) 53 53 53
  obtain ⟨W, hW⟩ : ∃ W, ((w.alloc (.cells #[.int .i64 x, .slice xa n xc] 53)).alloc (.cells #[.int .i64 y, .slice ya m yc] 53)).alloc (.cells #[.int .i64 0, .slice none 0 0] 53) = W := ⟨_, rfl⟩
  rw [hW] at hg hc
  have HC := Lib.hid (fun (W' : World) (hW' : W.grownBy W' none) => mergeInter_calls xs ys xa ya xc yc W' ((h.grown hg).grown hW') ((h'.grown hg).grown hW') hl hl')
  have hR' : mergeL (fun x y => x && y) xs ys = R := hR
  rw [hR', hn, hm, hp] at HC
  rw [hn, hm]
  have HG := Lib.hid hg
  clear hg hg1 hg2 hg3 h h' hl hl' hn hm hR hR' hp
  obtain ⟨hlt, c0, c1, d0, d1, e0, e1, ef0, ef1⟩ := hc
  go_enter Try.func103, Try.ntmps103
  go_wp2_with fail
  clear hW
  go_region_with (go_at_call 87; refine (HC.out W.drew (grown_drewN W 1 _)).mono ?_; rintro e w3 ⟨a', c', rfl, hi, g3⟩; have HI := Lib.hid hi; clear hi; replace g3 := World.grownBy.trans (b := W.drew) (grown_drewN W 1 _) g3; have k0 := g3.cell c0 (by simp); have k1 := g3.cell c1 (by simp); have l0 := g3.cell d0 (by simp); have l1 := g3.cell d1 (by simp); have m0 := g3.cell e0 (by simp); have m1 := g3.cell e1 (by simp); have f0 := (grown_frozen g3 hlt 0).trans ef0; have f1 := (grown_frozen g3 hlt 1).trans ef1; have HG3 := Lib.hid g3; clear g3)
  all_goals
    go_wp2_with fail
    refine bodyPost_ret (results103 _ _ (w.heap.size + 2) a' p c' x rfl (by rw [World.cell?_setCell_other _ _ _ _ (by intro e; injection e with _ e; cases e)]; exact World.cell?_setCell_same _ _ _ m0) (World.cell?_setCell_same _ _ _ (by rw [World.cell?_setCell_other _ _ _ _ (by intro e; injection e with _ e; cases e)]; exact m1))) rfl ⟨a', c', rfl, ?_, ?_⟩
    · have hs := HI.out
      have hs2 := (hs.off (grown_set w3 (w.heap.size + 2) 0 (.int .i64 x)) (fun y hy => by cases hy; exact .inl (by simpa using hlt))).off (grown_set _ (w.heap.size + 2) 1 (.slice a' p c')) (fun y hy => by cases hy; exact .inl (by simpa using hlt))
      exact hs2.wide (Nat.le_trans HG.out.size (Nat.le_refl _)) (by simp [World.setCell]) (Nat.le_refl _)
    · have hg := HG.out.trans HG3.out
      have hg1 := grown_own hg (grown_set w3 (w.heap.size + 2) 0 (.int .i64 x)) (fun k hk => by cases hk; omega)
      exact grown_own hg1 (grown_set _ (w.heap.size + 2) 1 (.slice a' p c')) (fun k hk => by cases hk; omega)


end Go.Proofs.Ytbddpjofhddilaa
/- Whether two bounds have one arity. -/
namespace Go.Proofs.Ytbddpjofhddilaa
open Go.RowKit

theorem rels_cells {w : World} {b c : Nat} {l : List (Rl × Option Addr × Nat)} (hc : l.length ≤ c) (h : ∀ (j : Nat) (x : Rl × Option Addr × Nat), l[j]? = some x → w.cell? ⟨b, j * 2, none⟩ = some (.int .i64 x.1.1) ∧ w.cell? ⟨b, j * 2 + 1, none⟩ = some (.slice x.2.1 x.1.2.length x.2.2) ∧ IntsW w x.2.1 x.2.2 x.1.2) :
    Rels w (some ⟨b, 0, none⟩) c (l.map (·.1)) := by
  refine ⟨by rw [List.length_map]; exact hc, fun j r hj => ?_⟩
  rw [List.getElem?_map] at hj
  cases hd : l[j]? with
  | none => rw [hd] at hj; cases hj
  | some d =>
    rw [hd] at hj
    cases hj
    obtain ⟨h0, h1, h2⟩ := h j d hd
    exact ⟨b, 0, rfl, by rw [Nat.zero_add]; exact h0, d.2.1, d.2.2, by rw [Nat.zero_add]; exact h1, h2⟩
theorem rels_new2 {w : World} {x y : Rl} {a1 a2 : Option Addr} {c1 c2 : Nat} (h1 : IntsW w a1 c1 x.2) (h2 : IntsW w a2 c2 y.2) :
    Rels (w.alloc (.cells #[.int .i64 x.1, .slice a1 x.2.length c1, .int .i64 y.1, .slice a2 y.2.length c2] 53)) (some ⟨w.heap.size, 0, none⟩) 2 [x, y] := by
  have ga := World.grownBy_alloc w (.cells #[.int .i64 x.1, .slice a1 x.2.length c1, .int .i64 y.1, .slice a2 y.2.length c2] 53) none
  refine rels_cells (l := [(x, a1, c1), (y, a2, c2)]) (Nat.le_refl _) fun j d hj => ?_
  match j, hj with
  | 0, hj => simp at hj; subst hj; exact ⟨by go_simp, by go_simp, h1.grown ga⟩
  | 1, hj => simp at hj; subst hj; exact ⟨by go_simp, by go_simp, h2.grown ga⟩
theorem rels_new3 {w : World} {x y z : Rl} {a1 a2 a3 : Option Addr} {c1 c2 c3 : Nat} (h1 : IntsW w a1 c1 x.2) (h2 : IntsW w a2 c2 y.2) (h3 : IntsW w a3 c3 z.2) :
    Rels (w.alloc (.cells #[.int .i64 x.1, .slice a1 x.2.length c1, .int .i64 y.1, .slice a2 y.2.length c2, .int .i64 z.1, .slice a3 z.2.length c3] 53)) (some ⟨w.heap.size, 0, none⟩) 3 [x, y, z] := by
  have ga := World.grownBy_alloc w (.cells #[.int .i64 x.1, .slice a1 x.2.length c1, .int .i64 y.1, .slice a2 y.2.length c2, .int .i64 z.1, .slice a3 z.2.length c3] 53) none
  refine rels_cells (l := [(x, a1, c1), (y, a2, c2), (z, a3, c3)]) (Nat.le_refl _) fun j d hj => ?_
  match j, hj with
  | 0, hj => simp at hj; subst hj; exact ⟨by go_simp, by go_simp, h1.grown ga⟩
  | 1, hj => simp at hj; subst hj; exact ⟨by go_simp, by go_simp, h2.grown ga⟩
  | 2, hj => simp at hj; subst hj; exact ⟨by go_simp, by go_simp, h3.grown ga⟩

/-- Two bounds have one arity. -/
def meetB (x y : Bd) : Bool := arityB x.1.1 [x.2, y.1, y.2]
set_option maxRecDepth 100000 in
set_option maxHeartbeats 2000000 in
theorem meet1_calls (x y : Bd) (a1 a2 b1 b2 : Option Addr) (c1 c2 d1 d2 : Nat) (w : World) (h2 : IntsW w a2 c2 x.2.2) (h1' : IntsW w b1 d1 y.1.2) (h2' : IntsW w b2 d2 y.2.2) :
    Calls Try.prog 102 #[bdV x.1.1 a1 x.1.2.length c1 x.2.1 a2 x.2.2.length c2, bdV y.1.1 b1 y.1.2.length d1 y.2.1 b2 y.2.2.length d2] w
      fun e w' => e = .returned (.bool (meetB x y)) ∧ w.grownBy w' none := by
  obtain ⟨⟨k1, l1⟩, k2, l2⟩ := x
  obtain ⟨⟨m1, r1⟩, m2, r2⟩ := y
  simp only [bdV] at h2 h1' h2' ⊢
  have hg := (World.grownBy_alloc w (.cells #[.int .i64 k1, .slice a1 l1.length c1, .int .i64 k2, .slice a2 l2.length c2] 74) none).trans (World.grownBy_alloc _ (.cells #[.int .i64 m1, .slice b1 r1.length d1, .int .i64 m2, .slice b2 r2.length d2] 74) none)
  have hcs := two_boxes4 w (.int .i64 k1) (.slice a1 l1.length c1) (.int .i64 k2) (.slice a2 l2.length c2) (.int .i64 m1) (.slice b1 r1.length d1) (.int .i64 m2) (.slice b2 r2.length d2) 74 74
  simp only at hcs
  obtain ⟨W, hW⟩ : ∃ W, (w.alloc (.cells #[.int .i64 k1, .slice a1 l1.length c1, .int .i64 k2, .slice a2 l2.length c2] 74)).alloc (.cells #[.int .i64 m1, .slice b1 r1.length d1, .int .i64 m2, .slice b2 r2.length d2] 74) = W := ⟨_, rfl⟩
  rw [hW] at hg hcs
  have HC := Lib.hid (sameArity_calls k1 [(k2, l2), (m1, r1), (m2, r2)] (some ⟨W.heap.size, 0, none⟩) 3 _ (rels_new3 (x := (k2, l2)) (y := (m1, r1)) (z := (m2, r2)) (h2.grown hg) (h1'.grown hg) (h2'.grown hg)) (by simp))
  simp only [List.length_cons, List.length_nil] at HC
  have HM : Hid (meetB ((k1, l1), k2, l2) ((m1, r1), m2, r2) = arityB k1 [(k2, l2), (m1, r1), (m2, r2)]) := Lib.hid rfl
  obtain ⟨n1, hn1⟩ : ∃ n, l1.length = n := ⟨_, rfl⟩
  obtain ⟨n2, hn2⟩ : ∃ n, l2.length = n := ⟨_, rfl⟩
  obtain ⟨o1, ho1⟩ : ∃ n, r1.length = n := ⟨_, rfl⟩
  obtain ⟨o2, ho2⟩ : ∃ n, r2.length = n := ⟨_, rfl⟩
  rw [hn1, hn2, ho1, ho2] at hcs hW
  rw [hn2, ho1, ho2] at HC
  rw [hn1, hn2, ho1, ho2]
  obtain ⟨⟨p0, p1, p2, p3⟩, q0, q1, q2, q3⟩ := hcs
  have HG := Lib.hid (hg.trans (World.grownBy_alloc W (.cells #[.int .i64 k2, .slice a2 n2 c2, .int .i64 m1, .slice b1 o1 d1, .int .i64 m2, .slice b2 o2 d2] 53) none))
  clear hg h2 h1' h2' hn1 hn2 ho1 ho2
  obtain ⟨B, hB⟩ : ∃ B, arityB k1 [(k2, l2), (m1, r1), (m2, r2)] = B := ⟨_, rfl⟩
  rw [hB] at HC HM
  clear hB
  go_enter Try.func102, Try.ntmps102
  go_wp2_with fail
  clear hW
  refine HC.out.mono ?_
  rintro e w1 ⟨rfl, g1⟩
  have HG1 := Lib.hid (HG.out.trans g1); clear g1
  go_wp2_with fail
  go_ret
  exact ⟨by rw [HM.out]; rfl, HG1.out⟩
end Go.Proofs.Ytbddpjofhddilaa
/- Whether a relation lies within a bound; whether a model does. -/
namespace Go.Proofs.Ytbddpjofhddilaa
open Go.RowKit

theorem arity2 (k : Int) (x y : Rl) : arityB k [x, y] = (decide (x.1 = k) && decide (y.1 = k)) := by simp [arityB]
theorem within_eq (x : Bd) (r : Rl) : withinB x r = (arityB r.1 [x.1, x.2] && (inB x.1.2 r.2 && inB r.2 x.2.2)) := by
  rw [arity2, withinB, Bool.and_assoc, Bool.and_assoc]
set_option maxRecDepth 100000 in
set_option maxHeartbeats 4000000 in
theorem within_calls (x : Bd) (r : Rl) (a1 a2 b1 : Option Addr) (c1 c2 d1 : Nat) (w : World) (h1 : IntsW w a1 c1 x.1.2) (h2 : IntsW w a2 c2 x.2.2) (h3 : IntsW w b1 d1 r.2) (hl : x.1.2.length ≤ 100000 ∧ x.2.2.length ≤ 100000) (hr : r.2.length ≤ 100000) :
    Calls Try.prog 106 #[bdV x.1.1 a1 x.1.2.length c1 x.2.1 a2 x.2.2.length c2, .agg #[.int .i64 r.1, .slice b1 r.2.length d1]] w
      fun e w' => e = .returned (.bool (withinB x r)) ∧ w.grownBy w' none := by
  obtain ⟨⟨k1, l1⟩, k2, l2⟩ := x
  obtain ⟨m1, r1⟩ := r
  simp only [bdV] at h1 h2 h3 hl hr ⊢
  have HI1 := Lib.hid (fun (W : World) (g : w.grownBy W none) => in_calls k1 m1 l1 r1 a1 b1 c1 d1 W (h1.grown g) (h3.grown g) hl.1 hr)
  have HI2 := Lib.hid (fun (W : World) (g : w.grownBy W none) => in_calls m1 k2 r1 l2 b1 a2 d1 c2 W (h3.grown g) (h2.grown g) hr hl.2)
  have hg := (World.grownBy_alloc w (.cells #[.int .i64 k1, .slice a1 l1.length c1, .int .i64 k2, .slice a2 l2.length c2] 74) none).trans (World.grownBy_alloc _ (.cells #[.int .i64 m1, .slice b1 r1.length d1] 53) none)
  have hcs : let W := (w.alloc (.cells #[.int .i64 k1, .slice a1 l1.length c1, .int .i64 k2, .slice a2 l2.length c2] 74)).alloc (.cells #[.int .i64 m1, .slice b1 r1.length d1] 53)
    (W.cell? ⟨w.heap.size, 0, none⟩ = some (.int .i64 k1) ∧ W.cell? ⟨w.heap.size, 1, none⟩ = some (.slice a1 l1.length c1) ∧ W.cell? ⟨w.heap.size, 2, none⟩ = some (.int .i64 k2) ∧ W.cell? ⟨w.heap.size, 3, none⟩ = some (.slice a2 l2.length c2)) ∧
    W.cell? ⟨w.heap.size + 1, 0, none⟩ = some (.int .i64 m1) ∧ W.cell? ⟨w.heap.size + 1, 1, none⟩ = some (.slice b1 r1.length d1) := ⟨⟨by go_simp, by go_simp, by go_simp, by go_simp⟩, by go_simp, by go_simp⟩
  simp only at hcs
  obtain ⟨W, hW⟩ : ∃ W, (w.alloc (.cells #[.int .i64 k1, .slice a1 l1.length c1, .int .i64 k2, .slice a2 l2.length c2] 74)).alloc (.cells #[.int .i64 m1, .slice b1 r1.length d1] 53) = W := ⟨_, rfl⟩
  rw [hW] at hg hcs
  have HC := Lib.hid (sameArity_calls m1 [(k1, l1), (k2, l2)] (some ⟨W.heap.size, 0, none⟩) 2 _ (rels_new2 (x := (k1, l1)) (y := (k2, l2)) (h1.grown hg) (h2.grown hg)) (by simp))
  simp only [List.length_cons, List.length_nil] at HC
  have HM := Lib.hid (within_eq ((k1, l1), k2, l2) (m1, r1))
  simp only at HM
  obtain ⟨n1, hn1⟩ : ∃ n, l1.length = n := ⟨_, rfl⟩
  obtain ⟨n2, hn2⟩ : ∃ n, l2.length = n := ⟨_, rfl⟩
  obtain ⟨o1, ho1⟩ : ∃ n, r1.length = n := ⟨_, rfl⟩
  rw [hn1, hn2, ho1] at hcs hW
  rw [hn1, hn2] at HC
  rw [hn1, ho1] at HI1
  rw [hn2, ho1] at HI2
  rw [hn1, hn2, ho1]
  obtain ⟨⟨p0, p1, p2, p3⟩, q0, q1⟩ := hcs
  have ga := World.grownBy_alloc W (.cells #[.int .i64 k1, .slice a1 n1 c1, .int .i64 k2, .slice a2 n2 c2] 53) none
  have HG := Lib.hid (hg.trans ga)
  have HP := Lib.hid (fun (U : World) (g : (W.alloc (.cells #[.int .i64 k1, .slice a1 n1 c1, .int .i64 k2, .slice a2 n2 c2] 53)).grownBy U none) => And.intro ((ga.trans g).cell p0 (by simp)) (And.intro ((ga.trans g).cell p1 (by simp)) (And.intro ((ga.trans g).cell p2 (by simp)) (And.intro ((ga.trans g).cell p3 (by simp)) (And.intro ((ga.trans g).cell q0 (by simp)) ((ga.trans g).cell q1 (by simp)))))))
  clear hg ga h1 h2 h3 hl hr hn1 hn2 ho1
  obtain ⟨B, hB⟩ : ∃ B, arityB m1 [(k1, l1), (k2, l2)] = B := ⟨_, rfl⟩
  obtain ⟨B1, hB1⟩ : ∃ B, inB l1 r1 = B := ⟨_, rfl⟩
  obtain ⟨B2, hB2⟩ : ∃ B, inB r1 l2 = B := ⟨_, rfl⟩
  rw [hB] at HC HM
  rw [hB1] at HI1 HM
  rw [hB2] at HI2 HM
  clear hB hB1 hB2
  go_enter Try.func106, Try.ntmps106
  go_wp2_with fail
  clear hW p0 p1 p2 p3 q0 q1
  refine HC.out.mono ?_
  rintro e w1 ⟨rfl, g1⟩
  obtain ⟨p0, p1, p2, p3, q0, q1⟩ := HP.out w1 g1
  have HG1 := Lib.hid (HG.out.trans g1)
  cases B with
  | false =>
    clear g1
    go_wp2_with fail
    go_ret
    exact ⟨by rw [HM.out]; rfl, HG1.out⟩
  | true =>
    have HGA := Lib.hid g1; clear g1
    go_wp2_with fail
    refine (HI1.out w1 HG1.out).mono ?_
    rintro e w2 ⟨rfl, g2⟩
    clear p0 p1 p2 p3 q0 q1
    have HG2 := Lib.hid (HG1.out.trans g2)
    obtain ⟨p0, p1, p2, p3, q0, q1⟩ := HP.out w2 (HGA.out.trans g2)
    clear g2
    cases B1 with
    | false =>
      go_wp2_with fail
      go_ret
      exact ⟨by rw [HM.out]; rfl, HG2.out⟩
    | true =>
      go_wp2_with fail
      refine (HI2.out w2 HG2.out).mono ?_
      rintro e w3 ⟨rfl, g3⟩
      clear p0 p1 p2 p3 q0 q1
      have HG3 := Lib.hid (HG2.out.trans g3); clear g3
      go_wp2_with fail
      go_ret
      exact ⟨by rw [HM.out, Bool.true_and, Bool.true_and]; rfl, HG3.out⟩

theorem all_take_next {α : Type} {p : α → Bool} {l : List α} {i : Nat} {x : α} (h : (l.take i).all p = true) (hx : l[i]? = some x) (hp : p x = true) : (l.take (i + 1)).all p = true := by
  rw [List.take_add_one, hx, Option.toList_some, List.all_append, h]; simp [hp]
theorem held_next6k {wr W W' : World} {a0 a1 a2 a3 a4 a5 : Addr} {v0 v1 v2 v3 v4 v5 : Value} (g : W.grownBy W' none) (h : wr.grownBy W none) (h0 : W.cell? a0 = some v0) (h1 : W.cell? a1 = some v1) (h2 : W.cell? a2 = some v2) (h3 : W.cell? a3 = some v3) (h4 : W.cell? a4 = some v4) (h5 : W.cell? a5 = some v5) :
    wr.grownBy W' none ∧ W'.cell? a0 = some v0 ∧ W'.cell? a1 = some v1 ∧ W'.cell? a2 = some v2 ∧ W'.cell? a3 = some v3 ∧ W'.cell? a4 = some v4 ∧ W'.cell? a5 = some v5 :=
  ⟨h.trans g, g.cell h0 (by simp), g.cell h1 (by simp), g.cell h2 (by simp), g.cell h3 (by simp), g.cell h4 (by simp), g.cell h5 (by simp)⟩
set_option maxRecDepth 100000 in
set_option maxHeartbeats 4000000 in
theorem allWithin_calls  (l : List Bd) (m : List Rl) (a a' : Option Addr) (c c' : Nat) (w : World)  (h : Bds w a c l) (h' : Rels w a' c' m) (hl : l.length ≤ 100000) (hx : ∀ x ∈ l, x.1.2.length ≤ 100000 ∧ x.2.2.length ≤ 100000) (hy : ∀ y ∈ m, y.2.length ≤ 100000) :
    Calls Try.prog 107 #[.slice a l.length c, .slice a' m.length c', .func (.func 106) #[] #[]] w fun e w' => e = .returned (.bool (allB (withinB) l m)) ∧ w.grownBy w' none := by
  obtain ⟨n, hn⟩ : ∃ n, l.length = n := ⟨_, rfl⟩
  obtain ⟨n', hn'⟩ : ∃ n', m.length = n' := ⟨_, rfl⟩
  rw [hn] at hl ⊢
  rw [hn']
  have HN := Lib.hid (And.intro hn hn')
  have HH := Lib.hid (And.intro h (And.intro h' (And.intro hx hy))); clear h h' hx hy
  by_cases hnm : n = n'
  · have hB : ((n : Int) != (n' : Int)) = false := by simp; omega
    subst hnm
    clear hn hn'
    go_enter Try.func107, Try.ntmps107
    go_wp2_with fail
    go_loopg [7, 15] n (fun g s7 s15 wr => ∃ i : Nat, s15 = .int .i64 (i : Int) ∧ g = n - i ∧ i ≤ n ∧ (∀ (j : Nat) (x : Bd) (y : Rl), j < i → l[j]? = some x → m[j]? = some y → (withinB) x y = true) ∧ w.grownBy wr none)
    case atStart => exact ⟨0, rfl, rfl, Nat.zero_le _, fun j _ _ hj => absurd hj (Nat.not_lt_zero _), grown_refl _ _⟩
    case round =>
      obtain ⟨i, rfl, hgi, hi, hok, hgr⟩ := hrel
      have HGI := Lib.hid (And.intro hgi (And.intro hok hgr)); clear hgi hok hgr
      by_cases hin : i < n
      · have hinB : decide (i < n) = true := by simpa using hin
        have hinI : (i : Int) < (n : Int) := by omega
        obtain ⟨x, hx⟩ : ∃ x, l[i]? = some x := ⟨_, List.getElem?_eq_getElem (by rw [HN.out.1]; exact hin)⟩
        obtain ⟨y, hy⟩ : ∃ y, m[i]? = some y := ⟨_, List.getElem?_eq_getElem (by rw [HN.out.2]; exact hin)⟩
        obtain ⟨b, o, rfl, hbx⟩ := (HH.out.1.grown HGI.out.2.2).2 i x hx
        obtain ⟨b', o', rfl, hby⟩ := (HH.out.2.1.grown HGI.out.2.2).2 i y hy
        obtain ⟨xa1, xk1, xa2, xk2, xc0, xc1, xc2, xc3, xi1, xi2⟩ := hbx.parts
        obtain ⟨yc0, ya1, yk1, yc1, yi1⟩ := id hby
        have HX := Lib.hid (And.intro hx hy)
        have HC := Lib.hid (fun (W : World) (g : wr.grownBy W none) => within_calls x y xa1 xa2 ya1 xk1 xk2 yk1 W (xi1.grown g) (xi2.grown g) (yi1.grown g) (HH.out.2.2.1 x (List.mem_of_getElem? hx)) (HH.out.2.2.2 y (List.mem_of_getElem? hy)))
        simp only [bdV] at HC
        obtain ⟨B, hBB⟩ : ∃ B, (withinB) x y = B := ⟨_, rfl⟩
        rw [hBB] at HC
        have HBB := Lib.hid hBB
        clear hBB hx hy hbx hby xi1 xi2 yi1
        go_wp2_with fail
        go_region_held3 (fun w' => wr.grownBy w' none ∧ w'.cell? ⟨b, o + i * 4, none⟩ = some (.int .i64 x.1.1) ∧ w'.cell? ⟨b, o + i * 4 + 1, none⟩ = some (.slice xa1 x.1.2.length xk1) ∧ w'.cell? ⟨b, o + i * 4 + 2, none⟩ = some (.int .i64 x.2.1) ∧ w'.cell? ⟨b, o + i * 4 + 3, none⟩ = some (.slice xa2 x.2.2.length xk2) ∧ w'.cell? ⟨b', o' + i * 2, none⟩ = some (.int .i64 y.1) ∧ w'.cell? ⟨b', o' + i * 2 + 1, none⟩ = some (.slice ya1 y.2.length yk1))
          (first | exact ⟨⟨rfl, rfl, rfl, Nat.le_refl _, fun _ _ _ => rfl⟩, xc0, xc1, xc2, xc3, yc0, yc1⟩ | (go_split_ands; exact held_next6k g3 (by assumption) (by assumption) (by assumption) (by assumption) (by assumption) (by assumption) (by assumption)) | fail)
          (first | (go_at_call 106; with_reducible refine (HC.out _ ?_).mono ?_; (go_split_ands; assumption); rintro e w3 ⟨rfl, g3⟩) | fail)
        all_goals
          have h14 : wr.grownBy w3 none := by go_split_ands; assumption
          have HG := Lib.hid (HGI.out.2.2.trans h14)
          clear h14
          cases B with
          | true =>
            go_wp2_with fail
            go_roundg (n - (i + 1))
            case measure => rw [HGI.out.1]; omega
            case rel => exact ⟨i + 1, rfl, rfl, by omega, fun j x' y' hj hx' hy' => by
              by_cases hji : j < i
              · exact HGI.out.2.1 j x' y' hji hx' hy'
              · have : j = i := by omega
                subst this
                rw [HX.out.1] at hx'
                rw [HX.out.2] at hy'
                cases hx'
                cases hy'
                exact HBB.out, HG.out⟩
          | false =>
            have HR : Hid (allB (withinB) l m = false) := Lib.hid (by
              cases hq : allB (withinB) l m with
              | false => rfl
              | true => have h1 := (allB_iff.1 hq).2 i x y HX.out.1 HX.out.2; rw [HBB.out] at h1; cases h1)
            go_wp2_with fail
            go_ret
            exact ⟨by rw [HR.out]; rfl, HG.out⟩
      · have hie : i = n := by omega
        subst hie
        have hinB : decide (i < i) = false := by simp
        have HR : Hid (allB (withinB) l m = true) := Lib.hid (allB_iff.2 ⟨by rw [HN.out.1, HN.out.2], fun j x y hx hy => HGI.out.2.1 j x y (by have := (List.getElem?_eq_some_iff.1 hx).1; rw [HN.out.1] at this; exact this) hx hy⟩)
        go_wp2_with fail
        go_ret
        exact ⟨by rw [HR.out]; rfl, HGI.out.2.2⟩
  · have hB : ((n : Int) != (n' : Int)) = true := by simp; omega
    have HR : Hid (allB (withinB) l m = false) := Lib.hid (by
      cases hq : allB (withinB) l m with
      | false => rfl
      | true => exact absurd (by rw [← hn, ← hn']; exact (allB_iff.1 hq).1) hnm)
    clear hn hn'
    go_enter Try.func107, Try.ntmps107
    go_wp2_with fail
    go_ret
    exact ⟨by rw [HR.out]; rfl, grown_refl _ _⟩
set_option maxRecDepth 100000 in
set_option maxHeartbeats 2000000 in
theorem contains_calls (B : List Bd) (L : List (List Rl)) (a ta sa : Option Addr) (c tc sc ns : Nat) (st lp : Int) (w : World) (h : Bds w a c B) (hT : Sts w ta tc L) (hB : BLen B) (hL : L.length ≤ 100000) (hr : ∀ l ∈ L, ∀ r ∈ l, r.2.length ≤ 100000) :
    Calls Try.prog 51 #[.slice a B.length c, .agg #[.slice sa ns sc, .int .i64 st, .slice ta L.length tc, .int .i64 lp]] w fun e w' => e = .returned (.bool (containsB B L)) ∧ w.grownBy w' none := by
  obtain ⟨n, hn⟩ : ∃ n, L.length = n := ⟨_, rfl⟩
  have HH := Lib.hid (And.intro h (And.intro hT (And.intro hB (And.intro hr hn))))
  obtain ⟨m, hm⟩ : ∃ m, B.length = m := ⟨_, rfl⟩
  have hg := World.grownBy_alloc w (.cells #[.slice sa ns sc, .int .i64 st, .slice ta n tc, .int .i64 lp] 33) none
  rw [hn] at hL ⊢
  have HM := Lib.hid hm
  rw [hm]
  clear h hT hB hr hn hm
  have k2 : (w.alloc (.cells #[.slice sa ns sc, .int .i64 st, .slice ta n tc, .int .i64 lp] 33)).cell? ⟨w.heap.size, 2, none⟩ = some (.slice ta n tc) := by go_simp
  obtain ⟨W, hW⟩ : ∃ W, w.alloc (.cells #[.slice sa ns sc, .int .i64 st, .slice ta n tc, .int .i64 lp] 33) = W := ⟨_, rfl⟩
  rw [hW] at hg k2
  have HG := Lib.hid hg; clear hg
  go_enter Try.func51, Try.ntmps51
  go_wp2_with fail
  clear hW k2
  go_loopg [7, 11] n (fun g s7 s11 wr => ∃ i : Nat, s11 = .int .i64 (i : Int) ∧ g = n - i ∧ i ≤ n ∧ ((L.take i).all fun l => allB withinB B l) = true ∧ w.grownBy wr none)
  case atStart => exact ⟨0, rfl, rfl, Nat.zero_le _, rfl, HG.out⟩
  case round =>
    obtain ⟨i, rfl, hgi, hi, hok, hgr⟩ := hrel
    have HGI := Lib.hid (And.intro hgi (And.intro hok hgr)); clear hgi hok hgr
    by_cases hin : i < n
    · have hinB : decide (i < n) = true := by simpa using hin
      have hinI : (i : Int) < (n : Int) := by omega
      obtain ⟨l, hx⟩ : ∃ l, L[i]? = some l := ⟨_, List.getElem?_eq_getElem (by rw [HH.out.2.2.2.2]; exact hin)⟩
      obtain ⟨sb, so, rfl, la, lc, c1, hrl⟩ := (HH.out.2.1.grown HGI.out.2.2).2 i l hx
      have HX := Lib.hid hx
      have HC := Lib.hid (allWithin_calls B l a la c lc wr (HH.out.1.grown HGI.out.2.2) hrl HH.out.2.2.1.1 HH.out.2.2.1.2 (HH.out.2.2.2.1 l (List.mem_of_getElem? hx)))
      obtain ⟨p, hp⟩ : ∃ p, l.length = p := ⟨_, rfl⟩
      rw [hp] at c1 HC
      rw [HM.out] at HC
      obtain ⟨Q, hQ⟩ : ∃ Q, allB withinB B l = Q := ⟨_, rfl⟩
      rw [show allB (withinB) B l = Q from hQ] at HC
      have HQ := Lib.hid hQ
      clear hx hrl hp hQ
      go_wp2_with fail
      refine HC.out.mono ?_
      rintro e w5 ⟨rfl, g5⟩
      have HG5 := Lib.hid (HGI.out.2.2.trans g5); clear g5 c1
      cases Q with
      | true =>
        go_wp2_with fail
        go_roundg (n - (i + 1))
        case measure => rw [HGI.out.1]; omega
        case rel => exact ⟨i + 1, rfl, rfl, by omega, all_take_next HGI.out.2.1 HX.out HQ.out, HG5.out⟩
      | false =>
        have HF : Hid (containsB B L = false) := Lib.hid (by
          rw [containsB, List.all_eq_false]
          exact ⟨l, List.mem_of_getElem? HX.out, by rw [HQ.out]; simp⟩)
        go_wp2_with fail
        go_ret
        exact ⟨by rw [HF.out]; rfl, HG5.out⟩
    · have hie : i = n := by omega
      subst hie
      have hinB : decide (i < i) = false := by simp
      have HF : Hid (containsB B L = true) := Lib.hid (by
        have h1 := HGI.out.2.1
        rw [List.take_of_length_le (by rw [HH.out.2.2.2.2]; exact Nat.le_refl _)] at h1
        exact h1)
      go_wp2_with fail
      go_ret
      exact ⟨by rw [HF.out]; rfl, HGI.out.2.2⟩
end Go.Proofs.Ytbddpjofhddilaa
