/- Texts of the proof: RS RN RJ. -/
import Derived.Test.YthdhmflodiincaaCA12
import Derived.Test.YthdhmflodiincaaCA11
import Derived.Test.YthdhmflodiincaaCA02
import Derived.Test.YthdhmflodiincaaCA08
namespace Go.Proofs.Ythdhmflodiincaa
set_option maxRecDepth 100000
open Go.RowKit

def putIf (k : Bool) (x : Int) (l : List Int) : List Int := if k then x :: l else l
/-- The merge of two rows, as far as kp keeps. -/
def mergeL (kp : Bool → Bool → Bool) : List Int → List Int → List Int
  | [], [] => []
  | x :: a, [] => putIf (kp true false) x (mergeL kp a [])
  | [], y :: b => putIf (kp false true) y (mergeL kp [] b)
  | x :: a, y :: b => if x < y then putIf (kp true false) x (mergeL kp a (y :: b)) else if y < x then putIf (kp false true) y (mergeL kp (x :: a) b) else putIf (kp true true) x (mergeL kp a b)
termination_by a b => a.length + b.length
/-- The row behind a row's first element. -/
theorem ints_tail {b o k sc : Nat} (hk : k + 1 ≤ sc) : ∃ sa : Option Addr,
    (∀ w, (Instr.slice 31 (.slice (some ⟨b, o, none⟩) (k + 1) sc) (some (.int .i64 1)) none none).run Try.prog w = .ok (.slice sa k (sc - 1)) w) ∧
    (∀ (w : World) (z : Int) (zs : List Int), zs.length = k → IntsW w (some ⟨b, o, none⟩) sc (z :: zs) → IntsW w sa (sc - 1) zs) := by
  by_cases h : sc = 1
  · subst h
    obtain rfl : k = 0 := by omega
    refine ⟨some ⟨b, o, none⟩, fun w => by go_simp, fun w z zs hz hn => ?_⟩
    obtain rfl := List.eq_nil_of_length_eq_zero hz
    exact intsW_nil _ _ _
  · refine ⟨some ⟨b, o + 1, none⟩, fun w => by
      go_simp
      intro hq
      omega, fun w z zs hz hn => ?_⟩
    obtain ⟨hc, h | ⟨b', o', ha, hcell⟩⟩ := hn
    · cases h
    · injection ha with ha
      injection ha with h1 h2
      subst h1; subst h2
      exact ⟨by simp at hc; omega, .inr ⟨b, o + 1, rfl, fun j z hj => by rw [show o + 1 + j = o + (j + 1) by omega]; exact hcell (j + 1) z (by simpa using hj)⟩⟩
set_option maxRecDepth 100000 in
set_option maxHeartbeats 8000000 in
theorem mergeDiff_calls (xs ys : List Int) (xa ya : Option Addr) (xc yc : Nat) (w : World) (h : IntsW w xa xc xs) (h' : IntsW w ya yc ys) (hl : xs.length ≤ 100000) (hl' : ys.length ≤ 100000) :
    Calls Try.prog 94 #[.slice xa xs.length xc, .slice ya ys.length yc, .func (.func 97) #[] #[]] w fun e w' =>
      ∃ a' c', e = .returned (.slice a' (mergeL (fun x y => x && !y) xs ys).length c') ∧ Span w.heap.size w'.heap.size w' (fun W => IntsW W a' c' (mergeL (fun x y => x && !y) xs ys)) ∧ w.grownBy w' none := by
  obtain ⟨i0, hi0, hz0, hz1, hz2⟩ := info_parts info3
  obtain ⟨R, hR⟩ : ∃ R, mergeL (fun x y => x && !y) xs ys = R := ⟨_, rfl⟩
  rw [hR]
  have HR := Lib.hid hR; clear hR
  have HL := Lib.hid (And.intro hl hl'); clear hl hl'
  have HI := Lib.hid (And.intro h h'); clear h h'
  obtain ⟨n, hn⟩ : ∃ n, xs.length = n := ⟨_, rfl⟩
  obtain ⟨m, hm⟩ : ∃ m, ys.length = m := ⟨_, rfl⟩
  rw [hn, hm]
  have HN := Lib.hid (And.intro hn hm); clear hn hm
  go_enter Try.func94, Try.ntmps94
  go_wp2_with fail
  go_loopg [0, 1, 7] (n + m) (fun g s0 s1 s7 wr => ∃ (A B D : List Int) (aa ba : Option Addr) (ac bc : Nat), (s0 = .slice aa A.length ac ∧ s1 = .slice ba B.length bc ∧ g = A.length + B.length) ∧ (IntsW w aa ac A ∧ IntsW w ba bc B ∧ D.length + A.length + B.length ≤ 200000) ∧
    wr.ownsRow w.heap.size 3 1 s7 D.length (intCells D) ∧ R = D ++ mergeL (fun x y => x && !y) A B ∧ w.grownBy wr none)
  case atStart => exact ⟨xs, ys, [], xa, ya, xc, yc, ⟨by rw [HN.out.1], by rw [HN.out.2], by rw [HN.out.1, HN.out.2]⟩, ⟨HI.out.1, HI.out.2, by have := HL.out; simp; omega⟩, World.ownsRow_nil _ _ _ _, by rw [← HR.out]; rfl, grown_refl _ _⟩
  case round =>
    obtain ⟨A, B, D, aa, ba, ac, bc, ⟨rfl, rfl, hg⟩, ⟨hA, hB, hlen⟩, hown, hRD, hgr⟩ := hrel
    obtain ⟨da, dc, hs7⟩ := own_shape hown
    subst hs7
    have HGI := Lib.hid (And.intro hg (And.intro hRD hgr)); clear hg hRD hgr
    have HD := Lib.hid hown; clear hown
    obtain ⟨d, hd⟩ : ∃ d, D.length = d := ⟨_, rfl⟩
    rw [hd] at HD hlen ⊢
    have HDL := Lib.hid hd; clear hd
    have hdl : d ≤ 200000 := by omega
    have hsz := HGI.out.2.2.size
    have HLEN := Lib.hid hlen; clear hlen
    cases A with
    | nil =>
      have HA := Lib.hid hA; clear hA
      simp only [List.length_nil]
      cases B with
      | nil =>
        clear hB
        simp only [List.length_nil]
        obtain ⟨a', c', hv, hsp⟩ := ints_span (show wr.ownsRow w.heap.size 3 1 (.slice da d dc) D.length (intCells D) by rw [HDL.out]; exact HD.out)
        replace hsp := hsp.map fun _ h => h.weak
        injection hv with hv1 hv2 hv3
        subst hv1 hv3
        have hRe : R = D := by rw [HGI.out.2.1, mergeL, List.append_nil]
        subst hRe
        have HSP := Lib.hid hsp; clear hsp hv2 hsz
        go_wp2_with fail
        go_ret
        exact ⟨_, _, by rw [HDL.out]; rfl, HSP.out.wide (Nat.le_refl _) (Nat.le_refl _) (Nat.le_refl _), HGI.out.2.2⟩
      | cons y B =>
        obtain ⟨b2, o2, rfl, cy⟩ := (hB.grown HGI.out.2.2).at (i := 0) (z := y) rfl
        rw [Nat.add_zero] at cy
        have hbc : B.length + 1 ≤ bc := hB.1
        obtain ⟨sb2, hsy, htx⟩ := ints_tail (b := b2) (o := o2) hbc
        have HBT := Lib.hid (And.intro hB (htx w y B rfl hB)); clear hB htx
        simp only [List.length_cons]
        obtain ⟨q, hp⟩ : ∃ q, B.length = q := ⟨_, rfl⟩
        rw [hp] at hsy hbc ⊢
        have HQ := Lib.hid hp; clear hp
        have ay0 : ((q : Int) + 1 == 0) = false := by simp; omega
        have ay1 : decide (0 < (q : Int) + 1) = true := decide_eq_true (by omega)
        have ay2 : (0 : Int) < (q : Int) + 1 := by omega
        have HST : Hid (mergeL (fun x y => x && !y) [] (y :: B) = mergeL (fun x y => x && !y) [] B) := Lib.hid (by rw [mergeL]; rfl)
        go_wp2_with fail
        go_quiet (fail)
        go_wp2_with fail
        go_quiet (fail)
        go_wp2_with fail
        go_quiet (fail)
        go_wp2_with fail
        refine (diff1_calls false true _).mono ?_
        rintro e w6 ⟨rfl, hw6⟩
        have g6 : wr.grownBy w6 none := by rw [hw6]; exact grown_drewN _ _ _
        clear hw6
        have HD6 := Lib.hid (own_grown HD.out g6)
        have hsz6 : w.heap.size ≤ w6.heap.size := Nat.le_trans hsz g6.size
        have HG6 := Lib.hid (HGI.out.2.2.trans g6); clear g6 hsz
        go_wp2_with fail
        go_roundg (0 + (q))
        case measure => rw [HGI.out.1]; have hq2 := HQ.out; (first | omega | (simp only [List.length_cons, List.length_nil]; omega))
        case rel =>
          refine ⟨[], B, D, aa, sb2, ac, (bc - 1), ⟨rfl, by rw [HQ.out], by have hq2 := HQ.out; (first | omega | (simp only [List.length_nil]; omega))⟩, ⟨HA.out, HBT.out.2, ?_⟩, ?_, ?_, ?_⟩
          · have hq0 := HLEN.out; have hq3 := HDL.out; have hq2 := HQ.out; simp only [List.length_cons, List.length_nil] at hq0 ⊢; omega
          · rw [HDL.out]; exact HD6.out
          · rw [HGI.out.2.1, HST.out]
          · exact HG6.out
    | cons x A =>
      obtain ⟨b1, o1, rfl, cx⟩ := (hA.grown HGI.out.2.2).at (i := 0) (z := x) rfl
      rw [Nat.add_zero] at cx
      have hac : A.length + 1 ≤ ac := hA.1
      obtain ⟨sa2, hsx, htx⟩ := ints_tail (b := b1) (o := o1) hac
      have HAT := Lib.hid (And.intro hA (htx w x A rfl hA)); clear hA htx
      simp only [List.length_cons]
      obtain ⟨p, hp⟩ : ∃ p, A.length = p := ⟨_, rfl⟩
      rw [hp] at hsx hac ⊢
      have HP := Lib.hid hp; clear hp
      have ax0 : ((p : Int) + 1 == 0) = false := by simp; omega
      have ax1 : decide (0 < (p : Int) + 1) = true := decide_eq_true (by omega)
      have ax2 : (0 : Int) < (p : Int) + 1 := by omega
      cases B with
      | nil =>
        have HBN := Lib.hid hB; clear hB
        simp only [List.length_nil]
        have HST : Hid (mergeL (fun x y => x && !y) (x :: A) [] = x :: mergeL (fun x y => x && !y) A []) := Lib.hid (by rw [mergeL]; rfl)
        go_wp2_with fail
        go_quiet (fail)
        go_wp2_with fail
        go_quiet (fail)
        go_wp2_with fail
        go_quiet (fail)
        go_wp2_with fail
        refine (diff1_calls true false _).mono ?_
        rintro e w6 ⟨rfl, hw6⟩
        have g6 : wr.grownBy w6 none := by rw [hw6]; exact grown_drewN _ _ _
        clear hw6
        have HD6 := Lib.hid (own_grown HD.out g6)
        have hsz6 : w.heap.size ≤ w6.heap.size := Nat.le_trans hsz g6.size
        have HG6 := Lib.hid (HGI.out.2.2.trans g6); clear g6 hsz
        go_wp2_with (at_builtin; refine wpList_append_own _ rfl _ _ 31 rfl w.heap.size 3 i0 (.int .i64 0) 1 8 Try.underlying31 hi0 hz0 hz1 hz2 rfl (by decide) _ _ _ rfl (HD6.out.alloc _) ⟨w6.heap.size, 0, none⟩ 1 1 [.int .i64 x] rfl rfl (cell_one_new _ _ _) (fun u hu => by simp at hu; subst hu; rfl) (by unfold maxLen; omega) (by omega) (by simp only [World.size_alloc]; omega) ?_; intro v' w7 hown' hgrow7 _; obtain ⟨ga', gc', rfl⟩ := own_shape hown')
        go_roundg (p + (0))
        case measure => rw [HGI.out.1]; have hq1 := HP.out; (first | omega | (simp only [List.length_cons, List.length_nil]; omega))
        case rel =>
          refine ⟨A, [], D ++ [x], sa2, ba, (ac - 1), bc, ⟨by rw [HP.out], rfl, by have hq1 := HP.out; (first | omega | (simp only [List.length_nil]; omega))⟩, ⟨HAT.out.2, HBN.out, ?_⟩, ?_, ?_, ?_⟩
          · have hq0 := HLEN.out; have hq3 := HDL.out; have hq1 := HP.out; simp only [List.length_append, List.length_cons, List.length_nil] at hq0 ⊢; omega
          · rw [List.length_append, HDL.out]; simpa [intCells] using hown'
          · rw [HGI.out.2.1, HST.out, List.append_assoc]; rfl
          · exact grown_own (HG6.out.trans (World.grownBy_alloc _ _ none)) hgrow7 (fun k hk => (HD6.out.lt k hk).1)
      | cons y B =>
        obtain ⟨b2, o2, rfl, cy⟩ := (hB.grown HGI.out.2.2).at (i := 0) (z := y) rfl
        rw [Nat.add_zero] at cy
        have hbc : B.length + 1 ≤ bc := hB.1
        obtain ⟨sb2, hsy, htx⟩ := ints_tail (b := b2) (o := o2) hbc
        have HBT := Lib.hid (And.intro hB (htx w y B rfl hB)); clear hB htx
        simp only [List.length_cons]
        obtain ⟨q, hp⟩ : ∃ q, B.length = q := ⟨_, rfl⟩
        rw [hp] at hsy hbc ⊢
        have HQ := Lib.hid hp; clear hp
        have ay0 : ((q : Int) + 1 == 0) = false := by simp; omega
        have ay1 : decide (0 < (q : Int) + 1) = true := decide_eq_true (by omega)
        have ay2 : (0 : Int) < (q : Int) + 1 := by omega
        by_cases hcase : x < y
        · have q1 : decide (x ≤ y) = true := decide_eq_true (by omega)
          have q2 : decide (y ≤ x) = false := decide_eq_false (by omega)
          have HST : Hid (mergeL (fun x y => x && !y) (x :: A) (y :: B) = x :: mergeL (fun x y => x && !y) A (y :: B)) := Lib.hid (by rw [mergeL, if_pos (by omega)]; rfl)
          clear hcase
          go_wp2_with fail
          go_quiet (fail)
          go_wp2_with fail
          go_quiet (fail)
          go_wp2_with fail
          go_quiet (fail)
          go_wp2_with fail
          refine (diff1_calls true false _).mono ?_
          rintro e w6 ⟨rfl, hw6⟩
          have g6 : wr.grownBy w6 none := by rw [hw6]; exact grown_drewN _ _ _
          clear hw6
          have HD6 := Lib.hid (own_grown HD.out g6)
          have hsz6 : w.heap.size ≤ w6.heap.size := Nat.le_trans hsz g6.size
          have HG6 := Lib.hid (HGI.out.2.2.trans g6); clear g6 hsz
          go_wp2_with (at_builtin; refine wpList_append_own _ rfl _ _ 31 rfl w.heap.size 3 i0 (.int .i64 0) 1 8 Try.underlying31 hi0 hz0 hz1 hz2 rfl (by decide) _ _ _ rfl (HD6.out.alloc _) ⟨w6.heap.size, 0, none⟩ 1 1 [.int .i64 x] rfl rfl (cell_one_new _ _ _) (fun u hu => by simp at hu; subst hu; rfl) (by unfold maxLen; omega) (by omega) (by simp only [World.size_alloc]; omega) ?_; intro v' w7 hown' hgrow7 _; obtain ⟨ga', gc', rfl⟩ := own_shape hown')
          go_roundg (p + (q + 1))
          case measure => rw [HGI.out.1]; have hq1 := HP.out; have hq2 := HQ.out; (first | omega | (simp only [List.length_cons]; omega))
          case rel =>
            refine ⟨A, (y :: B), D ++ [x], sa2, (some ⟨b2, o2, none⟩), (ac - 1), bc, ⟨by rw [HP.out], by rw [List.length_cons, HQ.out], by have hq1 := HP.out; have hq2 := HQ.out; (first | omega | (simp only [List.length_cons]; omega))⟩, ⟨HAT.out.2, HBT.out.1, ?_⟩, ?_, ?_, ?_⟩
            · have hq0 := HLEN.out; have hq3 := HDL.out; have hq1 := HP.out; have hq2 := HQ.out; simp only [List.length_append, List.length_cons, List.length_nil] at hq0 ⊢; omega
            · rw [List.length_append, HDL.out]; simpa [intCells] using hown'
            · rw [HGI.out.2.1, HST.out, List.append_assoc]; rfl
            · exact grown_own (HG6.out.trans (World.grownBy_alloc _ _ none)) hgrow7 (fun k hk => (HD6.out.lt k hk).1)
        have hlt := hcase; clear hcase
        by_cases hcase : y < x
        · have q1 : decide (x ≤ y) = false := decide_eq_false (by omega)
          have q2 : decide (y ≤ x) = true := decide_eq_true (by omega)
          have HST : Hid (mergeL (fun x y => x && !y) (x :: A) (y :: B) = mergeL (fun x y => x && !y) (x :: A) B) := Lib.hid (by rw [mergeL, if_neg (by omega), if_pos (by omega)]; rfl)
          clear hcase
          go_wp2_with fail
          go_quiet (fail)
          go_wp2_with fail
          go_quiet (fail)
          go_wp2_with fail
          go_quiet (fail)
          go_wp2_with fail
          refine (diff1_calls false true _).mono ?_
          rintro e w6 ⟨rfl, hw6⟩
          have g6 : wr.grownBy w6 none := by rw [hw6]; exact grown_drewN _ _ _
          clear hw6
          have HD6 := Lib.hid (own_grown HD.out g6)
          have hsz6 : w.heap.size ≤ w6.heap.size := Nat.le_trans hsz g6.size
          have HG6 := Lib.hid (HGI.out.2.2.trans g6); clear g6 hsz
          go_wp2_with fail
          go_roundg (p + 1 + (q))
          case measure => rw [HGI.out.1]; have hq1 := HP.out; have hq2 := HQ.out; (first | omega | (simp only [List.length_cons]; omega))
          case rel =>
            refine ⟨(x :: A), B, D, (some ⟨b1, o1, none⟩), sb2, ac, (bc - 1), ⟨by rw [List.length_cons, HP.out], by rw [HQ.out], by have hq1 := HP.out; have hq2 := HQ.out; (first | omega | (simp only [List.length_cons]; omega))⟩, ⟨HAT.out.1, HBT.out.2, ?_⟩, ?_, ?_, ?_⟩
            · have hq0 := HLEN.out; have hq3 := HDL.out; have hq1 := HP.out; have hq2 := HQ.out; simp only [List.length_cons] at hq0 ⊢; omega
            · rw [HDL.out]; exact HD6.out
            · rw [HGI.out.2.1, HST.out]
            · exact HG6.out
        have hcase := 0
        have q1 : decide (x ≤ y) = true := decide_eq_true (by omega)
        have q2 : decide (y ≤ x) = true := decide_eq_true (by omega)
        have HST : Hid (mergeL (fun x y => x && !y) (x :: A) (y :: B) = mergeL (fun x y => x && !y) A B) := Lib.hid (by rw [mergeL, if_neg (by omega), if_neg (by omega)]; rfl)
        clear hcase
        go_wp2_with fail
        go_quiet (fail)
        go_wp2_with fail
        go_quiet (fail)
        go_wp2_with fail
        go_quiet (fail)
        go_wp2_with fail
        go_quiet (fail)
        go_wp2_with fail
        refine (diff1_calls true true _).mono ?_
        rintro e w6 ⟨rfl, hw6⟩
        have g6 : wr.grownBy w6 none := by rw [hw6]; exact grown_drewN _ _ _
        clear hw6
        have HD6 := Lib.hid (own_grown HD.out g6)
        have hsz6 : w.heap.size ≤ w6.heap.size := Nat.le_trans hsz g6.size
        have HG6 := Lib.hid (HGI.out.2.2.trans g6); clear g6 hsz
        go_wp2_with fail
        go_roundg (p + (q))
        case measure => rw [HGI.out.1]; have hq1 := HP.out; have hq2 := HQ.out; (first | omega | (simp only [List.length_cons]; omega))
        case rel =>
          refine ⟨A, B, D, sa2, sb2, (ac - 1), (bc - 1), ⟨by rw [HP.out], by rw [HQ.out], by have hq1 := HP.out; have hq2 := HQ.out; (first | omega | (simp only [List.length_cons, List.length_nil]; omega))⟩, ⟨HAT.out.2, HBT.out.2, ?_⟩, ?_, ?_, ?_⟩
          · have hq0 := HLEN.out; have hq3 := HDL.out; have hq1 := HP.out; have hq2 := HQ.out; simp only [List.length_cons] at hq0 ⊢; omega
          · rw [HDL.out]; exact HD6.out
          · rw [HGI.out.2.1, HST.out]
          · exact HG6.out

theorem six_cells (w : World) (u0 u1 v0 v1 x0 x1 : Value) (s t r : TypeId) :
    w.heap.size + 2 < (((w.alloc (.cells #[u0, u1] s)).alloc (.cells #[v0, v1] t)).alloc (.cells #[x0, x1] r)).heap.size ∧
    (((w.alloc (.cells #[u0, u1] s)).alloc (.cells #[v0, v1] t)).alloc (.cells #[x0, x1] r)).cell? ⟨w.heap.size, 0, none⟩ = some u0 ∧ (((w.alloc (.cells #[u0, u1] s)).alloc (.cells #[v0, v1] t)).alloc (.cells #[x0, x1] r)).cell? ⟨w.heap.size, 1, none⟩ = some u1 ∧
    (((w.alloc (.cells #[u0, u1] s)).alloc (.cells #[v0, v1] t)).alloc (.cells #[x0, x1] r)).cell? ⟨w.heap.size + 1, 0, none⟩ = some v0 ∧ (((w.alloc (.cells #[u0, u1] s)).alloc (.cells #[v0, v1] t)).alloc (.cells #[x0, x1] r)).cell? ⟨w.heap.size + 1, 1, none⟩ = some v1 ∧
    (((w.alloc (.cells #[u0, u1] s)).alloc (.cells #[v0, v1] t)).alloc (.cells #[x0, x1] r)).cell? ⟨w.heap.size + 2, 0, none⟩ = some x0 ∧ (((w.alloc (.cells #[u0, u1] s)).alloc (.cells #[v0, v1] t)).alloc (.cells #[x0, x1] r)).cell? ⟨w.heap.size + 2, 1, none⟩ = some x1 ∧
    (((w.alloc (.cells #[u0, u1] s)).alloc (.cells #[v0, v1] t)).alloc (.cells #[x0, x1] r)).frozen? ⟨w.heap.size + 2, 0, none⟩ = false ∧ (((w.alloc (.cells #[u0, u1] s)).alloc (.cells #[v0, v1] t)).alloc (.cells #[x0, x1] r)).frozen? ⟨w.heap.size + 2, 1, none⟩ = false := by
  refine ⟨by simp, by go_simp, by go_simp, by go_simp, by go_simp, by go_simp, by go_simp, by go_simp, by go_simp⟩
theorem results124 (tmps : Array Value) (w : World) (b : Nat) (a : Option Addr) (n c : Nat) (x : Int) (ht : tmps.getD 4 undef = .pointer (some ⟨b, 0, none⟩)) (h0 : w.cell? ⟨b, 0, none⟩ = some (.int .i64 x)) (h1 : w.cell? ⟨b, 1, none⟩ = some (.slice a n c)) :
    (results Try.f48 tmps).run Try.prog w = .ok (.agg #[.int .i64 x, .slice a n c]) w := by
  have ht' : tmps[4]?.getD undef = .pointer (some ⟨b, 0, none⟩) := by simpa using ht
  simp [results, ht', go_sem, h0, h1, Result.andThen]
/-- The difference of two rows. -/
abbrev diffL (xs ys : List Int) : List Int := mergeL (fun x y => x && !y) xs ys
set_option maxRecDepth 100000 in
set_option maxHeartbeats 2000000 in
theorem diff_calls (x y : Int) (xs ys : List Int) (xa ya : Option Addr) (xc yc : Nat) (w : World) (h : IntsW w xa xc xs) (h' : IntsW w ya yc ys) (hl : xs.length ≤ 100000) (hl' : ys.length ≤ 100000) :
    Calls Try.prog 48 #[.agg #[.int .i64 x, .slice xa xs.length xc], .agg #[.int .i64 y, .slice ya ys.length yc]] w fun e w' =>
      ∃ a' c', e = .returned (.agg #[.int .i64 x, .slice a' (diffL xs ys).length c']) ∧ Span w.heap.size w'.heap.size w' (fun W => IntsW W a' c' (diffL xs ys)) ∧ w.grownBy w' none := by
  obtain ⟨n, hn⟩ : ∃ n, xs.length = n := ⟨_, rfl⟩
  obtain ⟨m, hm⟩ : ∃ m, ys.length = m := ⟨_, rfl⟩
  obtain ⟨R, hR⟩ : ∃ R, diffL xs ys = R := ⟨_, rfl⟩
  obtain ⟨p, hp⟩ : ∃ p, R.length = p := ⟨_, rfl⟩
  rw [hR, hp]
  have hg1 := World.grownBy_alloc w (.cells #[.int .i64 x, .slice xa n xc] 47) none
  have hg2 := World.grownBy_alloc (w.alloc (.cells #[.int .i64 x, .slice xa n xc] 47)) (.cells #[.int .i64 y, .slice ya m yc] 47) none
  have hg3 := World.grownBy_alloc ((w.alloc (.cells #[.int .i64 x, .slice xa n xc] 47)).alloc (.cells #[.int .i64 y, .slice ya m yc] 47)) (.cells #[.int .i64 0, .slice none 0 0] 47) none
  have hg := (hg1.trans hg2).trans hg3
  have hc := six_cells w (.int .i64 x) (.slice xa n xc) (.int .i64 y) (.slice ya m yc) (.int .i64 0) (.slice none 0 0) 47 47 47
  obtain ⟨W, hW⟩ : ∃ W, ((w.alloc (.cells #[.int .i64 x, .slice xa n xc] 47)).alloc (.cells #[.int .i64 y, .slice ya m yc] 47)).alloc (.cells #[.int .i64 0, .slice none 0 0] 47) = W := ⟨_, rfl⟩
  rw [hW] at hg hc
  have HC := Lib.hid (fun (W' : World) (hW' : W.grownBy W' none) => mergeDiff_calls xs ys xa ya xc yc W' ((h.grown hg).grown hW') ((h'.grown hg).grown hW') hl hl')
  have hR' : mergeL (fun x y => x && !y) xs ys = R := hR
  rw [hR', hn, hm, hp] at HC
  rw [hn, hm]
  have HG := Lib.hid hg
  clear hg hg1 hg2 hg3 h h' hl hl' hn hm hR hR' hp
  obtain ⟨hlt, c0, c1, d0, d1, e0, e1, ef0, ef1⟩ := hc
  go_enter Try.func48, Try.ntmps48
  go_wp2_with fail
  clear hW
  go_region_with (go_at_call 94; refine (HC.out W.drew (grown_drewN W 1 _)).mono ?_; rintro e w3 ⟨a', c', rfl, hi, g3⟩; have HI := Lib.hid hi; clear hi; replace g3 := World.grownBy.trans (b := W.drew) (grown_drewN W 1 _) g3; have k0 := g3.cell c0 (by simp); have k1 := g3.cell c1 (by simp); have l0 := g3.cell d0 (by simp); have l1 := g3.cell d1 (by simp); have m0 := g3.cell e0 (by simp); have m1 := g3.cell e1 (by simp); have f0 := (grown_frozen g3 hlt 0).trans ef0; have f1 := (grown_frozen g3 hlt 1).trans ef1; have HG3 := Lib.hid g3; clear g3)
  all_goals
    go_wp2_with fail
    refine bodyPost_ret (results124 _ _ (w.heap.size + 2) a' p c' x rfl (by rw [World.cell?_setCell_other _ _ _ _ (by intro e; injection e with _ e; cases e)]; exact World.cell?_setCell_same _ _ _ m0) (World.cell?_setCell_same _ _ _ (by rw [World.cell?_setCell_other _ _ _ _ (by intro e; injection e with _ e; cases e)]; exact m1))) rfl ⟨a', c', rfl, ?_, ?_⟩
    · have hs := HI.out
      have hs2 := (hs.off (grown_set w3 (w.heap.size + 2) 0 (.int .i64 x)) (fun y hy => by cases hy; exact .inl (by simpa using hlt))).off (grown_set _ (w.heap.size + 2) 1 (.slice a' p c')) (fun y hy => by cases hy; exact .inl (by simpa using hlt))
      exact hs2.wide (Nat.le_trans HG.out.size (Nat.le_refl _)) (by simp [World.setCell]) (Nat.le_refl _)
    · have hg := HG.out.trans HG3.out
      have hg1 := grown_own hg (grown_set w3 (w.heap.size + 2) 0 (.int .i64 x)) (fun k hk => by cases hk; omega)
      exact grown_own hg1 (grown_set _ (w.heap.size + 2) 1 (.slice a' p c')) (fun k hk => by cases hk; omega)

theorem field53 (x : Int) (a : Option Addr) (p c : Nat) (w : World) : (Instr.field 47 (.agg #[.int .i64 x, .slice a p c]) 1).run Try.prog w = .ok (.slice a p c) w := by kernel_rfl
/-- Whether a row lies in another. -/
def inB (xs ys : List Int) : Bool := decide ((diffL xs ys).length = 0)
set_option maxRecDepth 100000 in
set_option maxHeartbeats 2000000 in
theorem in_calls (x y : Int) (xs ys : List Int) (xa ya : Option Addr) (xc yc : Nat) (w : World) (h : IntsW w xa xc xs) (h' : IntsW w ya yc ys) (hl : xs.length ≤ 100000) (hl' : ys.length ≤ 100000) :
    Calls Try.prog 51 #[.agg #[.int .i64 x, .slice xa xs.length xc], .agg #[.int .i64 y, .slice ya ys.length yc]] w fun e w' => e = .returned (.bool (inB xs ys)) ∧ w.grownBy w' none := by
  obtain ⟨n, hn⟩ : ∃ n, xs.length = n := ⟨_, rfl⟩
  obtain ⟨m, hm⟩ : ∃ m, ys.length = m := ⟨_, rfl⟩
  have hg1 := World.grownBy_alloc w (.cells #[.int .i64 x, .slice xa n xc] 47) none
  have hg2 := World.grownBy_alloc (w.alloc (.cells #[.int .i64 x, .slice xa n xc] 47)) (.cells #[.int .i64 y, .slice ya m yc] 47) none
  have hg := hg1.trans hg2
  have HD := Lib.hid (And.intro (diff_calls x y xs ys xa ya xc yc _ (h.grown hg) (h'.grown hg) hl hl') hg)
  rw [hn, hm] at HD ⊢
  obtain ⟨p, hp⟩ : ∃ p, (diffL xs ys).length = p := ⟨_, rfl⟩
  rw [hp] at HD
  have HP : Hid (inB xs ys = decide (p = 0)) := Lib.hid (by rw [inB, hp])
  clear hg hg1 hg2 hn hm h h' hl hl' hp
  go_enter Try.func51, Try.ntmps51
  go_wp2_with fail
  refine HD.out.1.mono ?_
  rintro e w1 ⟨a', c', rfl, -, g1⟩
  have HG := Lib.hid (HD.out.2.trans g1); clear g1
  have hf := field53 x a' p c'
  by_cases hp0 : p = 0
  · have f0 : ((p : Int) == 0) = true := by simp; omega
    have HPP : Hid (inB xs ys = true) := Lib.hid (by rw [HP.out]; simpa using hp0)
    clear hp0
    go_wp2_with fail
    go_ret
    exact ⟨by rw [HPP.out]; rfl, HG.out⟩
  · have f0 : ((p : Int) == 0) = false := by simp; omega
    have HPP : Hid (inB xs ys = false) := Lib.hid (by rw [HP.out]; simpa using hp0)
    clear hp0
    go_wp2_with fail
    go_ret
    exact ⟨by rw [HPP.out]; rfl, HG.out⟩

abbrev Up (l : List Int) : Prop := l.Pairwise (· < ·)
theorem mem_putIf {k : Bool} {x z : Int} {l : List Int} : z ∈ putIf k x l ↔ (k = true ∧ z = x) ∨ z ∈ l := by
  unfold putIf
  cases k <;> simp
theorem merge_mem (kp : Bool → Bool → Bool) (h0 : kp false false = false) (z : Int) : ∀ (xs ys : List Int), Up xs → Up ys →
    (z ∈ mergeL kp xs ys ↔ kp (decide (z ∈ xs)) (decide (z ∈ ys)) = true) := by
  intro xs ys
  fun_induction mergeL kp xs ys with
  | case1 => intro _ _; simp [h0]
  | case2 x a ih =>
    intro hx hy
    obtain ⟨hxa, ha⟩ := List.pairwise_cons.1 hx
    rw [mem_putIf, ih ha hy]
    by_cases hz : z = x
    · subst hz
      have : z ∉ a := fun h => by have := hxa z h; omega
      simp [this, h0]
    · simp [hz]
  | case3 y b ih =>
    intro hx hy
    obtain ⟨hyb, hb⟩ := List.pairwise_cons.1 hy
    rw [mem_putIf, ih hx hb]
    by_cases hz : z = y
    · subst hz
      have : z ∉ b := fun h => by have := hyb z h; omega
      simp [this, h0]
    · simp [hz]
  | case4 x a y b h ih =>
    intro hx hy
    obtain ⟨hxa, ha⟩ := List.pairwise_cons.1 hx
    obtain ⟨hyb, hb⟩ := List.pairwise_cons.1 hy
    rw [mem_putIf, ih ha hy]
    by_cases hz : z = x
    · subst hz
      have h1 : z ∉ a := fun h => by have := hxa z h; omega
      have h2 : z ∉ y :: b := fun h' => by
        rcases List.mem_cons.1 h' with e | e
        · omega
        · have := hyb z e; omega
      simp [h1, h2, h0]
    · simp [hz]
  | case5 x a y b h h' ih =>
    intro hx hy
    obtain ⟨hxa, ha⟩ := List.pairwise_cons.1 hx
    obtain ⟨hyb, hb⟩ := List.pairwise_cons.1 hy
    rw [mem_putIf, ih hx hb]
    by_cases hz : z = y
    · subst hz
      have h1 : z ∉ b := fun h => by have := hyb z h; omega
      have h2 : z ∉ x :: a := fun h' => by
        rcases List.mem_cons.1 h' with e | e
        · omega
        · have := hxa z e; omega
      simp [h1, h2, h0]
    · simp [hz]
  | case6 x a y b h h' ih =>
    intro hx hy
    obtain ⟨hxa, ha⟩ := List.pairwise_cons.1 hx
    obtain ⟨hyb, hb⟩ := List.pairwise_cons.1 hy
    have hxy : x = y := by omega
    subst hxy
    rw [mem_putIf, ih ha hb]
    by_cases hz : z = x
    · subst hz
      have h1 : z ∉ b := fun h => by have := hyb z h; omega
      have h2 : z ∉ a := fun h => by have := hxa z h; omega
      simp [h1, h2, h0]
    · simp [hz]
theorem mem_diff {xs ys : List Int} (hx : Up xs) (hy : Up ys) {z : Int} : z ∈ diffL xs ys ↔ z ∈ xs ∧ z ∉ ys := by
  rw [diffL, merge_mem _ rfl z xs ys hx hy]; simp
theorem inB_iff {xs ys : List Int} (hx : Up xs) (hy : Up ys) : inB xs ys = true ↔ ∀ z ∈ xs, z ∈ ys := by
  rw [inB, decide_eq_true_eq]
  constructor
  · intro h z hz
    have hn := List.eq_nil_of_length_eq_zero h
    refine Classical.byContradiction fun hc => ?_
    have : z ∈ diffL xs ys := (mem_diff hx hy).2 ⟨hz, hc⟩
    rw [hn] at this; cases this
  · intro h
    rw [List.length_eq_zero_iff, List.eq_nil_iff_forall_not_mem]
    intro z hz
    have := (mem_diff hx hy).1 hz
    exact this.2 (h z this.1)

end Go.Proofs.Ythdhmflodiincaa

namespace Go.Proofs.Ythdhmflodiincaa
open Go.RowKit Go.Maps

def valsL (x : Nat) : List Bool := (List.range 8).map fun i => decide ((x / 2 ^ i) % 2 = 1)
theorem valsL_len (x : Nat) : (valsL x).length = 8 := by simp [valsL]
theorem valsL_snoc (x : Nat) {k : Nat} (hk : k < 8) : (valsL x).take (k + 1) = (valsL x).take k ++ [decide ((x / 2 ^ k) % 2 = 1)] := by
  have h : (valsL x)[k]? = some (decide ((x / 2 ^ k) % 2 = 1)) := by simp [valsL, hk]
  rw [List.take_add_one, h]
  rfl
set_option maxRecDepth 100000 in
set_option maxHeartbeats 4000000 in
theorem values_calls (x : Nat) (hx : x < 256) (w : World) :
    Calls Try.prog 35 #[.int .u8 (x : Int)] w fun e w' => ∃ b d, e = .returned (.slice b 8 d) ∧ BoolsW w' b d (valsL x) ∧ w.grownBy w' none := by
  obtain ⟨i0, hi0, hz0, hz1, hz2⟩ := info_parts info4
  obtain ⟨BZ, hBZ⟩ : ∃ z, w.heap.size = z := ⟨_, rfl⟩
  have HBZ := Lib.hid hBZ
  clear hBZ
  go_enter Try.func35, Try.ntmps35
  go_wp2_with fail
  go_loopg [0, 3, 4] 8 (fun gk s0 s3 s4 wr => ∃ (k b : Nat) (xa : Option Addr) (xc : Nat), s0 = .int .u8 (b : Int) ∧ s3 = .slice xa k xc ∧ s4 = .int .i64 (k : Int) ∧ gk = 8 - k ∧ k ≤ 8 ∧ b = x / 2 ^ k ∧ wr.ownsRow BZ 4 1 (.slice xa k xc) k (boolCells ((valsL x).take k)) ∧ w.grownBy wr none ∧ BZ ≤ wr.heap.size)
  case atStart => exact ⟨0, x, _, _, rfl, rfl, rfl, rfl, Nat.zero_le _, by simp, World.ownsRow_nil _ _ _ _, grown_refl _ _, by rw [HBZ.out]; exact Nat.le_refl _⟩
  case round =>
    obtain ⟨k, b, xa, xc, rfl, rfl, rfl, hgk, hk, hb, hown, hgr, hbz⟩ := hrel
    have HI := Lib.hid (And.intro hgk (And.intro hb (And.intro hgr hbz)))
    have HO := Lib.hid hown
    have hb2 : b < 256 := by rw [hb]; exact Nat.lt_of_le_of_lt (Nat.div_le_self _ _) hx
    clear hgk hb hown hgr hbz
    by_cases hkn : k < 8
    · have f1 : decide (k < 8) = true := decide_eq_true hkn
      have f2 : decide ((k : Int) < 8) = true := decide_eq_true (by omega)
      have hk1 : IntKind.i64.wrap ((k : Int) + 1) = ((k + 1 : Nat) : Int) := by rw [IntWalk.i64_in _ (by omega)]; omega
      obtain ⟨r, hr⟩ : ∃ z, b % 2 = z := ⟨_, rfl⟩
      obtain ⟨q, hq⟩ : ∃ z, b / 2 = z := ⟨_, rfl⟩
      have hr2 : r < 2 := by omega
      have hm : (b : Int).tmod 2 = (r : Int) := by rw [Int.tmod_eq_emod_of_nonneg (by omega)]; omega
      have hd : (b : Int) / 2 = (q : Int) := by omega
      have hd2 : (b : Int).tdiv 2 = (q : Int) := by rw [Int.tdiv_eq_ediv_of_nonneg (by omega)]; exact hd
      have HSN := Lib.hid (valsL_snoc x hkn)
      rw [← HI.out.2.1, hr] at HSN
      obtain ⟨Lk, hLk⟩ : ∃ L, (valsL x).take k = L := ⟨_, rfl⟩
      rw [hLk] at HO HSN
      have hv2 : ((r : Int) == 1) = decide (r = 1) := by rcases (show r = 0 ∨ r = 1 by omega) with e | e <;> rw [e] <;> rfl
      have hv3 : (r == 1) = decide (r = 1) := by rcases (show r = 0 ∨ r = 1 by omega) with e | e <;> rw [e] <;> rfl
      obtain ⟨v, hv⟩ : ∃ z, decide (r = 1) = z := ⟨_, rfl⟩
      rw [hv] at HSN hv2 hv3
      have HBN := Lib.hid (show q = x / 2 ^ (k + 1) from by rw [← hq, HI.out.2.1, Nat.div_div_eq_div_mul, ← Nat.pow_succ])
      clear hq hr hv
      have HSZ := Lib.hid HI.out.2.2.2
      go_wp2_with (at_builtin; refine wpList_append_own_at _ rfl _ _ 49 rfl BZ 4 i0 (.bool false) 1 1 Try.underlying49 hi0 hz0 hz1 hz2 rfl (by decide) _ k (boolCells Lk) rfl (HO.out.alloc _) ⟨wr.heap.size, 0, none⟩ 1 1 [.bool v] rfl rfl (cell_one_new _ _ _) (fun u hu => by simp at hu; subst hu; rfl) (by unfold maxLen; omega) (by omega) (by have := HSZ.out; simp; omega) ?_)
      intro v' w6 hown' hgrow6 _ hat6
      obtain ⟨rgA, rcA, rfl⟩ := own_shape hown'
      have hga := World.grownBy_alloc wr (.cells #[.bool v] 4) none
      have HN := Lib.hid (show w6.ownsRow BZ 4 1 (.slice rgA (k + 1) rcA) (k + 1) (boolCells ((valsL x).take (k + 1))) ∧ w.grownBy w6 none ∧ BZ ≤ w6.heap.size from ⟨by rw [HSN.out, boolCells, List.map_append]; exact hown', grown_own (World.grownBy.trans HI.out.2.2.1 hga) hgrow6 (fun y e => by have h1 := (HO.out.lt y e).1; have h2 := HBZ.out; omega), Nat.le_trans HSZ.out (Nat.le_trans hga.size hgrow6.size)⟩)
      clear hown' hgrow6 hat6 hga
      go_wp2_with fail
      go_roundg (8 - (k + 1))
      case measure => rw [HI.out.1]; omega
      case rel => exact ⟨k + 1, q, rgA, rcA, rfl, rfl, rfl, rfl, by omega, HBN.out, HN.out.1, HN.out.2.1, HN.out.2.2⟩
    · have f1 : decide (k < 8) = false := decide_eq_false hkn
      have f2 : decide ((k : Int) < 8) = false := decide_eq_false (by omega)
      have hk8 : k = 8 := by omega
      have HROW := Lib.hid (show ∃ d, (Value.slice xa k xc) = .slice xa 8 d ∧ d = xc ∧ BoolsW wr xa xc (valsL x) from by
        have h := HO.out
        rw [List.take_of_length_le (by rw [valsL_len]; omega)] at h
        have e8 : k = (valsL x).length := by rw [valsL_len]; exact hk8
        rw [e8] at h
        obtain ⟨a9, c9, e9, hs9⟩ := bools_span h
        cases e9
        exact ⟨xc, by rw [hk8], rfl, hs9.here⟩)
      clear hkn
      go_wp2_with fail
      go_ret
      obtain ⟨d, e1, rfl, h3⟩ := HROW.out
      exact ⟨xa, d, (by rw [e1]; rfl), h3, HI.out.2.2.1⟩
end Go.Proofs.Ythdhmflodiincaa

namespace Go.Proofs.Ythdhmflodiincaa
open Go.RowKit Go.Maps

def valE (gs : List Gt) (v : List Bool) (m : List Cl) : List Int := (m.filter fun c => evalC gs v c.2).map (·.1)
theorem valE_snoc {gs : List Gt} {v : List Bool} {m : List Cl} {k : Nat} {x : Cl} (h : m[k]? = some x) : valE gs v (m.take (k + 1)) = if evalC gs v x.2 = true then valE gs v (m.take k) ++ [x.1] else valE gs v (m.take k) := by
  unfold valE
  rw [List.take_add_one, h, Option.toList_some, List.filter_append, List.map_append]
  by_cases e : evalC gs v x.2 = true
  · rw [if_pos e]; simp [e]
  · rw [if_neg e]; simp [e]
theorem results34 (tmps : Array Value) (w : World) (b : Nat) (x y : Value) (ht : tmps.getD 6 undef = .pointer (some ⟨b, 0, none⟩)) (h0 : w.cell? ⟨b, 0, none⟩ = some x) (h1 : w.cell? ⟨b, 1, none⟩ = some y) :
    (results Try.f34 tmps).run Try.prog w = .ok (.agg #[x, y]) w := by
  have ht' : tmps[6]?.getD undef = .pointer (some ⟨b, 0, none⟩) := by simpa using ht
  simp [results, ht', go_sem, h0, h1, Result.andThen]
set_option maxRecDepth 100000 in
set_option maxHeartbeats 4000000 in
theorem mvalue_calls (gs : List Gt) (m : List Cl) (vals : List Bool) (ar : Int) (xa : Option Addr) (xc : Nat) (ma : Option Addr) (mc : Nat) (va : Option Addr) (vc : Nat) (w : World) (h : GatesW w xa xc gs) (hm : CellsW w ma mc m) (hv : BoolsW w va vc vals) (hl : gs.length ≤ 1000) (hl2 : m.length ≤ 1000) (hl3 : vals.length ≤ 1000)
    (hb : ∀ g ∈ gs, g.2.1 ≤ 9223372036854775807 ∧ g.2.2 ≤ 9223372036854775807) (hr : ∀ x ∈ m, x.2 ≤ 9223372036854775807) :
    Calls Try.prog 34 #[.agg #[.slice xa gs.length xc], .agg #[.int .i64 ar, .slice ma m.length mc], .slice va vals.length vc] w fun e w' => ∃ b d, e = .returned (.agg #[.int .i64 ar, .slice b (valE gs vals m).length d]) ∧ Ints w' b d (valE gs vals m) ∧ w.grownBy w' none := by
  obtain ⟨ng, hng⟩ : ∃ n, gs.length = n := ⟨_, rfl⟩
  obtain ⟨n, hn⟩ : ∃ n, m.length = n := ⟨_, rfl⟩
  obtain ⟨nv, hnv⟩ : ∃ n, vals.length = n := ⟨_, rfl⟩
  have HE := Lib.hid (fun (U : World) (r : Int) (hU : w.grownBy U none) (hr : r ≤ 9223372036854775807) => eval_calls gs vals r xa xc va vc U (h.grown hU) (hv.grown hU) hl hl3 hb hr)
  rw [hng, hnv] at HE
  have HN := Lib.hid hn
  have HRB := Lib.hid hr
  rw [hn] at hl2 ⊢
  rw [hng, hnv]
  have HM := Lib.hid hm
  clear h hn hm hv hl hl3 hb hng hnv hr
  obtain ⟨i0, hi0, hz0, hz1, hz2⟩ := info_parts info3
  go_enter Try.func34, Try.ntmps34
  go_upto_region 2 with fail
  have g1 := World.grownBy_alloc w (.cells #[.slice xa ng xc] 30) none
  have c1 := one_cell w (.slice xa ng xc) 30
  obtain ⟨W1, hW1⟩ : ∃ z, w.alloc (.cells #[.slice xa ng xc] 30) = z := ⟨_, rfl⟩
  have s1 : W1.heap.size = w.heap.size + 1 := by rw [← hW1]; simp
  rw [hW1] at g1 c1 ⊢
  have g2 := World.grownBy_alloc W1 (.cells #[.int .i64 ar, .slice ma n mc] 26) none
  have c2 := one_cells W1 (.int .i64 ar) (.slice ma n mc) 26
  obtain ⟨W2, hW2⟩ : ∃ z, W1.alloc (.cells #[.int .i64 ar, .slice ma n mc] 26) = z := ⟨_, rfl⟩
  have s2 : W2.heap.size = W1.heap.size + 1 := by rw [← hW2]; simp
  rw [hW2] at g2 c2 ⊢
  have g3 := World.grownBy_alloc W2 (.cells #[.int .i64 0, .slice none 0 0] 47) none
  have c3 := one_cells W2 (.int .i64 0) (.slice none 0 0) 47
  obtain ⟨W3, hW3⟩ : ∃ z, W2.alloc (.cells #[.int .i64 0, .slice none 0 0] 47) = z := ⟨_, rfl⟩
  have s3 : W3.heap.size = W2.heap.size + 1 := by rw [← hW3]; simp
  rw [hW3] at g3 c3 ⊢
  have g4 := World.grownBy_alloc W3 (.cells #[.int .i64 ar, .slice none 0 0] 47) none
  have c4 := one_cells W3 (.int .i64 ar) (.slice none 0 0) 47
  obtain ⟨W4, hW4⟩ : ∃ z, W3.alloc (.cells #[.int .i64 ar, .slice none 0 0] 47) = z := ⟨_, rfl⟩
  have s4 : W4.heap.size = W3.heap.size + 1 := by rw [← hW4]; simp
  rw [hW4] at g4 c4 ⊢
  obtain ⟨b0, hb0⟩ : ∃ z, w.heap.size = z := ⟨_, rfl⟩
  obtain ⟨b4, hb4⟩ : ∃ z, w.heap.size + 1 = z := ⟨_, rfl⟩
  obtain ⟨br, hbr⟩ : ∃ z, w.heap.size + 1 + 1 = z := ⟨_, rfl⟩
  obtain ⟨bb, hbb⟩ : ∃ z, w.heap.size + 1 + 1 + 1 = z := ⟨_, rfl⟩
  obtain ⟨BZ, hBZ⟩ : ∃ z, W4.heap.size = z := ⟨_, rfl⟩
  rw [s1, hb4] at c2
  rw [s2, s1, hbr] at c3
  rw [s3, s2, s1, hbb] at c4
  rw [hb0] at c1
  rw [hbb, hbr, hb4, hb0]
  have g14 := World.grownBy.trans g1 (World.grownBy.trans g2 (World.grownBy.trans g3 g4))
  have HW := Lib.hid (show w.heap.size = b0 ∧ b0 < b4 ∧ b4 < br ∧ br < bb ∧ bb < BZ ∧ W4.heap.size = BZ ∧ w.grownBy W4 none from ⟨by omega, by omega, by omega, by omega, by omega, by omega, g14⟩)
  have HR := Lib.hid (show Rc W4 br 0 (.int .i64 0) ∧ Rc W4 br 1 (.slice none 0 0) from ⟨⟨g4.cell c3.2.1 (by simp), (grown_frozen g4 (lies_lt c3.2.1) 0).trans c3.2.2.2.1⟩, ⟨g4.cell c3.2.2.1 (by simp), (grown_frozen g4 (lies_lt c3.2.1) 1).trans c3.2.2.2.2⟩⟩)
  have HB := Lib.hid (show Rc W4 bb 0 (.int .i64 ar) ∧ Rc W4 bb 1 (.slice none 0 0) from ⟨⟨c4.2.1, c4.2.2.2.1⟩, ⟨c4.2.2.1, c4.2.2.2.2⟩⟩)
  have HX := Lib.hid (show W4.cell? ⟨b0, 0, none⟩ = some (.slice xa ng xc) from (World.grownBy.trans g2 (World.grownBy.trans g3 g4)).cell c1.2.1 (by simp))
  have y1 := (World.grownBy.trans g3 g4).cell c2.2.2.1 (by simp)
  clear hb0 hb4 hbr hbb hBZ s1 s2 s3 s4 g1 g2 g3 g4 c1 c2 c3 c4 hW1 hW2 hW3 hW4 g14
  go_wp2_with fail
  clear y1
  go_loopg [16] n (fun gk s16 wr => ∃ (k nk : Nat) (ya : Option Addr) (yc : Nat), s16 = .int .i64 (k : Int) ∧ gk = n - k ∧ k ≤ n ∧ Rc wr bb 0 (.int .i64 ar) ∧ Rc wr bb 1 (.slice ya nk yc) ∧ wr.ownsRow BZ 3 1 (.slice ya nk yc) nk (intCells (valE gs vals (m.take k))) ∧ Off (fun k => k = bb) W4 wr ∧ (valE gs vals (m.take k)).length = nk ∧ nk ≤ k)
  case atStart => exact ⟨0, 0, _, _, rfl, rfl, Nat.zero_le _, HB.out.1, HB.out.2, World.ownsRow_nil _ _ _ _, ⟨rfl, rfl, rfl, Nat.le_refl _, fun _ _ _ => rfl⟩, rfl, Nat.le_refl _⟩
  case round =>
    obtain ⟨k, nk, ya, yc, rfl, hgk, hk, hb0, hb1, hown, hof, hnk, hkk⟩ := hrel
    have HI := Lib.hid (And.intro hgk (And.intro hb0 (And.intro hb1 (And.intro hnk hkk)))); clear hgk hb0 hb1 hnk hkk
    have HO := Lib.hid hown; clear hown
    have HOF := Lib.hid hof; clear hof
    have HG := Lib.hid (HOF.out.grown HW.out.2.2.2.2.2.2 (fun q e => by have e' : q = bb := e; have := HW.out; omega))
    have HSZ := Lib.hid (show BZ ≤ wr.heap.size from by have h1 := HOF.out.size; have h2 := HW.out; omega)
    by_cases hkn : k < n
    · have f1 : decide (k < n) = true := decide_eq_true hkn
      have f2 : decide ((k : Int) < (n : Int)) = true := decide_eq_true (by omega)
      have hk1 : IntKind.i64.wrap ((k : Int) + 1) = ((k + 1 : Nat) : Int) := by rw [IntWalk.i64_in _ (by omega)]; omega
      have hj0 : (0 : Int) ≤ (k : Int) := by omega
      have hj1 : (k : Int) < (n : Int) := by omega
      obtain ⟨x, hx⟩ : ∃ r, m[k]? = some r := ⟨_, List.getElem?_eq_getElem (by rw [HN.out]; exact hkn)⟩
      obtain ⟨ba, oa, rfl, x0, x1⟩ := (HM.out.grown HG.out).at hx
      have HSN := Lib.hid (valE_snoc (gs := gs) (v := vals) hx)
      have HXB := Lib.hid (HRB.out x (List.mem_of_getElem? hx))
      obtain ⟨Lk, hLk⟩ : ∃ L, valE gs vals (m.take k) = L := ⟨_, rfl⟩
      rw [hLk] at HO HSN HI
      clear hx hLk
      go_upto_region 5 with fail
      have g5 := World.grownBy_alloc wr (.cells #[.int .i64 x.1, .int .i64 x.2] 71) none
      have hc5 := one_cells wr (.int .i64 x.1) (.int .i64 x.2) 71
      obtain ⟨U, hU⟩ : ∃ z, wr.alloc (.cells #[.int .i64 x.1, .int .i64 x.2] 71) = z := ⟨_, rfl⟩
      rw [hU] at g5 hc5 ⊢
      obtain ⟨bx, hbx⟩ : ∃ z, wr.heap.size = z := ⟨_, rfl⟩
      rw [hbx] at hc5 ⊢
      have z1 := hc5.2.2.1
      have z0 := g5.cell (HOF.out.cell HX.out (fun e => by have e' : b0 = bb := e; have := HW.out; omega)) (by simp)
      have HC5 := Lib.hid (And.intro hc5.2.1 g5)
      clear hU hbx g5 hc5 x0 x1
      go_wp2_with fail
      refine (HE.out U x.2 (World.grownBy.trans HG.out HC5.out.2) HXB.out).mono ?_
      rintro e V ⟨rfl, hgV⟩
      have HGV := Lib.hid (World.grownBy.trans HC5.out.2 hgV)
      have d0 := hgV.cell HC5.out.1 (by simp)
      have r0 := HI.out.2.1.step (Off.of HGV.out (M := fun _ => False) (fun k e => by cases e)) (fun e => e)
      have r1 := HI.out.2.2.1.step (Off.of HGV.out (M := fun _ => False) (fun k e => by cases e)) (fun e => e)
      have HR1 := Lib.hid (And.intro r0 r1)
      have d1 := r1.1
      have HOV := Lib.hid (own_grown HO.out HGV.out)
      have HOFV := Lib.hid (show Off (fun k => k = bb) W4 V from HOF.out.trans (Off.of HGV.out (M := fun _ => False) (fun k e => by cases e)) (fun q _ e => e.elim))
      have HSV := Lib.hid (Nat.le_trans HSZ.out HGV.out.size)
      have hnB : ¬ BZ ≤ bb := by have := HW.out; omega
      clear hgV z0 z1 r0 r1
      cases hev : evalC gs vals x.2 with
      | false =>
        rw [hev] at HSN
        go_wp2_with fail
        go_roundg (n - (k + 1))
        case measure => rw [HI.out.1]; omega
        case rel => exact ⟨k + 1, nk, ya, yc, rfl, rfl, by omega, HR1.out.1, HR1.out.2, (by rw [HSN.out]; exact HOV.out), HOFV.out, (by rw [HSN.out]; exact HI.out.2.2.2.1), Nat.le_succ_of_le HI.out.2.2.2.2⟩
      | true =>
        rw [hev] at HSN
        have hkk := HI.out.2.2.2.2
        go_wp2_with (at_builtin; refine wpList_append_own_at _ rfl _ _ 31 rfl BZ 3 i0 (.int .i64 0) 1 8 Try.underlying31 hi0 hz0 hz1 hz2 rfl (by decide) _ nk (intCells Lk) rfl (HOV.out.alloc _) ⟨V.heap.size, 0, none⟩ 1 1 [.int .i64 x.1] rfl rfl (cell_one_new _ _ _) (fun u hu => by simp at hu; subst hu; rfl) (by unfold maxLen; omega) (by omega) (by have := HSV.out; simp; omega) ?_)
        intro v' w6 hown' hgrow6 _ hat6
        obtain ⟨rgA, rcA, rfl⟩ := own_shape hown'
        have hga := World.grownBy_alloc V (.cells #[.int .i64 x.1] 3) none
        have ho6 : Off (fun k => BZ ≤ k) V w6 := (Off.of hga (fun k e => by cases e)).trans (Off.of hgrow6 (M := fun k => BZ ≤ k) (fun k e => (HOV.out.lt k e).1)) (fun _ _ e => e)
        have r0 := HR1.out.1.step ho6 hnB
        have r1 := HR1.out.2.step ho6 hnB
        have hown7 : (w6.setCell ⟨bb, 1, none⟩ (.slice rgA (nk + 1) rcA)).ownsRow BZ 3 1 (.slice rgA (nk + 1) rcA) (nk + 1) (intCells (valE gs vals (m.take (k + 1)))) := by
          rw [HSN.out, if_pos trivial, intCells, List.map_append]
          refine hown'.kept (grown_set w6 bb 1 _) ?_
          cases hob : (Value.slice rgA (nk + 1) rcA).ownBlock with
          | none => exact .inl rfl
          | some b => exact .inr (fun e => by injection e with e; subst e; exact hnB (hown'.lt b hob).1)
        have HN7 := Lib.hid (And.intro (r0.other (o' := 1) (by decide) (.slice rgA (nk + 1) rcA)) (And.intro (r1.set (.slice rgA (nk + 1) rcA)) (And.intro hown7 (show Off (fun k => k = bb) W4 (w6.setCell ⟨bb, 1, none⟩ (.slice rgA (nk + 1) rcA)) from (HOFV.out.trans ho6 (fun q hq e => by have h1 := HW.out; omega)).trans (off_set w6 bb 1 _) (fun q hq e => e)))))
        have e1 := r1.1
        have e2 := r1.2
        clear hown' hgrow6 hat6 hga ho6 r0 r1 hown7 d0 d1
        go_wp2_with fail
        go_roundg (n - (k + 1))
        case measure => rw [HI.out.1]; omega
        case rel => exact ⟨k + 1, nk + 1, rgA, rcA, rfl, rfl, by omega, HN7.out.1, HN7.out.2.1, HN7.out.2.2.1, HN7.out.2.2.2, (by rw [HSN.out, if_pos trivial, List.length_append, HI.out.2.2.2.1]; rfl), Nat.succ_le_succ hkk⟩
    · have f1 : decide (k < n) = false := decide_eq_false hkn
      have f2 : decide ((k : Int) < (n : Int)) = false := decide_eq_false (by omega)
      have hkn2 : k = n := by omega
      have d0 := HI.out.2.1.1
      have d1 := HI.out.2.2.1.1
      have hne : ¬ br = bb := by have := HW.out; omega
      have q0 := HR.out.1.step HOF.out hne
      have q1 := HR.out.2.step HOF.out hne
      have HQ := Lib.hid (And.intro q0 q1)
      have e0 := q0.1
      have e1 := q0.2
      have e2 := q1.1
      have e3 := q1.2
      have hall : valE gs vals (m.take k) = valE gs vals m := by rw [List.take_of_length_le (by rw [HN.out]; omega)]
      have HLN := Lib.hid (show (valE gs vals m).length = nk from by rw [← hall]; exact HI.out.2.2.2.1)
      have HROW := Lib.hid (show Span BZ wr.heap.size wr (fun W => Ints W ya yc (valE gs vals m)) from by
        have h := HO.out
        rw [hall, ← HLN.out] at h
        obtain ⟨a9, c9, e9, hs9⟩ := ints_span h
        cases e9
        exact hs9)
      clear hkn hne q0 q1 hall
      go_wp2_with fail
      have hof := off_set2 wr br (.int .i64 ar) (.slice ya nk yc)
      refine bodyPost_ret (results34 _ _ br (.int .i64 ar) (.slice ya nk yc) rfl ((HQ.out.1.set (.int .i64 ar)).other (o' := 1) (by decide) (.slice ya nk yc)).1 ((HQ.out.2.other (o' := 0) (by decide) (.int .i64 ar)).set (.slice ya nk yc)).1) rfl ⟨ya, yc, by rw [HLN.out], (HROW.out.away hof (fun q e => by have e' : q = br := e; have := HW.out; omega)).here, hof.grown HG.out (fun q e => by have e' : q = br := e; have := HW.out; omega)⟩
end Go.Proofs.Ythdhmflodiincaa
