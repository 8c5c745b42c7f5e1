/- Texts of the proof: RS UL0. -/
import Derived.Test.YthdhmflodiincaaGreatCB23
import Derived.Maps.OwnSet
import Derived.Maps.OwnIn
set_option maxRecDepth 100000
set_option maxHeartbeats 8000000
namespace Go.Proofs.YthdhmflodiincaaGreat
set_option maxRecDepth 100000
open Go.RowKit

def putIf (k : Bool) (x : Int) (l : List Int) : List Int := if k then x :: l else l
def mergeL (kp : Bool → Bool → Bool) : List Int → List Int → List Int
  | [], [] => []
  | x :: a, [] => putIf (kp true false) x (mergeL kp a [])
  | [], y :: b => putIf (kp false true) y (mergeL kp [] b)
  | x :: a, y :: b => if x < y then putIf (kp true false) x (mergeL kp a (y :: b)) else if y < x then putIf (kp false true) y (mergeL kp (x :: a) b) else putIf (kp true true) x (mergeL kp a b)
termination_by a b => a.length + b.length
theorem ints_tail {b o k sc : Nat} (hk : k + 1 ≤ sc) : ∃ sa : Option Addr,
    (∀ w, (Instr.slice 28 (.slice (some ⟨b, o, none⟩) (k + 1) sc) (some (.int .i64 1)) none none).run Tryz.prog w = .ok (.slice sa k (sc - 1)) w) ∧
    (∀ (w : World) (z : Int) (zs : List Int), zs.length = k → IntsW w (some ⟨b, o, none⟩) sc (z :: zs) → IntsW w sa (sc - 1) zs) := by
  by_cases h : sc = 1
  · subst h
    obtain rfl : k = 0 := by omega
    refine ⟨some ⟨b, o, none⟩, fun w => by go_simp, fun w z zs hz hn => ?_⟩
    obtain rfl := List.eq_nil_of_length_eq_zero hz
    exact intsW_nil _ _ _
  · refine ⟨some ⟨b, o + 1, none⟩, fun w => by
      go_simp
      intro hq
      omega, fun w z zs hz hn => ?_⟩
    obtain ⟨hc, h | ⟨b', o', ha, hcell⟩⟩ := hn
    · cases h
    · injection ha with ha
      injection ha with h1 h2
      subst h1; subst h2
      exact ⟨by simp at hc; omega, .inr ⟨b, o + 1, rfl, fun j z hj => by rw [show o + 1 + j = o + (j + 1) by omega]; exact hcell (j + 1) z (by simpa using hj)⟩⟩
theorem mergeDiff_calls (xs ys : List Int) (xa ya : Option Addr) (xc yc : Nat) (w : World) (h : IntsW w xa xc xs) (h' : IntsW w ya yc ys) (hl : xs.length ≤ 100000) (hl' : ys.length ≤ 100000) :
    Calls Tryz.prog 65 #[.slice xa xs.length xc, .slice ya ys.length yc, .func (.func 67) #[] #[]] w fun e w' =>
      ∃ a' c', e = .returned (.slice a' (mergeL (fun x y => x && !y) xs ys).length c') ∧ Span w.heap.size w'.heap.size w' (fun W => IntsW W a' c' (mergeL (fun x y => x && !y) xs ys)) ∧ w.grownBy w' none := by
  obtain ⟨i0, hi0, hz0, hz1, hz2⟩ := info_parts info3
  obtain ⟨R, hR⟩ : ∃ R, mergeL (fun x y => x && !y) xs ys = R := ⟨_, rfl⟩
  rw [hR]
  have HR := Lib.hid hR; clear hR
  have HL := Lib.hid (And.intro hl hl'); clear hl hl'
  have HI := Lib.hid (And.intro h h'); clear h h'
  obtain ⟨n, hn⟩ : ∃ n, xs.length = n := ⟨_, rfl⟩
  obtain ⟨m, hm⟩ : ∃ m, ys.length = m := ⟨_, rfl⟩
  rw [hn, hm]
  have HN := Lib.hid (And.intro hn hm); clear hn hm
  go_enter Tryz.func65, Tryz.ntmps65
  go_wp2_with fail
  go_loopg [0, 1, 7] (n + m) (fun g s0 s1 s7 wr => ∃ (A B D : List Int) (aa ba : Option Addr) (ac bc : Nat), (s0 = .slice aa A.length ac ∧ s1 = .slice ba B.length bc ∧ g = A.length + B.length) ∧ (IntsW w aa ac A ∧ IntsW w ba bc B ∧ D.length + A.length + B.length ≤ 200000) ∧
    wr.ownsRow w.heap.size 3 1 s7 D.length (intCells D) ∧ R = D ++ mergeL (fun x y => x && !y) A B ∧ w.grownBy wr none)
  case atStart => exact ⟨xs, ys, [], xa, ya, xc, yc, ⟨by rw [HN.out.1], by rw [HN.out.2], by rw [HN.out.1, HN.out.2]⟩, ⟨HI.out.1, HI.out.2, by have := HL.out; simp; omega⟩, World.ownsRow_nil _ _ _ _, by rw [← HR.out]; rfl, grown_refl _ _⟩
  case round =>
    obtain ⟨A, B, D, aa, ba, ac, bc, ⟨rfl, rfl, hg⟩, ⟨hA, hB, hlen⟩, hown, hRD, hgr⟩ := hrel
    obtain ⟨da, dc, hs7⟩ := own_shape hown
    subst hs7
    have HGI := Lib.hid (And.intro hg (And.intro hRD hgr)); clear hg hRD hgr
    have HD := Lib.hid hown; clear hown
    obtain ⟨d, hd⟩ : ∃ d, D.length = d := ⟨_, rfl⟩
    rw [hd] at HD hlen ⊢
    have HDL := Lib.hid hd; clear hd
    have hdl : d ≤ 200000 := by omega
    have hsz := HGI.out.2.2.size
    have HLEN := Lib.hid hlen; clear hlen
    cases A with
    | nil =>
      have HA := Lib.hid hA; clear hA
      simp only [List.length_nil]
      cases B with
      | nil =>
        clear hB
        simp only [List.length_nil]
        obtain ⟨a', c', hv, hsp⟩ := ints_span (show wr.ownsRow w.heap.size 3 1 (.slice da d dc) D.length (intCells D) by rw [HDL.out]; exact HD.out)
        replace hsp := hsp.map fun _ h => h.weak
        injection hv with hv1 hv2 hv3
        subst hv1 hv3
        have hRe : R = D := by rw [HGI.out.2.1, mergeL, List.append_nil]
        subst hRe
        have HSP := Lib.hid hsp; clear hsp hv2 hsz
        go_wp2_with fail
        go_ret
        exact ⟨_, _, by rw [HDL.out]; rfl, HSP.out.wide (Nat.le_refl _) (Nat.le_refl _) (Nat.le_refl _), HGI.out.2.2⟩
      | cons y B =>
        obtain ⟨b2, o2, rfl, cy⟩ := (hB.grown HGI.out.2.2).at (i := 0) (z := y) rfl
        rw [Nat.add_zero] at cy
        have hbc : B.length + 1 ≤ bc := hB.1
        obtain ⟨sb2, hsy, htx⟩ := ints_tail (b := b2) (o := o2) hbc
        have HBT := Lib.hid (And.intro hB (htx w y B rfl hB)); clear hB htx
        simp only [List.length_cons]
        obtain ⟨q, hp⟩ : ∃ q, B.length = q := ⟨_, rfl⟩
        rw [hp] at hsy hbc ⊢
        have HQ := Lib.hid hp; clear hp
        have ay0 : ((q : Int) + 1 == 0) = false := by simp; omega
        have ay1 : decide (0 < (q : Int) + 1) = true := decide_eq_true (by omega)
        have ay2 : (0 : Int) < (q : Int) + 1 := by omega
        have HST : Hid (mergeL (fun x y => x && !y) [] (y :: B) = mergeL (fun x y => x && !y) [] B) := Lib.hid (by rw [mergeL]; rfl)
        go_wp2_with fail
        go_quiet (fail)
        go_wp2_with fail
        go_quiet (fail)
        go_wp2_with fail
        go_quiet (fail)
        go_wp2_with fail
        refine (diff1_calls false true _).mono ?_
        rintro e w6 ⟨rfl, hw6⟩
        have g6 : wr.grownBy w6 none := by rw [hw6]; exact grown_drewN _ _ _
        clear hw6
        have HD6 := Lib.hid (own_grown HD.out g6)
        have hsz6 : w.heap.size ≤ w6.heap.size := Nat.le_trans hsz g6.size
        have HG6 := Lib.hid (HGI.out.2.2.trans g6); clear g6 hsz
        go_wp2_with fail
        go_roundg (0 + (q))
        case measure => rw [HGI.out.1]; have hq2 := HQ.out; (first | omega | (simp only [List.length_cons, List.length_nil]; omega))
        case rel =>
          refine ⟨[], B, D, aa, sb2, ac, (bc - 1), ⟨rfl, by rw [HQ.out], by have hq2 := HQ.out; (first | omega | (simp only [List.length_nil]; omega))⟩, ⟨HA.out, HBT.out.2, ?_⟩, ?_, ?_, ?_⟩
          · have hq0 := HLEN.out; have hq3 := HDL.out; have hq2 := HQ.out; simp only [List.length_cons, List.length_nil] at hq0 ⊢; omega
          · rw [HDL.out]; exact HD6.out
          · rw [HGI.out.2.1, HST.out]
          · exact HG6.out
    | cons x A =>
      obtain ⟨b1, o1, rfl, cx⟩ := (hA.grown HGI.out.2.2).at (i := 0) (z := x) rfl
      rw [Nat.add_zero] at cx
      have hac : A.length + 1 ≤ ac := hA.1
      obtain ⟨sa2, hsx, htx⟩ := ints_tail (b := b1) (o := o1) hac
      have HAT := Lib.hid (And.intro hA (htx w x A rfl hA)); clear hA htx
      simp only [List.length_cons]
      obtain ⟨p, hp⟩ : ∃ p, A.length = p := ⟨_, rfl⟩
      rw [hp] at hsx hac ⊢
      have HP := Lib.hid hp; clear hp
      have ax0 : ((p : Int) + 1 == 0) = false := by simp; omega
      have ax1 : decide (0 < (p : Int) + 1) = true := decide_eq_true (by omega)
      have ax2 : (0 : Int) < (p : Int) + 1 := by omega
      cases B with
      | nil =>
        have HBN := Lib.hid hB; clear hB
        simp only [List.length_nil]
        have HST : Hid (mergeL (fun x y => x && !y) (x :: A) [] = x :: mergeL (fun x y => x && !y) A []) := Lib.hid (by rw [mergeL]; rfl)
        go_wp2_with fail
        go_quiet (fail)
        go_wp2_with fail
        go_quiet (fail)
        go_wp2_with fail
        go_quiet (fail)
        go_wp2_with fail
        refine (diff1_calls true false _).mono ?_
        rintro e w6 ⟨rfl, hw6⟩
        have g6 : wr.grownBy w6 none := by rw [hw6]; exact grown_drewN _ _ _
        clear hw6
        have HD6 := Lib.hid (own_grown HD.out g6)
        have hsz6 : w.heap.size ≤ w6.heap.size := Nat.le_trans hsz g6.size
        have HG6 := Lib.hid (HGI.out.2.2.trans g6); clear g6 hsz
        go_wp2_with (at_builtin; refine wpList_append_own _ rfl _ _ 28 rfl w.heap.size 3 i0 (.int .i64 0) 1 8 Tryz.underlying28 hi0 hz0 hz1 hz2 rfl (by decide) _ _ _ rfl (HD6.out.alloc _) ⟨w6.heap.size, 0, none⟩ 1 1 [.int .i64 x] rfl rfl (cell_one_new _ _ _) (fun u hu => by simp at hu; subst hu; rfl) (by unfold maxLen; omega) (by omega) (by simp only [World.size_alloc]; omega) ?_; intro v' w7 hown' hgrow7 _; obtain ⟨ga', gc', rfl⟩ := own_shape hown')
        go_roundg (p + (0))
        case measure => rw [HGI.out.1]; have hq1 := HP.out; (first | omega | (simp only [List.length_cons, List.length_nil]; omega))
        case rel =>
          refine ⟨A, [], D ++ [x], sa2, ba, (ac - 1), bc, ⟨by rw [HP.out], rfl, by have hq1 := HP.out; (first | omega | (simp only [List.length_nil]; omega))⟩, ⟨HAT.out.2, HBN.out, ?_⟩, ?_, ?_, ?_⟩
          · have hq0 := HLEN.out; have hq3 := HDL.out; have hq1 := HP.out; simp only [List.length_append, List.length_cons, List.length_nil] at hq0 ⊢; omega
          · rw [List.length_append, HDL.out]; simpa [intCells] using hown'
          · rw [HGI.out.2.1, HST.out, List.append_assoc]; rfl
          · exact grown_own (HG6.out.trans (World.grownBy_alloc _ _ none)) hgrow7 (fun k hk => (HD6.out.lt k hk).1)
      | cons y B =>
        obtain ⟨b2, o2, rfl, cy⟩ := (hB.grown HGI.out.2.2).at (i := 0) (z := y) rfl
        rw [Nat.add_zero] at cy
        have hbc : B.length + 1 ≤ bc := hB.1
        obtain ⟨sb2, hsy, htx⟩ := ints_tail (b := b2) (o := o2) hbc
        have HBT := Lib.hid (And.intro hB (htx w y B rfl hB)); clear hB htx
        simp only [List.length_cons]
        obtain ⟨q, hp⟩ : ∃ q, B.length = q := ⟨_, rfl⟩
        rw [hp] at hsy hbc ⊢
        have HQ := Lib.hid hp; clear hp
        have ay0 : ((q : Int) + 1 == 0) = false := by simp; omega
        have ay1 : decide (0 < (q : Int) + 1) = true := decide_eq_true (by omega)
        have ay2 : (0 : Int) < (q : Int) + 1 := by omega
        by_cases hcase : x < y
        · have q1 : decide (x ≤ y) = true := decide_eq_true (by omega)
          have q2 : decide (y ≤ x) = false := decide_eq_false (by omega)
          have HST : Hid (mergeL (fun x y => x && !y) (x :: A) (y :: B) = x :: mergeL (fun x y => x && !y) A (y :: B)) := Lib.hid (by rw [mergeL, if_pos (by omega)]; rfl)
          clear hcase
          go_wp2_with fail
          go_quiet (fail)
          go_wp2_with fail
          go_quiet (fail)
          go_wp2_with fail
          go_quiet (fail)
          go_wp2_with fail
          refine (diff1_calls true false _).mono ?_
          rintro e w6 ⟨rfl, hw6⟩
          have g6 : wr.grownBy w6 none := by rw [hw6]; exact grown_drewN _ _ _
          clear hw6
          have HD6 := Lib.hid (own_grown HD.out g6)
          have hsz6 : w.heap.size ≤ w6.heap.size := Nat.le_trans hsz g6.size
          have HG6 := Lib.hid (HGI.out.2.2.trans g6); clear g6 hsz
          go_wp2_with (at_builtin; refine wpList_append_own _ rfl _ _ 28 rfl w.heap.size 3 i0 (.int .i64 0) 1 8 Tryz.underlying28 hi0 hz0 hz1 hz2 rfl (by decide) _ _ _ rfl (HD6.out.alloc _) ⟨w6.heap.size, 0, none⟩ 1 1 [.int .i64 x] rfl rfl (cell_one_new _ _ _) (fun u hu => by simp at hu; subst hu; rfl) (by unfold maxLen; omega) (by omega) (by simp only [World.size_alloc]; omega) ?_; intro v' w7 hown' hgrow7 _; obtain ⟨ga', gc', rfl⟩ := own_shape hown')
          go_roundg (p + (q + 1))
          case measure => rw [HGI.out.1]; have hq1 := HP.out; have hq2 := HQ.out; (first | omega | (simp only [List.length_cons]; omega))
          case rel =>
            refine ⟨A, (y :: B), D ++ [x], sa2, (some ⟨b2, o2, none⟩), (ac - 1), bc, ⟨by rw [HP.out], by rw [List.length_cons, HQ.out], by have hq1 := HP.out; have hq2 := HQ.out; (first | omega | (simp only [List.length_cons]; omega))⟩, ⟨HAT.out.2, HBT.out.1, ?_⟩, ?_, ?_, ?_⟩
            · have hq0 := HLEN.out; have hq3 := HDL.out; have hq1 := HP.out; have hq2 := HQ.out; simp only [List.length_append, List.length_cons, List.length_nil] at hq0 ⊢; omega
            · rw [List.length_append, HDL.out]; simpa [intCells] using hown'
            · rw [HGI.out.2.1, HST.out, List.append_assoc]; rfl
            · exact grown_own (HG6.out.trans (World.grownBy_alloc _ _ none)) hgrow7 (fun k hk => (HD6.out.lt k hk).1)
        have hlt := hcase; clear hcase
        by_cases hcase : y < x
        · have q1 : decide (x ≤ y) = false := decide_eq_false (by omega)
          have q2 : decide (y ≤ x) = true := decide_eq_true (by omega)
          have HST : Hid (mergeL (fun x y => x && !y) (x :: A) (y :: B) = mergeL (fun x y => x && !y) (x :: A) B) := Lib.hid (by rw [mergeL, if_neg (by omega), if_pos (by omega)]; rfl)
          clear hcase
          go_wp2_with fail
          go_quiet (fail)
          go_wp2_with fail
          go_quiet (fail)
          go_wp2_with fail
          go_quiet (fail)
          go_wp2_with fail
          refine (diff1_calls false true _).mono ?_
          rintro e w6 ⟨rfl, hw6⟩
          have g6 : wr.grownBy w6 none := by rw [hw6]; exact grown_drewN _ _ _
          clear hw6
          have HD6 := Lib.hid (own_grown HD.out g6)
          have hsz6 : w.heap.size ≤ w6.heap.size := Nat.le_trans hsz g6.size
          have HG6 := Lib.hid (HGI.out.2.2.trans g6); clear g6 hsz
          go_wp2_with fail
          go_roundg (p + 1 + (q))
          case measure => rw [HGI.out.1]; have hq1 := HP.out; have hq2 := HQ.out; (first | omega | (simp only [List.length_cons]; omega))
          case rel =>
            refine ⟨(x :: A), B, D, (some ⟨b1, o1, none⟩), sb2, ac, (bc - 1), ⟨by rw [List.length_cons, HP.out], by rw [HQ.out], by have hq1 := HP.out; have hq2 := HQ.out; (first | omega | (simp only [List.length_cons]; omega))⟩, ⟨HAT.out.1, HBT.out.2, ?_⟩, ?_, ?_, ?_⟩
            · have hq0 := HLEN.out; have hq3 := HDL.out; have hq1 := HP.out; have hq2 := HQ.out; simp only [List.length_cons] at hq0 ⊢; omega
            · rw [HDL.out]; exact HD6.out
            · rw [HGI.out.2.1, HST.out]
            · exact HG6.out
        have hcase := 0
        have q1 : decide (x ≤ y) = true := decide_eq_true (by omega)
        have q2 : decide (y ≤ x) = true := decide_eq_true (by omega)
        have HST : Hid (mergeL (fun x y => x && !y) (x :: A) (y :: B) = mergeL (fun x y => x && !y) A B) := Lib.hid (by rw [mergeL, if_neg (by omega), if_neg (by omega)]; rfl)
        clear hcase
        go_wp2_with fail
        go_quiet (fail)
        go_wp2_with fail
        go_quiet (fail)
        go_wp2_with fail
        go_quiet (fail)
        go_wp2_with fail
        go_quiet (fail)
        go_wp2_with fail
        refine (diff1_calls true true _).mono ?_
        rintro e w6 ⟨rfl, hw6⟩
        have g6 : wr.grownBy w6 none := by rw [hw6]; exact grown_drewN _ _ _
        clear hw6
        have HD6 := Lib.hid (own_grown HD.out g6)
        have hsz6 : w.heap.size ≤ w6.heap.size := Nat.le_trans hsz g6.size
        have HG6 := Lib.hid (HGI.out.2.2.trans g6); clear g6 hsz
        go_wp2_with fail
        go_roundg (p + (q))
        case measure => rw [HGI.out.1]; have hq1 := HP.out; have hq2 := HQ.out; (first | omega | (simp only [List.length_cons]; omega))
        case rel =>
          refine ⟨A, B, D, sa2, sb2, (ac - 1), (bc - 1), ⟨by rw [HP.out], by rw [HQ.out], by have hq1 := HP.out; have hq2 := HQ.out; (first | omega | (simp only [List.length_cons, List.length_nil]; omega))⟩, ⟨HAT.out.2, HBT.out.2, ?_⟩, ?_, ?_, ?_⟩
          · have hq0 := HLEN.out; have hq3 := HDL.out; have hq1 := HP.out; have hq2 := HQ.out; simp only [List.length_cons] at hq0 ⊢; omega
          · rw [HDL.out]; exact HD6.out
          · rw [HGI.out.2.1, HST.out]
          · exact HG6.out

theorem six_cells (w : World) (u0 u1 v0 v1 x0 x1 : Value) (s t r : TypeId) :
    w.heap.size + 2 < (((w.alloc (.cells #[u0, u1] s)).alloc (.cells #[v0, v1] t)).alloc (.cells #[x0, x1] r)).heap.size ∧
    (((w.alloc (.cells #[u0, u1] s)).alloc (.cells #[v0, v1] t)).alloc (.cells #[x0, x1] r)).cell? ⟨w.heap.size, 0, none⟩ = some u0 ∧ (((w.alloc (.cells #[u0, u1] s)).alloc (.cells #[v0, v1] t)).alloc (.cells #[x0, x1] r)).cell? ⟨w.heap.size, 1, none⟩ = some u1 ∧
    (((w.alloc (.cells #[u0, u1] s)).alloc (.cells #[v0, v1] t)).alloc (.cells #[x0, x1] r)).cell? ⟨w.heap.size + 1, 0, none⟩ = some v0 ∧ (((w.alloc (.cells #[u0, u1] s)).alloc (.cells #[v0, v1] t)).alloc (.cells #[x0, x1] r)).cell? ⟨w.heap.size + 1, 1, none⟩ = some v1 ∧
    (((w.alloc (.cells #[u0, u1] s)).alloc (.cells #[v0, v1] t)).alloc (.cells #[x0, x1] r)).cell? ⟨w.heap.size + 2, 0, none⟩ = some x0 ∧ (((w.alloc (.cells #[u0, u1] s)).alloc (.cells #[v0, v1] t)).alloc (.cells #[x0, x1] r)).cell? ⟨w.heap.size + 2, 1, none⟩ = some x1 ∧
    (((w.alloc (.cells #[u0, u1] s)).alloc (.cells #[v0, v1] t)).alloc (.cells #[x0, x1] r)).frozen? ⟨w.heap.size + 2, 0, none⟩ = false ∧ (((w.alloc (.cells #[u0, u1] s)).alloc (.cells #[v0, v1] t)).alloc (.cells #[x0, x1] r)).frozen? ⟨w.heap.size + 2, 1, none⟩ = false := by
  refine ⟨by simp, by go_simp, by go_simp, by go_simp, by go_simp, by go_simp, by go_simp, by go_simp, by go_simp⟩
theorem results124 (tmps : Array Value) (w : World) (b : Nat) (a : Option Addr) (n c : Nat) (x : Int) (ht : tmps.getD 4 undef = .pointer (some ⟨b, 0, none⟩)) (h0 : w.cell? ⟨b, 0, none⟩ = some (.int .i64 x)) (h1 : w.cell? ⟨b, 1, none⟩ = some (.slice a n c)) :
    (results Tryz.f30 tmps).run Tryz.prog w = .ok (.agg #[.int .i64 x, .slice a n c]) w := by
  have ht' : tmps[4]?.getD undef = .pointer (some ⟨b, 0, none⟩) := by simpa using ht
  simp [results, ht', go_sem, h0, h1, Result.andThen]
abbrev diffL (xs ys : List Int) : List Int := mergeL (fun x y => x && !y) xs ys
theorem diff_calls (x y : Int) (xs ys : List Int) (xa ya : Option Addr) (xc yc : Nat) (w : World) (h : IntsW w xa xc xs) (h' : IntsW w ya yc ys) (hl : xs.length ≤ 100000) (hl' : ys.length ≤ 100000) :
    Calls Tryz.prog 30 #[.agg #[.int .i64 x, .slice xa xs.length xc], .agg #[.int .i64 y, .slice ya ys.length yc]] w fun e w' =>
      ∃ a' c', e = .returned (.agg #[.int .i64 x, .slice a' (diffL xs ys).length c']) ∧ Span w.heap.size w'.heap.size w' (fun W => IntsW W a' c' (diffL xs ys)) ∧ w.grownBy w' none := by
  obtain ⟨n, hn⟩ : ∃ n, xs.length = n := ⟨_, rfl⟩
  obtain ⟨m, hm⟩ : ∃ m, ys.length = m := ⟨_, rfl⟩
  obtain ⟨R, hR⟩ : ∃ R, diffL xs ys = R := ⟨_, rfl⟩
  obtain ⟨p, hp⟩ : ∃ p, R.length = p := ⟨_, rfl⟩
  rw [hR, hp]
  have hg1 := World.grownBy_alloc w (.cells #[.int .i64 x, .slice xa n xc] 40) none
  have hg2 := World.grownBy_alloc (w.alloc (.cells #[.int .i64 x, .slice xa n xc] 40)) (.cells #[.int .i64 y, .slice ya m yc] 40) none
  have hg3 := World.grownBy_alloc ((w.alloc (.cells #[.int .i64 x, .slice xa n xc] 40)).alloc (.cells #[.int .i64 y, .slice ya m yc] 40)) (.cells #[.int .i64 0, .slice none 0 0] 40) none
  have hg := (hg1.trans hg2).trans hg3
  have hc := six_cells w (.int .i64 x) (.slice xa n xc) (.int .i64 y) (.slice ya m yc) (.int .i64 0) (.slice none 0 0) 40 40 40
  obtain ⟨W, hW⟩ : ∃ W, ((w.alloc (.cells #[.int .i64 x, .slice xa n xc] 40)).alloc (.cells #[.int .i64 y, .slice ya m yc] 40)).alloc (.cells #[.int .i64 0, .slice none 0 0] 40) = W := ⟨_, rfl⟩
  rw [hW] at hg hc
  have HC := Lib.hid (fun (W' : World) (hW' : W.grownBy W' none) => mergeDiff_calls xs ys xa ya xc yc W' ((h.grown hg).grown hW') ((h'.grown hg).grown hW') hl hl')
  have hR' : mergeL (fun x y => x && !y) xs ys = R := hR
  rw [hR', hn, hm, hp] at HC
  rw [hn, hm]
  have HG := Lib.hid hg
  clear hg hg1 hg2 hg3 h h' hl hl' hn hm hR hR' hp
  obtain ⟨hlt, c0, c1, d0, d1, e0, e1, ef0, ef1⟩ := hc
  go_enter Tryz.func30, Tryz.ntmps30
  go_wp2_with fail
  clear hW
  go_region_with (go_at_call 65; refine (HC.out W.drew (grown_drewN W 1 _)).mono ?_; rintro e w3 ⟨a', c', rfl, hi, g3⟩; have HI := Lib.hid hi; clear hi; replace g3 := World.grownBy.trans (b := W.drew) (grown_drewN W 1 _) g3; have k0 := g3.cell c0 (by simp); have k1 := g3.cell c1 (by simp); have l0 := g3.cell d0 (by simp); have l1 := g3.cell d1 (by simp); have m0 := g3.cell e0 (by simp); have m1 := g3.cell e1 (by simp); have f0 := (grown_frozen g3 hlt 0).trans ef0; have f1 := (grown_frozen g3 hlt 1).trans ef1; have HG3 := Lib.hid g3; clear g3)
  all_goals
    go_wp2_with fail
    refine bodyPost_ret (results124 _ _ (w.heap.size + 2) a' p c' x rfl (by rw [World.cell?_setCell_other _ _ _ _ (by intro e; injection e with _ e; cases e)]; exact World.cell?_setCell_same _ _ _ m0) (World.cell?_setCell_same _ _ _ (by rw [World.cell?_setCell_other _ _ _ _ (by intro e; injection e with _ e; cases e)]; exact m1))) rfl ⟨a', c', rfl, ?_, ?_⟩
    · have hs := HI.out
      have hs2 := (hs.off (grown_set w3 (w.heap.size + 2) 0 (.int .i64 x)) (fun y hy => by cases hy; exact .inl (by simpa using hlt))).off (grown_set _ (w.heap.size + 2) 1 (.slice a' p c')) (fun y hy => by cases hy; exact .inl (by simpa using hlt))
      exact hs2.wide (Nat.le_trans HG.out.size (Nat.le_refl _)) (by simp [World.setCell]) (Nat.le_refl _)
    · have hg := HG.out.trans HG3.out
      have hg1 := grown_own hg (grown_set w3 (w.heap.size + 2) 0 (.int .i64 x)) (fun k hk => by cases hk; omega)
      exact grown_own hg1 (grown_set _ (w.heap.size + 2) 1 (.slice a' p c')) (fun k hk => by cases hk; omega)

theorem field53 (x : Int) (a : Option Addr) (p c : Nat) (w : World) : (Instr.field 40 (.agg #[.int .i64 x, .slice a p c]) 1).run Tryz.prog w = .ok (.slice a p c) w := by kernel_rfl
def inB (xs ys : List Int) : Bool := decide ((diffL xs ys).length = 0)
theorem in_calls (x y : Int) (xs ys : List Int) (xa ya : Option Addr) (xc yc : Nat) (w : World) (h : IntsW w xa xc xs) (h' : IntsW w ya yc ys) (hl : xs.length ≤ 100000) (hl' : ys.length ≤ 100000) :
    Calls Tryz.prog 28 #[.agg #[.int .i64 x, .slice xa xs.length xc], .agg #[.int .i64 y, .slice ya ys.length yc]] w fun e w' => e = .returned (.bool (inB xs ys)) ∧ w.grownBy w' none := by
  obtain ⟨n, hn⟩ : ∃ n, xs.length = n := ⟨_, rfl⟩
  obtain ⟨m, hm⟩ : ∃ m, ys.length = m := ⟨_, rfl⟩
  have hg1 := World.grownBy_alloc w (.cells #[.int .i64 x, .slice xa n xc] 40) none
  have hg2 := World.grownBy_alloc (w.alloc (.cells #[.int .i64 x, .slice xa n xc] 40)) (.cells #[.int .i64 y, .slice ya m yc] 40) none
  have hg := hg1.trans hg2
  have HD := Lib.hid (And.intro (diff_calls x y xs ys xa ya xc yc _ (h.grown hg) (h'.grown hg) hl hl') hg)
  rw [hn, hm] at HD ⊢
  obtain ⟨p, hp⟩ : ∃ p, (diffL xs ys).length = p := ⟨_, rfl⟩
  rw [hp] at HD
  have HP : Hid (inB xs ys = decide (p = 0)) := Lib.hid (by rw [inB, hp])
  clear hg hg1 hg2 hn hm h h' hl hl' hp
  go_enter Tryz.func28, Tryz.ntmps28
  go_wp2_with fail
  refine HD.out.1.mono ?_
  rintro e w1 ⟨a', c', rfl, -, g1⟩
  have HG := Lib.hid (HD.out.2.trans g1); clear g1
  have hf := field53 x a' p c'
  by_cases hp0 : p = 0
  · have f0 : ((p : Int) == 0) = true := by simp; omega
    have HPP : Hid (inB xs ys = true) := Lib.hid (by rw [HP.out]; simpa using hp0)
    clear hp0
    go_wp2_with fail
    go_ret
    exact ⟨by rw [HPP.out]; rfl, HG.out⟩
  · have f0 : ((p : Int) == 0) = false := by simp; omega
    have HPP : Hid (inB xs ys = false) := Lib.hid (by rw [HP.out]; simpa using hp0)
    clear hp0
    go_wp2_with fail
    go_ret
    exact ⟨by rw [HPP.out]; rfl, HG.out⟩

abbrev Up (l : List Int) : Prop := l.Pairwise (· < ·)
theorem up_ext : ∀ {l m : List Int}, Up l → Up m → (∀ x, x ∈ l ↔ x ∈ m) → l = m
  | [], [], _, _, _ => rfl
  | [], y :: m, _, _, h => by have := (h y).2 (by simp); cases this
  | x :: l, [], _, _, h => by have := (h x).1 (by simp); cases this
  | x :: l, y :: m, hl, hm, h => by
    obtain ⟨hx, hl'⟩ := List.pairwise_cons.1 hl
    obtain ⟨hy, hm'⟩ := List.pairwise_cons.1 hm
    have hxy : x = y := by
      rcases List.mem_cons.1 ((h x).1 (by simp)) with e | e
      · exact e
      · rcases List.mem_cons.1 ((h y).2 (by simp)) with e' | e'
        · exact e'.symm
        · have := hx y e'; have := hy x e; omega
    subst hxy
    congr 1
    refine up_ext hl' hm' fun z => ?_
    constructor
    · intro hz
      rcases List.mem_cons.1 ((h z).1 (List.mem_cons_of_mem _ hz)) with e | e
      · subst e; have := hx z hz; omega
      · exact e
    · intro hz
      rcases List.mem_cons.1 ((h z).2 (List.mem_cons_of_mem _ hz)) with e | e
      · subst e; have := hy z hz; omega
      · exact e
theorem mem_putIf {k : Bool} {x z : Int} {l : List Int} : z ∈ putIf k x l ↔ (k = true ∧ z = x) ∨ z ∈ l := by
  unfold putIf
  cases k <;> simp
theorem merge_mem (kp : Bool → Bool → Bool) (h0 : kp false false = false) (z : Int) : ∀ (xs ys : List Int), Up xs → Up ys →
    (z ∈ mergeL kp xs ys ↔ kp (decide (z ∈ xs)) (decide (z ∈ ys)) = true) := by
  intro xs ys
  fun_induction mergeL kp xs ys with
  | case1 => intro _ _; simp [h0]
  | case2 x a ih =>
    intro hx hy
    obtain ⟨hxa, ha⟩ := List.pairwise_cons.1 hx
    rw [mem_putIf, ih ha hy]
    by_cases hz : z = x
    · subst hz
      have : z ∉ a := fun h => by have := hxa z h; omega
      simp [this, h0]
    · simp [hz]
  | case3 y b ih =>
    intro hx hy
    obtain ⟨hyb, hb⟩ := List.pairwise_cons.1 hy
    rw [mem_putIf, ih hx hb]
    by_cases hz : z = y
    · subst hz
      have : z ∉ b := fun h => by have := hyb z h; omega
      simp [this, h0]
    · simp [hz]
  | case4 x a y b h ih =>
    intro hx hy
    obtain ⟨hxa, ha⟩ := List.pairwise_cons.1 hx
    obtain ⟨hyb, hb⟩ := List.pairwise_cons.1 hy
    rw [mem_putIf, ih ha hy]
    by_cases hz : z = x
    · subst hz
      have h1 : z ∉ a := fun h => by have := hxa z h; omega
      have h2 : z ∉ y :: b := fun h' => by
        rcases List.mem_cons.1 h' with e | e
        · omega
        · have := hyb z e; omega
      simp [h1, h2, h0]
    · simp [hz]
  | case5 x a y b h h' ih =>
    intro hx hy
    obtain ⟨hxa, ha⟩ := List.pairwise_cons.1 hx
    obtain ⟨hyb, hb⟩ := List.pairwise_cons.1 hy
    rw [mem_putIf, ih hx hb]
    by_cases hz : z = y
    · subst hz
      have h1 : z ∉ b := fun h => by have := hyb z h; omega
      have h2 : z ∉ x :: a := fun h' => by
        rcases List.mem_cons.1 h' with e | e
        · omega
        · have := hxa z e; omega
      simp [h1, h2, h0]
    · simp [hz]
  | case6 x a y b h h' ih =>
    intro hx hy
    obtain ⟨hxa, ha⟩ := List.pairwise_cons.1 hx
    obtain ⟨hyb, hb⟩ := List.pairwise_cons.1 hy
    have hxy : x = y := by omega
    subst hxy
    rw [mem_putIf, ih ha hb]
    by_cases hz : z = x
    · subst hz
      have h1 : z ∉ b := fun h => by have := hyb z h; omega
      have h2 : z ∉ a := fun h => by have := hxa z h; omega
      simp [h1, h2, h0]
    · simp [hz]
theorem merge_sub (kp : Bool → Bool → Bool) (z : Int) : ∀ (xs ys : List Int), z ∈ mergeL kp xs ys → z ∈ xs ∨ z ∈ ys := by
  intro xs ys
  fun_induction mergeL kp xs ys with
  | case1 => intro h; simp at h
  | case2 x a ih => rw [mem_putIf]; rintro (⟨_, rfl⟩ | h)
                    · simp
                    · have := ih h; simp at this; simp [this]
  | case3 y b ih => rw [mem_putIf]; rintro (⟨_, rfl⟩ | h)
                    · simp
                    · have := ih h; simp at this; simp [this]
  | case4 x a y b h ih => rw [mem_putIf]; rintro (⟨_, rfl⟩ | h)
                          · simp
                          · rcases ih h with h | h
                            · simp [h]
                            · exact .inr h
  | case5 x a y b h h' ih => rw [mem_putIf]; rintro (⟨_, rfl⟩ | h)
                             · simp
                             · rcases ih h with h | h
                               · exact .inl h
                               · simp [h]
  | case6 x a y b h h' ih => rw [mem_putIf]; rintro (⟨_, rfl⟩ | h)
                             · simp
                             · rcases ih h with h | h
                               · simp [h]
                               · simp [h]
theorem merge_up (kp : Bool → Bool → Bool) : ∀ (xs ys : List Int), Up xs → Up ys → Up (mergeL kp xs ys) := by
  intro xs ys
  have put : ∀ (k : Bool) (x : Int) (l : List Int), (∀ z ∈ l, x < z) → Up l → Up (putIf k x l) := by
    intro k x l h hl
    cases k
    · exact hl
    · exact List.pairwise_cons.2 ⟨h, hl⟩
  fun_induction mergeL kp xs ys with
  | case1 => intro _ _; exact List.Pairwise.nil
  | case2 x a ih =>
    intro hx hy
    obtain ⟨hxa, ha⟩ := List.pairwise_cons.1 hx
    refine put _ _ _ (fun z hz => ?_) (ih ha hy)
    rcases merge_sub kp z _ _ hz with h | h
    · exact hxa z h
    · cases h
  | case3 y b ih =>
    intro hx hy
    obtain ⟨hyb, hb⟩ := List.pairwise_cons.1 hy
    refine put _ _ _ (fun z hz => ?_) (ih hx hb)
    rcases merge_sub kp z _ _ hz with h | h
    · cases h
    · exact hyb z h
  | case4 x a y b h ih =>
    intro hx hy
    obtain ⟨hxa, ha⟩ := List.pairwise_cons.1 hx
    obtain ⟨hyb, hb⟩ := List.pairwise_cons.1 hy
    refine put _ _ _ (fun z hz => ?_) (ih ha hy)
    rcases merge_sub kp z _ _ hz with h | h
    · exact hxa z h
    · rcases List.mem_cons.1 h with e | e
      · omega
      · have := hyb z e; omega
  | case5 x a y b h h' ih =>
    intro hx hy
    obtain ⟨hxa, ha⟩ := List.pairwise_cons.1 hx
    obtain ⟨hyb, hb⟩ := List.pairwise_cons.1 hy
    refine put _ _ _ (fun z hz => ?_) (ih hx hb)
    rcases merge_sub kp z _ _ hz with h | h
    · rcases List.mem_cons.1 h with e | e
      · omega
      · have := hxa z e; omega
    · exact hyb z h
  | case6 x a y b h h' ih =>
    intro hx hy
    obtain ⟨hxa, ha⟩ := List.pairwise_cons.1 hx
    obtain ⟨hyb, hb⟩ := List.pairwise_cons.1 hy
    refine put _ _ _ (fun z hz => ?_) (ih ha hb)
    rcases merge_sub kp z _ _ hz with h | h
    · exact hxa z h
    · have := hyb z h; omega
abbrev unionL (xs ys : List Int) : List Int := mergeL (fun x y => x || y) xs ys
theorem mem_union {xs ys : List Int} (hx : Up xs) (hy : Up ys) {z : Int} : z ∈ unionL xs ys ↔ z ∈ xs ∨ z ∈ ys := by
  rw [unionL, merge_mem _ rfl z xs ys hx hy]; simp
theorem mem_diff {xs ys : List Int} (hx : Up xs) (hy : Up ys) {z : Int} : z ∈ diffL xs ys ↔ z ∈ xs ∧ z ∉ ys := by
  rw [diffL, merge_mem _ rfl z xs ys hx hy]; simp
theorem union1_calls (x y : Bool) (w : World) : Calls Tryz.prog 66 #[.bool x, .bool y] w fun e w' => e = .returned (.bool (x || y)) ∧ w' = w := by
  cases x <;> cases y
  all_goals
    go_enter Tryz.func66, Tryz.ntmps66
    go_wp2
    go_ret
    exact ⟨rfl, rfl⟩
theorem mergeUnion_calls (xs ys : List Int) (xa ya : Option Addr) (xc yc : Nat) (w : World) (h : IntsW w xa xc xs) (h' : IntsW w ya yc ys) (hl : xs.length ≤ 100000) (hl' : ys.length ≤ 100000) :
    Calls Tryz.prog 65 #[.slice xa xs.length xc, .slice ya ys.length yc, .func (.func 66) #[] #[]] w fun e w' =>
      ∃ a' c', e = .returned (.slice a' (mergeL (fun x y => x || y) xs ys).length c') ∧ Span w.heap.size w'.heap.size w' (fun W => IntsW W a' c' (mergeL (fun x y => x || y) xs ys)) ∧ w.grownBy w' none := by
  obtain ⟨i0, hi0, hz0, hz1, hz2⟩ := info_parts info3
  obtain ⟨R, hR⟩ : ∃ R, mergeL (fun x y => x || y) xs ys = R := ⟨_, rfl⟩
  rw [hR]
  have HR := Lib.hid hR; clear hR
  have HL := Lib.hid (And.intro hl hl'); clear hl hl'
  have HI := Lib.hid (And.intro h h'); clear h h'
  obtain ⟨n, hn⟩ : ∃ n, xs.length = n := ⟨_, rfl⟩
  obtain ⟨m, hm⟩ : ∃ m, ys.length = m := ⟨_, rfl⟩
  rw [hn, hm]
  have HN := Lib.hid (And.intro hn hm); clear hn hm
  go_enter Tryz.func65, Tryz.ntmps65
  go_wp2_with fail
  go_loopg [0, 1, 7] (n + m) (fun g s0 s1 s7 wr => ∃ (A B D : List Int) (aa ba : Option Addr) (ac bc : Nat), (s0 = .slice aa A.length ac ∧ s1 = .slice ba B.length bc ∧ g = A.length + B.length) ∧ (IntsW w aa ac A ∧ IntsW w ba bc B ∧ D.length + A.length + B.length ≤ 200000) ∧
    wr.ownsRow w.heap.size 3 1 s7 D.length (intCells D) ∧ R = D ++ mergeL (fun x y => x || y) A B ∧ w.grownBy wr none)
  case atStart => exact ⟨xs, ys, [], xa, ya, xc, yc, ⟨by rw [HN.out.1], by rw [HN.out.2], by rw [HN.out.1, HN.out.2]⟩, ⟨HI.out.1, HI.out.2, by have := HL.out; simp; omega⟩, World.ownsRow_nil _ _ _ _, by rw [← HR.out]; rfl, grown_refl _ _⟩
  case round =>
    obtain ⟨A, B, D, aa, ba, ac, bc, ⟨rfl, rfl, hg⟩, ⟨hA, hB, hlen⟩, hown, hRD, hgr⟩ := hrel
    obtain ⟨da, dc, hs7⟩ := own_shape hown
    subst hs7
    have HGI := Lib.hid (And.intro hg (And.intro hRD hgr)); clear hg hRD hgr
    have HD := Lib.hid hown; clear hown
    obtain ⟨d, hd⟩ : ∃ d, D.length = d := ⟨_, rfl⟩
    rw [hd] at HD hlen ⊢
    have HDL := Lib.hid hd; clear hd
    have hdl : d ≤ 200000 := by omega
    have hsz := HGI.out.2.2.size
    have HLEN := Lib.hid hlen; clear hlen
    cases A with
    | nil =>
      have HA := Lib.hid hA; clear hA
      simp only [List.length_nil]
      cases B with
      | nil =>
        clear hB
        simp only [List.length_nil]
        obtain ⟨a', c', hv, hsp⟩ := ints_span (show wr.ownsRow w.heap.size 3 1 (.slice da d dc) D.length (intCells D) by rw [HDL.out]; exact HD.out)
        replace hsp := hsp.map fun _ h => h.weak
        injection hv with hv1 hv2 hv3
        subst hv1 hv3
        have hRe : R = D := by rw [HGI.out.2.1, mergeL, List.append_nil]
        subst hRe
        have HSP := Lib.hid hsp; clear hsp hv2 hsz
        go_wp2_with fail
        go_ret
        exact ⟨_, _, by rw [HDL.out]; rfl, HSP.out.wide (Nat.le_refl _) (Nat.le_refl _) (Nat.le_refl _), HGI.out.2.2⟩
      | cons y B =>
        obtain ⟨b2, o2, rfl, cy⟩ := (hB.grown HGI.out.2.2).at (i := 0) (z := y) rfl
        rw [Nat.add_zero] at cy
        have hbc : B.length + 1 ≤ bc := hB.1
        obtain ⟨sb2, hsy, htx⟩ := ints_tail (b := b2) (o := o2) hbc
        have HBT := Lib.hid (And.intro hB (htx w y B rfl hB)); clear hB htx
        simp only [List.length_cons]
        obtain ⟨q, hp⟩ : ∃ q, B.length = q := ⟨_, rfl⟩
        rw [hp] at hsy hbc ⊢
        have HQ := Lib.hid hp; clear hp
        have ay0 : ((q : Int) + 1 == 0) = false := by simp; omega
        have ay1 : decide (0 < (q : Int) + 1) = true := decide_eq_true (by omega)
        have ay2 : (0 : Int) < (q : Int) + 1 := by omega
        have HST : Hid (mergeL (fun x y => x || y) [] (y :: B) = y :: mergeL (fun x y => x || y) [] B) := Lib.hid (by rw [mergeL]; rfl)
        go_wp2_with fail
        go_quiet (fail)
        go_wp2_with fail
        go_quiet (fail)
        go_wp2_with fail
        go_quiet (fail)
        go_wp2_with fail
        refine (union1_calls false true _).mono ?_
        rintro e w6 ⟨rfl, hw6⟩
        have g6 : wr.grownBy w6 none := by rw [hw6]; exact grown_drewN _ _ _
        clear hw6
        have HD6 := Lib.hid (own_grown HD.out g6)
        have hsz6 : w.heap.size ≤ w6.heap.size := Nat.le_trans hsz g6.size
        have HG6 := Lib.hid (HGI.out.2.2.trans g6); clear g6 hsz
        go_wp2_with (at_builtin; refine wpList_append_own _ rfl _ _ 28 rfl w.heap.size 3 i0 (.int .i64 0) 1 8 Tryz.underlying28 hi0 hz0 hz1 hz2 rfl (by decide) _ _ _ rfl (HD6.out.alloc _) ⟨w6.heap.size, 0, none⟩ 1 1 [.int .i64 y] rfl rfl (cell_one_new _ _ _) (fun u hu => by simp at hu; subst hu; rfl) (by unfold maxLen; omega) (by omega) (by simp only [World.size_alloc]; omega) ?_; intro v' w7 hown' hgrow7 _; obtain ⟨ga', gc', rfl⟩ := own_shape hown')
        go_roundg (0 + (q))
        case measure => rw [HGI.out.1]; have hq2 := HQ.out; (first | omega | (simp only [List.length_cons, List.length_nil]; omega))
        case rel =>
          refine ⟨[], B, D ++ [y], aa, sb2, ac, (bc - 1), ⟨rfl, by rw [HQ.out], by have hq2 := HQ.out; (first | omega | (simp only [List.length_nil]; omega))⟩, ⟨HA.out, HBT.out.2, ?_⟩, ?_, ?_, ?_⟩
          · have hq0 := HLEN.out; have hq3 := HDL.out; have hq2 := HQ.out; simp only [List.length_append, List.length_cons, List.length_nil] at hq0 ⊢; omega
          · rw [List.length_append, HDL.out]; simpa [intCells] using hown'
          · rw [HGI.out.2.1, HST.out, List.append_assoc]; rfl
          · exact grown_own (HG6.out.trans (World.grownBy_alloc _ _ none)) hgrow7 (fun k hk => (HD6.out.lt k hk).1)
    | cons x A =>
      obtain ⟨b1, o1, rfl, cx⟩ := (hA.grown HGI.out.2.2).at (i := 0) (z := x) rfl
      rw [Nat.add_zero] at cx
      have hac : A.length + 1 ≤ ac := hA.1
      obtain ⟨sa2, hsx, htx⟩ := ints_tail (b := b1) (o := o1) hac
      have HAT := Lib.hid (And.intro hA (htx w x A rfl hA)); clear hA htx
      simp only [List.length_cons]
      obtain ⟨p, hp⟩ : ∃ p, A.length = p := ⟨_, rfl⟩
      rw [hp] at hsx hac ⊢
      have HP := Lib.hid hp; clear hp
      have ax0 : ((p : Int) + 1 == 0) = false := by simp; omega
      have ax1 : decide (0 < (p : Int) + 1) = true := decide_eq_true (by omega)
      have ax2 : (0 : Int) < (p : Int) + 1 := by omega
      cases B with
      | nil =>
        have HBN := Lib.hid hB; clear hB
        simp only [List.length_nil]
        have HST : Hid (mergeL (fun x y => x || y) (x :: A) [] = x :: mergeL (fun x y => x || y) A []) := Lib.hid (by rw [mergeL]; rfl)
        go_wp2_with fail
        go_quiet (fail)
        go_wp2_with fail
        go_quiet (fail)
        go_wp2_with fail
        go_quiet (fail)
        go_wp2_with fail
        refine (union1_calls true false _).mono ?_
        rintro e w6 ⟨rfl, hw6⟩
        have g6 : wr.grownBy w6 none := by rw [hw6]; exact grown_drewN _ _ _
        clear hw6
        have HD6 := Lib.hid (own_grown HD.out g6)
        have hsz6 : w.heap.size ≤ w6.heap.size := Nat.le_trans hsz g6.size
        have HG6 := Lib.hid (HGI.out.2.2.trans g6); clear g6 hsz
        go_wp2_with (at_builtin; refine wpList_append_own _ rfl _ _ 28 rfl w.heap.size 3 i0 (.int .i64 0) 1 8 Tryz.underlying28 hi0 hz0 hz1 hz2 rfl (by decide) _ _ _ rfl (HD6.out.alloc _) ⟨w6.heap.size, 0, none⟩ 1 1 [.int .i64 x] rfl rfl (cell_one_new _ _ _) (fun u hu => by simp at hu; subst hu; rfl) (by unfold maxLen; omega) (by omega) (by simp only [World.size_alloc]; omega) ?_; intro v' w7 hown' hgrow7 _; obtain ⟨ga', gc', rfl⟩ := own_shape hown')
        go_roundg (p + (0))
        case measure => rw [HGI.out.1]; have hq1 := HP.out; (first | omega | (simp only [List.length_cons, List.length_nil]; omega))
        case rel =>
          refine ⟨A, [], D ++ [x], sa2, ba, (ac - 1), bc, ⟨by rw [HP.out], rfl, by have hq1 := HP.out; (first | omega | (simp only [List.length_nil]; omega))⟩, ⟨HAT.out.2, HBN.out, ?_⟩, ?_, ?_, ?_⟩
          · have hq0 := HLEN.out; have hq3 := HDL.out; have hq1 := HP.out; simp only [List.length_append, List.length_cons, List.length_nil] at hq0 ⊢; omega
          · rw [List.length_append, HDL.out]; simpa [intCells] using hown'
          · rw [HGI.out.2.1, HST.out, List.append_assoc]; rfl
          · exact grown_own (HG6.out.trans (World.grownBy_alloc _ _ none)) hgrow7 (fun k hk => (HD6.out.lt k hk).1)
      | cons y B =>
        obtain ⟨b2, o2, rfl, cy⟩ := (hB.grown HGI.out.2.2).at (i := 0) (z := y) rfl
        rw [Nat.add_zero] at cy
        have hbc : B.length + 1 ≤ bc := hB.1
        obtain ⟨sb2, hsy, htx⟩ := ints_tail (b := b2) (o := o2) hbc
        have HBT := Lib.hid (And.intro hB (htx w y B rfl hB)); clear hB htx
        simp only [List.length_cons]
        obtain ⟨q, hp⟩ : ∃ q, B.length = q := ⟨_, rfl⟩
        rw [hp] at hsy hbc ⊢
        have HQ := Lib.hid hp; clear hp
        have ay0 : ((q : Int) + 1 == 0) = false := by simp; omega
        have ay1 : decide (0 < (q : Int) + 1) = true := decide_eq_true (by omega)
        have ay2 : (0 : Int) < (q : Int) + 1 := by omega
        by_cases hcase : x < y
        · have q1 : decide (x ≤ y) = true := decide_eq_true (by omega)
          have q2 : decide (y ≤ x) = false := decide_eq_false (by omega)
          have HST : Hid (mergeL (fun x y => x || y) (x :: A) (y :: B) = x :: mergeL (fun x y => x || y) A (y :: B)) := Lib.hid (by rw [mergeL, if_pos (by omega)]; rfl)
          clear hcase
          go_wp2_with fail
          go_quiet (fail)
          go_wp2_with fail
          go_quiet (fail)
          go_wp2_with fail
          go_quiet (fail)
          go_wp2_with fail
          refine (union1_calls true false _).mono ?_
          rintro e w6 ⟨rfl, hw6⟩
          have g6 : wr.grownBy w6 none := by rw [hw6]; exact grown_drewN _ _ _
          clear hw6
          have HD6 := Lib.hid (own_grown HD.out g6)
          have hsz6 : w.heap.size ≤ w6.heap.size := Nat.le_trans hsz g6.size
          have HG6 := Lib.hid (HGI.out.2.2.trans g6); clear g6 hsz
          go_wp2_with (at_builtin; refine wpList_append_own _ rfl _ _ 28 rfl w.heap.size 3 i0 (.int .i64 0) 1 8 Tryz.underlying28 hi0 hz0 hz1 hz2 rfl (by decide) _ _ _ rfl (HD6.out.alloc _) ⟨w6.heap.size, 0, none⟩ 1 1 [.int .i64 x] rfl rfl (cell_one_new _ _ _) (fun u hu => by simp at hu; subst hu; rfl) (by unfold maxLen; omega) (by omega) (by simp only [World.size_alloc]; omega) ?_; intro v' w7 hown' hgrow7 _; obtain ⟨ga', gc', rfl⟩ := own_shape hown')
          go_roundg (p + (q + 1))
          case measure => rw [HGI.out.1]; have hq1 := HP.out; have hq2 := HQ.out; (first | omega | (simp only [List.length_cons]; omega))
          case rel =>
            refine ⟨A, (y :: B), D ++ [x], sa2, (some ⟨b2, o2, none⟩), (ac - 1), bc, ⟨by rw [HP.out], by rw [List.length_cons, HQ.out], by have hq1 := HP.out; have hq2 := HQ.out; (first | omega | (simp only [List.length_cons]; omega))⟩, ⟨HAT.out.2, HBT.out.1, ?_⟩, ?_, ?_, ?_⟩
            · have hq0 := HLEN.out; have hq3 := HDL.out; have hq1 := HP.out; have hq2 := HQ.out; simp only [List.length_append, List.length_cons, List.length_nil] at hq0 ⊢; omega
            · rw [List.length_append, HDL.out]; simpa [intCells] using hown'
            · rw [HGI.out.2.1, HST.out, List.append_assoc]; rfl
            · exact grown_own (HG6.out.trans (World.grownBy_alloc _ _ none)) hgrow7 (fun k hk => (HD6.out.lt k hk).1)
        have hlt := hcase; clear hcase
        by_cases hcase : y < x
        · have q1 : decide (x ≤ y) = false := decide_eq_false (by omega)
          have q2 : decide (y ≤ x) = true := decide_eq_true (by omega)
          have HST : Hid (mergeL (fun x y => x || y) (x :: A) (y :: B) = y :: mergeL (fun x y => x || y) (x :: A) B) := Lib.hid (by rw [mergeL, if_neg (by omega), if_pos (by omega)]; rfl)
          clear hcase
          go_wp2_with fail
          go_quiet (fail)
          go_wp2_with fail
          go_quiet (fail)
          go_wp2_with fail
          go_quiet (fail)
          go_wp2_with fail
          refine (union1_calls false true _).mono ?_
          rintro e w6 ⟨rfl, hw6⟩
          have g6 : wr.grownBy w6 none := by rw [hw6]; exact grown_drewN _ _ _
          clear hw6
          have HD6 := Lib.hid (own_grown HD.out g6)
          have hsz6 : w.heap.size ≤ w6.heap.size := Nat.le_trans hsz g6.size
          have HG6 := Lib.hid (HGI.out.2.2.trans g6); clear g6 hsz
          go_wp2_with (at_builtin; refine wpList_append_own _ rfl _ _ 28 rfl w.heap.size 3 i0 (.int .i64 0) 1 8 Tryz.underlying28 hi0 hz0 hz1 hz2 rfl (by decide) _ _ _ rfl (HD6.out.alloc _) ⟨w6.heap.size, 0, none⟩ 1 1 [.int .i64 y] rfl rfl (cell_one_new _ _ _) (fun u hu => by simp at hu; subst hu; rfl) (by unfold maxLen; omega) (by omega) (by simp only [World.size_alloc]; omega) ?_; intro v' w7 hown' hgrow7 _; obtain ⟨ga', gc', rfl⟩ := own_shape hown')
          go_roundg (p + 1 + (q))
          case measure => rw [HGI.out.1]; have hq1 := HP.out; have hq2 := HQ.out; (first | omega | (simp only [List.length_cons]; omega))
          case rel =>
            refine ⟨(x :: A), B, D ++ [y], (some ⟨b1, o1, none⟩), sb2, ac, (bc - 1), ⟨by rw [List.length_cons, HP.out], by rw [HQ.out], by have hq1 := HP.out; have hq2 := HQ.out; (first | omega | (simp only [List.length_cons]; omega))⟩, ⟨HAT.out.1, HBT.out.2, ?_⟩, ?_, ?_, ?_⟩
            · have hq0 := HLEN.out; have hq3 := HDL.out; have hq1 := HP.out; have hq2 := HQ.out; simp only [List.length_append, List.length_cons, List.length_nil] at hq0 ⊢; omega
            · rw [List.length_append, HDL.out]; simpa [intCells] using hown'
            · rw [HGI.out.2.1, HST.out, List.append_assoc]; rfl
            · exact grown_own (HG6.out.trans (World.grownBy_alloc _ _ none)) hgrow7 (fun k hk => (HD6.out.lt k hk).1)
        have hyx : y = x := by omega
        rw [hyx] at cy
        clear hyx
        have hcase := 0
        have q1 : decide (x ≤ x) = true := decide_eq_true (by omega)
        have HST : Hid (mergeL (fun x y => x || y) (x :: A) (y :: B) = x :: mergeL (fun x y => x || y) A B) := Lib.hid (by rw [mergeL, if_neg (by omega), if_neg (by omega)]; rfl)
        clear hcase
        go_wp2_with fail
        go_quiet (fail)
        go_wp2_with fail
        go_quiet (fail)
        go_wp2_with fail
        go_quiet (fail)
        go_wp2_with fail
        go_quiet (fail)
        go_wp2_with fail
        refine (union1_calls true true _).mono ?_
        rintro e w6 ⟨rfl, hw6⟩
        have g6 : wr.grownBy w6 none := by rw [hw6]; exact grown_drewN _ _ _
        clear hw6
        have HD6 := Lib.hid (own_grown HD.out g6)
        have hsz6 : w.heap.size ≤ w6.heap.size := Nat.le_trans hsz g6.size
        have HG6 := Lib.hid (HGI.out.2.2.trans g6); clear g6 hsz
        go_wp2_with (at_builtin; refine wpList_append_own _ rfl _ _ 28 rfl w.heap.size 3 i0 (.int .i64 0) 1 8 Tryz.underlying28 hi0 hz0 hz1 hz2 rfl (by decide) _ _ _ rfl (HD6.out.alloc _) ⟨w6.heap.size, 0, none⟩ 1 1 [.int .i64 x] rfl rfl (cell_one_new _ _ _) (fun u hu => by simp at hu; subst hu; rfl) (by unfold maxLen; omega) (by omega) (by simp only [World.size_alloc]; omega) ?_; intro v' w7 hown' hgrow7 _; obtain ⟨ga', gc', rfl⟩ := own_shape hown')
        go_roundg (p + (q))
        case measure => rw [HGI.out.1]; have hq1 := HP.out; have hq2 := HQ.out; (first | omega | (simp only [List.length_cons]; omega))
        case rel =>
          refine ⟨A, B, D ++ [x], sa2, sb2, (ac - 1), (bc - 1), ⟨by rw [HP.out], by rw [HQ.out], by have hq1 := HP.out; have hq2 := HQ.out; (first | omega | (simp only [List.length_cons, List.length_nil]; omega))⟩, ⟨HAT.out.2, HBT.out.2, ?_⟩, ?_, ?_, ?_⟩
          · have hq0 := HLEN.out; have hq3 := HDL.out; have hq1 := HP.out; have hq2 := HQ.out; simp only [List.length_append, List.length_cons, List.length_nil] at hq0 ⊢; omega
          · rw [List.length_append, HDL.out]; simpa [intCells] using hown'
          · rw [HGI.out.2.1, HST.out, List.append_assoc]; rfl
          · exact grown_own (HG6.out.trans (World.grownBy_alloc _ _ none)) hgrow7 (fun k hk => (HD6.out.lt k hk).1)
theorem relres37 (tmps : Array Value) (w : World) (b : Nat) (a : Option Addr) (n c : Nat) (x : Int) (ht : tmps.getD 4 undef = .pointer (some ⟨b, 0, none⟩)) (h0 : w.cell? ⟨b, 0, none⟩ = some (.int .i64 x)) (h1 : w.cell? ⟨b, 1, none⟩ = some (.slice a n c)) :
    (results Tryz.f29 tmps).run Tryz.prog w = .ok (.agg #[.int .i64 x, .slice a n c]) w := by
  have ht' : tmps[4]?.getD undef = .pointer (some ⟨b, 0, none⟩) := by simpa using ht
  simp [results, ht', go_sem, h0, h1, Result.andThen]
theorem union_calls (x y : Int) (xs ys : List Int) (xa ya : Option Addr) (xc yc : Nat) (w : World) (h : IntsW w xa xc xs) (h' : IntsW w ya yc ys) (hl : xs.length ≤ 100000) (hl' : ys.length ≤ 100000) :
    Calls Tryz.prog 29 #[.agg #[.int .i64 x, .slice xa xs.length xc], .agg #[.int .i64 y, .slice ya ys.length yc]] w fun e w' =>
      ∃ a' c', e = .returned (.agg #[.int .i64 x, .slice a' (unionL xs ys).length c']) ∧ Span w.heap.size w'.heap.size w' (fun W => IntsW W a' c' (unionL xs ys)) ∧ w.grownBy w' none := by
  obtain ⟨n, hn⟩ : ∃ n, xs.length = n := ⟨_, rfl⟩
  obtain ⟨m, hm⟩ : ∃ m, ys.length = m := ⟨_, rfl⟩
  obtain ⟨R, hR⟩ : ∃ R, unionL xs ys = R := ⟨_, rfl⟩
  obtain ⟨p, hp⟩ : ∃ p, R.length = p := ⟨_, rfl⟩
  rw [hR, hp]
  have hg1 := World.grownBy_alloc w (.cells #[.int .i64 x, .slice xa n xc] 40) none
  have hg2 := World.grownBy_alloc (w.alloc (.cells #[.int .i64 x, .slice xa n xc] 40)) (.cells #[.int .i64 y, .slice ya m yc] 40) none
  have hg3 := World.grownBy_alloc ((w.alloc (.cells #[.int .i64 x, .slice xa n xc] 40)).alloc (.cells #[.int .i64 y, .slice ya m yc] 40)) (.cells #[.int .i64 0, .slice none 0 0] 40) none
  have hg := (hg1.trans hg2).trans hg3
  have hc := six_cells w (.int .i64 x) (.slice xa n xc) (.int .i64 y) (.slice ya m yc) (.int .i64 0) (.slice none 0 0) 40 40 40
  obtain ⟨W, hW⟩ : ∃ W, ((w.alloc (.cells #[.int .i64 x, .slice xa n xc] 40)).alloc (.cells #[.int .i64 y, .slice ya m yc] 40)).alloc (.cells #[.int .i64 0, .slice none 0 0] 40) = W := ⟨_, rfl⟩
  rw [hW] at hg hc
  have HC := Lib.hid (fun (W' : World) (hW' : W.grownBy W' none) => mergeUnion_calls xs ys xa ya xc yc W' ((h.grown hg).grown hW') ((h'.grown hg).grown hW') hl hl')
  have hR' : mergeL (fun x y => x || y) xs ys = R := hR
  rw [hR', hn, hm, hp] at HC
  rw [hn, hm]
  have HG := Lib.hid hg
  clear hg hg1 hg2 hg3 h h' hl hl' hn hm hR hR' hp
  obtain ⟨hlt, c0, c1, d0, d1, e0, e1, ef0, ef1⟩ := hc
  go_enter Tryz.func29, Tryz.ntmps29
  go_wp2_with fail
  clear hW
  go_region_with (go_at_call 65; refine (HC.out W.drew (grown_drewN W 1 _)).mono ?_; rintro e w3 ⟨a', c', rfl, hi, g3⟩; have HI := Lib.hid hi; clear hi; replace g3 := World.grownBy.trans (b := W.drew) (grown_drewN W 1 _) g3; have k0 := g3.cell c0 (by simp); have k1 := g3.cell c1 (by simp); have l0 := g3.cell d0 (by simp); have l1 := g3.cell d1 (by simp); have m0 := g3.cell e0 (by simp); have m1 := g3.cell e1 (by simp); have f0 := (grown_frozen g3 hlt 0).trans ef0; have f1 := (grown_frozen g3 hlt 1).trans ef1; have HG3 := Lib.hid g3; clear g3)
  all_goals
    go_wp2_with fail
    refine bodyPost_ret (relres37 _ _ (w.heap.size + 2) a' p c' x rfl (by rw [World.cell?_setCell_other _ _ _ _ (by intro e; injection e with _ e; cases e)]; exact World.cell?_setCell_same _ _ _ m0) (World.cell?_setCell_same _ _ _ (by rw [World.cell?_setCell_other _ _ _ _ (by intro e; injection e with _ e; cases e)]; exact m1))) rfl ⟨a', c', rfl, ?_, ?_⟩
    · have hs := HI.out
      have hs2 := (hs.off (grown_set w3 (w.heap.size + 2) 0 (.int .i64 x)) (fun y hy => by cases hy; exact .inl (by simpa using hlt))).off (grown_set _ (w.heap.size + 2) 1 (.slice a' p c')) (fun y hy => by cases hy; exact .inl (by simpa using hlt))
      exact hs2.wide (Nat.le_trans HG.out.size (Nat.le_refl _)) (by simp [World.setCell]) (Nat.le_refl _)
    · have hg := HG.out.trans HG3.out
      have hg1 := grown_own hg (grown_set w3 (w.heap.size + 2) 0 (.int .i64 x)) (fun k hk => by cases hk; omega)
      exact grown_own hg1 (grown_set _ (w.heap.size + 2) 1 (.slice a' p c')) (fun k hk => by cases hk; omega)
end Go.Proofs.YthdhmflodiincaaGreat

namespace Go.Proofs.YthdhmflodiincaaGreat
open Go.RowKit Go.Maps

def addL (l : List Int) (z : Int) : List Int := unionL l [z]
theorem addL_up {l : List Int} {z : Int} (h : Up l) : Up (addL l z) := merge_up _ _ _ h (List.pairwise_singleton _ _)
theorem mem_addL {l : List Int} {z x : Int} (h : Up l) : x ∈ addL l z ↔ x ∈ l ∨ x = z := by
  rw [addL, mem_union h (List.pairwise_singleton _ _), List.mem_singleton]
def ofTo (rs : List Int) : Nat → List Int
  | 0 => []
  | i + 1 => match rs[i]? with | some z => addL (ofTo rs i) z | none => ofTo rs i
theorem ofTo_next {rs : List Int} {i : Nat} {z : Int} (h : rs[i]? = some z) : ofTo rs (i + 1) = addL (ofTo rs i) z := by rw [ofTo, h]
theorem ofTo_up {rs : List Int} : ∀ {i : Nat}, Up (ofTo rs i)
  | 0 => List.Pairwise.nil
  | i + 1 => by
    rw [ofTo]
    split
    · exact addL_up ofTo_up
    · exact ofTo_up
theorem mem_ofTo {rs : List Int} {x : Int} : ∀ {i : Nat}, x ∈ ofTo rs i ↔ ∃ j, j < i ∧ rs[j]? = some x
  | 0 => by simp [ofTo]
  | i + 1 => by
    cases h : rs[i]? with
    | none =>
      rw [ofTo, h]
      simp only []
      rw [mem_ofTo]
      exact ⟨fun ⟨j, h1, h2⟩ => ⟨j, by omega, h2⟩, fun ⟨j, h1, h2⟩ => ⟨j, by
        by_cases hj : j = i
        · subst hj; rw [h] at h2; cases h2
        · omega, h2⟩⟩
    | some z =>
      rw [ofTo_next h, mem_addL ofTo_up, mem_ofTo]
      constructor
      · rintro (⟨j, h1, h2⟩ | rfl)
        · exact ⟨j, by omega, h2⟩
        · exact ⟨i, by omega, h⟩
      · rintro ⟨j, h1, h2⟩
        by_cases hj : j = i
        · subst hj; rw [h] at h2; cases h2; exact .inr rfl
        · exact .inl ⟨j, by omega, h2⟩

def SetM (w : World) (b : Nat) (S : List Int) : Prop :=
  w.ownsMap (H := Unit) Tryz.prog 3 (plainElem Tryz.prog 4) b S.length (Maps.setOf (.lit (.bool true)) (S.map (Lit.int .i64))) ∧ ∀ x ∈ S, (Lit.int .i64 x).wf = true

theorem SetM.grown {w w' : World} {b : Nat} {S : List Int} {r : Option Nat} (h : SetM w b S) (hg : w.grownBy w' r) (hr : some b ≠ r) : SetM w' b S := ⟨h.1.kept hg hr, h.2⟩
theorem SetM.lt {w : World} {b : Nat} {S : List Int} (h : SetM w b S) : b < w.heap.size := h.1.lt
theorem SetM.new (w : World) : SetM (w.alloc (.map #[] 0)) w.heap.size [] := ⟨World.ownsMap_made w _ _ _, fun x hx => by cases hx⟩
theorem isKey_ints (S : List Int) : ∀ x ∈ S.map (Lit.int .i64), Go.WideAt.IsKeyLit x := fun x hx => by
  obtain ⟨y, _, rfl⟩ := List.mem_map.1 hx
  trivial

theorem atKey_setOf (u z : DataW Unit) (k : Int) : ∀ S : List Int, (Maps.setOf u (S.map (Lit.int .i64))).atKey (.int .i64 k) z = if k ∈ S then u else z := by
  intro S
  rw [← List.reverse_reverse S]
  generalize S.reverse = R
  induction R with
  | nil => simp [Maps.setOf, DataW.atKey]
  | cons x R ih =>
    rw [List.reverse_cons, List.map_append, List.map_singleton, Maps.setOf_snoc]
    by_cases hx : k = x
    · subst hx
      rw [Maps.atKey_put_same ((Maps.tidy_setOf u _ (isKey_ints _)).isMap) (by trivial : Go.WideAt.IsKeyLit (.int .i64 k))]
      simp
    · rw [Maps.atKey_put_other (by simpa using hx), ih]
      simp [hx]

theorem mem_keys (S : List Int) (x : Int) : Maps.has (Maps.setOf (.lit (.bool true) : DataW Unit) (S.map (Lit.int .i64))) (.int .i64 x) = true ↔ x ∈ S := by
  rw [Maps.has_setOf _ _ _ (isKey_ints S), List.any_eq_true]
  constructor
  · rintro ⟨y, hy, hs⟩
    obtain ⟨z, hz, rfl⟩ := List.mem_map.1 hy
    have : z = x := by simpa [Lit.sameKey] using hs
    rw [← this]; exact hz
  · intro hx
    exact ⟨_, List.mem_map.2 ⟨x, hx, rfl⟩, by simp [Lit.sameKey]⟩

theorem size_keys (S : List Int) : Maps.size (Maps.setOf (.lit (.bool true) : DataW Unit) (S.map (Lit.int .i64))) ≤ S.length := by
  rw [← List.reverse_reverse S]
  generalize S.reverse = R
  induction R with
  | nil => simp [Maps.setOf, Maps.size]
  | cons x R ih =>
    rw [List.reverse_cons, List.map_append, List.map_singleton, Maps.setOf_snoc, Maps.size_put (Maps.tidy_setOf _ _ (isKey_ints _))]
    simp only [List.length_append, List.length_singleton]
    split <;> omega

abbrev uniq (S : List Int) : List Int := ofTo S S.length
theorem mem_uniq {S : List Int} {x : Int} : x ∈ uniq S ↔ x ∈ S := by
  rw [mem_ofTo]
  constructor
  · rintro ⟨j, _, e⟩
    exact List.mem_of_getElem? e
  · intro hx
    obtain ⟨j, hj, e⟩ := List.getElem_of_mem hx
    exact ⟨j, hj, by rw [List.getElem?_eq_getElem hj, e]⟩
theorem uniq_up (S : List Int) : Up (uniq S) := ofTo_up


theorem plainElem_bool_inv {v : Value} {z : DataW Unit × List MemPlace} (h : plainElem Tryz.prog 4 v = some z) : ∃ b, v = .bool b ∧ z = (.lit (.bool b), []) := by
  unfold plainElem at h
  rw [Tryz.underlying4] at h
  cases v <;> simp at h
  exact ⟨_, rfl, h.symm⟩

theorem zero4 (w : World) : (zeroValue 4).run Tryz.prog w = .ok (.bool false) w := by kernel_rfl

theorem SetM.look {w : World} {b : Nat} {S : List Int} (h : SetM w b S) {k : Int} (hk : (Lit.int .i64 k).wf = true) : (Instr.lookup 90 (.map (some b)) (.int .i64 k) false).run Tryz.prog w = .ok (.bool (decide (k ∈ S))) w := by
  obtain ⟨v, ps, hr, hv⟩ := h.1.lookup (Maps.int_keyed Tryz.underlying3) Tryz.underlying90 (zero4 w) (plainElem_bool Tryz.underlying4 false) (Maps.keyOf_int_mk Tryz.underlying3 hk)
  rw [atKey_setOf] at hv
  obtain ⟨x, rfl, hx⟩ := plainElem_bool_inv hv
  rw [hr]
  by_cases hm : k ∈ S
  · rw [if_pos hm] at hx
    simp at hx
    simp [hm, hx.1]
  · rw [if_neg hm] at hx
    simp at hx
    simp [hm, hx.1]

theorem SetM.store {w : World} {b : Nat} {S : List Int} (h : SetM w b S) (hl : S.length ≤ 1000000) {k : Int} (hk : (Lit.int .i64 k).wf = true) :
    ∃ w', (Instr.mapUpdate 90 (.map (some b)) (.int .i64 k) (.bool true)).run Tryz.prog w = .ok () w' ∧ SetM w' b (S ++ [k]) ∧ w.grownBy w' (some b) := by
  obtain ⟨w', hr, ho, ht⟩ := h.1.store (Maps.int_keyed Tryz.underlying3) Tryz.underlying90 (by unfold maxLen; omega) (Maps.keyOf_int_mk Tryz.underlying3 hk) (plainElem_bool Tryz.underlying4 true)
  refine ⟨w', hr, ⟨?_, ?_⟩, ht.grown⟩
  · rw [List.map_append, List.map_singleton, Maps.setOf_snoc, List.length_append]
    exact ho
  · intro x hx
    rcases List.mem_append.1 hx with hx | hx
    · exact h.2 x hx
    · rw [List.mem_singleton.1 hx]; exact hk

end Go.Proofs.YthdhmflodiincaaGreat
