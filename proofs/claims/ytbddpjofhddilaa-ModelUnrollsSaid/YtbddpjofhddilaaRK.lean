/- Two increasing rows are merged. -/
import Derived.Test.YtbddpjofhddilaaRJ
namespace Go.Proofs.Ytbddpjofhddilaa
open Go.RowKit

def putIf (k : Bool) (x : Int) (l : List Int) : List Int := if k then x :: l else l
/-- The merge of two rows, as far as kp keeps. -/
def mergeL (kp : Bool → Bool → Bool) : List Int → List Int → List Int
  | [], [] => []
  | x :: a, [] => putIf (kp true false) x (mergeL kp a [])
  | [], y :: b => putIf (kp false true) y (mergeL kp [] b)
  | x :: a, y :: b => if x < y then putIf (kp true false) x (mergeL kp a (y :: b)) else if y < x then putIf (kp false true) y (mergeL kp (x :: a) b) else putIf (kp true true) x (mergeL kp a b)
termination_by a b => a.length + b.length

/-- The row behind a row's first element. -/
theorem ints_tail {b o k sc : Nat} (hk : k + 1 ≤ sc) : ∃ sa : Option Addr,
    (∀ w, (Instr.slice 28 (.slice (some ⟨b, o, none⟩) (k + 1) sc) (some (.int .i64 1)) none none).run Try.prog w = .ok (.slice sa k (sc - 1)) w) ∧
    (∀ (w : World) (z : Int) (zs : List Int), zs.length = k → IntsW w (some ⟨b, o, none⟩) sc (z :: zs) → IntsW w sa (sc - 1) zs) := by
  by_cases h : sc = 1
  · subst h
    obtain rfl : k = 0 := by omega
    refine ⟨some ⟨b, o, none⟩, fun w => by go_simp, fun w z zs hz hn => ?_⟩
    obtain rfl := List.eq_nil_of_length_eq_zero hz
    exact intsW_nil _ _ _
  · refine ⟨some ⟨b, o + 1, none⟩, fun w => by
      go_simp
      intro hq
      omega, fun w z zs hz hn => ?_⟩
    obtain ⟨hc, h | ⟨b', o', ha, hcell⟩⟩ := hn
    · cases h
    · injection ha with ha
      injection ha with h1 h2
      subst h1; subst h2
      exact ⟨by simp at hc; omega, .inr ⟨b, o + 1, rfl, fun j z hj => by rw [show o + 1 + j = o + (j + 1) by omega]; exact hcell (j + 1) z (by simpa using hj)⟩⟩
theorem ints_empty {w : World} {a : Option Addr} {c : Nat} (h : IntsW w a c []) : IntsW w a c [] := h

theorem own_grown {w w' : World} {B : Nat} {e : TypeId} {k n : Nat} {v : Value} {xs : List Value} (h : w.ownsRow B e k v n xs) (hg : w.grownBy w' none) : w'.ownsRow B e k v n xs :=
  h.kept hg (by cases hv : v.ownBlock <;> simp)

set_option maxRecDepth 100000 in
set_option maxHeartbeats 8000000 in
theorem mergeDiff_calls (xs ys : List Int) (xa ya : Option Addr) (xc yc : Nat) (w : World) (h : IntsW w xa xc xs) (h' : IntsW w ya yc ys) (hl : xs.length ≤ 100000) (hl' : ys.length ≤ 100000) :
    Calls Try.prog 87 #[.slice xa xs.length xc, .slice ya ys.length yc, .func (.func 132) #[] #[]] w fun e w' =>
      ∃ a' c', e = .returned (.slice a' (mergeL (fun x y => x && !y) xs ys).length c') ∧ Span w.heap.size w'.heap.size w' (fun W => IntsW W a' c' (mergeL (fun x y => x && !y) xs ys)) ∧ w.grownBy w' none := by
  obtain ⟨i0, hi0, hz0, hz1, hz2⟩ := info_parts info3
  obtain ⟨R, hR⟩ : ∃ R, mergeL (fun x y => x && !y) xs ys = R := ⟨_, rfl⟩
  rw [hR]
  have HR := Lib.hid hR; clear hR
  have HL := Lib.hid (And.intro hl hl'); clear hl hl'
  have HI := Lib.hid (And.intro h h'); clear h h'
  obtain ⟨n, hn⟩ : ∃ n, xs.length = n := ⟨_, rfl⟩
  obtain ⟨m, hm⟩ : ∃ m, ys.length = m := ⟨_, rfl⟩
  rw [hn, hm]
  have HN := Lib.hid (And.intro hn hm); clear hn hm
  go_enter Try.func87, Try.ntmps87
  go_wp2_with fail
  go_loopg [0, 1, 7] (n + m) (fun g s0 s1 s7 wr => ∃ (A B D : List Int) (aa ba : Option Addr) (ac bc : Nat), (s0 = .slice aa A.length ac ∧ s1 = .slice ba B.length bc ∧ g = A.length + B.length) ∧ (IntsW w aa ac A ∧ IntsW w ba bc B ∧ D.length + A.length + B.length ≤ 200000) ∧
    wr.ownsRow w.heap.size 3 1 s7 D.length (intCells D) ∧ R = D ++ mergeL (fun x y => x && !y) A B ∧ w.grownBy wr none)
  case atStart => exact ⟨xs, ys, [], xa, ya, xc, yc, ⟨by rw [HN.out.1], by rw [HN.out.2], by rw [HN.out.1, HN.out.2]⟩, ⟨HI.out.1, HI.out.2, by have := HL.out; simp; omega⟩, World.ownsRow_nil _ _ _ _, by rw [← HR.out]; rfl, grown_refl _ _⟩
  case round =>
    obtain ⟨A, B, D, aa, ba, ac, bc, ⟨rfl, rfl, hg⟩, ⟨hA, hB, hlen⟩, hown, hRD, hgr⟩ := hrel
    obtain ⟨da, dc, hs7⟩ := own_shape hown
    subst hs7
    have HGI := Lib.hid (And.intro hg (And.intro hRD hgr)); clear hg hRD hgr
    have HD := Lib.hid hown; clear hown
    obtain ⟨d, hd⟩ : ∃ d, D.length = d := ⟨_, rfl⟩
    rw [hd] at HD hlen ⊢
    have HDL := Lib.hid hd; clear hd
    have hdl : d ≤ 200000 := by omega
    have hsz := HGI.out.2.2.size
    have HLEN := Lib.hid hlen; clear hlen
    cases A with
    | nil =>
      have HA := Lib.hid hA; clear hA
      simp only [List.length_nil]
      cases B with
      | nil =>
        clear hB
        simp only [List.length_nil]
        obtain ⟨a', c', hv, hsp⟩ := ints_span (show wr.ownsRow w.heap.size 3 1 (.slice da d dc) D.length (intCells D) by rw [HDL.out]; exact HD.out)
        replace hsp := hsp.map fun _ h => h.weak
        injection hv with hv1 hv2 hv3
        subst hv1 hv3
        have hRe : R = D := by rw [HGI.out.2.1, mergeL, List.append_nil]
        subst hRe
        have HSP := Lib.hid hsp; clear hsp hv2 hsz
        go_wp2_with fail
        go_ret
        exact ⟨_, _, by rw [HDL.out]; rfl, HSP.out.wide (Nat.le_refl _) (Nat.le_refl _) (Nat.le_refl _), HGI.out.2.2⟩
      | cons y B =>
        obtain ⟨b2, o2, rfl, cy⟩ := (hB.grown HGI.out.2.2).at (i := 0) (z := y) rfl
        rw [Nat.add_zero] at cy
        have hbc : B.length + 1 ≤ bc := hB.1
        obtain ⟨sb2, hsy, htx⟩ := ints_tail (b := b2) (o := o2) hbc
        have HBT := Lib.hid (And.intro hB (htx w y B rfl hB)); clear hB htx
        simp only [List.length_cons]
        obtain ⟨q, hp⟩ : ∃ q, B.length = q := ⟨_, rfl⟩
        rw [hp] at hsy hbc ⊢
        have HQ := Lib.hid hp; clear hp
        have ay0 : ((q : Int) + 1 == 0) = false := by simp; omega
        have ay1 : decide (0 < (q : Int) + 1) = true := decide_eq_true (by omega)
        have ay2 : (0 : Int) < (q : Int) + 1 := by omega
        have HST : Hid (mergeL (fun x y => x && !y) [] (y :: B) = mergeL (fun x y => x && !y) [] B) := Lib.hid (by rw [mergeL]; rfl)
        go_wp2_with fail
        go_quiet (fail)
        go_wp2_with fail
        go_quiet (fail)
        go_wp2_with fail
        go_quiet (fail)
        go_wp2_with fail
        refine (diff1_calls false true _).mono ?_
        rintro e w6 ⟨rfl, hw6⟩
        have g6 : wr.grownBy w6 none := by rw [hw6]; exact grown_drewN _ _ _
        clear hw6
        have HD6 := Lib.hid (own_grown HD.out g6)
        have hsz6 : w.heap.size ≤ w6.heap.size := Nat.le_trans hsz g6.size
        have HG6 := Lib.hid (HGI.out.2.2.trans g6); clear g6 hsz
        go_wp2_with fail
        go_roundg (0 + (q))
        case measure => rw [HGI.out.1]; have hq2 := HQ.out; (first | omega | (simp only [List.length_cons, List.length_nil]; omega))
        case rel =>
          refine ⟨[], B, D, aa, sb2, ac, (bc - 1), ⟨rfl, by rw [HQ.out], by have hq2 := HQ.out; (first | omega | (simp only [List.length_nil]; omega))⟩, ⟨HA.out, HBT.out.2, ?_⟩, ?_, ?_, ?_⟩
          · have hq0 := HLEN.out; have hq3 := HDL.out; have hq2 := HQ.out; simp only [List.length_cons, List.length_nil] at hq0 ⊢; omega
          · rw [HDL.out]; exact HD6.out
          · rw [HGI.out.2.1, HST.out]
          · exact HG6.out
    | cons x A =>
      obtain ⟨b1, o1, rfl, cx⟩ := (hA.grown HGI.out.2.2).at (i := 0) (z := x) rfl
      rw [Nat.add_zero] at cx
      have hac : A.length + 1 ≤ ac := hA.1
      obtain ⟨sa2, hsx, htx⟩ := ints_tail (b := b1) (o := o1) hac
      have HAT := Lib.hid (And.intro hA (htx w x A rfl hA)); clear hA htx
      simp only [List.length_cons]
      obtain ⟨p, hp⟩ : ∃ p, A.length = p := ⟨_, rfl⟩
      rw [hp] at hsx hac ⊢
      have HP := Lib.hid hp; clear hp
      have ax0 : ((p : Int) + 1 == 0) = false := by simp; omega
      have ax1 : decide (0 < (p : Int) + 1) = true := decide_eq_true (by omega)
      have ax2 : (0 : Int) < (p : Int) + 1 := by omega
      cases B with
      | nil =>
        have HBN := Lib.hid hB; clear hB
        simp only [List.length_nil]
        have HST : Hid (mergeL (fun x y => x && !y) (x :: A) [] = x :: mergeL (fun x y => x && !y) A []) := Lib.hid (by rw [mergeL]; rfl)
        go_wp2_with fail
        go_quiet (fail)
        go_wp2_with fail
        go_quiet (fail)
        go_wp2_with fail
        go_quiet (fail)
        go_wp2_with fail
        refine (diff1_calls true false _).mono ?_
        rintro e w6 ⟨rfl, hw6⟩
        have g6 : wr.grownBy w6 none := by rw [hw6]; exact grown_drewN _ _ _
        clear hw6
        have HD6 := Lib.hid (own_grown HD.out g6)
        have hsz6 : w.heap.size ≤ w6.heap.size := Nat.le_trans hsz g6.size
        have HG6 := Lib.hid (HGI.out.2.2.trans g6); clear g6 hsz
        go_wp2_with (at_builtin; refine wpList_append_own _ rfl _ _ 28 rfl w.heap.size 3 i0 (.int .i64 0) 1 8 Try.underlying28 hi0 hz0 hz1 hz2 rfl (by decide) _ _ _ rfl (HD6.out.alloc _) ⟨w6.heap.size, 0, none⟩ 1 1 [.int .i64 x] rfl rfl (cell_one_new _ _ _) (fun u hu => by simp at hu; subst hu; rfl) (by unfold maxLen; omega) (by omega) (by simp only [World.size_alloc]; omega) ?_; intro v' w7 hown' hgrow7 _; obtain ⟨ga', gc', rfl⟩ := own_shape hown')
        go_roundg (p + (0))
        case measure => rw [HGI.out.1]; have hq1 := HP.out; (first | omega | (simp only [List.length_cons, List.length_nil]; omega))
        case rel =>
          refine ⟨A, [], D ++ [x], sa2, ba, (ac - 1), bc, ⟨by rw [HP.out], rfl, by have hq1 := HP.out; (first | omega | (simp only [List.length_nil]; omega))⟩, ⟨HAT.out.2, HBN.out, ?_⟩, ?_, ?_, ?_⟩
          · have hq0 := HLEN.out; have hq3 := HDL.out; have hq1 := HP.out; simp only [List.length_append, List.length_cons, List.length_nil] at hq0 ⊢; omega
          · rw [List.length_append, HDL.out]; simpa [intCells] using hown'
          · rw [HGI.out.2.1, HST.out, List.append_assoc]; rfl
          · exact grown_own (HG6.out.trans (World.grownBy_alloc _ _ none)) hgrow7 (fun k hk => (HD6.out.lt k hk).1)
      | cons y B =>
        obtain ⟨b2, o2, rfl, cy⟩ := (hB.grown HGI.out.2.2).at (i := 0) (z := y) rfl
        rw [Nat.add_zero] at cy
        have hbc : B.length + 1 ≤ bc := hB.1
        obtain ⟨sb2, hsy, htx⟩ := ints_tail (b := b2) (o := o2) hbc
        have HBT := Lib.hid (And.intro hB (htx w y B rfl hB)); clear hB htx
        simp only [List.length_cons]
        obtain ⟨q, hp⟩ : ∃ q, B.length = q := ⟨_, rfl⟩
        rw [hp] at hsy hbc ⊢
        have HQ := Lib.hid hp; clear hp
        have ay0 : ((q : Int) + 1 == 0) = false := by simp; omega
        have ay1 : decide (0 < (q : Int) + 1) = true := decide_eq_true (by omega)
        have ay2 : (0 : Int) < (q : Int) + 1 := by omega
        by_cases hcase : x < y
        · have q1 : decide (x ≤ y) = true := decide_eq_true (by omega)
          have q2 : decide (y ≤ x) = false := decide_eq_false (by omega)
          have HST : Hid (mergeL (fun x y => x && !y) (x :: A) (y :: B) = x :: mergeL (fun x y => x && !y) A (y :: B)) := Lib.hid (by rw [mergeL, if_pos (by omega)]; rfl)
          clear hcase
          go_wp2_with fail
          go_quiet (fail)
          go_wp2_with fail
          go_quiet (fail)
          go_wp2_with fail
          go_quiet (fail)
          go_wp2_with fail
          refine (diff1_calls true false _).mono ?_
          rintro e w6 ⟨rfl, hw6⟩
          have g6 : wr.grownBy w6 none := by rw [hw6]; exact grown_drewN _ _ _
          clear hw6
          have HD6 := Lib.hid (own_grown HD.out g6)
          have hsz6 : w.heap.size ≤ w6.heap.size := Nat.le_trans hsz g6.size
          have HG6 := Lib.hid (HGI.out.2.2.trans g6); clear g6 hsz
          go_wp2_with (at_builtin; refine wpList_append_own _ rfl _ _ 28 rfl w.heap.size 3 i0 (.int .i64 0) 1 8 Try.underlying28 hi0 hz0 hz1 hz2 rfl (by decide) _ _ _ rfl (HD6.out.alloc _) ⟨w6.heap.size, 0, none⟩ 1 1 [.int .i64 x] rfl rfl (cell_one_new _ _ _) (fun u hu => by simp at hu; subst hu; rfl) (by unfold maxLen; omega) (by omega) (by simp only [World.size_alloc]; omega) ?_; intro v' w7 hown' hgrow7 _; obtain ⟨ga', gc', rfl⟩ := own_shape hown')
          go_roundg (p + (q + 1))
          case measure => rw [HGI.out.1]; have hq1 := HP.out; have hq2 := HQ.out; (first | omega | (simp only [List.length_cons]; omega))
          case rel =>
            refine ⟨A, (y :: B), D ++ [x], sa2, (some ⟨b2, o2, none⟩), (ac - 1), bc, ⟨by rw [HP.out], by rw [List.length_cons, HQ.out], by have hq1 := HP.out; have hq2 := HQ.out; (first | omega | (simp only [List.length_cons]; omega))⟩, ⟨HAT.out.2, HBT.out.1, ?_⟩, ?_, ?_, ?_⟩
            · have hq0 := HLEN.out; have hq3 := HDL.out; have hq1 := HP.out; have hq2 := HQ.out; simp only [List.length_append, List.length_cons, List.length_nil] at hq0 ⊢; omega
            · rw [List.length_append, HDL.out]; simpa [intCells] using hown'
            · rw [HGI.out.2.1, HST.out, List.append_assoc]; rfl
            · exact grown_own (HG6.out.trans (World.grownBy_alloc _ _ none)) hgrow7 (fun k hk => (HD6.out.lt k hk).1)
        have hlt := hcase; clear hcase
        by_cases hcase : y < x
        · have q1 : decide (x ≤ y) = false := decide_eq_false (by omega)
          have q2 : decide (y ≤ x) = true := decide_eq_true (by omega)
          have HST : Hid (mergeL (fun x y => x && !y) (x :: A) (y :: B) = mergeL (fun x y => x && !y) (x :: A) B) := Lib.hid (by rw [mergeL, if_neg (by omega), if_pos (by omega)]; rfl)
          clear hcase
          go_wp2_with fail
          go_quiet (fail)
          go_wp2_with fail
          go_quiet (fail)
          go_wp2_with fail
          go_quiet (fail)
          go_wp2_with fail
          refine (diff1_calls false true _).mono ?_
          rintro e w6 ⟨rfl, hw6⟩
          have g6 : wr.grownBy w6 none := by rw [hw6]; exact grown_drewN _ _ _
          clear hw6
          have HD6 := Lib.hid (own_grown HD.out g6)
          have hsz6 : w.heap.size ≤ w6.heap.size := Nat.le_trans hsz g6.size
          have HG6 := Lib.hid (HGI.out.2.2.trans g6); clear g6 hsz
          go_wp2_with fail
          go_roundg (p + 1 + (q))
          case measure => rw [HGI.out.1]; have hq1 := HP.out; have hq2 := HQ.out; (first | omega | (simp only [List.length_cons]; omega))
          case rel =>
            refine ⟨(x :: A), B, D, (some ⟨b1, o1, none⟩), sb2, ac, (bc - 1), ⟨by rw [List.length_cons, HP.out], by rw [HQ.out], by have hq1 := HP.out; have hq2 := HQ.out; (first | omega | (simp only [List.length_cons]; omega))⟩, ⟨HAT.out.1, HBT.out.2, ?_⟩, ?_, ?_, ?_⟩
            · have hq0 := HLEN.out; have hq3 := HDL.out; have hq1 := HP.out; have hq2 := HQ.out; simp only [List.length_cons] at hq0 ⊢; omega
            · rw [HDL.out]; exact HD6.out
            · rw [HGI.out.2.1, HST.out]
            · exact HG6.out
        have hcase := 0
        have q1 : decide (x ≤ y) = true := decide_eq_true (by omega)
        have q2 : decide (y ≤ x) = true := decide_eq_true (by omega)
        have HST : Hid (mergeL (fun x y => x && !y) (x :: A) (y :: B) = mergeL (fun x y => x && !y) A B) := Lib.hid (by rw [mergeL, if_neg (by omega), if_neg (by omega)]; rfl)
        clear hcase
        go_wp2_with fail
        go_quiet (fail)
        go_wp2_with fail
        go_quiet (fail)
        go_wp2_with fail
        go_quiet (fail)
        go_wp2_with fail
        go_quiet (fail)
        go_wp2_with fail
        refine (diff1_calls true true _).mono ?_
        rintro e w6 ⟨rfl, hw6⟩
        have g6 : wr.grownBy w6 none := by rw [hw6]; exact grown_drewN _ _ _
        clear hw6
        have HD6 := Lib.hid (own_grown HD.out g6)
        have hsz6 : w.heap.size ≤ w6.heap.size := Nat.le_trans hsz g6.size
        have HG6 := Lib.hid (HGI.out.2.2.trans g6); clear g6 hsz
        go_wp2_with fail
        go_roundg (p + (q))
        case measure => rw [HGI.out.1]; have hq1 := HP.out; have hq2 := HQ.out; (first | omega | (simp only [List.length_cons]; omega))
        case rel =>
          refine ⟨A, B, D, sa2, sb2, (ac - 1), (bc - 1), ⟨by rw [HP.out], by rw [HQ.out], by have hq1 := HP.out; have hq2 := HQ.out; (first | omega | (simp only [List.length_cons, List.length_nil]; omega))⟩, ⟨HAT.out.2, HBT.out.2, ?_⟩, ?_, ?_, ?_⟩
          · have hq0 := HLEN.out; have hq3 := HDL.out; have hq1 := HP.out; have hq2 := HQ.out; simp only [List.length_cons] at hq0 ⊢; omega
          · rw [HDL.out]; exact HD6.out
          · rw [HGI.out.2.1, HST.out]
          · exact HG6.out
end Go.Proofs.Ytbddpjofhddilaa
