/- Common texts of the laws of stage 9, joined: RJ RK RL RM RN RO RP RS RT. -/
import Derived.Test.YtbddpjofhddilaaN05
import Derived.Deep.RegionWith
import Derived.WalkMore
/- Which relations are valid. -/
namespace Go.Proofs.Ytbddpjofhddilaa
open Go.RowKit

set_option maxHeartbeats 1000000 in
theorem power_calls (n k : Nat) (w : World) (hn : n ≤ 12) (hk : k ≤ 3) : Calls Try.prog 112 #[.int .i64 (n : Int), .int .i64 (k : Int)] w fun e w' => e = .returned (.int .i64 ((n ^ k : Nat) : Int)) ∧ w' = w := by
  go_enter Try.func112, Try.ntmps112
  go_wp2
  go_loopg [5, 7] k (fun g s5 s7 wr => ∃ i : Nat, s5 = .int .i64 ((n ^ i : Nat) : Int) ∧ s7 = .int .i64 (i : Int) ∧ g = k - i ∧ i ≤ k ∧ wr = w)
  case atStart => exact ⟨0, rfl, rfl, rfl, Nat.zero_le _, rfl⟩
  case round =>
    obtain ⟨i, rfl, rfl, hgi, hi, rfl⟩ := hrel
    have HGI := Lib.hid hgi; clear hgi
    by_cases hin : i < k
    · have hinB : decide (i < k) = true := by simpa using hin
      have hp : n ^ i ≤ 12 ^ 3 := Nat.le_trans (Nat.pow_le_pow_left hn i) (Nat.pow_le_pow_right (by omega) (by omega))
      obtain ⟨S, hS⟩ : ∃ S, n ^ i = S := ⟨_, rfl⟩
      have hSn : n ^ (i + 1) = S * n := by rw [Nat.pow_succ, hS]
      rw [hS] at hp ⊢
      have HSN := Lib.hid hSn; clear hSn hS
      have hmul : (S : Int) * (n : Int) ≤ 1000000 := by
        have h1 : S * n ≤ 1728 * 12 := Nat.mul_le_mul hp hn
        have h2 : ((S * n : Nat) : Int) ≤ 1000000 := by omega
        rwa [Int.natCast_mul] at h2
      have hmul0 : 0 ≤ (S : Int) * (n : Int) := Int.mul_nonneg (by omega) (by omega)
      go_wp2
      go_roundg (k - (i + 1))
      case measure => rw [HGI.out]; omega
      case rel => exact ⟨i + 1, by rw [HSN.out]; simp, rfl, rfl, by omega, rfl⟩
    · have hie : i = k := by omega
      subst hie
      have hinB : decide (i < i) = false := by simp
      go_wp2
      go_ret
      exact ⟨rfl, rfl⟩

/-- Strictly increasing, above lo and below hi. -/
def rising (hi : Int) : Int → List Int → Bool
  | _, [] => true
  | lo, z :: l => decide (lo < z) && decide (z < hi) && rising hi z l
def relValid (n x : Int) (zs : List Int) : Bool := decide (0 ≤ n) && decide (n ≤ 12) && decide (1 ≤ x) && decide (x ≤ 3) && rising ((n.toNat ^ x.toNat : Nat) : Int) (-1) zs
theorem relValid_iff {n x : Int} {zs : List Int} : relValid n x zs = true ↔ (0 ≤ n ∧ n ≤ 12 ∧ 1 ≤ x ∧ x ≤ 3) ∧ rising ((n.toNat ^ x.toNat : Nat) : Int) (-1) zs = true := by simp [relValid, and_assoc]

set_option maxRecDepth 100000 in
set_option maxHeartbeats 2000000 in
theorem relValid_calls (n x : Int) (zs : List Int) (a : Option Addr) (c : Nat) (w : World) (h : IntsW w a c zs) (hl : zs.length ≤ 100000) :
    Calls Try.prog 62 #[.int .i64 n, .agg #[.int .i64 x, .slice a zs.length c]] w fun e w' => e = .returned (.bool (relValid n x zs)) ∧ w.grownBy w' none := by
  obtain ⟨k, hk⟩ : ∃ k, zs.length = k := ⟨_, rfl⟩
  rw [hk] at hl ⊢
  have HK := Lib.hid hk; clear hk
  have HG := Lib.hid (World.grownBy_alloc w (.cells #[.int .i64 x, .slice a k c] 53) none)
  have HI := Lib.hid (h.grown HG.out); clear h
  have HL := Lib.hid hl; clear hl
  by_cases c0 : n < 0
  · have f0 : decide (n < 0) = true := decide_eq_true c0
    have HR : Hid (relValid n x zs = false) := Lib.hid (by cases h : relValid n x zs with | false => rfl | true => have := (relValid_iff.1 h).1; omega)
    clear c0
    go_enter Try.func62, Try.ntmps62
    go_wp2_with fail
    go_ret
    exact ⟨by rw [HR.out]; rfl, HG.out⟩
  have f0 : decide (n < 0) = false := decide_eq_false c0
  by_cases c1 : 12 < n
  · have f1 : decide (12 < n) = true := decide_eq_true c1
    have HR : Hid (relValid n x zs = false) := Lib.hid (by cases h : relValid n x zs with | false => rfl | true => have := (relValid_iff.1 h).1; omega)
    clear c0 c1
    go_enter Try.func62, Try.ntmps62
    go_wp2_with fail
    go_ret
    exact ⟨by rw [HR.out]; rfl, HG.out⟩
  have f1 : decide (12 < n) = false := decide_eq_false c1
  by_cases c2 : x < 1
  · have f2 : decide (x < 1) = true := decide_eq_true c2
    have HR : Hid (relValid n x zs = false) := Lib.hid (by cases h : relValid n x zs with | false => rfl | true => have := (relValid_iff.1 h).1; omega)
    clear c0 c1 c2
    go_enter Try.func62, Try.ntmps62
    go_wp2_with fail
    go_ret
    exact ⟨by rw [HR.out]; rfl, HG.out⟩
  have f2 : decide (x < 1) = false := decide_eq_false c2
  by_cases c3 : 3 < x
  · have f3 : decide (3 < x) = true := decide_eq_true c3
    have HR : Hid (relValid n x zs = false) := Lib.hid (by cases h : relValid n x zs with | false => rfl | true => have := (relValid_iff.1 h).1; omega)
    clear c0 c1 c2 c3
    go_enter Try.func62, Try.ntmps62
    go_wp2_with fail
    go_ret
    exact ⟨by rw [HR.out]; rfl, HG.out⟩
  have f3 : decide (3 < x) = false := decide_eq_false c3
  obtain ⟨N, rfl⟩ : ∃ N : Nat, n = (N : Int) := ⟨n.toNat, by omega⟩
  obtain ⟨X, rfl⟩ : ∃ X : Nat, x = (X : Int) := ⟨x.toNat, by omega⟩
  have hN : N ≤ 12 := by omega
  have hX : X ≤ 3 := by omega
  have HR : Hid (relValid (N : Int) (X : Int) zs = rising ((N ^ X : Nat) : Int) (-1) zs) := Lib.hid (by
    have h1 : (N : Int).toNat = N := Int.toNat_natCast N
    have h2 : (X : Int).toNat = X := Int.toNat_natCast X
    unfold relValid
    rw [h1, h2, decide_eq_true (show (0 : Int) ≤ (N : Int) by omega), decide_eq_true (show (N : Int) ≤ 12 by omega), decide_eq_true (show (1 : Int) ≤ (X : Int) by omega), decide_eq_true (show (X : Int) ≤ 3 by omega)]
    rfl)
  clear c0 c1 c2 c3
  go_enter Try.func62, Try.ntmps62
  go_wp2_with fail
  refine (power_calls N X _ hN hX).mono ?_
  rintro e w1 ⟨rfl, rfl⟩
  obtain ⟨E, hE⟩ : ∃ E, N ^ X = E := ⟨_, rfl⟩
  rw [hE] at HR ⊢
  clear hE
  go_wp2_with fail
  obtain ⟨W, hW⟩ : ∃ W, w.alloc (.cells #[.int .i64 (X : Int), .slice a k c] 53) = W := ⟨_, rfl⟩
  rw [hW] at HG HI ⊢
  clear hW
  have hl := HL.out
  go_loopg [5, 32] k (fun g s5 s32 wr => ∃ (i : Nat) (p : Int), s5 = .int .i64 p ∧ s32 = .int .i64 (i : Int) ∧ g = k - i ∧ i ≤ k ∧ rising (E : Int) (-1) zs = rising (E : Int) p (zs.drop i) ∧ wr = W)
  case atStart => exact ⟨0, -1, rfl, rfl, rfl, Nat.zero_le _, rfl, rfl⟩
  case round =>
    obtain ⟨i, p, rfl, rfl, hgi, hi, hri, rfl⟩ := hrel
    have HGI := Lib.hid (And.intro hgi hri); clear hgi hri
    by_cases hin : i < k
    · have hinB : decide (i < k) = true := by simpa using hin
      have hinI : (i : Int) < (k : Int) := by omega
      obtain ⟨z, hz⟩ : ∃ z, zs[i]? = some z := ⟨_, List.getElem?_eq_getElem (by rw [HK.out]; exact hin)⟩
      obtain ⟨b, o, rfl, hcell⟩ := HI.out.at hz
      have hdrop : zs.drop i = z :: zs.drop (i + 1) := by
        have hlt : i < zs.length := by rw [HK.out]; exact hin
        rw [List.drop_eq_getElem_cons hlt]
        congr 1
        rw [List.getElem?_eq_getElem hlt] at hz
        exact Option.some.inj hz
      have HST : Hid (rising (E : Int) (-1) zs = (decide (p < z) && decide (z < (E : Int)) && rising (E : Int) z (zs.drop (i + 1)))) := Lib.hid (by rw [HGI.out.2, hdrop]; rfl)
      clear hz hdrop
      by_cases h1 : z ≤ p
      · have e1 : decide (z ≤ p) = true := decide_eq_true h1
        have HF : Hid (rising (E : Int) (-1) zs = false) := Lib.hid (by rw [HST.out, decide_eq_false (show ¬ p < z by omega)]; rfl)
        clear h1
        go_wp2_with fail
        go_ret
        exact ⟨by rw [HR.out, HF.out]; rfl, HG.out⟩
      have e1 : decide (z ≤ p) = false := decide_eq_false h1
      by_cases h2 : (E : Int) ≤ z
      · have e2 : decide ((E : Int) ≤ z) = true := decide_eq_true h2
        have HF : Hid (rising (E : Int) (-1) zs = false) := Lib.hid (by rw [HST.out, decide_eq_false (show ¬ z < (E : Int) by omega)]; simp)
        clear h1 h2
        go_wp2_with fail
        go_ret
        exact ⟨by rw [HR.out, HF.out]; rfl, HG.out⟩
      have e2 : decide ((E : Int) ≤ z) = false := decide_eq_false h2
      have HF : Hid (rising (E : Int) (-1) zs = rising (E : Int) z (zs.drop (i + 1))) := Lib.hid (by rw [HST.out, decide_eq_true (show p < z by omega), decide_eq_true (show z < (E : Int) by omega)]; rfl)
      clear h1 h2
      go_wp2_with fail
      go_roundg (k - (i + 1))
      case measure => rw [HGI.out.1]; omega
      case rel => exact ⟨i + 1, z, rfl, rfl, rfl, by omega, HF.out, rfl⟩
    · have hie : i = k := by omega
      subst hie
      have hinB : decide (i < i) = false := by simp
      have HF : Hid (rising (E : Int) (-1) zs = true) := Lib.hid (by rw [HGI.out.2, List.drop_of_length_le (by rw [HK.out]; exact Nat.le_refl _)]; rfl)
      go_wp2_with fail
      go_ret
      exact ⟨by rw [HR.out, HF.out]; rfl, HG.out⟩

/-- How the difference keeps. -/
theorem diff1_calls (x y : Bool) (w : World) : Calls Try.prog 132 #[.bool x, .bool y] w fun e w' => e = .returned (.bool (x && !y)) ∧ w' = w := by
  cases x <;> cases y
  all_goals
    go_enter Try.func132, Try.ntmps132
    go_wp2
    go_ret
    exact ⟨rfl, rfl⟩
end Go.Proofs.Ytbddpjofhddilaa
/- Two increasing rows are merged. -/
namespace Go.Proofs.Ytbddpjofhddilaa
open Go.RowKit

def putIf (k : Bool) (x : Int) (l : List Int) : List Int := if k then x :: l else l
/-- The merge of two rows, as far as kp keeps. -/
def mergeL (kp : Bool → Bool → Bool) : List Int → List Int → List Int
  | [], [] => []
  | x :: a, [] => putIf (kp true false) x (mergeL kp a [])
  | [], y :: b => putIf (kp false true) y (mergeL kp [] b)
  | x :: a, y :: b => if x < y then putIf (kp true false) x (mergeL kp a (y :: b)) else if y < x then putIf (kp false true) y (mergeL kp (x :: a) b) else putIf (kp true true) x (mergeL kp a b)
termination_by a b => a.length + b.length

/-- The row behind a row's first element. -/
theorem ints_tail {b o k sc : Nat} (hk : k + 1 ≤ sc) : ∃ sa : Option Addr,
    (∀ w, (Instr.slice 28 (.slice (some ⟨b, o, none⟩) (k + 1) sc) (some (.int .i64 1)) none none).run Try.prog w = .ok (.slice sa k (sc - 1)) w) ∧
    (∀ (w : World) (z : Int) (zs : List Int), zs.length = k → IntsW w (some ⟨b, o, none⟩) sc (z :: zs) → IntsW w sa (sc - 1) zs) := by
  by_cases h : sc = 1
  · subst h
    obtain rfl : k = 0 := by omega
    refine ⟨some ⟨b, o, none⟩, fun w => by go_simp, fun w z zs hz hn => ?_⟩
    obtain rfl := List.eq_nil_of_length_eq_zero hz
    exact intsW_nil _ _ _
  · refine ⟨some ⟨b, o + 1, none⟩, fun w => by
      go_simp
      intro hq
      omega, fun w z zs hz hn => ?_⟩
    obtain ⟨hc, h | ⟨b', o', ha, hcell⟩⟩ := hn
    · cases h
    · injection ha with ha
      injection ha with h1 h2
      subst h1; subst h2
      exact ⟨by simp at hc; omega, .inr ⟨b, o + 1, rfl, fun j z hj => by rw [show o + 1 + j = o + (j + 1) by omega]; exact hcell (j + 1) z (by simpa using hj)⟩⟩
theorem ints_empty {w : World} {a : Option Addr} {c : Nat} (h : IntsW w a c []) : IntsW w a c [] := h

theorem own_grown {w w' : World} {B : Nat} {e : TypeId} {k n : Nat} {v : Value} {xs : List Value} (h : w.ownsRow B e k v n xs) (hg : w.grownBy w' none) : w'.ownsRow B e k v n xs :=
  h.kept hg (by cases hv : v.ownBlock <;> simp)

set_option maxRecDepth 100000 in
set_option maxHeartbeats 8000000 in
theorem mergeDiff_calls (xs ys : List Int) (xa ya : Option Addr) (xc yc : Nat) (w : World) (h : IntsW w xa xc xs) (h' : IntsW w ya yc ys) (hl : xs.length ≤ 100000) (hl' : ys.length ≤ 100000) :
    Calls Try.prog 87 #[.slice xa xs.length xc, .slice ya ys.length yc, .func (.func 132) #[] #[]] w fun e w' =>
      ∃ a' c', e = .returned (.slice a' (mergeL (fun x y => x && !y) xs ys).length c') ∧ Span w.heap.size w'.heap.size w' (fun W => IntsW W a' c' (mergeL (fun x y => x && !y) xs ys)) ∧ w.grownBy w' none := by
  obtain ⟨i0, hi0, hz0, hz1, hz2⟩ := info_parts info3
  obtain ⟨R, hR⟩ : ∃ R, mergeL (fun x y => x && !y) xs ys = R := ⟨_, rfl⟩
  rw [hR]
  have HR := Lib.hid hR; clear hR
  have HL := Lib.hid (And.intro hl hl'); clear hl hl'
  have HI := Lib.hid (And.intro h h'); clear h h'
  obtain ⟨n, hn⟩ : ∃ n, xs.length = n := ⟨_, rfl⟩
  obtain ⟨m, hm⟩ : ∃ m, ys.length = m := ⟨_, rfl⟩
  rw [hn, hm]
  have HN := Lib.hid (And.intro hn hm); clear hn hm
  go_enter Try.func87, Try.ntmps87
  go_wp2_with fail
  go_loopg [0, 1, 7] (n + m) (fun g s0 s1 s7 wr => ∃ (A B D : List Int) (aa ba : Option Addr) (ac bc : Nat), (s0 = .slice aa A.length ac ∧ s1 = .slice ba B.length bc ∧ g = A.length + B.length) ∧ (IntsW w aa ac A ∧ IntsW w ba bc B ∧ D.length + A.length + B.length ≤ 200000) ∧
    wr.ownsRow w.heap.size 3 1 s7 D.length (intCells D) ∧ R = D ++ mergeL (fun x y => x && !y) A B ∧ w.grownBy wr none)
  case atStart => exact ⟨xs, ys, [], xa, ya, xc, yc, ⟨by rw [HN.out.1], by rw [HN.out.2], by rw [HN.out.1, HN.out.2]⟩, ⟨HI.out.1, HI.out.2, by have := HL.out; simp; omega⟩, World.ownsRow_nil _ _ _ _, by rw [← HR.out]; rfl, grown_refl _ _⟩
  case round =>
    obtain ⟨A, B, D, aa, ba, ac, bc, ⟨rfl, rfl, hg⟩, ⟨hA, hB, hlen⟩, hown, hRD, hgr⟩ := hrel
    obtain ⟨da, dc, hs7⟩ := own_shape hown
    subst hs7
    have HGI := Lib.hid (And.intro hg (And.intro hRD hgr)); clear hg hRD hgr
    have HD := Lib.hid hown; clear hown
    obtain ⟨d, hd⟩ : ∃ d, D.length = d := ⟨_, rfl⟩
    rw [hd] at HD hlen ⊢
    have HDL := Lib.hid hd; clear hd
    have hdl : d ≤ 200000 := by omega
    have hsz := HGI.out.2.2.size
    have HLEN := Lib.hid hlen; clear hlen
    cases A with
    | nil =>
      have HA := Lib.hid hA; clear hA
      simp only [List.length_nil]
      cases B with
      | nil =>
        clear hB
        simp only [List.length_nil]
        obtain ⟨a', c', hv, hsp⟩ := ints_span (show wr.ownsRow w.heap.size 3 1 (.slice da d dc) D.length (intCells D) by rw [HDL.out]; exact HD.out)
        replace hsp := hsp.map fun _ h => h.weak
        injection hv with hv1 hv2 hv3
        subst hv1 hv3
        have hRe : R = D := by rw [HGI.out.2.1, mergeL, List.append_nil]
        subst hRe
        have HSP := Lib.hid hsp; clear hsp hv2 hsz
        go_wp2_with fail
        go_ret
        exact ⟨_, _, by rw [HDL.out]; rfl, HSP.out.wide (Nat.le_refl _) (Nat.le_refl _) (Nat.le_refl _), HGI.out.2.2⟩
      | cons y B =>
        obtain ⟨b2, o2, rfl, cy⟩ := (hB.grown HGI.out.2.2).at (i := 0) (z := y) rfl
        rw [Nat.add_zero] at cy
        have hbc : B.length + 1 ≤ bc := hB.1
        obtain ⟨sb2, hsy, htx⟩ := ints_tail (b := b2) (o := o2) hbc
        have HBT := Lib.hid (And.intro hB (htx w y B rfl hB)); clear hB htx
        simp only [List.length_cons]
        obtain ⟨q, hp⟩ : ∃ q, B.length = q := ⟨_, rfl⟩
        rw [hp] at hsy hbc ⊢
        have HQ := Lib.hid hp; clear hp
        have ay0 : ((q : Int) + 1 == 0) = false := by simp; omega
        have ay1 : decide (0 < (q : Int) + 1) = true := decide_eq_true (by omega)
        have ay2 : (0 : Int) < (q : Int) + 1 := by omega
        have HST : Hid (mergeL (fun x y => x && !y) [] (y :: B) = mergeL (fun x y => x && !y) [] B) := Lib.hid (by rw [mergeL]; rfl)
        go_wp2_with fail
        go_quiet (fail)
        go_wp2_with fail
        go_quiet (fail)
        go_wp2_with fail
        go_quiet (fail)
        go_wp2_with fail
        refine (diff1_calls false true _).mono ?_
        rintro e w6 ⟨rfl, hw6⟩
        have g6 : wr.grownBy w6 none := by rw [hw6]; exact grown_drewN _ _ _
        clear hw6
        have HD6 := Lib.hid (own_grown HD.out g6)
        have hsz6 : w.heap.size ≤ w6.heap.size := Nat.le_trans hsz g6.size
        have HG6 := Lib.hid (HGI.out.2.2.trans g6); clear g6 hsz
        go_wp2_with fail
        go_roundg (0 + (q))
        case measure => rw [HGI.out.1]; have hq2 := HQ.out; (first | omega | (simp only [List.length_cons, List.length_nil]; omega))
        case rel =>
          refine ⟨[], B, D, aa, sb2, ac, (bc - 1), ⟨rfl, by rw [HQ.out], by have hq2 := HQ.out; (first | omega | (simp only [List.length_nil]; omega))⟩, ⟨HA.out, HBT.out.2, ?_⟩, ?_, ?_, ?_⟩
          · have hq0 := HLEN.out; have hq3 := HDL.out; have hq2 := HQ.out; simp only [List.length_cons, List.length_nil] at hq0 ⊢; omega
          · rw [HDL.out]; exact HD6.out
          · rw [HGI.out.2.1, HST.out]
          · exact HG6.out
    | cons x A =>
      obtain ⟨b1, o1, rfl, cx⟩ := (hA.grown HGI.out.2.2).at (i := 0) (z := x) rfl
      rw [Nat.add_zero] at cx
      have hac : A.length + 1 ≤ ac := hA.1
      obtain ⟨sa2, hsx, htx⟩ := ints_tail (b := b1) (o := o1) hac
      have HAT := Lib.hid (And.intro hA (htx w x A rfl hA)); clear hA htx
      simp only [List.length_cons]
      obtain ⟨p, hp⟩ : ∃ p, A.length = p := ⟨_, rfl⟩
      rw [hp] at hsx hac ⊢
      have HP := Lib.hid hp; clear hp
      have ax0 : ((p : Int) + 1 == 0) = false := by simp; omega
      have ax1 : decide (0 < (p : Int) + 1) = true := decide_eq_true (by omega)
      have ax2 : (0 : Int) < (p : Int) + 1 := by omega
      cases B with
      | nil =>
        have HBN := Lib.hid hB; clear hB
        simp only [List.length_nil]
        have HST : Hid (mergeL (fun x y => x && !y) (x :: A) [] = x :: mergeL (fun x y => x && !y) A []) := Lib.hid (by rw [mergeL]; rfl)
        go_wp2_with fail
        go_quiet (fail)
        go_wp2_with fail
        go_quiet (fail)
        go_wp2_with fail
        go_quiet (fail)
        go_wp2_with fail
        refine (diff1_calls true false _).mono ?_
        rintro e w6 ⟨rfl, hw6⟩
        have g6 : wr.grownBy w6 none := by rw [hw6]; exact grown_drewN _ _ _
        clear hw6
        have HD6 := Lib.hid (own_grown HD.out g6)
        have hsz6 : w.heap.size ≤ w6.heap.size := Nat.le_trans hsz g6.size
        have HG6 := Lib.hid (HGI.out.2.2.trans g6); clear g6 hsz
        go_wp2_with (at_builtin; refine wpList_append_own _ rfl _ _ 28 rfl w.heap.size 3 i0 (.int .i64 0) 1 8 Try.underlying28 hi0 hz0 hz1 hz2 rfl (by decide) _ _ _ rfl (HD6.out.alloc _) ⟨w6.heap.size, 0, none⟩ 1 1 [.int .i64 x] rfl rfl (cell_one_new _ _ _) (fun u hu => by simp at hu; subst hu; rfl) (by unfold maxLen; omega) (by omega) (by simp only [World.size_alloc]; omega) ?_; intro v' w7 hown' hgrow7 _; obtain ⟨ga', gc', rfl⟩ := own_shape hown')
        go_roundg (p + (0))
        case measure => rw [HGI.out.1]; have hq1 := HP.out; (first | omega | (simp only [List.length_cons, List.length_nil]; omega))
        case rel =>
          refine ⟨A, [], D ++ [x], sa2, ba, (ac - 1), bc, ⟨by rw [HP.out], rfl, by have hq1 := HP.out; (first | omega | (simp only [List.length_nil]; omega))⟩, ⟨HAT.out.2, HBN.out, ?_⟩, ?_, ?_, ?_⟩
          · have hq0 := HLEN.out; have hq3 := HDL.out; have hq1 := HP.out; simp only [List.length_append, List.length_cons, List.length_nil] at hq0 ⊢; omega
          · rw [List.length_append, HDL.out]; simpa [intCells] using hown'
          · rw [HGI.out.2.1, HST.out, List.append_assoc]; rfl
          · exact grown_own (HG6.out.trans (World.grownBy_alloc _ _ none)) hgrow7 (fun k hk => (HD6.out.lt k hk).1)
      | cons y B =>
        obtain ⟨b2, o2, rfl, cy⟩ := (hB.grown HGI.out.2.2).at (i := 0) (z := y) rfl
        rw [Nat.add_zero] at cy
        have hbc : B.length + 1 ≤ bc := hB.1
        obtain ⟨sb2, hsy, htx⟩ := ints_tail (b := b2) (o := o2) hbc
        have HBT := Lib.hid (And.intro hB (htx w y B rfl hB)); clear hB htx
        simp only [List.length_cons]
        obtain ⟨q, hp⟩ : ∃ q, B.length = q := ⟨_, rfl⟩
        rw [hp] at hsy hbc ⊢
        have HQ := Lib.hid hp; clear hp
        have ay0 : ((q : Int) + 1 == 0) = false := by simp; omega
        have ay1 : decide (0 < (q : Int) + 1) = true := decide_eq_true (by omega)
        have ay2 : (0 : Int) < (q : Int) + 1 := by omega
        by_cases hcase : x < y
        · have q1 : decide (x ≤ y) = true := decide_eq_true (by omega)
          have q2 : decide (y ≤ x) = false := decide_eq_false (by omega)
          have HST : Hid (mergeL (fun x y => x && !y) (x :: A) (y :: B) = x :: mergeL (fun x y => x && !y) A (y :: B)) := Lib.hid (by rw [mergeL, if_pos (by omega)]; rfl)
          clear hcase
          go_wp2_with fail
          go_quiet (fail)
          go_wp2_with fail
          go_quiet (fail)
          go_wp2_with fail
          go_quiet (fail)
          go_wp2_with fail
          refine (diff1_calls true false _).mono ?_
          rintro e w6 ⟨rfl, hw6⟩
          have g6 : wr.grownBy w6 none := by rw [hw6]; exact grown_drewN _ _ _
          clear hw6
          have HD6 := Lib.hid (own_grown HD.out g6)
          have hsz6 : w.heap.size ≤ w6.heap.size := Nat.le_trans hsz g6.size
          have HG6 := Lib.hid (HGI.out.2.2.trans g6); clear g6 hsz
          go_wp2_with (at_builtin; refine wpList_append_own _ rfl _ _ 28 rfl w.heap.size 3 i0 (.int .i64 0) 1 8 Try.underlying28 hi0 hz0 hz1 hz2 rfl (by decide) _ _ _ rfl (HD6.out.alloc _) ⟨w6.heap.size, 0, none⟩ 1 1 [.int .i64 x] rfl rfl (cell_one_new _ _ _) (fun u hu => by simp at hu; subst hu; rfl) (by unfold maxLen; omega) (by omega) (by simp only [World.size_alloc]; omega) ?_; intro v' w7 hown' hgrow7 _; obtain ⟨ga', gc', rfl⟩ := own_shape hown')
          go_roundg (p + (q + 1))
          case measure => rw [HGI.out.1]; have hq1 := HP.out; have hq2 := HQ.out; (first | omega | (simp only [List.length_cons]; omega))
          case rel =>
            refine ⟨A, (y :: B), D ++ [x], sa2, (some ⟨b2, o2, none⟩), (ac - 1), bc, ⟨by rw [HP.out], by rw [List.length_cons, HQ.out], by have hq1 := HP.out; have hq2 := HQ.out; (first | omega | (simp only [List.length_cons]; omega))⟩, ⟨HAT.out.2, HBT.out.1, ?_⟩, ?_, ?_, ?_⟩
            · have hq0 := HLEN.out; have hq3 := HDL.out; have hq1 := HP.out; have hq2 := HQ.out; simp only [List.length_append, List.length_cons, List.length_nil] at hq0 ⊢; omega
            · rw [List.length_append, HDL.out]; simpa [intCells] using hown'
            · rw [HGI.out.2.1, HST.out, List.append_assoc]; rfl
            · exact grown_own (HG6.out.trans (World.grownBy_alloc _ _ none)) hgrow7 (fun k hk => (HD6.out.lt k hk).1)
        have hlt := hcase; clear hcase
        by_cases hcase : y < x
        · have q1 : decide (x ≤ y) = false := decide_eq_false (by omega)
          have q2 : decide (y ≤ x) = true := decide_eq_true (by omega)
          have HST : Hid (mergeL (fun x y => x && !y) (x :: A) (y :: B) = mergeL (fun x y => x && !y) (x :: A) B) := Lib.hid (by rw [mergeL, if_neg (by omega), if_pos (by omega)]; rfl)
          clear hcase
          go_wp2_with fail
          go_quiet (fail)
          go_wp2_with fail
          go_quiet (fail)
          go_wp2_with fail
          go_quiet (fail)
          go_wp2_with fail
          refine (diff1_calls false true _).mono ?_
          rintro e w6 ⟨rfl, hw6⟩
          have g6 : wr.grownBy w6 none := by rw [hw6]; exact grown_drewN _ _ _
          clear hw6
          have HD6 := Lib.hid (own_grown HD.out g6)
          have hsz6 : w.heap.size ≤ w6.heap.size := Nat.le_trans hsz g6.size
          have HG6 := Lib.hid (HGI.out.2.2.trans g6); clear g6 hsz
          go_wp2_with fail
          go_roundg (p + 1 + (q))
          case measure => rw [HGI.out.1]; have hq1 := HP.out; have hq2 := HQ.out; (first | omega | (simp only [List.length_cons]; omega))
          case rel =>
            refine ⟨(x :: A), B, D, (some ⟨b1, o1, none⟩), sb2, ac, (bc - 1), ⟨by rw [List.length_cons, HP.out], by rw [HQ.out], by have hq1 := HP.out; have hq2 := HQ.out; (first | omega | (simp only [List.length_cons]; omega))⟩, ⟨HAT.out.1, HBT.out.2, ?_⟩, ?_, ?_, ?_⟩
            · have hq0 := HLEN.out; have hq3 := HDL.out; have hq1 := HP.out; have hq2 := HQ.out; simp only [List.length_cons] at hq0 ⊢; omega
            · rw [HDL.out]; exact HD6.out
            · rw [HGI.out.2.1, HST.out]
            · exact HG6.out
        have hcase := 0
        have q1 : decide (x ≤ y) = true := decide_eq_true (by omega)
        have q2 : decide (y ≤ x) = true := decide_eq_true (by omega)
        have HST : Hid (mergeL (fun x y => x && !y) (x :: A) (y :: B) = mergeL (fun x y => x && !y) A B) := Lib.hid (by rw [mergeL, if_neg (by omega), if_neg (by omega)]; rfl)
        clear hcase
        go_wp2_with fail
        go_quiet (fail)
        go_wp2_with fail
        go_quiet (fail)
        go_wp2_with fail
        go_quiet (fail)
        go_wp2_with fail
        go_quiet (fail)
        go_wp2_with fail
        refine (diff1_calls true true _).mono ?_
        rintro e w6 ⟨rfl, hw6⟩
        have g6 : wr.grownBy w6 none := by rw [hw6]; exact grown_drewN _ _ _
        clear hw6
        have HD6 := Lib.hid (own_grown HD.out g6)
        have hsz6 : w.heap.size ≤ w6.heap.size := Nat.le_trans hsz g6.size
        have HG6 := Lib.hid (HGI.out.2.2.trans g6); clear g6 hsz
        go_wp2_with fail
        go_roundg (p + (q))
        case measure => rw [HGI.out.1]; have hq1 := HP.out; have hq2 := HQ.out; (first | omega | (simp only [List.length_cons]; omega))
        case rel =>
          refine ⟨A, B, D, sa2, sb2, (ac - 1), (bc - 1), ⟨by rw [HP.out], by rw [HQ.out], by have hq1 := HP.out; have hq2 := HQ.out; (first | omega | (simp only [List.length_cons, List.length_nil]; omega))⟩, ⟨HAT.out.2, HBT.out.2, ?_⟩, ?_, ?_, ?_⟩
          · have hq0 := HLEN.out; have hq3 := HDL.out; have hq1 := HP.out; have hq2 := HQ.out; simp only [List.length_cons] at hq0 ⊢; omega
          · rw [HDL.out]; exact HD6.out
          · rw [HGI.out.2.1, HST.out]
          · exact HG6.out
end Go.Proofs.Ytbddpjofhddilaa
/- The difference; containment. -/
namespace Go.Proofs.Ytbddpjofhddilaa
open Go.RowKit

theorem six_cells (w : World) (u0 u1 v0 v1 x0 x1 : Value) (s t r : TypeId) :
    w.heap.size + 2 < (((w.alloc (.cells #[u0, u1] s)).alloc (.cells #[v0, v1] t)).alloc (.cells #[x0, x1] r)).heap.size ∧
    (((w.alloc (.cells #[u0, u1] s)).alloc (.cells #[v0, v1] t)).alloc (.cells #[x0, x1] r)).cell? ⟨w.heap.size, 0, none⟩ = some u0 ∧ (((w.alloc (.cells #[u0, u1] s)).alloc (.cells #[v0, v1] t)).alloc (.cells #[x0, x1] r)).cell? ⟨w.heap.size, 1, none⟩ = some u1 ∧
    (((w.alloc (.cells #[u0, u1] s)).alloc (.cells #[v0, v1] t)).alloc (.cells #[x0, x1] r)).cell? ⟨w.heap.size + 1, 0, none⟩ = some v0 ∧ (((w.alloc (.cells #[u0, u1] s)).alloc (.cells #[v0, v1] t)).alloc (.cells #[x0, x1] r)).cell? ⟨w.heap.size + 1, 1, none⟩ = some v1 ∧
    (((w.alloc (.cells #[u0, u1] s)).alloc (.cells #[v0, v1] t)).alloc (.cells #[x0, x1] r)).cell? ⟨w.heap.size + 2, 0, none⟩ = some x0 ∧ (((w.alloc (.cells #[u0, u1] s)).alloc (.cells #[v0, v1] t)).alloc (.cells #[x0, x1] r)).cell? ⟨w.heap.size + 2, 1, none⟩ = some x1 ∧
    (((w.alloc (.cells #[u0, u1] s)).alloc (.cells #[v0, v1] t)).alloc (.cells #[x0, x1] r)).frozen? ⟨w.heap.size + 2, 0, none⟩ = false ∧ (((w.alloc (.cells #[u0, u1] s)).alloc (.cells #[v0, v1] t)).alloc (.cells #[x0, x1] r)).frozen? ⟨w.heap.size + 2, 1, none⟩ = false := by
  refine ⟨by simp, by go_simp, by go_simp, by go_simp, by go_simp, by go_simp, by go_simp, by go_simp, by go_simp⟩

theorem results124 (tmps : Array Value) (w : World) (b : Nat) (a : Option Addr) (n c : Nat) (x : Int) (ht : tmps.getD 4 undef = .pointer (some ⟨b, 0, none⟩)) (h0 : w.cell? ⟨b, 0, none⟩ = some (.int .i64 x)) (h1 : w.cell? ⟨b, 1, none⟩ = some (.slice a n c)) :
    (results Try.f124 tmps).run Try.prog w = .ok (.agg #[.int .i64 x, .slice a n c]) w := by
  have ht' : tmps[4]?.getD undef = .pointer (some ⟨b, 0, none⟩) := by simpa using ht
  simp [results, ht', go_sem, h0, h1, Result.andThen]

/-- The difference of two rows. -/
abbrev diffL (xs ys : List Int) : List Int := mergeL (fun x y => x && !y) xs ys

set_option maxRecDepth 100000 in
set_option maxHeartbeats 2000000 in
theorem diff_calls (x y : Int) (xs ys : List Int) (xa ya : Option Addr) (xc yc : Nat) (w : World) (h : IntsW w xa xc xs) (h' : IntsW w ya yc ys) (hl : xs.length ≤ 100000) (hl' : ys.length ≤ 100000) :
    Calls Try.prog 124 #[.agg #[.int .i64 x, .slice xa xs.length xc], .agg #[.int .i64 y, .slice ya ys.length yc]] w fun e w' =>
      ∃ a' c', e = .returned (.agg #[.int .i64 x, .slice a' (diffL xs ys).length c']) ∧ Span w.heap.size w'.heap.size w' (fun W => IntsW W a' c' (diffL xs ys)) ∧ w.grownBy w' none := by
  obtain ⟨n, hn⟩ : ∃ n, xs.length = n := ⟨_, rfl⟩
  obtain ⟨m, hm⟩ : ∃ m, ys.length = m := ⟨_, rfl⟩
  obtain ⟨R, hR⟩ : ∃ R, diffL xs ys = R := ⟨_, rfl⟩
  obtain ⟨p, hp⟩ : ∃ p, R.length = p := ⟨_, rfl⟩
  rw [hR, hp]
  have hg1 := World.grownBy_alloc w (.cells #[.int .i64 x, .slice xa n xc] 53) none
  have hg2 := World.grownBy_alloc (w.alloc (.cells #[.int .i64 x, .slice xa n xc] 53)) (.cells #[.int .i64 y, .slice ya m yc] 53) none
  have hg3 := World.grownBy_alloc ((w.alloc (.cells #[.int .i64 x, .slice xa n xc] 53)).alloc (.cells #[.int .i64 y, .slice ya m yc] 53)) (.cells #[.int .i64 0, .slice none 0 0] 53) none
  have hg := (hg1.trans hg2).trans hg3
  have hc := six_cells w (.int .i64 x) (.slice xa n xc) (.int .i64 y) (.slice ya m yc) (.int .i64 0) (.slice none 0 0) 53 53 53
  obtain ⟨W, hW⟩ : ∃ W, ((w.alloc (.cells #[.int .i64 x, .slice xa n xc] 53)).alloc (.cells #[.int .i64 y, .slice ya m yc] 53)).alloc (.cells #[.int .i64 0, .slice none 0 0] 53) = W := ⟨_, rfl⟩
  rw [hW] at hg hc
  have HC := Lib.hid (fun (W' : World) (hW' : W.grownBy W' none) => mergeDiff_calls xs ys xa ya xc yc W' ((h.grown hg).grown hW') ((h'.grown hg).grown hW') hl hl')
  have hR' : mergeL (fun x y => x && !y) xs ys = R := hR
  rw [hR', hn, hm, hp] at HC
  rw [hn, hm]
  have HG := Lib.hid hg
  clear hg hg1 hg2 hg3 h h' hl hl' hn hm hR hR' hp
  obtain ⟨hlt, c0, c1, d0, d1, e0, e1, ef0, ef1⟩ := hc
  go_enter Try.func124, Try.ntmps124
  go_wp2_with fail
  clear hW
  go_region_with (go_at_call 87; refine (HC.out W.drew (grown_drewN W 1 _)).mono ?_; rintro e w3 ⟨a', c', rfl, hi, g3⟩; have HI := Lib.hid hi; clear hi; replace g3 := World.grownBy.trans (b := W.drew) (grown_drewN W 1 _) g3; have k0 := g3.cell c0 (by simp); have k1 := g3.cell c1 (by simp); have l0 := g3.cell d0 (by simp); have l1 := g3.cell d1 (by simp); have m0 := g3.cell e0 (by simp); have m1 := g3.cell e1 (by simp); have f0 := (grown_frozen g3 hlt 0).trans ef0; have f1 := (grown_frozen g3 hlt 1).trans ef1; have HG3 := Lib.hid g3; clear g3)
  all_goals
    go_wp2_with fail
    refine bodyPost_ret (results124 _ _ (w.heap.size + 2) a' p c' x rfl (by rw [World.cell?_setCell_other _ _ _ _ (by intro e; injection e with _ e; cases e)]; exact World.cell?_setCell_same _ _ _ m0) (World.cell?_setCell_same _ _ _ (by rw [World.cell?_setCell_other _ _ _ _ (by intro e; injection e with _ e; cases e)]; exact m1))) rfl ⟨a', c', rfl, ?_, ?_⟩
    · have hs := HI.out
      have hs2 := (hs.off (grown_set w3 (w.heap.size + 2) 0 (.int .i64 x)) (fun y hy => by cases hy; exact .inl (by simpa using hlt))).off (grown_set _ (w.heap.size + 2) 1 (.slice a' p c')) (fun y hy => by cases hy; exact .inl (by simpa using hlt))
      exact hs2.wide (Nat.le_trans HG.out.size (Nat.le_refl _)) (by simp [World.setCell]) (Nat.le_refl _)
    · have hg := HG.out.trans HG3.out
      have hg1 := grown_own hg (grown_set w3 (w.heap.size + 2) 0 (.int .i64 x)) (fun k hk => by cases hk; omega)
      exact grown_own hg1 (grown_set _ (w.heap.size + 2) 1 (.slice a' p c')) (fun k hk => by cases hk; omega)

end Go.Proofs.Ytbddpjofhddilaa
/- Containment; whether a relation fits. -/
namespace Go.Proofs.Ytbddpjofhddilaa
open Go.RowKit

theorem field53 (x : Int) (a : Option Addr) (p c : Nat) (w : World) : (Instr.field 53 (.agg #[.int .i64 x, .slice a p c]) 1).run Try.prog w = .ok (.slice a p c) w := by kernel_rfl

/-- Whether a row lies in another. -/
def inB (xs ys : List Int) : Bool := decide ((diffL xs ys).length = 0)

set_option maxRecDepth 100000 in
set_option maxHeartbeats 2000000 in
theorem in_calls (x y : Int) (xs ys : List Int) (xa ya : Option Addr) (xc yc : Nat) (w : World) (h : IntsW w xa xc xs) (h' : IntsW w ya yc ys) (hl : xs.length ≤ 100000) (hl' : ys.length ≤ 100000) :
    Calls Try.prog 99 #[.agg #[.int .i64 x, .slice xa xs.length xc], .agg #[.int .i64 y, .slice ya ys.length yc]] w fun e w' => e = .returned (.bool (inB xs ys)) ∧ w.grownBy w' none := by
  obtain ⟨n, hn⟩ : ∃ n, xs.length = n := ⟨_, rfl⟩
  obtain ⟨m, hm⟩ : ∃ m, ys.length = m := ⟨_, rfl⟩
  have hg1 := World.grownBy_alloc w (.cells #[.int .i64 x, .slice xa n xc] 53) none
  have hg2 := World.grownBy_alloc (w.alloc (.cells #[.int .i64 x, .slice xa n xc] 53)) (.cells #[.int .i64 y, .slice ya m yc] 53) none
  have hg := hg1.trans hg2
  have HD := Lib.hid (And.intro (diff_calls x y xs ys xa ya xc yc _ (h.grown hg) (h'.grown hg) hl hl') hg)
  rw [hn, hm] at HD ⊢
  obtain ⟨p, hp⟩ : ∃ p, (diffL xs ys).length = p := ⟨_, rfl⟩
  rw [hp] at HD
  have HP : Hid (inB xs ys = decide (p = 0)) := Lib.hid (by rw [inB, hp])
  clear hg hg1 hg2 hn hm h h' hl hl' hp
  go_enter Try.func99, Try.ntmps99
  go_wp2_with fail
  refine HD.out.1.mono ?_
  rintro e w1 ⟨a', c', rfl, -, g1⟩
  have HG := Lib.hid (HD.out.2.trans g1); clear g1
  have hf := field53 x a' p c'
  by_cases hp0 : p = 0
  · have f0 : ((p : Int) == 0) = true := by simp; omega
    have HPP : Hid (inB xs ys = true) := Lib.hid (by rw [HP.out]; simpa using hp0)
    clear hp0
    go_wp2_with fail
    go_ret
    exact ⟨by rw [HPP.out]; rfl, HG.out⟩
  · have f0 : ((p : Int) == 0) = false := by simp; omega
    have HPP : Hid (inB xs ys = false) := Lib.hid (by rw [HP.out]; simpa using hp0)
    clear hp0
    go_wp2_with fail
    go_ret
    exact ⟨by rw [HPP.out]; rfl, HG.out⟩
end Go.Proofs.Ytbddpjofhddilaa
/- Whether some state has a wrong number of relations; a set of one atom. -/
namespace Go.Proofs.Ytbddpjofhddilaa
open Go.RowKit

set_option maxHeartbeats 1000000 in
theorem valid1_calls (k nf : Nat) (a fa : Option Addr) (c fc b : Nat) (w : World) (hb : w.cell? ⟨b, 1, none⟩ = some (.slice fa nf fc)) :
    Calls Try.prog 69 #[.slice a k c, .pointer (some ⟨b, 0, none⟩)] w fun e w' => e = .returned (.bool (k != nf)) ∧ w' = w := by
  by_cases h : k = nf
  · have e1 : ((k : Int) != (nf : Int)) = false := by simp; omega
    have HR : Hid ((k != nf) = false) := Lib.hid (by simpa using h)
    clear h
    go_enter Try.func69, Try.ntmps69
    go_wp2_with fail
    go_ret
    exact ⟨by rw [HR.out]; rfl, rfl⟩
  · have e1 : ((k : Int) != (nf : Int)) = true := by simp; omega
    have HR : Hid ((k != nf) = true) := Lib.hid (by simpa using h)
    clear h
    go_enter Try.func69, Try.ntmps69
    go_wp2_with fail
    go_ret
    exact ⟨by rw [HR.out]; rfl, rfl⟩

/-- Some state has another number of relations. -/
def oddState (nf : Nat) (L : List (List Rl)) : Bool := L.any fun l => l.length != nf

set_option maxRecDepth 100000 in
set_option maxHeartbeats 2000000 in
theorem index1_calls (L : List (List Rl)) (a fa : Option Addr) (c nf fc b : Nat) (w : World) (h : Sts w a c L) (hl : (L.length : Int) ≤ 9223372036854775807) (hb : w.cell? ⟨b, 1, none⟩ = some (.slice fa nf fc)) :
    Calls Try.prog 114 #[.slice a L.length c, .func (.func 69) #[] #[.pointer (some ⟨b, 0, none⟩)]] w fun e w' => (∃ r : Int, e = .returned (.int .i64 r) ∧ decide (0 ≤ r) = oddState nf L) ∧ w' = w := by
  obtain ⟨n, hn⟩ : ∃ n, L.length = n := ⟨_, rfl⟩
  rw [hn] at hl ⊢
  have HN := Lib.hid (And.intro hn h); clear hn h
  have HB := Lib.hid hb; clear hb
  go_enter Try.func114, Try.ntmps114
  go_wp2_with fail
  go_loopg [8] n (fun g s8 wr => ∃ i : Nat, s8 = .int .i64 (i : Int) ∧ g = n - i ∧ i ≤ n ∧ (∀ l ∈ L.take i, l.length = nf) ∧ wr = w)
  case atStart => exact ⟨0, rfl, rfl, Nat.zero_le _, fun l hl => by simp at hl, rfl⟩
  case round =>
    obtain ⟨i, rfl, hgi, hi, hok, rfl⟩ := hrel
    have HGI := Lib.hid (And.intro hgi hok); clear hgi hok
    by_cases hin : i < n
    · have hinB : decide (i < n) = true := by simpa using hin
      have hinI : (i : Int) < (n : Int) := by omega
      obtain ⟨l, hx⟩ : ∃ l, L[i]? = some l := ⟨_, List.getElem?_eq_getElem (by rw [HN.out.1]; exact hin)⟩
      obtain ⟨sb, so, rfl, la, lc, c1, _⟩ := HN.out.2.2 i l hx
      have HX := Lib.hid hx; clear hx
      have HV := Lib.hid (valid1_calls l.length nf la fa lc fc b wr HB.out)
      obtain ⟨p, hp⟩ : ∃ p, l.length = p := ⟨_, rfl⟩
      rw [hp] at c1 HV
      have HP := Lib.hid hp; clear hp
      obtain ⟨R, hR⟩ : ∃ R, (p != nf) = R := ⟨_, rfl⟩
      rw [hR] at HV
      have HR := Lib.hid hR; clear hR
      go_wp2_with fail
      refine HV.out.mono ?_
      rintro e w5 ⟨rfl, rfl⟩
      cases R with
      | true =>
        have HO : Hid (oddState nf L = true) := Lib.hid (List.any_eq_true.2 ⟨l, List.mem_of_getElem? HX.out, by rw [HP.out]; exact HR.out⟩)
        go_wp2_with fail
        go_ret
        exact ⟨⟨(i : Int), rfl, by rw [HO.out]; exact decide_eq_true (by omega)⟩, rfl⟩
      | false =>
        go_wp2_with fail
        go_roundg (n - (i + 1))
        case measure => rw [HGI.out.1]; omega
        case rel => exact ⟨i + 1, rfl, rfl, by omega, fun l' hl' => by
          rw [List.take_add_one, HX.out, Option.toList_some, List.mem_append, List.mem_singleton] at hl'
          rcases hl' with h1 | rfl
          · exact HGI.out.2 l' h1
          · rw [HP.out]; simpa using HR.out, rfl⟩
    · have hie : i = n := by omega
      subst hie
      have hinB : decide (i < i) = false := by simp
      have HO : Hid (oddState nf L = false) := Lib.hid (by
        have h1 := HGI.out.2
        rw [List.take_of_length_le (by rw [HN.out.1]; exact Nat.le_refl _)] at h1
        rw [oddState, List.any_eq_false]
        intro l hl
        simp [h1 l hl])
      go_wp2_with fail
      go_ret
      exact ⟨⟨-1, rfl, by rw [HO.out]; rfl⟩, rfl⟩

set_option maxRecDepth 100000 in
set_option maxHeartbeats 1000000 in
theorem contains1_calls (L : List (List Rl)) (a fa : Option Addr) (c nf fc b : Nat) (w : World) (h : Sts w a c L) (hl : (L.length : Int) ≤ 9223372036854775807) (hb : w.cell? ⟨b, 1, none⟩ = some (.slice fa nf fc)) :
    Calls Try.prog 68 #[.slice a L.length c, .func (.func 69) #[] #[.pointer (some ⟨b, 0, none⟩)]] w fun e w' => e = .returned (.bool (oddState nf L)) ∧ w' = w := by
  go_enter Try.func68, Try.ntmps68
  go_wp2_with fail
  refine (index1_calls L a fa c nf fc b w h hl hb).mono ?_
  rintro e w' ⟨⟨r, rfl, hr⟩, rfl⟩
  obtain ⟨O, hO⟩ : ∃ O, oddState nf L = O := ⟨_, rfl⟩
  rw [hO] at hr
  have HO := Lib.hid hO
  clear hO h hl hb
  cases O
  all_goals
    go_wp2_with fail
    go_ret
    exact ⟨by rw [HO.out]; rfl, rfl⟩
end Go.Proofs.Ytbddpjofhddilaa
/- Whether a relation fits. -/
namespace Go.Proofs.Ytbddpjofhddilaa
open Go.RowKit

/-- Whether a relation fits: its arity, its validity, its containment. -/
def fitsB (n : Nat) (r f : Rl) : Bool := decide (r.1 = f.1) && relValid (n : Int) r.1 r.2 && inB r.2 f.2

theorem six_boxes (w : World) (u0 u1 v0 v1 x0 x1 : Value) (s t r : TypeId) :
    (((w.alloc (.cells #[u0, u1] s)).alloc (.cells #[v0, v1] t)).alloc (.cells #[x0, x1] r)).cell? ⟨w.heap.size, 0, none⟩ = some u0 ∧ (((w.alloc (.cells #[u0, u1] s)).alloc (.cells #[v0, v1] t)).alloc (.cells #[x0, x1] r)).cell? ⟨w.heap.size, 1, none⟩ = some u1 ∧
    (((w.alloc (.cells #[u0, u1] s)).alloc (.cells #[v0, v1] t)).alloc (.cells #[x0, x1] r)).cell? ⟨w.heap.size + 1, 0, none⟩ = some v0 ∧ (((w.alloc (.cells #[u0, u1] s)).alloc (.cells #[v0, v1] t)).alloc (.cells #[x0, x1] r)).cell? ⟨w.heap.size + 1, 1, none⟩ = some v1 ∧
    (((w.alloc (.cells #[u0, u1] s)).alloc (.cells #[v0, v1] t)).alloc (.cells #[x0, x1] r)).cell? ⟨w.heap.size + 2, 0, none⟩ = some x0 ∧ (((w.alloc (.cells #[u0, u1] s)).alloc (.cells #[v0, v1] t)).alloc (.cells #[x0, x1] r)).cell? ⟨w.heap.size + 2, 1, none⟩ = some x1 :=
  ⟨(six_cells w u0 u1 v0 v1 x0 x1 s t r).2.1, (six_cells w u0 u1 v0 v1 x0 x1 s t r).2.2.1, (six_cells w u0 u1 v0 v1 x0 x1 s t r).2.2.2.1, (six_cells w u0 u1 v0 v1 x0 x1 s t r).2.2.2.2.1, (six_cells w u0 u1 v0 v1 x0 x1 s t r).2.2.2.2.2.1, (six_cells w u0 u1 v0 v1 x0 x1 s t r).2.2.2.2.2.2.1⟩
theorem held_next6 {wr W W' : World} {a0 a1 a2 a3 a4 a5 : Addr} {v0 v1 v2 v3 v4 v5 : Value} (g : W.grownBy W' none) (h : wr.grownBy W none) (h0 : W.cell? a0 = some v0) (h1 : W.cell? a1 = some v1) (h2 : W.cell? a2 = some v2) (h3 : W.cell? a3 = some v3) (h4 : W.cell? a4 = some v4) (h5 : W.cell? a5 = some v5) :
    wr.grownBy W' none ∧ W'.cell? a0 = some v0 ∧ W'.cell? a1 = some v1 ∧ W'.cell? a2 = some v2 ∧ W'.cell? a3 = some v3 ∧ W'.cell? a4 = some v4 ∧ W'.cell? a5 = some v5 :=
  ⟨h.trans g, g.cell h0 (by simp), g.cell h1 (by simp), g.cell h2 (by simp), g.cell h3 (by simp), g.cell h4 (by simp), g.cell h5 (by simp)⟩

set_option maxRecDepth 100000 in
set_option maxHeartbeats 4000000 in
theorem fits_yes (zs : List Nat) (za : Option Addr) (zc : Nat) (st : Int) (x : Int) (xs ys : List Int) (xa ya : Option Addr) (xc yc : Nat) (w : World) (hn : Nums w za zc zs) (hz : ∀ z ∈ zs, z ≤ 5) (hzl : zs.length ≤ 4) (h : IntsW w xa xc xs) (h' : IntsW w ya yc ys) (hl : xs.length ≤ 100000) (hl' : ys.length ≤ 100000)
    (hv : relValid (sum zs : Nat) x xs = true) :
    Calls Try.prog 66 #[.agg #[.slice za zs.length zc, .int .i64 st], .agg #[.int .i64 x, .slice xa xs.length xc], .agg #[.int .i64 x, .slice ya ys.length yc]] w fun e w' => e = .returned (.bool (inB xs ys)) ∧ w.grownBy w' none := by
  obtain ⟨n, hn1⟩ : ∃ n, xs.length = n := ⟨_, rfl⟩
  obtain ⟨m, hm1⟩ : ∃ m, ys.length = m := ⟨_, rfl⟩
  obtain ⟨k, hk1⟩ : ∃ k, zs.length = k := ⟨_, rfl⟩
  have hg1 := World.grownBy_alloc w (.cells #[.slice za k zc, .int .i64 st] 30) none
  have hg2 := World.grownBy_alloc (w.alloc (.cells #[.slice za k zc, .int .i64 st] 30)) (.cells #[.int .i64 x, .slice xa n xc] 53) none
  have hg3 := World.grownBy_alloc ((w.alloc (.cells #[.slice za k zc, .int .i64 st] 30)).alloc (.cells #[.int .i64 x, .slice xa n xc] 53)) (.cells #[.int .i64 x, .slice ya m yc] 53) none
  have hg := (hg1.trans hg2).trans hg3
  have hc := six_boxes w (.slice za k zc) (.int .i64 st) (.int .i64 x) (.slice xa n xc) (.int .i64 x) (.slice ya m yc) 30 53 53
  obtain ⟨W, hW⟩ : ∃ W, ((w.alloc (.cells #[.slice za k zc, .int .i64 st] 30)).alloc (.cells #[.int .i64 x, .slice xa n xc] 53)).alloc (.cells #[.int .i64 x, .slice ya m yc] 53) = W := ⟨_, rfl⟩
  rw [hW] at hg hc
  have HA := Lib.hid (fun (W' : World) (hW' : W.grownBy W' none) => atoms_calls zs za zc st W' ((hn.grown hg).grown hW') hz hzl)
  have HV := Lib.hid (fun (W' : World) (hW' : W.grownBy W' none) => relValid_calls (sum zs : Nat) x xs xa xc W' ((h.grown hg).grown hW') hl)
  have HI := Lib.hid (fun (W' : World) (hW' : W.grownBy W' none) => in_calls x x xs ys xa ya xc yc W' ((h.grown hg).grown hW') ((h'.grown hg).grown hW') hl hl')
  rw [hk1] at HA
  rw [hv, hn1] at HV
  rw [hn1, hm1] at HI
  rw [hn1, hm1, hk1]
  obtain ⟨S, hS⟩ : ∃ S, sum zs = S := ⟨_, rfl⟩
  rw [hS] at HA HV
  obtain ⟨O, hO⟩ : ∃ O, inB xs ys = O := ⟨_, rfl⟩
  rw [hO] at HI ⊢
  have HG := Lib.hid hg
  clear hg hg1 hg2 hg3 hn hz hzl h h' hl hl' hv hn1 hm1 hk1 hS hO
  obtain ⟨c0, c1, d0, d1, e0, e1⟩ := hc
  have q0 : (x == x) = true := by simp
  go_enter Try.func66, Try.ntmps66
  go_wp2_with fail
  clear hW
  go_region_held3 (fun w' => W.grownBy w' none ∧ w'.cell? ⟨w.heap.size, 0, none⟩ = some (.slice za k zc) ∧ w'.cell? ⟨w.heap.size, 1, none⟩ = some (.int .i64 st) ∧ w'.cell? ⟨w.heap.size + 1, 0, none⟩ = some (.int .i64 x) ∧ w'.cell? ⟨w.heap.size + 1, 1, none⟩ = some (.slice xa n xc) ∧ w'.cell? ⟨w.heap.size + 2, 0, none⟩ = some (.int .i64 x) ∧ w'.cell? ⟨w.heap.size + 2, 1, none⟩ = some (.slice ya m yc))
    (first | exact ⟨⟨rfl, rfl, rfl, Nat.le_refl _, fun _ _ _ => rfl⟩, c0, c1, d0, d1, e0, e1⟩ | (go_split_ands; exact held_next6 g3 (by assumption) (by assumption) (by assumption) (by assumption) (by assumption) (by assumption) (by assumption)) | fail)
    (first | (go_at_call 34; with_reducible refine (HA.out _ ?_).mono ?_; (go_split_ands; assumption); rintro e w3 ⟨rfl, g3⟩) | (go_at_call 62; with_reducible refine (HV.out _ ?_).mono ?_; (go_split_ands; assumption); rintro e w4 ⟨rfl, g3⟩) | (go_at_call 99; with_reducible refine (HI.out _ ?_).mono ?_; (go_split_ands; assumption); rintro e w5 ⟨rfl, g3⟩) | fail)
  all_goals
    have h14 : W.grownBy w5 none := by go_split_ands; assumption
    have HS := Lib.hid (HG.out.trans h14)
    clear h14
    go_wp2
    go_ret
    exact ⟨rfl, HS.out⟩
end Go.Proofs.Ytbddpjofhddilaa
/- A set of one atom, as the law makes it. -/
namespace Go.Proofs.Ytbddpjofhddilaa
open Go.RowKit

set_option maxRecDepth 100000 in
set_option maxHeartbeats 1000000 in
theorem set_calls (x : Int) (w : World) :
    Calls Try.prog 61 #[.int .i64 x] w fun e w' => ∃ a' c', e = .returned (.slice a' 1 c') ∧ Span w.heap.size w'.heap.size w' (fun W => Rels W a' c' [(1, [x])]) ∧ w.grownBy w' none := by
  have hg1 := World.grownBy_alloc w (.cells #[.int .i64 x] 3) none
  have hg2 := World.grownBy_alloc (w.alloc (.cells #[.int .i64 x] 3)) (.cells #[.int .i64 1, .slice (some ⟨w.heap.size, 0, none⟩) 1 1] 53) none
  have HG := Lib.hid (hg1.trans hg2)
  have hc : ((w.alloc (.cells #[.int .i64 x] 3)).alloc (.cells #[.int .i64 1, .slice (some ⟨w.heap.size, 0, none⟩) 1 1] 53)).cell? ⟨w.heap.size, 0, none⟩ = some (.int .i64 x) ∧
      ((w.alloc (.cells #[.int .i64 x] 3)).alloc (.cells #[.int .i64 1, .slice (some ⟨w.heap.size, 0, none⟩) 1 1] 53)).cell? ⟨w.heap.size + 1, 0, none⟩ = some (.int .i64 1) ∧
      ((w.alloc (.cells #[.int .i64 x] 3)).alloc (.cells #[.int .i64 1, .slice (some ⟨w.heap.size, 0, none⟩) 1 1] 53)).cell? ⟨w.heap.size + 1, 1, none⟩ = some (.slice (some ⟨w.heap.size, 0, none⟩) 1 1) := ⟨by go_simp, by go_simp, by go_simp⟩
  have hsz : ((w.alloc (.cells #[.int .i64 x] 3)).alloc (.cells #[.int .i64 1, .slice (some ⟨w.heap.size, 0, none⟩) 1 1] 53)).heap.size = w.heap.size + 2 := by simp
  have HS : Hid (Span w.heap.size ((w.alloc (.cells #[.int .i64 x] 3)).alloc (.cells #[.int .i64 1, .slice (some ⟨w.heap.size, 0, none⟩) 1 1] 53)).heap.size ((w.alloc (.cells #[.int .i64 x] 3)).alloc (.cells #[.int .i64 1, .slice (some ⟨w.heap.size, 0, none⟩) 1 1] 53)) (fun W => Rels W (some ⟨w.heap.size + 1, 0, none⟩) 1 [(1, [x])])) := Lib.hid (by
    obtain ⟨V, hV⟩ : ∃ V, (w.alloc (.cells #[.int .i64 x] 3)).alloc (.cells #[.int .i64 1, .slice (some ⟨w.heap.size, 0, none⟩) 1 1] 53) = V := ⟨_, rfl⟩
    rw [hV] at hc hsz ⊢
    refine ⟨Nat.le_refl _, fun W hW => ⟨Nat.le_refl _, fun j r hj => ?_⟩⟩
    match j, hj with
    | 0, hj =>
      simp at hj
      subst hj
      have h0 := hW w.heap.size (Nat.le_refl _) (by omega)
      have h1 := hW (w.heap.size + 1) (by omega) (by omega)
      refine ⟨w.heap.size + 1, 0, rfl, ?_, some ⟨w.heap.size, 0, none⟩, 1, ?_, ?_⟩
      · rw [Nat.zero_mul, Nat.add_zero, World.cell?_of_block (a := ⟨w.heap.size + 1, 0, none⟩) h1]; exact hc.2.1
      · rw [Nat.zero_mul, Nat.add_zero, Nat.zero_add, World.cell?_of_block (a := ⟨w.heap.size + 1, 1, none⟩) h1]; exact hc.2.2
      · refine ⟨Nat.le_refl _, .inr ⟨w.heap.size, 0, rfl, fun j z hj => ?_⟩⟩
        match j, hj with
        | 0, hj =>
          simp at hj
          subst hj
          rw [Nat.add_zero, World.cell?_of_block (a := ⟨w.heap.size, 0, none⟩) h0]; exact hc.1)
  clear hg1 hg2 hc hsz
  go_enter Try.func61, Try.ntmps61
  go_wp2_with fail
  go_ret
  exact ⟨_, _, rfl, HS.out, HG.out⟩
end Go.Proofs.Ytbddpjofhddilaa
/- Shorten's comparisons of two states. -/
namespace Go.Proofs.Ytbddpjofhddilaa
open Go.RowKit

theorem held_next6' {wr W W' : World} {a0 a1 a2 a3 a4 a5 : Addr} {v0 v1 v2 v3 v4 v5 : Value} (g : W.grownBy W' none) (h : wr.grownBy W none) (h0 : W.cell? a0 = some v0) (h1 : W.cell? a1 = some v1) (h2 : W.cell? a2 = some v2) (h3 : W.cell? a3 = some v3) (h4 : W.cell? a4 = some v4) (h5 : W.cell? a5 = some v5) :
    wr.grownBy W' none ∧ W'.cell? a0 = some v0 ∧ W'.cell? a1 = some v1 ∧ W'.cell? a2 = some v2 ∧ W'.cell? a3 = some v3 ∧ W'.cell? a4 = some v4 ∧ W'.cell? a5 = some v5 :=
  held_next6 g h h0 h1 h2 h3 h4 h5

set_option maxRecDepth 100000 in
set_option maxHeartbeats 4000000 in
theorem short1_calls (sa : Option Addr) (n sc : Nat) (st : Int) (ta : Option Addr) (L : List (List Rl)) (tc : Nat) (lp : Int) (i j b : Nat) (l m : List Rl) (w : World) (hb : Box w b sa n sc st ta L.length tc lp) (h : Sts w ta tc L) (hl : L[i]? = some l) (hm : L[j]? = some m) (hr : Lens L) :
    Calls Try.prog 83 #[.int .i64 (i : Int), .int .i64 (j : Int), .pointer (some ⟨b, 0, none⟩)] w fun e w' => e = .returned (.bool (decide (l = m))) ∧ w.grownBy w' none := by
  have hi := (List.getElem?_eq_some_iff.1 hl).1
  have hj := (List.getElem?_eq_some_iff.1 hm).1
  obtain ⟨sb, so, rfl, la, lc, cs, hrels⟩ := h.2 i l hl
  obtain ⟨sb', so', hse, la', lc', cs', hrels'⟩ := h.2 j m hm
  injection hse with hse
  injection hse with hs1 hs2
  subst hs1 hs2
  have hrl := hr.2 l (List.mem_of_getElem? hl)
  have HST := Lib.hid (fun (W' : World) (hW' : w.grownBy W' none) => equalStates_calls l m la la' lc lc' W' (hrels.grown hW') (hrels'.grown hW') hrl)
  obtain ⟨k, hk⟩ : ∃ k, L.length = k := ⟨_, rfl⟩
  rw [hk] at hb hi hj
  obtain ⟨c0, c1, c2, c3⟩ := hb
  have hIk : (i : Int) < (k : Int) := by omega
  have hJk : (j : Int) < (k : Int) := by omega
  obtain ⟨p, hp⟩ : ∃ p, l.length = p := ⟨_, rfl⟩
  obtain ⟨p', hp'⟩ : ∃ p', m.length = p' := ⟨_, rfl⟩
  rw [hp] at cs
  rw [hp'] at cs'
  rw [hp, hp'] at HST
  obtain ⟨O, hO⟩ : ∃ O, decide (l = m) = O := ⟨_, rfl⟩
  rw [hO] at HST ⊢
  clear hrels hrels' hrl hr hl hm h hk hp hp' hO hi hj
  go_enter Try.func83, Try.ntmps83
  go_wp2_with fail
  go_region_held3 (fun w' => w.grownBy w' none ∧ w'.cell? ⟨b, 0, none⟩ = some (.slice sa n sc) ∧ w'.cell? ⟨b, 1, none⟩ = some (.int .i64 st) ∧ w'.cell? ⟨b, 2, none⟩ = some (.slice (some ⟨sb, so, none⟩) k tc) ∧ w'.cell? ⟨b, 3, none⟩ = some (.int .i64 lp) ∧ w'.cell? ⟨sb, so + i, none⟩ = some (.slice la p lc) ∧ w'.cell? ⟨sb, so + j, none⟩ = some (.slice la' p' lc'))
    (first | exact ⟨⟨rfl, rfl, rfl, Nat.le_refl _, fun _ _ _ => rfl⟩, c0, c1, c2, c3, cs, cs'⟩ | (go_split_ands; exact held_next6 g3 (by assumption) (by assumption) (by assumption) (by assumption) (by assumption) (by assumption) (by assumption)) | fail)
    (first | (go_at_call 77; with_reducible refine (HST.out _ ?_).mono ?_; (go_split_ands; assumption); rintro e w4 ⟨rfl, g3⟩) | fail)
  all_goals
    have h14 : w.grownBy w4 none := by go_split_ands; assumption
    have HS := Lib.hid h14
    clear h14
    go_wp2
    go_ret
    exact ⟨rfl, HS.out⟩

set_option maxRecDepth 100000 in
set_option maxHeartbeats 2000000 in
theorem short2_calls (sa : Option Addr) (n sc : Nat) (st : Int) (ta : Option Addr) (L : List (List Rl)) (tc lp i j b f : Nat) (l m : List Rl) (w : World) (hb : Box w b sa n sc st ta L.length tc (lp : Int)) (hf : w.cell? ⟨f, 0, none⟩ = some (.func (.func 83) #[] #[.pointer (some ⟨b, 0, none⟩)]))
    (h : Sts w ta tc L) (hl : L[lp + i]? = some l) (hm : L[lp + j]? = some m) (hr : Lens L) (hk : L.length ≤ 64) :
    Calls Try.prog 85 #[.int .i64 (i : Int), .int .i64 (j : Int), .pointer (some ⟨f, 0, none⟩), .pointer (some ⟨b, 0, none⟩)] w fun e w' => e = .returned (.bool (decide (l = m))) ∧ w.grownBy w' none := by
  have hi := (List.getElem?_eq_some_iff.1 hl).1
  have hj := (List.getElem?_eq_some_iff.1 hm).1
  have HC := Lib.hid (short1_calls sa n sc st ta L tc lp (lp + i) (lp + j) b l m w hb h hl hm hr)
  obtain ⟨O, hO⟩ : ∃ O, decide (l = m) = O := ⟨_, rfl⟩
  rw [hO] at HC ⊢
  obtain ⟨k, hk1⟩ : ∃ k, L.length = k := ⟨_, rfl⟩
  rw [hk1] at hb hk hi hj
  obtain ⟨c0, c1, c2, c3⟩ := hb
  obtain ⟨A, hA⟩ : ∃ A, (lp : Int) + (i : Int) = A := ⟨_, rfl⟩
  obtain ⟨B, hB⟩ : ∃ B, (lp : Int) + (j : Int) = B := ⟨_, rfl⟩
  rw [Int.natCast_add, Int.natCast_add, hA, hB] at HC
  have hA1 : 0 ≤ A ∧ A ≤ 64 := by omega
  have hB1 : 0 ≤ B ∧ B ≤ 64 := by omega
  obtain ⟨a0, a1⟩ := hA1
  obtain ⟨b0, b1⟩ := hB1
  clear h hl hm hr hk hO hk1 hi hj
  go_enter Try.func85, Try.ntmps85
  go_wp2_with fail
  refine HC.out.mono ?_
  rintro e w1 ⟨rfl, g1⟩
  have HG := Lib.hid g1; clear g1
  go_wp2_with fail
  go_ret
  exact ⟨rfl, HG.out⟩
end Go.Proofs.Ytbddpjofhddilaa
/- The shortest period. -/
namespace Go.Proofs.Ytbddpjofhddilaa
open Go.RowKit

/-- Whether p is a period of n states that agree by S. -/
def isPer (S : Nat → Nat → Bool) (n p : Nat) : Bool := decide (n % p = 0) && (List.range n).all fun i => decide (i < p) || S i (i - p)
def shP (S : Nat → Nat → Bool) (n : Nat) : Nat → Nat → Nat
  | 0, _ => n
  | f + 1, p => if isPer S n p then p else shP S n f (p + 1)
theorem isPer_iff {S : Nat → Nat → Bool} {n p : Nat} : isPer S n p = true ↔ n % p = 0 ∧ ∀ i, i < n → p ≤ i → S i (i - p) = true := by
  simp only [isPer, Bool.and_eq_true, decide_eq_true_eq, List.all_eq_true, List.mem_range, Bool.or_eq_true]
  constructor
  · rintro ⟨h1, h2⟩
    exact ⟨h1, fun i hi hp => (h2 i hi).resolve_left (by omega)⟩
  · rintro ⟨h1, h2⟩
    exact ⟨h1, fun i hi => if h : i < p then .inl h else .inr (h2 i hi (by omega))⟩

set_option maxRecDepth 100000 in
set_option maxHeartbeats 4000000 in
theorem period_calls (S : Nat → Nat → Bool) (n f b : Nat) (w : World) (hn : n ≤ 64) (hn1 : 1 ≤ n)
    (hS : ∀ (i j : Nat) (W : World), i < n → j < n → w.grownBy W none → Calls Try.prog 85 #[.int .i64 (i : Int), .int .i64 (j : Int), .pointer (some ⟨f, 0, none⟩), .pointer (some ⟨b, 0, none⟩)] W fun e w' => e = .returned (.bool (S i j)) ∧ W.grownBy w' none) :
    Calls Try.prog 84 #[.int .i64 (n : Int), .func (.func 85) #[] #[.pointer (some ⟨f, 0, none⟩), .pointer (some ⟨b, 0, none⟩)]] w fun e w' => e = .returned (.int .i64 (shP S n (n - 1) 1 : Nat)) ∧ w.grownBy w' none := by
  have HS := Lib.hid hS; clear hS
  go_enter Try.func84, Try.ntmps84
  go_wp2_with fail
  go_step3
  go_wp2_with fail
  go_step3
  go_wp2_with fail
  go_loopg [5] (n - 1) (fun g s5 wr => ∃ p : Nat, s5 = .int .i64 (p : Int) ∧ g = n - p ∧ 1 ≤ p ∧ p ≤ n ∧ shP S n (n - 1) 1 = shP S n (n - p) p ∧ w.grownBy wr none)
  case atStart => exact ⟨1, rfl, rfl, Nat.le_refl _, hn1, rfl, grown_refl _ _⟩
  case round =>
    obtain ⟨p, rfl, hgp, hp1, hpn, hsh, hgr⟩ := hrel
    have HGP := Lib.hid (And.intro hgp (And.intro hsh hgr)); clear hgp hsh hgr
    by_cases hin : p < n
    · have hinB : decide (p < n) = true := by simpa using hin
      have HSTEP : Hid (shP S n (n - p) p = if isPer S n p then p else shP S n (n - (p + 1)) (p + 1)) := Lib.hid (by
        rw [show n - p = (n - (p + 1)) + 1 by omega]; rfl)
      obtain ⟨M, hM⟩ : ∃ M : Int, (n : Int) % (p : Int) = M := ⟨_, rfl⟩
      have hMn : n % p = 0 ↔ M = 0 := by rw [← hM]; omega
      have hp0 : ((p : Int) == 0) = false := by simp; omega
      have hp2 : (p : Int) ≠ 0 := by omega
      by_cases hM0 : M = 0
      · have e1 : (M != 0) = false := by simp [hM0]
        have HM := Lib.hid (hMn.2 hM0); clear hMn hM0
        go_wp2_with fail
        clear hM e1
        go_loopg [6] (n - p) (fun g s6 wr => ∃ i : Nat, s6 = .int .i64 (i : Int) ∧ g = n - i ∧ p ≤ i ∧ i ≤ n ∧ (∀ q, q < i → p ≤ q → S q (q - p) = true) ∧ w.grownBy wr none)
        case atStart => exact ⟨p, rfl, rfl, Nat.le_refl _, hpn, fun q h1 h2 => absurd h1 (by omega), HGP.out.2.2⟩
        case round =>
          obtain ⟨i, rfl, hgi, hpi, hi, hok, hgr⟩ := hrel
          have HGI := Lib.hid (And.intro hgi (And.intro hok hgr)); clear hgi hok hgr
          by_cases hiN : i < n
          · have hiB : decide (i < n) = true := by simpa using hiN
            obtain ⟨J, hJ⟩ : ∃ J, i - p = J := ⟨_, rfl⟩
            have hsub : (i : Int) - (p : Int) = (J : Int) := by omega
            have HC := Lib.hid (HS.out i J _ hiN (by omega) HGI.out.2.2)
            obtain ⟨R, hR⟩ : ∃ R, S i J = R := ⟨_, rfl⟩
            rw [hR] at HC
            have HR := Lib.hid (And.intro hR hJ); clear hR hJ
            go_wp2_with fail
            refine HC.out.mono ?_
            rintro e w5 ⟨rfl, g5⟩
            have HG5 := Lib.hid (HGI.out.2.2.trans g5); clear g5
            cases R with
            | true =>
              go_wp2_with fail
              go_roundg (n - (i + 1))
              case measure => rw [HGI.out.1]; omega
              case rel => exact ⟨i + 1, rfl, rfl, by omega, by omega, fun q h1 h2 => by
                by_cases h3 : q < i
                · exact HGI.out.2.1 q h3 h2
                · have : q = i := by omega
                  subst this
                  rw [HR.out.2]; exact HR.out.1, HG5.out⟩
            | false =>
              have HNO : Hid (isPer S n p = false) := Lib.hid (by
                cases h : isPer S n p with
                | false => rfl
                | true =>
                  have := (isPer_iff.1 h).2 i hiN hpi
                  rw [HR.out.2, HR.out.1] at this
                  cases this)
              go_wp2_with fail
              go_roundg (n - (p + 1))
              case measure => rw [HGP.out.1]; omega
              case rel => exact ⟨p + 1, rfl, rfl, by omega, by omega, by rw [HGP.out.2.1, HSTEP.out, HNO.out]; rfl, HG5.out⟩
          · have hie : i = n := by omega
            subst hie
            have hiB : decide (i < i) = false := by simp
            have HYES : Hid (shP S i (i - 1) 1 = p) := Lib.hid (by
              have hp : isPer S i p = true := isPer_iff.2 ⟨HM.out, fun q h1 h2 => HGI.out.2.1 q h1 h2⟩
              rw [HGP.out.2.1, HSTEP.out, hp]; rfl)
            go_wp2_with fail
            try rw [Exit.noGoto_ret]
            go_ret
            exact ⟨by rw [HYES.out]; rfl, HGI.out.2.2⟩
      · have e1 : (M != 0) = true := by simpa using hM0
        have HNO : Hid (isPer S n p = false) := Lib.hid (by cases h : isPer S n p with | false => rfl | true => exact absurd (hMn.1 (isPer_iff.1 h).1) hM0)
        clear hMn hM0
        go_wp2_with fail
        go_roundg (n - (p + 1))
        case measure => rw [HGP.out.1]; omega
        case rel => exact ⟨p + 1, rfl, rfl, by omega, by omega, by rw [HGP.out.2.1, HSTEP.out, HNO.out]; rfl, HGP.out.2.2⟩
    · have hie : p = n := by omega
      subst hie
      have hinB : decide (p < p) = false := by simp
      have HE : Hid (shP S p (p - 1) 1 = p) := Lib.hid (by rw [HGP.out.2.1, Nat.sub_self]; rfl)
      go_wp2_with fail
      try rw [Exit.noGoto_ret]
      go_ret
      exact ⟨by rw [HE.out]; rfl, HGP.out.2.2⟩
end Go.Proofs.Ytbddpjofhddilaa
