/- Texts of the proof: UM UO RZ WA UP YA. -/
import Derived.Test.YthdhmflodiincaaGreatCA24
import Derived.Test.YthdhmflodiincaaGreatCA20
import Derived.Test.YthdhmflodiincaaGreatCA13
import Derived.Test.YthdhmflodiincaaGreatCA05
import Derived.Test.YthdhmflodiincaaGreatCA10
import Derived.Test.YthdhmflodiincaaGreatCA00
import Derived.Test.YthdhmflodiincaaGreatCA12
import Derived.Deep.DeepCutAuto
import Derived.Test.YthdhmflodiincaaGreatCA16
import Derived.Test.YthdhmflodiincaaGreatCA02
import Derived.Test.YthdhmflodiincaaGreatCA04
import Derived.Test.YthdhmflodiincaaGreatCA18
import Derived.Test.YthdhmflodiincaaGreatCA09
import Derived.Test.YthdhmflodiincaaGreatCA14
import Derived.Test.YthdhmflodiincaaGreatCA01
set_option maxRecDepth 100000
set_option maxHeartbeats 8000000
namespace Go.Proofs.YthdhmflodiincaaGreat
open Go.RowKit Go.Maps Go.Sort Go.Shelf


def stepC (n m f t : Nat) (S : List Int) : List Int := if ((f * n + m : Nat) : Int) ∈ S ∧ ((m * n + t : Nat) : Int) ∈ S then S ++ [((f * n + t : Nat) : Int)] else S
def runT (n m f : Nat) : Nat → List Int → List Int
  | 0, S => S
  | t + 1, S => stepC n m f t (runT n m f t S)
def runF (n m : Nat) : Nat → List Int → List Int
  | 0, S => S
  | f + 1, S => runT n m f n (runF n m f S)
def runM (n : Nat) : Nat → List Int → List Int
  | 0, S => S
  | m + 1, S => runF n m n (runM n m S)
abbrev closS (n : Nat) (xs : List Int) : List Int := runM n n xs
theorem stepC_len (n m f t : Nat) (S : List Int) : (stepC n m f t S).length ≤ S.length + 1 := by unfold stepC; split <;> simp
theorem runT_len (n m f : Nat) : ∀ (t : Nat) (S : List Int), (runT n m f t S).length ≤ S.length + t
  | 0, S => Nat.le_refl _
  | t + 1, S => by have h1 := stepC_len n m f t (runT n m f t S); have h2 := runT_len n m f t S; simp only [runT]; omega
theorem runF_len (n m : Nat) : ∀ (f : Nat) (S : List Int), (runF n m f S).length ≤ S.length + f * n
  | 0, S => by simp [runF]
  | f + 1, S => by have h1 := runT_len n m f n (runF n m f S); have h2 := runF_len n m f S; simp only [runF]; rw [Nat.succ_mul]; omega
theorem runM_len (n : Nat) : ∀ (m : Nat) (S : List Int), (runM n m S).length ≤ S.length + m * (n * n)
  | 0, S => by simp [runM]
  | m + 1, S => by have h1 := runF_len n m n (runM n m S); have h2 := runM_len n m S; simp only [runM]; rw [Nat.succ_mul]; omega

theorem relres65 (tmps : Array Value) (w : World) (b : Nat) (a : Option Addr) (n c : Nat) (x : Int) (ht : tmps.getD 4 undef = .pointer (some ⟨b, 0, none⟩)) (h0 : w.cell? ⟨b, 0, none⟩ = some (.int .i64 x)) (h1 : w.cell? ⟨b, 1, none⟩ = some (.slice a n c)) :
    (results Tryz.f37 tmps).run Tryz.prog w = .ok (.agg #[.int .i64 x, .slice a n c]) w := by
  have ht' : tmps[4]?.getD undef = .pointer (some ⟨b, 0, none⟩) := by simpa using ht
  simp [results, ht', go_sem, h0, h1, Result.andThen]

theorem relClos_calls (n : Nat) (k : Int) (xs : List Int) (xa : Option Addr) (xc : Nat) (w : World) (h : IntsW w xa xc xs) (hl : xs.length ≤ 90000) (hn2 : n ≤ 12) (hx : ∀ x ∈ xs, 0 ≤ x ∧ x ≤ 2000) :
    Calls Tryz.prog 37 #[.int .i64 (n : Int), .agg #[.int .i64 k, .slice xa xs.length xc]] w fun e w' => ∃ a c, e = .returned (.agg #[.int .i64 k, .slice a (uniq (closS n xs)).length c]) ∧ Span w.heap.size w'.heap.size w' (fun W => IntsW W a c (uniq (closS n xs))) ∧ w.grownBy w' none := by
  obtain ⟨m, hm⟩ : ∃ m, xs.length = m := ⟨_, rfl⟩
  obtain ⟨p, hp⟩ : ∃ p, (uniq (closS n xs)).length = p := ⟨_, rfl⟩
  have hc := two_cells w (.int .i64 k) (.slice xa m xc) (.int .i64 0) (.slice none 0 0) 40 40
  have hg := (World.grownBy_alloc w (.cells #[.int .i64 k, .slice xa m xc] 40) none).trans (World.grownBy_alloc (w.alloc (.cells #[.int .i64 k, .slice xa m xc] 40)) (.cells #[.int .i64 0, .slice none 0 0] 40) none)
  have hsz : ((w.alloc (.cells #[.int .i64 k, .slice xa m xc] 40)).alloc (.cells #[.int .i64 0, .slice none 0 0] 40)).heap.size = w.heap.size + 2 := by simp
  obtain ⟨W, hW⟩ : ∃ W, (w.alloc (.cells #[.int .i64 k, .slice xa m xc] 40)).alloc (.cells #[.int .i64 0, .slice none 0 0] 40) = W := ⟨_, rfl⟩
  rw [hW] at hc hg hsz
  have HH := Lib.hid (And.intro (h.grown hg) (And.intro hm hx))
  rw [hm] at hl ⊢
  have HP := Lib.hid hp
  rw [hp]
  clear h hm hx hp
  have HG := Lib.hid (And.intro hg hsz); clear hg hsz
  have HC := Lib.hid hc
  have HNN := Lib.hid (And.intro hn2 (show n * n ≤ 144 from Nat.mul_le_mul hn2 hn2))
  have HL := Lib.hid hl
  clear hn2 hl
  obtain ⟨_, c0, c1, d0, d1, f0, f1⟩ := hc
  have hmm := @run_makeMap Tryz.prog
  have hga := World.grownBy_alloc W (.map #[] 0) none
  have c1' := hga.cell c1 (by simp)
  go_enter Tryz.func37, Tryz.ntmps37
  go_wp2_with fail
  clear hW
  have hnew := SetM.new W
  obtain ⟨W0, hW0⟩ : ∃ W0, W.alloc (.map #[] 0) = W0 := ⟨_, rfl⟩
  rw [hW0] at hnew hga ⊢
  clear hW0 c1' c0 c1 d0 d1 f0 f1 hmm
  have HN := Lib.hid (And.intro hnew hga); clear hnew hga
  go_loopg [15] m (fun g s15 wr => ∃ (i : Nat), s15 = .int .i64 (i : Int) ∧ g = m - i ∧ i ≤ m ∧ SetM wr W.heap.size (xs.take i) ∧ W.grownBy wr none)
  case atStart => exact ⟨0, rfl, rfl, Nat.zero_le _, HN.out.1, HN.out.2⟩
  case round =>
    obtain ⟨i, rfl, hgk, hi, hsd, hgr⟩ := hrel
    have HSD := Lib.hid hsd; clear hsd
    have HWR := Lib.hid hgr; clear hgr
    have HI := Lib.hid hgk; clear hgk
    have hmB : m ≤ 90000 := HL.out
    by_cases hin : i < m
    · have hinB : decide (i < m) = true := by simpa using hin
      have hinI : (i : Int) < (m : Int) := by omega
      obtain ⟨z, hz⟩ : ∃ z, xs[i]? = some z := ⟨_, List.getElem?_eq_getElem (by rw [HH.out.2.1]; exact hin)⟩
      obtain ⟨b, o, rfl, hcell0⟩ := HH.out.1.at hz
      have HZ := Lib.hid (HH.out.2.2 z (List.mem_of_getElem? hz))
      have HT := Lib.hid (show xs.take (i + 1) = xs.take i ++ [z] by rw [List.take_add_one, hz]; rfl)
      have HLT := Lib.hid (show (xs.take i).length ≤ 100000 by rw [List.length_take]; have := HL.out; omega)
      have e2 := HWR.out.cell hcell0 (by simp)
      clear hz
      go_wp2_with (at_mapUpdate; refine wpList_putM rfl _ _ rfl W.heap.size (xs.take i) rfl HSD.out (by have := HLT.out; omega) z rfl (wf64 (by have := HZ.out; omega) (by have := HZ.out; omega)) ?_; intro w6 hset hgr6; have HE := Lib.hid (And.intro hset (grown_own HWR.out hgr6 (fun k hk => by cases hk; exact Nat.le_refl _))); clear hset hgr6 e2)
      go_roundg (m - (i + 1))
      case measure => rw [HI.out]; have := HL.out; omega
      case rel => exact ⟨i + 1, rfl, rfl, by omega, by rw [HT.out]; exact HE.out.1, HE.out.2⟩
    · have hie : i = m := by omega
      subst hie
      have hinB : decide (i < i) = false := by simp
      have hall : xs.take i = xs := List.take_of_length_le (by rw [HH.out.2.1]; exact Nat.le_refl _)
      rw [hall] at HSD
      clear hall
      go_wp2_with fail
      obtain ⟨wo, rfl⟩ : ∃ wo, wo = wr := ⟨_, rfl⟩
      go_loopg [23] n (fun g s23 wr => ∃ (v : Nat), s23 = .int .i64 (v : Int) ∧ g = n - v ∧ v ≤ n ∧ SetM wr W.heap.size (runM n v xs) ∧ W.grownBy wr none)
      case atStart => exact ⟨0, rfl, rfl, Nat.zero_le _, HSD.out, HWR.out⟩
      case round =>
        obtain ⟨v, rfl, hgk, hv, hsd, hgr⟩ := hrel
        have HSV := Lib.hid hsd; clear hsd
        have HWV := Lib.hid hgr; clear hgr
        have HIV := Lib.hid hgk; clear hgk
        have hn12 : n ≤ 12 := HNN.out.1
        by_cases hvn : v < n
        · have hvB : decide (v < n) = true := by simpa using hvn
          go_wp2_with fail
          obtain ⟨wo2, rfl⟩ : ∃ wo, wo = wr := ⟨_, rfl⟩
          go_loopg [27] n (fun g s27 wr => ∃ (f : Nat), s27 = .int .i64 (f : Int) ∧ g = n - f ∧ f ≤ n ∧ SetM wr W.heap.size (runF n v f (runM n v xs)) ∧ W.grownBy wr none)
          case atStart => exact ⟨0, rfl, rfl, Nat.zero_le _, HSV.out, HWV.out⟩
          case round =>
            obtain ⟨f, rfl, hgk, hf, hsd, hgr⟩ := hrel
            have HSF := Lib.hid hsd; clear hsd
            have HWF := Lib.hid hgr; clear hgr
            have HIF := Lib.hid hgk; clear hgk
            by_cases hfn : f < n
            · have hfB : decide (f < n) = true := by simpa using hfn
              go_wp2_with fail
              obtain ⟨wo3, rfl⟩ : ∃ wo, wo = wr := ⟨_, rfl⟩
              go_loopg [31] n (fun g s31 wr => ∃ (t : Nat), s31 = .int .i64 (t : Int) ∧ g = n - t ∧ t ≤ n ∧ SetM wr W.heap.size (runT n v f t (runF n v f (runM n v xs))) ∧ W.grownBy wr none)
              case atStart => exact ⟨0, rfl, rfl, Nat.zero_le _, HSF.out, HWF.out⟩
              case round =>
                obtain ⟨t, rfl, hgk, ht, hsd, hgr⟩ := hrel
                have HST := Lib.hid hsd; clear hsd
                have HWT := Lib.hid hgr; clear hgr
                have HIT := Lib.hid hgk; clear hgk
                by_cases htn : t < n
                · have htB : decide (t < n) = true := by simpa using htn
                  obtain ⟨S, hS⟩ : ∃ S, runT n v f t (runF n v f (runM n v xs)) = S := ⟨_, rfl⟩
                  have hlen : S.length ≤ 100000 := by
                    rw [← hS]
                    have h1 := runT_len n v f t (runF n v f (runM n v xs)); have h2 := runF_len n v f (runM n v xs); have h3 := runM_len n v xs
                    have h4 : f * n ≤ 144 := Nat.le_trans (Nat.mul_le_mul (Nat.le_of_lt hfn) (Nat.le_refl n)) HNN.out.2
                    have h5 : v * (n * n) ≤ 12 * 144 := Nat.mul_le_mul (by have := HNN.out.1; omega) HNN.out.2
                    have h6 := HL.out; have h7 := HH.out.2.1; have h8 := HNN.out.1
                    omega
                  have hnx : runT n v f (t + 1) (runF n v f (runM n v xs)) = stepC n v f t S := by rw [← hS]; rfl
                  rw [hS] at HST
                  have HLEN := Lib.hid (And.intro hlen hnx); clear hlen hnx hS
                  obtain ⟨P1, hP1⟩ : ∃ P, f * n = P := ⟨_, rfl⟩
                  obtain ⟨P2, hP2⟩ : ∃ P, v * n = P := ⟨_, rfl⟩
                  have hb1 : P1 ≤ 144 := by rw [← hP1]; exact Nat.le_trans (Nat.mul_le_mul (Nat.le_of_lt hfn) (Nat.le_refl n)) HNN.out.2
                  have hb2 : P2 ≤ 144 := by rw [← hP2]; exact Nat.le_trans (Nat.mul_le_mul (Nat.le_of_lt hvn) (Nat.le_refl n)) HNN.out.2
                  have hb3 := hn12
                  obtain ⟨V1, hV1⟩ : ∃ V, P1 + v = V := ⟨_, rfl⟩
                  obtain ⟨V2, hV2⟩ : ∃ V, P2 + t = V := ⟨_, rfl⟩
                  obtain ⟨V3, hV3⟩ : ∃ V, P1 + t = V := ⟨_, rfl⟩
                  have hw1 : IntKind.i64.wrap ((f : Int) * (n : Int)) = (P1 : Int) := by rw [show (f : Int) * (n : Int) = (P1 : Int) by rw [← hP1]; simp]; exact IntWalk.i64_in _ (by omega)
                  have hw2 : IntKind.i64.wrap ((v : Int) * (n : Int)) = (P2 : Int) := by rw [show (v : Int) * (n : Int) = (P2 : Int) by rw [← hP2]; simp]; exact IntWalk.i64_in _ (by omega)
                  have hw3 : IntKind.i64.wrap ((P1 : Int) + (v : Int)) = (V1 : Int) := by rw [IntWalk.i64_in _ (by omega)]; omega
                  have hw4 : IntKind.i64.wrap ((P2 : Int) + (t : Int)) = (V2 : Int) := by rw [IntWalk.i64_in _ (by omega)]; omega
                  have hw5 : IntKind.i64.wrap ((P1 : Int) + (t : Int)) = (V3 : Int) := by rw [IntWalk.i64_in _ (by omega)]; omega
                  obtain ⟨B1, hB1⟩ : ∃ B, decide ((V1 : Int) ∈ S) = B := ⟨_, rfl⟩
                  obtain ⟨B2, hB2⟩ : ∃ B, decide ((V2 : Int) ∈ S) = B := ⟨_, rfl⟩
                  have hk1 := HST.out.look (k := (V1 : Int)) (wf64 (by omega) (by omega))
                  have hk2 := HST.out.look (k := (V2 : Int)) (wf64 (by omega) (by omega))
                  rw [hB1] at hk1
                  rw [hB2] at hk2
                  have HSTEP := Lib.hid (show stepC n v f t S = if B1 = true ∧ B2 = true then S ++ [(V3 : Int)] else S by
                    unfold stepC
                    rw [hP1, hP2, hV1, hV2, hV3, ← hB1, ← hB2]
                    simp only [decide_eq_true_eq])
                  have HV3 := Lib.hid (show V3 ≤ 1000 by omega)
                  clear hP1 hP2 hV1 hV2 hV3 hB1 hB2 hb1 hb2
                  cases B1 with
                  | false =>
                    go_wp2_with fail
                    go_roundg (n - (t + 1))
                    case measure => rw [HIT.out]; omega
                    case rel => exact ⟨t + 1, rfl, rfl, by omega, by rw [HLEN.out.2, HSTEP.out]; simpa using HST.out, HWT.out⟩
                  | true =>
                    cases B2 with
                    | false =>
                      go_wp2_with fail
                      go_roundg (n - (t + 1))
                      case measure => rw [HIT.out]; omega
                      case rel => exact ⟨t + 1, rfl, rfl, by omega, by rw [HLEN.out.2, HSTEP.out]; simpa using HST.out, HWT.out⟩
                    | true =>
                      go_wp2_with (at_mapUpdate; refine wpList_putM rfl _ _ rfl W.heap.size S rfl HST.out (by have := HLEN.out; omega) (V3 : Int) rfl (wf64 (by omega) (by have := HV3.out; omega)) ?_; intro w6 hset hgr6; have HE := Lib.hid (And.intro hset (grown_own HWT.out hgr6 (fun k hk => by cases hk; exact Nat.le_refl _))); clear hset hgr6 hk1 hk2)
                      go_roundg (n - (t + 1))
                      case measure => rw [HIT.out]; omega
                      case rel => exact ⟨t + 1, rfl, rfl, by omega, by rw [HLEN.out.2, HSTEP.out]; simpa using HE.out.1, HE.out.2⟩
                · have hte : t = n := by omega
                  subst hte
                  have htB : decide (t < t) = false := by simp
                  go_wp2_with fail
                  go_roundg (t - (f + 1))
                  case measure => rw [HIF.out]; omega
                  case rel => exact ⟨f + 1, rfl, rfl, by omega, HST.out, HWT.out⟩
            · have hfe : f = n := by omega
              subst hfe
              have hfB : decide (f < f) = false := by simp
              go_wp2_with fail
              go_roundg (f - (v + 1))
              case measure => rw [HIV.out]; omega
              case rel => exact ⟨v + 1, rfl, rfl, by omega, HSF.out, HWF.out⟩
        · have hve : v = n := by omega
          subst hve
          have hvB : decide (v < v) = false := by simp
          have e0 := HWV.out.cell HC.out.2.1 (by simp)
          have HF := Lib.hid (fun (U : World) (g : wr.grownBy U none) => fromSet_calls k W.heap.size (runM v v xs) U (HSV.out.grown g (by simp)) (by
            have h3 := runM_len v v xs
            have h5 : v * (v * v) ≤ 12 * 144 := Nat.mul_le_mul (by have := HNN.out.1; omega) HNN.out.2
            have h6 := HL.out; have h7 := HH.out.2.1
            omega))
          rw [HP.out] at HF
          go_wp2_with fail
          refine (HF.out wr (grown_refl _ _)).mono ?_
          rintro e w3 ⟨a', c', rfl, hi, g3⟩
          have g := World.grownBy.trans HWV.out g3
          have m0 := g.cell HC.out.2.2.2.1 (by simp)
          have m1 := g.cell HC.out.2.2.2.2.1 (by simp)
          have f0 := (grown_frozen g HC.out.1 0).trans HC.out.2.2.2.2.2.1
          have f1 := (grown_frozen g HC.out.1 1).trans HC.out.2.2.2.2.2.2
          have HI3 := Lib.hid hi
          have HG3 := Lib.hid g
          clear hi g
          go_wp2_with fail
          have hret := ret_rel (p := p) (k := k) (B := w.heap.size + 1) (HI3.out.wide (by have := HG.out.2; have := HWV.out.size; omega) (Nat.le_refl _) (Nat.le_refl _)) (by omega) (HG.out.1.trans HG3.out)
          refine bodyPost_ret (relres65 _ _ (w.heap.size + 1) a' p c' k rfl (by rw [World.cell?_setCell_other _ _ _ _ (by intro e; injection e with _ e; cases e)]; exact World.cell?_setCell_same _ _ _ m0) (World.cell?_setCell_same _ _ _ (by rw [World.cell?_setCell_other _ _ _ _ (by intro e; injection e with _ e; cases e)]; exact m1))) rfl ⟨a', c', rfl, hret⟩
end Go.Proofs.YthdhmflodiincaaGreat

namespace Go.Proofs.YthdhmflodiincaaGreat

theorem mem_stepC {n m f t : Nat} {S : List Int} {z : Int} : z ∈ stepC n m f t S ↔ z ∈ S ∨ (z = ((f * n + t : Nat) : Int) ∧ ((f * n + m : Nat) : Int) ∈ S ∧ ((m * n + t : Nat) : Int) ∈ S) := by
  unfold stepC
  by_cases h : ((f * n + m : Nat) : Int) ∈ S ∧ ((m * n + t : Nat) : Int) ∈ S
  · rw [if_pos h, List.mem_append, List.mem_singleton]
    exact ⟨fun h' => h'.elim .inl fun e => .inr ⟨e, h⟩, fun h' => h'.elim .inl fun e => .inr e.1⟩
  · rw [if_neg h]
    exact ⟨.inl, fun h' => h'.elim id fun e => absurd e.2 h⟩
theorem runT_all {P : Int → Prop} {n m f : Nat} : ∀ (t : Nat) (S : List Int), (∀ z ∈ S, P z) → (∀ t', t' < t → ∀ S' : List Int, (∀ z ∈ S', P z) → ((f * n + m : Nat) : Int) ∈ S' → ((m * n + t' : Nat) : Int) ∈ S' → P ((f * n + t' : Nat) : Int)) → ∀ z ∈ runT n m f t S, P z
  | 0, S, h, _, z, hz => h z hz
  | t + 1, S, h, hs, z, hz => by
    have ih := runT_all t S h (fun t' ht => hs t' (by omega))
    rcases mem_stepC.1 hz with h1 | ⟨rfl, h1, h2⟩
    · exact ih z h1
    · exact hs t (by omega) _ ih h1 h2
theorem runF_all {P : Int → Prop} {n m : Nat} : ∀ (f : Nat) (S : List Int), (∀ z ∈ S, P z) → (∀ f' t', f' < f → t' < n → ∀ S' : List Int, (∀ z ∈ S', P z) → ((f' * n + m : Nat) : Int) ∈ S' → ((m * n + t' : Nat) : Int) ∈ S' → P ((f' * n + t' : Nat) : Int)) → ∀ z ∈ runF n m f S, P z
  | 0, S, h, _, z, hz => h z hz
  | f + 1, S, h, hs, z, hz => runT_all n _ (runF_all f S h (fun f' t' hf ht => hs f' t' (by omega) ht)) (fun t' ht => hs f t' (by omega) ht) z hz
theorem runM_all {P : Int → Prop} {n : Nat} : ∀ (m : Nat) (S : List Int), (∀ z ∈ S, P z) → (∀ m' f' t', m' < m → f' < n → t' < n → ∀ S' : List Int, (∀ z ∈ S', P z) → ((f' * n + m' : Nat) : Int) ∈ S' → ((m' * n + t' : Nat) : Int) ∈ S' → P ((f' * n + t' : Nat) : Int)) → ∀ z ∈ runM n m S, P z
  | 0, S, h, _, z, hz => h z hz
  | m + 1, S, h, hs, z, hz => runF_all n _ (runM_all m S h (fun m' f' t' hm hf ht => hs m' f' t' (by omega) hf ht)) (fun f' t' hf ht => hs m f' t' (by omega) hf ht) z hz
abbrev Hs (L : List Int) (z : Nat) : Prop := ((z : Nat) : Int) ∈ L
theorem pair_of {q z p : Nat} (hq : 0 < q) (h : z < p * q) : ∃ u v, u < p ∧ v < q ∧ z = u * q + v :=
  ⟨z / q, z % q, Nat.div_lt_of_lt_mul (by rw [Nat.mul_comm]; exact h), Nat.mod_lt _ hq, by rw [Nat.mul_comm]; exact (Nat.div_add_mod z q).symm⟩
theorem pair_div {q u v : Nat} (hv : v < q) : (u * q + v) / q = u := by rw [Nat.mul_comm, Nat.mul_add_div (by omega), Nat.div_eq_of_lt hv, Nat.add_zero]
theorem pair_mod {q u v : Nat} (hv : v < q) : (u * q + v) % q = v := by rw [Nat.mul_comm, Nat.mul_add_mod, Nat.mod_eq_of_lt hv]
theorem pair_inj {q u v u' v' : Nat} (hv : v < q) (hv' : v' < q) (h : u * q + v = u' * q + v') : u = u' ∧ v = v' := by
  have h1 := congrArg (· / q) h
  have h2 := congrArg (· % q) h
  simp only [pair_div hv, pair_div hv', pair_mod hv, pair_mod hv'] at h1 h2
  exact ⟨h1, h2⟩
theorem runT_mono {n m f : Nat} {z : Int} : ∀ (t : Nat) (S : List Int), z ∈ S → z ∈ runT n m f t S
  | 0, _, h => h
  | t + 1, S, h => mem_stepC.2 (.inl (runT_mono t S h))
theorem runF_mono {n m : Nat} {z : Int} : ∀ (f : Nat) (S : List Int), z ∈ S → z ∈ runF n m f S
  | 0, _, h => h
  | f + 1, S, h => runT_mono n _ (runF_mono f S h)
theorem runM_mono {n : Nat} {z : Int} : ∀ (m : Nat) (S : List Int), z ∈ S → z ∈ runM n m S
  | 0, _, h => h
  | m + 1, S, h => runF_mono n _ (runM_mono m S h)
theorem runT_has {n m f t' : Nat} : ∀ (t : Nat) (S : List Int), t' < t → Hs S (f * n + m) → Hs S (m * n + t') → Hs (runT n m f t S) (f * n + t')
  | 0, _, h, _, _ => by omega
  | t + 1, S, h, h1, h2 => by
    rcases Nat.lt_or_ge t' t with h' | h'
    · exact mem_stepC.2 (.inl (runT_has t S h' h1 h2))
    · obtain rfl : t' = t := by omega
      exact mem_stepC.2 (.inr ⟨rfl, runT_mono _ _ h1, runT_mono _ _ h2⟩)
theorem runF_has {n m f' t' : Nat} (ht : t' < n) : ∀ (f : Nat) (S : List Int), f' < f → Hs S (f' * n + m) → Hs S (m * n + t') → Hs (runF n m f S) (f' * n + t')
  | 0, _, h, _, _ => by omega
  | f + 1, S, h, h1, h2 => by
    rcases Nat.lt_or_ge f' f with h' | h'
    · exact runT_mono _ _ (runF_has ht f S h' h1 h2)
    · obtain rfl : f' = f := by omega
      exact runT_has n _ ht (runF_mono _ _ h1) (runF_mono _ _ h2)
theorem runF_iff {n m x y : Nat} {S : List Int} (hm : m < n) (hx : x < n) (hy : y < n) (_hS : ∀ z ∈ S, ∃ u v, u < n ∧ v < n ∧ z = ((u * n + v : Nat) : Int)) :
    Hs (runF n m n S) (x * n + y) ↔ Hs S (x * n + y) ∨ (Hs S (x * n + m) ∧ Hs S (m * n + y)) := by
  constructor
  · intro h
    have key := runF_all (P := fun z => ∀ u v, u < n → v < n → z = ((u * n + v : Nat) : Int) → Hs S (u * n + v) ∨ (Hs S (u * n + m) ∧ Hs S (m * n + v))) (n := n) (m := m) n S
      (fun z hz u v hu hv e => .inl (by rw [Hs, ← e]; exact hz))
      (fun f' t' hf ht S' hS' h1 h2 u v hu hv e => by
        obtain ⟨rfl, rfl⟩ := pair_inj hv ht (by omega : u * n + v = f' * n + t')
        refine .inr ⟨?_, ?_⟩
        · exact (hS' _ h1 u m hu hm rfl).elim id And.left
        · exact (hS' _ h2 m v hm hv rfl).elim id And.right)
    exact key _ h x y hx hy rfl
  · rintro (h | ⟨h1, h2⟩)
    · exact runF_mono _ _ h
    · exact runF_has hy n S hx h1 h2
theorem runM_pairs {n : Nat} (m : Nat) (_hmn : m ≤ n) {S : List Int} (hS : ∀ z ∈ S, ∃ u v, u < n ∧ v < n ∧ z = ((u * n + v : Nat) : Int)) : ∀ z ∈ runM n m S, ∃ u v, u < n ∧ v < n ∧ z = ((u * n + v : Nat) : Int) :=
  runM_all (P := fun z => ∃ u v, u < n ∧ v < n ∧ z = ((u * n + v : Nat) : Int)) m S hS (fun _ f' t' _ hf ht _ _ _ _ => ⟨f', t', hf, ht, rfl⟩)
theorem runM_closed {n : Nat} : ∀ (M : Nat), M ≤ n → ∀ {S : List Int}, (∀ z ∈ S, ∃ u v, u < n ∧ v < n ∧ z = ((u * n + v : Nat) : Int)) →
    ∀ m x y, m < M → x < n → y < n → Hs (runM n M S) (x * n + m) → Hs (runM n M S) (m * n + y) → Hs (runM n M S) (x * n + y)
  | 0, _, _, _, m, _, _, hm, _, _, _, _ => by omega
  | M + 1, hM, S, hS, m, x, y, hm, hx, hy, h1, h2 => by
    have ih := runM_closed M (by omega) hS
    have hp := runM_pairs M (by omega) hS
    have it := fun {x y : Nat} (hx : x < n) (hy : y < n) => runF_iff (m := M) (S := runM n M S) (by omega) hx hy hp
    change Hs (runF n M n (runM n M S)) _ at h1 h2
    change Hs (runF n M n (runM n M S)) _
    rcases Nat.lt_or_ge m M with hmM | hmM
    · rw [it hx (by omega)] at h1
      rw [it (by omega) hy] at h2
      rw [it hx hy]
      rcases h1 with h1 | ⟨h1, h1'⟩ <;> rcases h2 with h2 | ⟨h2, h2'⟩
      · exact .inl (ih m x y hmM hx hy h1 h2)
      · exact .inr ⟨ih m x M hmM hx (by omega) h1 h2, h2'⟩
      · exact .inr ⟨h1, ih m M y hmM (by omega) hy h1' h2⟩
      · exact .inr ⟨h1, h2'⟩
    · obtain rfl : m = M := by omega
      rw [it hx (by omega)] at h1
      rw [it (by omega) hy] at h2
      rw [it hx hy]
      exact .inr ⟨h1.elim id And.left, h2.elim id And.right⟩

theorem clos_way {n : Nat} {A : List Int} (hA : ∀ z ∈ A, ∃ u v, u < n ∧ v < n ∧ z = ((u * n + v : Nat) : Int)) {x y : Nat} (hx : x < n) (hy : y < n) : Hs (uniq (closS n A)) (x * n + y) ↔ Way (fun x y => Hs A (x * n + y)) n n x y := by
  constructor
  · intro h
    have key := runM_all (P := fun z => ∀ u v, u < n → v < n → z = ((u * n + v : Nat) : Int) → Way (fun x y => Hs A (x * n + y)) n n u v) (n := n) n A
      (fun z hz u v hu hv e => ((way_one hu hv).2 (by rw [Hs, ← e]; exact hz)).wide (by omega))
      (fun m' f' t' hm hf ht S' hS' h1 h2 u v hu hv e => by
        obtain ⟨rfl, rfl⟩ := pair_inj hv ht (by omega : u * n + v = f' * n + t')
        exact ((hS' _ h1 u m' hu hm rfl).join (hS' _ h2 m' v hm hv rfl)).short)
    exact key _ (mem_uniq.1 h) x y hx hy rfl
  · rintro ⟨m, v, h1, _, rfl, rfl, hv, hr⟩
    rw [Hs, mem_uniq]
    have hb : ∀ i, i < m → Hs (closS n A) (v 0 * n + v (i + 1)) := by
      intro i
      induction i with
      | zero => exact fun h => runM_mono _ _ (hr 0 h)
      | succ i ih => exact fun h => runM_closed n (Nat.le_refl _) hA (v (i + 1)) (v 0) (v (i + 2)) (hv _ (by omega)) (hv _ (by omega)) (hv _ (by omega)) (ih (by omega)) (runM_mono _ _ (hr (i + 1) h))
    have := hb (m - 1) (by omega)
    rwa [Nat.sub_add_cancel h1] at this
theorem val_pairs {n : Nat} {g : List Gt} {m : List Cl} (hs : Sq n g m) (v : List Bool) : ∀ z ∈ valL g v m, ∃ x y, x < n ∧ y < n ∧ z = ((x * n + y : Nat) : Int) := fun z hz => by
  unfold valL at hz
  obtain ⟨c, hc, rfl⟩ := List.mem_map.1 hz
  obtain ⟨h0, h1⟩ := hs.2 c (List.mem_filter.1 hc).1
  obtain ⟨k, hk⟩ : ∃ k : Nat, c.1 = (k : Int) := ⟨c.1.toNat, by omega⟩
  have hk2 : k < n * n := by rw [hk] at h1; exact_mod_cast h1
  obtain ⟨x, y, hx, hy, e⟩ := pair_of (by rcases Nat.eq_zero_or_pos n with rfl | h; omega; exact h) hk2
  exact ⟨x, y, hx, hy, by rw [hk, e]⟩
theorem val_rel {n : Nat} {g : List Gt} {m : List Cl} (hG : Good g) (hs : Sq n g m) (v : List Bool) (x y : Nat) : Hs (valL g v m) (x * n + y) ↔ relM g v n m x y := by
  rw [Hs, mem_valL hG hs.1.1 v]
  unfold relM
  rw [show ((x * n + y : Nat) : Int) = (x : Int) * n + y by simp]
theorem val_clos {n : Nat} {gs g : List Gt} {a m : List Cl} (hG : Good gs) (ha : Sq n gs a) (hg : Good g) (hm : Sq n g m) (v : List Bool) (h : ∀ x y, x < n → y < n → (relM g v n m x y ↔ Way (relM gs v n a) n n x y)) : valL g v m = uniq (closS n (valL gs v a)) := by
  have hA := val_pairs ha v
  have hw : ∀ x y, x < n → y < n → (Hs (valL g v m) (x * n + y) ↔ Hs (uniq (closS n (valL gs v a))) (x * n + y)) := fun x y hx hy => by
    rw [val_rel hg hm, h x y hx hy, clos_way hA hx hy]
    have e : (fun x y => Hs (valL gs v a) (x * n + y)) = relM gs v n a := by
      funext x y
      exact propext (val_rel hG ha v x y)
    rw [e]
  refine up_ext (val_up hm.1.1 v) (uniq_up _) fun z => ?_
  constructor
  · intro hz
    obtain ⟨x, y, hx, hy, rfl⟩ := val_pairs hm v z hz
    exact (hw x y hx hy).1 hz
  · intro hz
    obtain ⟨x, y, hx, hy, rfl⟩ := runM_pairs n (Nat.le_refl _) hA z (mem_uniq.1 hz)
    exact (hw x y hx hy).2 hz
theorem smP_val {n : Nat} {gs : List Gt} {a : List Cl} (hG : Good gs) (ha : Sq n gs a) (hn1 : 1 ≤ n) (hn : n ≤ 4) (hl : gs.length ≤ 1000) (v : List Bool) : valL (smP n gs a).1 v (smP n gs a).2 = uniq (closS n (valL gs v a)) := by
  obtain ⟨q1, q2, q3, q4, q5⟩ := smP_ok hG ha hn1 hn hl
  exact val_clos hG ha q1 q4 v fun x y hx hy => q5 v x y hx hy
end Go.Proofs.YthdhmflodiincaaGreat

namespace Go.Proofs.YthdhmflodiincaaGreat

theorem valE_valL {g : List Gt} {v : List Bool} {m : List Cl} (h : ∀ c ∈ m, Ok g c.2) : valE g v m = valL g v m := by
  unfold valE valL
  rw [List.filter_congr (fun c hc => eval_val (h c hc))]
theorem madeC_next (refs : List Int) (raw : List Nat) (k : Nat) : madeC refs raw (k + 1) = madeC refs raw k ++ (if (raw.getD k 0) % 2 = 1 ∧ pickL refs (raw.getD k 0 / 2) ≠ 1 then [((k : Int), pickL refs (raw.getD k 0 / 2))] else []) := by
  unfold madeC
  rw [List.range_succ, List.filterMap_append, List.filterMap_cons, List.filterMap_nil]
  by_cases hc : (raw.getD k 0) % 2 = 1 ∧ pickL refs (raw.getD k 0 / 2) ≠ 1
  · rw [if_pos hc, if_pos hc]
  · rw [if_neg hc, if_neg hc]
theorem madeC_all (refs : List Int) (raw : List Nat) : ∀ k, UpM (madeC refs raw k) ∧ ∀ c ∈ madeC refs raw k, 0 ≤ c.1 ∧ c.1 < (k : Int) ∧ c.2 ≠ 1 ∧ ∃ n, c.2 = pickL refs n
  | 0 => ⟨by unfold UpM madeC; simp, fun c hc => by simp [madeC] at hc⟩
  | k + 1 => by
    obtain ⟨h1, h2⟩ := madeC_all refs raw k
    rw [madeC_next]
    by_cases hc : (raw.getD k 0) % 2 = 1 ∧ pickL refs (raw.getD k 0 / 2) ≠ 1
    · rw [if_pos hc]
      refine ⟨?_, fun c hm => ?_⟩
      · unfold UpM at h1 ⊢
        rw [List.map_append, List.pairwise_append]
        refine ⟨h1, by simp, fun x hx y hy => ?_⟩
        obtain ⟨c, hc', rfl⟩ := List.mem_map.1 hx
        simp at hy
        subst hy
        exact (h2 c hc').2.1
      · rcases List.mem_append.1 hm with hm | hm
        · have := h2 c hm
          exact ⟨this.1, by have := this.2.1; omega, this.2.2⟩
        · rw [List.mem_singleton.1 hm]
          exact ⟨by show (0 : Int) ≤ (k : Int); omega, by show (k : Int) < ((k + 1 : Nat) : Int); omega, hc.2, _, rfl⟩
    · rw [if_neg hc, List.append_nil]
      exact ⟨h1, fun c hm => by have := h2 c hm; exact ⟨this.1, by have := this.2.1; omega, this.2.2⟩⟩
theorem made_mat {g : List Gt} {refs : List Int} (hp : 1 ≤ g.length) (h : ∀ r ∈ refs, Ok g r) (raw : List Nat) (k : Nat) : Mat g (madeC refs raw k) :=
  ⟨(madeC_all refs raw k).1, fun c hc => by
    obtain ⟨_, _, h3, n, h4⟩ := (madeC_all refs raw k).2 c hc
    exact ⟨by rw [h4]; exact pick_ok hp h n, h3⟩⟩
open Go.RowKit in
open Go.RowKit in
theorem value_at {g : List Gt} {vs : List Bool} {m : List Cl} {na : Nat} {xa ma va : Option Addr} {xc mc vc : Nat} {w : World} (ar : Int) (hna : m.length = na) (hv8 : vs.length = 8) (hG : Good g) (hl : g.length ≤ 1000) (hok : ∀ c ∈ m, Ok g c.2) (hn : na ≤ 1000) (h : GatesW w xa xc g) (hm : CellsW w ma mc m) (hv : BoolsW w va vc vs) :
    Calls Tryz.prog 12 #[.agg #[.slice xa g.length xc], .agg #[.int .i64 ar, .slice ma na mc], .slice va 8 vc] w fun e w' => ∃ b nv d, e = .returned (.agg #[.int .i64 ar, .slice b nv d]) ∧ (valL g vs m).length = nv ∧ IntsW w' b d (valL g vs m) ∧ w.grownBy w' none := by
  subst hna
  have h1 := mvalue_calls g m vs ar xa xc ma mc va vc w h hm hv hl hn (by omega) (good_bounds hG (by omega)) (fun x hx => by have := hok x hx; unfold Ok at this; omega)
  rw [hv8, valE_valL hok] at h1
  refine h1.mono fun e w' he => ?_
  obtain ⟨b, d, rfl, hi, hg⟩ := he
  exact ⟨b, _, d, rfl, rfl, hi.weak, hg⟩
end Go.Proofs.YthdhmflodiincaaGreat

namespace Go.Proofs.YthdhmflodiincaaGreat
open Go.RowKit Go.Maps


theorem own_neZ {w : World} {B b : Nat} {e : TypeId} {size n : Nat} {v : Value} {xs : List Value} (h : w.ownsRow B e size v n xs) (hb : b < B) : v.ownBlock = none ∨ v.ownBlock ≠ some b := by
  cases hv : v.ownBlock with
  | none => exact .inl rfl
  | some k => have := (h.lt k hv).1; exact .inr (by simp; omega)

structure RowBox (Bs : Nat) (wr : World) (b : Nat) (k : Int) (v : Value) (s : List Int) : Prop where
  row : wr.cell? ⟨b, 1, none⟩ = some v
  own : wr.ownsRow Bs 3 1 v s.length (intCells s)
  c0 : wr.cell? ⟨b, 0, none⟩ = some (.int .i64 k)
  fr : wr.frozen? ⟨b, 1, none⟩ = false
  low : b < Bs ∧ Bs ≤ wr.heap.size
theorem RowBox.new (w : World) (k : Int) {Bs : Nat} (hB : Bs = w.heap.size + 1) : RowBox Bs (w.alloc (.cells #[.int .i64 k, .slice none 0 0] 40)) w.heap.size k (.slice none 0 0) [] :=
  ⟨by go_simp, World.ownsRow_nil _ _ _ _, by go_simp, by go_simp, by rw [hB]; simp⟩
theorem RowBox.more {Bs Bs' : Nat} {wr : World} {b : Nat} {k : Int} (h : RowBox Bs wr b k (.slice none 0 0) []) (h1 : Bs ≤ Bs') (h2 : Bs' ≤ wr.heap.size) : RowBox Bs' wr b k (.slice none 0 0) [] :=
  ⟨h.row, World.ownsRow_nil _ _ _ _, h.c0, h.fr, by have := h.low; omega, h2⟩
theorem RowBox.grown {Bs : Nat} {wr w' : World} {b : Nat} {k : Int} {v : Value} {s : List Int} (h : RowBox Bs wr b k v s) (g : wr.grownBy w' none) : RowBox Bs w' b k v s :=
  ⟨g.cell h.row (by simp), own_grown h.own g, g.cell h.c0 (by simp), (grown_frozen g (lies_lt h.c0) 1).trans h.fr, h.low.1, Nat.le_trans h.low.2 g.size⟩
theorem RowBox.at_ {Bs : Nat} {wr WA w3 : World} {b : Nat} {k : Int} {v : Value} {s : List Int} (h : RowBox Bs wr b k v s) (ha : wr.grownBy WA none) (hg : WA.grownBy w3 v.ownBlock) :
    w3.cell? ⟨b, 1, none⟩ = some v ∧ w3.frozen? ⟨b, 1, none⟩ = false := by
  have hne : some b ≠ v.ownBlock := fun e => by have := (h.own.lt b e.symm).1; have := h.low; omega
  have hlt := lies_lt h.row
  have e1 := ha.block b hlt (by simp)
  have e2 := hg.block b (Nat.lt_of_lt_of_le hlt ha.size) hne
  exact ⟨hg.cell (ha.cell h.row (by simp)) hne, (World.frozen?_of_block (a := ⟨b, 1, none⟩) (e2.trans e1)).trans h.fr⟩
theorem RowBox.step {Bs : Nat} {wr WA w3 : World} {b : Nat} {k : Int} {v v' : Value} {s : List Int} {x : Int} (h : RowBox Bs wr b k v s) (ha : wr.grownBy WA none) (hg : WA.grownBy w3 v.ownBlock)
    (hown' : w3.ownsRow Bs 3 1 v' (s.length + 1) (intCells s ++ [.int .i64 x])) : RowBox Bs (w3.setCell ⟨b, 1, none⟩ v') b k v' (s ++ [x]) := by
  have hlow := h.low
  have hne : some b ≠ v.ownBlock := fun e => by have := (h.own.lt b e.symm).1; omega
  obtain ⟨h1, h2⟩ := h.at_ ha hg
  refine ⟨World.cell?_setCell_same' _ _ _ (by rw [h1]; rfl), ?_, ?_, by rw [World.frozen?_setCell]; exact h2, hlow.1, ?_⟩
  · rw [List.length_append, intCells, List.map_append]; exact hown'.kept (grown_set _ _ _ _) (own_neZ hown' (by omega))
  · rw [World.cell?_setCell_other _ _ _ _ (by intro e; injection e with _ e1; omega)]; exact hg.cell (ha.cell h.c0 (by simp)) hne
  · have := ha.size; have := hg.size; simp [World.setCell]; omega
theorem RowBox.grows {Bs : Nat} {w0 wr WA w3 : World} {b : Nat} {k : Int} {v v' : Value} {s : List Int} (h : RowBox Bs wr b k v s) (hw : w0.grownBy wr none) (h0 : w0.heap.size ≤ b) (ha : wr.grownBy WA none) (hg : WA.grownBy w3 v.ownBlock) : w0.grownBy (w3.setCell ⟨b, 1, none⟩ v') none :=
  grown_own (grown_own (hw.trans ha) hg (fun j hj => by have := (h.own.lt j hj).1; have := h.low; omega)) (grown_set _ _ _ _) (fun j hj => by cases hj; exact h0)
theorem RowBox.grows2 {Bs : Nat} {w0 wr WA w3 : World} {b : Nat} {k : Int} {v v' : Value} {s s' : List Int} (h : RowBox Bs wr b k v s) (_hst : RowBox Bs (w3.setCell ⟨b, 1, none⟩ v') b k v' s') (hw : w0.grownBy wr none) (h0 : w0.heap.size ≤ b) (ha : wr.grownBy WA none) (hg : WA.grownBy w3 v.ownBlock) : w0.grownBy (w3.setCell ⟨b, 1, none⟩ v') none :=
  h.grows hw h0 ha hg
theorem RowBox.ints {Bs : Nat} {wr : World} {b : Nat} {k : Int} {v : Value} {s : List Int} (h : RowBox Bs wr b k v s) : ∃ a c, v = .slice a s.length c ∧ Span Bs wr.heap.size wr (fun W => Ints W a c s) := ints_span h.own


theorem one_cellsZ (w : World) (u0 u1 : Value) (s : TypeId) :
    w.heap.size < (w.alloc (.cells #[u0, u1] s)).heap.size ∧ (w.alloc (.cells #[u0, u1] s)).cell? ⟨w.heap.size, 0, none⟩ = some u0 ∧ (w.alloc (.cells #[u0, u1] s)).cell? ⟨w.heap.size, 1, none⟩ = some u1 ∧
    (w.alloc (.cells #[u0, u1] s)).frozen? ⟨w.heap.size, 0, none⟩ = false ∧ (w.alloc (.cells #[u0, u1] s)).frozen? ⟨w.heap.size, 1, none⟩ = false := by
  refine ⟨by simp, by go_simp, by go_simp, by go_simp, by go_simp⟩
def upTo (f : Nat → Nat) (n : Nat) : List Int := (List.range n).map fun i => ((f i : Nat) : Int)
theorem upTo_succ (f : Nat → Nat) (n : Nat) : upTo f (n + 1) = upTo f n ++ [((f n : Nat) : Int)] := by simp [upTo, List.range_succ]
theorem upTo_len (f : Nat → Nat) (n : Nat) : (upTo f n).length = n := by simp [upTo]
theorem mem_upTo {f : Nat → Nat} {n : Nat} {z : Int} : z ∈ upTo f n ↔ ∃ i, i < n ∧ z = ((f i : Nat) : Int) := by
  simp only [upTo, List.mem_map, List.mem_range]
  exact ⟨fun ⟨i, h, e⟩ => ⟨i, h, e.symm⟩, fun ⟨i, h, e⟩ => ⟨i, h, e.symm⟩⟩
theorem upTo_up {f : Nat → Nat} (hf : ∀ i j, i < j → f i < f j) : ∀ n, Up (upTo f n)
  | 0 => List.Pairwise.nil
  | n + 1 => by
    rw [upTo_succ]
    refine List.pairwise_append.2 ⟨upTo_up hf n, List.pairwise_singleton _ _, fun a ha b hb => ?_⟩
    obtain ⟨i, hi, rfl⟩ := mem_upTo.1 ha
    rw [List.mem_singleton.1 hb]
    have := hf i n hi
    omega
abbrev idenL (n : Nat) : List Int := upTo (fun x => x * n + x) n
theorem relresz40 (tmps : Array Value) (w : World) (b : Nat) (a : Option Addr) (n c : Nat) (x : Int) (ht : tmps.getD 2 undef = .pointer (some ⟨b, 0, none⟩)) (h0 : w.cell? ⟨b, 0, none⟩ = some (.int .i64 x)) (h1 : w.cell? ⟨b, 1, none⟩ = some (.slice a n c)) :
    (results Tryz.f40 tmps).run Tryz.prog w = .ok (.agg #[.int .i64 x, .slice a n c]) w := by
  have ht' : tmps[2]?.getD undef = .pointer (some ⟨b, 0, none⟩) := by simpa using ht
  simp [results, ht', go_sem, h0, h1, Result.andThen]

theorem iden_calls (n : Nat) (w : World) (hn2 : n ≤ 12) :
    Calls Tryz.prog 40 #[.int .i64 (n : Int)] w fun e w' => ∃ a c, e = .returned (.agg #[.int .i64 2, .slice a (idenL n).length c]) ∧ Span w.heap.size w'.heap.size w' (fun W => IntsW W a c (idenL n)) ∧ w.grownBy w' none := by
  obtain ⟨i0, hi0, hz0, hz1, hz2⟩ := info_parts info3
  rw [upTo_len]
  have hc := one_cellsZ w (.int .i64 0) (.slice none 0 0) 40
  have hg := World.grownBy_alloc w (.cells #[.int .i64 0, .slice none 0 0] 40) none
  have hsz : (w.alloc (.cells #[.int .i64 0, .slice none 0 0] 40)).heap.size = w.heap.size + 1 := by simp
  obtain ⟨W, hW⟩ : ∃ W, w.alloc (.cells #[.int .i64 0, .slice none 0 0] 40) = W := ⟨_, rfl⟩
  rw [hW] at hc hg hsz
  have HG := Lib.hid (And.intro hg hsz); clear hg hsz
  have HC := Lib.hid hc
  obtain ⟨_, e0, e1, ef0, ef1⟩ := hc
  have HB0 := Lib.hid (RowBox.new W 2 (Bs := W.heap.size + 1) rfl)
  have HG0 := Lib.hid (World.grownBy_alloc W (.cells #[.int .i64 2, .slice none 0 0] 40) none)
  go_enter Tryz.func40, Tryz.ntmps40
  go_wp2_with fail
  clear hW e0 e1 ef0 ef1
  obtain ⟨W1, hW1⟩ : ∃ W1, W.alloc (.cells #[.int .i64 2, .slice none 0 0] 40) = W1 := ⟨_, rfl⟩
  rw [hW1] at HB0 HG0 ⊢
  clear hW1
  go_loopg [7] n (fun g s wr => ∃ (i : Nat) (v : Value), s = .int .i64 (i : Int) ∧ g = n - i ∧ i ≤ n ∧ RowBox (W.heap.size + 1) wr W.heap.size 2 v (upTo (fun x => x * n + x) i) ∧ W.grownBy wr none)
  case atStart => exact ⟨0, .slice none 0 0, rfl, rfl, Nat.zero_le _, HB0.out, HG0.out⟩
  case round =>
    obtain ⟨i, v, rfl, hgk, hi, hbx, hgr⟩ := hrel
    obtain ⟨va, vc, rfl⟩ := own_shape hbx.own
    have HBX := Lib.hid hbx; clear hbx
    have HWR := Lib.hid hgr; clear hgr
    have HI := Lib.hid hgk; clear hgk
    have r1 := HBX.out.row
    have hlen : (upTo (fun x => x * n + x) i).length = i := upTo_len _ _
    by_cases hin : i < n
    · have hinB : decide (i < n) = true := by simpa using hin
      obtain ⟨P, hP⟩ : ∃ P, i * n = P := ⟨_, rfl⟩
      obtain ⟨V, hV⟩ : ∃ V, P + i = V := ⟨_, rfl⟩
      have hP2 : P ≤ 144 := by rw [← hP]; exact Nat.le_trans (Nat.mul_le_mul (Nat.le_of_lt hin) (Nat.le_refl n)) (Nat.mul_le_mul hn2 hn2)
      have hwP : IntKind.i64.wrap ((i : Int) * (n : Int)) = (P : Int) := by rw [show (i : Int) * (n : Int) = (P : Int) by rw [← hP]; simp]; exact IntWalk.i64_in _ (by omega)
      have hwV : IntKind.i64.wrap ((P : Int) + (i : Int)) = (V : Int) := by rw [IntWalk.i64_in _ (by omega)]; omega
      have HST := Lib.hid (show upTo (fun x => x * n + x) (i + 1) = upTo (fun x => x * n + x) i ++ [(V : Int)] by rw [upTo_succ]; simp only [hP, hV])
      clear hP hV
      have HLEN := Lib.hid hlen; clear hlen
      go_wp2_with (at_builtin; refine wpList_append_own_at _ rfl _ _ 28 rfl (W.heap.size + 1) 3 i0 (.int .i64 0) 1 8 Tryz.underlying28 hi0 hz0 hz1 hz2 rfl (by decide) _ (upTo (fun x => x * n + x) i).length (intCells (upTo (fun x => x * n + x) i)) rfl (HBX.out.own.alloc _) ⟨wr.heap.size, 0, none⟩ 1 1 [.int .i64 (V : Int)] rfl rfl (cell_one_new _ _ _) (ints_oneCell .i64 [(V : Int)]) (by have := HLEN.out; unfold maxLen; omega) (by have := HLEN.out; omega) (by have := HBX.out.low.2; simp; omega) ?_)
      intro v' w6 hown' hgrow6 _ hat6
      have haA := World.grownBy_alloc wr (.cells #[.int .i64 (V : Int)] 3) none
      have hst := HBX.out.step haA hgrow6 hown'
      have hgs := HBX.out.grows2 hst HWR.out (Nat.le_refl _) haA hgrow6
      obtain ⟨hs1, hs2⟩ := HBX.out.at_ haA hgrow6
      obtain ⟨rgA, rcA, rfl⟩ := own_shape hown'
      have HE := Lib.hid (And.intro hst hgs)
      clear hst hgs hgrow6 hat6 hown' haA
      go_wp2_with fail
      clear hs1 hs2
      go_roundg (n - (i + 1))
      case measure => rw [HI.out]; omega
      case rel => exact ⟨i + 1, _, rfl, rfl, by omega, by rw [HST.out]; exact HE.out.1, HE.out.2⟩
    · obtain rfl : i = n := by omega
      have hinB : decide (i < i) = false := by simp
      have r0 := HBX.out.c0
      rw [hlen] at r1
      obtain ⟨a', c', hv, hi⟩ := HBX.out.ints
      injection hv with hv1 _ hv2
      subst hv1 hv2
      replace hi := hi.map fun W (h : Ints W va vc _) => h.weak
      have g3 : wr.grownBy wr none := grown_refl _ _
      have g := World.grownBy.trans HWR.out g3
      have m0 := g.cell HC.out.2.1 (by simp)
      have m1 := g.cell HC.out.2.2.1 (by simp)
      have f0 := (grown_frozen g HC.out.1 0).trans HC.out.2.2.2.1
      have f1 := (grown_frozen g HC.out.1 1).trans HC.out.2.2.2.2
      have HI3 := Lib.hid hi
      have HG3 := Lib.hid g
      clear hi g
      go_wp2_with fail
      have hret := ret_rel (p := i) (k := 2) (B := w.heap.size) (HI3.out.wide (by have := HG.out.2; omega) (Nat.le_refl _) (Nat.le_refl _)) (Nat.le_refl _) (HG.out.1.trans HG3.out)
      refine bodyPost_ret (relresz40 _ _ (w.heap.size) va i vc 2 rfl (by rw [World.cell?_setCell_other _ _ _ _ (by intro e; injection e with _ e; cases e)]; exact World.cell?_setCell_same _ _ _ m0) (World.cell?_setCell_same _ _ _ (by rw [World.cell?_setCell_other _ _ _ _ (by intro e; injection e with _ e; cases e)]; exact m1))) rfl ⟨va, vc, rfl, hret⟩
end Go.Proofs.YthdhmflodiincaaGreat

namespace Go.Proofs.YthdhmflodiincaaGreat
open Go.RowKit Go.Maps

def RowT (w : World) (B : Nat) (v : Value) (n : Nat) (l : List Cl) : Prop := w.ownsRow B 70 2 v n (clCells l)
theorem RowT.grown {w w' : World} {B n : Nat} {v : Value} {l : List Cl} (h : RowT w B v n l) (hg : w.grownBy w' none) : RowT w' B v n l := World.ownsRow.kept h hg (by cases v.ownBlock <;> simp)
theorem RowT.set {w : World} {B n : Nat} {v : Value} {l : List Cl} (h : RowT w B v n l) (p o : Nat) (u : Value) (hp : p < B) : RowT (w.setCell ⟨p, o, none⟩ u) B v n l :=
  World.ownsRow.kept h (grown_set w p o u) (.inr fun e => by have := World.ownsRow.lt h p e; omega)
theorem MF.kept {w w' : World} {b n c : Nat} {ar : Int} {a : Option Addr} {r : Option Nat} (h : MF w b ar a n c) (hg : w.grownBy w' r) (hr : r ≠ some b) : MF w' b ar a n c := by
  have ne : some b ≠ r := fun e => hr e.symm
  exact ⟨hg.cell h.1 ne, hg.cell h.2.1 ne, (World.frozen?_of_block (a := ⟨b, 0, none⟩) (hg.block b (lies_lt h.1) ne)).trans h.2.2.1, (World.frozen?_of_block (a := ⟨b, 1, none⟩) (hg.block b (lies_lt h.1) ne)).trans h.2.2.2⟩
theorem TF.kept {w w' : World} {b x : Nat} {fv : Value} {r : Option Nat} (h : TF w b x fv) (hg : w.grownBy w' r) (hr : r ≠ some b) : TF w' b x fv := ⟨hg.cell h.1 (fun e => hr e.symm), hg.cell h.2 (fun e => hr e.symm)⟩
end Go.Proofs.YthdhmflodiincaaGreat

namespace Go.Proofs.YthdhmflodiincaaGreat

theorem acR_ok {n : Nat} {gs : List Gt} {A : List Cl} (hG : Good gs) (ha : Sq n gs A) (hn1 : 1 ≤ n) (hn : n ≤ 4) (hl : gs.length ≤ 440) : Good (acR n gs A).1 ∧ (acR n gs A).1.length ≤ gs.length + roundC n * 2 + n ∧ Ok (acR n gs A).1 (acR n gs A).2 := by
  obtain ⟨o1, o2, o3, o4, o5⟩ := smP_ok hG ha hn1 hn (by omega)
  have hr := roundC_le hn
  obtain ⟨h1, h2, h3⟩ := Pr.safe_run _ (safe_acP o1 o4 (by omega))
  exact ⟨h1.good, by have := h1.len; unfold acR; omega, h2⟩
theorem acR_val {n : Nat} {gs : List Gt} {A : List Cl} (hG : Good gs) (ha : Sq n gs A) (hn1 : 1 ≤ n) (hn : n ≤ 4) (hl : gs.length ≤ 440) (v : List Bool) :
    evalC (acR n gs A).1 v (acR n gs A).2 = decide ((interL (uniq (closS n (valL gs v A))) (idenL n)).length = 0) := by
  obtain ⟨o1, o2, o3, o4, o5⟩ := smP_ok hG ha hn1 hn (by omega)
  have hr := roundC_le hn
  obtain ⟨h1, h2, h3⟩ := Pr.safe_run _ (safe_acP o1 o4 (by omega))
  have hv := smP_val hG ha hn1 hn (by omega) v
  rw [show evalC (acR n gs A).1 v (acR n gs A).2 = valC (acR n gs A).1 v (acR n gs A).2 from eval_val h2]
  refine (h3 v).trans ?_
  rw [Bool.eq_iff_iff, List.all_eq_true, decide_eq_true_iff]
  have hu : Up (uniq (closS n (valL gs v A))) := uniq_up _
  have hi : Up (idenL n) := upTo_up (fun i j h => by have := Nat.mul_le_mul_right n (Nat.le_of_lt h); omega) n
  have key : ∀ x : Nat, hasV (smP n gs A).1 v (smP n gs A).2 ((x : Int) * n + x) = true ↔ ((x * n + x : Nat) : Int) ∈ uniq (closS n (valL gs v A)) := fun x => by
    rw [← hv, mem_valL o1 o4.1.1 v]
    have e : ((x * n + x : Nat) : Int) = (x : Int) * n + x := by rw [Int.natCast_add, Int.natCast_mul]
    rw [e]
  constructor
  · intro h
    rw [List.length_eq_zero_iff]
    refine List.eq_nil_iff_forall_not_mem.2 fun z hz => ?_
    obtain ⟨hz1, hz2⟩ := (mem_inter hu hi).1 hz
    obtain ⟨x, hx, rfl⟩ := mem_upTo.1 hz2
    have h9 := h x (List.mem_range.2 hx)
    rw [(key x).2 hz1] at h9
    cases h9
  · intro h x hx
    rw [List.length_eq_zero_iff] at h
    have hx := List.mem_range.1 hx
    cases hc : hasV (smP n gs A).1 v (smP n gs A).2 ((x : Int) * n + x) with
    | false => rfl
    | true =>
      have h9 := (mem_inter hu hi).2 ⟨(key x).1 hc, mem_upTo.2 ⟨x, hx, rfl⟩⟩
      rw [h] at h9
      cases h9
end Go.Proofs.YthdhmflodiincaaGreat
