/- Closure. -/
import Derived.Test.YtkoigonbncpbaaaA7
namespace Go.Proofs.Ytkoigonbncpbaaa
open Go.RowKit Go.Maps Go.Sort Go.Shelf

def stepC (n m f t : Nat) (S : List Int) : List Int := if ((f * n + m : Nat) : Int) ∈ S ∧ ((m * n + t : Nat) : Int) ∈ S then S ++ [((f * n + t : Nat) : Int)] else S
def runT (n m f : Nat) : Nat → List Int → List Int
  | 0, S => S
  | t + 1, S => stepC n m f t (runT n m f t S)
def runF (n m : Nat) : Nat → List Int → List Int
  | 0, S => S
  | f + 1, S => runT n m f n (runF n m f S)
def runM (n : Nat) : Nat → List Int → List Int
  | 0, S => S
  | m + 1, S => runF n m n (runM n m S)
/-- The numbers that Warshall's loops have put in. -/
abbrev closS (n : Nat) (xs : List Int) : List Int := runM n n xs
theorem stepC_len (n m f t : Nat) (S : List Int) : (stepC n m f t S).length ≤ S.length + 1 := by unfold stepC; split <;> simp
theorem runT_len (n m f : Nat) : ∀ (t : Nat) (S : List Int), (runT n m f t S).length ≤ S.length + t
  | 0, S => Nat.le_refl _
  | t + 1, S => by have h1 := stepC_len n m f t (runT n m f t S); have h2 := runT_len n m f t S; simp only [runT]; omega
theorem runF_len (n m : Nat) : ∀ (f : Nat) (S : List Int), (runF n m f S).length ≤ S.length + f * n
  | 0, S => by simp [runF]
  | f + 1, S => by have h1 := runT_len n m f n (runF n m f S); have h2 := runF_len n m f S; simp only [runF]; rw [Nat.succ_mul]; omega
theorem runM_len (n : Nat) : ∀ (m : Nat) (S : List Int), (runM n m S).length ≤ S.length + m * (n * n)
  | 0, S => by simp [runM]
  | m + 1, S => by have h1 := runF_len n m n (runM n m S); have h2 := runM_len n m S; simp only [runM]; rw [Nat.succ_mul]; omega

theorem results23 (tmps : Array Value) (w : World) (b : Nat) (a : Option Addr) (n c : Nat) (x : Int) (ht : tmps.getD 4 undef = .pointer (some ⟨b, 0, none⟩)) (h0 : w.cell? ⟨b, 0, none⟩ = some (.int .i64 x)) (h1 : w.cell? ⟨b, 1, none⟩ = some (.slice a n c)) :
    (results Try.f23 tmps).run Try.prog w = .ok (.agg #[.int .i64 x, .slice a n c]) w := by
  have ht' : tmps[4]?.getD undef = .pointer (some ⟨b, 0, none⟩) := by simpa using ht
  simp [results, ht', go_sem, h0, h1, Result.andThen]

set_option maxRecDepth 100000 in
set_option maxHeartbeats 8000000 in
theorem closure_calls (n : Nat) (k : Int) (xs : List Int) (xa : Option Addr) (xc : Nat) (w : World) (h : IntsW w xa xc xs) (hl : xs.length ≤ 90000) (hn2 : n ≤ 12) (hx : ∀ x ∈ xs, 0 ≤ x ∧ x ≤ 2000) :
    Calls Try.prog 23 #[.int .i64 (n : Int), .agg #[.int .i64 k, .slice xa xs.length xc]] w fun e w' => ∃ a c, e = .returned (.agg #[.int .i64 k, .slice a (uniq (closS n xs)).length c]) ∧ Span w.heap.size w'.heap.size w' (fun W => IntsW W a c (uniq (closS n xs))) ∧ w.grownBy w' none := by
  obtain ⟨m, hm⟩ : ∃ m, xs.length = m := ⟨_, rfl⟩
  obtain ⟨p, hp⟩ : ∃ p, (uniq (closS n xs)).length = p := ⟨_, rfl⟩
  have hc := two_cells w (.int .i64 k) (.slice xa m xc) (.int .i64 0) (.slice none 0 0) 27 27
  have hg := (World.grownBy_alloc w (.cells #[.int .i64 k, .slice xa m xc] 27) none).trans (World.grownBy_alloc (w.alloc (.cells #[.int .i64 k, .slice xa m xc] 27)) (.cells #[.int .i64 0, .slice none 0 0] 27) none)
  have hsz : ((w.alloc (.cells #[.int .i64 k, .slice xa m xc] 27)).alloc (.cells #[.int .i64 0, .slice none 0 0] 27)).heap.size = w.heap.size + 2 := by simp
  obtain ⟨W, hW⟩ : ∃ W, (w.alloc (.cells #[.int .i64 k, .slice xa m xc] 27)).alloc (.cells #[.int .i64 0, .slice none 0 0] 27) = W := ⟨_, rfl⟩
  rw [hW] at hc hg hsz
  have HH := Lib.hid (And.intro (h.grown hg) (And.intro hm hx))
  rw [hm] at hl ⊢
  have HP := Lib.hid hp
  rw [hp]
  clear h hm hx hp
  have HG := Lib.hid (And.intro hg hsz); clear hg hsz
  have HC := Lib.hid hc
  have HNN := Lib.hid (And.intro hn2 (show n * n ≤ 144 from Nat.mul_le_mul hn2 hn2))
  have HL := Lib.hid hl
  clear hn2 hl
  obtain ⟨_, c0, c1, d0, d1, f0, f1⟩ := hc
  have hmm := @run_makeMap Try.prog
  have hga := World.grownBy_alloc W (.map #[] 0) none
  have c1' := hga.cell c1 (by simp)
  go_enter Try.func23, Try.ntmps23
  go_wp2_with fail
  clear hW
  have hnew := SetM.new W
  obtain ⟨W0, hW0⟩ : ∃ W0, W.alloc (.map #[] 0) = W0 := ⟨_, rfl⟩
  rw [hW0] at hnew hga ⊢
  clear hW0 c1' c0 c1 d0 d1 f0 f1 hmm
  have HN := Lib.hid (And.intro hnew hga); clear hnew hga
  go_loopg [15] m (fun g s15 wr => ∃ (i : Nat), s15 = .int .i64 (i : Int) ∧ g = m - i ∧ i ≤ m ∧ SetM wr W.heap.size (xs.take i) ∧ W.grownBy wr none)
  case atStart => exact ⟨0, rfl, rfl, Nat.zero_le _, HN.out.1, HN.out.2⟩
  case round =>
    obtain ⟨i, rfl, hgk, hi, hsd, hgr⟩ := hrel
    have HSD := Lib.hid hsd; clear hsd
    have HWR := Lib.hid hgr; clear hgr
    have HI := Lib.hid hgk; clear hgk
    have hmB : m ≤ 90000 := HL.out
    by_cases hin : i < m
    · have hinB : decide (i < m) = true := by simpa using hin
      have hinI : (i : Int) < (m : Int) := by omega
      obtain ⟨z, hz⟩ : ∃ z, xs[i]? = some z := ⟨_, List.getElem?_eq_getElem (by rw [HH.out.2.1]; exact hin)⟩
      obtain ⟨b, o, rfl, hcell0⟩ := HH.out.1.at hz
      have HZ := Lib.hid (HH.out.2.2 z (List.mem_of_getElem? hz))
      have HT := Lib.hid (show xs.take (i + 1) = xs.take i ++ [z] by rw [List.take_add_one, hz]; rfl)
      have HLT := Lib.hid (show (xs.take i).length ≤ 100000 by rw [List.length_take]; have := HL.out; omega)
      have e2 := HWR.out.cell hcell0 (by simp)
      clear hz
      go_wp2_with (at_mapUpdate; refine wpList_setM rfl _ _ rfl W.heap.size (xs.take i) rfl HSD.out (by have := HLT.out; omega) z rfl (wf64 (by have := HZ.out; omega) (by have := HZ.out; omega)) ?_; intro w6 hset hgr6; have HE := Lib.hid (And.intro hset (grown_own HWR.out hgr6 (fun k hk => by cases hk; exact Nat.le_refl _))); clear hset hgr6 e2)
      go_roundg (m - (i + 1))
      case measure => rw [HI.out]; have := HL.out; omega
      case rel => exact ⟨i + 1, rfl, rfl, by omega, by rw [HT.out]; exact HE.out.1, HE.out.2⟩
    · have hie : i = m := by omega
      subst hie
      have hinB : decide (i < i) = false := by simp
      have hall : xs.take i = xs := List.take_of_length_le (by rw [HH.out.2.1]; exact Nat.le_refl _)
      rw [hall] at HSD
      clear hall
      go_wp2_with fail
      obtain ⟨wo, rfl⟩ : ∃ wo, wo = wr := ⟨_, rfl⟩
      go_loopg [23] n (fun g s23 wr => ∃ (v : Nat), s23 = .int .i64 (v : Int) ∧ g = n - v ∧ v ≤ n ∧ SetM wr W.heap.size (runM n v xs) ∧ W.grownBy wr none)
      case atStart => exact ⟨0, rfl, rfl, Nat.zero_le _, HSD.out, HWR.out⟩
      case round =>
        obtain ⟨v, rfl, hgk, hv, hsd, hgr⟩ := hrel
        have HSV := Lib.hid hsd; clear hsd
        have HWV := Lib.hid hgr; clear hgr
        have HIV := Lib.hid hgk; clear hgk
        have hn12 : n ≤ 12 := HNN.out.1
        by_cases hvn : v < n
        · have hvB : decide (v < n) = true := by simpa using hvn
          go_wp2_with fail
          obtain ⟨wo2, rfl⟩ : ∃ wo, wo = wr := ⟨_, rfl⟩
          go_loopg [27] n (fun g s27 wr => ∃ (f : Nat), s27 = .int .i64 (f : Int) ∧ g = n - f ∧ f ≤ n ∧ SetM wr W.heap.size (runF n v f (runM n v xs)) ∧ W.grownBy wr none)
          case atStart => exact ⟨0, rfl, rfl, Nat.zero_le _, HSV.out, HWV.out⟩
          case round =>
            obtain ⟨f, rfl, hgk, hf, hsd, hgr⟩ := hrel
            have HSF := Lib.hid hsd; clear hsd
            have HWF := Lib.hid hgr; clear hgr
            have HIF := Lib.hid hgk; clear hgk
            by_cases hfn : f < n
            · have hfB : decide (f < n) = true := by simpa using hfn
              go_wp2_with fail
              obtain ⟨wo3, rfl⟩ : ∃ wo, wo = wr := ⟨_, rfl⟩
              go_loopg [31] n (fun g s31 wr => ∃ (t : Nat), s31 = .int .i64 (t : Int) ∧ g = n - t ∧ t ≤ n ∧ SetM wr W.heap.size (runT n v f t (runF n v f (runM n v xs))) ∧ W.grownBy wr none)
              case atStart => exact ⟨0, rfl, rfl, Nat.zero_le _, HSF.out, HWF.out⟩
              case round =>
                obtain ⟨t, rfl, hgk, ht, hsd, hgr⟩ := hrel
                have HST := Lib.hid hsd; clear hsd
                have HWT := Lib.hid hgr; clear hgr
                have HIT := Lib.hid hgk; clear hgk
                by_cases htn : t < n
                · have htB : decide (t < n) = true := by simpa using htn
                  obtain ⟨S, hS⟩ : ∃ S, runT n v f t (runF n v f (runM n v xs)) = S := ⟨_, rfl⟩
                  have hlen : S.length ≤ 100000 := by
                    rw [← hS]
                    have h1 := runT_len n v f t (runF n v f (runM n v xs)); have h2 := runF_len n v f (runM n v xs); have h3 := runM_len n v xs
                    have h4 : f * n ≤ 144 := Nat.le_trans (Nat.mul_le_mul (Nat.le_of_lt hfn) (Nat.le_refl n)) HNN.out.2
                    have h5 : v * (n * n) ≤ 12 * 144 := Nat.mul_le_mul (by have := HNN.out.1; omega) HNN.out.2
                    have h6 := HL.out; have h7 := HH.out.2.1; have h8 := HNN.out.1
                    omega
                  have hnx : runT n v f (t + 1) (runF n v f (runM n v xs)) = stepC n v f t S := by rw [← hS]; rfl
                  rw [hS] at HST
                  have HLEN := Lib.hid (And.intro hlen hnx); clear hlen hnx hS
                  obtain ⟨P1, hP1⟩ : ∃ P, f * n = P := ⟨_, rfl⟩
                  obtain ⟨P2, hP2⟩ : ∃ P, v * n = P := ⟨_, rfl⟩
                  have hb1 : P1 ≤ 144 := by rw [← hP1]; exact Nat.le_trans (Nat.mul_le_mul (Nat.le_of_lt hfn) (Nat.le_refl n)) HNN.out.2
                  have hb2 : P2 ≤ 144 := by rw [← hP2]; exact Nat.le_trans (Nat.mul_le_mul (Nat.le_of_lt hvn) (Nat.le_refl n)) HNN.out.2
                  have hb3 := hn12
                  obtain ⟨V1, hV1⟩ : ∃ V, P1 + v = V := ⟨_, rfl⟩
                  obtain ⟨V2, hV2⟩ : ∃ V, P2 + t = V := ⟨_, rfl⟩
                  obtain ⟨V3, hV3⟩ : ∃ V, P1 + t = V := ⟨_, rfl⟩
                  have hw1 : IntKind.i64.wrap ((f : Int) * (n : Int)) = (P1 : Int) := by rw [show (f : Int) * (n : Int) = (P1 : Int) by rw [← hP1]; simp]; exact IntWalk.i64_in _ (by omega)
                  have hw2 : IntKind.i64.wrap ((v : Int) * (n : Int)) = (P2 : Int) := by rw [show (v : Int) * (n : Int) = (P2 : Int) by rw [← hP2]; simp]; exact IntWalk.i64_in _ (by omega)
                  have hw3 : IntKind.i64.wrap ((P1 : Int) + (v : Int)) = (V1 : Int) := by rw [IntWalk.i64_in _ (by omega)]; omega
                  have hw4 : IntKind.i64.wrap ((P2 : Int) + (t : Int)) = (V2 : Int) := by rw [IntWalk.i64_in _ (by omega)]; omega
                  have hw5 : IntKind.i64.wrap ((P1 : Int) + (t : Int)) = (V3 : Int) := by rw [IntWalk.i64_in _ (by omega)]; omega
                  obtain ⟨B1, hB1⟩ : ∃ B, decide ((V1 : Int) ∈ S) = B := ⟨_, rfl⟩
                  obtain ⟨B2, hB2⟩ : ∃ B, decide ((V2 : Int) ∈ S) = B := ⟨_, rfl⟩
                  have hk1 := HST.out.look (k := (V1 : Int)) (wf64 (by omega) (by omega))
                  have hk2 := HST.out.look (k := (V2 : Int)) (wf64 (by omega) (by omega))
                  rw [hB1] at hk1
                  rw [hB2] at hk2
                  have HSTEP := Lib.hid (show stepC n v f t S = if B1 = true ∧ B2 = true then S ++ [(V3 : Int)] else S by
                    unfold stepC
                    rw [hP1, hP2, hV1, hV2, hV3, ← hB1, ← hB2]
                    simp only [decide_eq_true_eq])
                  have HV3 := Lib.hid (show V3 ≤ 1000 by omega)
                  clear hP1 hP2 hV1 hV2 hV3 hB1 hB2 hb1 hb2
                  cases B1 with
                  | false =>
                    go_wp2_with fail
                    go_roundg (n - (t + 1))
                    case measure => rw [HIT.out]; omega
                    case rel => exact ⟨t + 1, rfl, rfl, by omega, by rw [HLEN.out.2, HSTEP.out]; simpa using HST.out, HWT.out⟩
                  | true =>
                    cases B2 with
                    | false =>
                      go_wp2_with fail
                      go_roundg (n - (t + 1))
                      case measure => rw [HIT.out]; omega
                      case rel => exact ⟨t + 1, rfl, rfl, by omega, by rw [HLEN.out.2, HSTEP.out]; simpa using HST.out, HWT.out⟩
                    | true =>
                      go_wp2_with (at_mapUpdate; refine wpList_setM rfl _ _ rfl W.heap.size S rfl HST.out (by have := HLEN.out; omega) (V3 : Int) rfl (wf64 (by omega) (by have := HV3.out; omega)) ?_; intro w6 hset hgr6; have HE := Lib.hid (And.intro hset (grown_own HWT.out hgr6 (fun k hk => by cases hk; exact Nat.le_refl _))); clear hset hgr6 hk1 hk2)
                      go_roundg (n - (t + 1))
                      case measure => rw [HIT.out]; omega
                      case rel => exact ⟨t + 1, rfl, rfl, by omega, by rw [HLEN.out.2, HSTEP.out]; simpa using HE.out.1, HE.out.2⟩
                · have hte : t = n := by omega
                  subst hte
                  have htB : decide (t < t) = false := by simp
                  go_wp2_with fail
                  go_roundg (t - (f + 1))
                  case measure => rw [HIF.out]; omega
                  case rel => exact ⟨f + 1, rfl, rfl, by omega, HST.out, HWT.out⟩
            · have hfe : f = n := by omega
              subst hfe
              have hfB : decide (f < f) = false := by simp
              go_wp2_with fail
              go_roundg (f - (v + 1))
              case measure => rw [HIV.out]; omega
              case rel => exact ⟨v + 1, rfl, rfl, by omega, HSF.out, HWF.out⟩
        · have hve : v = n := by omega
          subst hve
          have hvB : decide (v < v) = false := by simp
          have e0 := HWV.out.cell HC.out.2.1 (by simp)
          have HF := Lib.hid (fun (U : World) (g : wr.grownBy U none) => fromSet_calls k W.heap.size (runM v v xs) U (HSV.out.grown g (by simp)) (by
            have h3 := runM_len v v xs
            have h5 : v * (v * v) ≤ 12 * 144 := Nat.mul_le_mul (by have := HNN.out.1; omega) HNN.out.2
            have h6 := HL.out; have h7 := HH.out.2.1
            omega))
          rw [HP.out] at HF
          go_wp2_with fail
          refine (HF.out wr (grown_refl _ _)).mono ?_
          rintro e w3 ⟨a', c', rfl, hi, g3⟩
          have g := World.grownBy.trans HWV.out g3
          have m0 := g.cell HC.out.2.2.2.1 (by simp)
          have m1 := g.cell HC.out.2.2.2.2.1 (by simp)
          have f0 := (grown_frozen g HC.out.1 0).trans HC.out.2.2.2.2.2.1
          have f1 := (grown_frozen g HC.out.1 1).trans HC.out.2.2.2.2.2.2
          have HI3 := Lib.hid hi
          have HG3 := Lib.hid g
          clear hi g
          go_wp2_with fail
          have hret := ret_rel (p := p) (k := k) (B := w.heap.size + 1) (HI3.out.wide (by have := HG.out.2; have := HWV.out.size; omega) (Nat.le_refl _) (Nat.le_refl _)) (by omega) (HG.out.1.trans HG3.out)
          refine bodyPost_ret (results23 _ _ (w.heap.size + 1) a' p c' k rfl (by rw [World.cell?_setCell_other _ _ _ _ (by intro e; injection e with _ e; cases e)]; exact World.cell?_setCell_same _ _ _ m0) (World.cell?_setCell_same _ _ _ (by rw [World.cell?_setCell_other _ _ _ _ (by intro e; injection e with _ e; cases e)]; exact m1))) rfl ⟨a', c', rfl, hret⟩
end Go.Proofs.Ytkoigonbncpbaaa
