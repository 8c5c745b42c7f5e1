/- Decode. -/
import Derived.Test.YtgeidnfigncepaaDoorL
import Derived.Test.YtgeidnfigncepaaDoorN
import Derived.Laws.EntriesVeiled
namespace Go.Proofs.YtgeidnfigncepaaDoor
open Go.RowKit

theorem restR_line {k s : Int} {t t' : List UInt8} {l : List Int} (h : litsR t = some (l, 10 :: t')) : restR k s t = some ((k, l, s), t') := by unfold restR; rw [h]; rfl
theorem restR_no {k s : Int} {t u : List UInt8} {l : List Int} (h : litsR t = some (l, u)) (hu : ∀ t', u ≠ 10 :: t') : restR k s t = none := by
  unfold restR; rw [h]
  split
  · rename_i heq; cases heq; exact absurd rfl (hu _)
  · rfl
theorem restR_none {k s : Int} {t : List UInt8} (h : litsR t = none) : restR k s t = none := by unfold restR; rw [h]
theorem stepR_kind {s : ByteArray} {k : Nat} {K : Int} (hK : kindAt s k = K) (h0 : K ≠ 0) (h4 : K ≠ 4) (hk : k < s.size) : stepR (rest s k) = restR K 0 (rest s (k + 1)) := by
  unfold kindAt at hK
  rw [rest_at hk] at hK ⊢
  simp only at hK
  simp only [stepR, hK, if_neg h0, if_neg h4]
theorem stepR_zero {s : ByteArray} {k : Nat} (hK : kindAt s k = 0) (hk : k < s.size) : stepR (rest s k) = none := by
  unfold kindAt at hK
  rw [rest_at hk] at hK ⊢
  simp only at hK
  simp only [stepR, hK, if_true]
theorem stepR_four_none {s : ByteArray} {k : Nat} (hK : kindAt s k = 4) (hk : k < s.size) (h : numR (rest s (k + 1)) = none) : stepR (rest s k) = none := by
  unfold kindAt at hK
  rw [rest_at hk] at hK ⊢
  simp only at hK
  simp only [stepR, hK, if_true, if_neg (show ¬ (4 : Int) = 0 by omega), h]
theorem stepR_four_some {s : ByteArray} {k : Nat} {x : Int} {u : List UInt8} (hK : kindAt s k = 4) (hk : k < s.size) (h : numR (rest s (k + 1)) = some (x, u)) : stepR (rest s k) = restR 4 x u := by
  unfold kindAt at hK
  rw [rest_at hk] at hK ⊢
  simp only at hK
  simp only [stepR, hK, if_true, if_neg (show ¬ (4 : Int) = 0 by omega), h]
theorem litsR_go {t u t' : List UInt8} {m : List Int} {x : Int} (h : litsR t = (litsR u).map fun q => (m ++ q.1, q.2)) (hr : numR u = some (x, t')) (hx : x ≠ 0) : litsR t = (litsR t').map fun q => ((m ++ [x]) ++ q.1, q.2) := by
  rw [h, litsR_more hr hx]
  cases litsR t' <;> simp
theorem litsR_stop {t u t' : List UInt8} {m : List Int} (h : litsR t = (litsR u).map fun q => (m ++ q.1, q.2)) (hr : numR u = some (0, t')) : litsR t = some (m, t') := by
  rw [h, litsR_zero hr]; simp
theorem litsR_fail {t u : List UInt8} {m : List Int} (h : litsR t = (litsR u).map fun q => (m ++ q.1, q.2)) (hr : numR u = none) : litsR t = none := by
  rw [h, litsR_none hr]; rfl

theorem grown_store {w wr : World} {g p : Nat} {v : Value} {r : Option Nat} (h : w.grownBy wr r) (hg : w.heap.size ≤ g) : w.grownBy (wr.setCell ⟨g, p, none⟩ v) r := by
  have hs := grown_set wr g p v
  refine ⟨hs.os.trans h.os, hs.tape.trans h.tape, hs.output.trans h.output, Nat.le_trans h.size hs.size, fun k hk hr => ?_⟩
  rw [hs.block k (Nat.lt_of_lt_of_le hk h.size) (by intro e; injection e with e; omega), h.block k hk hr]
/-- What Decode answers. -/
def DecP (w : World) (r : Option (List St)) (e : Ending) (w' : World) : Prop :=
  w.grownBy w' none ∧ match r with
    | none => e = .returned (.tuple #[.slice none 0 0, .int .i64 340])
    | some L => ∃ a c, e = .returned (.tuple #[.slice a L.length c, .int .i64 0]) ∧ Steps w' a c L
theorem DecP.no {w w' : World} {r : Option (List St)} (hr : r = none) (hg : w.grownBy w' none) : DecP w r (.returned (.tuple #[.slice none 0 0, .int .i64 340])) w' := by
  subst hr; exact ⟨hg, rfl⟩
theorem dec_fail {t u : List UInt8} {L : List St} (h : dec t = (dec u).map fun m => L ++ m) (hu : u ≠ []) (hs : stepR u = none) : dec t = none := by
  rw [h, dec_none hu hs]; rfl
theorem dec_go {t u u' : List UInt8} {L : List St} {x : St} (h : dec t = (dec u).map fun m => L ++ m) (hs : stepR u = some (x, u')) : dec t = (dec u').map fun m => (L ++ [x]) ++ m := by
  rw [h, dec_more hs]
  cases dec u' <;> simp

set_option maxRecDepth 100000 in
set_option maxHeartbeats 8000000 in
theorem decode_calls (s : ByteArray) (w : World) (hs : s.size ≤ 2000000) :
    Calls Tryd.prog 13 #[.string s] w (DecP w (dec s.data.toList)) := by
  have HS := Lib.hid hs
  have d0 : decide (2000000 < s.size) = false := by simp; omega
  have d0' : decide (2000000 < (s.size : Int)) = false := by simp; omega
  obtain ⟨i0, hi0, hz0, hz1, hz2⟩ := info_parts info3
  obtain ⟨j0, hj0, hy0, hy1, hy2⟩ := info_parts info43
  go_enter Tryd.func13, Tryd.ntmps13
  go_wp2_with fail
  obtain ⟨bs, hbs⟩ : ∃ bs, w.heap.size = bs := ⟨_, rfl⟩
  have hsc0 : Scan (w.alloc (.cells #[.string s, .int .i64 0] 48)) bs s 0 := by
    rw [← hbs]; clear hbs; exact ⟨by go_simp, by go_simp, by go_simp⟩
  have hg0 := World.grownBy_alloc w (.cells #[.string s, .int .i64 0] 48) none
  obtain ⟨W0, hW0⟩ : ∃ W0, w.alloc (.cells #[.string s, .int .i64 0] 48) = W0 := ⟨_, rfl⟩
  rw [hW0] at hsc0 hg0 ⊢
  rw [hbs]
  have HW := Lib.hid (And.intro hsc0 (And.intro hg0 hbs)); clear hsc0 hg0 hW0 hbs
  go_loopg [6] s.size (fun g s6 wr => ∃ (k : Nat) (v : Value) (D : List Dt), s6 = v ∧ g = s.size - k ∧ k ≤ s.size ∧ Out wr (bs + 1) v D ∧ Scan wr bs s k ∧ dec s.data.toList = (dec (rest s k)).map (fun m => D.map (·.1) ++ m) ∧ D.length ≤ k ∧ w.grownBy wr none)
  case atStart => exact ⟨0, _, [], rfl, rfl, Nat.zero_le _, Out.start _ _, HW.out.1, by simp [rest], Nat.zero_le _, HW.out.2.1⟩
  case round =>
    obtain ⟨wo, rfl⟩ : ∃ wo, wo = wr := ⟨_, rfl⟩
    obtain ⟨k, v, D, rfl, hgk, hk, hout, hsc, hdec, hDk, hgr⟩ := hrel
    have HO := Lib.hid (And.intro hout (And.intro hsc (And.intro hdec (And.intro hgr hgk)))); clear hdec hgr hgk
    obtain ⟨va, vc, rfl⟩ := own_shape hout.own
    clear hout
    obtain ⟨q, hq⟩ : ∃ q, D.length = q := ⟨_, rfl⟩
    rw [hq] at hDk ⊢
    have HQ := Lib.hid hq; clear hq
    obtain ⟨c0, c1, fr⟩ := hsc
    by_cases hin : k < s.size
    · have hinB : decide (k < s.size) = true := by simpa using hin
      have HNE : Hid (rest s k ≠ []) := Lib.hid (by rw [rest_at hin]; simp)
      go_wp2_with fail
      refine (kind_calls bs k s wo HS.out hk HO.out.2.1).mono ?_
      rintro e w1 ⟨rfl, hsc1, hg1⟩
      clear c0 c1 fr
      obtain ⟨K, hK⟩ : ∃ K, kindAt s k = K := ⟨_, rfl⟩
      rw [hK] at hsc1 ⊢
      have HK := Lib.hid (And.intro hK (And.intro hsc1 hg1)); clear hK hsc1 hg1
      have hbs1 := World.block_lt_of_cell? _ _ HK.out.2.1.c0
      simp only at hbs1
      by_cases hK0 : K = 0
      · subst hK0
        have HFAIL : Hid (dec s.data.toList = none) := Lib.hid (dec_fail HO.out.2.2.1 HNE.out (stepR_zero HK.out.1 hin))
        have HG : Hid (w.grownBy (w1.alloc (.cells #[.int .i64 0, .slice none 0 0, .int .i64 0] 43)) none) := Lib.hid ((grown_own HO.out.2.2.2.1 HK.out.2.2 (fun x hx => by cases hx; exact Nat.le_of_eq HW.out.2.2)).trans (World.grownBy_alloc _ _ none))
        go_wp2_with fail
        go_loopg [8] 0 (fun g s8 wr => s8 = .bool false ∧ wr = w1.alloc (.cells #[.int .i64 0, .slice none 0 0, .int .i64 0] 43))
        case atStart => exact ⟨rfl, rfl⟩
        case round =>
          obtain ⟨rfl, rfl⟩ := hrel
          go_wp2_with fail
          go_ret2
          exact DecP.no HFAIL.out HG.out
      have k0 : (K != 0) = true := by simpa using hK0
      have hmd := Made.start w1 K 0
      obtain ⟨g7, hg7⟩ : ∃ g7, w1.heap.size = g7 := ⟨_, rfl⟩
      rw [hg7] at hmd hbs1
      have HG7 := Lib.hid hg7; clear hg7
      have hgw : wo.grownBy (w1.alloc (.cells #[.int .i64 K, .slice none 0 0, .int .i64 0] 43)) (some bs) := HK.out.2.2.trans (World.grownBy_alloc _ _ _)
      have hsc2 := HK.out.2.1.grown (World.grownBy_alloc w1 (.cells #[.int .i64 K, .slice none 0 0, .int .i64 0] 43) none) (by simp)
      by_cases hK4 : K = 4
      · have k4 : (K == 4) = true := by simpa using hK4
        have HK4 := Lib.hid hK4
        have hsc2' : Scan (w1.alloc (.cells #[.int .i64 K, .slice none 0 0, .int .i64 0] 43)) bs s (k + 1) := by have := hsc2; rw [stepped, if_neg hK0] at this; exact this
        have HMD0 := Lib.hid (And.intro hmd (And.intro hgw hsc2')); clear hmd hgw hsc2 hsc2' hK0 hK4
        go_wp2_with fail
        rw [HG7.out]
        refine (number_calls bs (k + 1) s _ HS.out hin HMD0.out.2.2).mono ?_
        rintro e w2 ⟨hg2, hp⟩
        have HG2 := Lib.hid (HMD0.out.2.1.trans hg2)
        have hmd2 := HMD0.out.1.off hg2 (fun x hx => by cases hx; exact hbs1)
        have HM2 := Lib.hid hmd2
        obtain ⟨e0, e1, e2, ef, ef2, eown⟩ := hmd2
        clear eown hg2
        obtain ⟨R, hR⟩ : ∃ R, numR (rest s (k + 1)) = R := ⟨_, rfl⟩
        rw [hR] at hp
        have HR := Lib.hid hR; clear hR
        have hlt7 : wo.heap.size ≤ g7 := by have := HK.out.2.2.size; have := HG7.out; omega
        cases R with
        | none =>
          obtain rfl : e = _ := hp
          have HFAIL : Hid (dec s.data.toList = none) := Lib.hid (dec_fail HO.out.2.2.1 HNE.out (stepR_four_none (by rw [HK.out.1]; exact HK4.out) hin HR.out))
          have HG : Hid (w.grownBy (w2.setCell ⟨g7, 2, none⟩ (.int .i64 0)) none) := Lib.hid (grown_own (grown_own HO.out.2.2.2.1 HG2.out (fun x hx => by cases hx; exact Nat.le_of_eq HW.out.2.2)) (grown_set _ _ _ _) (fun x hx => by cases hx; have := HO.out.2.2.2.1.size; omega))
          go_wp2_with fail
          go_loopg [8] 0 (fun g s8 wr => s8 = .bool false ∧ wr = w2.setCell ⟨g7, 2, none⟩ (.int .i64 0))
          case atStart => exact ⟨rfl, rfl⟩
          case round =>
            obtain ⟨rfl, rfl⟩ := hrel
            go_wp2_with fail
            go_ret2
            exact DecP.no HFAIL.out HG.out
        | some r =>
          obtain ⟨S, t0⟩ := r
          obtain ⟨rfl, k0', hk2, hrest, hsc2⟩ := hp
          have HSR : Hid (stepR (rest s k) = restR K S (rest s k0')) := Lib.hid (by rw [hrest, HK4.out]; exact stepR_four_some (by rw [HK.out.1]; exact HK4.out) hin HR.out)
          have hk0s : k0' ≤ s.size ∧ k < k0' := by
            have h1 := numR_shorter HR.out
            rw [← hrest, rest_length, rest_length] at h1
            omega
          have HMD : Hid (Made (w2.setCell ⟨g7, 2, none⟩ (.int .i64 S)) g7 K S [] (.slice none 0 0) ∧ wo.grownBy (w2.setCell ⟨g7, 2, none⟩ (.int .i64 S)) (some bs) ∧ Scan (w2.setCell ⟨g7, 2, none⟩ (.int .i64 S)) bs s k0') := Lib.hid
            ⟨HM2.out.sym S, grown_store HG2.out hlt7, hsc2.grown (grown_set _ _ _ _) (by intro e; injection e with e; omega)⟩
          clear HR HM2 HG2 HMD0 hsc2 hrest hk2 hlt7
          go_wp2_with fail
          obtain ⟨W1, hW1⟩ : ∃ W1, w2.setCell ⟨g7, 2, none⟩ (.int .i64 S) = W1 := ⟨_, rfl⟩
          rw [hW1] at HMD ⊢
          clear hW1 e0 e1 e2 ef ef2
          go_loopg [8] (s.size - k0') (fun g s8 wr => ∃ (k1 : Nat) (lv : Value) (m : List Int), s8 = .bool true ∧ g = s.size - k1 ∧ k1 ≤ s.size ∧ k0' ≤ k1 ∧ Scan wr bs s k1 ∧ Made wr g7 K S m lv ∧ litsR (rest s k0') = (litsR (rest s k1)).map (fun q => (m ++ q.1, q.2)) ∧ m.length ≤ k1 ∧ wo.grownBy wr (some bs))
          case atStart => exact ⟨k0', _, [], rfl, rfl, hk0s.1, Nat.le_refl _, HMD.out.2.2, HMD.out.1, by simp, Nat.zero_le _, HMD.out.2.1⟩
          case round =>
            obtain ⟨k1, lv, m, rfl, hgj, hk1, hk01, hsc1, hmd1, hlits, hml, hgr1⟩ := hrel
            have HJ := Lib.hid (And.intro hgj (And.intro hsc1 (And.intro hmd1 (And.intro hlits hgr1)))); clear hgj hsc1 hlits hgr1
            obtain ⟨e0, e1, e2, ef, -, eown⟩ := hmd1
            obtain ⟨ga, gc, rfl⟩ := own_shape eown
            clear e0 e1 e2 ef eown
            go_wp2_with fail
            refine (number_calls bs k1 s wr HS.out hk1 HJ.out.2.1).mono ?_
            rintro e w2 ⟨hg2, hp⟩
            have HG2 := Lib.hid (HJ.out.2.2.2.2.trans hg2)
            have hmd2 := HJ.out.2.2.1.off hg2 (fun x hx => by cases hx; exact hbs1)
            have HM2 := Lib.hid hmd2
            obtain ⟨e0, e1, e2, ef, -, eown⟩ := hmd2
            have HOW := Lib.hid eown; clear eown hg2
            obtain ⟨R, hR⟩ : ∃ R, numR (rest s k1) = R := ⟨_, rfl⟩
            rw [hR] at hp
            have HR := Lib.hid hR; clear hR
            cases R with
            | none =>
              obtain rfl : e = _ := hp
              have HFAIL : Hid (dec s.data.toList = none) := Lib.hid (dec_fail HO.out.2.2.1 HNE.out (by rw [HSR.out]; exact restR_none (litsR_fail HJ.out.2.2.2.1 HR.out)))
              go_wp2_with fail
              go_ret2
              exact DecP.no HFAIL.out (grown_own HO.out.2.2.2.1 HG2.out (fun x hx => by cases hx; exact Nat.le_of_eq HW.out.2.2))
            | some r =>
              obtain ⟨x, t'⟩ := r
              obtain ⟨rfl, k2, hk2, hrest, hsc2⟩ := hp
              have HSC2 := Lib.hid (And.intro hsc2 hrest); clear hsc2 hrest
              by_cases hx0 : x = 0
              · subst hx0
                have HLS := Lib.hid (litsR_stop HJ.out.2.2.2.1 HR.out)
                go_wp2_with fail
                refine (take_calls bs k2 s 10 10 rfl w2 HS.out hk2 HSC2.out.1).mono ?_
                rintro e w3 ⟨rfl, hsc3, hg3⟩
                have HG3 := Lib.hid (HG2.out.trans hg3)
                have hmd3 := HM2.out.off hg3 (fun x hx => by cases hx; exact hbs1)
                clear e0 e1 e2 ef
                have HM3 := Lib.hid hmd3
                obtain ⟨e0, e1, e2, ef, -, eown⟩ := hmd3
                have HOW3 := Lib.hid eown; clear eown hg3
                obtain ⟨B, hB⟩ : ∃ B, nextIs s k2 10 = B := ⟨_, rfl⟩
                rw [hB] at hsc3 ⊢
                have HB := Lib.hid (And.intro hB hsc3); clear hB hsc3
                cases B with
                | false =>
                  have HFAIL : Hid (dec s.data.toList = none) := Lib.hid (dec_fail HO.out.2.2.1 HNE.out (by rw [HSR.out]; exact restR_no HLS.out (by rw [← HSC2.out.2]; exact nextIs_not HB.out.1)))
                  go_wp2_with fail
                  go_ret2
                  exact DecP.no HFAIL.out (grown_own HO.out.2.2.2.1 HG3.out (fun x hx => by cases hx; exact Nat.le_of_eq HW.out.2.2))
                | true =>
                  have hk3 := nextIs_lt HB.out.1
                  have HST : Hid (stepR (rest s k) = some ((K, m, S), rest s (k2 + 1))) := Lib.hid (by
                    rw [HSR.out]
                    exact restR_line (by rw [HLS.out, ← HSC2.out.2, nextIs_cons HB.out.1]))
                  obtain ⟨ra, rc, hre, hri, hrb⟩ := own_ints HM3.out.own
                  cases hre
                  have HRI := Lib.hid (And.intro hri hrb); clear hri hrb
                  have HOQ := Lib.hid (HO.out.1.quiet HG3.out (fun x hx => by cases hx; omega))
                  have howno : Hid (w3.ownsRow (bs + 1) 43 3 (.slice va q vc) q (rowCells D)) := Lib.hid (by have := HOQ.out.own; rw [HQ.out] at this; exact this)
                  have hbw : bs + 1 ≤ w3.heap.size := by have := World.block_lt_of_cell? _ _ e0; simp only at this; omega
                  obtain ⟨p, hp⟩ : ∃ p, m.length = p := ⟨_, rfl⟩
                  have HP := Lib.hid hp
                  rw [hp] at e1
                  clear hp
                  go_wp2_with (at_builtin; refine wpList_append_own_at _ rfl _ _ 23 rfl (bs + 1) 43 j0 (.agg #[.int .i64 0, .slice none 0 0, .int .i64 0]) 3 40 Tryd.underlying23 hj0 hy0 hy1 hy2 rfl (by decide) _ _ _ rfl (howno.out.alloc _) ⟨w3.heap.size, 0, none⟩ 1 1 [.int .i64 K, .slice ga p gc, .int .i64 S] rfl rfl (cell_three_new _ _ _ _ _) (fun u hu => by simp at hu; rcases hu with rfl | rfl | rfl <;> rfl) (by unfold maxLen; omega) (by omega) (by simp; omega) ?_; intro v' w4 hown' hgrow4 _ hat4; obtain ⟨va', vc', rfl⟩ := own_shape hown')
                  go_roundg (s.size - (k2 + 1))
                  case measure =>
                    have h1 := numR_shorter HR.out
                    rw [← HSC2.out.2, rest_length, rest_length] at h1
                    rw [HO.out.2.2.2.2]; omega
                  case rel =>
                    have hown4 : w4.ownsRow (bs + 1) 43 3 (.slice va' (q + 1) vc') (D.length + 1) (rowCells D ++ stepCells ((K, m, S), ga, gc)) := by
                      rw [HQ.out]
                      simp only [stepCells, HP.out]
                      exact hown'
                    have hoff : ∀ x, ga = some x → (Value.slice va q vc).ownBlock ≠ some x.block ∧ bs + 1 ≤ x.block ∧ x.block < w3.heap.size := by
                      intro x hx
                      obtain ⟨h1, h2⟩ := HRI.out.2 x hx
                      refine ⟨fun e => ?_, by omega, h2⟩
                      have := (HO.out.1.own.lt x.block (by rw [HQ.out]; exact e)).2
                      have := HK.out.2.2.size
                      have := HG7.out
                      omega
                    have hpush := HOQ.out.push (x := (K, m, S)) (la := ga) (lc := gc) (o := .cells #[.int .i64 K, .slice ga p gc, .int .i64 S] 43) HRI.out.1 (by rw [HQ.out]; exact hoff) hown4 (by rw [HQ.out]; exact hgrow4) (by rw [HQ.out]; exact hat4)
                    have hnob : some bs ≠ (Value.slice va q vc).ownBlock := by intro e; have := (HO.out.1.own.lt bs (by rw [HQ.out]; exact e.symm)).1; omega
                    refine ⟨k2 + 1, .slice va' (q + 1) vc', D ++ [((K, m, S), ga, gc)], rfl, rfl, hk3, hpush, ?_, ?_, ?_, ?_⟩
                    · exact (HB.out.2.grown (World.grownBy_alloc _ _ none) (by simp)).grown hgrow4 hnob
                    · rw [List.map_append]; exact dec_go HO.out.2.2.1 HST.out
                    · rw [List.length_append, HQ.out]
                      have h1 := numR_shorter HR.out
                      rw [← HSC2.out.2, rest_length, rest_length] at h1
                      show q + 1 ≤ k2 + 1
                      omega
                    · refine grown_own ((grown_own HO.out.2.2.2.1 HG3.out (fun x hx => by cases hx; exact Nat.le_of_eq HW.out.2.2)).trans (World.grownBy_alloc _ _ none)) hgrow4 (fun x hx => ?_)
                      have := (howno.out.lt x hx).1
                      have := HW.out.2.2
                      omega
              · have dx : (x == 0) = false := by simpa using hx0
                have HGO := Lib.hid (litsR_go HJ.out.2.2.2.1 HR.out hx0); clear hx0
                have HLT : Hid (k1 < k2) := Lib.hid (by
                  have h1 := numR_shorter HR.out
                  rw [← HSC2.out.2, rest_length, rest_length] at h1
                  omega)
                have hltg := World.block_lt_of_cell? _ _ e0
                simp only at hltg
                obtain ⟨p, hp⟩ : ∃ p, m.length = p := ⟨_, rfl⟩
                have HP := Lib.hid hp
                rw [hp] at hml e1
                clear hp
                have HOW2 : Hid (w2.ownsRow (g7 + 1) 3 1 (.slice ga p gc) p (intCells m)) := Lib.hid (by have := HOW.out; rw [HP.out] at this; exact this)
                go_wp2_with (at_builtin; refine wpList_append_own _ rfl _ _ 41 rfl (g7 + 1) 3 i0 (.int .i64 0) 1 8 Tryd.underlying41 hi0 hz0 hz1 hz2 rfl (by decide) _ _ _ rfl (HOW2.out.alloc _) ⟨w2.heap.size, 0, none⟩ 1 1 [.int .i64 x] rfl rfl (cell_one_new _ _ _) (fun u hu => by simp at hu; subst hu; rfl) (by unfold maxLen; omega) (by omega) (by simp; omega) ?_; intro v' w3 hown' hgrow3 _; obtain ⟨va', vc', rfl⟩ := own_shape hown'; obtain ⟨f0, f1, f2, ff, -, -⟩ := HM2.out.at_ (by rw [HP.out]; exact hgrow3))
                go_roundg (s.size - k2)
                case measure => rw [HJ.out.1]; have := HLT.out; omega
                case rel =>
                  have hlt7 : wo.heap.size ≤ g7 := by have := HK.out.2.2.size; have := HG7.out; omega
                  have hbsn : some bs ≠ (Value.slice ga p gc).ownBlock := by intro e; have := (HOW2.out.lt bs e.symm).1; omega
                  refine ⟨k2, .slice va' (p + 1) vc', m ++ [x], rfl, rfl, hk2, by have := HLT.out; omega, ?_, HM2.out.step (by rw [HP.out]; exact hgrow3) (by rw [HP.out]; exact hown'), by rw [← HSC2.out.2] at HGO; exact HGO.out, by rw [List.length_append, HP.out]; have := HLT.out; simp; omega, ?_⟩
                  · exact ((HSC2.out.1.grown (World.grownBy_alloc _ _ none) (by simp)).grown hgrow3 hbsn).grown (grown_set _ _ _ _) (by intro e; injection e with e; omega)
                  · exact grown_step HG2.out hgrow3 (fun y hy => by have := (HOW2.out.lt y hy).1; omega) hlt7
      · have k4 : (K == 4) = false := by simpa using hK4
        have HSR : Hid (stepR (rest s k) = restR K 0 (rest s (k + 1))) := Lib.hid (stepR_kind HK.out.1 hK0 hK4 hin)
        have HMD : Hid (Made (w1.alloc (.cells #[.int .i64 K, .slice none 0 0, .int .i64 0] 43)) g7 K 0 [] (.slice none 0 0) ∧ wo.grownBy (w1.alloc (.cells #[.int .i64 K, .slice none 0 0, .int .i64 0] 43)) (some bs) ∧ Scan (w1.alloc (.cells #[.int .i64 K, .slice none 0 0, .int .i64 0] 43)) bs s (k + 1)) := Lib.hid ⟨hmd, hgw, by have := hsc2; rw [stepped, if_neg hK0] at this; exact this⟩
        clear hmd hgw hsc2 hK0 hK4
        go_wp2_with fail
        rw [HG7.out]
        obtain ⟨W1, hW1⟩ : ∃ W1, w1.alloc (.cells #[.int .i64 K, .slice none 0 0, .int .i64 0] 43) = W1 := ⟨_, rfl⟩
        rw [hW1] at HMD ⊢
        clear hW1
        obtain ⟨S, hS⟩ : ∃ S : Int, S = 0 := ⟨_, rfl⟩
        rw [← hS] at HMD HSR
        clear hS
        obtain ⟨k0', hk0'⟩ : ∃ k0', k + 1 = k0' := ⟨_, rfl⟩
        have hk0s : k0' ≤ s.size ∧ k < k0' := by omega
        rw [hk0'] at HMD HSR
        clear hk0'
        go_loopg [8] (s.size - k0') (fun g s8 wr => ∃ (k1 : Nat) (lv : Value) (m : List Int), s8 = .bool true ∧ g = s.size - k1 ∧ k1 ≤ s.size ∧ k0' ≤ k1 ∧ Scan wr bs s k1 ∧ Made wr g7 K S m lv ∧ litsR (rest s k0') = (litsR (rest s k1)).map (fun q => (m ++ q.1, q.2)) ∧ m.length ≤ k1 ∧ wo.grownBy wr (some bs))
        case atStart => exact ⟨k0', _, [], rfl, rfl, hk0s.1, Nat.le_refl _, HMD.out.2.2, HMD.out.1, by simp, Nat.zero_le _, HMD.out.2.1⟩
        case round =>
          obtain ⟨k1, lv, m, rfl, hgj, hk1, hk01, hsc1, hmd1, hlits, hml, hgr1⟩ := hrel
          have HJ := Lib.hid (And.intro hgj (And.intro hsc1 (And.intro hmd1 (And.intro hlits hgr1)))); clear hgj hsc1 hlits hgr1
          obtain ⟨e0, e1, e2, ef, -, eown⟩ := hmd1
          obtain ⟨ga, gc, rfl⟩ := own_shape eown
          clear e0 e1 e2 ef eown
          go_wp2_with fail
          refine (number_calls bs k1 s wr HS.out hk1 HJ.out.2.1).mono ?_
          rintro e w2 ⟨hg2, hp⟩
          have HG2 := Lib.hid (HJ.out.2.2.2.2.trans hg2)
          have hmd2 := HJ.out.2.2.1.off hg2 (fun x hx => by cases hx; exact hbs1)
          have HM2 := Lib.hid hmd2
          obtain ⟨e0, e1, e2, ef, -, eown⟩ := hmd2
          have HOW := Lib.hid eown; clear eown hg2
          obtain ⟨R, hR⟩ : ∃ R, numR (rest s k1) = R := ⟨_, rfl⟩
          rw [hR] at hp
          have HR := Lib.hid hR; clear hR
          cases R with
          | none =>
            obtain rfl : e = _ := hp
            have HFAIL : Hid (dec s.data.toList = none) := Lib.hid (dec_fail HO.out.2.2.1 HNE.out (by rw [HSR.out]; exact restR_none (litsR_fail HJ.out.2.2.2.1 HR.out)))
            go_wp2_with fail
            go_ret2
            exact DecP.no HFAIL.out (grown_own HO.out.2.2.2.1 HG2.out (fun x hx => by cases hx; exact Nat.le_of_eq HW.out.2.2))
          | some r =>
            obtain ⟨x, t'⟩ := r
            obtain ⟨rfl, k2, hk2, hrest, hsc2⟩ := hp
            have HSC2 := Lib.hid (And.intro hsc2 hrest); clear hsc2 hrest
            by_cases hx0 : x = 0
            · subst hx0
              have HLS := Lib.hid (litsR_stop HJ.out.2.2.2.1 HR.out)
              go_wp2_with fail
              refine (take_calls bs k2 s 10 10 rfl w2 HS.out hk2 HSC2.out.1).mono ?_
              rintro e w3 ⟨rfl, hsc3, hg3⟩
              have HG3 := Lib.hid (HG2.out.trans hg3)
              have hmd3 := HM2.out.off hg3 (fun x hx => by cases hx; exact hbs1)
              clear e0 e1 e2 ef
              have HM3 := Lib.hid hmd3
              obtain ⟨e0, e1, e2, ef, -, eown⟩ := hmd3
              have HOW3 := Lib.hid eown; clear eown hg3
              obtain ⟨B, hB⟩ : ∃ B, nextIs s k2 10 = B := ⟨_, rfl⟩
              rw [hB] at hsc3 ⊢
              have HB := Lib.hid (And.intro hB hsc3); clear hB hsc3
              cases B with
              | false =>
                have HFAIL : Hid (dec s.data.toList = none) := Lib.hid (dec_fail HO.out.2.2.1 HNE.out (by rw [HSR.out]; exact restR_no HLS.out (by rw [← HSC2.out.2]; exact nextIs_not HB.out.1)))
                go_wp2_with fail
                go_ret2
                exact DecP.no HFAIL.out (grown_own HO.out.2.2.2.1 HG3.out (fun x hx => by cases hx; exact Nat.le_of_eq HW.out.2.2))
              | true =>
                have hk3 := nextIs_lt HB.out.1
                have HST : Hid (stepR (rest s k) = some ((K, m, S), rest s (k2 + 1))) := Lib.hid (by
                  rw [HSR.out]
                  exact restR_line (by rw [HLS.out, ← HSC2.out.2, nextIs_cons HB.out.1]))
                obtain ⟨ra, rc, hre, hri, hrb⟩ := own_ints HM3.out.own
                cases hre
                have HRI := Lib.hid (And.intro hri hrb); clear hri hrb
                have HOQ := Lib.hid (HO.out.1.quiet HG3.out (fun x hx => by cases hx; omega))
                have howno : Hid (w3.ownsRow (bs + 1) 43 3 (.slice va q vc) q (rowCells D)) := Lib.hid (by have := HOQ.out.own; rw [HQ.out] at this; exact this)
                have hbw : bs + 1 ≤ w3.heap.size := by have := World.block_lt_of_cell? _ _ e0; simp only at this; omega
                obtain ⟨p, hp⟩ : ∃ p, m.length = p := ⟨_, rfl⟩
                have HP := Lib.hid hp
                rw [hp] at e1
                clear hp
                go_wp2_with (at_builtin; refine wpList_append_own_at _ rfl _ _ 23 rfl (bs + 1) 43 j0 (.agg #[.int .i64 0, .slice none 0 0, .int .i64 0]) 3 40 Tryd.underlying23 hj0 hy0 hy1 hy2 rfl (by decide) _ _ _ rfl (howno.out.alloc _) ⟨w3.heap.size, 0, none⟩ 1 1 [.int .i64 K, .slice ga p gc, .int .i64 S] rfl rfl (cell_three_new _ _ _ _ _) (fun u hu => by simp at hu; rcases hu with rfl | rfl | rfl <;> rfl) (by unfold maxLen; omega) (by omega) (by simp; omega) ?_; intro v' w4 hown' hgrow4 _ hat4; obtain ⟨va', vc', rfl⟩ := own_shape hown')
                go_roundg (s.size - (k2 + 1))
                case measure =>
                  have h1 := numR_shorter HR.out
                  rw [← HSC2.out.2, rest_length, rest_length] at h1
                  rw [HO.out.2.2.2.2]; omega
                case rel =>
                  have hown4 : w4.ownsRow (bs + 1) 43 3 (.slice va' (q + 1) vc') (D.length + 1) (rowCells D ++ stepCells ((K, m, S), ga, gc)) := by
                    rw [HQ.out]
                    simp only [stepCells, HP.out]
                    exact hown'
                  have hoff : ∀ x, ga = some x → (Value.slice va q vc).ownBlock ≠ some x.block ∧ bs + 1 ≤ x.block ∧ x.block < w3.heap.size := by
                    intro x hx
                    obtain ⟨h1, h2⟩ := HRI.out.2 x hx
                    refine ⟨fun e => ?_, by omega, h2⟩
                    have := (HO.out.1.own.lt x.block (by rw [HQ.out]; exact e)).2
                    have := HK.out.2.2.size
                    have := HG7.out
                    omega
                  have hpush := HOQ.out.push (x := (K, m, S)) (la := ga) (lc := gc) (o := .cells #[.int .i64 K, .slice ga p gc, .int .i64 S] 43) HRI.out.1 (by rw [HQ.out]; exact hoff) hown4 (by rw [HQ.out]; exact hgrow4) (by rw [HQ.out]; exact hat4)
                  have hnob : some bs ≠ (Value.slice va q vc).ownBlock := by intro e; have := (HO.out.1.own.lt bs (by rw [HQ.out]; exact e.symm)).1; omega
                  refine ⟨k2 + 1, .slice va' (q + 1) vc', D ++ [((K, m, S), ga, gc)], rfl, rfl, hk3, hpush, ?_, ?_, ?_, ?_⟩
                  · exact (HB.out.2.grown (World.grownBy_alloc _ _ none) (by simp)).grown hgrow4 hnob
                  · rw [List.map_append]; exact dec_go HO.out.2.2.1 HST.out
                  · rw [List.length_append, HQ.out]
                    have h1 := numR_shorter HR.out
                    rw [← HSC2.out.2, rest_length, rest_length] at h1
                    show q + 1 ≤ k2 + 1
                    omega
                  · refine grown_own ((grown_own HO.out.2.2.2.1 HG3.out (fun x hx => by cases hx; exact Nat.le_of_eq HW.out.2.2)).trans (World.grownBy_alloc _ _ none)) hgrow4 (fun x hx => ?_)
                    have := (howno.out.lt x hx).1
                    have := HW.out.2.2
                    omega
            · have dx : (x == 0) = false := by simpa using hx0
              have HGO := Lib.hid (litsR_go HJ.out.2.2.2.1 HR.out hx0); clear hx0
              have HLT : Hid (k1 < k2) := Lib.hid (by
                have h1 := numR_shorter HR.out
                rw [← HSC2.out.2, rest_length, rest_length] at h1
                omega)
              have hltg := World.block_lt_of_cell? _ _ e0
              simp only at hltg
              obtain ⟨p, hp⟩ : ∃ p, m.length = p := ⟨_, rfl⟩
              have HP := Lib.hid hp
              rw [hp] at hml e1
              clear hp
              have HOW2 : Hid (w2.ownsRow (g7 + 1) 3 1 (.slice ga p gc) p (intCells m)) := Lib.hid (by have := HOW.out; rw [HP.out] at this; exact this)
              go_wp2_with (at_builtin; refine wpList_append_own _ rfl _ _ 41 rfl (g7 + 1) 3 i0 (.int .i64 0) 1 8 Tryd.underlying41 hi0 hz0 hz1 hz2 rfl (by decide) _ _ _ rfl (HOW2.out.alloc _) ⟨w2.heap.size, 0, none⟩ 1 1 [.int .i64 x] rfl rfl (cell_one_new _ _ _) (fun u hu => by simp at hu; subst hu; rfl) (by unfold maxLen; omega) (by omega) (by simp; omega) ?_; intro v' w3 hown' hgrow3 _; obtain ⟨va', vc', rfl⟩ := own_shape hown'; obtain ⟨f0, f1, f2, ff, -, -⟩ := HM2.out.at_ (by rw [HP.out]; exact hgrow3))
              go_roundg (s.size - k2)
              case measure => rw [HJ.out.1]; have := HLT.out; omega
              case rel =>
                have hlt7 : wo.heap.size ≤ g7 := by have := HK.out.2.2.size; have := HG7.out; omega
                have hbsn : some bs ≠ (Value.slice ga p gc).ownBlock := by intro e; have := (HOW2.out.lt bs e.symm).1; omega
                refine ⟨k2, .slice va' (p + 1) vc', m ++ [x], rfl, rfl, hk2, by have := HLT.out; omega, ?_, HM2.out.step (by rw [HP.out]; exact hgrow3) (by rw [HP.out]; exact hown'), by rw [← HSC2.out.2] at HGO; exact HGO.out, by rw [List.length_append, HP.out]; have := HLT.out; simp; omega, ?_⟩
                · exact ((HSC2.out.1.grown (World.grownBy_alloc _ _ none) (by simp)).grown hgrow3 hbsn).grown (grown_set _ _ _ _) (by intro e; injection e with e; omega)
                · exact grown_step HG2.out hgrow3 (fun y hy => by have := (HOW2.out.lt y hy).1; omega) hlt7
    · have hie : k = s.size := by omega
      subst hie
      have hinB : decide (s.size < s.size) = false := by simp
      have HF : Hid (dec s.data.toList = some (D.map (·.1))) := Lib.hid (by rw [HO.out.2.2.1, rest_end (by omega), dec_nil]; simp)
      obtain ⟨ra, rc, hre, hst⟩ := HO.out.1.steps
      rw [List.length_map, HQ.out] at hre
      cases hre
      have HST := Lib.hid hst; clear hst
      go_wp2_with fail
      go_ret2
      exact ⟨HO.out.2.2.2.1, by rw [HF.out]; exact ⟨_, _, by rw [List.length_map, HQ.out]; rfl, HST.out⟩⟩
end Go.Proofs.YtgeidnfigncepaaDoor
