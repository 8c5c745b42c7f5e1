/- The law on the reference. -/
import Derived.Test.YthkemajekkilmaaGA10
import Derived.Test.YthkemajekkilmaaGA13
namespace Go.Proofs.Ythkemajekkilmaa
open Go.RowKit
theorem prC_at {w : World} {B : Nat} {a : Option Addr} {c n : Nat} {l : List (Int × Int)} (h : w.ownsRow B 34 2 (.slice a n c) n (prC l)) {k : Nat} {p : Int × Int} (hp : l[k]? = some p) (hk : k < n) : ∃ b, a = some ⟨b, 0, none⟩ ∧ w.cell? ⟨b, k * 2, none⟩ = some (.int .i64 p.1) ∧ w.cell? ⟨b, k * 2 + 1, none⟩ = some (.int .i64 p.2) := by
  have hx : ∀ (l : List (Int × Int)) (k : Nat) (p : Int × Int), l[k]? = some p → (prC l)[k * 2]? = some (.int .i64 p.1) ∧ (prC l)[k * 2 + 1]? = some (.int .i64 p.2) := by
    intro l
    induction l with
    | nil => intro k p h; simp at h
    | cons q l ih =>
      intro k p h
      match k, h with
      | 0, h =>
        simp at h
        subst h
        exact ⟨rfl, rfl⟩
      | k + 1, h =>
        simp at h
        obtain ⟨h1, h2⟩ := ih k p h
        have e : prC (q :: l) = [Value.int .i64 q.1, Value.int .i64 q.2] ++ prC l := rfl
        rw [e, List.getElem?_append_right (by simp; omega), List.getElem?_append_right (by simp; omega)]
        simp only [List.length_cons, List.length_nil]
        rw [show (k + 1) * 2 - (0 + 1 + 1) = k * 2 from by omega, show (k + 1) * 2 + 1 - (0 + 1 + 1) = k * 2 + 1 from by omega]
        exact ⟨h1, h2⟩
  obtain ⟨h1, h2⟩ := hx l k p hp
  rcases h.2 with ⟨_, h0⟩ | ⟨g, cap, cur, e, _⟩
  · omega
  · injection e with e1 _ e3
    subst e1 e3
    exact ⟨g, rfl, (World.ownsRow.cellAt h (k * 2) (by omega)).trans h1, (World.ownsRow.cellAt h (k * 2 + 1) (by omega)).trans h2⟩
set_option maxHeartbeats 16000000 in
set_option maxRecDepth 100000 in
theorem matches_calls (V : Int) (C : List (List Int)) (ca : Option Addr) (cc : Nat) (A : List Int) (aa : Option Addr) (ac : Nat) (B : List Int) (ba : Option Addr) (bc : Nat) (w : World) (h : ClsW w ca cc C) (hA : IntsW w aa ac A) (hB : IntsW w ba bc B) :
    Calls Try.prog 3 #[.agg #[.int .i64 V, .slice ca C.length cc], .slice aa A.length ac, .slice ba B.length bc] w fun e w' => e = .returned (.bool true) ∧ w.grownBy w' none := by
  obtain ⟨cn, hcn⟩ : ∃ n, C.length = n := ⟨_, rfl⟩
  obtain ⟨an, hAn⟩ : ∃ n, A.length = n := ⟨_, rfl⟩
  obtain ⟨bn, hBn⟩ : ∃ n, B.length = n := ⟨_, rfl⟩
  obtain ⟨W1, hW1⟩ : ∃ z, w.alloc (.cells #[.int .i64 V, .slice ca cn cc] 24) = z := ⟨_, rfl⟩
  obtain ⟨q0, q1, hg1⟩ := box_at w _ _ hW1
  obtain ⟨bf, hbf⟩ : ∃ z, w.heap.size = z := ⟨_, rfl⟩
  rw [hbf] at q0 q1
  have HC := Lib.hid (And.intro (h.grown hg1) hcn)
  have HA := Lib.hid (And.intro (hA.grown hg1) hAn)
  have HB := Lib.hid (And.intro (hB.grown hg1) hBn)
  have HG1 := Lib.hid hg1
  have HQ := Lib.hid (And.intro q0 q1)
  rw [hcn, hAn, hBn]
  clear h hcn hg1 q0 q1 hA hAn hB hBn
  go_enter Try.func3, Try.ntmps3
  go_wp2_with fail
  clear hW1
  refine (head_calls _).mono ?_
  rintro e w2 ⟨rfl, hg2⟩
  have q0 := hg2.cell HQ.out.1 (by simp)
  have q1 := hg2.cell HQ.out.2 (by simp)
  have G2 := Lib.hid hg2
  clear hg2
  have HS := small_calls V C ca cc w2 (HC.out.1.grown G2.out)
  rw [HC.out.2] at HS
  replace HS := Lib.hid HS
  go_wp2_with fail
  refine HS.out.mono ?_
  rintro e w3 ⟨rfl, hg⟩
  replace q0 := hg.cell q0 (by simp)
  replace q1 := hg.cell q1 (by simp)
  have G3 := Lib.hid (World.grownBy.trans G2.out hg)
  clear hg HS
  obtain ⟨sb, hsb⟩ : ∃ z, smallB V C = z := ⟨_, rfl⟩
  rw [hsb]
  cases sb
  case false =>
    go_wp2_with fail
    go_ret
    exact ⟨rfl, World.grownBy.trans HG1.out G3.out⟩
  obtain ⟨v, rfl, hv, hC40, hC12, hR⟩ := small_true hsb
  have HSM := Lib.hid (And.intro hC40 (And.intro hC12 hR))
  have hcn40 : cn ≤ 40 := by rw [← HC.out.2]; exact hC40
  clear hC40 hC12 hR hsb
  have HF := fits_calls (v : Int) ca cn cc A aa ac w3 (HA.out.1.grown G3.out) (by omega)
  rw [HA.out.2] at HF
  replace HF := Lib.hid HF
  go_wp2_with fail
  refine HF.out.mono ?_
  rintro e w4 ⟨rfl, hg⟩
  replace q0 := hg.cell q0 (by simp)
  replace q1 := hg.cell q1 (by simp)
  have G4 := Lib.hid (World.grownBy.trans G3.out hg)
  clear hg HF
  obtain ⟨fb, hfb⟩ : ∃ z, fitsB (v : Int) A = z := ⟨_, rfl⟩
  rw [hfb]
  cases fb
  case false =>
    go_wp2_with fail
    go_ret
    exact ⟨rfl, World.grownBy.trans HG1.out G4.out⟩
  have FA := Lib.hid (fits_true hfb)
  have an12 : an ≤ 12 := by rw [← HA.out.2]; exact FA.out.1
  clear hfb
  have HF := fits_calls (v : Int) ca cn cc B ba bc w4 (HB.out.1.grown G4.out) (by omega)
  rw [HB.out.2] at HF
  replace HF := Lib.hid HF
  go_wp2_with fail
  refine HF.out.mono ?_
  rintro e w5 ⟨rfl, hg⟩
  replace q0 := hg.cell q0 (by simp)
  replace q1 := hg.cell q1 (by simp)
  have G5 := Lib.hid (World.grownBy.trans G4.out hg)
  clear hg HF
  obtain ⟨fb, hfb⟩ : ∃ z, fitsB (v : Int) B = z := ⟨_, rfl⟩
  rw [hfb]
  cases fb
  case false =>
    go_wp2_with fail
    go_ret
    exact ⟨rfl, World.grownBy.trans HG1.out G5.out⟩
  have FB := Lib.hid (fits_true hfb)
  have bn12 : bn ≤ 12 := by rw [← HB.out.2]; exact FB.out.1
  clear hfb
  have HP := propagate_calls v C ca cc A aa ac w5 (HC.out.1.grown G5.out) (by omega) (by have := HSM.out.1; omega) (fun c hc => by have := HSM.out.2.1 c hc; omega) HSM.out.2.2 (HA.out.1.grown G5.out) (by have := FA.out.1; omega) FA.out.2
  rw [HC.out.2, HA.out.2] at HP
  replace HP := Lib.hid HP
  go_wp2_with fail
  refine HP.out.mono ?_
  rintro e w6 ⟨la, lc, rfl, hl, hg⟩
  replace q0 := hg.cell q0 (by simp)
  replace q1 := hg.cell q1 (by simp)
  have G6 := Lib.hid (World.grownBy.trans G5.out hg)
  have Hl := Lib.hid hl
  clear hg HP hl
  obtain ⟨ln, hln⟩ : ∃ z, (impP v C A).length = z := ⟨_, rfl⟩
  obtain ⟨kf, hkf⟩ : ∃ z, cfP v C A = z := ⟨_, rfl⟩
  rw [hln, hkf]
  have HLN := Lib.hid (And.intro hln hkf)
  have hlv : ln ≤ v := by rw [← hln]; exact imp_le HSM.out.2.2 A
  clear hln hkf
  have HP := refPropagate_calls v C ca cc A aa ac w6 (HC.out.1.grown G6.out) (HA.out.1.grown G6.out) (by omega) (by have := HSM.out.1; omega) (fun c hc => by have := HSM.out.2.1 c hc; omega) HSM.out.2.2 (by have := FA.out.1; omega) FA.out.2
  rw [HC.out.2, HA.out.2, HLN.out.1, HLN.out.2] at HP
  replace HP := Lib.hid HP
  go_wp2_with fail
  refine HP.out.mono ?_
  rintro e w7 ⟨ma, mc, rfl, hm, hg⟩
  replace q0 := hg.cell q0 (by simp)
  replace q1 := hg.cell q1 (by simp)
  have G7 := Lib.hid (World.grownBy.trans G6.out hg)
  have Hm := Lib.hid hm
  have H67 := Lib.hid hg
  clear hg HP hm
  obtain ⟨rn, hrn⟩ : ∃ z, (reasP v C A).length = z := ⟨_, rfl⟩
  have hrv : rn ≤ ln := by rw [← hrn, ← HLN.out.1]; unfold reasP; rw [List.length_zip]; exact Nat.min_le_left _ _
  have HRN := Lib.hid hrn
  clear hrn
  have HP := reasons_calls v C ca cc A aa ac w7 (HC.out.1.grown G7.out) (by omega) (by have := HSM.out.1; omega) (fun c hc => by have := HSM.out.2.1 c hc; omega) HSM.out.2.2 (HA.out.1.grown G7.out) (by have := FA.out.1; omega) FA.out.2 (by rw [HLN.out.1]; omega)
  rw [HC.out.2, HA.out.2, HRN.out] at HP
  replace HP := Lib.hid HP
  go_wp2_with fail
  refine HP.out.mono ?_
  rintro e w8 ⟨ra, rc, rfl, hr, hg⟩
  replace q0 := hg.cell q0 (by simp)
  replace q1 := hg.cell q1 (by simp)
  have G8 := Lib.hid (World.grownBy.trans G7.out hg)
  have Hr := Lib.hid hr
  have H78 := Lib.hid hg
  clear hg HP hr
  have HP := refReasons_calls v C ca cc A aa ac w8 (HC.out.1.grown G8.out) (HA.out.1.grown G8.out) (by omega) (by have := HSM.out.1; omega) (fun c hc => by have := HSM.out.2.1 c hc; omega) HSM.out.2.2 (by have := FA.out.1; omega) FA.out.2
  rw [HC.out.2, HA.out.2, HRN.out] at HP
  replace HP := Lib.hid HP
  go_wp2_with fail
  refine HP.out.mono ?_
  rintro e w9 ⟨sa, sc, rfl, hs, hg⟩
  replace q0 := hg.cell q0 (by simp)
  replace q1 := hg.cell q1 (by simp)
  have G9 := Lib.hid (World.grownBy.trans G8.out hg)
  have Hs := Lib.hid hs
  have H89 := Lib.hid hg
  clear hg HP hs
  have hii := ints_calls (impP v C A) (impP v C A) la ma lc mc w9 ((Hl.out.grown H67.out).grown (World.grownBy.trans H78.out H89.out)) (Hm.out.grown (World.grownBy.trans H78.out H89.out)) (by rw [HLN.out.1]; omega) (by rw [HLN.out.1]; omega)
  rw [HLN.out.1, decide_eq_true rfl] at hii
  have HII := Lib.hid hii
  clear hii
  go_wp2_with fail
  refine HII.out.mono ?_
  rintro e w10 ⟨rfl, qd, hqd⟩
  have hg10 : w9.grownBy w10 none := by rw [hqd]; exact grown_drewN _ _ _
  replace q0 := hg10.cell q0 (by simp)
  replace q1 := hg10.cell q1 (by simp)
  have HQ10 := Lib.hid (And.intro q0 q1)
  have G10 := Lib.hid (World.grownBy.trans G9.out hg10)
  have HR10 := Lib.hid (And.intro (own_grown (own_grown Hr.out H89.out) hg10) (own_grown Hs.out hg10))
  clear hqd hg10 HII q0 q1
  have heq := eq34
  go_wp2_with fail
  go_loopg [14] rn (fun gk s14 wr => ∃ k : Nat, s14 = .int .i64 (k : Int) ∧ gk = rn - k ∧ k ≤ rn ∧ w10.grownBy wr none)
  case atStart => exact ⟨0, rfl, rfl, by omega, grown_refl _ _⟩
  case round =>
    obtain ⟨k, rfl, hgk, hk, hg⟩ := hrel
    have HI := Lib.hid (And.intro hgk hg)
    clear hgk hg
    by_cases hkn : k < rn
    · have f1 : decide ((k : Int) < (rn : Int)) = true := decide_eq_true (by omega)
      have f1' : decide (k < rn) = true := decide_eq_true hkn
      have i0 : (0 : Int) ≤ (k : Int) := by omega
      have i1 : (k : Int) < (rn : Int) := by omega
      have k1 : IntKind.i64.wrap ((k : Int) + 1) = (k : Int) + 1 := IntWalk.i64_in _ (by omega)
      obtain ⟨⟨x, i⟩, hx⟩ : ∃ p, (reasP v C A)[k]? = some p := ⟨_, List.getElem?_eq_getElem (by rw [HRN.out]; exact hkn)⟩
      obtain ⟨b1, e1, c1, c1'⟩ := prC_at (own_grown HR10.out.1 HI.out.2) hx hkn
      obtain ⟨b2, e2, c2, c2'⟩ := prC_at (own_grown HR10.out.2 HI.out.2) hx hkn
      subst e1 e2
      dsimp only at c1 c1' c2 c2'
      clear hx
      go_wp2_with fail
      go_quiet (fail)
      clear c1 c1' c2 c2'
      go_wp2_with fail
      go_roundg (rn - (k + 1))
      case measure => rw [HI.out.1]; omega
      case rel => exact ⟨k + 1, rfl, rfl, by omega, World.grownBy.trans HI.out.2 (grown_drewN _ _ _)⟩
    · have hke : k = rn := by omega
      subst hke
      have f1 : decide (k < k) = false := by simp
      have q0 := HI.out.2.cell HQ10.out.1 (by simp)
      have q1 := HI.out.2.cell HQ10.out.2 (by simp)
      have hgr := World.grownBy.trans G10.out HI.out.2
      have HGR := Lib.hid hgr
      obtain ⟨LV, hLV⟩ : ∃ z, levP v C A = z := ⟨_, rfl⟩
      obtain ⟨vn, hvn⟩ : ∃ n, LV.length = n := ⟨_, rfl⟩
      have hvl : vn ≤ 100 := by rw [← hvn, ← hLV, lev_len HSM.out.2.2 A, HLN.out.1]; omega
      have HLE : Hid (∀ W, wr.grownBy W none → Calls Try.prog 18 #[.agg #[.int .i64 (v : Int), .slice ca cn cc], .slice aa an ac] W fun e w' => ∃ a c, e = .returned (.slice a vn c) ∧ IntsW w' a c LV ∧ W.grownBy w' none) := Lib.hid (fun W hW => by
        have h1 := levels_calls v C ca cc A aa ac W (HC.out.1.grown (World.grownBy.trans HGR.out hW)) (by omega) (by have := HSM.out.1; omega) (fun c hc => by have := HSM.out.2.1 c hc; omega) HSM.out.2.2 (HA.out.1.grown (World.grownBy.trans HGR.out hW)) (by have := FA.out.1; omega) FA.out.2
        rw [HC.out.2, HA.out.2, hLV, hvn] at h1
        exact h1)
      have HLR : Hid (∀ W, wr.grownBy W none → Calls Try.prog 19 #[.agg #[.int .i64 (v : Int), .slice ca cn cc], .slice aa an ac] W fun e w' => ∃ a c, e = .returned (.slice a vn c) ∧ IntsW w' a c LV ∧ W.grownBy w' none) := Lib.hid (fun W hW => by
        have h1 := refLevels_calls v C ca cc A aa ac W (HC.out.1.grown (World.grownBy.trans HGR.out hW)) (HA.out.1.grown (World.grownBy.trans HGR.out hW)) (by omega) (by have := HSM.out.1; omega) (fun c hc => by have := HSM.out.2.1 c hc; omega) HSM.out.2.2 (by have := FA.out.1; omega) FA.out.2
        rw [HC.out.2, HA.out.2, hLV, hvn] at h1
        exact h1)
      have HIN : Hid (∀ W a c a' c', IntsW W a c LV → IntsW W a' c' LV → Calls Try.prog 17 #[.slice a vn c, .slice a' vn c'] W fun e w' => e = .returned (.bool true) ∧ W.grownBy w' none) := Lib.hid (fun W a c a' c' h1 h2 => same_ex hvn h1 h2 (by rw [hvn]; exact hvl))
      obtain ⟨d, hd⟩ : ∃ d : Bool, (d = true ↔ (contraP (negL B) = true ∨ Conf C (negL B))) := by
        by_cases h : (contraP (negL B) = true ∨ Conf C (negL B))
        · exact ⟨true, fun _ => h, fun _ => rfl⟩
        · exact ⟨false, fun e => (by cases e), fun e => absurd e h⟩
      have HM1 : Hid (∀ W, wr.grownBy W none → Calls Try.prog 20 #[.agg #[.int .i64 (v : Int), .slice ca cn cc], .slice ba bn bc] W fun e w' => e = .returned (.bool d) ∧ W.grownBy w' none) := Lib.hid (fun W hW => by
        have h1 := implies_calls v C ca cc B ba bc W (HC.out.1.grown (World.grownBy.trans HGR.out hW)) (by omega) (by have := HSM.out.1; omega) (fun c hc => by have := HSM.out.2.1 c hc; omega) HSM.out.2.2 (HB.out.1.grown (World.grownBy.trans HGR.out hW)) (by have := FB.out.1; omega) FB.out.2
        rw [HC.out.2, HB.out.2] at h1
        refine h1.mono ?_
        rintro e w' ⟨⟨b, rfl, hb⟩, hg⟩
        exact ⟨by rw [show b = d from by rw [Bool.eq_iff_iff, hb, hd]], hg⟩)
      have HM2 : Hid (∀ W, wr.grownBy W none → Calls Try.prog 21 #[.agg #[.int .i64 (v : Int), .slice ca cn cc], .slice ba bn bc] W fun e w' => e = .returned (.bool d) ∧ W.grownBy w' none) := Lib.hid (fun W hW => by
        have h1 := refImplies_calls v C ca cc B ba bc W (HC.out.1.grown (World.grownBy.trans HGR.out hW)) (HB.out.1.grown (World.grownBy.trans HGR.out hW)) (by omega) (by have := HSM.out.1; omega) (fun c hc => by have := HSM.out.2.1 c hc; omega) HSM.out.2.2 (by have := FB.out.1; omega) FB.out.2
        rw [HC.out.2, HB.out.2] at h1
        refine h1.mono ?_
        rintro e w' ⟨⟨b, rfl, hb⟩, hg⟩
        exact ⟨by rw [show b = d from by rw [Bool.eq_iff_iff, hb, hd]], hg⟩)
      clear hd hLV hvn hgr hvl
      go_wp2_with fail
      go_region_held3 (fun w' => wr.grownBy w' none ∧ w'.cell? ⟨bf, 0, none⟩ = some (.int .i64 (v : Int)) ∧ w'.cell? ⟨bf, 1, none⟩ = some (.slice ca cn cc))
        (first | exact ⟨⟨rfl, rfl, rfl, Nat.le_refl _, fun _ _ _ => rfl⟩, q0, q1⟩ | (go_split_ands; exact held_two g7 (by assumption) (by assumption) (by assumption)) | (go_split_ands; exact ⟨by assumption, by assumption, by assumption⟩))
        (first | (go_at_call 18; refine (HLE.out _ ?_).mono ?_; (go_split_ands; assumption); rintro e wa ⟨ya, yc, rfl, yi, g7⟩) | (go_at_call 19; refine (HLR.out _ ?_).mono ?_; (go_split_ands; assumption); rintro e wb ⟨za, zc, rfl, zi, g7⟩) | (go_at_call 17; refine (HIN.out _ _ _ _ _ (yi.grown g7) zi).mono ?_; rintro e wc ⟨rfl, g7⟩) | (go_at_call 20; refine (HM1.out _ ?_).mono ?_; (go_split_ands; assumption); rintro e wd ⟨rfl, g7⟩) | (go_at_call 21; refine (HM2.out _ ?_).mono ?_; (go_split_ands; assumption); rintro e we ⟨rfl, g7⟩))
      have hend : wr.grownBy we none := by go_split_ands; assumption
      have HEND := Lib.hid (World.grownBy.trans HG1.out (World.grownBy.trans HGR.out hend))
      clear hend g7 yi zi HLE HLR HIN HM1 HM2
      go_wp2_with fail
      go_ret
      exact ⟨rfl, HEND.out⟩
end Go.Proofs.Ythkemajekkilmaa
