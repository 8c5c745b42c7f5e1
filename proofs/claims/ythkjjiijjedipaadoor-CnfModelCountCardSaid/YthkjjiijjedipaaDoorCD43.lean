/- Texts of the proof: U3 K1 U4. -/
import Derived.Test.YthkjjiijjedipaaDoorCD42
import Derived.Test.YthkjjiijjedipaaDoorCD23
import Derived.Test.YthkjjiijjedipaaDoorCD06
import Derived.Test.YthkjjiijjedipaaDoorCD41
namespace Go.Proofs.YthkjjiijjedipaaDoor
open Go.RowKit
set_option maxRecDepth 100000
theorem valid_at3 (a : Option Addr) (c : Nat) (w : World) (h : ClsW w a c [[-3, 1], [-3, 2], [3, -1, -2], [3]]) : Calls Tryd.prog 14 #[cnfV 3 a 4 c] w fun e w' => e = .returned (.bool true) ∧ w.grownBy w' none := by
  have := valid14_calls 3 [[-3, 1], [-3, 2], [3, -1, -2], [3]] a c w h (by decide) (by decide) (by decide)
  rw [hd10] at this
  exact this
set_option maxHeartbeats 16000000 in
theorem head_calls (w : World) (htab : Tab w) : Calls Tryd.prog 8 #[] w fun e w' => e = .returned (.bool true) ∧ w.grownBy w' none := by
  have HT := Lib.hid htab; clear htab
  go_enter Tryd.func8, Tryd.ntmps8
  go_wp2_with fail
  refine (rnew_calls w).mono ?_
  rintro e W1 ⟨y, rfl, ⟨a1, c1, rfl, hc1⟩, hg1⟩
  have HG1 := Lib.hid hg1
  have H1 := Lib.hid (rinput_at 1 hd1 good_new (by decide) hc1)
  clear hc1 hg1
  go_wp2_with fail
  refine H1.out.mono ?_
  rintro e W2 ⟨a2, c2, rfl, hc2, hg2⟩
  obtain ⟨p2, V2, X2, hp2, hV2, hz0, hz1, hX2, hx2, hcb2, hgx2⟩ := boxC (n := 2) rfl hc2 (World.grownBy.trans HG1.out hg2)
  have HG2 := Lib.hid hgx2
  have HCB2 := Lib.hid hcb2
  have H2 := Lib.hid (rinput_at 2 hd2 gE1 (by decide) hcb2.2.2)
  clear hc2 hg2 hgx2 hcb2
  go_wp2_with fail
  clear hX2 hV2 hp2 hz0 hz1
  refine H2.out.mono ?_
  rintro e W3 ⟨a3, c3, rfl, hc3, hg3⟩
  obtain ⟨p3, V3, X3, hp3, hV3, hz0, hz1, hX3, hx3, hcb3, hgx3⟩ := boxC (n := 3) rfl hc3 (World.grownBy.trans HG2.out hg3)
  have HG3 := Lib.hid hgx3
  have HCB3 := Lib.hid hcb3
  have H3 := Lib.hid (rand_at 2 4 hd3 gE2 (by decide) (by decide) (by decide) hcb3.2.2)
  clear hc3 hg3 hgx3 hcb3 hx2
  go_wp2_with fail
  clear hX3 hV3 hp3 hz0 hz1
  refine H3.out.mono ?_
  rintro e W4 ⟨a4, c4, rfl, hc4, hg4⟩
  obtain ⟨p4, V4, X4, hp4, hV4, hz0, hz1, hX4, hx4, hcb4, hgx4⟩ := boxC (n := 4) rfl hc4 (World.grownBy.trans HG3.out hg4)
  have HG4 := Lib.hid hgx4
  have HCB4 := Lib.hid hcb4
  have H4 := Lib.hid (tse_calls (gs := [(0, 0, 0), (1, 1, 0), (1, 2, 0), (2, 2, 4)]) (r := 6) (m := 2) hd4 a4 c4 X4 hcb4.2.2 gE3 (by decide) ⟨by decide, by decide⟩ (by decide))
  clear hc4 hg4 hgx4 hcb4 hx3
  go_wp2_with fail
  clear hX4 hV4 hp4 hz0 hz1 hx4
  refine H4.out.mono ?_
  rintro e W5 ⟨a5, c5, rfl, hc5, hg5⟩
  obtain ⟨p5, V5, X5, hp5, hV5, hz0, hz1, hz2, hz3, hX5, hx5, hy5, hcl5, hgx5⟩ := boxF (w0 := X4) (v := 3) (n := 4) hc5 hg5
  have HF5 : Hid (CF X5 p5 3 a5 4 c5 [[-3, 1], [-3, 2], [3, -1, -2], [3]]) := Lib.hid ⟨hx5, hy5, hcl5⟩
  have HG5 := Lib.hid hgx5
  have HT5 := Lib.hid (HT.out.grown (World.grownBy.trans HG4.out hgx5))
  have H5 := Lib.hid (simp_lit (v := 3) (W := X5) hd7 (by decide) (by decide) (by unfold Nine; decide) HT5.out)
  clear hc5 hg5 hgx5 hcl5
  go_wp2_with fail
  clear hX5 hV5 hp5 hz0 hz1 hz2 hz3 hx5 hy5
  refine H5.out.mono ?_
  rintro e W6 ⟨a6, c6, rfl, hc6, hg6⟩
  obtain ⟨p6, V6, X6, hp6, hV6, hz0, hz1, hz2, hz3, hX6, hx6, hy6, hcl6, hgx6⟩ := boxF (w0 := X5) (v := 3) (n := 3) hc6 hg6
  have HF6 : Hid (CF X6 p6 3 a6 3 c6 [[1, 2], [], [-1]]) := Lib.hid ⟨hx6, hy6, hcl6⟩
  have HCE := Lib.hid (HCB4.out.grown (World.grownBy.trans HG5.out hgx6))
  have HCF := Lib.hid (HF5.out.grown hgx6)
  have HCG := HF6
  have HG6 := Lib.hid (World.grownBy.trans HG4.out (World.grownBy.trans HG5.out hgx6))
  have HG0 : Hid (X6.grownBy X6 none) := Lib.hid (grown_refl _ _)
  have q0 := HCF.out.1
  have q1 := HCF.out.2.1
  clear hc6 hg6 hcl6 hgx6
  have HH0 := Lib.hid (by
    have CFW := HCF.out.grown HG0.out
    have CGW := HCG.out.grown HG0.out
    have CEW := HCE.out.grown HG0.out
    exact same_lit (v := 3) (v' := 3) (l := [[-3, 1], [-3, 2], [3, -1, -2], [3]]) (m := [[-3, 1], [-3, 2], [3, -1, -2], [3]]) (q := true) (W := X6) (by decide +kernel) CFW.2.2 (by decide) (by decide))
  go_wp2_with fail
  clear hX6 hV6 hp6 hz0 hz1 hz2 hz3 hx6 hy6
  refine HH0.out.mono ?_
  rintro e Y0 ⟨rfl, hg⟩
  have HG10 : Hid (X6.grownBy Y0 none) := Lib.hid (World.grownBy.trans HG0.out hg)
  clear hg q0 q1
  have HH1 := Lib.hid (by
    have CFW := HCF.out.grown HG10.out
    have CGW := HCG.out.grown HG10.out
    have CEW := HCE.out.grown HG10.out
    exact ext_lit (W := Y0) hd6 CEW.2.2 gE3 (by decide) (by decide) ⟨by decide, by decide⟩ (by decide))
  have q0 := (HCE.out.grown HG10.out).1
  go_wp2_with fail
  refine HH1.out.mono ?_
  rintro e Y1 ⟨a21, c21, rfl, ht, hg⟩
  have HB := Lib.hid ht
  clear ht
  have HG11 : Hid (X6.grownBy Y1 none) := Lib.hid (World.grownBy.trans HG10.out hg)
  clear hg q0
  have HH2 := Lib.hid (by
    have CFW := HCF.out.grown HG11.out
    have CGW := HCG.out.grown HG11.out
    have CEW := HCE.out.grown HG11.out
    have BW := HB.out
    exact sameB_lit (xs := [true, true, true]) (z := [true, true, true]) (q := true) (W := Y1) (by decide) BW (by decide))
  go_wp2_with fail
  refine HH2.out.mono ?_
  rintro e Y2 ⟨rfl, hg⟩
  have HG12 : Hid (X6.grownBy Y2 none) := Lib.hid (World.grownBy.trans HG11.out hg)
  clear hg
  have HH3 := Lib.hid (by
    have CFW := HCF.out.grown HG12.out
    have CGW := HCG.out.grown HG12.out
    have CEW := HCE.out.grown HG12.out
    exact sat_lit (v := 3) (W := Y2) hd8 CFW.2.2 (by decide) (by decide) (by decide) (by decide))
  have q0 := (HCF.out.grown HG12.out).1
  have q1 := (HCF.out.grown HG12.out).2.1
  go_wp2_with fail
  refine HH3.out.mono ?_
  rintro e Y3 ⟨rfl, hg⟩
  have HG13 : Hid (X6.grownBy Y3 none) := Lib.hid (World.grownBy.trans HG12.out hg)
  clear hg q0 q1
  have HH4 := Lib.hid (by
    have CFW := HCF.out.grown HG13.out
    have CGW := HCG.out.grown HG13.out
    have CEW := HCE.out.grown HG13.out
    exact sat_lit (v := 3) (W := Y3) hd9 CFW.2.2 (by decide) (by decide) (by decide) (by decide))
  have q0 := (HCF.out.grown HG13.out).1
  have q1 := (HCF.out.grown HG13.out).2.1
  go_wp2_with fail
  refine HH4.out.mono ?_
  rintro e Y4 ⟨rfl, hg⟩
  have HG14 : Hid (X6.grownBy Y4 none) := Lib.hid (World.grownBy.trans HG13.out hg)
  clear hg q0 q1
  have HH5 := Lib.hid (by
    have CFW := HCF.out.grown HG14.out
    have CGW := HCG.out.grown HG14.out
    have CEW := HCE.out.grown HG14.out
    exact same_lit (v := 3) (v' := 3) (l := [[1, 2], [], [-1]]) (m := [[1, 2], [], [-1]]) (q := true) (W := Y4) (by decide +kernel) CGW.2.2 (by decide) (by decide))
  have q0 := (HCG.out.grown HG14.out).1
  have q1 := (HCG.out.grown HG14.out).2.1
  go_wp2_with fail
  refine HH5.out.mono ?_
  rintro e Y5 ⟨rfl, hg⟩
  have HG15 : Hid (X6.grownBy Y5 none) := Lib.hid (World.grownBy.trans HG14.out hg)
  clear hg q0 q1
  have HH6 := Lib.hid (by
    have CFW := HCF.out.grown HG15.out
    have CGW := HCG.out.grown HG15.out
    have CEW := HCE.out.grown HG15.out
    exact tse_calls (gs := [(0, 0, 0), (1, 1, 0), (1, 2, 0), (2, 2, 4)]) (r := 1) (m := 4) hd5 a4 c4 Y5 CEW.2.2 gE3 (by decide) ⟨by decide, by decide⟩ (by decide))
  have q0 := (HCE.out.grown HG15.out).1
  go_wp2_with fail
  refine HH6.out.mono ?_
  rintro e Y6 ⟨a26, c26, rfl, ht, hg⟩
  have HTC := Lib.hid ht
  clear ht
  have HG16 : Hid (X6.grownBy Y6 none) := Lib.hid (World.grownBy.trans HG15.out hg)
  clear hg q0
  have HH7 := Lib.hid (by
    have CFW := HCF.out.grown HG16.out
    have CGW := HCG.out.grown HG16.out
    have CEW := HCE.out.grown HG16.out
    have TW := HTC.out
    exact same_lit (v := 4) (v' := 4) (l := [[]]) (m := [[]]) (q := true) (W := Y6) (by decide +kernel) TW (by decide) (by decide))
  go_wp2_with fail
  refine HH7.out.mono ?_
  rintro e Y7 ⟨rfl, hg⟩
  have HG17 : Hid (X6.grownBy Y7 none) := Lib.hid (World.grownBy.trans HG16.out hg)
  clear hg
  have HH8 := Lib.hid (by
    have CFW := HCF.out.grown HG17.out
    have CGW := HCG.out.grown HG17.out
    have CEW := HCE.out.grown HG17.out
    exact valid_at3 a5 c5 Y7 CFW.2.2)
  have q0 := (HCF.out.grown HG17.out).1
  have q1 := (HCF.out.grown HG17.out).2.1
  go_wp2_with fail
  refine HH8.out.mono ?_
  rintro e Y8 ⟨rfl, hg⟩
  have HG18 : Hid (X6.grownBy Y8 none) := Lib.hid (World.grownBy.trans HG17.out hg)
  clear hg q0 q1
  have HH9 := Lib.hid (by
    have CFW := HCF.out.grown HG18.out
    have CGW := HCG.out.grown HG18.out
    have CEW := HCE.out.grown HG18.out
    exact valid_lit (W := Y8) hd11 (by decide) (by decide) (by decide))
  go_wp2_with fail
  refine HH9.out.mono ?_
  rintro e Y9 ⟨rfl, hg⟩
  have HG19 : Hid (X6.grownBy Y9 none) := Lib.hid (World.grownBy.trans HG18.out hg)
  clear hg
  have HH10 := Lib.hid (by
    have CFW := HCF.out.grown HG19.out
    have CGW := HCG.out.grown HG19.out
    have CEW := HCE.out.grown HG19.out
    exact valid_lit (W := Y9) hd12 (by decide) (by decide) (by decide))
  go_wp2_with fail
  refine HH10.out.mono ?_
  rintro e Y10 ⟨rfl, hg⟩
  have HG20 : Hid (X6.grownBy Y10 none) := Lib.hid (World.grownBy.trans HG19.out hg)
  clear hg
  go_wp2_with fail
  go_ret
  exact ⟨rfl, World.grownBy.trans HG6.out HG20.out⟩
end Go.Proofs.YthkjjiijjedipaaDoor

namespace Go.Proofs.YthkjjiijjedipaaDoor
theorem in8_do {gs : List Gt} (h : In8 gs) (refs : List Int) (s : Stp) : In8 (doC gs refs s).1 := by
  unfold doC
  split
  · unfold inputC
    split
    · exact h
    · exact in8_add h (fun _ => by simp only; omega)
  · split
    · exact in8_and h _ _
    · split
      · exact in8_and h _ _
      · exact in8_and (in8_and (in8_and h _ _) _ _) _ _
theorem in8_build : ∀ l : List Stp, In8 (buildC l).1 := by
  intro l
  rw [← List.reverse_reverse l]
  induction l.reverse with
  | nil => intro g hg; simp [buildC] at hg; subst hg; intro h; simp at h
  | cons s r ih => rw [List.reverse_cons, build_snoc]; exact in8_do ih _ _

end Go.Proofs.YthkjjiijjedipaaDoor

namespace Go.Proofs.YthkjjiijjedipaaDoor
open Go.RowKit
theorem litsOk_of {V : Nat} {L : List (List Int)} (h : ∀ c ∈ L, ∀ x ∈ c, x ≠ 0 ∧ x ≤ (V : Int) ∧ -(V : Int) ≤ x) : litsOk (V : Int) L = true := by
  unfold litsOk
  rw [List.all_eq_true]
  intro c hc
  rw [List.all_eq_true]
  intro x hx
  obtain ⟨h1, h2, h3⟩ := h c hc x hx
  exact litOk_yes h1 (by omega) (by omega)
structure TseF (gs : List Gt) (r : Int) (m V : Nat) (L : List (List Int)) : Prop where
  low : m ≤ V
  top : V ≤ 150
  len : L.length ≤ 400
  three : ∀ z ∈ L, z.length ≤ 100000
  rng : ∀ z ∈ L, ∀ x ∈ z, -9223372036854775807 ≤ x ∧ x ≤ 9223372036854775807
  ok : litsOk (V : Int) L = true
  ext : ∀ vals, (extP gs r m vals).length = V ∧ (extP gs r m vals).take m = givenP m vals ∧ satP (extP gs r m vals) L = evalC gs (givenP m vals) r
theorem tse_facts {gs : List Gt} (hG : Good gs) (h8 : In8 gs) (hl : gs.length ≤ 91) {m : Nat} (hm : 8 ≤ m) (hm2 : m ≤ 11) {r : Int} (hr : Ok gs r) {V : Nat} {L : List (List Int)} (e : tseP gs r m = (V, L)) : TseF gs r m V L := by
  have hq : (r / 2).toNat < gs.length := by have := hr.1; have := hr.2; have := hG.pos; omega
  have hN := need_of hG hq
  have hR := tse_range hG h8 hm hr
  have hX := ext_tse hG h8 hm hr
  have h1 : m ≤ V ∧ V ≤ 150 ∧ L.length ≤ 400 ∧ (∀ z ∈ L, z.length ≤ 100000) := by
    by_cases h0 : r = 0
    · unfold tseP at e
      rw [if_pos h0] at e
      cases e
      exact ⟨Nat.le_refl _, by omega, by simp, fun z hz => by cases hz⟩
    · by_cases h1 : r = 1
      · unfold tseP at e
        rw [if_neg h0, if_pos h1] at e
        cases e
        exact ⟨Nat.le_refl _, by omega, by simp, fun z hz => by simp at hz; subst hz; simp⟩
      · have hr2 : 2 ≤ r := by have := hr.1; omega
        obtain ⟨a1, a2⟩ := tse_len (m := m) hG hr hr2
        obtain ⟨C, x, b1, _, b3⟩ := tse_not (gs := gs) (m := m) hr2
        have hc := cnt_le hN
        rw [b1] at e
        rw [b1] at a1
        cases e
        simp only at a1
        refine ⟨by omega, by omega, by omega, fun z hz => ?_⟩
        rcases List.mem_append.1 hz with hz | hz
        · have := (b3 z hz).1; omega
        · simp at hz; subst hz; simp
  rw [e] at hR hX
  obtain ⟨c1, c2, c3, c4⟩ := h1
  exact ⟨c1, c2, c3, c4, fun z hz x hx => by have := hR z hz x hx; simp only at this; omega, litsOk_of hR, hX⟩
end Go.Proofs.YthkjjiijjedipaaDoor
