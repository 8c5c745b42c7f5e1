/- Texts of the proof: U3 K1 U4 L3 U5. -/
import Derived.Test.YthkjjiijjedipaaDoorCA18
import Derived.Test.YthkjjiijjedipaaDoorCA10
import Derived.Test.YthkjjiijjedipaaDoorCA01
import Derived.BigQuiet
import Derived.Deep.RegionHeld3
import Derived.Deep.DeepCutAuto
namespace Go.Proofs.YthkjjiijjedipaaDoor
open Go.RowKit
set_option maxRecDepth 100000
theorem valid_at3 (a : Option Addr) (c : Nat) (w : World) (h : ClsW w a c [[-3, 1], [-3, 2], [3, -1, -2], [3]]) : Calls Tryd.prog 14 #[cnfV 3 a 4 c] w fun e w' => e = .returned (.bool true) ∧ w.grownBy w' none := by
  have := valid14_calls 3 [[-3, 1], [-3, 2], [3, -1, -2], [3]] a c w h (by decide) (by decide) (by decide)
  rw [hd10] at this
  exact this
set_option maxHeartbeats 16000000 in
theorem head_calls (w : World) (htab : Tab w) : Calls Tryd.prog 8 #[] w fun e w' => e = .returned (.bool true) ∧ w.grownBy w' none := by
  have HT := Lib.hid htab; clear htab
  go_enter Tryd.func8, Tryd.ntmps8
  go_wp2_with fail
  refine (rnew_calls w).mono ?_
  rintro e W1 ⟨y, rfl, ⟨a1, c1, rfl, hc1⟩, hg1⟩
  have HG1 := Lib.hid hg1
  have H1 := Lib.hid (rinput_at 1 hd1 good_new (by decide) hc1)
  clear hc1 hg1
  go_wp2_with fail
  refine H1.out.mono ?_
  rintro e W2 ⟨a2, c2, rfl, hc2, hg2⟩
  obtain ⟨p2, V2, X2, hp2, hV2, hz0, hz1, hX2, hx2, hcb2, hgx2⟩ := boxC (n := 2) rfl hc2 (World.grownBy.trans HG1.out hg2)
  have HG2 := Lib.hid hgx2
  have HCB2 := Lib.hid hcb2
  have H2 := Lib.hid (rinput_at 2 hd2 gE1 (by decide) hcb2.2.2)
  clear hc2 hg2 hgx2 hcb2
  go_wp2_with fail
  clear hX2 hV2 hp2 hz0 hz1
  refine H2.out.mono ?_
  rintro e W3 ⟨a3, c3, rfl, hc3, hg3⟩
  obtain ⟨p3, V3, X3, hp3, hV3, hz0, hz1, hX3, hx3, hcb3, hgx3⟩ := boxC (n := 3) rfl hc3 (World.grownBy.trans HG2.out hg3)
  have HG3 := Lib.hid hgx3
  have HCB3 := Lib.hid hcb3
  have H3 := Lib.hid (rand_at 2 4 hd3 gE2 (by decide) (by decide) (by decide) hcb3.2.2)
  clear hc3 hg3 hgx3 hcb3 hx2
  go_wp2_with fail
  clear hX3 hV3 hp3 hz0 hz1
  refine H3.out.mono ?_
  rintro e W4 ⟨a4, c4, rfl, hc4, hg4⟩
  obtain ⟨p4, V4, X4, hp4, hV4, hz0, hz1, hX4, hx4, hcb4, hgx4⟩ := boxC (n := 4) rfl hc4 (World.grownBy.trans HG3.out hg4)
  have HG4 := Lib.hid hgx4
  have HCB4 := Lib.hid hcb4
  have H4 := Lib.hid (tse_calls (gs := [(0, 0, 0), (1, 1, 0), (1, 2, 0), (2, 2, 4)]) (r := 6) (m := 2) hd4 a4 c4 X4 hcb4.2.2 gE3 (by decide) ⟨by decide, by decide⟩ (by decide))
  clear hc4 hg4 hgx4 hcb4 hx3
  go_wp2_with fail
  clear hX4 hV4 hp4 hz0 hz1 hx4
  refine H4.out.mono ?_
  rintro e W5 ⟨a5, c5, rfl, hc5, hg5⟩
  obtain ⟨p5, V5, X5, hp5, hV5, hz0, hz1, hz2, hz3, hX5, hx5, hy5, hcl5, hgx5⟩ := boxF (w0 := X4) (v := 3) (n := 4) hc5 hg5
  have HF5 : Hid (CF X5 p5 3 a5 4 c5 [[-3, 1], [-3, 2], [3, -1, -2], [3]]) := Lib.hid ⟨hx5, hy5, hcl5⟩
  have HG5 := Lib.hid hgx5
  have HT5 := Lib.hid (HT.out.grown (World.grownBy.trans HG4.out hgx5))
  have H5 := Lib.hid (simp_lit (v := 3) (W := X5) hd7 (by decide) (by decide) (by unfold Nine; decide) HT5.out)
  clear hc5 hg5 hgx5 hcl5
  go_wp2_with fail
  clear hX5 hV5 hp5 hz0 hz1 hz2 hz3 hx5 hy5
  refine H5.out.mono ?_
  rintro e W6 ⟨a6, c6, rfl, hc6, hg6⟩
  obtain ⟨p6, V6, X6, hp6, hV6, hz0, hz1, hz2, hz3, hX6, hx6, hy6, hcl6, hgx6⟩ := boxF (w0 := X5) (v := 3) (n := 3) hc6 hg6
  have HF6 : Hid (CF X6 p6 3 a6 3 c6 [[1, 2], [], [-1]]) := Lib.hid ⟨hx6, hy6, hcl6⟩
  have HCE := Lib.hid (HCB4.out.grown (World.grownBy.trans HG5.out hgx6))
  have HCF := Lib.hid (HF5.out.grown hgx6)
  have HCG := HF6
  have HG6 := Lib.hid (World.grownBy.trans HG4.out (World.grownBy.trans HG5.out hgx6))
  have HG0 : Hid (X6.grownBy X6 none) := Lib.hid (grown_refl _ _)
  have q0 := HCF.out.1
  have q1 := HCF.out.2.1
  clear hc6 hg6 hcl6 hgx6
  have HH0 := Lib.hid (by
    have CFW := HCF.out.grown HG0.out
    have CGW := HCG.out.grown HG0.out
    have CEW := HCE.out.grown HG0.out
    exact same_lit (v := 3) (v' := 3) (l := [[-3, 1], [-3, 2], [3, -1, -2], [3]]) (m := [[-3, 1], [-3, 2], [3, -1, -2], [3]]) (q := true) (W := X6) (by decide +kernel) CFW.2.2 (by decide) (by decide))
  go_wp2_with fail
  clear hX6 hV6 hp6 hz0 hz1 hz2 hz3 hx6 hy6
  refine HH0.out.mono ?_
  rintro e Y0 ⟨rfl, hg⟩
  have HG10 : Hid (X6.grownBy Y0 none) := Lib.hid (World.grownBy.trans HG0.out hg)
  clear hg q0 q1
  have HH1 := Lib.hid (by
    have CFW := HCF.out.grown HG10.out
    have CGW := HCG.out.grown HG10.out
    have CEW := HCE.out.grown HG10.out
    exact ext_lit (W := Y0) hd6 CEW.2.2 gE3 (by decide) (by decide) ⟨by decide, by decide⟩ (by decide))
  have q0 := (HCE.out.grown HG10.out).1
  go_wp2_with fail
  refine HH1.out.mono ?_
  rintro e Y1 ⟨a21, c21, rfl, ht, hg⟩
  have HB := Lib.hid ht
  clear ht
  have HG11 : Hid (X6.grownBy Y1 none) := Lib.hid (World.grownBy.trans HG10.out hg)
  clear hg q0
  have HH2 := Lib.hid (by
    have CFW := HCF.out.grown HG11.out
    have CGW := HCG.out.grown HG11.out
    have CEW := HCE.out.grown HG11.out
    have BW := HB.out
    exact sameB_lit (xs := [true, true, true]) (z := [true, true, true]) (q := true) (W := Y1) (by decide) BW (by decide))
  go_wp2_with fail
  refine HH2.out.mono ?_
  rintro e Y2 ⟨rfl, hg⟩
  have HG12 : Hid (X6.grownBy Y2 none) := Lib.hid (World.grownBy.trans HG11.out hg)
  clear hg
  have HH3 := Lib.hid (by
    have CFW := HCF.out.grown HG12.out
    have CGW := HCG.out.grown HG12.out
    have CEW := HCE.out.grown HG12.out
    exact sat_lit (v := 3) (W := Y2) hd8 CFW.2.2 (by decide) (by decide) (by decide) (by decide))
  have q0 := (HCF.out.grown HG12.out).1
  have q1 := (HCF.out.grown HG12.out).2.1
  go_wp2_with fail
  refine HH3.out.mono ?_
  rintro e Y3 ⟨rfl, hg⟩
  have HG13 : Hid (X6.grownBy Y3 none) := Lib.hid (World.grownBy.trans HG12.out hg)
  clear hg q0 q1
  have HH4 := Lib.hid (by
    have CFW := HCF.out.grown HG13.out
    have CGW := HCG.out.grown HG13.out
    have CEW := HCE.out.grown HG13.out
    exact sat_lit (v := 3) (W := Y3) hd9 CFW.2.2 (by decide) (by decide) (by decide) (by decide))
  have q0 := (HCF.out.grown HG13.out).1
  have q1 := (HCF.out.grown HG13.out).2.1
  go_wp2_with fail
  refine HH4.out.mono ?_
  rintro e Y4 ⟨rfl, hg⟩
  have HG14 : Hid (X6.grownBy Y4 none) := Lib.hid (World.grownBy.trans HG13.out hg)
  clear hg q0 q1
  have HH5 := Lib.hid (by
    have CFW := HCF.out.grown HG14.out
    have CGW := HCG.out.grown HG14.out
    have CEW := HCE.out.grown HG14.out
    exact same_lit (v := 3) (v' := 3) (l := [[1, 2], [], [-1]]) (m := [[1, 2], [], [-1]]) (q := true) (W := Y4) (by decide +kernel) CGW.2.2 (by decide) (by decide))
  have q0 := (HCG.out.grown HG14.out).1
  have q1 := (HCG.out.grown HG14.out).2.1
  go_wp2_with fail
  refine HH5.out.mono ?_
  rintro e Y5 ⟨rfl, hg⟩
  have HG15 : Hid (X6.grownBy Y5 none) := Lib.hid (World.grownBy.trans HG14.out hg)
  clear hg q0 q1
  have HH6 := Lib.hid (by
    have CFW := HCF.out.grown HG15.out
    have CGW := HCG.out.grown HG15.out
    have CEW := HCE.out.grown HG15.out
    exact tse_calls (gs := [(0, 0, 0), (1, 1, 0), (1, 2, 0), (2, 2, 4)]) (r := 1) (m := 4) hd5 a4 c4 Y5 CEW.2.2 gE3 (by decide) ⟨by decide, by decide⟩ (by decide))
  have q0 := (HCE.out.grown HG15.out).1
  go_wp2_with fail
  refine HH6.out.mono ?_
  rintro e Y6 ⟨a26, c26, rfl, ht, hg⟩
  have HTC := Lib.hid ht
  clear ht
  have HG16 : Hid (X6.grownBy Y6 none) := Lib.hid (World.grownBy.trans HG15.out hg)
  clear hg q0
  have HH7 := Lib.hid (by
    have CFW := HCF.out.grown HG16.out
    have CGW := HCG.out.grown HG16.out
    have CEW := HCE.out.grown HG16.out
    have TW := HTC.out
    exact same_lit (v := 4) (v' := 4) (l := [[]]) (m := [[]]) (q := true) (W := Y6) (by decide +kernel) TW (by decide) (by decide))
  go_wp2_with fail
  refine HH7.out.mono ?_
  rintro e Y7 ⟨rfl, hg⟩
  have HG17 : Hid (X6.grownBy Y7 none) := Lib.hid (World.grownBy.trans HG16.out hg)
  clear hg
  have HH8 := Lib.hid (by
    have CFW := HCF.out.grown HG17.out
    have CGW := HCG.out.grown HG17.out
    have CEW := HCE.out.grown HG17.out
    exact valid_at3 a5 c5 Y7 CFW.2.2)
  have q0 := (HCF.out.grown HG17.out).1
  have q1 := (HCF.out.grown HG17.out).2.1
  go_wp2_with fail
  refine HH8.out.mono ?_
  rintro e Y8 ⟨rfl, hg⟩
  have HG18 : Hid (X6.grownBy Y8 none) := Lib.hid (World.grownBy.trans HG17.out hg)
  clear hg q0 q1
  have HH9 := Lib.hid (by
    have CFW := HCF.out.grown HG18.out
    have CGW := HCG.out.grown HG18.out
    have CEW := HCE.out.grown HG18.out
    exact valid_lit (W := Y8) hd11 (by decide) (by decide) (by decide))
  go_wp2_with fail
  refine HH9.out.mono ?_
  rintro e Y9 ⟨rfl, hg⟩
  have HG19 : Hid (X6.grownBy Y9 none) := Lib.hid (World.grownBy.trans HG18.out hg)
  clear hg
  have HH10 := Lib.hid (by
    have CFW := HCF.out.grown HG19.out
    have CGW := HCG.out.grown HG19.out
    have CEW := HCE.out.grown HG19.out
    exact valid_lit (W := Y9) hd12 (by decide) (by decide) (by decide))
  go_wp2_with fail
  refine HH10.out.mono ?_
  rintro e Y10 ⟨rfl, hg⟩
  have HG20 : Hid (X6.grownBy Y10 none) := Lib.hid (World.grownBy.trans HG19.out hg)
  clear hg
  go_wp2_with fail
  go_ret
  exact ⟨rfl, World.grownBy.trans HG6.out HG20.out⟩
end Go.Proofs.YthkjjiijjedipaaDoor

namespace Go.Proofs.YthkjjiijjedipaaDoor
theorem in8_do {gs : List Gt} (h : In8 gs) (refs : List Int) (s : Stp) : In8 (doC gs refs s).1 := by
  unfold doC
  split
  · unfold inputC
    split
    · exact h
    · exact in8_add h (fun _ => by simp only; omega)
  · split
    · exact in8_and h _ _
    · split
      · exact in8_and h _ _
      · exact in8_and (in8_and (in8_and h _ _) _ _) _ _
theorem in8_build : ∀ l : List Stp, In8 (buildC l).1 := by
  intro l
  rw [← List.reverse_reverse l]
  induction l.reverse with
  | nil => intro g hg; simp [buildC] at hg; subst hg; intro h; simp at h
  | cons s r ih => rw [List.reverse_cons, build_snoc]; exact in8_do ih _ _

end Go.Proofs.YthkjjiijjedipaaDoor

namespace Go.Proofs.YthkjjiijjedipaaDoor
open Go.RowKit
theorem litsOk_of {V : Nat} {L : List (List Int)} (h : ∀ c ∈ L, ∀ x ∈ c, x ≠ 0 ∧ x ≤ (V : Int) ∧ -(V : Int) ≤ x) : litsOk (V : Int) L = true := by
  unfold litsOk
  rw [List.all_eq_true]
  intro c hc
  rw [List.all_eq_true]
  intro x hx
  obtain ⟨h1, h2, h3⟩ := h c hc x hx
  exact litOk_yes h1 (by omega) (by omega)
structure TseF (gs : List Gt) (r : Int) (m V : Nat) (L : List (List Int)) : Prop where
  low : m ≤ V
  top : V ≤ 150
  len : L.length ≤ 400
  three : ∀ z ∈ L, z.length ≤ 100000
  rng : ∀ z ∈ L, ∀ x ∈ z, -9223372036854775807 ≤ x ∧ x ≤ 9223372036854775807
  ok : litsOk (V : Int) L = true
  ext : ∀ vals, (extP gs r m vals).length = V ∧ (extP gs r m vals).take m = givenP m vals ∧ satP (extP gs r m vals) L = evalC gs (givenP m vals) r
theorem tse_facts {gs : List Gt} (hG : Good gs) (h8 : In8 gs) (hl : gs.length ≤ 91) {m : Nat} (hm : 8 ≤ m) (hm2 : m ≤ 11) {r : Int} (hr : Ok gs r) {V : Nat} {L : List (List Int)} (e : tseP gs r m = (V, L)) : TseF gs r m V L := by
  have hq : (r / 2).toNat < gs.length := by have := hr.1; have := hr.2; have := hG.pos; omega
  have hN := need_of hG hq
  have hR := tse_range hG h8 hm hr
  have hX := ext_tse hG h8 hm hr
  have h1 : m ≤ V ∧ V ≤ 150 ∧ L.length ≤ 400 ∧ (∀ z ∈ L, z.length ≤ 100000) := by
    by_cases h0 : r = 0
    · unfold tseP at e
      rw [if_pos h0] at e
      cases e
      exact ⟨Nat.le_refl _, by omega, by simp, fun z hz => by cases hz⟩
    · by_cases h1 : r = 1
      · unfold tseP at e
        rw [if_neg h0, if_pos h1] at e
        cases e
        exact ⟨Nat.le_refl _, by omega, by simp, fun z hz => by simp at hz; subst hz; simp⟩
      · have hr2 : 2 ≤ r := by have := hr.1; omega
        obtain ⟨a1, a2⟩ := tse_len (m := m) hG hr hr2
        obtain ⟨C, x, b1, _, b3⟩ := tse_not (gs := gs) (m := m) hr2
        have hc := cnt_le hN
        rw [b1] at e
        rw [b1] at a1
        cases e
        simp only at a1
        refine ⟨by omega, by omega, by omega, fun z hz => ?_⟩
        rcases List.mem_append.1 hz with hz | hz
        · have := (b3 z hz).1; omega
        · simp at hz; subst hz; simp
  rw [e] at hR hX
  obtain ⟨c1, c2, c3, c4⟩ := h1
  exact ⟨c1, c2, c3, c4, fun z hz x hx => by have := hR z hz x hx; simp only at this; omega, litsOk_of hR, hX⟩
end Go.Proofs.YthkjjiijjedipaaDoor

namespace Go.Proofs.YthkjjiijjedipaaDoor
open Go.RowKit
set_option maxRecDepth 100000
set_option maxHeartbeats 16000000 in
theorem extension_calls (l : List Stp) (sa : Option Addr) (sc : Nat) (n1 n2 : Nat) (vals : List Bool) (va : Option Addr) (vc : Nat) (w : World) (htab : Tab w) (h : StpsW w sa sc l) (hs : ∀ s ∈ l, StpOk s) (h1 : n1 < 256) (h2 : n2 < 256) (hv : BoolsW w va vc vals) :
    Calls Tryd.prog 3 #[.slice sa l.length sc, .int .u8 (n1 : Int), .int .u8 (n2 : Int), .slice va vals.length vc] w fun e w' => e = .returned (.bool true) ∧ w.grownBy w' none := by
  obtain ⟨N, hN⟩ : ∃ N, l.length = N := ⟨_, rfl⟩
  have HS := Lib.hid (And.intro h hs)
  have HT := Lib.hid htab
  have HN := Lib.hid hN
  obtain ⟨nv, hnv⟩ : ∃ n, vals.length = n := ⟨_, rfl⟩
  have HNV := Lib.hid hnv
  have HV := Lib.hid hv
  rw [hN, hnv]
  clear h hs hN htab hnv hv
  by_cases h60 : 30 < N
  · have f1 : decide ((30 : Int) < (N : Int)) = true := decide_eq_true (by omega)
    have f2 : decide (30 < N) = true := decide_eq_true h60
    go_enter Tryd.func3, Tryd.ntmps3
    go_wp2_with fail
    refine (head_calls _ HT.out).mono ?_
    rintro e V1 ⟨rfl, g⟩
    go_wp2_with fail
    go_ret
    exact ⟨rfl, g⟩
  have f1 : decide ((30 : Int) < (N : Int)) = false := decide_eq_false (by omega)
  have f2 : decide (30 < N) = false := decide_eq_false h60
  by_cases h61 : 100 < nv
  · have f3 : decide ((100 : Int) < (nv : Int)) = true := decide_eq_true (by omega)
    have f4 : decide (100 < nv) = true := decide_eq_true h61
    go_enter Tryd.func3, Tryd.ntmps3
    go_wp2_with fail
    refine (head_calls _ HT.out).mono ?_
    rintro e V1 ⟨rfl, g⟩
    go_wp2_with fail
    go_ret
    exact ⟨rfl, g⟩
  have f3 : decide ((100 : Int) < (nv : Int)) = false := decide_eq_false (by omega)
  have f4 : decide (100 < nv) = false := decide_eq_false h61
  obtain ⟨p, hp⟩ : ∃ p, buildC l = p := ⟨_, rfl⟩
  obtain ⟨g0, refs⟩ := p
  have HB := Lib.hid (show Built (g0, refs) N by have := built l (by rw [HN.out]; omega); rw [hp, HN.out] at this; exact this)
  have HI8 := Lib.hid (show In8 g0 from by have := in8_build l; rw [hp] at this; exact this)
  have HP := Lib.hid hp
  clear hp
  have HG := Lib.hid (grown_refl w none)
  have HGD := Lib.hid (show Good g0 from HB.out.good)
  have HL := Lib.hid (show g0.length ≤ 91 from by have := HB.out.len; simp only at this; omega)
  have HRL := Lib.hid (show refs.length = N from HB.out.refs)
  have HRO := Lib.hid (show ∀ r ∈ refs, Ok g0 r from HB.out.ok)
  go_enter Tryd.func3, Tryd.ntmps3
  go_wp2_with fail
  refine (head_calls _ HT.out).mono ?_
  rintro e V1 ⟨rfl, g⟩
  replace HG := Lib.hid (World.grownBy.trans HG.out g)
  clear g
  go_wp2_with fail
  clear f1 f2 f3 f4
  have HBC := Lib.hid (rbuild_calls l sa sc V1 HP.out (HS.out.1.grown HG.out) (by rw [HN.out]; omega) HS.out.2)
  rw [HN.out] at HBC
  refine HBC.out.mono ?_
  rintro e V2 ⟨ac, cc, ra, rc, rfl, hr, hri, g⟩
  have HRI := Lib.hid hri
  replace HG := Lib.hid (World.grownBy.trans HG.out g)
  clear g
  clear hri HBC
  obtain ⟨gl, hgl⟩ : ∃ n, g0.length = n := ⟨_, rfl⟩
  have HGL := Lib.hid hgl
  rw [hgl]
  obtain ⟨p2, Z2, X2, hp2, hZ2, hz0, hz1, hX2, hx2, hcb, g⟩ := boxC hgl hr (grown_refl V2 none)
  have HCB := Lib.hid hcb
  clear hcb hgl hr hx2
  have HRI := Lib.hid (HRI.out.grown g)
  replace HG := Lib.hid (World.grownBy.trans HG.out g)
  clear g
  go_wp2_with fail
  clear hX2 hZ2 hp2 hz0 hz1
  have HPC := Lib.hid (pick_calls refs n1 ra rc X2 HRI.out (by rw [HRL.out]; omega) h1 (ok_le (by have := HL.out; omega) HRO.out))
  obtain ⟨r, hr⟩ : ∃ x, pickL refs n1 = x := ⟨_, rfl⟩
  rw [hr] at HPC
  have OR := Lib.hid (show Ok g0 r from by rw [← hr]; exact pick_ok HGD.out.pos HRO.out n1)
  clear hr HRI
  refine (HPC.out).mono ?_
  rintro e w9 ⟨rfl, hw9⟩
  rw [hw9]
  clear hw9 w9
  clear HPC
  go_wp2_with fail
  have HIN := Lib.hid (inputs_calls n2 h2 X2)
  obtain ⟨m, hm⟩ : ∃ m, 8 + n2 % 4 = m := ⟨_, rfl⟩
  rw [hm] at HIN
  have HM : Hid (8 ≤ m ∧ m ≤ 11) := Lib.hid (by omega)
  clear hm
  refine (HIN.out).mono ?_
  rintro e w9 ⟨rfl, hw9⟩
  rw [hw9]
  clear hw9 w9
  clear HIN
  obtain ⟨p, hp⟩ : ∃ p, tseP g0 r m = p := ⟨_, rfl⟩
  obtain ⟨V, Lc⟩ := p
  have HE := Lib.hid (And.intro hp (tse_facts HGD.out HI8.out HL.out HM.out.1 HM.out.2 OR.out hp))
  clear hp
  obtain ⟨nc, hnc⟩ : ∃ n, Lc.length = n := ⟨_, rfl⟩
  have HNC := Lib.hid hnc
  clear hnc
  have q0 := (by have h := HCB.out.1; rw [HGL.out] at h; exact h)
  go_wp2_with fail
  clear q0
  have HCC := Lib.hid (tse_calls HE.out.1 ac cc X2 HCB.out.2.2 HGD.out (by have := HL.out; omega) OR.out (by have := HM.out; omega))
  rw [HGL.out, HNC.out] at HCC
  refine HCC.out.mono ?_
  rintro e V3 ⟨fa, fc, rfl, hcl, g⟩
  clear HCC
  obtain ⟨pf, Zf, Xf, hpf, hZf, hz0, hz1, hz2, hz3, hXf, hf0, hf1, hcl, g⟩ := boxF (w0 := X2) (v := (V : Int)) (n := nc) hcl g
  have HFB : Hid (CF Xf pf (V : Int) fa nc fc Lc) := Lib.hid ⟨hf0, hf1, hcl⟩
  clear hcl hf0 hf1
  replace HCB := Lib.hid (HCB.out.grown g)
  replace HG := Lib.hid (World.grownBy.trans HG.out g)
  clear g
  have q0 := (by have h := HCB.out.1; rw [HGL.out] at h; exact h)
  go_wp2_with fail
  clear q0
  clear hXf hZf hpf hz0 hz1 hz2 hz3
  obtain ⟨X, hX⟩ : ∃ X, extP g0 r m vals = X := ⟨_, rfl⟩
  have HXF := Lib.hid (HE.out.2.ext vals)
  rw [hX] at HXF
  obtain ⟨nx, hnx⟩ : ∃ n, X.length = n := ⟨_, rfl⟩
  have HNX : Hid (X.length = V) := Lib.hid HXF.out.1
  have HCC := Lib.hid (ext_calls hX HNV.out ac cc va vc Xf HCB.out.2.2 HGD.out (HV.out.grown HG.out) (by have := HL.out; omega) (by omega) OR.out (by have := HM.out; omega))
  rw [HGL.out, HNX.out] at HCC
  refine HCC.out.mono ?_
  rintro e V5 ⟨xa, xc, rfl, hxb, g⟩
  clear HCC hX hnx nx
  replace HCB := Lib.hid (HCB.out.grown g)
  replace HFB := Lib.hid (HFB.out.grown g)
  replace HG := Lib.hid (World.grownBy.trans HG.out g)
  clear g
  have HXB := Lib.hid hxb
  clear hxb
  have HLW := Lib.hid HE.out.2.low
  have e1 : ((V : Int) != (V : Int)) = false := by simp
  have e2 : decide ((V : Int) < (m : Int)) = false := decide_eq_false (by have := HLW.out; omega)
  have e3 : decide (V < m) = false := decide_eq_false (by have := HLW.out; omega)
  have q0 := HFB.out.1
  have q1 := HFB.out.2.1
  go_wp2_with fail
  clear q0 q1
  have HCC := Lib.hid (valid14_calls (V : Int) Lc fa fc V5 HFB.out.2.2 (by have := HE.out.2.len; omega) HE.out.2.three (by have := HE.out.2.top; omega))
  rw [HNC.out, HE.out.2.ok] at HCC
  refine HCC.out.mono ?_
  rintro e V6 ⟨rfl, g⟩
  clear HCC
  replace HCB := Lib.hid (HCB.out.grown g)
  replace HFB := Lib.hid (HFB.out.grown g)
  replace HXB := Lib.hid (HXB.out.grown g)
  replace HG := Lib.hid (World.grownBy.trans HG.out g)
  clear g
  go_wp2_with fail
  clear e1 e2 e3
  go_loopg [16] m (fun gk s16 wr => ∃ j : Nat, s16 = .int .i64 (j : Int) ∧ gk = m - j ∧ j ≤ m ∧ V6.grownBy wr none)
  case atStart => exact ⟨0, rfl, rfl, Nat.zero_le _, grown_refl _ _⟩
  case round =>
    obtain ⟨j, rfl, hgk, hjm, hgr⟩ := hrel
    obtain ⟨wo, hwo⟩ : ∃ z, z = wr := ⟨_, rfl⟩
    rw [← hwo] at hgr ⊢
    clear hwo
    have HJ := Lib.hid (And.intro hgk hgr)
    clear hgk hgr
    have hm11 := HM.out.2
    by_cases hj : j < m
    · have jB : decide (j < m) = true := decide_eq_true hj
      have jI : decide ((j : Int) < (m : Int)) = true := decide_eq_true (by omega)
      have hjV : (j : Int) < (V : Int) := by have := HE.out.2.low; omega
      obtain ⟨b, hb⟩ : ∃ b, (vals[j]?).getD false = b := ⟨_, rfl⟩
      have HXJ : X[j]? = some b := by
        have h := congrArg (fun z => z[j]?) HXF.out.2.1
        simp only [List.getElem?_take, if_pos hj, given_at hj] at h
        rw [h, hb]
      obtain ⟨xk, xo, rfl, cx⟩ := (HXB.out.grown HJ.out.2).at HXJ
      by_cases hjv : j < nv
      · have vB : decide (j < nv) = true := decide_eq_true hjv
        have vI : decide ((j : Int) < (nv : Int)) = true := decide_eq_true (by omega)
        have vI2 : (j : Int) < (nv : Int) := by omega
        have hvj : vals[j]? = some b := by
          rw [List.getElem?_eq_getElem (by rw [HNV.out]; exact hjv)] at hb ⊢
          exact congrArg some hb
        obtain ⟨vk, vo, rfl, cv⟩ := (HV.out.grown (World.grownBy.trans HG.out HJ.out.2)).at hvj
        clear hb HXJ hvj
        have eb : (b != b) = false := by simp
        go_wp2_with fail
        go_quiet (fail)
        go_wp2_with fail
        go_roundg (m - (j + 1))
        case measure => rw [HJ.out.1]; omega
        case rel => exact ⟨j + 1, rfl, rfl, by omega, World.grownBy.trans HJ.out.2 (grown_drewN _ _ _)⟩
      · have vB : decide (j < nv) = false := decide_eq_false hjv
        have vI : decide ((j : Int) < (nv : Int)) = false := decide_eq_false (by omega)
        have hvj : b = false := by
          rw [List.getElem?_eq_none (by rw [HNV.out]; omega)] at hb
          exact hb.symm
        subst hvj
        clear hb HXJ
        go_wp2_with fail
        go_quiet (fail)
        go_wp2_with fail
        go_roundg (m - (j + 1))
        case measure => rw [HJ.out.1]; omega
        case rel => exact ⟨j + 1, rfl, rfl, by omega, World.grownBy.trans HJ.out.2 (grown_drewN _ _ _)⟩
    · have hje : j = m := by omega
      subst hje
      have jB : decide (j < j) = false := by simp
      have jI : decide ((j : Int) < (j : Int)) = false := by simp
      have HCB := Lib.hid (HCB.out.grown HJ.out.2)
      have HFB := Lib.hid (HFB.out.grown HJ.out.2)
      have HXB := Lib.hid (HXB.out.grown HJ.out.2)
      have HG := Lib.hid (World.grownBy.trans HG.out HJ.out.2)
      go_wp2_with fail
      obtain ⟨xb, xo, hxa, hxz⟩ : ∃ b o, xa = some ⟨b, o, none⟩ ∧ BoolsW wo (some ⟨b, o, none⟩) xc (X.take j) := by
        have h1 := HXB.out.2
        rcases h1 with h1 | ⟨b, o, ha, hc⟩
        · exfalso; have h2 := HNX.out; rw [h1] at h2; simp at h2; have := HM.out; have := HLW.out; omega
        · refine ⟨b, o, ha, ?_, .inr ⟨b, o, rfl, fun i z hi => ?_⟩⟩
          · have := HXB.out.1; rw [List.length_take]; omega
          · rw [List.getElem?_take] at hi
            split at hi
            · exact hc i z hi
            · cases hi
      subst hxa
      have HXZ := Lib.hid hxz
      have HTK : Hid ((X.take j).length = j) := Lib.hid (by rw [List.length_take, HNX.out]; have := HLW.out; omega)
      have hxc : j ≤ xc := by have h1 := HXB.out.1; have h2 := HNX.out; have := HLW.out; omega
      have hxc2 : (j : Int) ≤ (xc : Int) := by omega
      have HSA := Lib.hid (fun (W : World) (hW : wo.grownBy W none) => (by
        have h := satisfies_calls (V : Int) Lc X fa (some ⟨xb, xo, none⟩) fc xc W (HFB.out.grown hW).2.2 (HXB.out.grown hW) (by have := HE.out.2.len; omega) HE.out.2.three (by have := HNX.out; have := HE.out.2.top; omega) HE.out.2.rng
        rw [HNC.out, HNX.out, HXF.out.2.2] at h
        exact h : Calls Tryd.prog 15 #[cnfV (V : Int) fa nc fc, .slice (some ⟨xb, xo, none⟩) V xc] W fun e w2 => e = .returned (.bool (evalC g0 (givenP j vals) r)) ∧ W.grownBy w2 none))
      have HEV := Lib.hid (fun (W : World) (hW : wo.grownBy W none) => (by
        have h := reval_calls g0 (X.take j) r ac cc (some ⟨xb, xo, none⟩) xc W (HCB.out.grown hW).2.2 HGD.out (HXZ.out.grown hW) (by have := HL.out; omega) (by have := HTK.out; have := HM.out; omega) (by have := OR.out.2; have := HL.out; omega)
        rw [HGL.out, HTK.out, HXF.out.2.1] at h
        exact h : Calls Tryd.prog 16 #[.agg #[.slice ac gl cc], .slice (some ⟨xb, xo, none⟩) j xc, .int .i64 r] W fun e w2 => e = .returned (.bool (evalC g0 (givenP j vals) r)) ∧ W.grownBy w2 none))
      clear hxz
      obtain ⟨q, hq⟩ : ∃ q, evalC g0 (givenP j vals) r = q := ⟨_, rfl⟩
      rw [hq] at HSA HEV
      clear hq
      have HS := Lib.hid (fun (Wh : World) (hWh : wo.grownBy Wh none) => (⟨hWh, hWh.cell (show wo.cell? ⟨p2, 0, none⟩ = some (.slice ac gl cc) from by have h := HCB.out.1; rw [HGL.out] at h; exact h) (by simp), hWh.cell HFB.out.1 (by simp), hWh.cell HFB.out.2.1 (by simp)⟩ : (fun Wh : World => wo.grownBy Wh none ∧ Wh.cell? ⟨p2, 0, none⟩ = some (.slice ac gl cc) ∧ Wh.cell? ⟨pf, 0, none⟩ = some (.int .i64 (V : Int)) ∧ Wh.cell? ⟨pf, 1, none⟩ = some (.slice fa nc fc)) Wh))
      have hdr : wo.grownBy wo.drew none := ⟨rfl, rfl, rfl, Nat.le_refl _, fun _ _ _ => rfl⟩
      refine wp_region_held_drew (S := (fun Wh : World => wo.grownBy Wh none ∧ Wh.cell? ⟨p2, 0, none⟩ = some (.slice ac gl cc) ∧ Wh.cell? ⟨pf, 0, none⟩ = some (.int .i64 (V : Int)) ∧ Wh.cell? ⟨pf, 1, none⟩ = some (.slice fa nc fc))) (by kernel_rfl) (HS.out _ hdr) (fun hHeld => ?_)
      refine wpAnyH_take (i := 0) (oi := { dst := some 82, op := Op.move (Operand.tmp 9), type := 4, pos := "law.go:77", after := #[], guard := none }) (v := ?_) rfl (by kernel_rfl) (by kernel_rfl) (by kernel_rfl) (fun _ _ _ h => h) (Or.inl ⟨by rfl, ?_⟩) (by assumption) ?_
      rotate_left 1
      · (intro W hSW; (try dsimp only at hSW); first | (go_simp; done) | (go_simp; with_reducible rfl))
      try simp only [Act.put, List.setIfInBounds_toArray, List.set_cons_zero, List.set_cons_succ]
      refine wpAnyH_take (i := 1) (oi := { dst := some 83, op := Op.move (Operand.tmp 82), type := 4, pos := "law.go:77", after := #[{ on := 0, ground := Ground.data }], guard := none }) (v := ?_) rfl (by kernel_rfl) (by kernel_rfl) (by kernel_rfl) (fun _ _ _ h => h) (Or.inl ⟨by rfl, ?_⟩) (by assumption) ?_
      rotate_left 1
      · (intro W hSW; (try dsimp only at hSW); first | (go_simp; done) | (go_simp; with_reducible rfl))
      try simp only [Act.put, List.setIfInBounds_toArray, List.set_cons_zero, List.set_cons_succ]
      refine wpAnyH_take (i := 2) (oi := { dst := some 84, op := Op.load 35 (Operand.tmp 14), type := 35, pos := "law.go:77", after := #[{ on := 1, ground := Ground.guard }], guard := some (1, true) }) (v := ?_) rfl (by kernel_rfl) (by kernel_rfl) (by kernel_rfl) (fun _ _ _ h => h) (Or.inl ⟨by rfl, ?_⟩) (by assumption) ?_
      rotate_left 1
      · (intro W hSW; (try dsimp only at hSW); first | (go_simp; done) | (go_simp; with_reducible rfl))
      try simp only [Act.put, List.setIfInBounds_toArray, List.set_cons_zero, List.set_cons_succ]
      refine wpAnyH_take (i := 3) (oi := { dst := some 85, op := Op.move (Operand.tmp 15), type := 23, pos := "law.go:77", after := #[{ on := 1, ground := Ground.guard }], guard := some (1, true) }) (v := ?_) rfl (by kernel_rfl) (by kernel_rfl) (by kernel_rfl) (fun _ _ _ h => h) (Or.inl ⟨by rfl, ?_⟩) (by assumption) ?_
      rotate_left 1
      · (intro W hSW; (try dsimp only at hSW); first | (go_simp; done) | (go_simp; with_reducible rfl))
      try simp only [Act.put, List.setIfInBounds_toArray, List.set_cons_zero, List.set_cons_succ]
      refine wpAnyH_take (i := 5) (oi := { dst := some 87, op := Op.load 27 (Operand.tmp 10), type := 27, pos := "law.go:77", after := #[{ on := 1, ground := Ground.guard }], guard := some (1, true) }) (v := ?_) rfl (by kernel_rfl) (by kernel_rfl) (by kernel_rfl) (fun _ _ _ h => h) (Or.inl ⟨by rfl, ?_⟩) (by assumption) ?_
      rotate_left 1
      · (intro W hSW; (try dsimp only at hSW); first | (go_simp; done) | (go_simp; with_reducible rfl))
      try simp only [Act.put, List.setIfInBounds_toArray, List.set_cons_zero, List.set_cons_succ]
      refine wpAnyH_take (i := 6) (oi := { dst := some 88, op := Op.move (Operand.tmp 15), type := 23, pos := "law.go:77", after := #[{ on := 1, ground := Ground.guard }], guard := some (1, true) }) (v := ?_) rfl (by kernel_rfl) (by kernel_rfl) (by kernel_rfl) (fun _ _ _ h => h) (Or.inl ⟨by rfl, ?_⟩) (by assumption) ?_
      rotate_left 1
      · (intro W hSW; (try dsimp only at hSW); first | (go_simp; done) | (go_simp; with_reducible rfl))
      try simp only [Act.put, List.setIfInBounds_toArray, List.set_cons_zero, List.set_cons_succ]
      refine wpAnyH_take (i := 7) (oi := { dst := some 89, op := Op.move (Operand.tmp 13), type := 3, pos := "law.go:77", after := #[{ on := 1, ground := Ground.guard }], guard := some (1, true) }) (v := ?_) rfl (by kernel_rfl) (by kernel_rfl) (by kernel_rfl) (fun _ _ _ h => h) (Or.inl ⟨by rfl, ?_⟩) (by assumption) ?_
      rotate_left 1
      · (intro W hSW; (try dsimp only at hSW); first | (go_simp; done) | (go_simp; with_reducible rfl))
      try simp only [Act.put, List.setIfInBounds_toArray, List.set_cons_zero, List.set_cons_succ]
      refine wpAnyH_take (i := 8) (oi := { dst := some 90, op := Op.slice 23 (Operand.tmp 88) none (some (Operand.tmp 89)) none, type := 23, pos := "law.go:77", after := #[{ on := 6, ground := Ground.data }, { on := 7, ground := Ground.data }, { on := 1, ground := Ground.guard }], guard := some (1, true) }) (v := ?_) rfl (by kernel_rfl) (by kernel_rfl) (by kernel_rfl) (fun _ _ _ h => h) (Or.inl ⟨by rfl, ?_⟩) (by assumption) ?_
      rotate_left 1
      · (intro W hSW; (try dsimp only at hSW); first | (go_simp; done) | (go_simp; with_reducible rfl))
      try simp only [Act.put, List.setIfInBounds_toArray, List.set_cons_zero, List.set_cons_succ]
      refine wpAnyH_take (i := 9) (oi := { dst := some 91, op := Op.move (Operand.tmp 12), type := 3, pos := "law.go:77", after := #[{ on := 1, ground := Ground.guard }], guard := some (1, true) }) (v := ?_) rfl (by kernel_rfl) (by kernel_rfl) (by kernel_rfl) (fun _ _ _ h => h) (Or.inl ⟨by rfl, ?_⟩) (by assumption) ?_
      rotate_left 1
      · (intro W hSW; (try dsimp only at hSW); first | (go_simp; done) | (go_simp; with_reducible rfl))
      try simp only [Act.put, List.setIfInBounds_toArray, List.set_cons_zero, List.set_cons_succ]
      refine wpAnyH_ready (rs := [4]) (by kernel_rfl) (by simp) ?_
      refine (AllReadyH.cons (o := { dst := some 86, op := Op.call { callee := Callee.value (Operand.func 15), args := #[Operand.tmp 84, Operand.tmp 85], argTypes := #[35, 23] }, type := 4, pos := "law.go:77", after := #[{ on := 2, ground := Ground.data }, { on := 3, ground := Ground.data }, { on := 1, ground := Ground.chain }, { on := 1, ground := Ground.guard }], guard := some (1, true) }) rfl (fun K hK => ?_) AllReadyH.nil)
      rw [if_pos (by rfl)]
      go_simp
      go_at_call 15
      refine (HSA.out _ hdr).mono ?_
      rintro e wc1 ⟨rfl, gc1⟩
      have hgr1 := World.grownBy.trans hdr gc1
      go_wp2_with fail
      refine hK.out _ _ (HS.out _ hgr1) (fun hHeld => ?_)
      clear hK K
      try simp only [Act.put, List.setIfInBounds_toArray, List.set_cons_zero, List.set_cons_succ]
      refine wpAnyH_ready (rs := [10]) (by kernel_rfl) (by simp) ?_
      refine (AllReadyH.cons (o := { dst := some 92, op := Op.call { callee := Callee.value (Operand.func 16), args := #[Operand.tmp 87, Operand.tmp 90, Operand.tmp 91], argTypes := #[27, 23, 3] }, type := 4, pos := "law.go:77", after := #[{ on := 5, ground := Ground.data }, { on := 8, ground := Ground.data }, { on := 9, ground := Ground.data }, { on := 4, ground := Ground.chain }, { on := 1, ground := Ground.guard }], guard := some (1, true) }) rfl (fun K hK => ?_) AllReadyH.nil)
      rw [if_pos (by rfl)]
      go_simp
      go_at_call 16
      refine (HEV.out _ hgr1).mono ?_
      rintro e wc2 ⟨rfl, gc2⟩
      have hgr2 := World.grownBy.trans hgr1 gc2
      go_wp2_with fail
      refine hK.out _ _ (HS.out _ hgr2) (fun hHeld => ?_)
      clear hK K
      try simp only [Act.put, List.setIfInBounds_toArray, List.set_cons_zero, List.set_cons_succ]
      refine wpAnyH_take (i := 11) (oi := { dst := some 93, op := Op.binOp BinOp.eql 4 (Operand.tmp 86) (Operand.tmp 92) 4, type := 4, pos := "law.go:77", after := #[{ on := 4, ground := Ground.data }, { on := 10, ground := Ground.data }, { on := 1, ground := Ground.guard }], guard := some (1, true) }) (v := ?_) rfl (by kernel_rfl) (by kernel_rfl) (by kernel_rfl) (fun _ _ _ h => h) (Or.inl ⟨by rfl, ?_⟩) (by assumption) ?_
      rotate_left 1
      · (intro W hSW; (try dsimp only at hSW); first | (go_simp; done) | (go_simp; with_reducible rfl))
      try simp only [Act.put, List.setIfInBounds_toArray, List.set_cons_zero, List.set_cons_succ]
      refine wpAnyH_take (i := 12) (oi := { dst := some 94, op := Op.pick (Operand.tmp 83) (Operand.tmp 93) (Operand.const (Value.bool false)), type := 4, pos := "law.go:77", after := #[{ on := 1, ground := Ground.data }, { on := 11, ground := Ground.data }], guard := none }) (v := ?_) rfl (by kernel_rfl) (by kernel_rfl) (by kernel_rfl) (fun _ _ _ h => h) (Or.inl ⟨by rfl, ?_⟩) (by assumption) ?_
      rotate_left 1
      · (intro W hSW; (try dsimp only at hSW); first | (go_simp; done) | (go_simp; with_reducible rfl))
      try simp only [Act.put, List.setIfInBounds_toArray, List.set_cons_zero, List.set_cons_succ]
      refine wpAnyH_take (i := 13) (oi := { dst := some 8, op := Op.assign (Operand.tmp 94), type := 4, pos := "law.go:77", after := #[{ on := 12, ground := Ground.data }, { on := 10, ground := Ground.chain }, { on := 0, ground := Ground.phase }, { on := 1, ground := Ground.phase }, { on := 2, ground := Ground.phase }, { on := 3, ground := Ground.phase }, { on := 4, ground := Ground.phase }, { on := 5, ground := Ground.phase }, { on := 6, ground := Ground.phase }, { on := 7, ground := Ground.phase }, { on := 8, ground := Ground.phase }, { on := 9, ground := Ground.phase }, { on := 10, ground := Ground.phase }, { on := 11, ground := Ground.phase }, { on := 12, ground := Ground.phase }], guard := none }) (v := ?_) rfl (by kernel_rfl) (by kernel_rfl) (by kernel_rfl) (fun _ _ _ h => h) (Or.inl ⟨by rfl, ?_⟩) (by assumption) ?_
      rotate_left 1
      · (intro W hSW; (try dsimp only at hSW); first | (go_simp; done) | (go_simp; with_reducible rfl))
      try simp only [Act.put, List.setIfInBounds_toArray, List.set_cons_zero, List.set_cons_succ]
      refine wpAnyH_done (by kernel_rfl) ?_ _
      have hEND := hgr2
      clear hHeld
      go_wp2_with fail
      go_ret
      exact ⟨rfl, World.grownBy.trans HG.out hEND⟩
end Go.Proofs.YthkjjiijjedipaaDoor

namespace Go.Proofs.YthkjjiijjedipaaDoor
open Go.RowKit
def BoxF (w : World) (b : Nat) : Prop := w.cell? ⟨b, 0, none⟩ = some (.int .i64 0) ∧ w.cell? ⟨b, 1, none⟩ = some (.slice none 0 0) ∧ w.frozen? ⟨b, 0, none⟩ = false ∧ w.frozen? ⟨b, 1, none⟩ = false
theorem BoxF.new (w : World) : BoxF (w.alloc (.cells #[.int .i64 0, .slice none 0 0] 35)) w.heap.size := by
  have e2 := one_cells w (.int .i64 0) (.slice none 0 0) 35
  exact ⟨e2.2.1, e2.2.2.1, e2.2.2.2.1, e2.2.2.2.2⟩
theorem BoxF.grown {w w' : World} {b : Nat} (h : BoxF w b) (hg : w.grownBy w' none) : BoxF w' b :=
  ⟨hg.cell h.1 (by simp), hg.cell h.2.1 (by simp), (grown_frozen hg (lies_lt h.1) 0).trans h.2.2.1, (grown_frozen hg (lies_lt h.1) 1).trans h.2.2.2⟩
/-- Two cells above what was there turn. -/
theorem set2_low {w w1 : World} {p : Nat} (h : w.grownBy w1 none) (hp : w.heap.size ≤ p) (x y : Value) : w.grownBy ((w1.setCell ⟨p, 0, none⟩ x).setCell ⟨p, 1, none⟩ y) none :=
  grown_own h ((grown_set w1 p 0 x).trans (grown_set _ p 1 y)) (fun k e => by cases e; exact hp)
/-- A formula is put into a box beneath it. -/
theorem CF.put {w : World} {p lo hi : Nat} {x : Int} {a : Option Addr} {n c : Nat} {l : List (List Int)} (hz : BoxF w p) (h : Span lo hi w (fun W => ClsW W a c l)) (hp : p < lo ∨ hi ≤ p) : CF ((w.setCell ⟨p, 0, none⟩ (.int .i64 x)).setCell ⟨p, 1, none⟩ (.slice a n c)) p x a n c l := by
  have hs := sets2 hz.1 hz.2.1 (.int .i64 x) (.slice a n c)
  exact ⟨hs.1, hs.2, (h.off ((grown_set w p 0 (.int .i64 x)).trans (grown_set _ p 1 (.slice a n c))) (fun k e => by cases e; exact hp)).here⟩
end Go.Proofs.YthkjjiijjedipaaDoor
