/- The law: as many models as satisfying assignments of the inputs. -/
import Derived.Test.YthkjjiijjedipaaDoorCF00
import Derived.BigQuiet
import Derived.Deep.RegionHeld3
import Derived.Deep.DeepCutAuto
namespace Go.Proofs.YthkjjiijjedipaaDoor
open Go.RowKit
set_option maxRecDepth 100000
set_option maxHeartbeats 16000000 in
theorem modelCount_calls (l : List Stp) (sa : Option Addr) (sc : Nat) (n1 : Nat) (w : World) (htab : Tab w) (h : StpsW w sa sc l) (hs : ∀ s ∈ l, StpOk s) (h1 : n1 < 256) :
    Calls Tryd.prog 5 #[.slice sa l.length sc, .int .u8 (n1 : Int)] w fun e w' => e = .returned (.bool true) ∧ w.grownBy w' none := by
  obtain ⟨N, hN⟩ : ∃ N, l.length = N := ⟨_, rfl⟩
  have HS := Lib.hid (And.intro h hs)
  have HT := Lib.hid htab
  have HN := Lib.hid hN
  rw [hN]
  clear h hs hN htab
  by_cases h60 : 30 < N
  · have f1 : decide ((30 : Int) < (N : Int)) = true := decide_eq_true (by omega)
    have f2 : decide (30 < N) = true := decide_eq_true h60
    go_enter Tryd.func5, Tryd.ntmps5
    go_wp2_with fail
    refine (head_calls _ HT.out).mono ?_
    rintro e V1 ⟨rfl, g⟩
    go_wp2_with fail
    go_ret
    exact ⟨rfl, g⟩
  have f1 : decide ((30 : Int) < (N : Int)) = false := decide_eq_false (by omega)
  have f2 : decide (30 < N) = false := decide_eq_false h60
  obtain ⟨p, hp⟩ : ∃ p, buildC l = p := ⟨_, rfl⟩
  obtain ⟨g0, refs⟩ := p
  have HB := Lib.hid (show Built (g0, refs) N by have := built l (by rw [HN.out]; omega); rw [hp, HN.out] at this; exact this)
  have HI8 := Lib.hid (show In8 g0 from by have := in8_build l; rw [hp] at this; exact this)
  have HP := Lib.hid hp
  clear hp
  have HG := Lib.hid (grown_refl w none)
  have HGD := Lib.hid (show Good g0 from HB.out.good)
  have HL := Lib.hid (show g0.length ≤ 91 from by have := HB.out.len; simp only at this; omega)
  have HRL := Lib.hid (show refs.length = N from HB.out.refs)
  have HRO := Lib.hid (show ∀ r ∈ refs, Ok g0 r from HB.out.ok)
  go_enter Tryd.func5, Tryd.ntmps5
  go_wp2_with fail
  refine (head_calls _ HT.out).mono ?_
  rintro e V1 ⟨rfl, g⟩
  replace HG := Lib.hid (World.grownBy.trans HG.out g)
  clear g
  go_wp2_with fail
  clear f1 f2
  have HBC := Lib.hid (rbuild_calls l sa sc V1 HP.out (HS.out.1.grown HG.out) (by rw [HN.out]; omega) HS.out.2)
  rw [HN.out] at HBC
  refine HBC.out.mono ?_
  rintro e V2 ⟨ac, cc, ra, rc, rfl, hr, hri, g⟩
  have HRI := Lib.hid hri
  replace HG := Lib.hid (World.grownBy.trans HG.out g)
  clear g
  clear hri HBC
  obtain ⟨gl, hgl⟩ : ∃ n, g0.length = n := ⟨_, rfl⟩
  have HGL := Lib.hid hgl
  rw [hgl]
  obtain ⟨p2, Z2, X2, hp2, hZ2, hz0, hz1, hX2, hx2, hcb, g⟩ := boxC hgl hr (grown_refl V2 none)
  have HCB := Lib.hid hcb
  clear hcb hgl hr hx2
  have HRI := Lib.hid (HRI.out.grown g)
  replace HG := Lib.hid (World.grownBy.trans HG.out g)
  clear g
  go_wp2_with fail
  clear hX2 hZ2 hp2 hz0 hz1
  have HPC := Lib.hid (pick_calls refs n1 ra rc X2 HRI.out (by rw [HRL.out]; omega) h1 (ok_le (by have := HL.out; omega) HRO.out))
  obtain ⟨r, hr⟩ : ∃ x, pickL refs n1 = x := ⟨_, rfl⟩
  rw [hr] at HPC
  have OR := Lib.hid (show Ok g0 r from by rw [← hr]; exact pick_ok HGD.out.pos HRO.out n1)
  clear hr HRI
  refine (HPC.out).mono ?_
  rintro e w9 ⟨rfl, hw9⟩
  rw [hw9]
  clear hw9 w9
  clear HPC
  obtain ⟨p, hp⟩ : ∃ p, tseP g0 r 8 = p := ⟨_, rfl⟩
  obtain ⟨V, Lc⟩ := p
  have HE := Lib.hid (And.intro hp (tse_facts HGD.out HI8.out HL.out (m := 8) (by decide) (by decide) OR.out hp))
  clear hp
  obtain ⟨nc, hnc⟩ : ∃ n, Lc.length = n := ⟨_, rfl⟩
  have HNC := Lib.hid hnc
  clear hnc
  have q0 := (by have h := HCB.out.1; rw [HGL.out] at h; exact h)
  go_wp2_with fail
  clear q0
  have HCC := Lib.hid (tse_calls HE.out.1 ac cc X2 HCB.out.2.2 HGD.out (by have := HL.out; omega) OR.out (by decide))
  rw [HGL.out, HNC.out] at HCC
  refine HCC.out.mono ?_
  rintro e V3 ⟨fa, fc, rfl, hcl, g⟩
  clear HCC
  obtain ⟨pf, Zf, Xf, hpf, hZf, hz0, hz1, hz2, hz3, hXf, hf0, hf1, hcl, g⟩ := boxF (w0 := X2) (v := (V : Int)) (n := nc) hcl g
  have HFB : Hid (CF Xf pf (V : Int) fa nc fc Lc) := Lib.hid ⟨hf0, hf1, hcl⟩
  clear hcl hf0 hf1
  replace HCB := Lib.hid (HCB.out.grown g)
  replace HG := Lib.hid (World.grownBy.trans HG.out g)
  clear g
  have hV150 := HE.out.2.top
  have hV8 := HE.out.2.low
  by_cases hV12 : 12 < V
  · have v1 : decide (12 < V) = true := decide_eq_true hV12
    have v2 : decide ((12 : Int) < (V : Int)) = true := decide_eq_true (by omega)
    have q0 := HFB.out.1
    have q1 := HFB.out.2.1
    go_wp2_with fail
    clear q0 q1
    go_ret
    exact ⟨rfl, HG.out⟩
  have v1 : decide (12 < V) = false := decide_eq_false hV12
  have v2 : decide ((12 : Int) < (V : Int)) = false := decide_eq_false (by omega)
  have v3 : decide ((V : Int) < 8) = false := decide_eq_false (by omega)
  have v4 : decide (V < 8) = false := decide_eq_false (by omega)
  obtain ⟨D, hD⟩ : ∃ D, V - 8 = D := ⟨_, rfl⟩
  have HD := Lib.hid hD
  have hD4 : D ≤ 4 := by omega
  have HVD : Hid (V = 8 + D) := Lib.hid (by omega)
  clear hD
  have HCM := Lib.hid (fun (b : Nat) => cnt_models HGD.out HI8.out OR.out HE.out.1 (by omega) (vB b) rfl)
  rw [HD.out] at HCM
  have q0 := HFB.out.1
  have q1 := HFB.out.2.1
  go_wp2_with fail
  clear q0 q1
  clear v1 v2 v3 v4 hV12
  clear hXf hZf hpf hz0 hz1 hz2 hz3
  obtain ⟨i0, hi0, hz0, hz1, hz2⟩ := info_parts info4
  go_loopg [10, 11, 12] 8 (fun gk s10 s11 s12 wr => ∃ b q : Nat, s10 = .int .i64 (q : Int) ∧ s11 = .int .i64 (q : Int) ∧ s12 = .int .i64 (b : Int) ∧ gk = 8 - b ∧ b ≤ 8 ∧ q ≤ b ∧ Xf.grownBy wr none)
  case atStart => exact ⟨0, 0, rfl, rfl, rfl, rfl, Nat.zero_le _, Nat.le_refl _, grown_refl _ _⟩
  case round =>
    obtain ⟨b, q, rfl, rfl, rfl, hgk, hb8, hqb, hgr⟩ := hrel
    obtain ⟨wo, hwo⟩ : ∃ z, z = wr := ⟨_, rfl⟩
    rw [← hwo] at hgr ⊢
    clear hwo
    have HI := Lib.hid (And.intro hgk hgr)
    clear hgk hgr
    by_cases hb : b < 8
    · have b1 : decide (b < 8) = true := decide_eq_true hb
      have b2 : decide ((b : Int) < 8) = true := decide_eq_true (by omega)
      obtain ⟨d0, hd0⟩ : ∃ d, decide (b % 2 = 1) = d := ⟨_, rfl⟩
      obtain ⟨d1, hd1⟩ : ∃ d, decide (b / 2 % 2 = 1) = d := ⟨_, rfl⟩
      obtain ⟨d2, hd2⟩ : ∃ d, decide (b / 4 % 2 = 1) = d := ⟨_, rfl⟩
      have HVB : Hid (vB b = [d0, d1, d2, false, false, false, false, false]) := Lib.hid (by unfold vB; rw [hd0, hd1, hd2])
      obtain ⟨N0, hN0⟩ : ∃ z, b % 2 = z := ⟨_, rfl⟩
      obtain ⟨Q1, hQ1⟩ : ∃ z, b / 2 = z := ⟨_, rfl⟩
      obtain ⟨Q2, hQ2⟩ : ∃ z, b / 4 = z := ⟨_, rfl⟩
      rw [hN0] at hd0
      rw [hQ1] at hd1
      rw [hQ2] at hd2
      obtain ⟨N1, hN1⟩ : ∃ z, Q1 % 2 = z := ⟨_, rfl⟩
      obtain ⟨N2, hN2⟩ : ∃ z, Q2 % 2 = z := ⟨_, rfl⟩
      rw [hN1] at hd1
      rw [hN2] at hd2
      have m0 : (b : Int).tmod 2 = (N0 : Int) := by rw [Int.tmod_eq_emod_of_nonneg (by omega)]; omega
      have k1 : (b : Int).tdiv 2 = (Q1 : Int) := by rw [Int.tdiv_eq_ediv_of_nonneg (by omega)]; omega
      have k2 : (b : Int).tdiv 4 = (Q2 : Int) := by rw [Int.tdiv_eq_ediv_of_nonneg (by omega)]; omega
      have m1 : (Q1 : Int).tmod 2 = (N1 : Int) := by rw [Int.tmod_eq_emod_of_nonneg (by omega)]; omega
      have m2 : (Q2 : Int).tmod 2 = (N2 : Int) := by rw [Int.tmod_eq_emod_of_nonneg (by omega)]; omega
      have w0 : IntKind.i64.wrap (N0 : Int) = (N0 : Int) := IntWalk.i64_in _ (by omega)
      have w1 : IntKind.i64.wrap (N1 : Int) = (N1 : Int) := IntWalk.i64_in _ (by omega)
      have w2 : IntKind.i64.wrap (N2 : Int) = (N2 : Int) := IntWalk.i64_in _ (by omega)
      have w3 : IntKind.i64.wrap (Q1 : Int) = (Q1 : Int) := IntWalk.i64_in _ (by omega)
      have w4 : IntKind.i64.wrap (Q2 : Int) = (Q2 : Int) := IntWalk.i64_in _ (by omega)
      have x0 : ((N0 : Int) == 1) = d0 := by rw [← hd0]; by_cases h : N0 = 1 <;> simp [h]; omega
      have x1 : ((N1 : Int) == 1) = d1 := by rw [← hd1]; by_cases h : N1 = 1 <;> simp [h]; omega
      have x2 : ((N2 : Int) == 1) = d2 := by rw [← hd2]; by_cases h : N2 = 1 <;> simp [h]; omega
      clear hN0 hQ1 hQ2 hN1 hN2 hd0 hd1 hd2
      obtain ⟨U, hU⟩ : ∃ z, wo.alloc (.cells #[.bool d0, .bool d1, .bool d2, .bool false, .bool false, .bool false, .bool false, .bool false] 4) = z := ⟨_, rfl⟩
      obtain ⟨ub, hub⟩ : ∃ z, wo.heap.size = z := ⟨_, rfl⟩
      have HVU : Hid (BoolsW U (some ⟨ub, 0, none⟩) 8 (vB b)) := Lib.hid (by rw [← hU, ← hub, HVB.out]; exact bools_lit wo [d0, d1, d2, false, false, false, false, false])
      have HGU : Hid (Xf.grownBy U none) := Lib.hid (by rw [← hU]; exact World.grownBy.trans HI.out.2 (World.grownBy_alloc wo _ none))
      have q0 := (by have h := (HCB.out.grown HGU.out).1; rw [HGL.out] at h; exact h : U.cell? ⟨p2, 0, none⟩ = some (.slice ac gl cc))
      have HEV := Lib.hid (by
        have h := reval_calls g0 (vB b) r ac cc (some ⟨ub, 0, none⟩) 8 U (HCB.out.grown HGU.out).2.2 HGD.out HVU.out (by have := HL.out; omega) (by simp [vB]) (by have := OR.out.2; have := HL.out; omega)
        rw [HGL.out] at h
        exact (h : Calls Tryd.prog 16 #[.agg #[.slice ac gl cc], .slice (some ⟨ub, 0, none⟩) 8 8, .int .i64 r] U fun e w2 => e = .returned (.bool (evalC g0 (vB b) r)) ∧ U.grownBy w2 none))
      go_wp2_with fail
      clear q0 m0 m1 m2 k1 k2 w0 w1 w2 w3 w4 x0 x1 x2 hU hub
      refine HEV.out.mono ?_
      rintro e U1 ⟨rfl, g⟩
      have HVU := Lib.hid (HVU.out.grown g)
      have HGU := Lib.hid (World.grownBy.trans HGU.out g)
      clear g HEV
      obtain ⟨f, hf⟩ : ∃ f : Nat → Bool, (fun n => decide (n / 2 ^ D = 0) && satP (vB b ++ bitsGo n D) Lc) = f := ⟨_, rfl⟩
      have HFN := Lib.hid (fun n => (congrFun hf n).symm)
      have hcm := HCM.out b
      rw [hf] at hcm
      obtain ⟨ev, hev⟩ : ∃ ev, evalC g0 (vB b) r = ev := ⟨_, rfl⟩
      rw [hev] at hcm
      rw [hev]
      have hq1 : IntKind.i64.wrap ((q : Int) + 1) = ((q + 1 : Nat) : Int) := by rw [IntWalk.i64_in _ (by omega)]; omega
      clear hf hev
      have HCB := Lib.hid (HCB.out.grown HGU.out)
      have HFB := Lib.hid (HFB.out.grown HGU.out)
      cases ev with
      | true =>
        have HCT : Hid (q + cntB f 16 = q + 1) := Lib.hid (by rw [hcm]; rfl)
        clear hcm
        go_wp2_with fail
        clear hq1
        go_loopg [11, 14] 16 (fun gk s11 s14 wr => ∃ n : Nat, s11 = .int .i64 ((q + cntB f n : Nat) : Int) ∧ s14 = .int .i64 (n : Int) ∧ gk = 16 - n ∧ n ≤ 16 ∧ U1.grownBy wr none)
        case atStart => exact ⟨0, rfl, rfl, rfl, Nat.zero_le _, grown_refl _ _⟩
        case round =>
          obtain ⟨n, rfl, rfl, hgk, hn16, hgr⟩ := hrel
          obtain ⟨wi, hwo⟩ : ∃ z, z = wr := ⟨_, rfl⟩
          rw [← hwo] at hgr ⊢
          clear hwo
          have HJ := Lib.hid (And.intro hgk hgr)
          clear hgk hgr
          have hcl := cnt_le16 f n
          obtain ⟨T, hT⟩ : ∃ T, q + cntB f n = T := ⟨_, rfl⟩
          rw [hT]
          have hT24 : T ≤ 24 := by omega
          have HTT := Lib.hid hT
          clear hT hcl
          by_cases hn : n < 16
          · have n1 : decide (n < 16) = true := decide_eq_true hn
            have n2 : decide ((n : Int) < 16) = true := decide_eq_true (by omega)
            have HVW := Lib.hid (HVU.out.grown HJ.out.2)
            go_wp2_with (at_builtin; refine append_bools rfl _ _ rfl wi.heap.size _ 0 [] rfl (World.ownsRow_made wi #[] 0 (Nat.le_refl _) (Nat.zero_le _) rfl) (some ⟨ub, 0, none⟩) 8 8 (vB b) rfl rfl (HVW.out.grown (World.grownBy_alloc wi _ none)) (by omega) (World.grownBy.size (World.grownBy_alloc wi (.cells #[] 4) none)) ?_)
            intro v' w9 hown' hgrow'
            have hown2 : w9.ownsRow wi.heap.size 4 1 v' 8 (boolCells (vB b)) := by simpa using hown'
            obtain ⟨ya, yc, rfl⟩ := own_shape hown2
            have hg0 : wi.grownBy w9 none := grown_own (World.grownBy_alloc wi _ none) hgrow' (fun j e => by simp [Value.ownBlock] at e; omega)
            obtain ⟨gB, hgB⟩ : ∃ z, wi.heap.size = z := ⟨_, rfl⟩
            rw [hgB] at hown2
            have HO9 := Lib.hid (And.intro hown2 hg0)
            have HGB := Lib.hid hgB
            clear hown' hown2 hgrow' hg0 hgB
            go_wp2_with fail
            clear n1 n2
            go_loopg [15, 16, 17] D (fun gk s15 s16 s17 wr => ∃ (d : Nat) (av : Option Addr) (cv : Nat), s15 = .slice av (8 + d) cv ∧ s16 = .int .i64 ((n / 2 ^ d : Nat) : Int) ∧ s17 = .int .i64 ((8 + d : Nat) : Int) ∧ gk = D - d ∧ d ≤ D ∧ wr.ownsRow gB 4 1 (.slice av (8 + d) cv) (8 + d) (boolCells (vB b ++ bitsGo n d)) ∧ wi.grownBy wr none)
            case atStart => exact ⟨0, ya, yc, rfl, by rw [Nat.pow_zero, Nat.div_one], rfl, rfl, Nat.zero_le _, by rw [bitsGo, List.append_nil]; exact HO9.out.1, HO9.out.2⟩
            case round =>
              obtain ⟨d, av, cv, rfl, rfl, rfl, hgk, hdD, hown, hgr⟩ := hrel
              obtain ⟨wj, hwo⟩ : ∃ z, z = wr := ⟨_, rfl⟩
              rw [← hwo] at hown hgr ⊢
              clear hwo
              have HK := Lib.hid (And.intro hgk (And.intro hown hgr))
              clear hgk hown hgr
              obtain ⟨R, hR⟩ : ∃ R, n / 2 ^ d = R := ⟨_, rfl⟩
              obtain ⟨E, hE⟩ : ∃ E, 8 + d = E := ⟨_, rfl⟩
              rw [hR, hE]
              have hR16 : R < 16 := by rw [← hR]; exact Nat.lt_of_le_of_lt (Nat.div_le_self _ _) hn
              have hE12 : E ≤ 12 := by omega
              have HR := Lib.hid hR
              have HEE := Lib.hid hE
              clear hR hE
              have HFW := Lib.hid (HFB.out.grown (World.grownBy.trans HJ.out.2 HK.out.2.2))
              have q0 := HFW.out.1
              have q1 := HFW.out.2.1
              by_cases hd : d < D
              · have e1 : decide (E < V) = true := decide_eq_true (by have := HVD.out; have := HEE.out; omega)
                have e2 : decide ((E : Int) < (V : Int)) = true := decide_eq_true (by have := HVD.out; have := HEE.out; omega)
                obtain ⟨y, hy⟩ : ∃ y, decide (R % 2 = 1) = y := ⟨_, rfl⟩
                have HY := Lib.hid hy
                obtain ⟨N3, hN3⟩ : ∃ z, R % 2 = z := ⟨_, rfl⟩
                obtain ⟨R2, hR2⟩ : ∃ z, R / 2 = z := ⟨_, rfl⟩
                rw [hN3] at hy
                have HR2 := Lib.hid hR2
                have m0 : (R : Int).tmod 2 = (N3 : Int) := by rw [Int.tmod_eq_emod_of_nonneg (by omega)]; omega
                have k1 : (R : Int).tdiv 2 = (R2 : Int) := by rw [Int.tdiv_eq_ediv_of_nonneg (by omega)]; omega
                have w0 : IntKind.i64.wrap (N3 : Int) = (N3 : Int) := IntWalk.i64_in _ (by omega)
                have w3 : IntKind.i64.wrap (R2 : Int) = (R2 : Int) := IntWalk.i64_in _ (by omega)
                have x0 : ((N3 : Int) == 1) = y := by rw [← hy]; by_cases h : N3 = 1 <;> simp [h]; omega
                obtain ⟨Lg, hLg⟩ : ∃ z, boolCells (vB b ++ bitsGo n d) = z := ⟨_, rfl⟩
                have HLC := Lib.hid hLg
                have HOW : Hid (wj.ownsRow gB 4 1 (.slice av E cv) E Lg) := Lib.hid (by have h := HK.out.2.1; rw [hLg, HEE.out] at h; exact h)
                clear hLg hy hN3 hR2
                have hnew := cell_bool_new wj y 4
                have HSZ : Hid (gB ≤ wj.heap.size) := Lib.hid (by rw [← HGB.out]; exact HK.out.2.2.size)
                go_wp2_with (at_builtin; refine wpList_append_own_at _ rfl _ _ 23 rfl gB 4 i0 (.bool false) 1 1 Tryd.underlying23 hi0 hz0 hz1 hz2 rfl (by decide) _ E Lg rfl (HOW.out.alloc _) ⟨wj.heap.size, 0, none⟩ 1 1 [.bool y] rfl rfl hnew (fun u hu => by simp at hu; subst hu; rfl) (by unfold maxLen; omega) (by omega) (by have := HSZ.out; simp; omega) ?_)
                intro v' w7 hown' hgrow7 _ hat7
                obtain ⟨rgA, rcA, rfl⟩ := own_shape hown'
                have HST := Lib.hid (And.intro hown' (grown_own (World.grownBy.trans HK.out.2.2 (World.grownBy_alloc wj (.cells #[.bool y] 4) none)) hgrow7 (fun x e => by rw [HGB.out]; exact (HOW.out.lt x e).1)))
                clear hown' hgrow7 hat7 hnew
                go_wp2_with fail
                go_roundg (D - (d + 1))
                case measure => rw [HK.out.1]; omega
                case rel => exact ⟨d + 1, rgA, rcA, by rw [← HEE.out]; rfl, by rw [Nat.pow_succ, ← Nat.div_div_eq_div_mul, HR.out, HR2.out], by rw [← HEE.out]; rfl, rfl, by omega, by rw [bitsGo, ← List.append_assoc, boolCells, List.map_append, ← boolCells, HLC.out, HR.out, HY.out, show 8 + (d + 1) = E + 1 by rw [← HEE.out]; rfl]; exact HST.out.1, HST.out.2⟩
              · have hde : d = D := by omega
                subst hde
                have e1 : decide (E < V) = false := decide_eq_false (by have := HVD.out; have := HEE.out; omega)
                have e2 : decide ((E : Int) < (V : Int)) = false := decide_eq_false (by have := HVD.out; have := HEE.out; omega)
                have hEV : (vB b ++ bitsGo n d).length = E := by rw [List.length_append, bits_len, ← HEE.out]; rfl
                have HBW : Hid (BoolsW wj av cv (vB b ++ bitsGo n d)) := Lib.hid (by
                  have h := HK.out.2.1
                  rw [HEE.out, ← hEV] at h
                  obtain ⟨a9, c9, e9, h9⟩ := bools_span h
                  cases e9
                  exact h9.here)
                have hfn := HFN.out n
                rw [HR.out] at hfn
                have HGN := Lib.hid (World.grownBy.trans HJ.out.2 HK.out.2.2)
                have hT1 : IntKind.i64.wrap ((T : Int) + 1) = ((T + 1 : Nat) : Int) := by rw [IntWalk.i64_in _ (by omega)]; omega
                have HCC := Lib.hid (by
                  have h := satisfies_calls (V : Int) Lc (vB b ++ bitsGo n d) fa av fc cv wj HFW.out.2.2 HBW.out (by have := HE.out.2.len; omega) HE.out.2.three (by rw [hEV]; omega) HE.out.2.rng
                  rw [HNC.out, hEV] at h
                  exact h)
                clear hEV
                by_cases hz : R = 0
                · have z1 : ((R : Int) == 0) = true := by rw [hz]; rfl
                  rw [decide_eq_true hz, Bool.true_and] at hfn
                  obtain ⟨sv, hsv⟩ : ∃ s, satP (vB b ++ bitsGo n d) Lc = s := ⟨_, rfl⟩
                  rw [hsv] at hfn HCC
                  clear hz hsv
                  go_wp2_with fail
                  refine HCC.out.mono ?_
                  rintro e w8 ⟨rfl, g8⟩
                  have HGN := Lib.hid (World.grownBy.trans HGN.out g8)
                  clear g8 HCC q0 q1 e1 e2 z1
                  cases sv with
                  | true =>
                    have HCN : Hid (q + cntB f (n + 1) = T + 1) := Lib.hid (by rw [cntB, hfn, ← HTT.out]; rfl)
                    clear hfn
                    go_wp2_with fail
                    go_roundg (16 - (n + 1))
                    case measure => rw [HJ.out.1]; omega
                    case rel => exact ⟨n + 1, by rw [HCN.out]; go_num, rfl, rfl, by omega, HGN.out⟩
                  | false =>
                    have HCN : Hid (q + cntB f (n + 1) = T) := Lib.hid (by rw [cntB, hfn, ← HTT.out]; rfl)
                    clear hfn
                    go_wp2_with fail
                    go_roundg (16 - (n + 1))
                    case measure => rw [HJ.out.1]; omega
                    case rel => exact ⟨n + 1, by rw [HCN.out], rfl, rfl, by omega, HGN.out⟩
                · have z1 : ((R : Int) == 0) = false := by simp; omega
                  rw [decide_eq_false hz, Bool.false_and] at hfn
                  have HCN : Hid (q + cntB f (n + 1) = T) := Lib.hid (by rw [cntB, hfn, ← HTT.out]; rfl)
                  clear hfn hz HCC
                  go_wp2_with fail
                  go_roundg (16 - (n + 1))
                  case measure => rw [HJ.out.1]; omega
                  case rel => exact ⟨n + 1, by rw [HCN.out], rfl, rfl, by omega, HGN.out⟩
          · have hne : n = 16 := by omega
            subst hne
            have HTQ := Lib.hid (HTT.out.symm.trans HCT.out)
            have n1 : decide (16 < 16) = false := by decide
            go_wp2_with fail
            go_roundg (8 - (b + 1))
            case measure => rw [HI.out.1]; omega
            case rel => exact ⟨b + 1, q + 1, rfl, by rw [HTQ.out], rfl, rfl, by omega, by omega, World.grownBy.trans HGU.out HJ.out.2⟩
      | false =>
        have HCT : Hid (q + cntB f 16 = q) := Lib.hid (by rw [hcm]; rfl)
        clear hcm
        go_wp2_with fail
        clear hq1
        go_loopg [11, 14] 16 (fun gk s11 s14 wr => ∃ n : Nat, s11 = .int .i64 ((q + cntB f n : Nat) : Int) ∧ s14 = .int .i64 (n : Int) ∧ gk = 16 - n ∧ n ≤ 16 ∧ U1.grownBy wr none)
        case atStart => exact ⟨0, rfl, rfl, rfl, Nat.zero_le _, grown_refl _ _⟩
        case round =>
          obtain ⟨n, rfl, rfl, hgk, hn16, hgr⟩ := hrel
          obtain ⟨wi, hwo⟩ : ∃ z, z = wr := ⟨_, rfl⟩
          rw [← hwo] at hgr ⊢
          clear hwo
          have HJ := Lib.hid (And.intro hgk hgr)
          clear hgk hgr
          have hcl := cnt_le16 f n
          obtain ⟨T, hT⟩ : ∃ T, q + cntB f n = T := ⟨_, rfl⟩
          rw [hT]
          have hT24 : T ≤ 24 := by omega
          have HTT := Lib.hid hT
          clear hT hcl
          by_cases hn : n < 16
          · have n1 : decide (n < 16) = true := decide_eq_true hn
            have n2 : decide ((n : Int) < 16) = true := decide_eq_true (by omega)
            have HVW := Lib.hid (HVU.out.grown HJ.out.2)
            go_wp2_with (at_builtin; refine append_bools rfl _ _ rfl wi.heap.size _ 0 [] rfl (World.ownsRow_made wi #[] 0 (Nat.le_refl _) (Nat.zero_le _) rfl) (some ⟨ub, 0, none⟩) 8 8 (vB b) rfl rfl (HVW.out.grown (World.grownBy_alloc wi _ none)) (by omega) (World.grownBy.size (World.grownBy_alloc wi (.cells #[] 4) none)) ?_)
            intro v' w9 hown' hgrow'
            have hown2 : w9.ownsRow wi.heap.size 4 1 v' 8 (boolCells (vB b)) := by simpa using hown'
            obtain ⟨ya, yc, rfl⟩ := own_shape hown2
            have hg0 : wi.grownBy w9 none := grown_own (World.grownBy_alloc wi _ none) hgrow' (fun j e => by simp [Value.ownBlock] at e; omega)
            obtain ⟨gB, hgB⟩ : ∃ z, wi.heap.size = z := ⟨_, rfl⟩
            rw [hgB] at hown2
            have HO9 := Lib.hid (And.intro hown2 hg0)
            have HGB := Lib.hid hgB
            clear hown' hown2 hgrow' hg0 hgB
            go_wp2_with fail
            clear n1 n2
            go_loopg [15, 16, 17] D (fun gk s15 s16 s17 wr => ∃ (d : Nat) (av : Option Addr) (cv : Nat), s15 = .slice av (8 + d) cv ∧ s16 = .int .i64 ((n / 2 ^ d : Nat) : Int) ∧ s17 = .int .i64 ((8 + d : Nat) : Int) ∧ gk = D - d ∧ d ≤ D ∧ wr.ownsRow gB 4 1 (.slice av (8 + d) cv) (8 + d) (boolCells (vB b ++ bitsGo n d)) ∧ wi.grownBy wr none)
            case atStart => exact ⟨0, ya, yc, rfl, by rw [Nat.pow_zero, Nat.div_one], rfl, rfl, Nat.zero_le _, by rw [bitsGo, List.append_nil]; exact HO9.out.1, HO9.out.2⟩
            case round =>
              obtain ⟨d, av, cv, rfl, rfl, rfl, hgk, hdD, hown, hgr⟩ := hrel
              obtain ⟨wj, hwo⟩ : ∃ z, z = wr := ⟨_, rfl⟩
              rw [← hwo] at hown hgr ⊢
              clear hwo
              have HK := Lib.hid (And.intro hgk (And.intro hown hgr))
              clear hgk hown hgr
              obtain ⟨R, hR⟩ : ∃ R, n / 2 ^ d = R := ⟨_, rfl⟩
              obtain ⟨E, hE⟩ : ∃ E, 8 + d = E := ⟨_, rfl⟩
              rw [hR, hE]
              have hR16 : R < 16 := by rw [← hR]; exact Nat.lt_of_le_of_lt (Nat.div_le_self _ _) hn
              have hE12 : E ≤ 12 := by omega
              have HR := Lib.hid hR
              have HEE := Lib.hid hE
              clear hR hE
              have HFW := Lib.hid (HFB.out.grown (World.grownBy.trans HJ.out.2 HK.out.2.2))
              have q0 := HFW.out.1
              have q1 := HFW.out.2.1
              by_cases hd : d < D
              · have e1 : decide (E < V) = true := decide_eq_true (by have := HVD.out; have := HEE.out; omega)
                have e2 : decide ((E : Int) < (V : Int)) = true := decide_eq_true (by have := HVD.out; have := HEE.out; omega)
                obtain ⟨y, hy⟩ : ∃ y, decide (R % 2 = 1) = y := ⟨_, rfl⟩
                have HY := Lib.hid hy
                obtain ⟨N3, hN3⟩ : ∃ z, R % 2 = z := ⟨_, rfl⟩
                obtain ⟨R2, hR2⟩ : ∃ z, R / 2 = z := ⟨_, rfl⟩
                rw [hN3] at hy
                have HR2 := Lib.hid hR2
                have m0 : (R : Int).tmod 2 = (N3 : Int) := by rw [Int.tmod_eq_emod_of_nonneg (by omega)]; omega
                have k1 : (R : Int).tdiv 2 = (R2 : Int) := by rw [Int.tdiv_eq_ediv_of_nonneg (by omega)]; omega
                have w0 : IntKind.i64.wrap (N3 : Int) = (N3 : Int) := IntWalk.i64_in _ (by omega)
                have w3 : IntKind.i64.wrap (R2 : Int) = (R2 : Int) := IntWalk.i64_in _ (by omega)
                have x0 : ((N3 : Int) == 1) = y := by rw [← hy]; by_cases h : N3 = 1 <;> simp [h]; omega
                obtain ⟨Lg, hLg⟩ : ∃ z, boolCells (vB b ++ bitsGo n d) = z := ⟨_, rfl⟩
                have HLC := Lib.hid hLg
                have HOW : Hid (wj.ownsRow gB 4 1 (.slice av E cv) E Lg) := Lib.hid (by have h := HK.out.2.1; rw [hLg, HEE.out] at h; exact h)
                clear hLg hy hN3 hR2
                have hnew := cell_bool_new wj y 4
                have HSZ : Hid (gB ≤ wj.heap.size) := Lib.hid (by rw [← HGB.out]; exact HK.out.2.2.size)
                go_wp2_with (at_builtin; refine wpList_append_own_at _ rfl _ _ 23 rfl gB 4 i0 (.bool false) 1 1 Tryd.underlying23 hi0 hz0 hz1 hz2 rfl (by decide) _ E Lg rfl (HOW.out.alloc _) ⟨wj.heap.size, 0, none⟩ 1 1 [.bool y] rfl rfl hnew (fun u hu => by simp at hu; subst hu; rfl) (by unfold maxLen; omega) (by omega) (by have := HSZ.out; simp; omega) ?_)
                intro v' w7 hown' hgrow7 _ hat7
                obtain ⟨rgA, rcA, rfl⟩ := own_shape hown'
                have HST := Lib.hid (And.intro hown' (grown_own (World.grownBy.trans HK.out.2.2 (World.grownBy_alloc wj (.cells #[.bool y] 4) none)) hgrow7 (fun x e => by rw [HGB.out]; exact (HOW.out.lt x e).1)))
                clear hown' hgrow7 hat7 hnew
                go_wp2_with fail
                go_roundg (D - (d + 1))
                case measure => rw [HK.out.1]; omega
                case rel => exact ⟨d + 1, rgA, rcA, by rw [← HEE.out]; rfl, by rw [Nat.pow_succ, ← Nat.div_div_eq_div_mul, HR.out, HR2.out], by rw [← HEE.out]; rfl, rfl, by omega, by rw [bitsGo, ← List.append_assoc, boolCells, List.map_append, ← boolCells, HLC.out, HR.out, HY.out, show 8 + (d + 1) = E + 1 by rw [← HEE.out]; rfl]; exact HST.out.1, HST.out.2⟩
              · have hde : d = D := by omega
                subst hde
                have e1 : decide (E < V) = false := decide_eq_false (by have := HVD.out; have := HEE.out; omega)
                have e2 : decide ((E : Int) < (V : Int)) = false := decide_eq_false (by have := HVD.out; have := HEE.out; omega)
                have hEV : (vB b ++ bitsGo n d).length = E := by rw [List.length_append, bits_len, ← HEE.out]; rfl
                have HBW : Hid (BoolsW wj av cv (vB b ++ bitsGo n d)) := Lib.hid (by
                  have h := HK.out.2.1
                  rw [HEE.out, ← hEV] at h
                  obtain ⟨a9, c9, e9, h9⟩ := bools_span h
                  cases e9
                  exact h9.here)
                have hfn := HFN.out n
                rw [HR.out] at hfn
                have HGN := Lib.hid (World.grownBy.trans HJ.out.2 HK.out.2.2)
                have hT1 : IntKind.i64.wrap ((T : Int) + 1) = ((T + 1 : Nat) : Int) := by rw [IntWalk.i64_in _ (by omega)]; omega
                have HCC := Lib.hid (by
                  have h := satisfies_calls (V : Int) Lc (vB b ++ bitsGo n d) fa av fc cv wj HFW.out.2.2 HBW.out (by have := HE.out.2.len; omega) HE.out.2.three (by rw [hEV]; omega) HE.out.2.rng
                  rw [HNC.out, hEV] at h
                  exact h)
                clear hEV
                by_cases hz : R = 0
                · have z1 : ((R : Int) == 0) = true := by rw [hz]; rfl
                  rw [decide_eq_true hz, Bool.true_and] at hfn
                  obtain ⟨sv, hsv⟩ : ∃ s, satP (vB b ++ bitsGo n d) Lc = s := ⟨_, rfl⟩
                  rw [hsv] at hfn HCC
                  clear hz hsv
                  go_wp2_with fail
                  refine HCC.out.mono ?_
                  rintro e w8 ⟨rfl, g8⟩
                  have HGN := Lib.hid (World.grownBy.trans HGN.out g8)
                  clear g8 HCC q0 q1 e1 e2 z1
                  cases sv with
                  | true =>
                    have HCN : Hid (q + cntB f (n + 1) = T + 1) := Lib.hid (by rw [cntB, hfn, ← HTT.out]; rfl)
                    clear hfn
                    go_wp2_with fail
                    go_roundg (16 - (n + 1))
                    case measure => rw [HJ.out.1]; omega
                    case rel => exact ⟨n + 1, by rw [HCN.out]; go_num, rfl, rfl, by omega, HGN.out⟩
                  | false =>
                    have HCN : Hid (q + cntB f (n + 1) = T) := Lib.hid (by rw [cntB, hfn, ← HTT.out]; rfl)
                    clear hfn
                    go_wp2_with fail
                    go_roundg (16 - (n + 1))
                    case measure => rw [HJ.out.1]; omega
                    case rel => exact ⟨n + 1, by rw [HCN.out], rfl, rfl, by omega, HGN.out⟩
                · have z1 : ((R : Int) == 0) = false := by simp; omega
                  rw [decide_eq_false hz, Bool.false_and] at hfn
                  have HCN : Hid (q + cntB f (n + 1) = T) := Lib.hid (by rw [cntB, hfn, ← HTT.out]; rfl)
                  clear hfn hz HCC
                  go_wp2_with fail
                  go_roundg (16 - (n + 1))
                  case measure => rw [HJ.out.1]; omega
                  case rel => exact ⟨n + 1, by rw [HCN.out], rfl, rfl, by omega, HGN.out⟩
          · have hne : n = 16 := by omega
            subst hne
            have HTQ := Lib.hid (HTT.out.symm.trans HCT.out)
            have n1 : decide (16 < 16) = false := by decide
            go_wp2_with fail
            go_roundg (8 - (b + 1))
            case measure => rw [HI.out.1]; omega
            case rel => exact ⟨b + 1, q, rfl, by rw [HTQ.out], rfl, rfl, by omega, by omega, World.grownBy.trans HGU.out HJ.out.2⟩
    · have hbe : b = 8 := by omega
      subst hbe
      have eqq : ((q : Int) == (q : Int)) = true := by simp
      go_wp2_with fail
      go_ret
      exact ⟨rfl, World.grownBy.trans HG.out HI.out.2⟩
end Go.Proofs.YthkjjiijjedipaaDoor
