/- The law: a step keeps all gates, and the values of old references. -/
import Derived.Test.YtllljcbdinckgaaL5a
namespace Go.Proofs.Ytllljcbdinckgaa
open Go.RowKit

theorem pre_at {gs hs : List Gt} (h : gs <+: hs) {i : Nat} {g : Gt} (hg : gs[i]? = some g) : hs[i]? = some g := by
  obtain ⟨t, rfl⟩ := h
  rw [List.getElem?_append_left (List.getElem?_eq_some_iff.1 hg).1]; exact hg
theorem stp_cells (w : World) (s : Stp) : StpAt (w.alloc (.cells #[.int .u8 (s.1 : Int), .int .u8 (s.2.1 : Int), .int .u8 (s.2.2 : Int)] 42)) w.heap.size 0 s := ⟨by go_simp, by go_simp, by go_simp⟩
/-- The copy of a row of gates. -/
theorem own_gates {w : World} {B : Nat} {v : Value} {n : Nat} {l : List Gt} (hn : l.length = n) (h : w.ownsRow B 47 3 v n (gateCells l)) : ∃ a c, v = .slice a n c ∧ GatesW w a c l := by
  subst hn
  obtain ⟨a, c, e, hs⟩ := gates_span h
  exact ⟨a, c, e, hs.here⟩
set_option maxRecDepth 100000 in
set_option maxHeartbeats 4000000 in
theorem extends_calls (l : List Stp) (sa : Option Addr) (sc : Nat) (s1 s2 : Stp) (n : Nat) (vals : List Bool) (va : Option Addr) (vc : Nat) (w : World) (h : StpsW w sa sc l) (hs : ∀ s ∈ l, StpOk s) (h1 : StpOk s1) (h2 : StpOk s2) (hn : n < 256) (hv : BoolsW w va vc vals) :
    Calls Try.prog 6 #[.slice sa l.length sc, stpV s1, stpV s2, .int .u8 (n : Int), .slice va vals.length vc] w fun e w' => e = .returned (.bool true) ∧ w.grownBy w' none := by
  obtain ⟨N, hN⟩ : ∃ N, l.length = N := ⟨_, rfl⟩
  have HS := Lib.hid (And.intro h hs)
  have HN := Lib.hid hN
  obtain ⟨nv, hnv⟩ : ∃ n, vals.length = n := ⟨_, rfl⟩
  have HNV := Lib.hid hnv
  have ga := World.grownBy_alloc w (.cells #[.int .u8 (s1.1 : Int), .int .u8 (s1.2.1 : Int), .int .u8 (s1.2.2 : Int)] 42) none
  have sa1 := stp_cells w s1
  obtain ⟨W1, hW1⟩ : ∃ z, World.alloc w (.cells #[.int .u8 (s1.1 : Int), .int .u8 (s1.2.1 : Int), .int .u8 (s1.2.2 : Int)] 42) = z := ⟨_, rfl⟩
  rw [hW1] at ga sa1
  have gb := World.grownBy_alloc W1 (.cells #[.int .u8 (s2.1 : Int), .int .u8 (s2.2.1 : Int), .int .u8 (s2.2.2 : Int)] 42) none
  have sb := stp_cells W1 s2
  obtain ⟨W2, hW2⟩ : ∃ z, World.alloc W1 (.cells #[.int .u8 (s2.1 : Int), .int .u8 (s2.2.1 : Int), .int .u8 (s2.2.2 : Int)] 42) = z := ⟨_, rfl⟩
  rw [hW2] at gb sb
  have HBV := Lib.hid ((hv.grown ga).grown gb)
  have HQ1 := Lib.hid (sa1.grown gb)
  have HQ2 := Lib.hid sb
  have HW := Lib.hid (World.grownBy.trans ga gb)
  have HSS := Lib.hid (And.intro h1 h2)
  rw [hN, hnv]
  clear h hs hN hnv hv ga gb sa1 sb h1 h2
  by_cases h60 : 60 < N
  · have f1 : decide ((60 : Int) < (N : Int)) = true := decide_eq_true (by omega)
    have f2 : decide (60 < N) = true := decide_eq_true h60
    go_enter Try.func6, Try.ntmps6
    go_wp2_with fail
    go_at_call 10
    refine (head_calls _).mono ?_
    rintro e V1 ⟨rfl, g⟩
    go_wp2_with fail
    go_ret
    exact ⟨rfl, World.grownBy.trans HW.out g⟩
  have f1 : decide ((60 : Int) < (N : Int)) = false := decide_eq_false (by omega)
  have f2 : decide (60 < N) = false := decide_eq_false h60
  by_cases h61 : 60 < nv
  · have f3 : decide ((60 : Int) < (nv : Int)) = true := decide_eq_true (by omega)
    have f4 : decide (60 < nv) = true := decide_eq_true h61
    go_enter Try.func6, Try.ntmps6
    go_wp2_with fail
    go_at_call 10
    refine (head_calls _).mono ?_
    rintro e V1 ⟨rfl, g⟩
    go_wp2_with fail
    go_ret
    exact ⟨rfl, World.grownBy.trans HW.out g⟩
  have f3 : decide ((60 : Int) < (nv : Int)) = false := decide_eq_false (by omega)
  have f4 : decide (60 < nv) = false := decide_eq_false h61
  obtain ⟨p, hp⟩ : ∃ p, buildC l = p := ⟨_, rfl⟩
  obtain ⟨g0, refs⟩ := p
  have HB := Lib.hid (show Built (g0, refs) N by have := built l (by rw [HN.out]; omega); rw [hp, HN.out] at this; exact this)
  have HP := Lib.hid hp
  clear hp
  have HG := HW
  have HGD := Lib.hid (show Good g0 from HB.out.good)
  have HL := Lib.hid (show g0.length ≤ 181 from by have := HB.out.len; simp only at this; omega)
  have HRL := Lib.hid (show refs.length = N from HB.out.refs)
  have HRO := Lib.hid (show ∀ r ∈ refs, Ok g0 r from HB.out.ok)
  go_enter Try.func6, Try.ntmps6
  go_wp2_with fail
  go_at_call 10
  refine (head_calls _).mono ?_
  rintro e V1 ⟨rfl, g⟩
  replace HBV := Lib.hid (HBV.out.grown g)
  replace HQ1 := Lib.hid (HQ1.out.grown g)
  replace HQ2 := Lib.hid (HQ2.out.grown g)
  replace HG := Lib.hid (World.grownBy.trans HG.out g)
  clear g
  go_wp2_with fail
  go_at_call 29
  have HBC := Lib.hid (build_calls l sa sc V1 HP.out (HS.out.1.grown HG.out) (by rw [HN.out]; omega) HS.out.2)
  rw [HN.out] at HBC
  refine HBC.out.mono ?_
  rintro e V2 ⟨a2, c2, ra, rc, rfl, hr, hri, g⟩
  replace HBV := Lib.hid (HBV.out.grown g)
  replace HQ1 := Lib.hid (HQ1.out.grown g)
  replace HQ2 := Lib.hid (HQ2.out.grown g)
  replace HG := Lib.hid (World.grownBy.trans HG.out g)
  clear g
  have HRI := Lib.hid hri
  clear hri HBC
  go_upto_region 5 with fail
  have hb := CB.new hr
  have g := World.grownBy_alloc V2 (.cells #[.slice a2 g0.length c2] 25) none
  obtain ⟨V3, hV3⟩ : ∃ z, World.alloc V2 (.cells #[.slice a2 g0.length c2] 25) = z := ⟨_, rfl⟩
  rw [hV3] at g hb ⊢
  clear hV3 hr
  obtain ⟨bc, hbb⟩ : ∃ b, V2.heap.size = b := ⟨_, rfl⟩
  rw [hbb] at hb ⊢
  have Lc := Lib.hid (Nat.le_of_eq hbb)
  have Zc := Lib.hid (Nat.le_trans (World.grownBy.size HG.out) (Nat.le_of_eq hbb))
  clear hbb
  replace HBV := Lib.hid (HBV.out.grown g)
  replace HQ1 := Lib.hid (HQ1.out.grown g)
  replace HQ2 := Lib.hid (HQ2.out.grown g)
  replace HRI := Lib.hid (HRI.out.grown g)
  replace HG := Lib.hid (World.grownBy.trans HG.out g)
  clear g
  have Hc := Lib.hid hb
  clear hb
  clear f1 f2 f3 f4
  have qc := Hc.out.1
  have fc := Hc.out.2.1
  have qz := (World.grownBy_alloc V3 (.cells #[] 47) none).cell Hc.out.1 (by simp)
  go_wp2_with (at_builtin; refine append_gates rfl _ _ rfl V3.heap.size _ 0 [] rfl (World.ownsRow_made V3 #[] 0 (Nat.le_refl _) (Nat.zero_le _) rfl) a2 g0.length c2 g0 rfl rfl ((Hc.out.2.2).grown (World.grownBy_alloc V3 _ none)) (by have := HL.out; omega) (World.grownBy.size (World.grownBy_alloc V3 (.cells #[] 47) none)) ?_)
  clear qc fc qz
  intro v' V4 hown' hgrow'
  have hown2 : V4.ownsRow V3.heap.size 47 3 v' g0.length (gateCells g0) := by simpa using hown'
  obtain ⟨awas, cwas, rfl, hrw⟩ := own_gates rfl hown2
  have g : V3.grownBy V4 none := grown_own (World.grownBy_alloc V3 _ none) hgrow' (fun j e => by simp [Value.ownBlock] at e; omega)
  clear hown' hown2 hgrow'
  replace Hc := Lib.hid (Hc.out.grown g)
  replace HBV := Lib.hid (HBV.out.grown g)
  replace HQ1 := Lib.hid (HQ1.out.grown g)
  replace HQ2 := Lib.hid (HQ2.out.grown g)
  replace HRI := Lib.hid (HRI.out.grown g)
  replace HG := Lib.hid (World.grownBy.trans HG.out g)
  clear g
  have Hwas := Lib.hid hrw
  clear hrw
  have qc := Hc.out.1
  have fc := Hc.out.2.1
  go_wp2_with fail
  clear qc fc
  go_at_call 30
  have HPC := Lib.hid (pick_calls refs n ra rc V4 HRI.out (by rw [HRL.out]; omega) hn (ok_le (by have := HL.out; omega) HRO.out))
  obtain ⟨x, hx⟩ : ∃ x, pickL refs n = x := ⟨_, rfl⟩
  rw [hx] at HPC
  have Ox := Lib.hid (show Ok g0 x from by rw [← hx]; exact pick_ok HGD.out.pos HRO.out n)
  have Mx := Lib.hid (show x ≤ 9223372036854775807 from by have := Ox.out.2; have := HL.out; omega)
  have Ex := Lib.hid hx
  clear hx
  refine HPC.out.mono ?_
  rintro e w9 ⟨rfl, hw9⟩
  rw [hw9]
  clear hw9 w9 HPC
  obtain ⟨p, hp⟩ : ∃ p, evalC g0 vals x = p := ⟨_, rfl⟩
  have HPP := Lib.hid hp
  obtain ⟨g1, r1, e1⟩ : ∃ g r, doC g0 refs s1 = (g, r) := ⟨_, _, rfl⟩
  have D1 := do_step HGD.out (by have := HL.out; omega) HRO.out s1
  rw [e1] at D1
  have HE1 := Lib.hid e1
  have G1 := Lib.hid D1.1.good
  have PR1 := Lib.hid D1.1.pre
  have K1 := Lib.hid (show g1.length ≤ g0.length + 3 from D1.2.2)
  have V1E := Lib.hid (show evalC g1 vals x = p from by rw [eval_val (Ox.out.grow D1.1.pre), val_grow D1.1.pre Ox.out, ← eval_val Ox.out, hp])
  have J1 := Lib.hid (show g0.length ≤ g1.length from D1.1.pre.length_le)
  clear e1 D1
  obtain ⟨g2, r2, e2⟩ : ∃ g r, doC g0 refs s2 = (g, r) := ⟨_, _, rfl⟩
  have D2 := do_step HGD.out (by have := HL.out; omega) HRO.out s2
  rw [e2] at D2
  have HE2 := Lib.hid e2
  have G2 := Lib.hid D2.1.good
  have PR2 := Lib.hid D2.1.pre
  have K2 := Lib.hid (show g2.length ≤ g0.length + 3 from D2.2.2)
  have V2E := Lib.hid (show evalC g2 vals x = p from by rw [eval_val (Ox.out.grow D2.1.pre), val_grow D2.1.pre Ox.out, ← eval_val Ox.out, hp])
  have J2 := Lib.hid (show g0.length ≤ g2.length from D2.1.pre.length_le)
  clear e2 D2
  clear hp
  have qc := Hc.out.1
  have fc := Hc.out.2.1
  go_wp2_with fail
  clear qc fc
  go_at_call 23
  refine (eval_at2 HNV.out x HPP.out (by have := HL.out; have := K1.out; have := K2.out; omega) (by rw [HNV.out]; omega) (good_bounds HGD.out (by have := HL.out; have := K1.out; have := K2.out; omega)) Mx.out Hc.out.2.2 HBV.out).mono ?_
  rintro e V5 ⟨rfl, g⟩
  replace Hc := Lib.hid (Hc.out.grown g)
  replace HBV := Lib.hid (HBV.out.grown g)
  replace HQ1 := Lib.hid (HQ1.out.grown g)
  replace HQ2 := Lib.hid (HQ2.out.grown g)
  replace HRI := Lib.hid (HRI.out.grown g)
  replace Hwas := Lib.hid (Hwas.out.grown g)
  replace HG := Lib.hid (World.grownBy.trans HG.out g)
  clear g
  have ⟨y0, y1, y2⟩ := HQ1.out
  have qc := Hc.out.1
  have fc := Hc.out.2.1
  go_wp2_with fail
  clear qc fc
  clear y0 y1 y2
  go_at_call 28
  refine (do_calls refs s1 a2 c2 ra rc V5 HE1.out Hc.out.2.2 HRI.out HGD.out (by have := HL.out; have := K1.out; have := K2.out; omega) (by rw [HRL.out]; omega) (ok_le (by have := HL.out; have := K1.out; have := K2.out; omega) HRO.out) HSS.out.1).mono ?_
  rintro e V6 ⟨a6, c6, rfl, hr, g⟩
  replace Hc := Lib.hid (Hc.out.grown g)
  replace HBV := Lib.hid (HBV.out.grown g)
  replace HQ1 := Lib.hid (HQ1.out.grown g)
  replace HQ2 := Lib.hid (HQ2.out.grown g)
  replace HRI := Lib.hid (HRI.out.grown g)
  replace Hwas := Lib.hid (Hwas.out.grown g)
  replace HG := Lib.hid (World.grownBy.trans HG.out g)
  clear g
  have qc := Hc.out.1
  have fc := Hc.out.2.1
  go_upto_region 9 with fail
  clear qc fc
  have hb := CB.new hr
  have g := World.grownBy_alloc V6 (.cells #[.slice a6 g1.length c6] 25) none
  obtain ⟨V7, hV7⟩ : ∃ z, World.alloc V6 (.cells #[.slice a6 g1.length c6] 25) = z := ⟨_, rfl⟩
  rw [hV7] at g hb ⊢
  clear hV7 hr
  obtain ⟨bd, hbb⟩ : ∃ b, V6.heap.size = b := ⟨_, rfl⟩
  rw [hbb] at hb ⊢
  have Ld := Lib.hid (Nat.le_of_eq hbb)
  have Zd := Lib.hid (Nat.le_trans (World.grownBy.size HG.out) (Nat.le_of_eq hbb))
  clear hbb
  replace Hc := Lib.hid (Hc.out.grown g)
  replace HBV := Lib.hid (HBV.out.grown g)
  replace HQ1 := Lib.hid (HQ1.out.grown g)
  replace HQ2 := Lib.hid (HQ2.out.grown g)
  replace HRI := Lib.hid (HRI.out.grown g)
  replace Hwas := Lib.hid (Hwas.out.grown g)
  replace HG := Lib.hid (World.grownBy.trans HG.out g)
  clear g
  have Hd := Lib.hid hb
  clear hb
  have qc := Hc.out.1
  have fc := Hc.out.2.1
  have qd := Hd.out.1
  have fd := Hd.out.2.1
  have qz := (World.grownBy_alloc V7 (.cells #[] 47) none).cell Hd.out.1 (by simp)
  go_wp2_with (at_builtin; refine append_gates rfl _ _ rfl V7.heap.size _ 0 [] rfl (World.ownsRow_made V7 #[] 0 (Nat.le_refl _) (Nat.zero_le _) rfl) a6 g1.length c6 g1 rfl rfl ((Hd.out.2.2).grown (World.grownBy_alloc V7 _ none)) (by have := HL.out; have := K1.out; omega) (World.grownBy.size (World.grownBy_alloc V7 (.cells #[] 47) none)) ?_)
  clear qc fc qd fd qz
  intro v' V8 hown' hgrow'
  have hown2 : V8.ownsRow V7.heap.size 47 3 v' g1.length (gateCells g1) := by simpa using hown'
  obtain ⟨akept, ckept, rfl, hrw⟩ := own_gates rfl hown2
  have g : V7.grownBy V8 none := grown_own (World.grownBy_alloc V7 _ none) hgrow' (fun j e => by simp [Value.ownBlock] at e; omega)
  clear hown' hown2 hgrow'
  replace Hc := Lib.hid (Hc.out.grown g)
  replace Hd := Lib.hid (Hd.out.grown g)
  replace HBV := Lib.hid (HBV.out.grown g)
  replace HQ1 := Lib.hid (HQ1.out.grown g)
  replace HQ2 := Lib.hid (HQ2.out.grown g)
  replace HRI := Lib.hid (HRI.out.grown g)
  replace Hwas := Lib.hid (Hwas.out.grown g)
  replace HG := Lib.hid (World.grownBy.trans HG.out g)
  clear g
  have Hkept := Lib.hid hrw
  clear hrw
  have ⟨y0, y1, y2⟩ := HQ2.out
  have qc := Hc.out.1
  have fc := Hc.out.2.1
  have qd := Hd.out.1
  have fd := Hd.out.2.1
  go_wp2_with fail
  clear qc fc qd fd
  clear y0 y1 y2
  go_at_call 28
  refine (do_calls refs s2 a2 c2 ra rc V8 HE2.out Hc.out.2.2 HRI.out HGD.out (by have := HL.out; have := K1.out; have := K2.out; omega) (by rw [HRL.out]; omega) (ok_le (by have := HL.out; have := K1.out; have := K2.out; omega) HRO.out) HSS.out.2).mono ?_
  rintro e V9 ⟨a9, c9, rfl, hr, g⟩
  replace Hc := Lib.hid (Hc.out.grown g)
  replace Hd := Lib.hid (Hd.out.grown g)
  replace HBV := Lib.hid (HBV.out.grown g)
  replace HQ1 := Lib.hid (HQ1.out.grown g)
  replace HQ2 := Lib.hid (HQ2.out.grown g)
  replace HRI := Lib.hid (HRI.out.grown g)
  replace Hwas := Lib.hid (Hwas.out.grown g)
  replace Hkept := Lib.hid (Hkept.out.grown g)
  replace HG := Lib.hid (World.grownBy.trans HG.out g)
  clear g
  have qc := Hc.out.1
  have fc := Hc.out.2.1
  have qd := Hd.out.1
  have fd := Hd.out.2.1
  go_upto_region 11 with fail
  clear qc fc qd fd
  have hb := CB.new hr
  have g := World.grownBy_alloc V9 (.cells #[.slice a9 g2.length c9] 25) none
  obtain ⟨V10, hV10⟩ : ∃ z, World.alloc V9 (.cells #[.slice a9 g2.length c9] 25) = z := ⟨_, rfl⟩
  rw [hV10] at g hb ⊢
  clear hV10 hr
  obtain ⟨be, hbb⟩ : ∃ b, V9.heap.size = b := ⟨_, rfl⟩
  rw [hbb] at hb ⊢
  have Le := Lib.hid (Nat.le_of_eq hbb)
  have Ze := Lib.hid (Nat.le_trans (World.grownBy.size HG.out) (Nat.le_of_eq hbb))
  clear hbb
  replace Hc := Lib.hid (Hc.out.grown g)
  replace Hd := Lib.hid (Hd.out.grown g)
  replace HBV := Lib.hid (HBV.out.grown g)
  replace HQ1 := Lib.hid (HQ1.out.grown g)
  replace HQ2 := Lib.hid (HQ2.out.grown g)
  replace HRI := Lib.hid (HRI.out.grown g)
  replace Hwas := Lib.hid (Hwas.out.grown g)
  replace Hkept := Lib.hid (Hkept.out.grown g)
  replace HG := Lib.hid (World.grownBy.trans HG.out g)
  clear g
  have He := Lib.hid hb
  clear hb
  have j1 : decide ((g1.length : Int) < (g0.length : Int)) = false := decide_eq_false (by have := J1.out; omega)
  have j2 : decide ((g2.length : Int) < (g0.length : Int)) = false := decide_eq_false (by have := J2.out; omega)
  have j3 : decide (g1.length < g0.length) = false := decide_eq_false (by have := J1.out; omega)
  have j4 : decide (g2.length < g0.length) = false := decide_eq_false (by have := J2.out; omega)
  have qc := Hc.out.1
  have fc := Hc.out.2.1
  have qd := Hd.out.1
  have fd := Hd.out.2.1
  have qe := He.out.1
  have fe := He.out.2.1
  go_wp2_with fail
  clear qc fc qd fd qe fe
  clear j1 j2 j3 j4
  go_loopg [22] g0.length (fun g s wr => ∃ k : Nat, s = .int .i64 (k : Int) ∧ g = g0.length - k ∧ k ≤ g0.length ∧ V10.grownBy wr none)
  case atStart => exact ⟨0, rfl, rfl, Nat.zero_le _, grown_refl _ _⟩
  case round =>
    obtain ⟨k, rfl, hgk, hk, hgr⟩ := hrel
    have HI := Lib.hid hgk; clear hgk
    obtain ⟨wo, hwo⟩ : ∃ z, z = wr := ⟨_, rfl⟩
    rw [← hwo] at hgr ⊢
    clear hwo
    by_cases hkn : k < g0.length
    · have f1 : decide (k < g0.length) = true := decide_eq_true hkn
      have HGR := Lib.hid hgr; clear hgr
      have hk1 : IntKind.i64.wrap ((k : Int) + 1) = ((k + 1 : Nat) : Int) := by rw [IntWalk.i64_in _ (by have := HL.out; omega)]; omega
      have b0 : (k : Int) < (g0.length : Int) := by omega
      have b1 : (k : Int) < (g1.length : Int) := by have := J1.out; omega
      have b2 : (k : Int) < (g2.length : Int) := by have := J2.out; omega
      have hj0 : (0 : Int) ≤ (k : Int) := by omega
      obtain ⟨g, hg⟩ : ∃ g, g0[k]? = some g := ⟨_, List.getElem?_eq_getElem hkn⟩
      obtain ⟨kc, oc, ec, xc0, xc1, xc2⟩ := (Hc.out.grown HGR.out).2.2.at (hg)
      obtain ⟨kd, od, ed, xd0, xd1, xd2⟩ := (Hd.out.grown HGR.out).2.2.at (pre_at PR1.out hg)
      obtain ⟨ke, oe, ee, xe0, xe1, xe2⟩ := (He.out.grown HGR.out).2.2.at (pre_at PR2.out hg)
      obtain ⟨kwas, owas, ewas, xwas0, xwas1, xwas2⟩ := (Hwas.out.grown HGR.out).at (hg)
      have qc := (Hc.out.grown HGR.out).1
      have qd := (Hd.out.grown HGR.out).1
      have qe := (He.out.grown HGR.out).1
      subst ec ed ee ewas
      have he : ∀ U : World, (Op.equalIn 10000 47 (.agg #[.int .i64 g.1, .int .i64 g.2.1, .int .i64 g.2.2]) (.agg #[.int .i64 g.1, .int .i64 g.2.1, .int .i64 g.2.2])).run Try.prog U = .ok true U := fun U => by rw [eq47 g g U, decide_eq_true rfl]
      clear hg
      go_wp2_with fail
      go_quiet (fail)
      go_wp2_with fail
      go_roundg (g0.length - (k + 1))
      case measure => rw [HI.out]; omega
      case rel => exact ⟨k + 1, rfl, rfl, by omega, World.grownBy.trans HGR.out (grown_drewN wo nq none)⟩
    · have f1 : decide (k < g0.length) = false := decide_eq_false hkn
      replace Hc := Lib.hid (Hc.out.grown hgr)
      replace Hd := Lib.hid (Hd.out.grown hgr)
      replace He := Lib.hid (He.out.grown hgr)
      replace HBV := Lib.hid (HBV.out.grown hgr)
      replace HQ1 := Lib.hid (HQ1.out.grown hgr)
      replace HQ2 := Lib.hid (HQ2.out.grown hgr)
      replace HRI := Lib.hid (HRI.out.grown hgr)
      replace Hwas := Lib.hid (Hwas.out.grown hgr)
      replace Hkept := Lib.hid (Hkept.out.grown hgr)
      replace HG := Lib.hid (World.grownBy.trans HG.out hgr)
      clear hgr
      clear hk hkn HI
      have qc := Hc.out.1
      have fc := Hc.out.2.1
      have qd := Hd.out.1
      have fd := Hd.out.2.1
      have qe := He.out.1
      have fe := He.out.2.1
      go_wp2_with fail
      clear qc fc qd fd qe fe
      clear f1
      go_loopg [23] g1.length (fun g s wr => ∃ k : Nat, s = .int .i64 (k : Int) ∧ g = g1.length - k ∧ k ≤ g1.length ∧ wo.grownBy wr none)
      case atStart => exact ⟨0, rfl, rfl, Nat.zero_le _, grown_refl _ _⟩
      case round =>
        obtain ⟨k, rfl, hgk, hk, hgr⟩ := hrel
        have HI := Lib.hid hgk; clear hgk
        obtain ⟨wp, hwp⟩ : ∃ z, z = wr := ⟨_, rfl⟩
        rw [← hwp] at hgr ⊢
        clear hwp
        by_cases hkn : k < g1.length
        · have f1 : decide (k < g1.length) = true := decide_eq_true hkn
          have HGR := Lib.hid hgr; clear hgr
          have hk1 : IntKind.i64.wrap ((k : Int) + 1) = ((k + 1 : Nat) : Int) := by rw [IntWalk.i64_in _ (by have := HL.out; have := K1.out; omega)]; omega
          have b1 : (k : Int) < (g1.length : Int) := by omega
          have hj0 : (0 : Int) ≤ (k : Int) := by omega
          obtain ⟨g, hg⟩ : ∃ g, g1[k]? = some g := ⟨_, List.getElem?_eq_getElem hkn⟩
          obtain ⟨kd, od, ed, xd0, xd1, xd2⟩ := (Hd.out.grown HGR.out).2.2.at hg
          obtain ⟨kk, ok, ek, xk0, xk1, xk2⟩ := (Hkept.out.grown HGR.out).at hg
          have qd := (Hd.out.grown HGR.out).1
          subst ed ek
          have he : ∀ U : World, (Op.equalIn 10000 47 (.agg #[.int .i64 g.1, .int .i64 g.2.1, .int .i64 g.2.2]) (.agg #[.int .i64 g.1, .int .i64 g.2.1, .int .i64 g.2.2])).run Try.prog U = .ok true U := fun U => by rw [eq47 g g U, decide_eq_true rfl]
          clear hg
          go_wp2_with fail
          go_quiet (fail)
          go_wp2_with fail
          go_roundg (g1.length - (k + 1))
          case measure => rw [HI.out]; omega
          case rel => exact ⟨k + 1, rfl, rfl, by omega, World.grownBy.trans HGR.out (grown_drewN wp nq none)⟩
        · have f1 : decide (k < g1.length) = false := decide_eq_false hkn
          replace Hc := Lib.hid (Hc.out.grown hgr)
          replace Hd := Lib.hid (Hd.out.grown hgr)
          replace He := Lib.hid (He.out.grown hgr)
          replace HBV := Lib.hid (HBV.out.grown hgr)
          replace HQ1 := Lib.hid (HQ1.out.grown hgr)
          replace HQ2 := Lib.hid (HQ2.out.grown hgr)
          replace HRI := Lib.hid (HRI.out.grown hgr)
          replace Hwas := Lib.hid (Hwas.out.grown hgr)
          replace Hkept := Lib.hid (Hkept.out.grown hgr)
          replace HG := Lib.hid (World.grownBy.trans HG.out hgr)
          clear hgr
          clear hk hkn HI
          have qc := Hc.out.1
          have fc := Hc.out.2.1
          have qd := Hd.out.1
          have fd := Hd.out.2.1
          have qe := He.out.1
          have fe := He.out.2.1
          go_wp2_with fail
          clear qc fc qd fd qe fe
          clear f1
          go_at_call 23
          refine (eval_at2 HNV.out x V1E.out (by have := HL.out; have := K1.out; have := K2.out; omega) (by rw [HNV.out]; omega) (good_bounds G1.out (by have := HL.out; have := K1.out; have := K2.out; omega)) Mx.out Hd.out.2.2 HBV.out).mono ?_
          rintro e V11 ⟨rfl, g⟩
          replace Hc := Lib.hid (Hc.out.grown g)
          replace Hd := Lib.hid (Hd.out.grown g)
          replace He := Lib.hid (He.out.grown g)
          replace HBV := Lib.hid (HBV.out.grown g)
          replace HQ1 := Lib.hid (HQ1.out.grown g)
          replace HQ2 := Lib.hid (HQ2.out.grown g)
          replace HRI := Lib.hid (HRI.out.grown g)
          replace Hwas := Lib.hid (Hwas.out.grown g)
          replace Hkept := Lib.hid (Hkept.out.grown g)
          replace HG := Lib.hid (World.grownBy.trans HG.out g)
          clear g
          have qc := Hc.out.1
          have fc := Hc.out.2.1
          have qd := Hd.out.1
          have fd := Hd.out.2.1
          have qe := He.out.1
          have fe := He.out.2.1
          go_wp2_with fail
          clear qc fc qd fd qe fe
          go_at_call 23
          refine (eval_at2 HNV.out x V2E.out (by have := HL.out; have := K1.out; have := K2.out; omega) (by rw [HNV.out]; omega) (good_bounds G2.out (by have := HL.out; have := K1.out; have := K2.out; omega)) Mx.out He.out.2.2 HBV.out).mono ?_
          rintro e V12 ⟨rfl, g⟩
          replace Hc := Lib.hid (Hc.out.grown g)
          replace Hd := Lib.hid (Hd.out.grown g)
          replace He := Lib.hid (He.out.grown g)
          replace HBV := Lib.hid (HBV.out.grown g)
          replace HQ1 := Lib.hid (HQ1.out.grown g)
          replace HQ2 := Lib.hid (HQ2.out.grown g)
          replace HRI := Lib.hid (HRI.out.grown g)
          replace Hwas := Lib.hid (Hwas.out.grown g)
          replace Hkept := Lib.hid (Hkept.out.grown g)
          replace HG := Lib.hid (World.grownBy.trans HG.out g)
          clear g
          have qc := Hc.out.1
          have fc := Hc.out.2.1
          have qd := Hd.out.1
          have fd := Hd.out.2.1
          have qe := He.out.1
          have fe := He.out.2.1
          go_wp2_with fail
          clear qc fc qd fd qe fe
          go_ret
          exact ⟨rfl, HG.out⟩
end Go.Proofs.Ytllljcbdinckgaa
